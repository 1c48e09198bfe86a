/- The walk of order.Encode and of spillway.Encode: a row's text by keys, or the empty one. -/
import Derived.Test.YtjoinhljdbljaaaGreatOKeyAToOKeyF
import Derived.Deep.RegionWith
import Derived.Deep.RegionHeld3
namespace Go.Proofs.YtjoinhljdbljaaaGreat.Old
open Go.RowKit

theorem foldl_push (ns : List UInt8) (s : ByteArray) : (ns.map fun b => (b.toNat : Int)).foldl (fun r n => r.push (UInt8.ofNat n.toNat)) s = ⟨s.data ++ ns.toArray⟩ := by
  induction ns generalizing s with
  | nil => simp
  | cons b l ih =>
    simp only [List.map_cons, List.foldl_cons, Int.toNat_natCast]
    rw [ih]
    have : UInt8.ofNat b.toNat = b := by simp
    rw [this]
    congr 1
    show s.data.push b ++ l.toArray = _
    apply Array.ext'
    simp

theorem Tx.drew {w : World} {base : Nat} {v : Value} {bs : List UInt8} (h : Tx w base v bs) : Tx w.drew base v bs := h

theorem tx_string {w : World} {base : Nat} {v : Value} {bs : List UInt8} (h : Tx w base v bs) : (convert 172 9 v).run Tryz.prog w = .ok (.string ⟨bs.toArray⟩) w := by
  by_cases hne : 1 ≤ bs.length
  · obtain ⟨g, cap, cur, rfl, hb, hc, hm, hs, hh, hx⟩ := h.shape hne
    rw [run_convert_bytes_string w 172 9 5 _ _ _ Tryz.underlying172 Tryz.underlying5 Tryz.underlying9]
    have hl : (loadCells (⟨g, 0, none⟩ : Addr) bs.length).run Tryz.prog w = .ok ((bs.map fun b => (b.toNat : Int)).map (Value.int .u8)).toArray w := by
      have := run_loadCells_list (P := Tryz.prog) (w := w) ⟨g, 0, none⟩ (bs.map c8) (fun j u hu => by
        obtain ⟨hj, rfl⟩ := List.getElem?_eq_some_iff.1 hu
        simp only [List.length_map] at hj
        have hadd : (⟨g, 0, none⟩ : Addr).add j = ⟨g, j, none⟩ := by unfold Addr.add; split <;> simp_all
        rw [hadd]
        simp [World.cell?, hh, hx j hj])
      simp only [List.length_map] at this
      rw [List.map_map]
      exact this
    rw [run_bytesToString w ⟨g, 0, none⟩ bs.length cap _ hl, foldl_push]
    congr 2
    congr 1
    show #[] ++ bs.toArray = bs.toArray
    simp
  · have : bs = [] := by cases bs <;> simp_all
    subst this
    rcases h.2 with ⟨rfl, _⟩ | ⟨g, cap, cur, rfl, _⟩
    · rw [run_convert_bytes_string w 172 9 5 _ _ _ Tryz.underlying172 Tryz.underlying5 Tryz.underlying9]
      rfl
    · rw [run_convert_bytes_string w 172 9 5 _ _ _ Tryz.underlying172 Tryz.underlying5 Tryz.underlying9]
      have hl : (loadCells (⟨g, 0, none⟩ : Addr) 0).run Tryz.prog w = .ok (([] : List Int).map (Value.int .u8)).toArray w :=
        run_loadCells_list (P := Tryz.prog) (w := w) ⟨g, 0, none⟩ [] (fun j u hu => by simp at hu)
      exact run_bytesToString w ⟨g, 0, none⟩ 0 cap _ hl

abbrev T3 := Value × Value × Value
def V.t (v : V) : T3 := (.int .i64 v.k, .int .i64 v.n, .string v.s)
def K.t (y : K) : T3 := (.int .i64 y.c, .bool y.d, .bool y.l)

/-- A slice of structs of three cells each, which lies below block B. -/
def Lies (w : World) (B : Nat) (v : Value) (l : List T3) : Prop :=
  ∃ ao cap, v = .slice ao l.length cap ∧ l.length ≤ cap ∧ cap ≤ maxLen ∧ (1 ≤ l.length → ∃ b off, ao = some ⟨b, off, none⟩ ∧ b < B ∧
    ∀ i (h : i < l.length), w.cell? ⟨b, off + i * 3, none⟩ = some l[i].1 ∧ w.cell? ⟨b, off + i * 3 + 1, none⟩ = some l[i].2.1 ∧ w.cell? ⟨b, off + i * 3 + 1 + 1, none⟩ = some l[i].2.2)

theorem Lies.below {w w' : World} {B : Nat} {v : Value} {l : List T3} (h : Lies w B v l) (hb : Below B w w') : Lies w' B v l := by
  obtain ⟨ao, cap, rfl, hc, hm, h⟩ := h
  refine ⟨ao, cap, rfl, hc, hm, fun hl => ?_⟩
  obtain ⟨b, off, rfl, hB, hx⟩ := h hl
  refine ⟨b, off, rfl, hB, fun i hi => ?_⟩
  rw [hb.cell (by exact hB), hb.cell (by exact hB), hb.cell (by exact hB)]
  exact hx i hi

theorem Lies.mono {w : World} {B B' : Nat} {v : Value} {l : List T3} (h : Lies w B v l) (hb : B ≤ B') : Lies w B' v l := by
  obtain ⟨ao, cap, rfl, hc, hm, h⟩ := h
  refine ⟨ao, cap, rfl, hc, hm, fun hl => ?_⟩
  obtain ⟨b, off, rfl, hB, hx⟩ := h hl
  exact ⟨b, off, rfl, by omega, hx⟩

def encKeys (xs : List V) (ks : List K) : List UInt8 := ks.flatMap fun y => encValue (xs.getD y.c.toNat ⟨0, 0, ⟨#[]⟩⟩) y

theorem encKeys_snoc (xs : List V) (ks : List K) (y : K) : encKeys xs (ks ++ [y]) = encKeys xs ks ++ encValue (xs.getD y.c.toNat ⟨0, 0, ⟨#[]⟩⟩) y := by simp [encKeys]

theorem encKeys_cons (xs : List V) (ks : List K) (y : K) : encKeys xs (y :: ks) = encValue (xs.getD y.c.toNat ⟨0, 0, ⟨#[]⟩⟩) y ++ encKeys xs ks := by simp [encKeys]

theorem fair_getD {xs : List V} (hf : ∀ v ∈ xs, Fair v) (j : Nat) : Fair (xs.getD j ⟨0, 0, ⟨#[]⟩⟩) := by
  rw [List.getD]
  by_cases h : j < xs.length
  · rw [List.getElem?_eq_getElem h]; exact hf _ (List.getElem_mem h)
  · rw [List.getElem?_eq_none (by omega)]; exact Or.inl ⟨rfl, rfl, rfl⟩

theorem encKeys_len (xs : List V) (hf : ∀ v ∈ xs, Fair v) (ks : List K) : (encKeys xs ks).length ≤ 403 * ks.length := by
  induction ks with
  | nil => simp [encKeys]
  | cons y ks ih =>
    have := encValue_len _ y (fair_getD hf y.c.toNat)
    rw [encKeys_cons, List.length_append, List.length_cons]
    omega

theorem take_snoc' {α : Type} (l : List α) (k : Nat) (h : k < l.length) : l.take (k + 1) = l.take k ++ [l[k]] := List.take_succ_eq_append_getElem h

def good (xs : List V) (y : K) : Prop := 0 ≤ y.c ∧ y.c < xs.length

/-- m: so many keys from the front are of columns; behind them is the end, or one that is of none. -/
def Upto (xs : List V) (ks : List K) (m : Nat) : Prop := m ≤ ks.length ∧ (∀ i (h : i < ks.length), i < m → good xs ks[i]) ∧ (∀ h : m < ks.length, ¬ good xs ks[m])

def encAns (xs : List V) (ks : List K) (m : Nat) : List UInt8 := if m < ks.length then [] else encKeys xs ks

end Go.Proofs.YtjoinhljdbljaaaGreat.Old
