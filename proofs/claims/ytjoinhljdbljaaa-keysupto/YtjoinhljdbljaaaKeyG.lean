/- The walk of order.Encode and of spillway.Encode: a row's text by keys, or the empty one. -/
import Derived.Test.YtjoinhljdbljaaaKeyF
import Derived.Deep.RegionWith
import Derived.Deep.RegionHeld3
namespace Go.Proofs.Ytjoinhljdbljaaa
open Go.RowKit

theorem foldl_push (ns : List UInt8) (s : ByteArray) : (ns.map fun b => (b.toNat : Int)).foldl (fun r n => r.push (UInt8.ofNat n.toNat)) s = ⟨s.data ++ ns.toArray⟩ := by
  induction ns generalizing s with
  | nil => simp
  | cons b l ih =>
    simp only [List.map_cons, List.foldl_cons, Int.toNat_natCast]
    rw [ih]
    have : UInt8.ofNat b.toNat = b := by simp
    rw [this]
    congr 1
    show s.data.push b ++ l.toArray = _
    apply Array.ext'
    simp

theorem Tx.drew {w : World} {base : Nat} {v : Value} {bs : List UInt8} (h : Tx w base v bs) : Tx w.drew base v bs := h

theorem tx_string {w : World} {base : Nat} {v : Value} {bs : List UInt8} (h : Tx w base v bs) : (convert 127 9 v).run Try.prog w = .ok (.string ⟨bs.toArray⟩) w := by
  by_cases hne : 1 ≤ bs.length
  · obtain ⟨g, cap, cur, rfl, hb, hc, hm, hs, hh, hx⟩ := h.shape hne
    rw [run_convert_bytes_string w 127 9 5 _ _ _ Try.underlying127 Try.underlying5 Try.underlying9]
    have hl : (loadCells (⟨g, 0, none⟩ : Addr) bs.length).run Try.prog w = .ok ((bs.map fun b => (b.toNat : Int)).map (Value.int .u8)).toArray w := by
      have := run_loadCells_list (P := Try.prog) (w := w) ⟨g, 0, none⟩ (bs.map c8) (fun j u hu => by
        obtain ⟨hj, rfl⟩ := List.getElem?_eq_some_iff.1 hu
        simp only [List.length_map] at hj
        have hadd : (⟨g, 0, none⟩ : Addr).add j = ⟨g, j, none⟩ := by unfold Addr.add; split <;> simp_all
        rw [hadd]
        simp [World.cell?, hh, hx j hj])
      simp only [List.length_map] at this
      rw [List.map_map]
      exact this
    rw [run_bytesToString w ⟨g, 0, none⟩ bs.length cap _ hl, foldl_push]
    congr 2
    congr 1
    show #[] ++ bs.toArray = bs.toArray
    simp
  · have : bs = [] := by cases bs <;> simp_all
    subst this
    rcases h.2 with ⟨rfl, _⟩ | ⟨g, cap, cur, rfl, _⟩
    · rw [run_convert_bytes_string w 127 9 5 _ _ _ Try.underlying127 Try.underlying5 Try.underlying9]
      rfl
    · rw [run_convert_bytes_string w 127 9 5 _ _ _ Try.underlying127 Try.underlying5 Try.underlying9]
      have hl : (loadCells (⟨g, 0, none⟩ : Addr) 0).run Try.prog w = .ok (([] : List Int).map (Value.int .u8)).toArray w :=
        run_loadCells_list (P := Try.prog) (w := w) ⟨g, 0, none⟩ [] (fun j u hu => by simp at hu)
      exact run_bytesToString w ⟨g, 0, none⟩ 0 cap _ hl

abbrev T3 := Value × Value × Value
def V.t (v : V) : T3 := (.int .i64 v.k, .int .i64 v.n, .string v.s)
def K.t (y : K) : T3 := (.int .i64 y.c, .bool y.d, .bool y.l)

/-- A slice of structs of three cells each, which lies below block B. -/
def Lies (w : World) (B : Nat) (v : Value) (l : List T3) : Prop :=
  ∃ ao cap, v = .slice ao l.length cap ∧ l.length ≤ cap ∧ cap ≤ maxLen ∧ (1 ≤ l.length → ∃ b off, ao = some ⟨b, off, none⟩ ∧ b < B ∧
    ∀ i (h : i < l.length), w.cell? ⟨b, off + i * 3, none⟩ = some l[i].1 ∧ w.cell? ⟨b, off + i * 3 + 1, none⟩ = some l[i].2.1 ∧ w.cell? ⟨b, off + i * 3 + 1 + 1, none⟩ = some l[i].2.2)

theorem Lies.below {w w' : World} {B : Nat} {v : Value} {l : List T3} (h : Lies w B v l) (hb : Below B w w') : Lies w' B v l := by
  obtain ⟨ao, cap, rfl, hc, hm, h⟩ := h
  refine ⟨ao, cap, rfl, hc, hm, fun hl => ?_⟩
  obtain ⟨b, off, rfl, hB, hx⟩ := h hl
  refine ⟨b, off, rfl, hB, fun i hi => ?_⟩
  rw [hb.cell (by exact hB), hb.cell (by exact hB), hb.cell (by exact hB)]
  exact hx i hi

theorem Lies.mono {w : World} {B B' : Nat} {v : Value} {l : List T3} (h : Lies w B v l) (hb : B ≤ B') : Lies w B' v l := by
  obtain ⟨ao, cap, rfl, hc, hm, h⟩ := h
  refine ⟨ao, cap, rfl, hc, hm, fun hl => ?_⟩
  obtain ⟨b, off, rfl, hB, hx⟩ := h hl
  exact ⟨b, off, rfl, by omega, hx⟩

def encKeys (xs : List V) (ks : List K) : List UInt8 := ks.flatMap fun y => encValue (xs.getD y.c.toNat ⟨0, 0, ⟨#[]⟩⟩) y

theorem encKeys_snoc (xs : List V) (ks : List K) (y : K) : encKeys xs (ks ++ [y]) = encKeys xs ks ++ encValue (xs.getD y.c.toNat ⟨0, 0, ⟨#[]⟩⟩) y := by simp [encKeys]

theorem encKeys_cons (xs : List V) (ks : List K) (y : K) : encKeys xs (y :: ks) = encValue (xs.getD y.c.toNat ⟨0, 0, ⟨#[]⟩⟩) y ++ encKeys xs ks := by simp [encKeys]

theorem fair_getD {xs : List V} (hf : ∀ v ∈ xs, Fair v) (j : Nat) : Fair (xs.getD j ⟨0, 0, ⟨#[]⟩⟩) := by
  rw [List.getD]
  by_cases h : j < xs.length
  · rw [List.getElem?_eq_getElem h]; exact hf _ (List.getElem_mem h)
  · rw [List.getElem?_eq_none (by omega)]; exact Or.inl ⟨rfl, rfl, rfl⟩

theorem encKeys_len (xs : List V) (hf : ∀ v ∈ xs, Fair v) (ks : List K) : (encKeys xs ks).length ≤ 403 * ks.length := by
  induction ks with
  | nil => simp [encKeys]
  | cons y ks ih =>
    have := encValue_len _ y (fair_getD hf y.c.toNat)
    rw [encKeys_cons, List.length_append, List.length_cons]
    omega

theorem take_snoc' {α : Type} (l : List α) (k : Nat) (h : k < l.length) : l.take (k + 1) = l.take k ++ [l[k]] := List.take_succ_eq_append_getElem h

def good (xs : List V) (y : K) : Prop := 0 ≤ y.c ∧ y.c < xs.length

/-- m: so many keys from the front are of columns; behind them is the end, or one that is of none. -/
def Upto (xs : List V) (ks : List K) (m : Nat) : Prop := m ≤ ks.length ∧ (∀ i (h : i < ks.length), i < m → good xs ks[i]) ∧ (∀ h : m < ks.length, ¬ good xs ks[m])

def encAns (xs : List V) (ks : List K) (m : Nat) : List UInt8 := if m < ks.length then [] else encKeys xs ks

set_option maxHeartbeats 2000000 in
theorem encode_any (w : World) (rv kv : Value) (xs : List V) (ks : List K) (m : Nat) (hr : Lies w w.heap.size rv (xs.map V.t)) (hk : Lies w w.heap.size kv (ks.map K.t))
    (hl : ks.length ≤ 1048576) (hx : xs.length ≤ 1048576) (hf : ∀ v ∈ xs, Fair v) (hm : Upto xs ks m) :
    Calls Try.prog 24 #[rv, kv] w fun e w' => e = .returned (.string ⟨(encAns xs ks m).toArray⟩) ∧ Below w.heap.size w w' := by
  obtain ⟨ao, cap, rfl, hrc, hrm, hrx0⟩ := hr
  obtain ⟨ko, kcap, rfl, hkc, hkm, hkx0⟩ := hk
  obtain ⟨hm1, hm2, hm3⟩ := hm
  simp only [List.length_map] at *
  by_cases hks : 1 ≤ ks.length
  · obtain ⟨kb, koff, rfl, hkB, hkx⟩ := hkx0 hks
    by_cases hxs : 1 ≤ xs.length
    · obtain ⟨rb, roff, rfl, hrB, hrx⟩ := hrx0 hxs
      clear hkx0 hrx0
      go_enter Try.func24, Try.ntmps24
      go_wp2
      go_loopw [5, 10] (fun t i wr => ∃ k : Nat, k ≤ m ∧ i = .int .i64 k ∧ Tx wr w.heap.size t (encKeys xs (ks.take k)) ∧ Below w.heap.size w wr) (fun _ i _ => ks.length - (intOf i).toNat)
      case atStart => exact ⟨0, Nat.zero_le _, rfl, by simpa [encKeys] using Tx.nil _ _, Below.refl _ _⟩
      case round =>
        obtain ⟨k, hk, rfl, hT, hB⟩ := hrel
        by_cases hlt : k < m
        · have hltk : k < ks.length := by omega
          have hy := hm2 k hltk hlt
          unfold good at hy
          have HS : Hid (ks.take (k + 1) = ks.take k ++ [ks[k]]) := take_snoc' ks k hltk
          obtain ⟨hk0, hk1, hk2⟩ := hkx k hltk
          rw [← hB.cell (by exact hkB)] at hk0 hk1 hk2
          simp only [List.getElem_map, K.t] at hk0 hk1 hk2
          have hlen := encKeys_len xs hf (ks.take k)
          rw [List.length_take_of_le (by omega)] at hlen
          clear hm2 hm3
          generalize hyy : ks[k] = y at *
          obtain ⟨c, d, l⟩ := y
          simp only at hy hk0 hk1 hk2
          obtain ⟨j, rfl⟩ : ∃ j : Nat, c = (j : Int) := ⟨c.toNat, by omega⟩
          have hj : j < xs.length := by omega
          obtain ⟨hr0, hr1, hr2⟩ := hrx j hj
          rw [← hB.cell (by exact hrB)] at hr0 hr1 hr2
          simp only [List.getElem_map, V.t] at hr0 hr1 hr2
          have hfx : Fair xs[j] := hf _ (List.getElem_mem _)
          have HG : Hid (xs.getD j ⟨0, 0, ⟨#[]⟩⟩ = xs[j]) := by simp [Hid, List.getD, hj]
          generalize hxx : xs[j] = x at *
          have hsz := hB.size
          clear hkx hrx hyy hxx hy hf
          have hrb : rb < wr.heap.size := by omega
          have hkb : kb < wr.heap.size := by omega
          go_wp2
          go_region_with (go_at_call 57; refine (appendValue_any w.heap.size _ (encKeys xs (ks.take k)) x ⟨j, d, l⟩ _ (by exact (hT.alloc _).drew) (by simp; omega) (by omega) hfx).mono ?_; rintro e w1 ⟨v1, rfl, hT1, hB1⟩)
          all_goals
            go_wp2
            go_roundw
            case rel =>
              refine ⟨k + 1, by omega, by go_num, ?_, ((hB.alloc (by omega) _).drew).trans hB1.below⟩
              rw [HS.out, encKeys_snoc]
              have := HG.out
              simp only [Int.toNat_natCast]
              rw [this]
              exact hT1
            case measure => simp [intOf]; omega
        · obtain rfl : k = m := by omega
          by_cases hend : k < ks.length
          · have hbad := hm3 hend
            have HA : Hid (encAns xs ks k = []) := by simp [Hid, encAns, hend]
            obtain ⟨hk0, hk1, hk2⟩ := hkx k hend
            rw [← hB.cell (by exact hkB)] at hk0 hk1 hk2
            simp only [List.getElem_map, K.t] at hk0 hk1 hk2
            have hsz := hB.size
            have hkb : kb < wr.heap.size := by omega
            clear hm2 hm3 hkx hrx hf
            unfold good at hbad
            generalize ks[k] = y at *
            obtain ⟨c, d, l⟩ := y
            simp only at hbad hk0 hk1 hk2
            by_cases hc : c < 0
            · clear hbad
              go_wp2
              go_ret
              exact ⟨by rw [HA.out]; rfl, hB.alloc (by omega) _⟩
            · have hc2 : (xs.length : Int) ≤ c := by omega
              clear hbad
              go_wp2
              go_ret
              exact ⟨by rw [HA.out]; rfl, hB.alloc (by omega) _⟩
          · have HE : Hid (encAns xs ks k = encKeys xs (ks.take k)) := by simp [Hid, encAns, hend, List.take_of_length_le (show ks.length ≤ k by omega)]
            have hcv := tx_string hT
            clear hkx hrx hm2 hm3 hf
            go_wp2
            go_ret
            refine ⟨?_, hB⟩
            rw [HE.out]
            rfl
    · have hm0 : m = 0 := by
        rcases Nat.eq_zero_or_pos m with h | h
        · exact h
        · have := hm2 0 (by omega) h
          unfold good at this
          omega
      subst hm0
      have HA : Hid (encAns xs ks 0 = []) := by simp only [Hid, encAns]; rw [if_pos (by omega)]
      obtain ⟨hk0, hk1, hk2⟩ := hkx 0 (by omega)
      simp only [List.getElem_map, K.t, Nat.zero_mul, Nat.add_zero] at hk0 hk1 hk2
      have hx0 : xs.length = 0 := by omega
      clear hm2 hm3 hkx hrx0 hkx0 hf
      generalize ks[0] = y at *
      obtain ⟨c, d, l⟩ := y
      simp only at hk0 hk1 hk2
      by_cases hc : c < 0
      · go_enter Try.func24, Try.ntmps24
        go_wp2
        refine wp_loop_rounds 1 ?_
        rw [rounds_succ]
        go_wp2
        go_ret
        exact ⟨by rw [HA.out]; rfl, (Below.refl _ _).alloc (Nat.le_refl _) _⟩
      · have hc2 : 0 ≤ c := by omega
        go_enter Try.func24, Try.ntmps24
        go_wp2
        refine wp_loop_rounds 1 ?_
        rw [rounds_succ]
        go_wp2
        go_ret
        exact ⟨by rw [HA.out]; rfl, (Below.refl _ _).alloc (Nat.le_refl _) _⟩
  · have hks0 : ks = [] := by cases ks <;> simp_all
    subst hks0
    have hcv := tx_string (Tx.nil w w.heap.size)
    have HA : Hid (encAns xs [] m = []) := by simp [Hid, encAns, encKeys]
    clear hm1 hm2 hm3 hkx0 hrx0 hf
    go_enter Try.func24, Try.ntmps24
    go_wp2
    refine wp_loop_rounds 1 ?_
    rw [rounds_succ]
    go_wp2
    go_ret
    exact ⟨by rw [HA.out]; rfl, Below.refl _ _⟩

set_option maxHeartbeats 1000000 in
theorem Encode_any (w : World) (rv kv : Value) (xs : List V) (ks : List K) (m : Nat) (hr : Lies w w.heap.size rv (xs.map V.t)) (hk : Lies w w.heap.size kv (ks.map K.t))
    (hl : ks.length ≤ 1048576) (hx : xs.length ≤ 1048576) (hf : ∀ v ∈ xs, Fair v) (hm : Upto xs ks m) :
    Calls Try.prog 8 #[rv, kv] w fun e w' => e = .returned (.string ⟨(encAns xs ks m).toArray⟩) ∧ Below w.heap.size w w' := by
  have H : Hid (Calls Try.prog 24 #[rv, kv] w fun e w' => e = .returned (.string ⟨(encAns xs ks m).toArray⟩) ∧ Below w.heap.size w w') := encode_any w rv kv xs ks m hr hk hl hx hf hm
  clear hr hk hl hx hf hm
  go_enter Try.func8, Try.ntmps8
  go_wp2_with (go_at_call 24; refine H.out.mono ?_; rintro e w' ⟨rfl, hB⟩)
  go_ret
  exact ⟨rfl, hB⟩
end Go.Proofs.Ytjoinhljdbljaaa
