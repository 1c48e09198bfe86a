/- The walk of appendValue: one value's text by one key. -/
import Derived.Test.YtjoinhljdbljaaaKeyE
namespace Go.Proofs.Ytjoinhljdbljaaa
open Go.RowKit

def Fair (v : V) : Prop := (v.k = 0 ∧ v.n = 0 ∧ v.s = ⟨#[]⟩) ∨ Solid v

def encValue (v : V) (y : K) : List UInt8 :=
  if v.k = 0 then (if y.l then [2] else [0]) else 1 :: (if y.d then (encPresent v).map inv else encPresent v)

theorem Solid.pos {v : V} (h : Solid v) : ¬ v.k = 0 := by rcases h with h | h | h <;> omega
theorem encValue_len (v : V) (y : K) (h : Fair v) : (encValue v y).length ≤ 403 := by
  unfold encValue
  rcases h with h | h
  · rw [if_pos h.1]; split <;> simp
  · have := encPresent_len v h
    rw [if_neg h.pos]
    split <;> simp <;> omega

theorem Tx.shape {w : World} {base : Nat} {v : Value} {bs : List UInt8} (h : Tx w base v bs) (hne : 1 ≤ bs.length) :
    ∃ g cap cur, v = .slice (some ⟨g, 0, none⟩) bs.length cap ∧ base ≤ g ∧ bs.length ≤ cap ∧ cap ≤ maxLen ∧ cur.size = cap ∧ w.heap[g]? = some (.cells cur 5 (0, 0)) ∧ ∀ i (hi : i < bs.length), cur[i]? = some (c8 bs[i]) := by
  obtain ⟨h1, h2⟩ := h
  rcases h2 with ⟨_, h0⟩ | ⟨g, cap, cur, rfl, hb, hh, hc, hm, hs, ht⟩
  · omega
  · refine ⟨g, cap, cur, rfl, hb, hc, hm, by simpa using hs, hh, fun i hi => ?_⟩
    have := congrArg (fun l => l[i]?) ht
    simp only [Nat.mul_one, List.getElem?_take, if_pos hi, Array.getElem?_toList, List.getElem?_map, List.getElem?_eq_getElem hi, Option.map_some] at this
    exact this

theorem Tx.mk' {w : World} {base : Nat} {bs : List UInt8} {g cap : Nat} {cur : Array Value} (hb : base ≤ g) (hc : bs.length ≤ cap) (hm : cap ≤ maxLen) (hs : cur.size = cap) (hh : w.heap[g]? = some (.cells cur 5 (0, 0))) (hx : ∀ i (hi : i < bs.length), cur[i]? = some (c8 bs[i])) :
    Tx w base (.slice (some ⟨g, 0, none⟩) bs.length cap) bs := by
  refine ⟨by simp, .inr ⟨g, cap, cur, rfl, hb, hh, hc, hm, by simpa using hs, ?_⟩⟩
  apply List.ext_getElem?
  intro i
  rw [List.getElem?_take]
  by_cases hi : i < bs.length
  · rw [if_pos (by omega)]; simp [hx i hi, hi]
  · rw [if_neg (by omega)]; simp [Nat.not_lt.1 hi]

theorem new_one2 (w : World) (o o' : Obj) (b : UInt8) (n : Int) (hn : n = (b.toNat : Int)) : ∀ j u, ([b].map c8)[j]? = some u → (((w.alloc o).alloc o').alloc (.cells #[.int .u8 n] 5)).cell? (Addr.add ⟨w.heap.size + 1 + 1, 0, none⟩ j) = some u := by
  have := new_one ((w.alloc o).alloc o') b n hn
  simpa using this

theorem Fr.box {B : Nat} {w w' : World} (h : Fr B w w') {k : Nat} {cs : Array Value} {t : TypeId} {f : Nat × Nat} (hb : w.heap[k]? = some (.cells cs t f)) (ht : t ≠ 5) : w'.heap[k]? = some (.cells cs t f) := by
  rw [h.kept k (Array.getElem?_eq_some_iff.1 hb).1 (fun c f' e => ?_), hb]
  rw [hb] at e
  simp only [Option.some.injEq, Obj.cells.injEq] at e
  exact ht e.2.1

theorem box3 {w : World} {k : Nat} {a b c : Value} {t : TypeId} (h : w.heap[k]? = some (.cells #[a, b, c] t (0, 0))) :
    w.cell? ⟨k, 0, none⟩ = some a ∧ w.cell? ⟨k, 1, none⟩ = some b ∧ w.cell? ⟨k, 2, none⟩ = some c := by
  refine ⟨?_, ?_, ?_⟩ <;> simp [World.cell?, h]

theorem boxes2 {B : Nat} {w w1 : World} {a b c x y z : Value} {o : Obj} (h : Fr B (((w.alloc (.cells #[a, b, c] 31)).alloc (.cells #[x, y, z] 35)).alloc o) w1) :
    w1.heap[w.heap.size]? = some (.cells #[a, b, c] 31 (0, 0)) ∧ w1.heap[w.heap.size + 1]? = some (.cells #[x, y, z] 35 (0, 0)) := by
  refine ⟨h.box ?_ (by decide), h.box ?_ (by decide)⟩
  · rw [Below.heap_alloc _ _ _ (by simp; omega), Below.heap_alloc _ _ _ (by simp)]
    exact heap_alloc_new w _
  · rw [Below.heap_alloc _ _ _ (by simp)]
    have := heap_alloc_new (w.alloc (.cells #[a, b, c] 31)) (.cells #[x, y, z] 35)
    simpa using this

theorem Fr.of5 {B g : Nat} {w w' : World} {c : Array Value} {f : Nat × Nat} (h : w.grownBy w' (some g)) (hg : B ≤ g) (hh : w.heap[g]? = some (.cells c 5 f)) (hB : B ≤ w.heap.size) : Fr B w w' :=
  ⟨(Below.refl _ _).grown h hB (fun k hk => by simp at hk; omega), fun k hk hn => h.block k hk (fun e => by simp at e; subst e; exact hn _ _ hh)⟩

theorem turned_all (bs p : List UInt8) (cu cu' : Array Value) (h : ∀ i (hi : i < (bs ++ [1] ++ p).length), cu[i]? = some (c8 (bs ++ [1] ++ p)[i])) (ht : Turned cu (bs.length + 1) p.length p cu') :
    ∀ i (hi : i < (bs ++ 1 :: p.map inv).length), cu'[i]? = some (c8 (bs ++ 1 :: p.map inv)[i]) := by
  intro i hi
  simp only [List.length_append, List.length_cons, List.length_map] at hi
  by_cases h1 : i < bs.length + 1
  · rw [ht.2.2 i (Or.inl h1), h i (by simp; omega)]
    congr 2
    by_cases h2 : i < bs.length
    · rw [List.getElem_append_left (by simp; omega), List.getElem_append_left h2, List.getElem_append_left h2]
    · obtain rfl : i = bs.length := by omega
      simp
  · obtain ⟨j, rfl⟩ : ∃ j, i = bs.length + 1 + j := ⟨i - (bs.length + 1), by omega⟩
    rw [ht.2.1 j (by omega), if_pos (by omega)]
    congr 2
    rw [List.getElem_append_right (by omega)]
    simp only [show bs.length + 1 + j - bs.length = j + 1 from by omega, List.getElem_cons_succ, List.getElem_map]

set_option maxHeartbeats 1000000 in
theorem appendValue_any (base : Nat) (t : Value) (bs : List UInt8) (v : V) (y : K) (w : World) (ho : Tx w base t bs) (hb : base ≤ w.heap.size) (hl : bs.length ≤ 900000000000) (hv : Fair v) :
    Calls Try.prog 57 #[t, v.val, y.val] w fun e w' => ∃ v', e = .returned v' ∧ Tx w' base v' (bs ++ encValue v y) ∧ Fr base w w' := by
  obtain ⟨c, d, l⟩ := y
  rcases hv with ⟨h, _, _⟩ | hv
  · obtain ⟨k, n, s⟩ := v
    simp only at h
    subst h
    simp only [V.val, K.val]
    cases l
    · have E : Hid (encValue ⟨0, n, s⟩ ⟨c, d, false⟩ = [0]) := by simp [Hid, encValue]
      generalize encValue ⟨0, n, s⟩ ⟨c, d, false⟩ = r at *
      go_enter Try.func57, Try.ntmps57
      go_wp2_with (at_builtin; refine tx_append rfl (.tmp 8) (.tmp 9) rfl base _ _ rfl (((ho.alloc _).alloc _).alloc _) _ [0] _ rfl (new_one2 _ _ _ _ _ rfl) (by simp; omega) (by simp; omega) ?_; intro v1 w1 hT1 hB1)
      go_ret
      exact ⟨_, rfl, by rw [E.out]; exact hT1, ((((Fr.refl _ _).alloc hb _).alloc (by simp; omega) _).alloc (by simp; omega) _).trans hB1⟩
    · have E : Hid (encValue ⟨0, n, s⟩ ⟨c, d, true⟩ = [2]) := by simp [Hid, encValue]
      generalize encValue ⟨0, n, s⟩ ⟨c, d, true⟩ = r at *
      go_enter Try.func57, Try.ntmps57
      go_wp2_with (at_builtin; refine tx_append rfl (.tmp 21) (.tmp 22) rfl base _ _ rfl (((ho.alloc _).alloc _).alloc _) _ [2] _ rfl (new_one2 _ _ _ _ _ rfl) (by simp; omega) (by simp; omega) ?_; intro v1 w1 hT1 hB1)
      go_ret
      exact ⟨_, rfl, by rw [E.out]; exact hT1, ((((Fr.refl _ _).alloc hb _).alloc (by simp; omega) _).alloc (by simp; omega) _).trans hB1⟩
  · have hpl := encPresent_len v hv
    have hpp := encPresent_pos v
    have E : Hid (encValue v ⟨c, d, l⟩ = 1 :: (if d then (encPresent v).map inv else encPresent v)) := by simp [Hid, encValue, hv.pos]
    generalize encValue v ⟨c, d, l⟩ = r at *
    have hP := fun base t bs w ho hb hl => appendPresent_any base t bs v w ho hb hl hv
    have hk0 : (v.k != 0) = true := by simp [hv.pos]
    have HP : Hid (∀ base t bs w, Tx w base t bs → base ≤ w.heap.size → bs.length ≤ 1000000000000 → Calls Try.prog 73 #[t, v.val] w fun e w' => ∃ v', e = .returned v' ∧ Tx w' base v' (bs ++ encPresent v) ∧ Fr base w w') := hP
    clear hP hv
    generalize encPresent v = p at *
    obtain ⟨k, n, s⟩ := v
    simp only [V.val, K.val] at *
    cases d
    · go_enter Try.func57, Try.ntmps57
      go_wp2_with (at_builtin; refine tx_append rfl (.tmp 15) (.tmp 16) rfl base _ _ rfl (((ho.alloc _).alloc _).alloc _) _ [1] _ rfl (new_one2 _ _ _ _ _ rfl) (by simp; omega) (by simp; omega) ?_; intro v1 w1 hT1 hB1; obtain ⟨g1, cp1, cu1, hv1, -⟩ := hT1.shape (by simp); simp only [List.length_append, List.length_cons, List.length_nil] at hv1; subst hv1; have hbx := boxes2 hB1; have HX : Hid _ := hbx; obtain ⟨hc0, hc1, hc2⟩ := box3 hbx.1; obtain ⟨hc3, hc4, hc5⟩ := box3 hbx.2; clear hbx)
      refine (HP.out base _ _ _ hT1 (by have := hB1.size; simp at this; omega) (by simp; omega)).mono ?_
      rintro e w2 ⟨v2, rfl, hT2, hB2⟩
      clear hc0 hc1 hc2 hc3 hc4 hc5
      obtain ⟨hc3, hc4, hc5⟩ := box3 (hB2.box HX.2 (by decide))
      go_wp2
      go_ret
      exact ⟨_, rfl, by rw [E.out]; simpa using hT2, (((((Fr.refl _ _).alloc hb _).alloc (by simp; omega) _).alloc (by simp; omega) _).trans hB1).trans hB2⟩
    · go_enter Try.func57, Try.ntmps57
      go_wp2_with (at_builtin; refine tx_append rfl (.tmp 15) (.tmp 16) rfl base _ _ rfl (((ho.alloc _).alloc _).alloc _) _ [1] _ rfl (new_one2 _ _ _ _ _ rfl) (by simp; omega) (by simp; omega) ?_; intro v1 w1 hT1 hB1; obtain ⟨g1, cp1, cu1, hv1, -⟩ := hT1.shape (by simp); simp only [List.length_append, List.length_cons, List.length_nil] at hv1; subst hv1; have hbx := boxes2 hB1; have HX : Hid _ := hbx; obtain ⟨hc0, hc1, hc2⟩ := box3 hbx.1; obtain ⟨hc3, hc4, hc5⟩ := box3 hbx.2; clear hbx)
      refine (HP.out base _ _ _ hT1 (by have := hB1.size; simp at this; omega) (by simp; omega)).mono ?_
      rintro e w2 ⟨v2, rfl, hT2, hB2⟩
      clear hc0 hc1 hc2 hc3 hc4 hc5
      obtain ⟨hc3, hc4, hc5⟩ := box3 (hB2.box HX.2 (by decide))
      obtain ⟨g2, cp2, cu2, hv2, hb2, hlc2, hm2, hs2, hh2, hx2⟩ := hT2.shape (by simp; omega)
      simp only [List.length_append, List.length_cons, List.length_nil] at hv2 hlc2
      subst hv2
      have H2 : Hid (base ≤ g2 ∧ cu2.size = cp2 ∧ w2.heap[g2]? = some (.cells cu2 5 (0, 0)) ∧ ∀ i (hi : i < (bs ++ [1] ++ p).length), cu2[i]? = some (c8 (bs ++ [1] ++ p)[i])) := ⟨hb2, hs2, hh2, hx2⟩
      clear hb2 hs2 hh2 hx2
      unfold maxLen at hm2
      go_wp2_with fail
      refine (turnRound_any g2 (bs.length + 1) _ cu2 p w2 H2.out.2.2.1 (fun i hi => ?hcell) (by omega)).mono ?_
      case hcell =>
        rw [H2.out.2.2.2 (bs.length + 1 + i) (by simp; omega)]
        congr 2
        rw [List.getElem_append_right (by simp)]
        simp
      rintro e w3 ⟨rfl, cu3, hh3, hTu, hG⟩
      have H3 : Hid (w3.heap[g2]? = some (.cells cu3 5 (0, 0))) := hh3
      clear hh3
      go_wp2
      go_ret
      refine ⟨_, rfl, ?_, ((((((Fr.refl _ _).alloc hb _).alloc (by simp; omega) _).alloc (by simp; omega) _).trans hB1).trans hB2).trans (Fr.of5 hG H2.out.1 H2.out.2.2.1 (by have := hB1.size; have := hB2.size; simp at *; omega))⟩
      rw [E.out]
      have h := Tx.mk' (w := w3) (base := base) (bs := bs ++ 1 :: p.map inv) (g := g2) (cap := cp2) (cur := cu3) H2.out.1 (by simp; omega) (by unfold maxLen; omega) (hTu.1.trans H2.out.2.1) H3.out (turned_all bs p cu2 cu3 H2.out.2.2.2 hTu)
      simp only [if_true]
      have e : (bs ++ 1 :: p.map inv).length = bs.length + 1 + p.length := by simp; omega
      rw [e] at h
      exact h
end Go.Proofs.Ytjoinhljdbljaaa
