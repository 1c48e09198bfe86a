/- How deep a plan is. -/
import Derived.Test.YtjoinhljdbljaaaValN
namespace Go.Proofs.Ytjoinhljdbljaaa
open Go.RowKit

def dF (d : List Int) (q : Nat) : Int := d.getD q 0
theorem dF_get {d : List Int} {q : Nat} (h : q < d.length) : d[q] = dF d q := by simp [dF, h]
def setAll (d : List Int) (L : List Int) (v : Int) : List Int := L.foldl (fun d x => d.set x.toNat v) d
theorem setAll_len (v : Int) : ∀ (L d : List Int), (setAll d L v).length = d.length
  | [], d => rfl
  | x :: L, d => by
    show (setAll (d.set x.toNat v) L v).length = _
    rw [setAll_len v L]; simp
theorem setAll_get (v : Int) (y : Nat) : ∀ (L d : List Int), (∀ x ∈ L, 0 ≤ x ∧ x.toNat < d.length) → dF (setAll d L v) y = if (y : Int) ∈ L then v else dF d y
  | [], d, _ => by simp [setAll]
  | x :: L, d, h => by
    show dF (setAll (d.set x.toNat v) L v) y = _
    rw [setAll_get v y L _ (fun z hz => by have := h z (by simp [hz]); simpa using this)]
    have hx := h x (by simp)
    by_cases hm : (y : Int) ∈ L
    · simp [hm]
    · by_cases he : (y : Int) = x
      · have : x.toNat = y := by omega
        subst this
        have hy := hx.2
        simp only [List.mem_cons, he, true_or, if_true]
        rw [if_neg (by rw [← he]; exact hm)]
        simp [dF, hy]
      · have : x.toNat ≠ y := by omega
        simp [hm, he, dF, this]
theorem setAll_snoc (d L : List Int) (v : Int) (k : Nat) (h : k < L.length) : setAll d (L.take (k + 1)) v = (setAll d (L.take k) v).set L[k].toNat v := by
  unfold setAll
  rw [take_snoc' L k h, List.foldl_append]; rfl

def DInv (N : List VN) (p : Nat) (d : List Int) (m : Int) : Prop := d.length = N.length ∧ dF d (N.length - 1) = 1 ∧ (∀ q (h : q < N.length), p ≤ q → ∀ x ∈ ins N[q], dF d x.toNat = dF d q + 1) ∧ (∀ q, q < N.length → p ≤ q → dF d q ≤ m) ∧ (m = 1 ∨ ∃ q, q < N.length ∧ p ≤ q ∧ dF d q = m) ∧ (∀ q, 0 ≤ dF d q ∧ dF d q + p ≤ N.length + 1) ∧ 1 ≤ m ∧ m ≤ N.length + 1
theorem DInv.first {N : List VN} (hl : 1 ≤ N.length) : DInv N N.length ((List.replicate N.length 0).set (N.length - 1) 1) 1 := by
  have hg : ∀ q, dF ((List.replicate N.length 0).set (N.length - 1) 1) q = if q = N.length - 1 then 1 else 0 := by
    intro q
    unfold dF
    rw [List.getD_eq_getElem?_getD, List.getElem?_set]
    by_cases h : N.length - 1 = q
    · simp only [h, if_true, List.length_replicate]
      rw [if_pos (by omega)]; rfl
    · rw [if_neg h, if_neg (by omega), List.getElem?_replicate]
      split <;> rfl
  refine ⟨by simp, by rw [hg]; simp, fun q h hq => by omega, fun q h hq => by omega, Or.inl rfl, fun q => ?_, by omega, by omega⟩
  rw [hg]
  split <;> omega
theorem DInv.next {N : List VN} (ha : AheadAll N) (ho : Once N) {p : Nat} (hp : p < N.length) {d : List Int} {m : Int} (h : DInv N (p + 1) d m) : DInv N p (setAll d (ins N[p]) (dF d p + 1)) (max m (dF d p)) := by
  obtain ⟨h1, h2, h3, h4, h5, h6, h7, h8⟩ := h
  have hL : ∀ x ∈ ins N[p], 0 ≤ x ∧ x.toNat < d.length := fun x hx => by have := ha p hp x hx; omega
  have hLp : ∀ x ∈ ins N[p], 0 ≤ x ∧ x < (p : Int) := fun x hx => ha p hp x hx
  have hg : ∀ y, dF (setAll d (ins N[p]) (dF d p + 1)) y = if (y : Int) ∈ ins N[p] then dF d p + 1 else dF d y := fun y => setAll_get _ y _ _ hL
  have hge : ∀ y, p ≤ y → dF (setAll d (ins N[p]) (dF d p + 1)) y = dF d y := fun y hy => by
    rw [hg, if_neg (fun hm => by have := hLp _ hm; omega)]
  have hp6 := h6 p
  refine ⟨by rw [setAll_len]; exact h1, by rw [hge _ (by omega)]; exact h2, fun q hq hpq x hx => ?_, fun q hq hpq => ?_, ?_, fun q => ?_, by omega, by omega⟩
  · by_cases e : q = p
    · subst e
      rw [hge q (Nat.le_refl _), hg, if_pos]
      have := hLp x hx
      rw [show ((x.toNat : Nat) : Int) = x from by omega]; exact hx
    · rw [hge q hpq, hg, if_neg, h3 q hq (by omega) x hx]
      intro hm
      have hx0 := ha q hq x hx
      rw [show ((x.toNat : Nat) : Int) = x from by omega] at hm
      exact e (asks_one ha ho hq hp hx hm)
  · rw [hge q hpq]
    by_cases e : q = p
    · subst e; omega
    · have := h4 q hq (by omega); omega
  · by_cases hm : m ≤ dF d p
    · exact Or.inr ⟨p, hp, Nat.le_refl _, by rw [hge p (Nat.le_refl _)]; omega⟩
    · rcases h5 with h5 | ⟨q, hq, hpq, h5⟩
      · left; omega
      · exact Or.inr ⟨q, hq, by omega, by rw [hge q (by omega)]; omega⟩
  · rw [hg]
    split
    · omega
    · have := h6 q; omega
theorem DInv.last {N : List VN} {d : List Int} {m : Int} (h : DInv N 0 d m) : DeepRel N (dF d) m := by
  obtain ⟨h1, h2, h3, h4, h5, h6, h7, h8⟩ := h
  refine ⟨h2, fun q hq x hx => h3 q hq (by omega) x hx, fun q hq => h4 q hq (by omega), ?_⟩
  rcases h5 with h5 | ⟨q, hq, _, h5⟩
  · exact Or.inl h5
  · exact Or.inr ⟨q, hq, h5⟩
def DeepPost (P : Prop) (w : World) : Ending → World → Prop := fun e w' => ∃ m : Int, e = .returned (.int .i64 m) ∧ (m ≤ 8 ↔ P) ∧ Below w.heap.size w w'

set_option maxRecDepth 20000 in
set_option maxHeartbeats 4000000 in
theorem deepest_any (w : World) (v : Value) (N : List VN) (h : NodesIn w [] v N) (hl1 : 1 ≤ N.length) (hl : N.length ≤ 12) (ha : AheadAll N) (ho : Once N) :
    Calls Try.prog 80 #[v] w (DeepPost (HighOK N) w) := by
  obtain ⟨i0, hi0, hz0, hz1, hz2⟩ := info_parts info3
  have HI0 : Hid (Try.prog.info? 3 = some i0 ∧ i0.zero = some (.int .i64 0) ∧ i0.size = 1 ∧ i0.bytes = 8) := ⟨hi0, hz0, hz1, hz2⟩
  clear hi0 hz0 hz1 hz2
  obtain ⟨ao, cap, rfl, hc, hm, hx⟩ := h.open
  have HV : Hid (NodesIn w [] (.slice ao N.length cap) N) := h
  have HA : Hid (AheadAll N) := ha
  have HO : Hid (Once N) := ho
  have HD1 : Hid (DInv N N.length ((List.replicate N.length 0).set (N.length - 1) 1) 1) := DInv.first hl1
  clear h hx ha ho
  have HIN : Hid (∀ n p w, Calls Try.prog 86 #[nodeV n p] w (ListPost (ins n) w)) := fun n p w => inputs_any w n p
  obtain ⟨m0, hm0⟩ : ∃ m, N.length = m + 1 := ⟨N.length - 1, by omega⟩
  go_enter Try.func80, Try.ntmps80
  go_wp2_with (at_make; refine wpList_make_full _ rfl (.tmp 10) (.tmp 10) 70 rfl w.heap.size 3 i0 (.int .i64 0) 1 Try.underlying70 HI0.out.1 HI0.out.2.1 HI0.out.2.2.1 .i64 .i64 _ _ N.length rfl rfl (by omega) (by omega) (by rw [HI0.out.2.2.2]; omega) (by unfold maxLen; omega) (Nat.le_refl _) ?_; intro w1 ho1 hg1; have hp1 := PA.made ho1 rfl; have hB1 := (Below.refl w.heap.size w).grown hg1 (Nat.le_refl _) (fun k hk => by simp at hk); clear ho1 hg1; obtain ⟨⟨v0, hv0⟩, hf0⟩ := hp1.place m0 (by omega))
  rw [madeZeros, Nat.mul_one] at hp1
  have hp2 := hp1.set m0 (by simp [ints]; omega) (.int .i64 1)
  rw [← ints_set, show m0 = N.length - 1 from by omega] at hp2
  have HP1 : Hid (PA (w1.setCell ⟨w.heap.size, m0, none⟩ (.int .i64 1)) w.heap.size 3 N.length (ints ((List.replicate N.length 0).set (N.length - 1) 1))) := by
    rw [show m0 = N.length - 1 from by omega]; exact hp2
  clear hp1 hp2 hv0 hf0
  go_loopw [5, 6] (fun mo j wr => ∃ (p : Nat) (z m : Int) (d : List Int), p ≤ N.length ∧ z = (p : Int) - 1 ∧ j = .int .i64 z ∧ mo = .int .i64 m ∧ DInv N p d m ∧ PA wr w.heap.size 3 N.length (ints d) ∧ Below w.heap.size w wr) (fun _ j _ => (intOf j + 1).toNat)
  case atStart => exact ⟨N.length, (m0 : Int), 1, _, Nat.le_refl _, by omega, rfl, rfl, HD1.out, HP1.out, hB1.setCell (Nat.le_refl _) _⟩
  case round =>
    obtain ⟨p, z, m, d, hp, hz, rfl, rfl, hD, hP, hB⟩ := hrel
    clear HP1 hB1 w1 HD1
    have hsz := hB.size
    by_cases hpos : 0 ≤ z
    · obtain ⟨q, rfl⟩ : ∃ q : Nat, z = (q : Int) := ⟨z.toNat, by omega⟩
      obtain rfl : p = q + 1 := by omega
      have hlt : q < N.length := by omega
      clear hz hpos
      obtain ⟨b, off, hao, hcell⟩ := (HV.out.step (stepB hB)).cells9 (by omega)
      subst hao
      obtain ⟨p, hp, c0, c1, c2, c3, c4, c5, c6, c7, c8⟩ := hcell q hlt
      have HIk : Hid (∀ w, Calls Try.prog 86 #[nodeV N[q] p] w (ListPost (ins N[q]) w)) := fun w => HIN.out _ _ _
      have HL : Hid (∀ i (h : i < (ins N[q]).length), 0 ≤ (ins N[q])[i] ∧ (ins N[q])[i] < (q : Int)) := fun i h => HA.out q hlt _ (List.getElem_mem h)
      have HLm : Hid (∀ x ∈ ins N[q], 0 ≤ x ∧ x < (q : Int)) := fun x h => HA.out q hlt _ h
      have hL2 := ins_len N[q]
      have HDN : Hid (DInv N q (setAll d (ins N[q]) (dF d q + 1)) (max m (dF d q))) := hD.next HA.out HO.out hlt
      have hPl := hP.lt
      have HDL : Hid (d.length = N.length) := hD.1
      have hdl := HDL.out
      have hmb1 : 1 ≤ m := hD.2.2.2.2.2.2.1
      have hmb2 : m ≤ 13 := by have := hD.2.2.2.2.2.2.2; omega
      have hdb1 : 0 ≤ dF d q := (hD.2.2.2.2.2.1 q).1
      have hdb2 : dF d q ≤ 13 := by have := (hD.2.2.2.2.2.1 q).2; omega
      have r0 := hP.cell (ints_get (l := d) (i := q) (by omega))
      rw [dF_get] at r0
      have HP : Hid (PA wr w.heap.size 3 N.length (ints d)) := hP
      clear hcell hP hD hdl
      generalize ins N[q] = L at *
      generalize N[q] = n at *
      generalize hv : dF d q = dq at *
      obtain ⟨op, lf, rt, tb, ks, ct, cols, ots, sums⟩ := n
      obtain ⟨kv, cv, ov, sv⟩ := p
      unfold nodeV at HIk
      obtain ⟨hp1, hp2, hp3, hp4⟩ := hp
      simp only at *
      obtain ⟨ko, kcap, rfl, _, _, g1⟩ := hp1.open
      clear g1
      obtain ⟨co, ccap, rfl, _, _, g2⟩ := hp2.open
      clear g2
      obtain ⟨oo, ocap, rfl, _, _, g3⟩ := hp3.open
      clear g3
      obtain ⟨so, scap, rfl, _, _, g4⟩ := hp4.open
      clear g4 hp1 hp2 hp3 hp4
      have HV2 : Hid (dF d q = dq) := hv
      clear hv
      have HMX : Hid (∃ mx, (if m < dq then dq else m) = mx ∧ mx = max m dq) := ⟨_, rfl, by split <;> omega⟩
      obtain ⟨mx, hmx, hmx2⟩ := HMX.out
      rw [← hmx2] at HDN
      clear HMX hmx2
      go_wp2_with (go_at_call 86; refine (HIk.out _).mono ?_; rintro e w2 ⟨ao2, cap2, rfl, hin, hB2⟩)
      have hB3 : Below wr.heap.size wr w2 := hB2
      have HI : Hid (IntsIn w2 [w.heap.size] (.slice ao2 L.length cap2) L) := hin [w.heap.size] (by simp; omega)
      have HP2 : Hid (PA w2 w.heap.size 3 N.length (ints d)) := HP.out.b hB3
      have hB4 : Below w.heap.size w w2 := bthen hB hB3
      have hsz2 := hB4.size
      clear hin hB2 HP hB3 c0 c1 c2 c3 c4 c5 c6 c7 c8 hmx r0
      go_loopw [35] (fun j wz => ∃ k2 : Nat, k2 ≤ L.length ∧ j = .int .i64 k2 ∧ PA wz w.heap.size 3 N.length (ints (setAll d (L.take k2) (dq + 1))) ∧ Touch [w.heap.size] w2 wz) (fun j _ => L.length - (intOf j).toNat)
      case atStart => exact ⟨0, by omega, rfl, by rw [List.take_zero]; exact HP2.out, Touch.refl _ _⟩
      case round =>
        obtain ⟨k2, hk2, rfl, hP3, hT⟩ := hrel
        by_cases hlt2 : k2 < L.length
        · obtain ⟨b2, off2, hao2, hcell2⟩ := (HI.out.step (F' := [w.heap.size]) ⟨hT, fun k hk => Or.inl hk⟩).cells (by omega)
          subst hao2
          have d0 := hcell2 k2 hlt2
          have hx := HL.out k2 hlt2
          obtain ⟨c, hce⟩ : ∃ c : Nat, L[k2] = (c : Int) := ⟨L[k2].toNat, by omega⟩
          have hlen : (setAll d (L.take k2) (dq + 1)).length = N.length := by rw [setAll_len]; exact HDL.out
          have r0 := hP3.cell (ints_get (l := setAll d (L.take k2) (dq + 1)) (i := q) (by rw [hlen]; exact hlt))
          rw [dF_get, setAll_get _ q _ _ (fun x hx => by have := HLm.out x (List.mem_of_mem_take hx); have := HDL.out; omega), if_neg (fun hm => by have := HLm.out _ (List.mem_of_mem_take hm); omega), HV2.out] at r0
          have HS := setAll_snoc d L (dq + 1) k2 hlt2
          rw [hce] at d0 hx HS
          rw [Int.toNat_natCast] at HS
          obtain ⟨⟨v2, r1⟩, r2⟩ := hP3.place c (by omega)
          have HP4 := hP3.set c (by rw [ints_len, hlen]; omega) (.int .i64 (dq + 1))
          rw [← ints_set, ← HS] at HP4
          have HP5 : Hid (PA (wr.setCell ⟨w.heap.size, c, none⟩ (.int .i64 (dq + 1))) w.heap.size 3 N.length (ints (setAll d (L.take (k2 + 1)) (dq + 1)))) := HP4
          clear HP4 hP3 hcell2 HS hlen hce
          go_wp2
          go_roundw
          case rel => exact ⟨k2 + 1, by omega, by go_num, HP5.out, hT.setCell (by simp) _⟩
          case measure => simp [intOf]; omega
        · rw [List.take_of_length_le (by omega)] at hP3
          have HP6 : Hid (PA wr w.heap.size 3 N.length (ints (setAll d L (dq + 1)))) := hP3
          clear hP3
          go_wp2
          go_roundw
          case rel => exact ⟨q, (q : Int) - 1, mx, _, by omega, rfl, by go_num, rfl, HDN.out, HP6.out, hT.up hB4 (by simp)⟩
          case measure => simp [intOf]
    · obtain rfl : p = 0 := by omega
      have HT : Hid (m ≤ 8 ↔ HighOK N) := deep_iff HA.out HO.out hl1 hD.last
      clear hD
      have hd : decide (0 ≤ z) = false := decide_eq_false hpos
      go_wp2
      go_ret
      exact ⟨m, rfl, HT.out, hB⟩
end Go.Proofs.Ytjoinhljdbljaaa
