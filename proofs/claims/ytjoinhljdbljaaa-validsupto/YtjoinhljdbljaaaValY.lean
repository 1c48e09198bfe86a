/- The columns of a Join. -/
import Derived.Test.YtjoinhljdbljaaaValX
import Derived.Test.YtjoinhljdbljaaaValU
namespace Go.Proofs.Ytjoinhljdbljaaa
open Go.RowKit

def JoinAt (cols others left right : List Int) (i : Nat) : Prop := ∀ (h : i < cols.length) (h2 : i < others.length), InCol cols[i] left ∧ InCol others[i] right ∧ colAt left cols[i] = colAt right others[i]
set_option maxRecDepth 20000 in
set_option maxHeartbeats 8000000 in
theorem joined_any (w : World) (n : VN) (p : NP) (lv rv : Value) (left right : List Int) (hn : NodeIn w [] p n) (h1 : IntsIn w [] lv left) (h2 : IntsIn w [] rv right) (hl : left.length ≤ 100) (hr : right.length ≤ 100)
    (F : List Nat) (hF : ∀ k ∈ F, k < w.heap.size) : Calls Try.prog 88 #[nodeV n p, lv, rv] w (PairPost F (JoinOK n.cols n.others left right) (left ++ right) w) := by
  obtain ⟨ao, cap, rfl, hc, hm, g1⟩ := h1.open
  obtain ⟨ao2, cap2, rfl, hc2, hm2, g2⟩ := h2.open
  clear g1 g2
  obtain ⟨op, lf, rt, tb, ks, ct, cols, ots, sums⟩ := n
  obtain ⟨kv, cv, ov, sv⟩ := p
  obtain ⟨hn1, hn2, hn3, hn4⟩ := hn
  simp only at *
  obtain ⟨ko, kcap, rfl, _, _, g1⟩ := hn1.open
  obtain ⟨co, ccap, rfl, _, _, g2⟩ := hn2.open
  obtain ⟨oo, ocap, rfl, _, _, g3⟩ := hn3.open
  obtain ⟨so, scap, rfl, _, _, g4⟩ := hn4.open
  clear g1 g2 g3 g4
  unfold nodeV
  simp only
  have HI : Hid (∀ c ao n cap w, Calls Try.prog 91 #[.int .i64 c, .slice ao n cap] w fun e w' => e = .returned (.bool (isColB c n)) ∧ w' = w) := isColumn_any
  have HCC : Hid (∀ w b lv rv (left right : List Int), w.cell? ⟨b, 0, none⟩ = some lv → w.cell? ⟨b, 1, none⟩ = some rv → IntsIn w [] lv left → IntsIn w [] rv right → 1 ≤ left.length → left.length ≤ 100 → 1 ≤ right.length → right.length ≤ 100 → Calls Try.prog 92 #[.slice (some ⟨b, 0, none⟩) 2 2] w (ListPost (left ++ right) w)) := Concat_any
  have HL : Hid (IntsIn w [] (.slice ao left.length cap) left) := h1
  have HR : Hid (IntsIn w [] (.slice ao2 right.length cap2) right) := h2
  have HC : Hid (IntsIn w [] (.slice co cols.length ccap) cols) := hn2
  have HO : Hid (IntsIn w [] (.slice oo ots.length ocap) ots) := hn3
  have HFF : Hid (∀ k ∈ F, k < w.heap.size) := hF
  clear h1 h2 hn1 hn2 hn3 hn4 hF
  go_enter Try.func88, Try.ntmps88
  by_cases h44 : (1 ≤ cols.length ∧ cols.length ≤ 4) ∧ ots.length = cols.length
  · have d1 : decide ((cols.length : Int) < 1) = false := decide_eq_false (by omega)
    have d2 : decide ((4 : Int) < cols.length) = false := decide_eq_false (by omega)
    have hoc := h44.2
    have HOC : Hid (ots.length = cols.length) := hoc
    have HO2 : Hid (IntsIn w [] (.slice oo cols.length ocap) ots) := by show IntsIn _ _ _ _; rw [← hoc]; exact HO.out
    have HCL : Hid (1 ≤ cols.length ∧ cols.length ≤ 4) := h44.1
    have hcl4 : cols.length ≤ 4 := HCL.out.2
    rw [hoc]
    clear hoc h44 HO
    go_wp2
    go_loopw [33] (fun j wr => ∃ k : Nat, k ≤ cols.length ∧ j = .int .i64 k ∧ (∀ i, i < k → JoinAt cols ots left right i) ∧ Below w.heap.size w wr ∧ w.heap.size < wr.heap.size ∧ wr.cell? ⟨w.heap.size, 7, none⟩ = some (.slice oo cols.length ocap)) (fun j _ => cols.length - (intOf j).toNat)
    case atStart => exact ⟨0, by omega, rfl, fun i h => by omega, (Below.refl _ _).alloc (Nat.le_refl _) _, by simp, by simp⟩
    case round =>
      obtain ⟨k, hk, rfl, hall, hB, hsz, x7⟩ := hrel
      by_cases hlt : k < cols.length
      · obtain ⟨b, off, hao, hcell⟩ := (HC.out.step (stepB hB)).cells (by omega)
        subst hao
        have c0 := hcell k hlt
        obtain ⟨b2, off2, hao2, hcell2⟩ := (HO2.out.step (stepB hB)).cells (by have := HOC.out; omega)
        subst hao2
        have c1 := hcell2 k (by have := HOC.out; omega)
        have HN : Hid (JoinAt cols ots left right k → ∀ i, i < k + 1 → JoinAt cols ots left right i) := by
          intro hq i hi
          by_cases e : i = k
          · subst e; exact hq
          · exact hall i (by omega)
        have HNo : Hid (¬ JoinAt cols ots left right k → ¬ JoinOK cols ots left right) := fun hq h => hq fun a b => h.2.2.2 k a b
        have HJ : Hid (JoinAt cols ots left right k ↔ (InCol cols[k] left ∧ InCol (ots[k]'(by have := HOC.out; omega)) right ∧ colAt left cols[k] = colAt right (ots[k]'(by have := HOC.out; omega)))) := ⟨fun h => h hlt (by have := HOC.out; omega), fun h _ _ => h⟩
        generalize JoinAt cols ots left right k = J at *
        clear hall hcell hcell2
        generalize cols[k] = q1 at *
        generalize ots[k]'_ = q2 at *
        by_cases hq1 : InCol q1 left
        · have i1 := isColB_in hq1
          by_cases hq2 : InCol q2 right
          · have i2 := isColB_in hq2
            obtain ⟨n1, rfl, hn1⟩ := hq1.nat
            obtain ⟨n2, rfl, hn2⟩ := hq2.nat
            obtain ⟨bl, offl, haol, hcelll⟩ := (HL.out.step (stepB hB)).cells (by omega)
            subst haol
            obtain ⟨br, offr, haor, hcellr⟩ := (HR.out.step (stepB hB)).cells (by omega)
            subst haor
            have e1 := hcelll n1 hn1
            have e2 := hcellr n2 hn2
            have HJ2 : Hid (J ↔ left[n1] = right[n2]) := by
              show _ ↔ _
              rw [HJ.out, colAt_nat hn1, colAt_nat hn2]
              exact ⟨fun h => h.2.2, fun h => ⟨hq1, hq2, h⟩⟩
            generalize left[n1] = x1 at *
            generalize right[n2] = x2 at *
            clear hcelll hcellr hq1 hq2 HJ
            by_cases hx : x1 = x2
            · subst hx
              have hd : (x1 != x1) = false := by simp
              have HN2 := HN.out (HJ2.out.2 rfl)
              have HN3 : Hid (∀ i, i < k + 1 → JoinAt cols ots left right i) := HN2
              clear HN2
              go_wp2_with fail
              go_big_quiet ((go_at_call 91; exact Calls.quiet_of_same (HI.out _ _ _ _ _)))
              go_wp2
              go_roundw
              case rel => exact ⟨k + 1, by omega, by go_num, HN3.out, ⟨hB.os, hB.tape, hB.output, hB.size, hB.block⟩, hsz, x7⟩
              case measure => simp [intOf]; omega
            · have hd : (x1 != x2) = true := by simp [hx]
              have HF0 := HNo.out (fun h => hx (HJ2.out.1 h))
              have HF : Hid (¬ JoinOK cols ots left right) := HF0
              clear HF0 hx
              go_wp2_with fail
              go_big_quiet ((go_at_call 91; exact Calls.quiet_of_same (HI.out _ _ _ _ _)))
              go_wp2
              go_ret2
              exact PairPost.no HF.out ⟨hB.os, hB.tape, hB.output, hB.size, hB.block⟩
          · have i2 := isColB_out hq2
            have HF0 := HNo.out (fun h => hq2 (HJ.out.1 h).2.1)
            have HF : Hid (¬ JoinOK cols ots left right) := HF0
            clear HF0 hq1 hq2 HJ
            go_wp2_with fail
            go_big_quiet ((go_at_call 91; exact Calls.quiet_of_same (HI.out _ _ _ _ _)))
            go_wp2
            go_ret2
            exact PairPost.no HF.out ⟨hB.os, hB.tape, hB.output, hB.size, hB.block⟩
        · have i1 := isColB_out hq1
          have HF0 := HNo.out (fun h => hq1 (HJ.out.1 h).1)
          have HF : Hid (¬ JoinOK cols ots left right) := HF0
          clear HF0 hq1 HJ
          go_wp2_with fail
          go_big_quiet ((go_at_call 91; exact Calls.quiet_of_same (HI.out _ _ _ _ _)))
          go_wp2
          go_ret2
          exact PairPost.no HF.out ⟨hB.os, hB.tape, hB.output, hB.size, hB.block⟩
      · have hJ : JoinOK cols ots left right := ⟨HCL.out.1, HCL.out.2, HOC.out, fun i a b => hall i (by omega) a b⟩
        have hJ0 := hJ.2.2.2 0 (by have := HCL.out; omega) (by have := HCL.out; have := HOC.out; omega)
        have hl1 : 1 ≤ left.length := by have := hJ0.1.1; have := hJ0.1.2; omega
        have hr1 : 1 ≤ right.length := by have := hJ0.2.1.1; have := hJ0.2.1.2; omega
        have HJ : Hid (JoinOK cols ots left right) := hJ
        have HL2 : Hid (IntsIn wr [] (.slice ao left.length cap) left) := HL.out.step (stepB hB)
        have HR2 : Hid (IntsIn wr [] (.slice ao2 right.length cap2) right) := HR.out.step (stepB hB)
        clear hall hJ hJ0
        go_wp2_with (go_at_call 92; refine (HCC.out _ wr.heap.size _ _ left right (by simp) (by simp) (HL2.out.step (Step.of ((Touch.refl _ _).alloc _))) (HR2.out.step (Step.of ((Touch.refl _ _).alloc _))) hl1 hl hr1 hr).mono ?_; rintro e w1 ⟨ao5, cap5, rfl, hin, hB1⟩)
        have hB2 := up1 hB1
        have HIN : Hid (IntsIn w1 F (.slice ao5 (left.length + right.length) cap5) (left ++ right)) := by
          show IntsIn _ _ _ _
          rw [← List.length_append]
          exact hin F (fun k hk => by have := HFF.out k hk; have := hB.size; simp; omega)
        go_ret2
        exact PairPost.yes HJ.out HIN.out (bthen hB hB2)
  · have HNO : Hid (¬ JoinOK cols ots left right) := fun h => h44 ⟨⟨h.1, h.2.1⟩, h.2.2.1⟩
    go_wp2
    all_goals first | (exfalso; simp_all; omega) | skip
    all_goals
      go_ret2
      exact PairPost.no HNO.out ((Below.refl _ _).alloc (Nat.le_refl _) _)
end Go.Proofs.Ytjoinhljdbljaaa
