/- The walks of grouped and sums. -/
import Derived.Test.YtjoinhljdbljaaaValE
namespace Go.Proofs.Ytjoinhljdbljaaa
open Go.RowKit

theorem up1 {w w' : World} {o : Obj} (h : Below (w.alloc o).heap.size (w.alloc o) w') : Below w.heap.size w w' := ((Below.refl _ _).alloc (Nat.le_refl _) o).trans (h.mono (by simp))

set_option maxRecDepth 20000 in
set_option maxHeartbeats 2000000 in
theorem grouped_any (w : World) (n : VN) (p : NP) (v : Value) (left : List Int) (hn : NodeIn w [] p n) (h : IntsIn w [] v left) (hl1 : n.cols.length ≤ 1048576) (hl2 : n.sums.length ≤ 1048576) (F : List Nat) (hF : ∀ k ∈ F, k < w.heap.size) :
    Calls Try.prog 89 #[nodeV n p, v] w (PairPost F (GroupOK n.cols n.sums left) (groupL n.cols n.sums left) w) := by
  obtain ⟨ao, cap, rfl, hc, hm, _⟩ := h.open
  obtain ⟨op, lf, rt, tb, ks, ct, cols, ots, sums⟩ := n
  obtain ⟨kv, cv, ov, sv⟩ := p
  obtain ⟨_, hcv, _, hsv⟩ := hn
  simp only at *
  obtain ⟨ao1, cap1, rfl, hc1, hm1, _⟩ := hcv.open
  obtain ⟨ao2, cap2, rfl, hc2, hm2, _⟩ := hsv.open
  unfold nodeV
  simp only
  have HI : Hid (∀ c ao n cap w, Calls Try.prog 91 #[.int .i64 c, .slice ao n cap] w fun e w' => e = .returned (.bool (isColB c n)) ∧ w' = w) := isColumn_any
  have HSM : Hid (∀ s w, IntsIn w [] (.slice ao left.length cap) left → Calls Try.prog 93 #[.agg #[.int .i64 s.op, .int .i64 s.col], .slice ao left.length cap] w (SumPost s left w)) := fun s w h => summed_any s _ left w h
  have HW0 : Hid (∀ o, Step [] [] w (w.alloc o)) := fun o => Step.of ((Touch.refl _ _).alloc o)
  have HL : Hid (IntsIn w [] (.slice ao left.length cap) left) := h
  have HC : Hid (IntsIn w [] (.slice ao1 cols.length cap1) cols) := hcv
  have HS : Hid (SumsIn w [] (.slice ao2 sums.length cap2) sums) := hsv
  have HFF : Hid (∀ k ∈ F, k < w.heap.size) := hF
  clear h hcv hsv hF
  go_enter Try.func89, Try.ntmps89
  by_cases h44 : cols.length ≤ 4 ∧ sums.length ≤ 4
  · have d1 : decide ((4 : Int) < cols.length) = false := decide_eq_false (by omega)
    have d2 : decide ((4 : Int) < sums.length) = false := decide_eq_false (by omega)
    go_wp2_with fail
    have hl0 := HL.out.step (HW0.out (.cells #[.int .i64 op, .int .i64 lf, .int .i64 rt, .string tb, kv, .int .i64 ct, .slice ao1 cols.length cap1, ov, .slice ao2 sums.length cap2] 102))
    have hc0 := HC.out.step (HW0.out (.cells #[.int .i64 op, .int .i64 lf, .int .i64 rt, .string tb, kv, .int .i64 ct, .slice ao1 cols.length cap1, ov, .slice ao2 sums.length cap2] 102))
    have hs0 := HS.out.step (HW0.out (.cells #[.int .i64 op, .int .i64 lf, .int .i64 rt, .string tb, kv, .int .i64 ct, .slice ao1 cols.length cap1, ov, .slice ao2 sums.length cap2] 102))
    have x8 : (w.alloc (.cells #[.int .i64 op, .int .i64 lf, .int .i64 rt, .string tb, kv, .int .i64 ct, .slice ao1 cols.length cap1, ov, .slice ao2 sums.length cap2] 102)).cell? ⟨w.heap.size, 8, none⟩ = some (.slice ao2 sums.length cap2) := by simp
    have HUP : Hid (∀ w', Below (w.alloc (.cells #[.int .i64 op, .int .i64 lf, .int .i64 rt, .string tb, kv, .int .i64 ct, .slice ao1 cols.length cap1, ov, .slice ao2 sums.length cap2] 102)).heap.size (w.alloc (.cells #[.int .i64 op, .int .i64 lf, .int .i64 rt, .string tb, kv, .int .i64 ct, .slice ao1 cols.length cap1, ov, .slice ao2 sums.length cap2] 102)) w' → Below w.heap.size w w') := fun w' h => up1 h
    have hlt0 : w.heap.size < (w.alloc (.cells #[.int .i64 op, .int .i64 lf, .int .i64 rt, .string tb, kv, .int .i64 ct, .slice ao1 cols.length cap1, ov, .slice ao2 sums.length cap2] 102)).heap.size := by simp
    generalize (w.alloc (.cells #[.int .i64 op, .int .i64 lf, .int .i64 rt, .string tb, kv, .int .i64 ct, .slice ao1 cols.length cap1, ov, .slice ao2 sums.length cap2] 102)) = W at *
    have HL : Hid (IntsIn W [] (.slice ao left.length cap) left) := hl0
    have HC : Hid (IntsIn W [] (.slice ao1 cols.length cap1) cols) := hc0
    have HS : Hid (SumsIn W [] (.slice ao2 sums.length cap2) sums) := hs0
    clear hl0 hc0 hs0 HW0
    go_loopw [6, 26] (fun o j wr => ∃ k : Nat, k ≤ cols.length ∧ j = .int .i64 k ∧ (∀ i (h : i < cols.length), i < k → InCol cols[i] left) ∧ OwnI wr W.heap.size o ((cols.take k).map (colAt left)) ∧ Below W.heap.size W wr) (fun _ j _ => cols.length - (intOf j).toNat)
    case atStart => exact ⟨0, by omega, rfl, fun i _ h => by omega, OwnI.nil _ _, Below.refl _ _⟩
    case round =>
      obtain ⟨k, hk, rfl, hall, hO, hB⟩ := hrel
      have hsz := hB.size
      by_cases hlt : k < cols.length
      · obtain ⟨b, off, hao, hcell⟩ := (HC.out.step (stepB hB)).cells (by omega)
        subst hao
        have c0 := hcell k hlt
        by_cases hq : InCol cols[k] left
        · have HN : Hid (∀ i (h : i < cols.length), i < k + 1 → InCol cols[i] left) := snoc_all (P := fun q => InCol q left) hlt hall hq
          have HSN : Hid ((cols.take (k + 1)).map (colAt left) = (cols.take k).map (colAt left) ++ [colAt left cols[k]]) := by show _ = _; rw [take_snoc' cols k hlt, List.map_append]; rfl
          have hb := isColB_in hq
          obtain ⟨c, hce, hcl⟩ := hq.nat
          obtain ⟨b2, off2, hao2, hcell2⟩ := (HL.out.step (stepB hB)).cells (by omega)
          subst hao2
          have c1 := hcell2 c hcl
          have hll : ((cols.take k).map (colAt left)).length ≤ 1048576 := by simp; omega
          rw [hce] at c0 hb HSN
          rw [colAt_nat hcl] at HSN
          generalize left[c] = q at *
          generalize (cols.take k).map (colAt left) = S at *
          clear hcell hall hq hcell2
          go_wp2_with (first | (go_at_call 91; refine (HI.out _ _ _ _ _).mono ?_; rintro e w' ⟨rfl, rfl⟩) | (at_builtin; refine irow_append rfl (.tmp 34) (.tmp 39) rfl W.heap.size _ S rfl (hO.alloc _) _ [q] 1 rfl (new_int _ _ _) (by simp; omega) (by simp; omega) ?_; intro v' w5 hO5 hB5))
          go_roundw
          case rel => exact ⟨k + 1, by omega, by go_num, HN.out, by rw [HSN.out]; exact hO5, (hB.alloc hsz _).trans hB5⟩
          case measure => simp [intOf]; omega
        · have HF : Hid (¬ GroupOK cols sums left) := fun h => hq (h.2.2.1 k hlt)
          have hb := isColB_out hq
          generalize cols[k] = q at *
          clear hcell hall hq hO
          go_wp2_with (go_at_call 91; refine (HI.out _ _ _ _ _).mono ?_; rintro e w' ⟨rfl, rfl⟩)
          go_ret2
          exact PairPost.no HF.out (HUP.out _ hB)
      · have HALL : Hid (∀ i (h : i < cols.length), InCol cols[i] left) := fun i hi => hall i hi (by omega)
        rw [List.take_of_length_le (by omega)] at hO
        have HO : Hid (OwnI wr W.heap.size u6 (cols.map (colAt left))) := hO
        have x8' := (hB.cell (p := ⟨w.heap.size, 8, none⟩) hlt0).trans x8
        clear hall hO x8
        go_wp2_with fail
        go_loopw [6, 45] (fun o j wz => ∃ k : Nat, k ≤ sums.length ∧ j = .int .i64 k ∧ (∀ i (h : i < sums.length), i < k → SumOK sums[i] left) ∧ OwnI wz W.heap.size o (cols.map (colAt left) ++ (sums.take k).map (sumK left)) ∧ Below W.heap.size W wz) (fun _ j _ => sums.length - (intOf j).toNat)
        case atStart => exact ⟨0, by omega, rfl, fun i _ h => by omega, by rw [List.take_zero, List.map_nil, List.append_nil]; exact HO.out, hB⟩
        case round =>
          obtain ⟨k2, hk2, rfl, hall2, hO2, hB2⟩ := hrel
          have hsz2 := hB2.size
          clear hB hsz x8'
          by_cases hlt2 : k2 < sums.length
          · obtain ⟨b, off, hao, hcell⟩ := (HS.out.step (stepB hB2)).cells (by omega)
            subst hao
            obtain ⟨c0, c1⟩ := hcell k2 hlt2
            have HSN : Hid (cols.map (colAt left) ++ (sums.take (k2 + 1)).map (sumK left) = cols.map (colAt left) ++ (sums.take k2).map (sumK left) ++ [sumK left sums[k2]]) := by show _ = _; rw [take_snoc' sums k2 hlt2, List.map_append, List.append_assoc]; rfl
            have hll : (cols.map (colAt left) ++ (sums.take k2).map (sumK left)).length ≤ 1048576 := by simp; omega
            have HL2 : Hid (IntsIn wr [] (.slice ao left.length cap) left) := HL.out.step (stepB hB2)
            by_cases hq : SumOK sums[k2] left
            · have HN : Hid (∀ i (h : i < sums.length), i < k2 + 1 → SumOK sums[i] left) := snoc_all (P := fun q => SumOK q left) hlt2 hall2 hq
              have HQ : Hid (SumOK sums[k2] left) := hq
              generalize sums[k2] = q at *
              generalize cols.map (colAt left) ++ (sums.take k2).map (sumK left) = S at *
              clear hcell hall2 hq
              go_wp2_with (first | (go_at_call 93; refine (HSM.out _ _ (HL2.out.step (Step.of ((Touch.refl _ _).alloc _)))).mono ?_; rintro e w4 ⟨kk, bb, rfl, hbb, hkk, hB4⟩; have hbt : bb = true := hbb.2 HQ.out; subst hbt; have hB5 := up1 hB4; have hO4 := hO2.below hB5 (Nat.le_refl _); have hsz4 := hB5.size; have HK : Hid (kk = _) := hkk HQ.out; clear hbb hkk hB4) | (at_builtin; refine irow_append rfl (.tmp 57) (.tmp 59) rfl W.heap.size _ S rfl (hO4.alloc _) _ [kk] 1 rfl (new_int _ _ _) (by simp; omega) (by simp; omega) ?_; intro v' w6 hO6 hB6))
              go_roundw
              case rel => exact ⟨k2 + 1, by omega, by go_num, HN.out, by rw [HSN.out, ← HK.out]; exact hO6, (((hB2.trans (hB5.mono hsz2)).alloc (by omega) _)).trans hB6⟩
              case measure => simp [intOf]; omega
            · have HF : Hid (¬ GroupOK cols sums left) := fun h => hq (h.2.2.2 k2 hlt2)
              have HQ : Hid (¬ SumOK sums[k2] left) := hq
              generalize sums[k2] = q at *
              clear hcell hall2 hq hO2
              go_wp2_with (go_at_call 93; refine (HSM.out _ _ (HL2.out.step (Step.of ((Touch.refl _ _).alloc _)))).mono ?_; rintro e w4 ⟨kk, bb, rfl, hbb, hkk, hB4⟩; have hbt : bb = false := by rw [← Bool.not_eq_true, hbb]; exact HQ.out)
              go_ret2
              exact PairPost.no HF.out (HUP.out _ (hB2.trans ((up1 hB4).mono hsz2)))
          · have HT : Hid (GroupOK cols sums left) := ⟨h44.1, h44.2, HALL.out, fun i hi => hall2 i hi (by omega)⟩
            rw [List.take_of_length_le (by omega)] at hO2
            have hin := hO2.inF (F := F) (fun k hk => Nat.lt_trans (HFF.out k hk) hlt0)
            obtain ⟨ao5, cap5, e5, _, _, _⟩ := hin.open
            subst e5
            have HIN : Hid (IntsIn wr F (.slice ao5 (cols.map (colAt left) ++ sums.map (sumK left)).length cap5) (groupL cols sums left)) := hin
            clear hall2 hO2 hin
            go_wp2
            go_ret2
            exact PairPost.yes HT.out HIN.out (HUP.out _ hB2)
  · have HF : Hid (¬ GroupOK cols sums left) := fun h => h44 ⟨h.1, h.2.1⟩
    go_wp2_with fail
    all_goals first | (exfalso; omega) | skip
    all_goals
      go_ret2
      exact PairPost.no HF.out ((Below.refl _ _).alloc (Nat.le_refl _) _)
end Go.Proofs.Ytjoinhljdbljaaa
