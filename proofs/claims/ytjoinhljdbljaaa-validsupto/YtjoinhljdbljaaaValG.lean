/- The walk of the document's sums. -/
import Derived.Test.YtjoinhljdbljaaaValF
namespace Go.Proofs.Ytjoinhljdbljaaa
open Go.RowKit

theorem inB_t {n lo hi : Int} (h : lo ≤ n ∧ n ≤ hi) : inB n lo hi = true := by simp [inB, h]
theorem inB_f {n lo hi : Int} (h : ¬ (lo ≤ n ∧ n ≤ hi)) : inB n lo hi = false := by rw [← Bool.not_eq_true]; simpa [inB] using h

theorem new_intH (w : World) (H : Nat) (hH : w.heap.size = H) (q : Int) (t : TypeId) : ∀ j u, (ints [q])[j]? = some u → (w.alloc (.cells #[.int .i64 q] t)).cell? ((⟨H, 0, none⟩ : Addr).add j) = some u := by
  subst hH
  exact new_int w q t

set_option maxRecDepth 20000 in
set_option maxHeartbeats 2000000 in
theorem sums_any (w : World) (n : VN) (p : NP) (v : Value) (left : List Int) (hn : NodeIn w [] p n) (h : IntsIn w [] v left) (hl0 : left.length ≤ 1048576) (hl1 : n.cols.length ≤ 1048576) (hl2 : n.sums.length ≤ 1048576) (F : List Nat) (hF : ∀ k ∈ F, k < w.heap.size) :
    Calls Try.prog 70 #[nodeV n p, v] w (PairPost F (GroupOK n.cols n.sums left) (groupL n.cols n.sums left) w) := by
  obtain ⟨ao, cap, rfl, hc, hm, _⟩ := h.open
  obtain ⟨op, lf, rt, tb, ks, ct, cols, ots, sums⟩ := n
  obtain ⟨kv, cv, ov, sv⟩ := p
  obtain ⟨_, hcv, _, hsv⟩ := hn
  simp only at *
  obtain ⟨ao1, cap1, rfl, hc1, hm1, _⟩ := hcv.open
  obtain ⟨ao2, cap2, rfl, hc2, hm2, _⟩ := hsv.open
  unfold nodeV
  simp only
  have HI : Hid (∀ n lo hi w, Calls Try.prog 48 #[.int .i64 n, .int .i64 lo, .int .i64 hi] w fun e w' => e = .returned (.bool (inB n lo hi)) ∧ w' = w) := in_any
  have HCO : Hid (∀ w, IntsIn w [] (.slice ao1 cols.length cap1) cols → Calls Try.prog 68 #[.slice ao1 cols.length cap1, .int .i64 (left.length : Int), .int .i64 0] w (BoolPost (ColsOK cols left.length 0) w)) := fun w h => cols_any w _ cols left.length 0 h hl1 hl0
  have HW0 : Hid (∀ o, Step [] [] w (w.alloc o)) := fun o => Step.of ((Touch.refl _ _).alloc o)
  have HL : Hid (IntsIn w [] (.slice ao left.length cap) left) := h
  have HC : Hid (IntsIn w [] (.slice ao1 cols.length cap1) cols) := hcv
  have HS : Hid (SumsIn w [] (.slice ao2 sums.length cap2) sums) := hsv
  have HFF : Hid (∀ k ∈ F, k < w.heap.size) := hF
  clear h hcv hsv hF
  go_enter Try.func70, Try.ntmps70
  go_wp2_with fail
  have hl0 := HL.out.step (HW0.out (.cells #[.int .i64 op, .int .i64 lf, .int .i64 rt, .string tb, kv, .int .i64 ct, .slice ao1 cols.length cap1, ov, .slice ao2 sums.length cap2] 106))
  have hc0 := HC.out.step (HW0.out (.cells #[.int .i64 op, .int .i64 lf, .int .i64 rt, .string tb, kv, .int .i64 ct, .slice ao1 cols.length cap1, ov, .slice ao2 sums.length cap2] 106))
  have hs0 := HS.out.step (HW0.out (.cells #[.int .i64 op, .int .i64 lf, .int .i64 rt, .string tb, kv, .int .i64 ct, .slice ao1 cols.length cap1, ov, .slice ao2 sums.length cap2] 106))
  have x8 : (w.alloc (.cells #[.int .i64 op, .int .i64 lf, .int .i64 rt, .string tb, kv, .int .i64 ct, .slice ao1 cols.length cap1, ov, .slice ao2 sums.length cap2] 106)).cell? ⟨w.heap.size, 8, none⟩ = some (.slice ao2 sums.length cap2) := by simp
  have x6 : (w.alloc (.cells #[.int .i64 op, .int .i64 lf, .int .i64 rt, .string tb, kv, .int .i64 ct, .slice ao1 cols.length cap1, ov, .slice ao2 sums.length cap2] 106)).cell? ⟨w.heap.size, 6, none⟩ = some (.slice ao1 cols.length cap1) := by simp
  have HUP : Hid (∀ w', Below (w.alloc (.cells #[.int .i64 op, .int .i64 lf, .int .i64 rt, .string tb, kv, .int .i64 ct, .slice ao1 cols.length cap1, ov, .slice ao2 sums.length cap2] 106)).heap.size (w.alloc (.cells #[.int .i64 op, .int .i64 lf, .int .i64 rt, .string tb, kv, .int .i64 ct, .slice ao1 cols.length cap1, ov, .slice ao2 sums.length cap2] 106)) w' → Below w.heap.size w w') := fun w' h => up1 h
  have hlt0 : w.heap.size < (w.alloc (.cells #[.int .i64 op, .int .i64 lf, .int .i64 rt, .string tb, kv, .int .i64 ct, .slice ao1 cols.length cap1, ov, .slice ao2 sums.length cap2] 106)).heap.size := by simp
  generalize (w.alloc (.cells #[.int .i64 op, .int .i64 lf, .int .i64 rt, .string tb, kv, .int .i64 ct, .slice ao1 cols.length cap1, ov, .slice ao2 sums.length cap2] 106)) = W0 at *
  refine (HCO.out _ hc0).mono ?_
  rintro e W ⟨b0, rfl, hb0, hB0⟩
  have hl1' := hl0.step (stepB hB0)
  have hc1' := hc0.step (stepB hB0)
  have hs1' := hs0.step (stepB hB0)
  have y8 := (hB0.cell (p := ⟨w.heap.size, 8, none⟩) hlt0).trans x8
  have y6 := (hB0.cell (p := ⟨w.heap.size, 6, none⟩) hlt0).trans x6
  have HUP2 : Hid (∀ w', Below W.heap.size W w' → Below w.heap.size w w') := fun w' h => HUP.out _ (bthen hB0 h)
  have hlt1 : w.heap.size < W.heap.size := Nat.lt_of_lt_of_le hlt0 hB0.size
  have HL : Hid (IntsIn W [] (.slice ao left.length cap) left) := hl1'
  have HC : Hid (IntsIn W [] (.slice ao1 cols.length cap1) cols) := hc1'
  have HS : Hid (SumsIn W [] (.slice ao2 sums.length cap2) sums) := hs1'
  clear hl0 hc0 hs0 HW0 x8 x6 HUP hlt0 hB0 hl1' hc1' hs1' HCO
  by_cases h44 : ColsOK cols left.length 0 ∧ sums.length ≤ 4
  · obtain rfl : b0 = true := hb0.2 h44.1
    have d2 : decide ((4 : Int) < sums.length) = false := decide_eq_false (by omega)
    have HCK : Hid (ColsOK cols left.length 0) := h44.1
    have hs4 := h44.2
    have hcc : cols.length ≤ 4 := h44.1.2.2
    clear hb0 h44
    go_wp2_with fail
    go_loopw [6, 8] (fun o j wr => ∃ k : Nat, k ≤ cols.length ∧ j = .int .i64 k ∧ OwnI wr W.heap.size o ((cols.take k).map (colAt left)) ∧ Below W.heap.size W wr) (fun _ j _ => cols.length - (intOf j).toNat)
    case atStart => exact ⟨0, by omega, rfl, OwnI.nil _ _, Below.refl _ _⟩
    case round =>
      obtain ⟨k, hk, rfl, hO, hB⟩ := hrel
      have hsz := hB.size
      have z8 := (hB.cell (p := ⟨w.heap.size, 8, none⟩) hlt1).trans y8
      have z6 := (hB.cell (p := ⟨w.heap.size, 6, none⟩) hlt1).trans y6
      by_cases hlt : k < cols.length
      · obtain ⟨b, off, hao, hcell⟩ := (HC.out.step (stepB hB)).cells (by omega)
        subst hao
        have c0 := hcell k hlt
        have hq : InCol cols[k] left := HCK.out.1 k hlt
        have HSN : Hid ((cols.take (k + 1)).map (colAt left) = (cols.take k).map (colAt left) ++ [colAt left cols[k]]) := by show _ = _; rw [take_snoc' cols k hlt, List.map_append]; rfl
        obtain ⟨c, hce, hcl⟩ := hq.nat
        obtain ⟨b2, off2, hao2, hcell2⟩ := (HL.out.step (stepB hB)).cells (by omega)
        subst hao2
        have c1 := hcell2 c hcl
        have hll : ((cols.take k).map (colAt left)).length ≤ 1048576 := by simp; omega
        rw [hce] at c0 HSN
        rw [colAt_nat hcl] at HSN
        generalize left[c] = q at *
        generalize (cols.take k).map (colAt left) = S at *
        clear hcell hq hcell2 y6 y8
        go_wp2_with (at_builtin; refine irow_append rfl (.tmp 31) (.tmp 40) rfl W.heap.size _ S rfl (hO.alloc _) _ [q] 1 rfl (new_int _ _ _) (by simp; omega) (by simp; omega) ?_; intro v' w5 hO5 hB5)
        go_roundw
        case rel => exact ⟨k + 1, by omega, by go_num, by rw [HSN.out]; exact hO5, (hB.alloc hsz _).trans hB5⟩
        case measure => simp [intOf]; omega
      · rw [List.take_of_length_le (by omega)] at hO
        have HO : Hid (OwnI wr W.heap.size u6 (cols.map (colAt left))) := hO
        clear hO
        go_wp2_with fail
        go_loopw [6, 9] (fun o j wz => ∃ k : Nat, k ≤ sums.length ∧ j = .int .i64 k ∧ (∀ i (h : i < sums.length), i < k → SumOK sums[i] left) ∧ OwnI wz W.heap.size o (cols.map (colAt left) ++ (sums.take k).map (sumK left)) ∧ Below W.heap.size W wz) (fun _ j _ => sums.length - (intOf j).toNat)
        case atStart => exact ⟨0, by omega, rfl, fun i _ h => by omega, by rw [List.take_zero, List.map_nil, List.append_nil]; exact HO.out, hB⟩
        case round =>
          obtain ⟨k2, hk2, rfl, hall2, hO2, hB2⟩ := hrel
          have hsz2 := hB2.size
          clear hB hsz z8 z6
          have z8 := (hB2.cell (p := ⟨w.heap.size, 8, none⟩) hlt1).trans y8
          by_cases hlt2 : k2 < sums.length
          · obtain ⟨b, off, hao, hcell⟩ := (HS.out.step (stepB hB2)).cells (by omega)
            subst hao
            obtain ⟨c0, c1⟩ := hcell k2 hlt2
            have HSN : Hid (cols.map (colAt left) ++ (sums.take (k2 + 1)).map (sumK left) = cols.map (colAt left) ++ (sums.take k2).map (sumK left) ++ [sumK left sums[k2]]) := by show _ = _; rw [take_snoc' sums k2 hlt2, List.map_append, List.append_assoc]; rfl
            have hll : (cols.map (colAt left) ++ (sums.take k2).map (sumK left)).length ≤ 1048576 := by simp; omega
            have HL2 : Hid (IntsIn wr [] (.slice ao left.length cap) left) := HL.out.step (stepB hB2)
            by_cases hq : SumOK sums[k2] left
            · have HN : Hid (∀ i (h : i < sums.length), i < k2 + 1 → SumOK sums[i] left) := snoc_all (P := fun q => SumOK q left) hlt2 hall2 hq
              generalize sums[k2] = q at *
              obtain ⟨sop, scol⟩ := q
              simp only at c0 c1
              obtain ⟨hq1, hq2⟩ := hq
              simp only at hq1 hq2
              obtain ⟨c, hce, hcl⟩ := hq1.nat
              obtain ⟨bl, offl, haol, hcelll⟩ := HL2.out.cells (by omega)
              subst haol
              have c2 := hcelll c hcl
              have hwb : bl < wr.heap.size := World.block_lt_of_cell? wr _ c2
              subst hce
              rw [colAt_nat hcl] at hq2
              have i1 : inB (c : Int) 0 ((left.length : Int) - 1) = true := inB_t (by omega)
              have i2 : inB sop 1 4 = true := inB_t (by omega)
              generalize cols.map (colAt left) ++ (sums.take k2).map (sumK left) = S at *
              have HK : Hid (sumK left ⟨sop, (c : Int)⟩ = if sop = 1 then 1 else left[c]) := by show _ = _; simp only [sumK, colAt_nat hcl]
              generalize left[c] = lc at *
              clear hcell hall2 hcelll hq1 y6 y8
              obtain ⟨rfl, hc0⟩ | rfl | rfl | ⟨rfl, rfl⟩ := hq2
              · have i1b : inB 0 0 ((left.length : Int) - 1) = true := by have := i1; rw [hc0] at this; exact this
                have hz : ((c : Int) != 0) = false := by simp; omega
                go_wp2_with (first | (go_at_call 48; refine (HI.out _ _ _ _).mono ?_; rintro e w' ⟨rfl, rfl⟩) | (at_builtin; refine irow_append rfl (.tmp 93) (.tmp 94) rfl W.heap.size _ S rfl ((hO2.alloc _).alloc _) _ [1] 1 rfl (new_intH _ _ (by simp) _ _) (by simp; omega) (by simp; omega) ?_; intro v' w6 hO6 hB6))
                go_roundw
                case rel => exact ⟨k2 + 1, by omega, by go_num, HN.out, by rw [HSN.out, HK.out]; exact hO6, ((hB2.alloc hsz2 _).alloc (by simp; omega) _).trans hB6⟩
                case measure => simp [intOf]; omega
              · go_wp2_with (first | (go_at_call 48; refine (HI.out _ _ _ _).mono ?_; rintro e w' ⟨rfl, rfl⟩) | (at_builtin; refine irow_append rfl (.tmp 96) (.tmp 102) rfl W.heap.size _ S rfl ((hO2.alloc _).alloc _) _ [lc] 1 rfl (new_intH _ _ (by simp) _ _) (by simp; omega) (by simp; omega) ?_; intro v' w6 hO6 hB6))
                go_roundw
                case rel => exact ⟨k2 + 1, by omega, by go_num, HN.out, by rw [HSN.out, HK.out]; exact hO6, ((hB2.alloc hsz2 _).alloc (by simp; omega) _).trans hB6⟩
                case measure => simp [intOf]; omega
              · go_wp2_with (first | (go_at_call 48; refine (HI.out _ _ _ _).mono ?_; rintro e w' ⟨rfl, rfl⟩) | (at_builtin; refine irow_append rfl (.tmp 96) (.tmp 102) rfl W.heap.size _ S rfl ((hO2.alloc _).alloc _) _ [lc] 1 rfl (new_intH _ _ (by simp) _ _) (by simp; omega) (by simp; omega) ?_; intro v' w6 hO6 hB6))
                go_roundw
                case rel => exact ⟨k2 + 1, by omega, by go_num, HN.out, by rw [HSN.out, HK.out]; exact hO6, ((hB2.alloc hsz2 _).alloc (by simp; omega) _).trans hB6⟩
                case measure => simp [intOf]; omega
              · go_wp2_with (first | (go_at_call 48; refine (HI.out _ _ _ _).mono ?_; rintro e w' ⟨rfl, rfl⟩) | (at_builtin; refine irow_append rfl (.tmp 96) (.tmp 102) rfl W.heap.size _ S rfl ((hO2.alloc _).alloc _) _ [1] 1 rfl (new_intH _ _ (by simp) _ _) (by simp; omega) (by simp; omega) ?_; intro v' w6 hO6 hB6))
                go_roundw
                case rel => exact ⟨k2 + 1, by omega, by go_num, HN.out, by rw [HSN.out, HK.out]; exact hO6, ((hB2.alloc hsz2 _).alloc (by simp; omega) _).trans hB6⟩
                case measure => simp [intOf]; omega
            · have HF : Hid (¬ GroupOK cols sums left) := fun h => hq (h.2.2.2 k2 hlt2)
              generalize sums[k2] = q at *
              obtain ⟨sop, scol⟩ := q
              simp only at c0 c1
              unfold SumOK at hq
              simp only at hq
              clear hcell hall2 hO2 y6 y8
              by_cases hin : InCol scol left
              · obtain ⟨c, hce, hcl⟩ := hin.nat
                obtain ⟨bl, offl, haol, hcelll⟩ := HL2.out.cells (by omega)
                subst haol
                have c2 := hcelll c hcl
                have hwb : bl < wr.heap.size := World.block_lt_of_cell? wr _ c2
                have hq2 := fun h => hq ⟨hin, h⟩
                subst hce
                rw [colAt_nat hcl] at hq2
                have i1 : inB (c : Int) 0 ((left.length : Int) - 1) = true := inB_t (by omega)
                generalize left[c] = lc at *
                clear hq hcelll hin
                by_cases h14 : 1 ≤ sop ∧ sop ≤ 4
                · have i2 : inB sop 1 4 = true := inB_t h14
                  by_cases h1 : sop = 1
                  · subst h1
                    have hc1 : c ≠ 0 := fun e => hq2 (by simp [e])
                    have hz : ((c : Int) != 0) = true := by rw [bne_iff_ne]; omega
                    go_wp2_with (go_at_call 48; refine (HI.out _ _ _ _).mono ?_; rintro e w' ⟨rfl, rfl⟩)
                    go_ret2
                    exact PairPost.no HF.out (HUP2.out _ (hB2.alloc hsz2 _))
                  · have n2 : sop ≠ 2 := fun e => hq2 (Or.inr (Or.inl e))
                    have n3 : sop ≠ 3 := fun e => hq2 (Or.inr (Or.inr (Or.inl e)))
                    have h4 : sop = 4 := by omega
                    subst h4
                    have hlc : (lc != 1) = true := by rw [bne_iff_ne]; exact fun e => hq2 (Or.inr (Or.inr (Or.inr ⟨rfl, e⟩)))
                    go_wp2_with (go_at_call 48; refine (HI.out _ _ _ _).mono ?_; rintro e w' ⟨rfl, rfl⟩)
                    go_ret2
                    exact PairPost.no HF.out (HUP2.out _ (hB2.alloc hsz2 _))
                · have i2 : inB sop 1 4 = false := inB_f h14
                  clear hq2
                  go_wp2_with (go_at_call 48; refine (HI.out _ _ _ _).mono ?_; rintro e w' ⟨rfl, rfl⟩)
                  go_ret2
                  exact PairPost.no HF.out (HUP2.out _ (hB2.alloc hsz2 _))
              · have i1 : inB scol 0 ((left.length : Int) - 1) = false := inB_f (fun h => hin ⟨h.1, by omega⟩)
                clear hq hin
                go_wp2_with (go_at_call 48; refine (HI.out _ _ _ _).mono ?_; rintro e w' ⟨rfl, rfl⟩)
                go_ret2
                exact PairPost.no HF.out (HUP2.out _ (hB2.alloc hsz2 _))
          · have HT : Hid (GroupOK cols sums left) := ⟨hcc, hs4, HCK.out.1, fun i hi => hall2 i hi (by omega)⟩
            rw [List.take_of_length_le (by omega)] at hO2
            have hin := hO2.inF (F := F) (fun k hk => Nat.lt_trans (HFF.out k hk) hlt1)
            obtain ⟨ao5, cap5, e5, _, _, _⟩ := hin.open
            subst e5
            have HIN : Hid (IntsIn wr F (.slice ao5 (cols.map (colAt left) ++ sums.map (sumK left)).length cap5) (groupL cols sums left)) := hin
            clear hall2 hO2 hin
            go_wp2
            go_ret2
            exact PairPost.yes HT.out HIN.out (HUP2.out _ hB2)
  · have HF : Hid (¬ GroupOK cols sums left) := fun h => h44 ⟨⟨h.2.2.1, by omega, h.1⟩, h.2.1⟩
    cases b0
    · go_wp2_with fail
      go_ret2
      exact PairPost.no HF.out (HUP2.out _ (Below.refl _ _))
    · have h4 : ¬ sums.length ≤ 4 := fun h => h44 ⟨hb0.1 rfl, h⟩
      clear h44 hb0
      go_wp2_with fail
      all_goals first | (exfalso; omega) | skip
      go_ret2
      exact PairPost.no HF.out (HUP2.out _ (Below.refl _ _))
end Go.Proofs.Ytjoinhljdbljaaa
