/- The columns of a node, by the program. -/
import Derived.Test.YtjoinhljdbljaaaValY
import Derived.Test.YtjoinhljdbljaaaValH
namespace Go.Proofs.Ytjoinhljdbljaaa
open Go.RowKit

/-- lists of numbers at the head of a block -/
def KLists (w : World) (F : List Nat) (g : Nat) (cs : List (List Int)) : Prop := g < w.heap.size ∧ ∀ j (h : j < cs.length), ∃ u, w.cell? ⟨g, j, none⟩ = some u ∧ IntsIn w F u cs[j]
theorem KLists.b {w w' : World} {F : List Nat} {g : Nat} {cs : List (List Int)} (h : KLists w F g cs) (hb : Below w.heap.size w w') : KLists w' F g cs :=
  ⟨Nat.lt_of_lt_of_le h.1 hb.size, fun j hj => by
    obtain ⟨u, h1, h2⟩ := h.2 j hj
    exact ⟨u, (hb.cell (p := ⟨g, j, none⟩) h.1).trans h1, h2.step (stepB hb)⟩⟩
def NodeSmall (n : VN) : Prop := n.keys.length ≤ 1048576 ∧ n.cols.length ≤ 1048576 ∧ n.others.length ≤ 1048576 ∧ n.sums.length ≤ 1048576
theorem KLists.left {w : World} {F : List Nat} {g : Nat} {cs : List (List Int)} (h : KLists w F g cs) {x : Int} (h0 : 0 ≤ x) (h1 : x < (cs.length : Int)) : ∃ c : Nat, x = (c : Int) ∧ c < cs.length ∧ cs.getD x.toNat [] = cs.getD c [] ∧ ∃ ao cap, w.cell? ⟨g, c, none⟩ = some (.slice ao (cs.getD c []).length cap) ∧ IntsIn w F (.slice ao (cs.getD c []).length cap) (cs.getD c []) := by
  obtain ⟨u, hu, hi⟩ := h.2 x.toNat (by omega)
  obtain ⟨ao, cap, rfl, _⟩ := hi.open
  have e : cs.getD x.toNat [] = cs[x.toNat]'(by omega) := by simp [show x.toNat < cs.length from by omega]
  exact ⟨x.toNat, by omega, by omega, rfl, ao, cap, by rw [e]; exact hu, by rw [e]; exact hi⟩

set_option maxRecDepth 20000 in
set_option maxHeartbeats 8000000 in
theorem columns_any (w : World) (T : List VT) (F : List Nat) (hF : ∀ k ∈ F, k < w.heap.size) (n : VN) (p : NP) (cs : List (List Int)) (g nn : Nat) (hn : NodeIn w [] p n) (hs : NodeSmall n) (hk : KLists w F g cs) (hcs : cs.length ≤ nn) (_hnn : nn ≤ 12)
    (hcl : ∀ j, (cs.getD j []).length ≤ 12) (hop : 2 ≤ n.op ∧ n.op ≤ 7) (ha : Ahead n cs.length) :
    Calls Try.prog 82 #[nodeV n p, .slice (some ⟨g, 0, none⟩) nn nn] w (PairPost F (NodeOK T cs n) (nodeL T cs n) w) := by
  have hmem : n.left ∈ ins n := by unfold ins; rw [if_neg (by omega)]; split <;> simp
  obtain ⟨hl0, hl1⟩ := ha _ hmem
  obtain ⟨c, hce, hcl2, hcd, ao, cap, x0, hleft⟩ := hk.left hl0 hl1
  have hL12 := hcl c
  have hgw := hk.1
  have HFF : Hid (∀ k ∈ F, k < w.heap.size) := hF
  have HLF : Hid (IntsIn w F (.slice ao (cs.getD c []).length cap) (cs.getD c [])) := hleft
  have HGK : Hid (∀ w v (l : List K) ao2 n cap2, KeysIn w [] v l → l.length ≤ 1048576 → Calls Try.prog 87 #[v, .slice ao2 n cap2] w (BoolPost (ColsOK (colsOf l) n 1) w)) := goodKeys_any
  have hnc : n.left.toNat = c := by omega
  obtain ⟨op, lf, rt, tb, ks, ct, cols, ots, sums⟩ := n
  obtain ⟨kv, cv, ov, sv⟩ := p
  have HN : Hid (NodeIn w [] (kv, cv, ov, sv) ⟨op, lf, rt, tb, ks, ct, cols, ots, sums⟩) := hn
  obtain ⟨hn1, hn2, hn3, hn4⟩ := hn
  obtain ⟨hs1, hs2, hs3, hs4⟩ := hs
  simp only at *
  obtain ⟨ko, kcap, rfl, _, _, g1⟩ := hn1.open
  obtain ⟨co, ccap, rfl, _, _, g2⟩ := hn2.open
  obtain ⟨oo, ocap, rfl, _, _, g3⟩ := hn3.open
  obtain ⟨so, scap, rfl, _, _, g4⟩ := hn4.open
  have HK : Hid (KeysIn w [] (.slice ko ks.length kcap) ks) := hn1
  clear g1 g2 g3 g4 hleft hn1 hn2 hn3 hn4 hF
  subst hce
  unfold nodeV
  simp only
  have HGR : Hid (∀ w v (left : List Int), NodeIn w [] (.slice ko ks.length kcap, .slice co cols.length ccap, .slice oo ots.length ocap, .slice so sums.length scap) ⟨op, (c : Int), rt, tb, ks, ct, cols, ots, sums⟩ → IntsIn w [] v left → (∀ k ∈ F, k < w.heap.size) → Calls Try.prog 89 #[nodeV ⟨op, (c : Int), rt, tb, ks, ct, cols, ots, sums⟩ (.slice ko ks.length kcap, .slice co cols.length ccap, .slice oo ots.length ocap, .slice so sums.length scap), v] w (PairPost F (GroupOK cols sums left) (groupL cols sums left) w)) := fun w v left h1 h2 h3 => grouped_any w _ _ v left h1 h2 hs2 hs4 F h3
  have HJO : Hid (∀ w lv rv (left right : List Int), NodeIn w [] (.slice ko ks.length kcap, .slice co cols.length ccap, .slice oo ots.length ocap, .slice so sums.length scap) ⟨op, (c : Int), rt, tb, ks, ct, cols, ots, sums⟩ → IntsIn w [] lv left → IntsIn w [] rv right → left.length ≤ 100 → right.length ≤ 100 → (∀ k ∈ F, k < w.heap.size) → Calls Try.prog 88 #[nodeV ⟨op, (c : Int), rt, tb, ks, ct, cols, ots, sums⟩ (.slice ko ks.length kcap, .slice co cols.length ccap, .slice oo ots.length ocap, .slice so sums.length scap), lv, rv] w (PairPost F (JoinOK cols ots left right) (left ++ right) w)) := fun w lv rv left right h1 h2 h3 h4 h5 h6 => joined_any w _ _ lv rv left right h1 h2 h3 h4 h5 F h6
  unfold nodeV at HGR HJO
  simp only at HGR HJO
  have hop7 : op = 2 ∨ op = 3 ∨ op = 6 ∨ op = 7 ∨ op = 4 ∨ op = 5 := by omega
  obtain rfl | rfl | rfl | rfl | hop45 := hop7
  · have e1 : NodeOK T cs ⟨2, (c : Int), rt, tb, ks, ct, cols, ots, sums⟩ = ColsOK (colsOf ks) (cs.getD c []).length 1 := by simp [NodeOK, colsLeft]
    have e2 : nodeL T cs ⟨2, (c : Int), rt, tb, ks, ct, cols, ots, sums⟩ = cs.getD c [] := by simp [nodeL, colsLeft]
    rw [e1, e2]
    clear e1 e2 HGR HJO hk hcl ha hmem
    generalize cs.getD c [] = L at *
    go_enter Try.func82, Try.ntmps82
    go_wp2_with (go_at_call 87; refine (HGK.out _ _ ks _ _ _ (HK.out.step (Step.of ((Touch.refl _ _).alloc _))) hs1).mono ?_; rintro e w1 ⟨b1, rfl, hb1, hB1⟩)
    have hB2 := up1 hB1
    go_ret2
    exact ⟨ao, L.length, cap, b1, rfl, hb1, fun _ => HLF.out.step (stepB hB2), hB2⟩
  · have e1 : NodeOK T cs ⟨3, (c : Int), rt, tb, ks, ct, cols, ots, sums⟩ = (ColsOK (colsOf ks) (cs.getD c []).length 1 ∧ 0 ≤ ct ∧ ct ≤ 1000) := by simp [NodeOK, colsLeft]
    have e2 : nodeL T cs ⟨3, (c : Int), rt, tb, ks, ct, cols, ots, sums⟩ = cs.getD c [] := by simp [nodeL, colsLeft]
    rw [e1, e2]
    clear e1 e2 HGR HJO hk hcl ha hmem
    generalize cs.getD c [] = L at *
    by_cases hko : ColsOK (colsOf ks) L.length 1
    · have HKO : Hid (ColsOK (colsOf ks) L.length 1) := hko
      by_cases h0 : 0 ≤ ct
      · have d0 : decide (0 ≤ ct) = true := decide_eq_true h0
        by_cases h1 : ct ≤ 1000
        · have d1 : decide (ct ≤ 1000) = true := decide_eq_true h1
          have HT : Hid (ColsOK (colsOf ks) L.length 1 ∧ 0 ≤ ct ∧ ct ≤ 1000) := ⟨hko, h0, h1⟩
          clear hko
          go_enter Try.func82, Try.ntmps82
          go_wp2_with fail
          first
            | (go_region_with (go_at_call 87; refine (HGK.out _ _ ks _ _ _ (HK.out.step (Step.of (((Touch.refl _ _).alloc _).drew))) hs1).mono ?_; rintro e w1 ⟨b1, rfl, hb1, hB1⟩; obtain rfl : b1 = true := hb1.2 HKO.out; have y5 : w1.cell? ⟨w.heap.size, 5, none⟩ = some (.int .i64 ct) := (hB1.cell (p := ⟨w.heap.size, 5, none⟩) (by simp)).trans (by simp); clear hb1))
            | fail
          all_goals
            have hB2 := up1d hB1
            go_wp2
            go_ret2
            exact PairPost.yes HT.out (HLF.out.step (stepB hB2)) hB2
        · have d1 : decide (ct ≤ 1000) = false := decide_eq_false h1
          have HT : Hid (¬ (ColsOK (colsOf ks) L.length 1 ∧ 0 ≤ ct ∧ ct ≤ 1000)) := fun h => h1 h.2.2
          clear hko
          go_enter Try.func82, Try.ntmps82
          go_wp2_with fail
          first
            | (go_region_with (go_at_call 87; refine (HGK.out _ _ ks _ _ _ (HK.out.step (Step.of (((Touch.refl _ _).alloc _).drew))) hs1).mono ?_; rintro e w1 ⟨b1, rfl, hb1, hB1⟩; obtain rfl : b1 = true := hb1.2 HKO.out; have y5 : w1.cell? ⟨w.heap.size, 5, none⟩ = some (.int .i64 ct) := (hB1.cell (p := ⟨w.heap.size, 5, none⟩) (by simp)).trans (by simp); clear hb1))
            | fail
          all_goals
            have hB2 := up1d hB1
            go_wp2
            go_ret2
            exact PairPost.no HT.out hB2
      · have d0 : decide (0 ≤ ct) = false := decide_eq_false h0
        have HT : Hid (¬ (ColsOK (colsOf ks) L.length 1 ∧ 0 ≤ ct ∧ ct ≤ 1000)) := fun h => h0 h.2.1
        clear hko
        go_enter Try.func82, Try.ntmps82
        go_wp2_with fail
        first
          | (go_region_with (go_at_call 87; refine (HGK.out _ _ ks _ _ _ (HK.out.step (Step.of (((Touch.refl _ _).alloc _).drew))) hs1).mono ?_; rintro e w1 ⟨b1, rfl, hb1, hB1⟩; obtain rfl : b1 = true := hb1.2 HKO.out; have y5 : w1.cell? ⟨w.heap.size, 5, none⟩ = some (.int .i64 ct) := (hB1.cell (p := ⟨w.heap.size, 5, none⟩) (by simp)).trans (by simp); clear hb1))
          | fail
        all_goals
          have hB2 := up1d hB1
          go_wp2
          go_ret2
          exact PairPost.no HT.out hB2
    · have HKO : Hid (¬ ColsOK (colsOf ks) L.length 1) := hko
      have HT : Hid (¬ (ColsOK (colsOf ks) L.length 1 ∧ 0 ≤ ct ∧ ct ≤ 1000)) := fun h => hko h.1
      clear hko
      go_enter Try.func82, Try.ntmps82
      go_wp2_with fail
      first
        | (go_region_with (go_at_call 87; refine (HGK.out _ _ ks _ _ _ (HK.out.step (Step.of (((Touch.refl _ _).alloc _).drew))) hs1).mono ?_; rintro e w1 ⟨b1, rfl, hb1, hB1⟩; obtain rfl : b1 = false := (by rw [← Bool.not_eq_true, hb1]; exact HKO.out); have y5 : w1.cell? ⟨w.heap.size, 5, none⟩ = some (.int .i64 ct) := (hB1.cell (p := ⟨w.heap.size, 5, none⟩) (by simp)).trans (by simp); clear hb1))
        | fail
      all_goals
        have hB2 := up1d hB1
        go_wp2
        go_ret2
        exact PairPost.no HT.out hB2
  · have e1 : NodeOK T cs ⟨6, (c : Int), rt, tb, ks, ct, cols, ots, sums⟩ = True := by simp [NodeOK]
    have e2 : nodeL T cs ⟨6, (c : Int), rt, tb, ks, ct, cols, ots, sums⟩ = cs.getD c [] := by simp [nodeL, colsLeft]
    rw [e1, e2]
    clear e1 e2 HGR HJO hk hcl ha hmem
    generalize cs.getD c [] = L at *
    go_enter Try.func82, Try.ntmps82
    go_wp2
    go_ret2
    exact PairPost.yes trivial (HLF.out.step (stepB ((Below.refl _ _).alloc (Nat.le_refl _) _))) ((Below.refl _ _).alloc (Nat.le_refl _) _)
  · have e1 : NodeOK T cs ⟨7, (c : Int), rt, tb, ks, ct, cols, ots, sums⟩ = GroupOK cols sums (cs.getD c []) := by simp [NodeOK, colsLeft]
    have e2 : nodeL T cs ⟨7, (c : Int), rt, tb, ks, ct, cols, ots, sums⟩ = groupL cols sums (cs.getD c []) := by simp [nodeL, colsLeft]
    rw [e1, e2]
    clear e1 e2 HJO hk hcl ha hmem
    generalize cs.getD c [] = L at *
    go_enter Try.func82, Try.ntmps82
    go_wp2_with (go_at_call 89; refine (HGR.out _ _ L (HN.out.step (Step.of ((Touch.refl _ _).alloc _))) ((HLF.out.step (Step.of ((Touch.refl _ _).alloc _))).less (by simp)) (fun k hk => by have := HFF.out k hk; simp; omega)).mono ?_; rintro e w1 ⟨ao5, m5, cap5, b1, rfl, hb1, hin1, hB1⟩)
    have hB2 := up1 hB1
    go_ret2
    exact ⟨ao5, m5, cap5, b1, rfl, hb1, hin1, hB2⟩
  · have hmr : rt ∈ ins ⟨op, (c : Int), rt, tb, ks, ct, cols, ots, sums⟩ := by unfold ins; simp only; rw [if_neg (by omega), if_pos hop45]; simp
    obtain ⟨hr0, hr1⟩ := ha _ hmr
    obtain ⟨d, hde, hdl2, hdd, ro, rcap, x1, hright⟩ := hk.left hr0 hr1
    have hR12 := hcl d
    have HRF : Hid (IntsIn w F (.slice ro (cs.getD d []).length rcap) (cs.getD d [])) := hright
    subst hde
    have e1 : NodeOK T cs ⟨op, (c : Int), (d : Int), tb, ks, ct, cols, ots, sums⟩ = JoinOK cols ots (cs.getD c []) (cs.getD d []) := by
      unfold NodeOK
      simp only [colsLeft, colsRight, Int.toNat_natCast]
      rw [if_neg (by omega), if_neg (by omega), if_neg (by omega), if_pos hop45]
    have e2 : nodeL T cs ⟨op, (c : Int), (d : Int), tb, ks, ct, cols, ots, sums⟩ = cs.getD c [] ++ cs.getD d [] := by
      unfold nodeL
      simp only [colsLeft, colsRight, Int.toNat_natCast]
      rw [if_neg (by omega), if_pos hop45]
    rw [e1, e2]
    clear e1 e2 HGR hk hcl ha hmem hmr hright hcd hdd
    generalize cs.getD c [] = L at *
    generalize cs.getD d [] = R at *
    have hLh : L.length ≤ 100 := by omega
    have hRh : R.length ≤ 100 := by omega
    obtain rfl | rfl := hop45
    all_goals
      go_enter Try.func82, Try.ntmps82
      go_wp2_with fail
      first
        | (go_region_with (go_at_call 88; refine (HJO.out _ _ _ L R (HN.out.step (Step.of (((Touch.refl _ _).alloc _).drew))) ((HLF.out.step (Step.of (((Touch.refl _ _).alloc _).drew))).less (by simp)) ((HRF.out.step (Step.of (((Touch.refl _ _).alloc _).drew))).less (by simp)) hLh hRh (fun k hk => by have := HFF.out k hk; simp; omega)).mono ?_; rintro e w1 ⟨ao5, m5, cap5, b1, rfl, hb1, hin1, hB1⟩))
        | fail
      all_goals
        have hB2 := up1d hB1
        go_wp2
        go_ret2
        exact ⟨ao5, m5, cap5, b1, rfl, hb1, hin1, hB2⟩
end Go.Proofs.Ytjoinhljdbljaaa
