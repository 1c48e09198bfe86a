/- Rows and tables. -/
import Derived.Test.YtjoinhljdbljaaaValP
namespace Go.Proofs.Ytjoinhljdbljaaa
open Go.RowKit

theorem snoc_pair {r : List V} {ks : List Int} {k : Nat} (hk : k < r.length) (hk2 : k < ks.length) (h : ∀ i (h : i < r.length) (h2 : i < ks.length), i < k → PairOK r[i] ks[i]) (hp : PairOK r[k] ks[k]) : ∀ i (h : i < r.length) (h2 : i < ks.length), i < k + 1 → PairOK r[i] ks[i] := by
  intro i hi hi2 hik
  by_cases e : i = k
  · subst e; exact hp
  · exact h i hi hi2 (by omega)
theorem up1d {w w' : World} {o : Obj} (h : Below ((w.alloc o).drew).heap.size ((w.alloc o).drew) w') : Below w.heap.size w w' := (((Below.refl _ _).alloc (Nat.le_refl _) o).drew).trans (h.mono (by simp))

set_option maxRecDepth 20000 in
set_option maxHeartbeats 4000000 in
theorem goodRows_any (w : World) (v u : Value) (rows : List (List V)) (ks : List Int) (h : RowsIn w [] v rows) (h2 : IntsIn w [] u ks) (hl : rows.length ≤ 1048576) (hk : ks.length ≤ 1048576) :
    Calls Try.prog 76 #[v, u] w (BoolPost (RowsOK rows ks) w) := by
  obtain ⟨ao, cap, rfl, hc, hm, _⟩ := h.open
  obtain ⟨ao2, cap2, rfl, hc2, hm2, _⟩ := h2.open
  have HR : Hid (RowsIn w [] (.slice ao rows.length cap) rows) := h
  have HK : Hid (IntsIn w [] (.slice ao2 ks.length cap2) ks) := h2
  clear h h2
  have HG : Hid (∀ (v : V) w, Calls Try.prog 85 #[.agg #[.int .i64 v.k, .int .i64 v.n, .string v.s]] w fun e w' => e = .returned (.bool (gvalB v)) ∧ Below w.heap.size w w') := goodValue_any
  go_enter Try.func76, Try.ntmps76
  go_wp2
  go_loopw [11] (fun j wr => ∃ k : Nat, k ≤ rows.length ∧ j = .int .i64 k ∧ (∀ i (h : i < rows.length), i < k → RowOK rows[i] ks) ∧ Below w.heap.size w wr) (fun j _ => rows.length - (intOf j).toNat)
  case atStart => exact ⟨0, by omega, rfl, fun i _ h => by omega, Below.refl _ _⟩
  case round =>
    obtain ⟨k, hk, rfl, hall, hB⟩ := hrel
    by_cases hlt : k < rows.length
    · obtain ⟨b, off, hao, hcell⟩ := (HR.out.step (stepB hB)).cells (by omega)
      subst hao
      obtain ⟨rv, c0, hrv⟩ := hcell k hlt
      obtain ⟨ao3, cap3, rfl, hc3, hm3, _⟩ := hrv.open
      have HRV : Hid (ValsIn wr [] (.slice ao3 rows[k].length cap3) rows[k]) := hrv
      have HN : Hid (RowOK rows[k] ks → ∀ i (h : i < rows.length), i < k + 1 → RowOK rows[i] ks) := fun hq => snoc_all (P := fun q => RowOK q ks) hlt hall hq
      have HF : Hid (¬ RowOK rows[k] ks → ¬ RowsOK rows ks) := fun hq h => hq (h k hlt)
      generalize rows[k] = r at *
      clear hcell hrv hall
      by_cases hlen : r.length = ks.length
      · have hd : ((r.length : Int) != (ks.length : Int)) = false := by simp [hlen]
        go_wp2_with fail
        obtain ⟨w1, hw1⟩ : ∃ w1, w1 = wr := ⟨_, rfl⟩
        subst hw1
        go_loopw [22] (fun j wz => ∃ k2 : Nat, k2 ≤ r.length ∧ j = .int .i64 k2 ∧ (∀ i (h : i < r.length) (h2 : i < ks.length), i < k2 → PairOK r[i] ks[i]) ∧ Below w1.heap.size w1 wz) (fun j _ => r.length - (intOf j).toNat)
        case atStart => exact ⟨0, by omega, rfl, fun i _ _ h => by omega, Below.refl _ _⟩
        case round =>
          obtain ⟨k2, hk2, rfl, hall2, hB2⟩ := hrel
          have hB3 := bthen hB hB2
          by_cases hlt2 : k2 < r.length
          · obtain ⟨b3, off3, hao3, hcell3⟩ := (HRV.out.step (stepB hB2)).cells (by omega)
            subst hao3
            obtain ⟨c1, c2, c3⟩ := hcell3 k2 hlt2
            obtain ⟨b4, off4, hao4, hcell4⟩ := (HK.out.step (stepB hB3)).cells (by omega)
            subst hao4
            have c4 := hcell4 k2 (by omega)
            have hb4 : b4 < wr.heap.size := World.block_lt_of_cell? wr _ c4
            have HN2 : Hid (PairOK r[k2] (ks[k2]'(by omega)) → ∀ i (h : i < r.length) (h2 : i < ks.length), i < k2 + 1 → PairOK r[i] ks[i]) := fun hq => snoc_pair hlt2 (by omega) hall2 hq
            have HF2 : Hid (¬ PairOK r[k2] (ks[k2]'(by omega)) → ¬ RowsOK rows ks) := fun hq => HF.out fun h => hq (h.2 k2 hlt2 (by omega))
            generalize r[k2] = q at *
            generalize ks[k2]'_ = kd at *
            obtain ⟨vk, vn, vs⟩ := q
            simp only at c1 c2 c3
            clear hcell3 hcell4 hall2
            by_cases hz : vk = 0
            · have hd0 : (vk != 0) = false := by simp [hz]
              cases hg : gvalB ⟨vk, vn, vs⟩
              · have HF3 := HF2.out (fun h => by have := h.2; rw [hg] at this; cases this)
                have HF4 : Hid (¬ RowsOK rows ks) := HF3
                have HGG : Hid (gvalB ⟨vk, vn, vs⟩ = false) := hg
                clear HF3 HF2 HN2 hz hg
                go_wp2_with fail
                refine wp_region_any (by kernel_rfl) ?_
                change wpAny _ _ _ _ _ _ _ (World.drew _)
                refine wpAny_ready (rs := [0]) (by kernel_rfl) (by simp) ?_
                refine AllReady.cons rfl (fun K hK => ?_) AllReady.nil
                go_simp
                refine hK _ _ ?_; clear hK K
                refine wpAny_ready (rs := [1]) (by kernel_rfl) (by simp) ?_
                refine AllReady.cons rfl (fun K hK => ?_) AllReady.nil
                go_simp
                refine hK _ _ ?_; clear hK K
                refine wpAny_ready (rs := [2]) (by kernel_rfl) (by simp) ?_
                refine AllReady.cons rfl (fun K hK => ?_) AllReady.nil
                go_simp
                refine hK _ _ ?_; clear hK K
                refine wpAny_ready (rs := [3]) (by kernel_rfl) (by simp) ?_
                refine AllReady.cons rfl (fun K hK => ?_) AllReady.nil
                go_simp
                refine hK _ _ ?_; clear hK K
                refine wpAny_take (i := 4) (v := undef) rfl (by kernel_rfl) (by kernel_rfl) (by kernel_rfl) (fun _ _ _ h => h) (Or.inr ⟨by rfl, rfl⟩) ?_
                refine wpAny_take (i := 6) (v := undef) rfl (by kernel_rfl) (by kernel_rfl) (by kernel_rfl) (fun _ _ _ h => h) (Or.inr ⟨by rfl, rfl⟩) ?_
                refine wpAny_take (i := 7) (v := undef) rfl (by kernel_rfl) (by kernel_rfl) (by kernel_rfl) (fun _ _ _ h => h) (Or.inr ⟨by rfl, rfl⟩) ?_
                refine wpAny_take (i := 5) (v := undef) rfl (by kernel_rfl) (by kernel_rfl) (by kernel_rfl) (fun _ _ _ h => h) (Or.inr ⟨by rfl, rfl⟩) ?_
                refine wpAny_take (i := 8) (v := undef) rfl (by kernel_rfl) (by kernel_rfl) (by kernel_rfl) (fun _ _ _ h => h) (Or.inr ⟨by rfl, rfl⟩) ?_
                refine wpAny_take (i := 9) (v := undef) rfl (by kernel_rfl) (by kernel_rfl) (by kernel_rfl) (fun _ _ _ h => h) (Or.inr ⟨by rfl, rfl⟩) ?_
                refine wpAny_take (i := 10) (v := undef) rfl (by kernel_rfl) (by kernel_rfl) (by kernel_rfl) (fun _ _ _ h => h) (Or.inr ⟨by rfl, rfl⟩) ?_
                refine wpAny_ready (rs := [11]) (by kernel_rfl) (by simp) ?_
                refine AllReady.cons rfl (fun K hK => ?_) AllReady.nil
                go_simp
                refine hK _ _ ?_; clear hK K
                refine wpAny_ready (rs := [12]) (by kernel_rfl) (by simp) ?_
                refine AllReady.cons rfl (fun K hK => ?_) AllReady.nil
                go_simp
                refine hK _ _ ?_; clear hK K
                refine wpAny_ready (rs := [13]) (by kernel_rfl) (by simp) ?_
                refine AllReady.cons rfl (fun K hK => ?_) AllReady.nil
                go_simp
                refine hK _ _ ?_; clear hK K
                refine wpAny_ready (rs := [14]) (by kernel_rfl) (by simp) ?_
                refine AllReady.cons rfl (fun K hK => ?_) AllReady.nil
                go_simp
                go_wp2_with (go_at_call 85; refine (HG.out ⟨vk, vn, vs⟩ _).mono ?_; rintro e w5 ⟨rfl, hB5⟩; rw [HGG.out])
                refine wpAny_ready (rs := [15]) (by kernel_rfl) (by simp) ?_
                refine AllReady.cons rfl (fun K hK => ?_) AllReady.nil
                go_simp
                refine hK _ _ ?_; clear hK K
                refine wpAny_ready (rs := [16]) (by kernel_rfl) (by simp) ?_
                refine AllReady.cons rfl (fun K hK => ?_) AllReady.nil
                go_simp
                refine hK _ _ ?_; clear hK K
                refine wpAny_done (by kernel_rfl) ?_ _
                have hB6 := up1d hB5
                go_wp2
                go_ret
                exact BoolPost.no HF4.out (bthen hB3 hB6)
              · have HN3 := HN2.out ⟨Or.inl hz, hg⟩
                have HN4 : Hid (∀ i (h : i < r.length) (h2 : i < ks.length), i < k2 + 1 → PairOK r[i] ks[i]) := HN3
                have HGG : Hid (gvalB ⟨vk, vn, vs⟩ = true) := hg
                clear HN3 hz HF2 HN2 hg
                go_wp2_with fail
                refine wp_region_any (by kernel_rfl) ?_
                change wpAny _ _ _ _ _ _ _ (World.drew _)
                refine wpAny_ready (rs := [0]) (by kernel_rfl) (by simp) ?_
                refine AllReady.cons rfl (fun K hK => ?_) AllReady.nil
                go_simp
                refine hK _ _ ?_; clear hK K
                refine wpAny_ready (rs := [1]) (by kernel_rfl) (by simp) ?_
                refine AllReady.cons rfl (fun K hK => ?_) AllReady.nil
                go_simp
                refine hK _ _ ?_; clear hK K
                refine wpAny_ready (rs := [2]) (by kernel_rfl) (by simp) ?_
                refine AllReady.cons rfl (fun K hK => ?_) AllReady.nil
                go_simp
                refine hK _ _ ?_; clear hK K
                refine wpAny_ready (rs := [3]) (by kernel_rfl) (by simp) ?_
                refine AllReady.cons rfl (fun K hK => ?_) AllReady.nil
                go_simp
                refine hK _ _ ?_; clear hK K
                refine wpAny_take (i := 4) (v := undef) rfl (by kernel_rfl) (by kernel_rfl) (by kernel_rfl) (fun _ _ _ h => h) (Or.inr ⟨by rfl, rfl⟩) ?_
                refine wpAny_take (i := 6) (v := undef) rfl (by kernel_rfl) (by kernel_rfl) (by kernel_rfl) (fun _ _ _ h => h) (Or.inr ⟨by rfl, rfl⟩) ?_
                refine wpAny_take (i := 7) (v := undef) rfl (by kernel_rfl) (by kernel_rfl) (by kernel_rfl) (fun _ _ _ h => h) (Or.inr ⟨by rfl, rfl⟩) ?_
                refine wpAny_take (i := 5) (v := undef) rfl (by kernel_rfl) (by kernel_rfl) (by kernel_rfl) (fun _ _ _ h => h) (Or.inr ⟨by rfl, rfl⟩) ?_
                refine wpAny_take (i := 8) (v := undef) rfl (by kernel_rfl) (by kernel_rfl) (by kernel_rfl) (fun _ _ _ h => h) (Or.inr ⟨by rfl, rfl⟩) ?_
                refine wpAny_take (i := 9) (v := undef) rfl (by kernel_rfl) (by kernel_rfl) (by kernel_rfl) (fun _ _ _ h => h) (Or.inr ⟨by rfl, rfl⟩) ?_
                refine wpAny_take (i := 10) (v := undef) rfl (by kernel_rfl) (by kernel_rfl) (by kernel_rfl) (fun _ _ _ h => h) (Or.inr ⟨by rfl, rfl⟩) ?_
                refine wpAny_ready (rs := [11]) (by kernel_rfl) (by simp) ?_
                refine AllReady.cons rfl (fun K hK => ?_) AllReady.nil
                go_simp
                refine hK _ _ ?_; clear hK K
                refine wpAny_ready (rs := [12]) (by kernel_rfl) (by simp) ?_
                refine AllReady.cons rfl (fun K hK => ?_) AllReady.nil
                go_simp
                refine hK _ _ ?_; clear hK K
                refine wpAny_ready (rs := [13]) (by kernel_rfl) (by simp) ?_
                refine AllReady.cons rfl (fun K hK => ?_) AllReady.nil
                go_simp
                refine hK _ _ ?_; clear hK K
                refine wpAny_ready (rs := [14]) (by kernel_rfl) (by simp) ?_
                refine AllReady.cons rfl (fun K hK => ?_) AllReady.nil
                go_simp
                go_wp2_with (go_at_call 85; refine (HG.out ⟨vk, vn, vs⟩ _).mono ?_; rintro e w5 ⟨rfl, hB5⟩; rw [HGG.out])
                refine wpAny_ready (rs := [15]) (by kernel_rfl) (by simp) ?_
                refine AllReady.cons rfl (fun K hK => ?_) AllReady.nil
                go_simp
                refine hK _ _ ?_; clear hK K
                refine wpAny_ready (rs := [16]) (by kernel_rfl) (by simp) ?_
                refine AllReady.cons rfl (fun K hK => ?_) AllReady.nil
                go_simp
                refine hK _ _ ?_; clear hK K
                refine wpAny_done (by kernel_rfl) ?_ _
                have hB6 := up1d hB5
                go_wp2
                go_roundw
                case rel => exact ⟨k2 + 1, by omega, by go_num, HN4.out, bthen hB2 hB6⟩
                case measure => simp [intOf]; omega
            · have hd0 : (vk != 0) = true := by simp [hz]
              by_cases hk : vk = kd
              · have hd1 : (vk != kd) = false := by simp [hk]
                cases hg : gvalB ⟨vk, vn, vs⟩
                · have HF3 := HF2.out (fun h => by have := h.2; rw [hg] at this; cases this)
                  have HF4 : Hid (¬ RowsOK rows ks) := HF3
                  have HGG : Hid (gvalB ⟨vk, vn, vs⟩ = false) := hg
                  clear HF3 HF2 HN2 hz hk hg
                  go_wp2_with fail
                  first
                    | (go_region_with (go_at_call 85; refine (HG.out ⟨vk, vn, vs⟩ _).mono ?_; rintro e w5 ⟨rfl, hB5⟩; rw [HGG.out]))
                    | fail
                  all_goals
                    have hB6 := up1d hB5
                    go_wp2
                    go_ret
                    exact BoolPost.no HF4.out (bthen hB3 hB6)
                · have HN3 := HN2.out ⟨Or.inr hk, hg⟩
                  have HN4 : Hid (∀ i (h : i < r.length) (h2 : i < ks.length), i < k2 + 1 → PairOK r[i] ks[i]) := HN3
                  have HGG : Hid (gvalB ⟨vk, vn, vs⟩ = true) := hg
                  clear HN3 hk hz HF2 HN2 hg
                  go_wp2_with fail
                  first
                    | (go_region_with (go_at_call 85; refine (HG.out ⟨vk, vn, vs⟩ _).mono ?_; rintro e w5 ⟨rfl, hB5⟩; rw [HGG.out]))
                    | fail
                  all_goals
                    have hB6 := up1d hB5
                    go_wp2
                    go_roundw
                    case rel => exact ⟨k2 + 1, by omega, by go_num, HN4.out, bthen hB2 hB6⟩
                    case measure => simp [intOf]; omega
              · have hd1 : (vk != kd) = true := by simp [hk]
                have HF3 := HF2.out (fun h => by rcases h.1 with h | h; exact hz h; exact hk h)
                have HF4 : Hid (¬ RowsOK rows ks) := HF3
                clear HF3 hk hz HF2 HN2
                go_wp2_with fail
                first
                  | (go_region_with fail)
                  | fail
                all_goals
                  go_wp2
                  go_ret
                  exact BoolPost.no HF4.out ((hB3.alloc hB3.size _).drew)
          · have hT : RowOK r ks := ⟨hlen, fun i h h2 => hall2 i h h2 (by omega)⟩
            have HN3 := HN.out hT
            have HN4 : Hid (∀ i (h : i < rows.length), i < k + 1 → RowOK rows[i] ks) := HN3
            clear HN3 hT hall2
            go_wp2
            go_roundw
            case rel => exact ⟨k + 1, by omega, by go_num, HN4.out, hB3⟩
            case measure => simp [intOf]; omega
      · have hd : ((r.length : Int) != (ks.length : Int)) = true := by rw [bne_iff_ne]; omega
        go_wp2
        go_ret
        exact BoolPost.no (HF.out fun h => hlen h.1) hB
    · have HT : Hid (RowsOK rows ks) := fun i hi => hall i hi (by omega)
      clear hall
      go_wp2
      go_ret
      exact BoolPost.yes HT.out hB
end Go.Proofs.Ytjoinhljdbljaaa
