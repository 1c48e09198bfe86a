/- All that is lent has its marks: the tests. All lists that are lent have their marks behind. Rows are equal. -/
import Derived.Test.YtjoinhljdbljaaaVbI
namespace Go.Proofs.Ytjoinhljdbljaaa
open Go.RowKit

theorem Lent.field {w : World} {bx : Nat} {Vf : Nat → Value} {X : Nat → List Value} (h : Lent w bx Vf X) (f : Nat) (hf : f < 5) : ∃ ao cap, Vf f = .slice ao (X f).length cap ∧ w.cell? ⟨bx, f, none⟩ = some (.slice ao (X f).length cap) ∧ (X f).length ≤ cap ∧ cap ≤ maxLen ∧ ∀ i u, (X f)[i]? = some u → ∃ b, ao = some ⟨b, 0, none⟩ ∧ w.cell? ⟨b, i, none⟩ = some u := by
  have hc := h.1.cell (cells5_get Vf f hf)
  obtain ⟨h1, h2⟩ := h.2.1 f hf
  rcases h2 with ⟨e, h0⟩ | ⟨g, cap, cur, e, _, hg, h3, h4, h5, h6⟩
  · refine ⟨none, 0, by rw [e, h0], by rw [hc, e, h0], by omega, by unfold maxLen; omega, fun i u hu => ?_⟩
    have := (List.getElem?_eq_some_iff.1 hu).1
    omega
  · refine ⟨_, cap, e, by rw [hc, e], h3, h4, fun i u hu => ⟨g, rfl, ?_⟩⟩
    rw [← h6, List.getElem?_take] at hu
    split at hu
    · simp only [World.cell?, hg]
      simpa using hu
    · cases hu

set_option maxRecDepth 20000 in
set_option maxHeartbeats 8000000 in
theorem rowsSpare_any (w : World) (bx : Nat) (Vf : Nat → Value) (X : Nat → List Value) (F : List Nat) (hL : Lent w bx Vf X) (hM : Marked w F X) (h0 : (X 0).length ≤ 9223372036854775807) (h1 : (X 1).length ≤ 9223372036854775807) :
    Calls Try.prog 71 #[.pointer (some ⟨bx, 0, none⟩)] w fun e w' => e = .returned (.bool true) ∧ Below w.heap.size w w' := by
  have HL : Hid (Lent w bx Vf X) := hL
  have HM : Hid (Marked w F X) := hM
  have HMK : Hid (∀ (n : Int) w, Calls Try.prog 40 #[.int .i64 n] w fun e w' => e = .returned (.agg #[.int .i64 9, .int .i64 n, .string callers]) ∧ Below w.heap.size w w') := mark_any
  have hbx := hL.1.lt
  clear hL hM
  go_enter Try.func71, Try.ntmps71
  go_wp2_with fail
  go_loopw [3] (fun j wr => ∃ k : Nat, k ≤ (X 0).length ∧ j = .int .i64 k ∧ Below w.heap.size w wr) (fun j _ => (X 0).length - (intOf j).toNat)
  case atStart => exact ⟨0, by omega, rfl, Below.refl _ _⟩
  case round =>
    obtain ⟨k, hk, rfl, hB⟩ := hrel
    obtain ⟨ao, cap, hv, c0, hc, hm, hcell⟩ := (HL.out.b hB).field 0 (by omega)
    by_cases hlt : k < (X 0).length
    · obtain ⟨b, hao, c1⟩ := hcell k _ (List.getElem?_eq_getElem hlt)
      subst hao
      obtain ⟨l, g, hr, _, hp, hml⟩ := HM.out.1 _ (List.getElem_mem hlt)
      rw [hr] at c1
      have HPM : Hid (∀ i, l.length ≤ i → i < l.length + 8 → w.cell? ⟨g, i * 3, none⟩ = some (.int .i64 9) ∧ w.cell? ⟨g, i * 3 + 1, none⟩ = some (.int .i64 (i : Int)) ∧ w.cell? ⟨g, i * 3 + 1 + 1, none⟩ = some (.string callers)) := by
        intro i hi hi2
        have hm := allR_mark hi hi2
        obtain ⟨hii, he⟩ := List.getElem?_eq_some_iff.1 hm
        obtain ⟨t0, t1, t2⟩ := t3s_get (allR l) i hii
        rw [he] at t0 t1 t2
        exact ⟨hp.cell t0, hp.cell t1, hp.cell t2⟩
      have hgw := hp.lt
      generalize l.length = n at *
      have hle : (n : Int) + 8 ≤ (n : Int) + 8 := by omega
      clear hcell hp hr hv
      unfold maxLen at hml
      go_wp2_with fail
      obtain ⟨w1, hw1⟩ : ∃ w1, w1 = wr := ⟨_, rfl⟩
      subst hw1
      go_loopw [6] (fun j wz => ∃ k2 : Nat, n ≤ k2 ∧ k2 ≤ n + 8 ∧ j = .int .i64 k2 ∧ Below w.heap.size w wz) (fun j _ => n + 8 - (intOf j).toNat)
      case atStart => exact ⟨n, by omega, by omega, rfl, hB⟩
      case round =>
        obtain ⟨k2, hk2, hk3, rfl, hBz⟩ := hrel
        by_cases hlt2 : k2 < n + 8
        · obtain ⟨t0, t1, t2⟩ := HPM.out k2 hk2 hlt2
          have a0 := (hBz.cell (p := ⟨g, k2 * 3, none⟩) hgw).trans t0
          have a1 := (hBz.cell (p := ⟨g, k2 * 3 + 1, none⟩) hgw).trans t1
          have a2 := (hBz.cell (p := ⟨g, k2 * 3 + 1 + 1, none⟩) hgw).trans t2
          have HT : Hid (w.cell? ⟨g, k2 * 3, none⟩ = some (.int .i64 9) ∧ w.cell? ⟨g, k2 * 3 + 1, none⟩ = some (.int .i64 (k2 : Int)) ∧ w.cell? ⟨g, k2 * 3 + 1 + 1, none⟩ = some (.string callers)) := ⟨t0, t1, t2⟩
          clear t0 t1 t2
          go_wp2_with fail
          go_region_held3 (fun w' => w'.cell? ⟨g, k2 * 3, none⟩ = some (.int .i64 9) ∧ w'.cell? ⟨g, k2 * 3 + 1, none⟩ = some (.int .i64 (k2 : Int)) ∧ w'.cell? ⟨g, k2 * 3 + 1 + 1, none⟩ = some (.string callers)) (go_keep) (first | (go_at_call 40; refine (HMK.out _ _).mono ?_; rintro e w5 ⟨rfl, hB5⟩; have hB6 := bthen hBz (((Below.refl _ _).drew).trans hB5); have e0 := (hB6.cell (p := ⟨g, k2 * 3, none⟩) hgw).trans HT.out.1; have e1 := (hB6.cell (p := ⟨g, k2 * 3 + 1, none⟩) hgw).trans HT.out.2.1; have e2 := (hB6.cell (p := ⟨g, k2 * 3 + 1 + 1, none⟩) hgw).trans HT.out.2.2))
          all_goals
            go_wp2
            go_roundw
            case rel => exact ⟨k2 + 1, by omega, by omega, by go_num, hB6⟩
            case measure => simp [intOf]; omega
        · go_wp2
          go_roundw
          case rel => exact ⟨k + 1, by omega, by go_num, hBz⟩
          case measure => simp [intOf]; omega
    · clear hcell
      go_wp2_with fail
      go_loopw [7] (fun j wr => ∃ k : Nat, k ≤ (X 1).length ∧ j = .int .i64 k ∧ Below w.heap.size w wr) (fun j _ => (X 1).length - (intOf j).toNat)
      case atStart => exact ⟨0, by omega, rfl, hB⟩
      case round =>
        obtain ⟨k3, hk3, rfl, hB3⟩ := hrel
        clear c0 hc hm hv hB
        obtain ⟨ao3, cap3, hv3, c0, hc3, hm3, hcell⟩ := (HL.out.b hB3).field 1 (by omega)
        by_cases hlt3 : k3 < (X 1).length
        · obtain ⟨b, hao, c1⟩ := hcell k3 _ (List.getElem?_eq_getElem hlt3)
          subst hao
          obtain ⟨l, cs, hcl, ⟨g, hr, _, hp, hml⟩, hra⟩ := HM.out.2.1 _ (List.getElem_mem hlt3)
          rw [hr] at c1
          have HPM : Hid (∀ i, l.length ≤ i → i < l.length + 8 → ∃ bm, bm < w.heap.size ∧ w.cell? ⟨g, i, none⟩ = some (.slice (some ⟨bm, 0, none⟩) 1 1) ∧ w.cell? ⟨bm, 0, none⟩ = some (.int .i64 9) ∧ w.cell? ⟨bm, 1, none⟩ = some (.int .i64 (i : Int)) ∧ w.cell? ⟨bm, 2, none⟩ = some (.string callers)) := by
            intro i hi hi2
            have hi3 : i < cs.length := by omega
            obtain ⟨bm, hbm, _, hpm⟩ := (hra i _ (List.getElem?_eq_getElem hi3)).2 hi
            refine ⟨bm, hpm.lt, ?_, hpm.cell rfl, hpm.cell rfl, hpm.cell rfl⟩
            rw [← hbm]
            exact hp.cell (List.getElem?_eq_getElem hi3)
          have hgw := hp.lt
          generalize l.length = n at *
          have hle : (n : Int) + 8 ≤ (n : Int) + 8 := by omega
          clear hcell hp hr hv3 hra hcl
          unfold maxLen at hml
          go_wp2_with fail
          go_loopw [10] (fun j wz => ∃ k2 : Nat, n ≤ k2 ∧ k2 ≤ n + 8 ∧ j = .int .i64 k2 ∧ Below w.heap.size w wz) (fun j _ => n + 8 - (intOf j).toNat)
          case atStart => exact ⟨n, by omega, by omega, rfl, hB3⟩
          case round =>
            obtain ⟨k2, hk2, hk4, rfl, hBz⟩ := hrel
            by_cases hlt2 : k2 < n + 8
            · obtain ⟨bm, hbmw, t3, t0, t1, t2⟩ := HPM.out k2 hk2 hlt2
              have HT : Hid (∀ W, Below w.heap.size w W → W.cell? ⟨g, k2, none⟩ = some (.slice (some ⟨bm, 0, none⟩) 1 1) ∧ W.cell? ⟨bm, 0, none⟩ = some (.int .i64 9) ∧ W.cell? ⟨bm, 1, none⟩ = some (.int .i64 (k2 : Int)) ∧ W.cell? ⟨bm, 2, none⟩ = some (.string callers)) := fun W hW => ⟨(hW.cell (p := ⟨g, k2, none⟩) hgw).trans t3, (hW.cell (p := ⟨bm, 0, none⟩) hbmw).trans t0, (hW.cell (p := ⟨bm, 1, none⟩) hbmw).trans t1, (hW.cell (p := ⟨bm, 2, none⟩) hbmw).trans t2⟩
              clear t0 t1 t2 t3
              obtain ⟨a3, a0, a1, a2⟩ := HT.out _ hBz
              go_wp2_with fail
              go_region_held3 (fun w' => w'.cell? ⟨g, k2, none⟩ = some (.slice (some ⟨bm, 0, none⟩) 1 1) ∧ w'.cell? ⟨bm, 0, none⟩ = some (.int .i64 9) ∧ w'.cell? ⟨bm, 1, none⟩ = some (.int .i64 (k2 : Int)) ∧ w'.cell? ⟨bm, 2, none⟩ = some (.string callers)) (go_keep) (first | (go_at_call 40; refine (HMK.out _ _).mono ?_; rintro e w5 ⟨rfl, hB5⟩; have hB6 := bthen hBz (((Below.refl _ _).drew).trans hB5); obtain ⟨e3, e0, e1, e2⟩ := HT.out _ hB6))
              all_goals
                go_wp2
                go_roundw
                case rel => exact ⟨k2 + 1, by omega, by omega, by go_num, hB6⟩
                case measure => simp [intOf]; omega
            · go_wp2
              go_roundw
              case rel => exact ⟨k3 + 1, by omega, by go_num, hBz⟩
              case measure => simp [intOf]; omega
        · clear hcell
          go_wp2
          go_ret
          exact ⟨rfl, hB3⟩
end Go.Proofs.Ytjoinhljdbljaaa

namespace Go.Proofs.Ytjoinhljdbljaaa
open Go.RowKit

set_option maxRecDepth 20000 in
set_option maxHeartbeats 8000000 in
theorem lentWhole_any (w : World) (bx : Nat) (Vf : Nat → Value) (X : Nat → List Value) (F : List Nat) (hL : Lent w bx Vf X) (hM : Marked w F X) (h0 : (X 0).length ≤ 9223372036854775807) (h1 : (X 1).length ≤ 9223372036854775807) (h2 : (X 2).length ≤ 9223372036854775807) (h3 : (X 3).length ≤ 9223372036854775807) (h4 : (X 4).length ≤ 9223372036854775807) :
    Calls Try.prog 53 #[.pointer (some ⟨bx, 0, none⟩)] w fun e w' => e = .returned (.bool true) ∧ Below w.heap.size w w' := by
  have HL : Hid (Lent w bx Vf X) := hL
  have HM : Hid (Marked w F X) := hM
  have HRS : Hid (∀ W, Below w.heap.size w W → Calls Try.prog 71 #[.pointer (some ⟨bx, 0, none⟩)] W fun e w' => e = .returned (.bool true) ∧ Below W.heap.size W w') := fun W hW => rowsSpare_any W bx Vf X F (hL.b hW) (hM.step (stepB hW)) h0 h1
  have hbx := hL.1.lt
  clear hL hM
  go_enter Try.func53, Try.ntmps53
  go_wp2_with fail
  go_loopw [3] (fun j wr => ∃ k : Nat, k ≤ (X 2).length ∧ j = .int .i64 k ∧ Below w.heap.size w wr) (fun j _ => (X 2).length - (intOf j).toNat)
  case atStart => exact ⟨0, by omega, rfl, Below.refl _ _⟩
  case round =>
    obtain ⟨k2, hk2, rfl, hB2⟩ := hrel
    obtain ⟨ao2, cap2, hv2, c2, hc2, hm2, hcell⟩ := (HL.out.b hB2).field 2 (by omega)
    by_cases hlt2 : k2 < (X 2).length
    · obtain ⟨b, hao, c1⟩ := hcell k2 _ (List.getElem?_eq_getElem hlt2)
      subst hao
      obtain ⟨l, g, hr, _, hp, hml⟩ := HM.out.2.2.1 _ (List.getElem_mem hlt2)
      rw [hr] at c1
      have HPM : Hid (∀ i, l.length ≤ i → i < l.length + 8 → w.cell? ⟨g, i, none⟩ = some (.int .i64 (-77))) := fun i hi hi2 => hp.cell (spareI_mark hi hi2)
      have hgw := hp.lt
      generalize l.length = n at *
      have hle : (n : Int) + 8 ≤ (n : Int) + 8 := by omega
      clear hcell hp hr hv2
      unfold maxLen at hml
      go_wp2_with fail
      go_loopw [6] (fun j wz => ∃ k2 : Nat, n ≤ k2 ∧ k2 ≤ n + 8 ∧ j = .int .i64 k2 ∧ Below w.heap.size w wz) (fun j _ => n + 8 - (intOf j).toNat)
      case atStart => exact ⟨n, by omega, by omega, rfl, hB2⟩
      case round =>
        obtain ⟨q2, hq2, hq4, rfl, hBz⟩ := hrel
        by_cases hz2 : q2 < n + 8
        · have a0 := (hBz.cell (p := ⟨g, q2, none⟩) hgw).trans (HPM.out q2 hq2 hz2)
          go_wp2
          go_roundw
          case rel => exact ⟨q2 + 1, by omega, by omega, by go_num, hBz⟩
          case measure => simp [intOf]; omega
        · go_wp2
          go_roundw
          case rel => exact ⟨k2 + 1, by omega, by go_num, hBz⟩
          case measure => simp [intOf]; omega
    · clear hcell hv2
      go_wp2_with fail
      go_loopw [7] (fun j wr => ∃ k : Nat, k ≤ (X 3).length ∧ j = .int .i64 k ∧ Below w.heap.size w wr) (fun j _ => (X 3).length - (intOf j).toNat)
      case atStart => exact ⟨0, by omega, rfl, hB2⟩
      case round =>
        obtain ⟨k3, hk3, rfl, hB3⟩ := hrel
        obtain ⟨ao3, cap3, hv3, c3, hc3, hm3, hcell⟩ := (HL.out.b hB3).field 3 (by omega)
        by_cases hlt3 : k3 < (X 3).length
        · obtain ⟨b, hao, c1⟩ := hcell k3 _ (List.getElem?_eq_getElem hlt3)
          subst hao
          obtain ⟨l, g, hr, _, hp, hml⟩ := HM.out.2.2.2.1 _ (List.getElem_mem hlt3)
          rw [hr] at c1
          have HPM : Hid (∀ i, l.length ≤ i → i < l.length + 8 → w.cell? ⟨g, i * 3, none⟩ = some (.int .i64 (-77)) ∧ w.cell? ⟨g, i * 3 + 1, none⟩ = some (.bool false) ∧ w.cell? ⟨g, i * 3 + 1 + 1, none⟩ = some (.bool false)) := by
            intro i hi hi2
            have hm := allK_mark hi hi2
            obtain ⟨hii, he⟩ := List.getElem?_eq_some_iff.1 hm
            obtain ⟨t0, t1, t2⟩ := t3s_get (allK l) i hii
            rw [he] at t0 t1 t2
            exact ⟨hp.cell t0, hp.cell t1, hp.cell t2⟩
          have hgw := hp.lt
          generalize l.length = n at *
          have hle : (n : Int) + 8 ≤ (n : Int) + 8 := by omega
          clear hcell hp hr hv3
          unfold maxLen at hml
          go_wp2_with fail
          go_loopw [10] (fun j wz => ∃ k2 : Nat, n ≤ k2 ∧ k2 ≤ n + 8 ∧ j = .int .i64 k2 ∧ Below w.heap.size w wz) (fun j _ => n + 8 - (intOf j).toNat)
          case atStart => exact ⟨n, by omega, by omega, rfl, hB3⟩
          case round =>
            obtain ⟨q2, hq2, hq4, rfl, hBz⟩ := hrel
            by_cases hz2 : q2 < n + 8
            · obtain ⟨t0, t1, t2⟩ := HPM.out q2 hq2 hz2
              have a0 := (hBz.cell (p := ⟨g, q2 * 3, none⟩) hgw).trans t0
              have a1 := (hBz.cell (p := ⟨g, q2 * 3 + 1, none⟩) hgw).trans t1
              have a2 := (hBz.cell (p := ⟨g, q2 * 3 + 1 + 1, none⟩) hgw).trans t2
              clear t0 t1 t2
              go_wp2
              go_roundw
              case rel => exact ⟨q2 + 1, by omega, by omega, by go_num, hBz⟩
              case measure => simp [intOf]; omega
            · go_wp2
              go_roundw
              case rel => exact ⟨k3 + 1, by omega, by go_num, hBz⟩
              case measure => simp [intOf]; omega
        · clear hcell hv3
          go_wp2_with fail
          go_loopw [11] (fun j wr => ∃ k : Nat, k ≤ (X 4).length ∧ j = .int .i64 k ∧ Below w.heap.size w wr) (fun j _ => (X 4).length - (intOf j).toNat)
          case atStart => exact ⟨0, by omega, rfl, hB3⟩
          case round =>
            obtain ⟨k4, hk4, rfl, hB4⟩ := hrel
            obtain ⟨ao4, cap4, hv4, c4, hc4, hm4, hcell⟩ := (HL.out.b hB4).field 4 (by omega)
            by_cases hlt4 : k4 < (X 4).length
            · obtain ⟨b, hao, c1⟩ := hcell k4 _ (List.getElem?_eq_getElem hlt4)
              subst hao
              obtain ⟨l, g, hr, _, hp, hml⟩ := HM.out.2.2.2.2 _ (List.getElem_mem hlt4)
              rw [hr] at c1
              have HPM : Hid (∀ i, l.length ≤ i → i < l.length + 8 → w.cell? ⟨g, i * 2, none⟩ = some (.int .i64 (-77)) ∧ w.cell? ⟨g, i * 2 + 1, none⟩ = some (.int .i64 0)) := by
                intro i hi hi2
                have hm := allS_mark hi hi2
                obtain ⟨hii, he⟩ := List.getElem?_eq_some_iff.1 hm
                obtain ⟨t0, t1⟩ := sums2_get (allS l) i hii
                rw [he] at t0 t1
                exact ⟨hp.cell t0, hp.cell t1⟩
              have hgw := hp.lt
              generalize l.length = n at *
              have hle : (n : Int) + 8 ≤ (n : Int) + 8 := by omega
              clear hcell hp hr hv4
              unfold maxLen at hml
              go_wp2_with fail
              go_loopw [14] (fun j wz => ∃ k2 : Nat, n ≤ k2 ∧ k2 ≤ n + 8 ∧ j = .int .i64 k2 ∧ Below w.heap.size w wz) (fun j _ => n + 8 - (intOf j).toNat)
              case atStart => exact ⟨n, by omega, by omega, rfl, hB4⟩
              case round =>
                obtain ⟨q2, hq2, hq4, rfl, hBz⟩ := hrel
                by_cases hz2 : q2 < n + 8
                · obtain ⟨t0, t1⟩ := HPM.out q2 hq2 hz2
                  have a0 := (hBz.cell (p := ⟨g, q2 * 2, none⟩) hgw).trans t0
                  have a1 := (hBz.cell (p := ⟨g, q2 * 2 + 1, none⟩) hgw).trans t1
                  clear t0 t1
                  go_wp2
                  go_roundw
                  case rel => exact ⟨q2 + 1, by omega, by omega, by go_num, hBz⟩
                  case measure => simp [intOf]; omega
                · go_wp2
                  go_roundw
                  case rel => exact ⟨k4 + 1, by omega, by go_num, hBz⟩
                  case measure => simp [intOf]; omega
            · clear hcell hv4
              go_wp2_with fail
              refine (HRS.out _ hB4).mono ?_
              rintro e w9 ⟨rfl, hB9⟩
              go_wp2
              go_ret
              exact ⟨rfl, bthen hB4 hB9⟩
end Go.Proofs.Ytjoinhljdbljaaa

namespace Go.Proofs.Ytjoinhljdbljaaa
open Go.RowKit

set_option maxRecDepth 20000 in
set_option maxHeartbeats 8000000 in
theorem equal_any (w : World) (v u : Value) (rows : List (List V)) (h1 : RowsIn w [] v rows) (h2 : RowsIn w [] u rows) (hl : rows.length ≤ 1048576) (hr : ∀ i (h : i < rows.length), rows[i].length ≤ 1048576) :
    Calls Try.prog 52 #[v, u] w fun e w' => e = .returned (.bool true) ∧ Below w.heap.size w w' := by
  obtain ⟨ao, cap, rfl, hc, hm, _⟩ := h1.open
  obtain ⟨ao2, cap2, rfl, hc2, hm2, _⟩ := h2.open
  have HV : Hid (RowsIn w [] (.slice ao rows.length cap) rows) := h1
  have HU : Hid (RowsIn w [] (.slice ao2 rows.length cap2) rows) := h2
  have HR : Hid (∀ i (h : i < rows.length), rows[i].length ≤ 1048576) := hr
  clear h1 h2 hr
  have HVL : Hid (∀ (v : V) w, Calls Try.prog 62 #[.agg #[.int .i64 v.k, .int .i64 v.n, .string v.s]] w fun e w' => e = .returned (.agg #[.int .i64 v.k, .int .i64 v.n, .string v.s]) ∧ Below w.heap.size w w') := value_any
  go_enter Try.func52, Try.ntmps52
  go_wp2_with fail
  go_loopw [5] (fun j wr => ∃ k : Nat, k ≤ rows.length ∧ j = .int .i64 k ∧ Below w.heap.size w wr) (fun j _ => rows.length - (intOf j).toNat)
  case atStart => exact ⟨0, by omega, rfl, Below.refl _ _⟩
  case round =>
    obtain ⟨k, hk, rfl, hB⟩ := hrel
    by_cases hlt : k < rows.length
    · obtain ⟨b, off, hao, hcell⟩ := HV.out.cells (by omega)
      subst hao
      obtain ⟨x, x0, hx⟩ := hcell k hlt
      obtain ⟨b2, off2, hao2, hcell2⟩ := HU.out.cells (by omega)
      subst hao2
      obtain ⟨y, y0, hy⟩ := hcell2 k hlt
      have hbw : b < w.heap.size := World.block_lt_of_cell? w _ x0
      have hbw2 : b2 < w.heap.size := World.block_lt_of_cell? w _ y0
      obtain ⟨xo, xcap, rfl, _, _, g1⟩ := hx.open
      obtain ⟨yo, ycap, rfl, _, _, g2⟩ := hy.open
      clear g1 g2 hcell hcell2
      have HX : Hid (ValsIn w [] (.slice xo rows[k].length xcap) rows[k]) := hx
      have HY : Hid (ValsIn w [] (.slice yo rows[k].length ycap) rows[k]) := hy
      have hrl := HR.out k hlt
      have HC : Hid (∀ W, Below w.heap.size w W → W.cell? ⟨b, off + k, none⟩ = some (.slice xo rows[k].length xcap) ∧ W.cell? ⟨b2, off2 + k, none⟩ = some (.slice yo rows[k].length ycap)) := fun W hW => ⟨(hW.cell (p := ⟨b, off + k, none⟩) hbw).trans x0, (hW.cell (p := ⟨b2, off2 + k, none⟩) hbw2).trans y0⟩
      clear hx hy x0 y0
      generalize rows[k] = row at *
      obtain ⟨c0, c1⟩ := HC.out _ hB
      go_wp2_with fail
      go_big_quiet (fail)
      go_wp2_with fail
      refine wp_at (fun W => Below w.heap.size w W) ⟨hB.os, hB.tape, hB.output, hB.size, hB.block⟩ ?_
      intro W hBW
      clear c0 c1 hB
      go_loopw [6] (fun j wz => ∃ k2 : Nat, k2 ≤ row.length ∧ j = .int .i64 k2 ∧ Below w.heap.size w wz) (fun j _ => row.length - (intOf j).toNat)
      case atStart => exact ⟨0, by omega, rfl, hBW⟩
      case round =>
        obtain ⟨k2, hk2, rfl, hBz⟩ := hrel
        obtain ⟨c0, c1⟩ := HC.out _ hBz
        by_cases hlt2 : k2 < row.length
        · obtain ⟨b3, off3, hao3, hcell3⟩ := HX.out.cells (by omega)
          subst hao3
          obtain ⟨x0, x1, x2⟩ := hcell3 k2 hlt2
          obtain ⟨b4, off4, hao4, hcell4⟩ := HY.out.cells (by omega)
          subst hao4
          obtain ⟨y0, y1, y2⟩ := hcell4 k2 hlt2
          have hb3 : b3 < w.heap.size := World.block_lt_of_cell? w _ x0
          have hb4 : b4 < w.heap.size := World.block_lt_of_cell? w _ y0
          generalize row[k2] = q at *
          obtain ⟨qk, qn, qs⟩ := q
          simp only at x0 x1 x2 y0 y1 y2
          have HD : Hid (∀ W, Below w.heap.size w W → W.cell? ⟨b3, off3 + k2 * 3, none⟩ = some (.int .i64 qk) ∧ W.cell? ⟨b3, off3 + k2 * 3 + 1, none⟩ = some (.int .i64 qn) ∧ W.cell? ⟨b3, off3 + k2 * 3 + 1 + 1, none⟩ = some (.string qs) ∧ W.cell? ⟨b4, off4 + k2 * 3, none⟩ = some (.int .i64 qk) ∧ W.cell? ⟨b4, off4 + k2 * 3 + 1, none⟩ = some (.int .i64 qn) ∧ W.cell? ⟨b4, off4 + k2 * 3 + 1 + 1, none⟩ = some (.string qs)) := fun W hW => ⟨(hW.cell (p := ⟨b3, off3 + k2 * 3, none⟩) hb3).trans x0, (hW.cell (p := ⟨b3, off3 + k2 * 3 + 1, none⟩) hb3).trans x1, (hW.cell (p := ⟨b3, off3 + k2 * 3 + 1 + 1, none⟩) hb3).trans x2, (hW.cell (p := ⟨b4, off4 + k2 * 3, none⟩) hb4).trans y0, (hW.cell (p := ⟨b4, off4 + k2 * 3 + 1, none⟩) hb4).trans y1, (hW.cell (p := ⟨b4, off4 + k2 * 3 + 1 + 1, none⟩) hb4).trans y2⟩
          clear x0 x1 x2 y0 y1 y2 hcell3 hcell4
          obtain ⟨d0, d1, d2, d3, d4, d5⟩ := HD.out _ hBz
          go_wp2_with fail
          go_region_held3 (fun w' => w'.cell? ⟨b, off + k, none⟩ = some (.slice (some ⟨b3, off3, none⟩) row.length xcap) ∧ w'.cell? ⟨b2, off2 + k, none⟩ = some (.slice (some ⟨b4, off4, none⟩) row.length ycap) ∧ w'.cell? ⟨b3, off3 + k2 * 3, none⟩ = some (.int .i64 qk) ∧ w'.cell? ⟨b3, off3 + k2 * 3 + 1, none⟩ = some (.int .i64 qn) ∧ w'.cell? ⟨b3, off3 + k2 * 3 + 1 + 1, none⟩ = some (.string qs) ∧ w'.cell? ⟨b4, off4 + k2 * 3, none⟩ = some (.int .i64 qk) ∧ w'.cell? ⟨b4, off4 + k2 * 3 + 1, none⟩ = some (.int .i64 qn) ∧ w'.cell? ⟨b4, off4 + k2 * 3 + 1 + 1, none⟩ = some (.string qs)) (go_keep) (first | (go_at_call 62; refine (HVL.out ⟨qk, qn, qs⟩ _).mono ?_; rintro e w5 ⟨rfl, hB5⟩; have hB6 := bthen hBz (((Below.refl _ _).drew).trans hB5); obtain ⟨e6, e7⟩ := HC.out _ hB6; obtain ⟨e0, e1, e2, e3, e4, e5⟩ := HD.out _ hB6))
          all_goals
            go_wp2
            go_roundw
            case rel => exact ⟨k2 + 1, by omega, by go_num, hB6⟩
            case measure => simp [intOf]; omega
        · go_wp2
          go_roundw
          case rel => exact ⟨k + 1, by omega, by go_num, hBz⟩
          case measure => simp [intOf]; omega
    · go_wp2
      go_ret
      exact ⟨rfl, hB⟩
end Go.Proofs.Ytjoinhljdbljaaa
