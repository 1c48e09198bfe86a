/- Tables: the program's test, the document's test. -/
import Derived.Test.YtjoinhljdbljaaaValH
namespace Go.Proofs.Ytjoinhljdbljaaa
open Go.RowKit

theorem calls_at {P : Program} {f : FuncId} {args : Array Value} {w : World} {Q : Ending → World → Prop} (Φ : World → Prop) (h0 : Φ w) (h : ∀ W, Φ W → Calls P f args W Q) : Calls P f args w Q := h w h0
def TabSmall (t : VT) : Prop := t.kinds.length ≤ 1048576 ∧ t.rows.length ≤ 1048576
set_option maxHeartbeats 4000000 in
theorem goodTables_any (w : World) (v : Value) (T : List VT) (h : TabsIn w [] v T) (hl : T.length ≤ 1048576) (hs : ∀ i (h : i < T.length), TabSmall T[i]) :
    Calls Try.prog 64 #[v] w (BoolPost (TablesOK T) w) := by
  obtain ⟨ao, cap, rfl, hc, hm, hx⟩ := h.open
  have HV : Hid (TabsIn w [] (.slice ao T.length cap) T) := h
  have HS : Hid (∀ i (h : i < T.length), TabSmall T[i]) := hs
  clear h hx hs
  have HK : Hid (∀ w v l, IntsIn w [] v l → l.length ≤ 1048576 → Calls Try.prog 75 #[v] w (BoolPost (KindsOK l) w)) := goodKinds_any
  have HR : Hid (∀ w v u rows ks, RowsIn w [] v rows → IntsIn w [] u ks → rows.length ≤ 1048576 → ks.length ≤ 1048576 → Calls Try.prog 76 #[v, u] w (BoolPost (RowsOK rows ks) w)) := goodRows_any
  go_enter Try.func64, Try.ntmps64
  go_wp2
  go_loopw [7] (fun j wr => ∃ k : Nat, k ≤ T.length ∧ j = .int .i64 k ∧ (∀ i (h : i < T.length), i < k → TableOK T[i]) ∧ Below w.heap.size w wr) (fun j _ => T.length - (intOf j).toNat)
  case atStart => exact ⟨0, by omega, rfl, fun i _ h => by omega, Below.refl _ _⟩
  case round =>
    obtain ⟨k, hk, rfl, hall, hB⟩ := hrel
    by_cases hlt : k < T.length
    · obtain ⟨b, off, hao, hcell⟩ := (HV.out.step (stepB hB)).cells (by omega)
      subst hao
      obtain ⟨kv, rv, c0, c1, c2, hkv, hrv⟩ := hcell k hlt
      have HN : Hid (TableOK T[k] → ∀ i (h : i < T.length), i < k + 1 → TableOK T[i]) := fun hq => snoc_all (P := TableOK) hlt hall hq
      have HF : Hid (¬ TableOK T[k] → ¬ TablesOK T) := fun hq h => hq (h k hlt)
      have HSm : Hid (TabSmall T[k]) := HS.out k hlt
      generalize T[k] = t at *
      obtain ⟨nm, kinds, rows⟩ := t
      simp only at *
      obtain ⟨ko, kcap, rfl, _, _, g1⟩ := hkv.open
      clear g1
      obtain ⟨ro, rcap, rfl, _, _, g2⟩ := hrv.open
      clear g2
      have HKV : Hid (IntsIn wr [] (.slice ko kinds.length kcap) kinds) := hkv
      have HRV : Hid (RowsIn wr [] (.slice ro rows.length rcap) rows) := hrv
      clear hcell hall hkv hrv
      go_wp2_with fail
      refine calls_at (fun W => Below wr.heap.size wr W ∧ W.cell? ⟨wr.heap.size, 1, none⟩ = some (.slice ko kinds.length kcap) ∧ W.cell? ⟨wr.heap.size, 2, none⟩ = some (.slice ro rows.length rcap) ∧ wr.heap.size < W.heap.size) ⟨by repeat (first | exact Below.refl _ _ | refine Below.alloc ?_ (by first | exact Nat.le_refl _ | simp) _ | refine Below.setCell ?_ (by simp) _), by simp, by simp, by simp⟩ ?_
      rintro W ⟨hBW, x1, x2, hszW⟩
      refine (HK.out W _ kinds (HKV.out.step (stepB hBW)) HSm.out.1).mono ?_
      rintro e w1 ⟨b1, rfl, hb1, hB1⟩
      have y1 := (hB1.cell (p := ⟨wr.heap.size, 1, none⟩) hszW).trans x1
      have y2 := (hB1.cell (p := ⟨wr.heap.size, 2, none⟩) hszW).trans x2
      have hB2 := bthen hBW hB1
      have HKV2 : Hid (IntsIn w1 [] (.slice ko kinds.length kcap) kinds) := HKV.out.step (stepB hB2)
      have HRV2 : Hid (RowsIn w1 [] (.slice ro rows.length rcap) rows) := HRV.out.step (stepB hB2)
      have hB3 := bthen hB hB2
      clear x1 x2 c0 c1 c2 hB1 hBW HKV HRV
      by_cases hk1 : KindsOK kinds
      · obtain rfl : b1 = true := hb1.2 hk1
        have HK1 : Hid (KindsOK kinds) := hk1
        clear hk1 hb1
        by_cases hr1 : RowsOK rows kinds
        · have HNN := HN.out ⟨HK1.out, hr1⟩
          have HN2 : Hid (∀ i (h : i < T.length), i < k + 1 → TableOK T[i]) := HNN
          have HR1 : Hid (RowsOK rows kinds) := hr1
          clear hr1 HNN
          go_wp2_with (go_at_call 76; refine (HR.out w1 _ _ rows kinds HRV2.out HKV2.out HSm.out.2 HSm.out.1).mono ?_; rintro e w4 ⟨b4, rfl, hb4, hB4⟩; obtain rfl : b4 = true := hb4.2 HR1.out; clear hb4)
          go_roundw
          case rel => exact ⟨k + 1, by omega, by go_num, HN2.out, bthen hB3 hB4⟩
          case measure => simp [intOf]; omega
        · have HFF := HF.out (fun h => hr1 h.2)
          have HF2 : Hid (¬ TablesOK T) := HFF
          have HR1 : Hid (¬ RowsOK rows kinds) := hr1
          clear hr1 HFF
          go_wp2_with (go_at_call 76; refine (HR.out w1 _ _ rows kinds HRV2.out HKV2.out HSm.out.2 HSm.out.1).mono ?_; rintro e w4 ⟨b4, rfl, hb4, hB4⟩; obtain rfl : b4 = false := (by rw [← Bool.not_eq_true, hb4]; exact HR1.out); clear hb4)
          go_ret
          exact BoolPost.no HF2.out (bthen hB3 hB4)
      · obtain rfl : b1 = false := by rw [← Bool.not_eq_true, hb1]; exact hk1
        have HFF := HF.out (fun h => hk1 h.1)
        have HF2 : Hid (¬ TablesOK T) := HFF
        clear hk1 hb1 HFF
        go_wp2
        go_ret
        exact BoolPost.no HF2.out hB3
    · have HT : Hid (TablesOK T) := fun i hi => hall i hi (by omega)
      clear hall
      go_wp2
      go_ret
      exact BoolPost.yes HT.out hB
end Go.Proofs.Ytjoinhljdbljaaa
