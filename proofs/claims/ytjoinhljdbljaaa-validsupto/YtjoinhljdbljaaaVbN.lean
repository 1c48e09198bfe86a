/- Tables are as they were. -/
import Derived.Test.YtjoinhljdbljaaaVbM
import Derived.Test.YtjoinhljdbljaaaVbH
namespace Go.Proofs.Ytjoinhljdbljaaa
open Go.RowKit

theorem TabSt.row {bx go : Nat} {w : World} {T : List VT} {Vf : Nat → Value} {X : Nat → List Value} {ps : List TP} (h : TabSt bx go w T (T.length + 8) Vf X ps) {i : Nat} (hi : i < T.length + 8) : ∃ p : TP, w.cell? ⟨go, i * 3, none⟩ = some (.string p.1) ∧ w.cell? ⟨go, i * 3 + 1, none⟩ = some p.2.1 ∧ w.cell? ⟨go, i * 3 + 1 + 1, none⟩ = some p.2.2 ∧ (∀ h : i < T.length, p.1 = T[i].name ∧ IntsIn w [] p.2.1 T[i].kinds ∧ RowsIn w [] p.2.2 T[i].rows ∧ (X 1)[i]? = some p.2.2) ∧ (T.length ≤ i → p = (callers, .slice none 0 0, .slice none 0 0)) := by
  obtain ⟨h1, h2, h3, h4, h5, _⟩ := h
  have hip : i < ps.length := by omega
  obtain ⟨t0, t1, t2⟩ := tabs3_get ps i hip
  obtain ⟨a, b⟩ := h5 i _ (List.getElem?_eq_getElem hip)
  refine ⟨ps[i], h3.cell t0, h3.cell t1, h3.cell t2, fun hh => ?_, b⟩
  obtain ⟨e1, e2, e3, e4⟩ := a hh
  exact ⟨e1, (FullI.in e2).less (by simp), (e3.less (F' := []) (by simp)).in, e4⟩

set_option maxRecDepth 20000 in
set_option maxHeartbeats 8000000 in
theorem tablesStill_any (w : World) (bx go : Nat) (tv : Value) (T : List VT) (Vf : Nat → Value) (X : Nat → List Value) (ps : List TP) (hS : TabSt bx go w T (T.length + 8) Vf X ps) (ht : TabsIn w [] tv T) (hb : TabBulk T) (h3 : (X 3).length ≤ 9223372036854775807) (h4 : (X 4).length ≤ 9223372036854775807) :
    Calls Try.prog 17 #[.pointer (some ⟨bx, 0, none⟩), .slice (some ⟨go, 0, none⟩) T.length (T.length + 8), tv] w fun e w' => e = .returned (.bool true) ∧ Below w.heap.size w w' := by
  obtain ⟨hT, hsm, hrw, hsum⟩ := hb
  obtain ⟨ao, cap, rfl, hc, hm, g1⟩ := ht.open
  clear g1
  have HS : Hid (TabSt bx go w T (T.length + 8) Vf X ps) := hS
  have HT : Hid (TabsIn w [] (.slice ao T.length cap) T) := ht
  have HWH : Hid (∀ W, Below w.heap.size w W → Calls Try.prog 53 #[.pointer (some ⟨bx, 0, none⟩)] W fun e w' => e = .returned (.bool true) ∧ Below W.heap.size W w') := fun W hW => lentWhole_any W bx Vf X _ (hS.1.b hW) (hS.2.1.step (stepB hW)) (by have h6 := hS.2.2.2.2.2.1; have h7 := rowsSum_le T (T.length + 8); omega) (by have := hS.2.2.2.2.2.2.1; omega) (by have := hS.2.2.2.2.2.2.2; omega) h3 h4
  have HSM : Hid (∀ i (h : i < T.length), TabSmall T[i]) := hsm
  have HRW : Hid (∀ i (h : i < T.length) j (h2 : j < T[i].rows.length), T[i].rows[j].length ≤ 1048576) := hrw
  have hgo := hS.2.2.1.lt
  have hbx := hS.1.1.lt
  clear hS ht hsm hrw
  go_enter Try.func17, Try.ntmps17
  go_wp2_with fail
  go_loopw [8] (fun j wr => ∃ k : Nat, k ≤ T.length + 8 ∧ j = .int .i64 k ∧ Below w.heap.size w wr) (fun j _ => T.length + 8 - (intOf j).toNat)
  case atStart => exact ⟨0, by omega, rfl, Below.refl _ _⟩
  case round =>
    obtain ⟨k, hk, rfl, hB⟩ := hrel
    by_cases hlt : k < T.length + 8
    · obtain ⟨⟨nm, kv, rv⟩, p0, p1, p2, hin, hout⟩ := HS.out.row hlt
      simp only at p0 p1 p2 hin
      by_cases hln : k < T.length
      · have hd : decide ((T.length : Int) ≤ (k : Int)) = false := decide_eq_false (by omega)
        obtain ⟨e1, e2, e3, e4⟩ := hin hln
        subst e1
        obtain ⟨ko, kcap, rfl, _, _, g1⟩ := e2.open
        obtain ⟨ro, rcap, rfl, _, _, g2⟩ := e3.open
        obtain ⟨b, off, hao, hcell⟩ := HT.out.cells (by omega)
        subst hao
        obtain ⟨kv2, rv2, s0, s1, s2, hk2, hr2⟩ := hcell k hln
        obtain ⟨ko2, kcap2, rfl, _, _, g3⟩ := hk2.open
        obtain ⟨ro2, rcap2, rfl, _, _, g4⟩ := hr2.open
        have hbw : b < w.heap.size := World.block_lt_of_cell? w _ s0
        obtain ⟨lo, lcap, _, l0, _, _, hlcell⟩ := HS.out.1.field 1 (by omega)
        obtain ⟨lb, hlo, l1⟩ := hlcell k _ e4
        subst hlo
        have hlb : lb < w.heap.size := World.block_lt_of_cell? w _ l1
        have hX1 : k < (X 1).length := (List.getElem?_eq_some_iff.1 e4).1
        clear g1 g2 g3 g4 hcell hin hout hlcell e4
        have HC : Hid (∀ W, Below w.heap.size w W → (W.cell? ⟨go, k * 3, none⟩ = some (.string T[k].name) ∧ W.cell? ⟨go, k * 3 + 1, none⟩ = some (.slice ko T[k].kinds.length kcap) ∧ W.cell? ⟨go, k * 3 + 1 + 1, none⟩ = some (.slice ro T[k].rows.length rcap)) ∧ (W.cell? ⟨b, off + k * 3, none⟩ = some (.string T[k].name) ∧ W.cell? ⟨b, off + k * 3 + 1, none⟩ = some (.slice ko2 T[k].kinds.length kcap2) ∧ W.cell? ⟨b, off + k * 3 + 1 + 1, none⟩ = some (.slice ro2 T[k].rows.length rcap2)) ∧ W.cell? ⟨bx, 1, none⟩ = some (.slice (some ⟨lb, 0, none⟩) (X 1).length lcap) ∧ W.cell? ⟨lb, k, none⟩ = some (.slice ro T[k].rows.length rcap)) := fun W hW =>
          ⟨⟨(hW.cell (p := ⟨go, k * 3, none⟩) hgo).trans p0, (hW.cell (p := ⟨go, k * 3 + 1, none⟩) hgo).trans p1, (hW.cell (p := ⟨go, k * 3 + 1 + 1, none⟩) hgo).trans p2⟩, ⟨(hW.cell (p := ⟨b, off + k * 3, none⟩) hbw).trans s0, (hW.cell (p := ⟨b, off + k * 3 + 1, none⟩) hbw).trans s1, (hW.cell (p := ⟨b, off + k * 3 + 1 + 1, none⟩) hbw).trans s2⟩, (hW.cell (p := ⟨bx, 1, none⟩) hbx).trans l0, (hW.cell (p := ⟨lb, k, none⟩) hlb).trans l1⟩
        have HSN : Hid (∀ W, Below w.heap.size w W → Calls Try.prog 51 #[.slice ko T[k].kinds.length kcap, .slice ko2 T[k].kinds.length kcap2] W fun e w' => e = .returned (.bool true) ∧ Below W.heap.size W w') := fun W hW => sameNumbers_any W _ _ T[k].kinds (e2.step (stepB hW)) (hk2.step (stepB hW)) (HSM.out k hln).1
        have HEQ : Hid (∀ W, Below w.heap.size w W → Calls Try.prog 52 #[.slice ro T[k].rows.length rcap, .slice ro2 T[k].rows.length rcap2] W fun e w' => e = .returned (.bool true) ∧ Below W.heap.size W w') := fun W hW => equal_any W _ _ T[k].rows (e3.step (stepB hW)) (hr2.step (stepB hW)) (HSM.out k hln).2 (HRW.out k hln)
        clear e2 e3 hk2 hr2 p0 p1 p2 s0 s1 s2 l0 l1
        generalize T[k].kinds.length = kl at *
        generalize T[k].rows.length = rl at *
        generalize T[k].name = nm at *
        obtain ⟨⟨a0, a1, a2⟩, ⟨a3, a4, a5⟩, a6, a7⟩ := HC.out _ hB
        go_wp2_with fail
        go_region_held3 (fun w' => w'.cell? ⟨go, k * 3 + 1, none⟩ = some (.slice ko kl kcap) ∧ w'.cell? ⟨b, off + k * 3 + 1, none⟩ = some (.slice ko2 kl kcap2)) (go_keep) (first | (go_at_call 51; refine (HSN.out _ hB.drew).mono ?_; rintro e w1 ⟨rfl, hB1⟩; have hB2 := bthen hB (((Below.refl _ _).drew).trans hB1); clear a0 a1 a2 a3 a4 a5 a6 a7; obtain ⟨⟨a0, a1, a2⟩, ⟨a3, a4, a5⟩, a6, a7⟩ := HC.out _ hB2))
        go_wp2_with fail
        go_region_held3 (fun w' => w'.cell? ⟨go, k * 3 + 1 + 1, none⟩ = some (.slice ro rl rcap) ∧ w'.cell? ⟨b, off + k * 3 + 1 + 1, none⟩ = some (.slice ro2 rl rcap2)) (go_keep) (first | (go_at_call 52; refine (HEQ.out _ hB2.drew).mono ?_; rintro e w3 ⟨rfl, hB3⟩; have hB4 := bthen hB2 (((Below.refl _ _).drew).trans hB3); clear a0 a1 a2 a3 a4 a5 a6 a7; obtain ⟨⟨a0, a1, a2⟩, ⟨a3, a4, a5⟩, a6, a7⟩ := HC.out _ hB4))
        go_wp2_with fail
        go_region_held3 (fun w' => w'.cell? ⟨bx, 1, none⟩ = some (.slice (some ⟨lb, 0, none⟩) (X 1).length lcap) ∧ w'.cell? ⟨lb, k, none⟩ = some (.slice ro rl rcap) ∧ w'.cell? ⟨b, off + k * 3 + 1 + 1, none⟩ = some (.slice ro2 rl rcap2)) (go_keep) (first | (go_at_call 52; refine (HEQ.out _ hB4.drew).mono ?_; rintro e w5 ⟨rfl, hB5⟩; have hB6 := bthen hB4 (((Below.refl _ _).drew).trans hB5); clear a0 a1 a2 a3 a4 a5 a6 a7; obtain ⟨⟨a0, a1, a2⟩, ⟨a3, a4, a5⟩, a6, a7⟩ := HC.out _ hB6))
        have hnn : (nm.toList != nm.toList) = false := by simp
        go_wp2_with fail
        go_big_quiet (fail)
        go_wp2
        go_roundw
        case rel => exact ⟨k + 1, by omega, by go_num, ⟨hB6.os, hB6.tape, hB6.output, hB6.size, hB6.block⟩⟩
        case measure => simp [intOf]; omega
      · have hd : decide ((T.length : Int) ≤ (k : Int)) = true := decide_eq_true (by omega)
        have hpp := hout (by omega)
        simp only [Prod.mk.injEq] at hpp
        obtain ⟨rfl, rfl, rfl⟩ := hpp
        have a0 := (hB.cell (p := ⟨go, k * 3, none⟩) hgo).trans p0
        have a1 := (hB.cell (p := ⟨go, k * 3 + 1, none⟩) hgo).trans p1
        have a2 := (hB.cell (p := ⟨go, k * 3 + 1 + 1, none⟩) hgo).trans p2
        clear hin hout
        unfold callers at a0
        go_wp2
        go_roundw
        case rel => exact ⟨k + 1, by omega, by go_num, hB⟩
        case measure => simp [intOf]; omega
    · go_wp2_with (go_at_call 53; refine (HWH.out _ hB).mono ?_; rintro e w9 ⟨rfl, hB9⟩)
      go_ret
      exact ⟨rfl, bthen hB hB9⟩
end Go.Proofs.Ytjoinhljdbljaaa
