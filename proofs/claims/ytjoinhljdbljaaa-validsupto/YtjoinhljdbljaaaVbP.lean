/- A node is as it was. Nodes are as they were. -/
import Derived.Test.YtjoinhljdbljaaaVbM
import Derived.Test.YtjoinhljdbljaaaValZ
import Derived.Test.YtjoinhljdbljaaaVbJ
namespace Go.Proofs.Ytjoinhljdbljaaa
open Go.RowKit

set_option maxRecDepth 20000 in
set_option maxHeartbeats 8000000 in
theorem nodeStill_any (w : World) (n : VN) (p p2 : NP) (h1 : NodeIn w [] p n) (h2 : NodeIn w [] p2 n) (hs : NodeSmall n) :
    Calls Try.prog 54 #[nodeV n p, nodeV n p2] w fun e w' => e = .returned (.bool true) ∧ Below w.heap.size w w' := by
  obtain ⟨op, lf, rt, tb, ks, ct, cols, ots, sums⟩ := n
  obtain ⟨kv, cv, ov, sv⟩ := p
  obtain ⟨kv2, cv2, ov2, sv2⟩ := p2
  obtain ⟨a1, a2, a3, a4⟩ := h1
  obtain ⟨b1, b2, b3, b4⟩ := h2
  obtain ⟨hs1, hs2, hs3, hs4⟩ := hs
  simp only at *
  obtain ⟨ko, kcap, rfl, _, _, g1⟩ := a1.open
  obtain ⟨co, ccap, rfl, _, _, g2⟩ := a2.open
  obtain ⟨oo, ocap, rfl, _, _, g3⟩ := a3.open
  obtain ⟨so, scap, rfl, _, _, g4⟩ := a4.open
  obtain ⟨ko2, kcap2, rfl, _, _, g5⟩ := b1.open
  obtain ⟨co2, ccap2, rfl, _, _, g6⟩ := b2.open
  obtain ⟨oo2, ocap2, rfl, _, _, g7⟩ := b3.open
  obtain ⟨so2, scap2, rfl, _, _, g8⟩ := b4.open
  clear g1 g2 g3 g4 g5 g6 g7 g8
  have HK1 : Hid (KeysIn w [] (.slice ko ks.length kcap) ks) := a1
  have HK2 : Hid (KeysIn w [] (.slice ko2 ks.length kcap2) ks) := b1
  have HS1 : Hid (SumsIn w [] (.slice so sums.length scap) sums) := a4
  have HS2 : Hid (SumsIn w [] (.slice so2 sums.length scap2) sums) := b4
  have HC : Hid (∀ W, Below w.heap.size w W → Calls Try.prog 51 #[.slice co cols.length ccap, .slice co2 cols.length ccap2] W fun e w' => e = .returned (.bool true) ∧ Below W.heap.size W w') := fun W hW => sameNumbers_any W _ _ cols (a2.step (stepB hW)) (b2.step (stepB hW)) hs2
  have HO : Hid (∀ W, Below w.heap.size w W → Calls Try.prog 51 #[.slice oo ots.length ocap, .slice oo2 ots.length ocap2] W fun e w' => e = .returned (.bool true) ∧ Below W.heap.size W w') := fun W hW => sameNumbers_any W _ _ ots (a3.step (stepB hW)) (b3.step (stepB hW)) hs3
  clear a1 a2 a3 a4 b1 b2 b3 b4
  unfold nodeV
  simp only
  go_enter Try.func54, Try.ntmps54
  go_wp2_with fail
  refine wp_at (fun W => Below w.heap.size w W ∧ Box9 W w.heap.size (nodeCells ⟨op, lf, rt, tb, ks, ct, cols, ots, sums⟩ (.slice ko ks.length kcap, .slice co cols.length ccap, .slice oo ots.length ocap, .slice so sums.length scap)) ∧ Box9 W (w.heap.size + 1) (nodeCells ⟨op, lf, rt, tb, ks, ct, cols, ots, sums⟩ (.slice ko2 ks.length kcap2, .slice co2 cols.length ccap2, .slice oo2 ots.length ocap2, .slice so2 sums.length scap2))) ⟨((Below.refl _ _).alloc (Nat.le_refl _) _).alloc (by simp) _, (Box9.new w _ _).b ((Below.refl _ _).alloc (Nat.le_refl _) _), by have := Box9.new (w.alloc (.cells (nodeCells ⟨op, lf, rt, tb, ks, ct, cols, ots, sums⟩ (.slice ko ks.length kcap, .slice co cols.length ccap, .slice oo ots.length ocap, .slice so sums.length scap)).toArray 102)) (nodeCells ⟨op, lf, rt, tb, ks, ct, cols, ots, sums⟩ (.slice ko2 ks.length kcap2, .slice co2 cols.length ccap2, .slice oo2 ots.length ocap2, .slice so2 sums.length scap2)) 106; rw [World.size_alloc] at this; exact this⟩ ?_
  rintro W ⟨hBW, hx1, hx2⟩
  have HX1 : Hid (∀ W', Below W.heap.size W W' → W'.cell? ⟨w.heap.size, 4, none⟩ = some (.slice ko ks.length kcap) ∧ W'.cell? ⟨w.heap.size, 8, none⟩ = some (.slice so sums.length scap) ∧ W'.cell? ⟨w.heap.size, 6, none⟩ = some (.slice co cols.length ccap) ∧ W'.cell? ⟨w.heap.size, 7, none⟩ = some (.slice oo ots.length ocap)) := fun W' h => ⟨(hx1.b h).2 4 _ rfl, (hx1.b h).2 8 _ rfl, (hx1.b h).2 6 _ rfl, (hx1.b h).2 7 _ rfl⟩
  have HX2 : Hid (∀ W', Below W.heap.size W W' → W'.cell? ⟨w.heap.size + 1, 4, none⟩ = some (.slice ko2 ks.length kcap2) ∧ W'.cell? ⟨w.heap.size + 1, 8, none⟩ = some (.slice so2 sums.length scap2) ∧ W'.cell? ⟨w.heap.size + 1, 6, none⟩ = some (.slice co2 cols.length ccap2) ∧ W'.cell? ⟨w.heap.size + 1, 7, none⟩ = some (.slice oo2 ots.length ocap2)) := fun W' h => ⟨(hx2.b h).2 4 _ rfl, (hx2.b h).2 8 _ rfl, (hx2.b h).2 6 _ rfl, (hx2.b h).2 7 _ rfl⟩
  clear hx1 hx2
  go_loopw [5] (fun j wr => ∃ k : Nat, k ≤ ks.length ∧ j = .int .i64 k ∧ Below W.heap.size W wr) (fun j _ => ks.length - (intOf j).toNat)
  case atStart => exact ⟨0, by omega, rfl, Below.refl _ _⟩
  case round =>
    obtain ⟨k, hk, rfl, hB⟩ := hrel
    obtain ⟨c0, _, _, _⟩ := HX1.out _ hB
    obtain ⟨c1, _, _, _⟩ := HX2.out _ hB
    have hBw := bthen hBW hB
    by_cases hlt : k < ks.length
    · obtain ⟨b, off, hao, hcell⟩ := (HK1.out.step (stepB hBw)).cells (by omega)
      subst hao
      obtain ⟨x0, x1, x2⟩ := hcell k hlt
      obtain ⟨b2, off2, hao2, hcell2⟩ := (HK2.out.step (stepB hBw)).cells (by omega)
      subst hao2
      obtain ⟨y0, y1, y2⟩ := hcell2 k hlt
      generalize ks[k] = q at *
      obtain ⟨qc, qd, ql⟩ := q
      simp only at x0 x1 x2 y0 y1 y2
      clear hcell hcell2
      go_wp2_with fail
      go_big_quiet (fail)
      go_wp2
      go_roundw
      case rel => exact ⟨k + 1, by omega, by go_num, ⟨hB.os, hB.tape, hB.output, hB.size, hB.block⟩⟩
      case measure => simp [intOf]; omega
    · go_wp2_with fail
      go_loopw [6] (fun j wr => ∃ k : Nat, k ≤ sums.length ∧ j = .int .i64 k ∧ Below W.heap.size W wr) (fun j _ => sums.length - (intOf j).toNat)
      case atStart => exact ⟨0, by omega, rfl, hB⟩
      case round =>
        obtain ⟨k2, hk2, rfl, hB2⟩ := hrel
        clear c0 c1 hBw hB
        obtain ⟨_, c0, c6, c7⟩ := HX1.out _ hB2
        obtain ⟨_, c1, d6, d7⟩ := HX2.out _ hB2
        have hBw := bthen hBW hB2
        by_cases hlt2 : k2 < sums.length
        · obtain ⟨b, off, hao, hcell⟩ := (HS1.out.step (stepB hBw)).cells (by omega)
          subst hao
          obtain ⟨x0, x1⟩ := hcell k2 hlt2
          obtain ⟨b2, off2, hao2, hcell2⟩ := (HS2.out.step (stepB hBw)).cells (by omega)
          subst hao2
          obtain ⟨y0, y1⟩ := hcell2 k2 hlt2
          generalize sums[k2] = q at *
          obtain ⟨qo, qc⟩ := q
          simp only at x0 x1 y0 y1
          clear hcell hcell2
          go_wp2_with fail
          go_big_quiet (fail)
          go_wp2
          go_roundw
          case rel => exact ⟨k2 + 1, by omega, by go_num, ⟨hB2.os, hB2.tape, hB2.output, hB2.size, hB2.block⟩⟩
          case measure => simp [intOf]; omega
        · go_wp2_with fail
          refine (HC.out _ hBw).mono ?_
          rintro e w5 ⟨rfl, hB5⟩
          have hB6 := bthen hB2 hB5
          clear c0 c1 c6 c7 d6 d7
          obtain ⟨_, _, c6, c7⟩ := HX1.out _ hB6
          obtain ⟨_, _, d6, d7⟩ := HX2.out _ hB6
          go_wp2_with (go_at_call 51; refine (HO.out _ (bthen hBW hB6)).mono ?_; rintro e w7 ⟨rfl, hB7⟩)
          go_ret
          exact ⟨rfl, bthen hBW (bthen hB6 hB7)⟩
end Go.Proofs.Ytjoinhljdbljaaa

namespace Go.Proofs.Ytjoinhljdbljaaa
open Go.RowKit

theorem LiesC.less0 {w : World} {F : List Nat} {v : Value} {sz n : Nat} {cs : List Value} (h : LiesC w F v sz n cs) : LiesC w [] v sz n cs := by
  obtain ⟨ao, cap, rfl, hc, hm, hl, hx⟩ := h
  refine ⟨ao, cap, rfl, hc, hm, hl, fun hn => ?_⟩
  obtain ⟨b, off, rfl, hb, hx⟩ := hx hn
  exact ⟨b, off, rfl, by simp, hx⟩
theorem KeysIn.less0 {w : World} {F : List Nat} {v : Value} {l : List K} (h : KeysIn w F v l) : KeysIn w [] v l := LiesC.less0 h
theorem SumsIn.less0 {w : World} {F : List Nat} {v : Value} {l : List VS} (h : SumsIn w F v l) : SumsIn w [] v l := LiesC.less0 h
theorem NodSt.row {bx go : Nat} {w : World} {N : List VN} {Vf : Nat → Value} {X : Nat → List Value} {qs : List (VN × NP)} (h : NodSt bx go w N (N.length + 8) Vf X qs) {i : Nat} (hi : i < N.length + 8) : ∃ (n : VN) (p : NP), (∀ r u, (nodeCells n p)[r]? = some u → w.cell? ⟨go, i * 9 + r, none⟩ = some u) ∧ (∀ h : i < N.length, n = N[i] ∧ NodeIn w [] p n) ∧ (N.length ≤ i → n = blankN ∧ p = nil4) := by
  obtain ⟨h1, h2, h3, h4, h5, _⟩ := h
  have hip : i < qs.length := by omega
  obtain ⟨a, b⟩ := h5 i _ (List.getElem?_eq_getElem hip)
  refine ⟨qs[i].1, qs[i].2, fun r u hr => ?_, fun hh => ?_, fun hh => ?_⟩
  · have hr9 : r < 9 := by have := (List.getElem?_eq_some_iff.1 hr).1; simpa [nodeCells] using this
    exact h3.cell (by rw [nodes9_get _ i r hip hr9]; exact hr)
  · obtain ⟨e1, e2, e3, e4, e5⟩ := a hh
    refine ⟨e1, ?_⟩
    rw [e1]
    exact ⟨KeysIn.less0 (FullK.in e2), (FullI.in e3).less (by simp), (FullI.in e4).less (by simp), SumsIn.less0 (FullS.in e5)⟩
  · have := b hh
    rw [this]
    exact ⟨rfl, rfl⟩

set_option maxRecDepth 20000 in
set_option maxHeartbeats 8000000 in
theorem nodesStill_any (w : World) (bx go : Nat) (pv : Value) (N : List VN) (Vf : Nat → Value) (X : Nat → List Value) (qs : List (VN × NP)) (hS : NodSt bx go w N (N.length + 8) Vf X qs) (hp : NodesIn w [] pv N) (hb : NodBulk N) (h0 : (X 0).length ≤ 9223372036854775807) (h1 : (X 1).length ≤ 9223372036854775807) :
    Calls Try.prog 18 #[.pointer (some ⟨bx, 0, none⟩), .slice (some ⟨go, 0, none⟩) N.length (N.length + 8), pv] w fun e w' => e = .returned (.bool true) ∧ Below w.heap.size w w' := by
  obtain ⟨hN, hsm⟩ := hb
  obtain ⟨ao, cap, rfl, hc, hm, g1⟩ := hp.open
  clear g1
  have HS : Hid (NodSt bx go w N (N.length + 8) Vf X qs) := hS
  have HV : Hid (NodesIn w [] (.slice ao N.length cap) N) := hp
  have HWH : Hid (∀ W, Below w.heap.size w W → Calls Try.prog 53 #[.pointer (some ⟨bx, 0, none⟩)] W fun e w' => e = .returned (.bool true) ∧ Below W.heap.size W w') := fun W hW => lentWhole_any W bx Vf X _ (hS.1.b hW) (hS.2.1.step (stepB hW)) h0 h1 (by have := hS.2.2.2.2.2.1; omega) (by have := hS.2.2.2.2.2.2.1; omega) (by have := hS.2.2.2.2.2.2.2; omega)
  have HSM : Hid (∀ i (h : i < N.length), NodeSmall N[i]) := hsm
  have hgo := hS.2.2.1.lt
  clear hS hp hsm
  go_enter Try.func18, Try.ntmps18
  go_wp2_with fail
  go_loopw [8] (fun j wr => ∃ k : Nat, k ≤ N.length + 8 ∧ j = .int .i64 k ∧ Below w.heap.size w wr) (fun j _ => N.length + 8 - (intOf j).toNat)
  case atStart => exact ⟨0, by omega, rfl, Below.refl _ _⟩
  case round =>
    obtain ⟨k, hk, rfl, hB⟩ := hrel
    by_cases hlt : k < N.length + 8
    · obtain ⟨n, p, hr, hin, hout⟩ := HS.out.row hlt
      by_cases hln : k < N.length
      · have hd : decide ((N.length : Int) ≤ (k : Int)) = false := decide_eq_false (by omega)
        obtain ⟨e1, e2⟩ := hin hln
        obtain ⟨b, off, hao, hcell⟩ := HV.out.cells9 (by omega)
        subst hao
        obtain ⟨p2, hp2, s0, s1, s2, s3, s4, s5, s6, s7, s8⟩ := hcell k hln
        have hbw : b < w.heap.size := World.block_lt_of_cell? w _ s0
        rw [← e1] at hp2 s0 s1 s2 s3 s5
        have hsk := HSM.out k hln
        rw [← e1] at hsk
        have HNS : Hid (∀ W, Below w.heap.size w W → Calls Try.prog 54 #[nodeV n p, nodeV n p2] W fun e w' => e = .returned (.bool true) ∧ Below W.heap.size W w') := fun W hW => nodeStill_any W n p p2 (e2.step (stepB hW)) (hp2.step (stepB hW)) hsk
        clear hin hout hcell e1 hsk
        obtain ⟨op, lf, rt, tb, ks, ct, cols, ots, sums⟩ := n
        obtain ⟨kv, cv, ov, sv⟩ := p
        obtain ⟨kv2, cv2, ov2, sv2⟩ := p2
        obtain ⟨a1, a2, a3, a4⟩ := e2
        obtain ⟨b1, b2, b3, b4⟩ := hp2
        unfold nodeV at HNS
        simp only at *
        obtain ⟨ko, kcap, rfl, _, _, g1⟩ := a1.open
        obtain ⟨co, ccap, rfl, _, _, g2⟩ := a2.open
        obtain ⟨oo, ocap, rfl, _, _, g3⟩ := a3.open
        obtain ⟨so, scap, rfl, _, _, g4⟩ := a4.open
        obtain ⟨ko2, kcap2, rfl, _, _, g5⟩ := b1.open
        obtain ⟨co2, ccap2, rfl, _, _, g6⟩ := b2.open
        obtain ⟨oo2, ocap2, rfl, _, _, g7⟩ := b3.open
        obtain ⟨so2, scap2, rfl, _, _, g8⟩ := b4.open
        clear g1 g2 g3 g4 g5 g6 g7 g8 a1 a2 a3 a4 b1 b2 b3 b4
        have HC : Hid (∀ W, Below w.heap.size w W → (W.cell? ⟨go, k * 9, none⟩ = some (.int .i64 op) ∧ W.cell? ⟨go, k * 9 + 1, none⟩ = some (.int .i64 lf) ∧ W.cell? ⟨go, k * 9 + 1 + 1, none⟩ = some (.int .i64 rt) ∧ W.cell? ⟨go, k * 9 + 1 + 1 + 1, none⟩ = some (.string tb) ∧ W.cell? ⟨go, k * 9 + 1 + 1 + 1 + 1, none⟩ = some (.slice ko ks.length kcap) ∧ W.cell? ⟨go, k * 9 + 1 + 1 + 1 + 1 + 1, none⟩ = some (.int .i64 ct) ∧ W.cell? ⟨go, k * 9 + 1 + 1 + 1 + 1 + 1 + 1, none⟩ = some (.slice co cols.length ccap) ∧ W.cell? ⟨go, k * 9 + 1 + 1 + 1 + 1 + 1 + 1 + 1, none⟩ = some (.slice oo ots.length ocap) ∧ W.cell? ⟨go, k * 9 + 1 + 1 + 1 + 1 + 1 + 1 + 1 + 1, none⟩ = some (.slice so sums.length scap)) ∧ (W.cell? ⟨b, off + k * 9, none⟩ = some (.int .i64 op) ∧ W.cell? ⟨b, off + k * 9 + 1, none⟩ = some (.int .i64 lf) ∧ W.cell? ⟨b, off + k * 9 + 1 + 1, none⟩ = some (.int .i64 rt) ∧ W.cell? ⟨b, off + k * 9 + 1 + 1 + 1, none⟩ = some (.string tb) ∧ W.cell? ⟨b, off + k * 9 + 1 + 1 + 1 + 1, none⟩ = some (.slice ko2 ks.length kcap2) ∧ W.cell? ⟨b, off + k * 9 + 1 + 1 + 1 + 1 + 1, none⟩ = some (.int .i64 ct) ∧ W.cell? ⟨b, off + k * 9 + 1 + 1 + 1 + 1 + 1 + 1, none⟩ = some (.slice co2 cols.length ccap2) ∧ W.cell? ⟨b, off + k * 9 + 1 + 1 + 1 + 1 + 1 + 1 + 1, none⟩ = some (.slice oo2 ots.length ocap2) ∧ W.cell? ⟨b, off + k * 9 + 1 + 1 + 1 + 1 + 1 + 1 + 1 + 1, none⟩ = some (.slice so2 sums.length scap2))) := fun W hW => ⟨⟨(hW.cell (p := ⟨go, k * 9, none⟩) hgo).trans (hr 0 _ rfl), (hW.cell (p := ⟨go, k * 9 + 1, none⟩) hgo).trans (hr 1 _ rfl), (hW.cell (p := ⟨go, k * 9 + 1 + 1, none⟩) hgo).trans (hr 2 _ rfl), (hW.cell (p := ⟨go, k * 9 + 1 + 1 + 1, none⟩) hgo).trans (hr 3 _ rfl), (hW.cell (p := ⟨go, k * 9 + 1 + 1 + 1 + 1, none⟩) hgo).trans (hr 4 _ rfl), (hW.cell (p := ⟨go, k * 9 + 1 + 1 + 1 + 1 + 1, none⟩) hgo).trans (hr 5 _ rfl), (hW.cell (p := ⟨go, k * 9 + 1 + 1 + 1 + 1 + 1 + 1, none⟩) hgo).trans (hr 6 _ rfl), (hW.cell (p := ⟨go, k * 9 + 1 + 1 + 1 + 1 + 1 + 1 + 1, none⟩) hgo).trans (hr 7 _ rfl), (hW.cell (p := ⟨go, k * 9 + 1 + 1 + 1 + 1 + 1 + 1 + 1 + 1, none⟩) hgo).trans (hr 8 _ rfl)⟩, ⟨(hW.cell (p := ⟨b, off + k * 9, none⟩) hbw).trans s0, (hW.cell (p := ⟨b, off + k * 9 + 1, none⟩) hbw).trans s1, (hW.cell (p := ⟨b, off + k * 9 + 1 + 1, none⟩) hbw).trans s2, (hW.cell (p := ⟨b, off + k * 9 + 1 + 1 + 1, none⟩) hbw).trans s3, (hW.cell (p := ⟨b, off + k * 9 + 1 + 1 + 1 + 1, none⟩) hbw).trans s4, (hW.cell (p := ⟨b, off + k * 9 + 1 + 1 + 1 + 1 + 1, none⟩) hbw).trans s5, (hW.cell (p := ⟨b, off + k * 9 + 1 + 1 + 1 + 1 + 1 + 1, none⟩) hbw).trans s6, (hW.cell (p := ⟨b, off + k * 9 + 1 + 1 + 1 + 1 + 1 + 1 + 1, none⟩) hbw).trans s7, (hW.cell (p := ⟨b, off + k * 9 + 1 + 1 + 1 + 1 + 1 + 1 + 1 + 1, none⟩) hbw).trans s8⟩⟩
        clear hr s0 s1 s2 s3 s4 s5 s6 s7 s8
        obtain ⟨⟨x0, x1, x2, x3, x4, x5, x6, x7, x8⟩, ⟨y0, y1, y2, y3, y4, y5, y6, y7, y8⟩⟩ := HC.out _ hB
        go_wp2_with fail
        go_region_held3 (fun w' => w'.cell? ⟨go, k * 9, none⟩ = some (.int .i64 op) ∧ w'.cell? ⟨go, k * 9 + 1, none⟩ = some (.int .i64 lf) ∧ w'.cell? ⟨go, k * 9 + 1 + 1, none⟩ = some (.int .i64 rt) ∧ w'.cell? ⟨go, k * 9 + 1 + 1 + 1, none⟩ = some (.string tb) ∧ w'.cell? ⟨go, k * 9 + 1 + 1 + 1 + 1, none⟩ = some (.slice ko ks.length kcap) ∧ w'.cell? ⟨go, k * 9 + 1 + 1 + 1 + 1 + 1, none⟩ = some (.int .i64 ct) ∧ w'.cell? ⟨go, k * 9 + 1 + 1 + 1 + 1 + 1 + 1, none⟩ = some (.slice co cols.length ccap) ∧ w'.cell? ⟨go, k * 9 + 1 + 1 + 1 + 1 + 1 + 1 + 1, none⟩ = some (.slice oo ots.length ocap) ∧ w'.cell? ⟨go, k * 9 + 1 + 1 + 1 + 1 + 1 + 1 + 1 + 1, none⟩ = some (.slice so sums.length scap) ∧ w'.cell? ⟨b, off + k * 9, none⟩ = some (.int .i64 op) ∧ w'.cell? ⟨b, off + k * 9 + 1, none⟩ = some (.int .i64 lf) ∧ w'.cell? ⟨b, off + k * 9 + 1 + 1, none⟩ = some (.int .i64 rt) ∧ w'.cell? ⟨b, off + k * 9 + 1 + 1 + 1, none⟩ = some (.string tb) ∧ w'.cell? ⟨b, off + k * 9 + 1 + 1 + 1 + 1, none⟩ = some (.slice ko2 ks.length kcap2) ∧ w'.cell? ⟨b, off + k * 9 + 1 + 1 + 1 + 1 + 1, none⟩ = some (.int .i64 ct) ∧ w'.cell? ⟨b, off + k * 9 + 1 + 1 + 1 + 1 + 1 + 1, none⟩ = some (.slice co2 cols.length ccap2) ∧ w'.cell? ⟨b, off + k * 9 + 1 + 1 + 1 + 1 + 1 + 1 + 1, none⟩ = some (.slice oo2 ots.length ocap2) ∧ w'.cell? ⟨b, off + k * 9 + 1 + 1 + 1 + 1 + 1 + 1 + 1 + 1, none⟩ = some (.slice so2 sums.length scap2)) (go_keep) (first | (go_at_call 54; refine (HNS.out _ hB.drew).mono ?_; rintro e w1 ⟨rfl, hB1⟩; have hB2 := bthen hB (((Below.refl _ _).drew).trans hB1); clear x0 x1 x2 x3 x4 x5 x6 x7 x8 y0 y1 y2 y3 y4 y5 y6 y7 y8; obtain ⟨⟨x0, x1, x2, x3, x4, x5, x6, x7, x8⟩, ⟨y0, y1, y2, y3, y4, y5, y6, y7, y8⟩⟩ := HC.out _ hB2))
        clear x0 x1 x2 x3 x4 x5 x6 x7 x8 y0 y1 y2 y3 y4 y5 y6 y7 y8
        go_wp2
        go_roundw
        case rel => exact ⟨k + 1, by omega, by go_num, hB2⟩
        case measure => simp [intOf]; omega
      · have hd : decide ((N.length : Int) ≤ (k : Int)) = true := decide_eq_true (by omega)
        obtain ⟨rfl, rfl⟩ := hout (by omega)
        have c0 := (hB.cell (p := ⟨go, k * 9 + 0, none⟩) hgo).trans (hr 0 _ rfl)
        have c4 := (hB.cell (p := ⟨go, k * 9 + 4, none⟩) hgo).trans (hr 4 _ rfl)
        have c6 := (hB.cell (p := ⟨go, k * 9 + 6, none⟩) hgo).trans (hr 6 _ rfl)
        have c7 := (hB.cell (p := ⟨go, k * 9 + 7, none⟩) hgo).trans (hr 7 _ rfl)
        have c8 := (hB.cell (p := ⟨go, k * 9 + 8, none⟩) hgo).trans (hr 8 _ rfl)
        simp only [blankN, nil4, Nat.add_zero] at c0 c4 c6 c7 c8
        clear hin hout hr
        go_wp2_with fail
        go_big_quiet (fail)
        go_wp2
        go_roundw
        case rel => exact ⟨k + 1, by omega, by go_num, ⟨hB.os, hB.tape, hB.output, hB.size, hB.block⟩⟩
        case measure => simp [intOf]; omega
    · go_wp2_with (go_at_call 53; refine (HWH.out _ hB).mono ?_; rintro e w9 ⟨rfl, hB9⟩)
      go_ret
      exact ⟨rfl, bthen hB hB9⟩
end Go.Proofs.Ytjoinhljdbljaaa
