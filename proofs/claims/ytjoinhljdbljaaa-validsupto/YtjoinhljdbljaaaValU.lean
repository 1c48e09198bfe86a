/- A plan is a tree. -/
import Derived.Test.YtjoinhljdbljaaaValO
import Derived.Test.YtjoinhljdbljaaaValL
import Derived.Test.YtjoinhljdbljaaaValR
namespace Go.Proofs.Ytjoinhljdbljaaa
open Go.RowKit

/-- a block whose first cells are these -/
def Box9 (w : World) (g : Nat) (cs : List Value) : Prop := g < w.heap.size ∧ ∀ (r : Nat) (u : Value), cs[r]? = some u → w.cell? ⟨g, r, none⟩ = some u
theorem Box9.new (w : World) (cs : List Value) (e : TypeId) : Box9 (w.alloc (.cells cs.toArray e)) w.heap.size cs := by
  refine ⟨by simp, fun r u hr => ?_⟩
  have e : (w.alloc (.cells cs.toArray e)).heap[w.heap.size]? = some (.cells cs.toArray e) := by rw [← World.alloc_eq]; simp
  simp only [World.cell?, e]
  simpa using hr
theorem Box9.b {w w' : World} {g : Nat} {cs : List Value} (h : Box9 w g cs) (hb : Below w.heap.size w w') : Box9 w' g cs :=
  ⟨Nat.lt_of_lt_of_le h.1 hb.size, fun r u hr => (hb.cell (p := ⟨g, r, none⟩) h.1).trans (h.2 r u hr)⟩

set_option maxRecDepth 20000 in
set_option maxHeartbeats 4000000 in
theorem isTree_any (w : World) (v : Value) (N : List VN) (h : NodesIn w [] v N) (hl1 : 1 ≤ N.length) (hl : N.length ≤ 12) :
    Calls Try.prog 65 #[v] w (BoolPost (TreeOK N) w) := by
  obtain ⟨ao, cap, rfl, hc, hm, hx⟩ := h.open
  have HV : Hid (NodesIn w [] (.slice ao N.length cap) N) := h
  clear h hx
  have HO : Hid (∀ (w : World) (n : VN) (p : NP), NodeIn w [] p n → Calls Try.prog 77 #[nodeV n p] w (BoolPost (BareOK n) w)) := otherFields_any
  have HA : Hid (∀ (w : World) (n : VN) (p : NP) (i : Nat), Calls Try.prog 78 #[nodeV n p, .int .i64 (i : Int)] w (BoolPost (Ahead n i) w)) := inputsAhead_any
  have HE : Hid (∀ w v N, NodesIn w [] v N → 1 ≤ N.length → N.length ≤ 12 → AheadAll N → Calls Try.prog 79 #[v] w (BoolPost (Once N) w)) := eachAskedOnce_any
  have HD : Hid (∀ w v N, NodesIn w [] v N → 1 ≤ N.length → N.length ≤ 12 → AheadAll N → Once N → Calls Try.prog 80 #[v] w (DeepPost (HighOK N) w)) := deepest_any
  go_enter Try.func65, Try.ntmps65
  go_wp2
  go_loopw [7] (fun j wr => ∃ k : Nat, k ≤ N.length ∧ j = .int .i64 k ∧ (∀ i (h : i < N.length), i < k → BareOK N[i] ∧ Ahead N[i] i) ∧ Below w.heap.size w wr) (fun j _ => N.length - (intOf j).toNat)
  case atStart => exact ⟨0, by omega, rfl, fun i _ h => by omega, Below.refl _ _⟩
  case round =>
    obtain ⟨k, hk, rfl, hall, hB⟩ := hrel
    by_cases hlt : k < N.length
    · obtain ⟨b, off, hao, hcell⟩ := (HV.out.step (stepB hB)).cells9 (by omega)
      subst hao
      obtain ⟨p, hp, c0, c1, c2, c3, c4, c5, c6, c7, c8⟩ := hcell k hlt
      have HN : Hid (BareOK N[k] ∧ Ahead N[k] k → ∀ i (h : i < N.length), i < k + 1 → BareOK N[i] ∧ Ahead N[i] i) := by
        intro hq i hi hik
        by_cases e : i = k
        · subst e; exact hq
        · exact hall i hi (by omega)
      have HF : Hid (¬ (BareOK N[k] ∧ Ahead N[k] k) → ¬ TreeOK N) := fun hq h => hq (h.1 k hlt)
      have HOk : Hid (∀ w, NodeIn w [] p N[k] → Calls Try.prog 77 #[nodeV N[k] p] w (BoolPost (BareOK N[k]) w)) := fun w h => HO.out _ _ _ h
      have HAk : Hid (∀ w, Calls Try.prog 78 #[nodeV N[k] p, .int .i64 (k : Int)] w (BoolPost (Ahead N[k] k) w)) := fun w => HA.out _ _ _ _
      have HNI : Hid (∀ W, Below wr.heap.size wr W → NodeIn W [] p N[k]) := fun W hW => hp.step (stepB hW)
      generalize BareOK N[k] = PB at *
      generalize Ahead N[k] k = PA at *
      clear hcell hall
      generalize N[k] = n at *
      obtain ⟨op, lf, rt, tb, ks, ct, cols, ots, sums⟩ := n
      obtain ⟨kv, cv, ov, sv⟩ := p
      unfold nodeV at HOk HAk
      obtain ⟨hp1, hp2, hp3, hp4⟩ := hp
      simp only at *
      obtain ⟨ko, kcap, rfl, _, _, g1⟩ := hp1.open
      clear g1
      obtain ⟨co, ccap, rfl, _, _, g2⟩ := hp2.open
      clear g2
      obtain ⟨oo, ocap, rfl, _, _, g3⟩ := hp3.open
      clear g3
      obtain ⟨so, scap, rfl, _, _, g4⟩ := hp4.open
      clear g4 hp1 hp2 hp3 hp4
      go_wp2_with fail
      refine calls_at (fun W => Below wr.heap.size wr W ∧ Box9 W wr.heap.size (nodeCells ⟨op, lf, rt, tb, ks, ct, cols, ots, sums⟩ (.slice ko ks.length kcap, .slice co cols.length ccap, .slice oo ots.length ocap, .slice so sums.length scap))) ⟨(Below.refl _ _).alloc (Nat.le_refl _) _, Box9.new _ _ _⟩ ?_
      rintro W ⟨hBW, hbx⟩
      refine (HOk.out W (HNI.out W hBW)).mono ?_
      rintro e w1 ⟨b1, rfl, hb1, hB1⟩
      have hby := hbx.b hB1
      have y0 := hby.2 0 _ rfl
      have y1 := hby.2 1 _ rfl
      have y2 := hby.2 2 _ rfl
      have y3 := hby.2 3 _ rfl
      have y4 := hby.2 4 _ rfl
      have y5 := hby.2 5 _ rfl
      have y6 := hby.2 6 _ rfl
      have y7 := hby.2 7 _ rfl
      have y8 := hby.2 8 _ rfl
      have hB3 := bthen hB (bthen hBW hB1)
      clear hby hbx hB1 hBW c0 c1 c2 c3 c4 c5 c6 c7 c8 HNI
      by_cases hb : PB
      · obtain rfl : b1 = true := hb1.2 hb
        clear hb1
        by_cases ha : PA
        · have HN2 : Hid (∀ i (h : i < N.length), i < k + 1 → BareOK N[i] ∧ Ahead N[i] i) := HN.out ⟨hb, ha⟩
          have HPA : Hid PA := ha
          clear hb ha
          go_wp2_with (go_at_call 78; refine (HAk.out _).mono ?_; rintro e w4 ⟨b4, rfl, hb4, hB4⟩; obtain rfl : b4 = true := hb4.2 HPA.out; clear hb4)
          go_roundw
          case rel => exact ⟨k + 1, by omega, by go_num, HN2.out, bthen hB3 hB4⟩
          case measure => simp [intOf]; omega
        · have HF2 : Hid (¬ TreeOK N) := HF.out (fun h => ha h.2)
          have HPA : Hid (¬ PA) := ha
          clear hb ha
          go_wp2_with (go_at_call 78; refine (HAk.out _).mono ?_; rintro e w4 ⟨b4, rfl, hb4, hB4⟩; obtain rfl : b4 = false := (by rw [← Bool.not_eq_true, hb4]; exact HPA.out); clear hb4)
          go_ret
          exact BoolPost.no HF2.out (bthen hB3 hB4)
      · have HF2 : Hid (¬ TreeOK N) := HF.out (fun h => hb h.1)
        obtain rfl : b1 = false := by rw [← Bool.not_eq_true, hb1]; exact hb
        clear hb hb1
        go_wp2
        go_ret
        exact BoolPost.no HF2.out hB3
    · have HALL : Hid (NodesOK N) := fun i hi => hall i hi (by omega)
      have HAA : Hid (AheadAll N) := HALL.out.ahead
      have HV2 : Hid (NodesIn wr [] (.slice ao N.length cap) N) := HV.out.step (stepB hB)
      clear hall
      by_cases ho : Once N
      · have HOO : Hid (Once N) := ho
        clear ho
        go_wp2_with (first | (go_at_call 79; refine (HE.out _ _ N HV2.out hl1 hl HAA.out).mono ?_; rintro e w1 ⟨b1, rfl, hb1, hB1⟩; obtain rfl : b1 = true := hb1.2 HOO.out; clear hb1) | (go_at_call 80; refine (HD.out _ _ N (HV2.out.step (stepB hB1)) hl1 hl HAA.out HOO.out).mono ?_; rintro e w2 ⟨m, rfl, hm2, hB2⟩))
        go_ret
        refine ⟨decide (m ≤ 8), rfl, ?_, bthen (bthen hB hB1) hB2⟩
        rw [decide_eq_true_iff, hm2]
        exact ⟨fun h => ⟨HALL.out, HOO.out, h⟩, fun h => h.2.2⟩
      · have HOO : Hid (¬ Once N) := ho
        have HF : Hid (¬ TreeOK N) := fun h => ho h.2.1
        clear ho
        go_wp2_with (go_at_call 79; refine (HE.out _ _ N HV2.out hl1 hl HAA.out).mono ?_; rintro e w1 ⟨b1, rfl, hb1, hB1⟩; obtain rfl : b1 = false := (by rw [← Bool.not_eq_true, hb1]; exact HOO.out); clear hb1)
        go_ret
        exact BoolPost.no HF.out (bthen hB hB1)
end Go.Proofs.Ytjoinhljdbljaaa
