/- The program's Valid. -/
import Derived.Test.YtjoinhljdbljaaaVbW
import Derived.Test.YtjoinhljdbljaaaValU
namespace Go.Proofs.Ytjoinhljdbljaaa
open Go.RowKit

def Small (T : List VT) (N : List VN) : Prop := T.length ≤ 1048576 ∧ N.length ≤ 1048576 ∧ (∀ i (h : i < T.length), TabSmall T[i]) ∧ ∀ i (h : i < N.length), NodeSmall N[i]
set_option maxRecDepth 20000 in
set_option maxHeartbeats 4000000 in
theorem pvalid_any (w : World) (tv pv : Value) (T : List VT) (N : List VN) (ht : TabsIn w [] tv T) (hp : NodesIn w [] pv N) (hs : Small T N) :
    Calls Try.prog 45 #[tv, pv] w (BoolPost (ValidOK T N) w) := by
  obtain ⟨hT, hN, hsT, hsN⟩ := hs
  obtain ⟨tao, tcap, rfl, htc, htm, g1⟩ := ht.open
  obtain ⟨ao, cap, rfl, hc, hm, g2⟩ := hp.open
  clear g1 g2
  have HT : Hid (∀ W, Below w.heap.size w W → TabsIn W [] (.slice tao T.length tcap) T) := fun W h => ht.step (stepB h)
  have HV : Hid (∀ W, Below w.heap.size w W → NodesIn W [] (.slice ao N.length cap) N) := fun W h => hp.step (stepB h)
  have HPL : Hid (∀ w v T, TabsIn w [] v T → T.length ≤ 1048576 → Calls Try.prog 63 #[v] w (MapPost T w)) := places_any
  have HGT : Hid (∀ W, Below w.heap.size w W → Calls Try.prog 64 #[.slice tao T.length tcap] W (BoolPost (TablesOK T) W)) := fun W h => goodTables_any W _ T (HT.out W h) hT hsT
  have HSN : Hid (∀ i (h : i < N.length), NodeSmall N[i]) := hsN
  clear ht hp hsT hsN
  by_cases hl : 1 ≤ N.length ∧ N.length ≤ 12
  · have d1 : decide ((N.length : Int) < 1) = false := decide_eq_false (by omega)
    have d2 : decide ((12 : Int) < N.length) = false := decide_eq_false (by omega)
    have HIT : Hid (∀ W, Below w.heap.size w W → Calls Try.prog 65 #[.slice ao N.length cap] W (BoolPost (TreeOK N) W)) := fun W h => isTree_any W _ N (HV.out W h) hl.1 hl.2
    have HCM : Hid (∀ W bm, Below w.heap.size w W → MapIn W bm (nameEnts T) → NamesOK T → NodesOK N → Calls Try.prog 66 #[.slice tao T.length tcap, .map (some bm), .slice ao N.length cap] W (BoolPost (ColumnsOK T N) W)) := fun W bm h h1 h2 h3 => goodColumns_any W _ _ T N bm (HT.out W h) h1 h2 (HV.out W h) h3 hl.2 hT HSN.out
    have HLL : Hid (1 ≤ N.length ∧ N.length ≤ 12) := hl
    clear HV
    go_enter Try.func45, Try.ntmps45
    by_cases hn : NamesOK T
    · have HNA : Hid (NamesOK T) := hn
      clear hn
      by_cases ht : TablesOK T
      · have HTO : Hid (TablesOK T) := ht
        clear ht
        by_cases hr : TreeOK N
        · have HTR : Hid (TreeOK N) := hr
          clear hr
          go_wp2_with (first | (go_at_call 63; refine (HPL.out _ _ T (HT.out _ (Below.refl _ _)) hT).mono ?_; rintro e w1 ⟨m, b1, rfl, hb1, hm1, hB1⟩; obtain rfl : b1 = true := hb1.2 HNA.out; obtain ⟨bm, rfl, hm2⟩ := hm1 HNA.out; clear hb1 hm1) | (go_at_call 64; refine (HGT.out _ hB1).mono ?_; rintro e w2 ⟨b2, rfl, hb2, hB2⟩; obtain rfl : b2 = true := hb2.2 HTO.out; clear hb2; have hB3 := bthen hB1 hB2) | (go_at_call 65; refine (HIT.out _ hB3).mono ?_; rintro e w4 ⟨b4, rfl, hb4, hB4⟩; obtain rfl : b4 = true := hb4.2 HTR.out; clear hb4; have hB5 := bthen hB3 hB4) | (go_at_call 66; refine (HCM.out _ bm hB5 ((hm2.b hB2).b hB4) HNA.out HTR.out.1).mono ?_; rintro e w6 ⟨b6, rfl, hb6, hB6⟩))
          go_ret
          exact ⟨b6, rfl, by rw [hb6]; exact ⟨fun h => ⟨HLL.out, HNA.out, HTO.out, HTR.out, h⟩, fun h => h.2.2.2.2⟩, bthen hB5 hB6⟩
        · have HTR : Hid (¬ TreeOK N) := hr
          have HF : Hid (¬ ValidOK T N) := fun h => hr h.2.2.2.1
          clear hr
          go_wp2_with (first | (go_at_call 63; refine (HPL.out _ _ T (HT.out _ (Below.refl _ _)) hT).mono ?_; rintro e w1 ⟨m, b1, rfl, hb1, hm1, hB1⟩; obtain rfl : b1 = true := hb1.2 HNA.out; clear hb1 hm1) | (go_at_call 64; refine (HGT.out _ hB1).mono ?_; rintro e w2 ⟨b2, rfl, hb2, hB2⟩; obtain rfl : b2 = true := hb2.2 HTO.out; clear hb2; have hB3 := bthen hB1 hB2) | (go_at_call 65; refine (HIT.out _ hB3).mono ?_; rintro e w4 ⟨b4, rfl, hb4, hB4⟩; obtain rfl : b4 = false := (by rw [← Bool.not_eq_true, hb4]; exact HTR.out); clear hb4; have hB5 := bthen hB3 hB4))
          go_ret
          exact BoolPost.no HF.out hB5
      · have HTO : Hid (¬ TablesOK T) := ht
        have HF : Hid (¬ ValidOK T N) := fun h => ht h.2.2.1
        clear ht
        go_wp2_with (first | (go_at_call 63; refine (HPL.out _ _ T (HT.out _ (Below.refl _ _)) hT).mono ?_; rintro e w1 ⟨m, b1, rfl, hb1, hm1, hB1⟩; obtain rfl : b1 = true := hb1.2 HNA.out; clear hb1 hm1) | (go_at_call 64; refine (HGT.out _ hB1).mono ?_; rintro e w2 ⟨b2, rfl, hb2, hB2⟩; obtain rfl : b2 = false := (by rw [← Bool.not_eq_true, hb2]; exact HTO.out); clear hb2; have hB3 := bthen hB1 hB2))
        go_ret
        exact BoolPost.no HF.out hB3
    · have HNA : Hid (¬ NamesOK T) := hn
      have HF : Hid (¬ ValidOK T N) := fun h => hn h.2.1
      clear hn
      go_wp2_with (go_at_call 63; refine (HPL.out _ _ T (HT.out _ (Below.refl _ _)) hT).mono ?_; rintro e w1 ⟨m, b1, rfl, hb1, hm1, hB1⟩; obtain rfl : b1 = false := (by rw [← Bool.not_eq_true, hb1]; exact HNA.out); clear hb1 hm1)
      go_ret
      exact BoolPost.no HF.out hB1
  · have HF : Hid (¬ ValidOK T N) := fun h => hl h.1
    go_enter Try.func45, Try.ntmps45
    go_wp2
    all_goals first | (exfalso; omega) | skip
    all_goals
      go_ret
      exact BoolPost.no HF.out (Below.refl _ _)

def ErrPost (P : Prop) (w : World) : Ending → World → Prop := fun e w' => ∃ q : Int, e = .returned (.int .i64 q) ∧ (P → q = 0) ∧ (¬ P → q = 1) ∧ Below w.heap.size w w'
set_option maxHeartbeats 1000000 in
theorem valid_any (w : World) (tv pv : Value) (T : List VT) (N : List VN) (ht : TabsIn w [] tv T) (hp : NodesIn w [] pv N) (hs : Small T N) :
    Calls Try.prog 15 #[tv, pv] w (ErrPost (ValidOK T N) w) := by
  have HPV : Hid (Calls Try.prog 45 #[tv, pv] w (BoolPost (ValidOK T N) w)) := pvalid_any w tv pv T N ht hp hs
  clear ht hp hs
  go_enter Try.func15, Try.ntmps15
  by_cases h : ValidOK T N
  · have HH : Hid (ValidOK T N) := h
    clear h
    go_wp2_with (go_at_call 45; refine HPV.out.mono ?_; rintro e w1 ⟨b1, rfl, hb1, hB1⟩; obtain rfl : b1 = true := hb1.2 HH.out; clear hb1)
    go_ret
    exact ⟨0, rfl, fun _ => rfl, fun h => absurd HH.out h, hB1⟩
  · have HH : Hid (¬ ValidOK T N) := h
    clear h
    go_wp2_with (go_at_call 45; refine HPV.out.mono ?_; rintro e w1 ⟨b1, rfl, hb1, hB1⟩; obtain rfl : b1 = false := (by rw [← Bool.not_eq_true, hb1]; exact HH.out); clear hb1)
    go_ret
    exact ⟨1, rfl, fun h => absurd h HH.out, fun _ => rfl, hB1⟩
end Go.Proofs.Ytjoinhljdbljaaa
