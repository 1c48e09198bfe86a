/- Nodes are lent: the walk. -/
import Derived.Test.YtjoinhljdbljaaaVbI
import Derived.Test.YtjoinhljdbljaaaValZ
namespace Go.Proofs.Ytjoinhljdbljaaa
open Go.RowKit

theorem info102 : (Try.prog.info? 102).map (fun i => (i.zero, i.size, i.bytes)) = some (some (.agg #[.int .i64 0, .int .i64 0, .int .i64 0, .string ⟨#[]⟩, .slice none 0 0, .int .i64 0, .slice none 0 0, .slice none 0 0, .slice none 0 0]), 9, 144) := by kernel_rfl
def NodBulk (N : List VN) : Prop := N.length ≤ 1048576 ∧ ∀ i (h : i < N.length), NodeSmall N[i]
def NodsPost (N : List VN) (w : World) : Ending → World → Prop := fun e w' => ∃ Vf X qs, e = .returned (.tuple #[.slice (some ⟨w.heap.size + 1, 0, none⟩) N.length (N.length + 8), .pointer (some ⟨w.heap.size, 0, none⟩)]) ∧ NodSt w.heap.size (w.heap.size + 1) w' N (N.length + 8) Vf X qs ∧ Below w.heap.size w w'
theorem below9 {B : Nat} {a w : World} (h : Below B a w) {g : Nat} (hg : B ≤ g) (o : Nat) (x1 x2 x3 x4 x5 x6 x7 x8 x9 : Value) : Below B a (set9 w g o x1 x2 x3 x4 x5 x6 x7 x8 x9) := by
  have ht := set9_touch w g o x1 x2 x3 x4 x5 x6 x7 x8 x9
  exact h.trans ⟨ht.os, ht.tape, ht.output, ht.size, fun k hk => by
    by_cases e : k < w.heap.size
    · exact ht.block k e (by simp; omega)
    · have h1 : ¬ k < (set9 w g o x1 x2 x3 x4 x5 x6 x7 x8 x9).heap.size := by simp [set9]; omega
      rw [Array.getElem?_eq_none (by omega), Array.getElem?_eq_none (by omega)]⟩

theorem cell_set_block2 (W : World) {b g : Nat} (h : b ≠ g) (o : Nat) (v : Value) (o' : Nat) : (W.setCell ⟨g, o, none⟩ v).cell? ⟨b, o', none⟩ = W.cell? ⟨b, o', none⟩ := World.cell?_setCell_other (w := W) (a := ⟨g, o, none⟩) (b := ⟨b, o', none⟩) (v := v) (by intro e; simp at e; all_goals exact h e.1.symm)
theorem set9_size (w : World) (g o : Nat) (a b c d e f h i j : Value) : (set9 w g o a b c d e f h i j).heap.size = w.heap.size := by simp [set9]
theorem NodSt.begin {w0 : World} {bx go : Nat} {wr : World} {N : List VN} {k : Nat} {Vf : Nat → Value} {X : Nat → List Value} {qs : List (VN × NP)} (h : NodSt bx go wr N k Vf X qs) (hk : k < N.length + 8) (hLB : ∀ b ∈ LF bx Vf, w0.heap.size ≤ b) (hB : Below w0.heap.size w0 wr) (hgo : w0.heap.size ≤ go) (a b c d e f g i j : Value) (cs : List Value) :
    NLent w0 bx go wr.heap.size ((N.length + 8) * 9) ((set9 wr go (k * 9) a b c d e f g i j).alloc (.cells cs.toArray 106)) (nodes9 qs) cs Vf X ∧ NodAt ((set9 wr go (k * 9) a b c d e f g i j).alloc (.cells cs.toArray 106)) (go :: LF bx Vf) N qs := by
  have hlt := fun b => h.1.lt (k := b)
  obtain ⟨h1, h2, h3, h4, h5, h6, h7, h8⟩ := h.junk hk a b c d e f g i j
  have hb : Below (set9 wr go (k * 9) a b c d e f g i j).heap.size (set9 wr go (k * 9) a b c d e f g i j) ((set9 wr go (k * 9) a b c d e f g i j).alloc (.cells cs.toArray 106)) := (Below.refl _ _).alloc (Nat.le_refl _) _
  have hbx := Box9.new (set9 wr go (k * 9) a b c d e f g i j) cs 106
  rw [set9_size] at hbx
  exact ⟨⟨h1.b hb, h2.step (stepB hb), h3.b hb, hbx, fun e => by have := hlt _ e; omega, hLB, (below9 hB hgo _ _ _ _ _ _ _ _ _ _).alloc (by rw [set9_size]; exact hB.size) _⟩, h5.step (stepB hb)⟩
theorem NLent.drew {w0 : World} {bx go bn nT : Nat} {w : World} {tb cs : List Value} {Vf : Nat → Value} {X : Nat → List Value} (h : NLent w0 bx go bn nT w tb cs Vf X) : NLent w0 bx go bn nT w.drew tb cs Vf X := by
  have d : Below w.heap.size w w.drew := (Below.refl _ _).drew
  obtain ⟨h1, h2, h3, h4, h5, h6, h7⟩ := h
  exact ⟨h1.b d, h2.step (stepB d), h3.b d, h4.b d, h5, h6, bthen h7 d⟩
set_option maxRecDepth 40000 in
set_option maxHeartbeats 20000000 in
theorem nodes_any (w : World) (pv : Value) (N : List VN) (hp : NodesIn w [] pv N) (hbulk : NodBulk N) : Calls Try.prog 13 #[pv] w (NodsPost N w) := by
  obtain ⟨hN, hsm⟩ := hbulk
  obtain ⟨i0, hi0, hz0, hz1, hz2⟩ := info_parts info102
  have HI0 : Hid (Try.prog.info? 102 = some i0 ∧ i0.zero = some (.agg #[.int .i64 0, .int .i64 0, .int .i64 0, .string ⟨#[]⟩, .slice none 0 0, .int .i64 0, .slice none 0 0, .slice none 0 0, .slice none 0 0]) ∧ i0.size = 9 ∧ i0.bytes = 144) := ⟨hi0, hz0, hz1, hz2⟩
  clear hi0 hz0 hz1 hz2
  obtain ⟨ao, cap, rfl, hc, hm, g1⟩ := hp.open
  clear g1
  have HV : Hid (NodesIn w [] (.slice ao N.length cap) N) := hp
  have HSM : Hid (∀ i (h : i < N.length), NodeSmall N[i]) := hsm
  clear hp hsm
  go_enter Try.func13, Try.ntmps13
  go_wp2_with (at_make; refine wpList_make_full _ rfl (.tmp 12) (.tmp 12) 49 rfl w.heap.size 102 i0 (.agg #[.int .i64 0, .int .i64 0, .int .i64 0, .string ⟨#[]⟩, .slice none 0 0, .int .i64 0, .slice none 0 0, .slice none 0 0, .slice none 0 0]) 9 Try.underlying49 HI0.out.1 HI0.out.2.1 HI0.out.2.2.1 .i64 .i64 _ _ (N.length + 8) rfl rfl (by omega) (by omega) (by rw [HI0.out.2.2.2]; omega) (by unfold maxLen; omega) (by simp) ?_; intro w1 ho1 hg1; have hp1 := (PA.made ho1 rfl).nil; have hB1 := ((Below.refl w.heap.size w).alloc (Nat.le_refl _) (.cells #[.slice none 0 0, .slice none 0 0, .slice none 0 0, .slice none 0 0, .slice none 0 0] 90)).grown hg1 (by simp) (fun k hk => by simp at hk); have hL1 := (Lent.new w).b ((Below.refl _ _).grown hg1 (Nat.le_refl _) (fun k hk => by simp at hk)); clear ho1 hg1)
  have HST : Hid (NodSt w.heap.size (w.heap.size + 1) w1 N 0 (fun _ => .slice none 0 0) (fun _ => []) []) := ⟨hL1, Marked.new _ _, (show PA _ _ _ _ [] from by simpa using hp1), rfl, fun i p hp => by simp at hp, by simp, by simp, by simp⟩
  clear hp1 hL1
  go_loopw [6] (fun j wr => ∃ (k : Nat) (Vf : Nat → Value) (X : Nat → List Value) (qs : List (VN × NP)), k ≤ N.length + 8 ∧ j = .int .i64 k ∧ NodSt w.heap.size (w.heap.size + 1) wr N k Vf X qs ∧ (∀ b ∈ LF w.heap.size Vf, w.heap.size ≤ b) ∧ Below w.heap.size w wr) (fun j _ => N.length + 8 - (intOf j).toNat)
  case atStart => exact ⟨0, _, _, _, by omega, rfl, HST.out, by rw [LF_new]; simp, hB1⟩
  case round =>
    obtain ⟨k, Vf, X, qs, hk, rfl, hS, hLB, hB⟩ := hrel
    clear HST hB1 w1
    have hsz := hB.size
    have hgo := hS.2.2.1.lt
    have HS : Hid (NodSt w.heap.size (w.heap.size + 1) wr N k Vf X qs) := hS
    have HLB : Hid (∀ b ∈ LF w.heap.size Vf, w.heap.size ≤ b) := hLB
    by_cases hlt : k < N.length + 8
    · have HPL : Hid (∀ o, o < (N.length + 8) * 9 → (∃ v, wr.cell? ⟨w.heap.size + 1, o, none⟩ = some v) ∧ wr.frozen? ⟨w.heap.size + 1, o, none⟩ = false) := fun o ho => hS.2.2.1.place o ho
      clear hS hLB
      obtain ⟨⟨p0, q0⟩, f0⟩ := HPL.out (k * 9) (by omega)
      obtain ⟨⟨p1, q1⟩, f1⟩ := HPL.out (k * 9 + 1) (by omega)
      obtain ⟨⟨p2, q2⟩, f2⟩ := HPL.out (k * 9 + 1 + 1) (by omega)
      obtain ⟨⟨p3, q3⟩, f3⟩ := HPL.out (k * 9 + 1 + 1 + 1) (by omega)
      obtain ⟨⟨p4, q4⟩, f4⟩ := HPL.out (k * 9 + 1 + 1 + 1 + 1) (by omega)
      obtain ⟨⟨p5, q5⟩, f5⟩ := HPL.out (k * 9 + 1 + 1 + 1 + 1 + 1) (by omega)
      obtain ⟨⟨p6, q6⟩, f6⟩ := HPL.out (k * 9 + 1 + 1 + 1 + 1 + 1 + 1) (by omega)
      obtain ⟨⟨p7, q7⟩, f7⟩ := HPL.out (k * 9 + 1 + 1 + 1 + 1 + 1 + 1 + 1) (by omega)
      obtain ⟨⟨p8, q8⟩, f8⟩ := HPL.out (k * 9 + 1 + 1 + 1 + 1 + 1 + 1 + 1 + 1) (by omega)
      clear HPL
      by_cases hln : k < N.length
      · have hd : decide ((k : Int) < (N.length : Int)) = true := decide_eq_true (by omega)
        obtain ⟨b, off, hao, hcell⟩ := HV.out.cells9 (by omega)
        subst hao
        obtain ⟨p, hp, x0, x1, x2, x3, x4, x5, x6, x7, x8⟩ := hcell k hln
        have hbw : b < w.heap.size := World.block_lt_of_cell? w _ x0
        have hsmk := HSM.out k hln
        obtain ⟨hs_k, hs_c, hs_o, hs_s⟩ := hsmk
        generalize hn0 : N[k] = n at *
        obtain ⟨op, lf, rt, tb, ks, ct, cols, ots, sums⟩ := n
        obtain ⟨kv, cv, ov, sv⟩ := p
        obtain ⟨hp1, hp2, hp3, hp4⟩ := hp
        simp only at *
        obtain ⟨ko, kcap, rfl, _, _, g1⟩ := hp1.open
        obtain ⟨co, ccap, rfl, _, _, g2⟩ := hp2.open
        obtain ⟨oo, ocap, rfl, _, _, g3⟩ := hp3.open
        obtain ⟨so, scap, rfl, _, _, g4⟩ := hp4.open
        have HKV : Hid (KeysIn w [] (.slice ko ks.length kcap) ks) := hp1
        have HCV : Hid (IntsIn w [] (.slice co cols.length ccap) cols) := hp2
        have HOV : Hid (IntsIn w [] (.slice oo ots.length ocap) ots) := hp3
        have HUV : Hid (SumsIn w [] (.slice so sums.length scap) sums) := hp4
        clear g1 g2 g3 g4 hp1 hp2 hp3 hp4 hcell
        have c0 := (hB.cell (p := ⟨b, off + k * 9, none⟩) hbw).trans x0
        have c1 := (hB.cell (p := ⟨b, off + k * 9 + 1, none⟩) hbw).trans x1
        have c2 := (hB.cell (p := ⟨b, off + k * 9 + 1 + 1, none⟩) hbw).trans x2
        have c3 := (hB.cell (p := ⟨b, off + k * 9 + 1 + 1 + 1, none⟩) hbw).trans x3
        have c4 := (hB.cell (p := ⟨b, off + k * 9 + 1 + 1 + 1 + 1, none⟩) hbw).trans x4
        have c5 := (hB.cell (p := ⟨b, off + k * 9 + 1 + 1 + 1 + 1 + 1, none⟩) hbw).trans x5
        have c6 := (hB.cell (p := ⟨b, off + k * 9 + 1 + 1 + 1 + 1 + 1 + 1, none⟩) hbw).trans x6
        have c7 := (hB.cell (p := ⟨b, off + k * 9 + 1 + 1 + 1 + 1 + 1 + 1 + 1, none⟩) hbw).trans x7
        have c8 := (hB.cell (p := ⟨b, off + k * 9 + 1 + 1 + 1 + 1 + 1 + 1 + 1 + 1, none⟩) hbw).trans x8
        clear x0 x1 x2 x3 x4 x5 x6 x7 x8
        have hne : b ≠ w.heap.size + 1 := by omega
        have HX : Hid ((X 2).length ≤ 10000000 ∧ (X 3).length ≤ 100000000 ∧ (X 4).length ≤ 100000000) := ⟨by have := HS.out.2.2.2.2.2.1; omega, by have := HS.out.2.2.2.2.2.2.1; omega, by have := HS.out.2.2.2.2.2.2.2; omega⟩
        go_wp2_with fail
        refine wp_at (fun W => NLent w w.heap.size (w.heap.size + 1) wr.heap.size ((N.length + 8) * 9) W (nodes9 qs) (nodeCells ⟨op, lf, rt, tb, ks, ct, cols, ots, sums⟩ (.slice ko ks.length kcap, .slice co cols.length ccap, .slice oo ots.length ocap, .slice so sums.length scap)) Vf X ∧ NodAt W ((w.heap.size + 1) :: LF w.heap.size Vf) N qs) (HS.out.begin hlt HLB.out hB (by omega) (.int .i64 (-77)) (.int .i64 0) (.int .i64 0) (.string ⟨#[]⟩) (.slice none 0 0) (.int .i64 0) (.slice none 0 0) (.slice none 0 0) (.slice none 0 0) _) ?_
        rintro W ⟨hNW, hAW⟩
        clear p0 q0 f0 p1 q1 f1 p2 q2 f2 p3 q3 f3 p4 q4 f4 p5 q5 f5 p6 q6 f6 p7 q7 f7 p8 q8 f8 c0 c1 c2 c3 c4 c5 c6 c7 c8
        generalize hbn : wr.heap.size = bn at *
        have HN0 : Hid (NLent w w.heap.size (w.heap.size + 1) bn ((N.length + 8) * 9) W (nodes9 qs) (nodeCells ⟨op, lf, rt, tb, ks, ct, cols, ots, sums⟩ (.slice ko ks.length kcap, .slice co cols.length ccap, .slice oo ots.length ocap, .slice so sums.length scap)) Vf X) := hNW
        have HAW : Hid (NodAt W ((w.heap.size + 1) :: LF w.heap.size Vf) N qs) := hAW
        clear hNW hAW
        have a00 := HN0.out.2.2.2.1.2 0 _ rfl
        have a01 := HN0.out.2.2.2.1.2 1 _ rfl
        have a02 := HN0.out.2.2.2.1.2 2 _ rfl
        have a03 := HN0.out.2.2.2.1.2 3 _ rfl
        have a04 := HN0.out.2.2.2.1.2 4 _ rfl
        have a05 := HN0.out.2.2.2.1.2 5 _ rfl
        have a06 := HN0.out.2.2.2.1.2 6 _ rfl
        have a07 := HN0.out.2.2.2.1.2 7 _ rfl
        have a08 := HN0.out.2.2.2.1.2 8 _ rfl
        have hcs : ∀ (W : World) (o : Nat) (v : Value) (o' : Nat), (W.setCell ⟨w.heap.size + 1, o, none⟩ v).cell? ⟨bn, o', none⟩ = W.cell? ⟨bn, o', none⟩ := fun W o v o' => cell_set_block2 W (by omega) o v o'
        go_region_held3 (fun w' => w'.cell? ⟨bn, 0, none⟩ = some (.int .i64 op) ∧ w'.cell? ⟨bn, 1, none⟩ = some (.int .i64 lf) ∧ w'.cell? ⟨bn, 2, none⟩ = some (.int .i64 rt) ∧ w'.cell? ⟨bn, 3, none⟩ = some (.string tb) ∧ w'.cell? ⟨bn, 4, none⟩ = some (.slice ko ks.length kcap) ∧ w'.cell? ⟨bn, 5, none⟩ = some (.int .i64 ct) ∧ w'.cell? ⟨bn, 6, none⟩ = some (.slice co cols.length ccap) ∧ w'.cell? ⟨bn, 7, none⟩ = some (.slice oo ots.length ocap) ∧ w'.cell? ⟨bn, 8, none⟩ = some (.slice so sums.length scap)) (go_keep) (first | (go_at_call 43; refine (key_next HN0.out.drew _ ks HKV.out hs_k (by exact HX.out.2.1)).mono ?_; rintro e w1 ⟨g1, V1, rfl, hN1, hF1, hs1⟩; have a10 := hN1.2.2.2.1.2 0 _ rfl; have a11 := hN1.2.2.2.1.2 1 _ rfl; have a12 := hN1.2.2.2.1.2 2 _ rfl; have a13 := hN1.2.2.2.1.2 3 _ rfl; have a14 := hN1.2.2.2.1.2 4 _ rfl; have a15 := hN1.2.2.2.1.2 5 _ rfl; have a16 := hN1.2.2.2.1.2 6 _ rfl; have a17 := hN1.2.2.2.1.2 7 _ rfl; have a18 := hN1.2.2.2.1.2 8 _ rfl) | (go_at_call 44; refine (sum_next hN3 _ sums HUV.out hs_s (by rw [upd_other _ _ _ _ (by decide), upd_other _ _ _ _ (by decide), upd_other _ _ _ _ (by decide)]; exact HX.out.2.2)).mono ?_; rintro e w4 ⟨g4, V4, rfl, hN4, hF4, hs4⟩; have a40 := hN4.2.2.2.1.2 0 _ rfl; have a41 := hN4.2.2.2.1.2 1 _ rfl; have a42 := hN4.2.2.2.1.2 2 _ rfl; have a43 := hN4.2.2.2.1.2 3 _ rfl; have a44 := hN4.2.2.2.1.2 4 _ rfl; have a45 := hN4.2.2.2.1.2 5 _ rfl; have a46 := hN4.2.2.2.1.2 6 _ rfl; have a47 := hN4.2.2.2.1.2 7 _ rfl; have a48 := hN4.2.2.2.1.2 8 _ rfl; obtain ⟨⟨p0, q0⟩, f0⟩ := hN4.2.2.1.place (k * 9) (by omega); obtain ⟨⟨p1, q1⟩, f1⟩ := hN4.2.2.1.place (k * 9 + 1) (by omega); obtain ⟨⟨p2, q2⟩, f2⟩ := hN4.2.2.1.place (k * 9 + 1 + 1) (by omega); obtain ⟨⟨p3, q3⟩, f3⟩ := hN4.2.2.1.place (k * 9 + 1 + 1 + 1) (by omega); obtain ⟨⟨p4, q4⟩, f4⟩ := hN4.2.2.1.place (k * 9 + 1 + 1 + 1 + 1) (by omega); obtain ⟨⟨p5, q5⟩, f5⟩ := hN4.2.2.1.place (k * 9 + 1 + 1 + 1 + 1 + 1) (by omega); obtain ⟨⟨p6, q6⟩, f6⟩ := hN4.2.2.1.place (k * 9 + 1 + 1 + 1 + 1 + 1 + 1) (by omega); obtain ⟨⟨p7, q7⟩, f7⟩ := hN4.2.2.1.place (k * 9 + 1 + 1 + 1 + 1 + 1 + 1 + 1) (by omega); obtain ⟨⟨p8, q8⟩, f8⟩ := hN4.2.2.1.place (k * 9 + 1 + 1 + 1 + 1 + 1 + 1 + 1 + 1) (by omega)) | (go_at_call 42; refine (number_next hN2 _ ots HOV.out hs_o (by rw [upd_same, upd_other _ _ _ _ (by decide)]; have := HX.out.1; simp; omega)).mono ?_; rintro e w3 ⟨g3, V3, rfl, hN3, hF3, hs3⟩; have a30 := hN3.2.2.2.1.2 0 _ rfl; have a31 := hN3.2.2.2.1.2 1 _ rfl; have a32 := hN3.2.2.2.1.2 2 _ rfl; have a33 := hN3.2.2.2.1.2 3 _ rfl; have a34 := hN3.2.2.2.1.2 4 _ rfl; have a35 := hN3.2.2.2.1.2 5 _ rfl; have a36 := hN3.2.2.2.1.2 6 _ rfl; have a37 := hN3.2.2.2.1.2 7 _ rfl; have a38 := hN3.2.2.2.1.2 8 _ rfl) | (go_at_call 42; refine (number_next hN1 _ cols HCV.out hs_c (by rw [upd_other _ _ _ _ (by decide)]; have := HX.out.1; omega)).mono ?_; rintro e w2 ⟨g2, V2, rfl, hN2, hF2, hs2⟩; have a20 := hN2.2.2.2.1.2 0 _ rfl; have a21 := hN2.2.2.2.1.2 1 _ rfl; have a22 := hN2.2.2.2.1.2 2 _ rfl; have a23 := hN2.2.2.2.1.2 3 _ rfl; have a24 := hN2.2.2.2.1.2 4 _ rfl; have a25 := hN2.2.2.2.1.2 5 _ rfl; have a26 := hN2.2.2.2.1.2 6 _ rfl; have a27 := hN2.2.2.2.1.2 7 _ rfl; have a28 := hN2.2.2.2.1.2 8 _ rfl))
        all_goals
          have hs12 := hs1.trans (hs2.trans (hs3.trans hs4))
          have HD : Hid (NodSt w.heap.size (w.heap.size + 1) (set9 w4 (w.heap.size + 1) (k * 9) (.int .i64 op) (.int .i64 lf) (.int .i64 rt) (.string tb) (.slice (some ⟨g1, 0, none⟩) ks.length (ks.length + 8)) (.int .i64 ct) (.slice (some ⟨g2, 0, none⟩) cols.length (cols.length + 8)) (.slice (some ⟨g3, 0, none⟩) ots.length (ots.length + 8)) (.slice (some ⟨g4, 0, none⟩) sums.length (sums.length + 8))) N (k + 1) V4 _ (qs ++ [(⟨op, lf, rt, tb, ks, ct, cols, ots, sums⟩, (.slice (some ⟨g1, 0, none⟩) ks.length (ks.length + 8), .slice (some ⟨g2, 0, none⟩) cols.length (cols.length + 8), .slice (some ⟨g3, 0, none⟩) ots.length (ots.length + 8), .slice (some ⟨g4, 0, none⟩) sums.length (sums.length + 8)))])) :=
            NodSt.put hN4.1 hN4.2.1 hN4.2.2.1 HS.out.2.2.2.1 ((HAW.out.step (stepB (Below.refl _ _).drew)).step hs12) (by rw [upd_other _ _ _ _ (by decide), upd_same, upd_same, upd_other _ _ _ _ (by decide)]; have := HS.out.2.2.2.2.2.1; simp; omega) (by rw [upd_other _ _ _ _ (by decide), upd_other _ _ _ _ (by decide), upd_other _ _ _ _ (by decide), upd_same]; have := HS.out.2.2.2.2.2.2.1; simp; omega) (by rw [upd_same, upd_other _ _ _ _ (by decide), upd_other _ _ _ _ (by decide), upd_other _ _ _ _ (by decide)]; have := HS.out.2.2.2.2.2.2.2; simp; omega) hlt ⟨op, lf, rt, tb, ks, ct, cols, ots, sums⟩ (.slice (some ⟨g1, 0, none⟩) ks.length (ks.length + 8), .slice (some ⟨g2, 0, none⟩) cols.length (cols.length + 8), .slice (some ⟨g3, 0, none⟩) ots.length (ots.length + 8), .slice (some ⟨g4, 0, none⟩) sums.length (sums.length + 8)) (fun h => by rw [hn0]; exact ⟨rfl, Full.step hF1 (hs2.trans (hs3.trans hs4)), Full.step hF2 (hs3.trans hs4), Full.step hF3 hs4, hF4⟩) (fun h => by omega)
          have HB8 : Hid (Below w.heap.size w (set9 w4 (w.heap.size + 1) (k * 9) (.int .i64 op) (.int .i64 lf) (.int .i64 rt) (.string tb) (.slice (some ⟨g1, 0, none⟩) ks.length (ks.length + 8)) (.int .i64 ct) (.slice (some ⟨g2, 0, none⟩) cols.length (cols.length + 8)) (.slice (some ⟨g3, 0, none⟩) ots.length (ots.length + 8)) (.slice (some ⟨g4, 0, none⟩) sums.length (sums.length + 8)))) := below9 hN4.2.2.2.2.2.2 (by omega) _ _ _ _ _ _ _ _ _ _
          have HLB4 : Hid (∀ b ∈ LF w.heap.size V4, w.heap.size ≤ b) := hN4.2.2.2.2.2.1
          clear a00 a01 a02 a03 a04 a05 a06 a07 a08 a10 a11 a12 a13 a14 a15 a16 a17 a18 a20 a21 a22 a23 a24 a25 a26 a27 a28 a30 a31 a32 a33 a34 a35 a36 a37 a38 a40 a41 a42 a43 a44 a45 a46 a47 a48 p0 q0 f0 p1 q1 f1 p2 q2 f2 p3 q3 f3 p4 q4 f4 p5 q5 f5 p6 q6 f6 p7 q7 f7 p8 q8 f8 hcs
          clear hN1 hN2 hN3 hN4 hF1 hF2 hF3 hF4 hs1 hs2 hs3 hs4 hs12
          go_wp2
          go_roundw
          case rel => exact ⟨k + 1, V4, _, _, by omega, by go_num, HD.out, HLB4.out, HB8.out⟩
          case measure => simp [intOf]; omega
      · have hd : decide ((k : Int) < (N.length : Int)) = false := decide_eq_false (by omega)
        have HPT : Hid (NodSt w.heap.size (w.heap.size + 1) (set9 wr (w.heap.size + 1) (k * 9) (.int .i64 (-77)) (.int .i64 0) (.int .i64 0) (.string ⟨#[]⟩) (.slice none 0 0) (.int .i64 0) (.slice none 0 0) (.slice none 0 0) (.slice none 0 0)) N (k + 1) Vf X (qs ++ [(blankN, nil4)])) := by
          obtain ⟨h1, h2, h3, h4, h5, h6, h7, h8⟩ := HS.out
          exact NodSt.put h1 h2 h3 h4 h5 (by omega) (by omega) (by omega) hlt blankN nil4 (fun h => absurd h hln) (fun _ => rfl)
        have HBL : Hid (Below w.heap.size w (set9 wr (w.heap.size + 1) (k * 9) (.int .i64 (-77)) (.int .i64 0) (.int .i64 0) (.string ⟨#[]⟩) (.slice none 0 0) (.int .i64 0) (.slice none 0 0) (.slice none 0 0) (.slice none 0 0))) := below9 hB (by omega) _ _ _ _ _ _ _ _ _ _
        go_wp2
        go_roundw
        case rel => exact ⟨k + 1, Vf, X, _, by omega, by go_num, HPT.out, HLB.out, HBL.out⟩
        case measure => simp [intOf]; omega
    · obtain rfl : k = N.length + 8 := by omega
      clear hS hLB
      have hle8 : (N.length : Int) ≤ (N.length : Int) + 8 := by omega
      go_wp2
      go_ret2
      exact ⟨Vf, X, qs, rfl, HS.out, hB⟩
end Go.Proofs.Ytjoinhljdbljaaa
