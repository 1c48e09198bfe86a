/- The document's columns of a node that takes rows: the walk. -/
import Derived.Test.YtjoinhljdbljaaaVcB
import Derived.Test.YtjoinhljdbljaaaValT
import Derived.BigRegion
namespace Go.Proofs.Ytjoinhljdbljaaa
open Go.RowKit

theorem cell_set_ne (W : World) {b g : Nat} (h : b ≠ g) (o : Nat) (v : Value) (o' : Nat) : (W.setCell ⟨g, o, none⟩ v).cell? ⟨b, o', none⟩ = W.cell? ⟨b, o', none⟩ := World.cell?_setCell_other (w := W) (a := ⟨g, o, none⟩) (b := ⟨b, o', none⟩) (v := v) (by intro e; simp at e; all_goals exact h e.1.symm)
theorem Box9.touch2 {F : List Nat} {w w' : World} {g : Nat} {cs : List Value} (h : Box9 w g cs) (ht : Touch F w w') (hg : g ∉ F) : Box9 w' g cs :=
  ⟨Nat.lt_of_lt_of_le h.1 ht.size, fun r u hr => cell_touch ht hg (h.2 r u hr)⟩
theorem PA.setOther2 {w : World} {g g' : Nat} {e : TypeId} {n : Nat} {cs : List Value} (h : PA w g e n cs) (hne : g ≠ g') (o : Nat) (v : Value) : PA (w.setCell ⟨g', o, none⟩ v) g e n cs := h.other g' o v hne
/-- one more is asked for -/
theorem KSt.ask {w : World} {F : List Nat} {bk gd gu : Nat} {cv : Value} {cs : List (List Int)} {n : Nat} {D A : List Int} (h : KSt w F bk gd gu cv cs n D (cntL n A)) {c : Nat} (hc : c < n) : KSt (w.setCell ⟨gu, c, none⟩ (.int .i64 (((A.count (c : Int) : Nat) : Int) + 1))) F bk gd gu cv cs n D (cntL n (A ++ [(c : Int)])) := by
  have e := cntL_snoc n A (c : Int) (by omega) (by omega)
  rw [Int.toNat_natCast] at e
  refine h.turn ((Touch.refl _ _).setCell (by simp) _) (h.d.setOther2 h.dne _ _) ?_ h.dl (cntL_length _ _)
  rw [e, ints_set]
  exact h.u.set c (by rw [ints_len, cntL_length]; exact hc) _
theorem KSt.deep {w : World} {F : List Nat} {bk gd gu : Nat} {cv : Value} {cs : List (List Int)} {n : Nat} {D U : List Int} (h : KSt w F bk gd gu cv cs n D U) {i : Nat} (hi : i < n) (q : Int) : KSt (w.setCell ⟨gd, i, none⟩ (.int .i64 q)) F bk gd gu cv cs n (D.set i q) U := by
  refine h.turn ((Touch.refl _ _).setCell (by simp) _) ?_ (h.u.setOther2 (fun e => h.dne e.symm) _ _) (by simp [h.dl]) h.ul
  rw [ints_set]
  exact h.d.set i (by rw [ints_len, h.dl]; exact hi) _
/-- behind the first part of the walk: the left is asked for, and the node is one deeper than it -/
def MidSt (w : World) (F : List Nat) (bk gd gu : Nat) (cv : Value) (cs : List (List Int)) (n : Nat) (D A : List Int) (bn : Nat) (cells : List Value) (lv : Value) (L : List Int) (W : World) : Prop := KSt W F bk gd gu cv cs n D (cntL n A) ∧ Box9 W bn cells ∧ Touch [gd, gu] w W ∧ IntsIn W F lv L

theorem MidSt.b {w : World} {F : List Nat} {bk gd gu : Nat} {cv : Value} {cs : List (List Int)} {n : Nat} {D A : List Int} {bn : Nat} {cells : List Value} {lv : Value} {L : List Int} {W W' : World} (h : MidSt w F bk gd gu cv cs n D A bn cells lv L W) (hb : Below W.heap.size W W') : MidSt w F bk gd gu cv cs n D A bn cells lv L W' := ⟨h.1.b hb, h.2.1.b hb, h.2.2.1.trans ((Below.t hb).mono (by simp)), h.2.2.2.step (stepB hb)⟩
theorem MidSt.ask {w : World} {F : List Nat} {bk gd gu : Nat} {cv : Value} {cs : List (List Int)} {n : Nat} {D A : List Int} {bn : Nat} {cells : List Value} {lv : Value} {L : List Int} {W : World} (h : MidSt w F bk gd gu cv cs n D A bn cells lv L W) {c : Nat} (hc : c < n) (hn : bn ≠ gu) : MidSt w F bk gd gu cv cs n D (A ++ [(c : Int)]) bn cells lv L (W.setCell ⟨gu, c, none⟩ (.int .i64 (((A.count (c : Int) : Nat) : Int) + 1))) :=
  ⟨h.1.ask hc, h.2.1.touch2 (F := [gu]) ((Touch.refl _ _).setCell (by simp) _) (by simpa using hn), h.2.2.1.trans ((Touch.refl _ _).setCell (by simp) _), h.2.2.2.step ⟨(Touch.refl _ _).setCell h.1.fu _, fun _ h => Or.inl h⟩⟩
theorem MidSt.deep {w : World} {F : List Nat} {bk gd gu : Nat} {cv : Value} {cs : List (List Int)} {n : Nat} {D A : List Int} {bn : Nat} {cells : List Value} {lv : Value} {L : List Int} {W : World} (h : MidSt w F bk gd gu cv cs n D A bn cells lv L W) {i : Nat} (hi : i < n) (hn : bn ≠ gd) (q : Int) : MidSt w F bk gd gu cv cs n (D.set i q) A bn cells lv L (W.setCell ⟨gd, i, none⟩ (.int .i64 q)) :=
  ⟨h.1.deep hi q, h.2.1.touch2 (F := [gd]) ((Touch.refl _ _).setCell (by simp) _) (by simpa using hn), h.2.2.1.trans ((Touch.refl _ _).setCell (by simp) _), h.2.2.2.step ⟨(Touch.refl _ _).setCell h.1.fd _, fun _ h => Or.inl h⟩⟩
theorem KSt.dcell {w : World} {F : List Nat} {bk gd gu : Nat} {cv : Value} {cs : List (List Int)} {n : Nat} {D U : List Int} (h : KSt w F bk gd gu cv cs n D U) {c : Nat} (hc : c < n) : w.cell? ⟨gd, c, none⟩ = some (.int .i64 (D.getD c 0)) ∧ w.frozen? ⟨gd, c, none⟩ = false := by
  have hl : c < D.length := by rw [h.dl]; exact hc
  have := h.d.cell (ints_get hl)
  refine ⟨?_, (h.d.place c hc).2⟩
  rw [this]; simp [hl]
theorem KSt.ucell {w : World} {F : List Nat} {bk gd gu : Nat} {cv : Value} {cs : List (List Int)} {n : Nat} {D A : List Int} (h : KSt w F bk gd gu cv cs n D (cntL n A)) {c : Nat} (hc : c < n) : w.cell? ⟨gu, c, none⟩ = some (.int .i64 ((A.count (c : Int) : Nat) : Int)) ∧ w.frozen? ⟨gu, c, none⟩ = false := by
  have hl : c < (cntL n A).length := by rw [cntL_length]; exact hc
  have := h.u.cell (ints_get hl)
  rw [cntL_get] at this
  exact ⟨this, (h.u.place c hc).2⟩
/-- how a node that takes one input ends -/
theorem node_fin1 {T : List VT} {cs : List (List Int)} {nd : VN} {i : Nat} {w : World} {F : List Nat} {bk gd gu n : Nat} {cv : Value} {D A : List Int} {bn : Nat} {cells : List Value} {lv : Value} {L : List Int} {c : Nat} {w4 : World} {ao : Option Addr} {m cap : Nat} {b : Bool} (h1 : nd.op ≠ 1) (h4 : ¬ (nd.op = 4 ∨ nd.op = 5)) (hl : nd.left = (c : Int)) (hc : c < i) (hM : MidSt w F bk gd gu cv cs n (D.set i (1 + D.getD c 0)) (A ++ [(c : Int)]) bn cells lv L w4) (hb : b = true ↔ NodeOK T cs nd) (hi : b = true → IntsIn w4 F (.slice ao m cap) (nodeL T cs nd)) : NodePost T cs nd i w F gd gu n D A (.returned (.tuple #[.slice ao m cap, .bool b])) w4 := by
  have e : ins nd = [(c : Int)] := by unfold ins; rw [if_neg h1, if_neg h4, hl]
  have ha : Ahead nd i := fun x hx => by rw [e] at hx; simp at hx; omega
  refine ⟨ao, m, cap, b, rfl, by rw [hb]; exact ⟨fun h => ⟨ha, h⟩, fun h => h.2⟩, fun hb => ⟨hi hb, ?_, ?_⟩, hM.2.2.1⟩
  · rw [if_neg h1, if_neg h4, hl, Int.toNat_natCast]; exact hM.1.d
  · rw [e]; exact hM.1.u
set_option maxRecDepth 20000 in
set_option maxHeartbeats 8000000 in
theorem node_one (w : World) (F : List Nat) (bk gd gu : Nat) (cv : Value) (cs : List (List Int)) (n : Nat) (D A : List Int) (tv : Value) (T : List VT) (nd : VN) (p : NP) (i : Nat) (hK : KSt w F bk gd gu cv cs n D (cntL n A)) (hFw : ∀ k ∈ F, k < w.heap.size) (hp : NodeIn w F p nd) (hs : NodeSmall nd) (hb : BareOK nd) (hop : nd.op ≠ 1) (h45 : ¬ (nd.op = 4 ∨ nd.op = 5)) (hi : i < n) (hn : n ≤ 12) (hic : cs.length = i) (hD : ∀ j, 0 ≤ D.getD j 0 ∧ D.getD j 0 ≤ 20) (hA : A.length ≤ 30) (hcl : ∀ j, (cs.getD j []).length ≤ 12) :
    Calls Try.prog 50 #[.pointer (some ⟨bk, 0, none⟩), tv, nodeV nd p, .int .i64 (i : Int)] w (NodePost T cs nd i w F gd gu n D A) := by
  have HI : Hid (∀ n lo hi w, Calls Try.prog 48 #[.int .i64 n, .int .i64 lo, .int .i64 hi] w fun e w' => e = .returned (.bool (inB n lo hi)) ∧ w' = w) := in_any
  have hmem : nd.left ∈ ins nd := by unfold ins; rw [if_neg hop]; split <;> simp
  have HK : Hid (KSt w F bk gd gu cv cs n D (cntL n A)) := hK
  have HNI : Hid (NodeIn w F p nd) := hp
  have HNO : Hid (∀ w', ¬ Ahead nd i → Touch [gd, gu] w w' → NodePost T cs nd i w F gd gu n D A (.returned (.tuple #[.slice none 0 0, .bool false])) w') := fun w' h ht => ⟨none, 0, 0, false, rfl, by simp [h], by simp, ht⟩
  have hgd := hK.d.lt
  have hgu := hK.u.lt
  have hbk : bk < w.heap.size := World.block_lt_of_cell? w _ hK.c0
  have HOP : Hid (nd.op = 2 ∨ nd.op = 3 ∨ nd.op = 6 ∨ nd.op = 7) := by have := hb.1; show _ ∨ _; omega
  have HB : Hid (BareOK nd) := hb
  have HS : Hid (NodeSmall nd) := hs
  generalize hnd : nd = n0 at *
  obtain ⟨op, lf, rt, tb, ks, ct, cols, ots, sums⟩ := n0
  obtain ⟨kv, cv2, ov, sv⟩ := p
  obtain ⟨hp1, hp2, hp3, hp4⟩ := hp
  simp only at *
  obtain ⟨ko, kcap, rfl, _, _, g1⟩ := hp1.open
  obtain ⟨co, ccap, rfl, _, _, g2⟩ := hp2.open
  obtain ⟨oo, ocap, rfl, _, _, g3⟩ := hp3.open
  obtain ⟨so, scap, rfl, _, _, g4⟩ := hp4.open
  clear g1 g2 g3 g4 hp1 hp2 hp3 hp4 hb hs
  unfold nodeV
  simp only
  have hd1 : (op == 1) = false := by simp [hop]
  go_enter Try.func50, Try.ntmps50
  by_cases hlf : 0 ≤ lf ∧ lf < (i : Int)
  · have i1 : inB lf 0 ((i : Int) - 1) = true := inB_t (by omega)
    obtain ⟨c, rfl, hc, gc, lo, lcap, ccap3, rfl, hcc, ngd, ngu, hcell, hleft⟩ := hK.left hlf.1 (by omega)
    have hL12 : (cs.getD c []).length ≤ 12 := hcl c
    obtain ⟨L, hLe⟩ : ∃ L, cs.getD c [] = L := ⟨_, rfl⟩
    rw [hLe] at hL12 hcell hleft
    have HLE : Hid (cs.getD c [] = L) := hLe
    have HCL : Hid (∀ j, (cs.getD j []).length ≤ 12) := hcl
    have HDB : Hid (∀ j, 0 ≤ D.getD j 0 ∧ D.getD j 0 ≤ 20) := hD
    have HFW : Hid (∀ k ∈ F, k < w.heap.size) := hFw
    clear hLe hcl hD hFw
    go_wp2_with (go_at_call 48; refine (HI.out _ _ _ _).mono ?_; rintro e w' ⟨rfl, rfl⟩)
    obtain ⟨bn, hbn⟩ : ∃ bn, bn = w.heap.size := ⟨_, rfl⟩
    rw [← hbn]
    refine wp_at (fun W => MidSt w F bk gd gu (.slice (some ⟨gc, 0, none⟩) cs.length ccap3) cs n D A bn (nodeCells ⟨op, (c : Int), rt, tb, ks, ct, cols, ots, sums⟩ (.slice ko ks.length kcap, .slice co cols.length ccap, .slice oo ots.length ocap, .slice so sums.length scap)) (.slice lo L.length lcap) L W) ⟨hK.b ((Below.refl _ _).alloc (Nat.le_refl _) _), by rw [hbn]; exact Box9.new w _ _, (Touch.refl _ _).alloc _, hleft.step (stepB ((Below.refl _ _).alloc (Nat.le_refl _) _))⟩ ?_
    intro W hM
    have hbnd : bn ≠ gd := by omega
    have hnu : bn ≠ gu := by omega
    have HBN : Hid (bn = w.heap.size) := hbn
    clear hbn
    have HM : Hid (MidSt w F bk gd gu (.slice (some ⟨gc, 0, none⟩) cs.length ccap3) cs n D A bn (nodeCells ⟨op, (c : Int), rt, tb, ks, ct, cols, ots, sums⟩ (.slice ko ks.length kcap, .slice co cols.length ccap, .slice oo ots.length ocap, .slice so sums.length scap)) (.slice lo L.length lcap) L W) := hM
    have k0 := hM.1.c0
    have x1 := hM.2.1.2 1 _ rfl
    have y0 := cell_touch hM.2.2.1 (by simp [ngd, ngu]) hcell
    clear hM hcell hleft hK
    go_big_quiet (fail)
    go_wp2_with fail
    refine wp_at (fun W' => MidSt w F bk gd gu (.slice (some ⟨gc, 0, none⟩) cs.length ccap3) cs n D A bn (nodeCells ⟨op, (c : Int), rt, tb, ks, ct, cols, ots, sums⟩ (.slice ko ks.length kcap, .slice co cols.length ccap, .slice oo ots.length ocap, .slice so sums.length scap)) (.slice lo L.length lcap) L W') (HM.out.b ⟨rfl, rfl, rfl, Nat.le_refl _, fun _ _ => rfl⟩) ?_
    intro W2 hM2
    have HM2 : Hid (MidSt w F bk gd gu (.slice (some ⟨gc, 0, none⟩) cs.length ccap3) cs n D A bn (nodeCells ⟨op, (c : Int), rt, tb, ks, ct, cols, ots, sums⟩ (.slice ko ks.length kcap, .slice co cols.length ccap, .slice oo ots.length ocap, .slice so sums.length scap)) (.slice lo L.length lcap) L W2) := hM2
    clear k0 x1 y0
    have k2 := hM2.1.c2
    have x1 := hM2.2.1.2 1 _ rfl
    obtain ⟨u0, u1⟩ := hM2.1.ucell (c := c) (by omega)
    have hcnt : A.count (c : Int) ≤ 30 := Nat.le_trans List.count_le_length hA
    clear hM2
    go_region
    go_wp2_with fail
    refine wp_at (fun W' => MidSt w F bk gd gu (.slice (some ⟨gc, 0, none⟩) cs.length ccap3) cs n D (A ++ [(c : Int)]) bn (nodeCells ⟨op, (c : Int), rt, tb, ks, ct, cols, ots, sums⟩ (.slice ko ks.length kcap, .slice co cols.length ccap, .slice oo ots.length ocap, .slice so sums.length scap)) (.slice lo L.length lcap) L W') ((HM2.out.ask (by omega) hnu).b ((Below.refl _ _).drew)) ?_
    intro W3 hM3
    have HM3 : Hid (MidSt w F bk gd gu (.slice (some ⟨gc, 0, none⟩) cs.length ccap3) cs n D (A ++ [(c : Int)]) bn (nodeCells ⟨op, (c : Int), rt, tb, ks, ct, cols, ots, sums⟩ (.slice ko ks.length kcap, .slice co cols.length ccap, .slice oo ots.length ocap, .slice so sums.length scap)) (.slice lo L.length lcap) L W3) := hM3
    clear k2 x1 u0 u1
    have k1 := hM3.1.c1
    have x0 := hM3.2.1.2 0 _ rfl
    have x1 := hM3.2.1.2 1 _ rfl
    have x2 := hM3.2.1.2 2 _ rfl
    have x3 := hM3.2.1.2 3 _ rfl
    have x4 := hM3.2.1.2 4 _ rfl
    have x5 := hM3.2.1.2 5 _ rfl
    have x6 := hM3.2.1.2 6 _ rfl
    have x7 := hM3.2.1.2 7 _ rfl
    have x8 := hM3.2.1.2 8 _ rfl
    obtain ⟨d0, _⟩ := hM3.1.dcell (c := c) (by omega)
    obtain ⟨d1, d2⟩ := hM3.1.dcell (c := i) (by omega)
    have hDc := HDB.out c
    clear hM3
    have HDC : Hid (∃ dc, D.getD c 0 = dc) := ⟨_, rfl⟩
    obtain ⟨dc, hdc⟩ := HDC.out
    rw [hdc] at d0 hDc
    have HDD : Hid (D.getD c 0 = dc) := hdc
    clear hdc HDC
    have HKI : Hid (∀ W, Touch [gd, gu] w W → KeysIn W [] (.slice ko ks.length kcap) ks) := fun W h => LiesC.lessN (HNI.out.1.step (F' := F) ⟨h.mono (fun k hk => by simp at hk; rcases hk with rfl | rfl; exact HK.out.fd; exact HK.out.fu), fun _ h => Or.inl h⟩)
    have HNW : Hid (∀ W, Touch [gd, gu] w W → NodeIn W [] (.slice ko ks.length kcap, .slice co cols.length ccap, .slice oo ots.length ocap, .slice so sums.length scap) ⟨op, (c : Int), rt, tb, ks, ct, cols, ots, sums⟩) := fun W h => NodeIn.lessN (HNI.out.step (F' := F) ⟨h.mono (fun k hk => by simp at hk; rcases hk with rfl | rfl; exact HK.out.fd; exact HK.out.fu), fun _ h => Or.inl h⟩)
    have HKO : Hid (∀ w v (l : List K), KeysIn w [] v l → l.length ≤ 1048576 → Calls Try.prog 69 #[v] w (IntsPost (colsOf l) w)) := keysOf_any
    have HCO : Hid (∀ w v (l : List Int) (many least : Nat), IntsIn w [] v l → l.length ≤ 1048576 → many ≤ 1048576 → Calls Try.prog 68 #[v, .int .i64 (many : Int), .int .i64 (least : Int)] w (BoolPost (ColsOK l many least) w)) := cols_any
    have hs_k : ks.length ≤ 1048576 := HS.out.1
    have hs_c : cols.length ≤ 1048576 := HS.out.2.1
    have hs_o : ots.length ≤ 1048576 := HS.out.2.2.1
    have hs_s : sums.length ≤ 1048576 := HS.out.2.2.2
    rcases HOP.out with rfl | rfl | rfl | rfl
    · have e1 : NodeOK T cs (⟨2, (c : Int), rt, tb, ks, ct, cols, ots, sums⟩ : VN) = (ColsOK (colsOf ks) L.length 1) := by rw [← HLE.out]; simp [NodeOK, colsLeft]
      have e2 : nodeL T cs (⟨2, (c : Int), rt, tb, ks, ct, cols, ots, sums⟩ : VN) = L := by rw [← HLE.out]; simp [nodeL, colsLeft]
      have HE : Hid ((NodeOK T cs (⟨2, (c : Int), rt, tb, ks, ct, cols, ots, sums⟩ : VN) = (ColsOK (colsOf ks) L.length 1)) ∧ nodeL T cs (⟨2, (c : Int), rt, tb, ks, ct, cols, ots, sums⟩ : VN) = L) := ⟨e1, e2⟩
      clear e1 e2
      go_region
      go_wp2_with fail
      refine calls_at (fun W => MidSt w F bk gd gu (.slice (some ⟨gc, 0, none⟩) cs.length ccap3) cs n (D.set i (1 + dc)) (A ++ [(c : Int)]) bn (nodeCells ⟨2, (c : Int), rt, tb, ks, ct, cols, ots, sums⟩ (.slice ko ks.length kcap, .slice co cols.length ccap, .slice oo ots.length ocap, .slice so sums.length scap)) (.slice lo L.length lcap) L W) ((HM3.out.deep hi hbnd _).b ((Below.refl _ _).drew)) ?_
      intro W4 hM4
      refine (HKO.out W4 _ ks (HKI.out W4 hM4.2.2.1) hs_k).mono ?_
      rintro e w5 ⟨r5, rfl, hr5, hB5⟩
      have hM5 := hM4.b hB5
      have HM5 : Hid (MidSt w F bk gd gu (.slice (some ⟨gc, 0, none⟩) cs.length ccap3) cs n (D.set i (1 + dc)) (A ++ [(c : Int)]) bn (nodeCells ⟨2, (c : Int), rt, tb, ks, ct, cols, ots, sums⟩ (.slice ko ks.length kcap, .slice co cols.length ccap, .slice oo ots.length ocap, .slice so sums.length scap)) (.slice lo L.length lcap) L w5) := hM5
      obtain ⟨ro5, rcap5, rfl, _, _, g5⟩ := hr5.open
      clear g5 hM4 hM5 hB5 k1 x0 x1 x2 x3 x4 x5 x6 x7 x8 d0 d1 d2
      go_wp2_with fail
      refine (HCO.out _ _ (colsOf ks) L.length 1 hr5 (by simp [colsOf]; omega) (by omega)).mono ?_
      rintro e w6 ⟨b6, rfl, hb6, hB6⟩
      have hM6 := HM5.out.b hB6
      have HM6 : Hid (MidSt w F bk gd gu (.slice (some ⟨gc, 0, none⟩) cs.length ccap3) cs n (D.set i (1 + dc)) (A ++ [(c : Int)]) bn (nodeCells ⟨2, (c : Int), rt, tb, ks, ct, cols, ots, sums⟩ (.slice ko ks.length kcap, .slice co cols.length ccap, .slice oo ots.length ocap, .slice so sums.length scap)) (.slice lo L.length lcap) L w6) := hM6
      have x5 := hM6.2.1.2 5 _ rfl
      clear hM6 hB6 hr5
      have hct : ct = 0 := HB.out.2.2.2.1 (by simp)
      subst hct
      have i2 : inB 0 0 1000 = true := inB_t (by omega)
      by_cases hcol : ColsOK (colsOf ks) L.length 1
      · obtain rfl : b6 = true := hb6.2 hcol
        have HCOL : Hid (ColsOK (colsOf ks) L.length 1) := hcol
        clear hb6 hcol
        go_wp2_with (go_at_call 48; refine (HI.out _ _ _ _).mono ?_; rintro e w' ⟨rfl, rfl⟩)
        go_ret2
        exact node_fin1 (c := c) (by simp) (by simp) rfl (by omega) (by rw [HDD.out]; exact HM6.out) (by rw [HE.out.1]; simp [HCOL.out]) (fun _ => by rw [HE.out.2]; exact HM6.out.2.2.2)
      · obtain rfl : b6 = false := by rw [← Bool.not_eq_true, hb6]; exact hcol
        have HCOL : Hid (¬ ColsOK (colsOf ks) L.length 1) := hcol
        clear hb6 hcol
        go_wp2_with (go_at_call 48; refine (HI.out _ _ _ _).mono ?_; rintro e w' ⟨rfl, rfl⟩)
        go_ret2
        exact node_fin1 (c := c) (by simp) (by simp) rfl (by omega) (by rw [HDD.out]; exact HM6.out) (by rw [HE.out.1]; simp [HCOL.out]) (fun h => by cases h)
    · have e1 : NodeOK T cs (⟨3, (c : Int), rt, tb, ks, ct, cols, ots, sums⟩ : VN) = (ColsOK (colsOf ks) L.length 1 ∧ 0 ≤ ct ∧ ct ≤ 1000) := by rw [← HLE.out]; simp [NodeOK, colsLeft]
      have e2 : nodeL T cs (⟨3, (c : Int), rt, tb, ks, ct, cols, ots, sums⟩ : VN) = L := by rw [← HLE.out]; simp [nodeL, colsLeft]
      have HE : Hid ((NodeOK T cs (⟨3, (c : Int), rt, tb, ks, ct, cols, ots, sums⟩ : VN) = (ColsOK (colsOf ks) L.length 1 ∧ 0 ≤ ct ∧ ct ≤ 1000)) ∧ nodeL T cs (⟨3, (c : Int), rt, tb, ks, ct, cols, ots, sums⟩ : VN) = L) := ⟨e1, e2⟩
      clear e1 e2
      go_region
      go_wp2_with fail
      refine calls_at (fun W => MidSt w F bk gd gu (.slice (some ⟨gc, 0, none⟩) cs.length ccap3) cs n (D.set i (1 + dc)) (A ++ [(c : Int)]) bn (nodeCells ⟨3, (c : Int), rt, tb, ks, ct, cols, ots, sums⟩ (.slice ko ks.length kcap, .slice co cols.length ccap, .slice oo ots.length ocap, .slice so sums.length scap)) (.slice lo L.length lcap) L W) ((HM3.out.deep hi hbnd _).b ((Below.refl _ _).drew)) ?_
      intro W4 hM4
      refine (HKO.out W4 _ ks (HKI.out W4 hM4.2.2.1) hs_k).mono ?_
      rintro e w5 ⟨r5, rfl, hr5, hB5⟩
      have hM5 := hM4.b hB5
      have HM5 : Hid (MidSt w F bk gd gu (.slice (some ⟨gc, 0, none⟩) cs.length ccap3) cs n (D.set i (1 + dc)) (A ++ [(c : Int)]) bn (nodeCells ⟨3, (c : Int), rt, tb, ks, ct, cols, ots, sums⟩ (.slice ko ks.length kcap, .slice co cols.length ccap, .slice oo ots.length ocap, .slice so sums.length scap)) (.slice lo L.length lcap) L w5) := hM5
      obtain ⟨ro5, rcap5, rfl, _, _, g5⟩ := hr5.open
      clear g5 hM4 hM5 hB5 k1 x0 x1 x2 x3 x4 x5 x6 x7 x8 d0 d1 d2
      go_wp2_with fail
      refine (HCO.out _ _ (colsOf ks) L.length 1 hr5 (by simp [colsOf]; omega) (by omega)).mono ?_
      rintro e w6 ⟨b6, rfl, hb6, hB6⟩
      have hM6 := HM5.out.b hB6
      have HM6 : Hid (MidSt w F bk gd gu (.slice (some ⟨gc, 0, none⟩) cs.length ccap3) cs n (D.set i (1 + dc)) (A ++ [(c : Int)]) bn (nodeCells ⟨3, (c : Int), rt, tb, ks, ct, cols, ots, sums⟩ (.slice ko ks.length kcap, .slice co cols.length ccap, .slice oo ots.length ocap, .slice so sums.length scap)) (.slice lo L.length lcap) L w6) := hM6
      have x5 := hM6.2.1.2 5 _ rfl
      clear hM6 hB6 hr5
      by_cases hcol : ColsOK (colsOf ks) L.length 1
      · obtain rfl : b6 = true := hb6.2 hcol
        have HCOL : Hid (ColsOK (colsOf ks) L.length 1) := hcol
        clear hb6 hcol
        by_cases hct : 0 ≤ ct ∧ ct ≤ 1000
        · have i2 : inB ct 0 1000 = true := inB_t hct
          have HCT : Hid (0 ≤ ct ∧ ct ≤ 1000) := hct
          clear hct
          go_wp2_with (go_at_call 48; refine (HI.out _ _ _ _).mono ?_; rintro e w' ⟨rfl, rfl⟩)
          go_ret2
          exact node_fin1 (c := c) (by simp) (by simp) rfl (by omega) (by rw [HDD.out]; exact HM6.out) (by rw [HE.out.1]; simp [HCOL.out, HCT.out]) (fun _ => by rw [HE.out.2]; exact HM6.out.2.2.2)
        · have i2 : inB ct 0 1000 = false := inB_f hct
          have HCT : Hid (¬ (0 ≤ ct ∧ ct ≤ 1000)) := hct
          clear hct
          go_wp2_with (go_at_call 48; refine (HI.out _ _ _ _).mono ?_; rintro e w' ⟨rfl, rfl⟩)
          go_ret2
          exact node_fin1 (c := c) (by simp) (by simp) rfl (by omega) (by rw [HDD.out]; exact HM6.out) (by rw [HE.out.1]; exact ⟨fun h => (by cases h), fun h => absurd h.2 HCT.out⟩) (fun h => by cases h)
      · obtain rfl : b6 = false := by rw [← Bool.not_eq_true, hb6]; exact hcol
        have HCOL : Hid (¬ ColsOK (colsOf ks) L.length 1) := hcol
        clear hb6 hcol
        go_wp2_with (go_at_call 48; refine (HI.out _ _ _ _).mono ?_; rintro e w' ⟨rfl, rfl⟩)
        go_ret2
        exact node_fin1 (c := c) (by simp) (by simp) rfl (by omega) (by rw [HDD.out]; exact HM6.out) (by rw [HE.out.1]; exact ⟨fun h => (by cases h), fun h => absurd h.1 HCOL.out⟩) (fun h => by cases h)
    · have e2 : nodeL T cs (⟨6, (c : Int), rt, tb, ks, ct, cols, ots, sums⟩ : VN) = L := by rw [← HLE.out]; simp [nodeL, colsLeft]
      have e1 : NodeOK T cs (⟨6, (c : Int), rt, tb, ks, ct, cols, ots, sums⟩ : VN) = True := by simp [NodeOK]
      have HE : Hid ((NodeOK T cs (⟨6, (c : Int), rt, tb, ks, ct, cols, ots, sums⟩ : VN) = True) ∧ nodeL T cs (⟨6, (c : Int), rt, tb, ks, ct, cols, ots, sums⟩ : VN) = L) := ⟨e1, e2⟩
      clear e1 e2
      have HM4 : Hid (MidSt w F bk gd gu (.slice (some ⟨gc, 0, none⟩) cs.length ccap3) cs n (D.set i (1 + dc)) (A ++ [(c : Int)]) bn (nodeCells ⟨6, (c : Int), rt, tb, ks, ct, cols, ots, sums⟩ (.slice ko ks.length kcap, .slice co cols.length ccap, .slice oo ots.length ocap, .slice so sums.length scap)) (.slice lo L.length lcap) L (W3.setCell ⟨gd, i, none⟩ (.int .i64 (1 + dc))).drew) := (HM3.out.deep hi hbnd _).b ((Below.refl _ _).drew)
      go_region
      go_wp2
      go_ret2
      exact node_fin1 (c := c) (by simp) (by simp) rfl (by omega) (by rw [HDD.out]; exact HM4.out) (by rw [HE.out.1]; simp) (fun _ => by rw [HE.out.2]; exact HM4.out.2.2.2)
    · have e1 : NodeOK T cs (⟨7, (c : Int), rt, tb, ks, ct, cols, ots, sums⟩ : VN) = GroupOK cols sums L := by rw [← HLE.out]; simp [NodeOK, colsLeft]
      have e2 : nodeL T cs (⟨7, (c : Int), rt, tb, ks, ct, cols, ots, sums⟩ : VN) = groupL cols sums L := by rw [← HLE.out]; simp [nodeL, colsLeft]
      have HE : Hid ((NodeOK T cs (⟨7, (c : Int), rt, tb, ks, ct, cols, ots, sums⟩ : VN) = GroupOK cols sums L) ∧ nodeL T cs (⟨7, (c : Int), rt, tb, ks, ct, cols, ots, sums⟩ : VN) = groupL cols sums L) := ⟨e1, e2⟩
      clear e1 e2
      go_region
      go_wp2_with fail
      refine calls_at (fun W => MidSt w F bk gd gu (.slice (some ⟨gc, 0, none⟩) cs.length ccap3) cs n (D.set i (1 + dc)) (A ++ [(c : Int)]) bn (nodeCells ⟨7, (c : Int), rt, tb, ks, ct, cols, ots, sums⟩ (.slice ko ks.length kcap, .slice co cols.length ccap, .slice oo ots.length ocap, .slice so sums.length scap)) (.slice lo L.length lcap) L W) ((HM3.out.deep hi hbnd _).b ((Below.refl _ _).drew)) ?_
      intro W4 hM4
      refine (sums_any W4 (⟨7, (c : Int), rt, tb, ks, ct, cols, ots, sums⟩ : VN) (.slice ko ks.length kcap, .slice co cols.length ccap, .slice oo ots.length ocap, .slice so sums.length scap) _ L (HNW.out W4 hM4.2.2.1) (hM4.2.2.2.less (by simp)) (by omega) hs_c hs_s F (fun k hk => Nat.lt_of_lt_of_le (HFW.out k hk) hM4.2.2.1.size)).mono ?_
      rintro e w5 ⟨ao5, m5, cap5, b5, rfl, hb5, hin5, hB5⟩
      have HM5 : Hid (MidSt w F bk gd gu (.slice (some ⟨gc, 0, none⟩) cs.length ccap3) cs n (D.set i (1 + dc)) (A ++ [(c : Int)]) bn (nodeCells ⟨7, (c : Int), rt, tb, ks, ct, cols, ots, sums⟩ (.slice ko ks.length kcap, .slice co cols.length ccap, .slice oo ots.length ocap, .slice so sums.length scap)) (.slice lo L.length lcap) L w5) := hM4.b hB5
      have HB5 : Hid (b5 = true ↔ GroupOK cols sums L) := hb5
      have HIN5 : Hid (GroupOK cols sums L → IntsIn w5 F (.slice ao5 m5 cap5) (groupL cols sums L)) := hin5
      clear hM4 hB5 k1 x0 x1 x2 x3 x4 x5 x6 x7 x8 d0 d1 d2 hb5 hin5
      go_wp2
      go_ret2
      exact node_fin1 (c := c) (by simp) (by simp) rfl (by omega) (by rw [HDD.out]; exact HM5.out) (by rw [HE.out.1]; exact HB5.out) (fun h => by rw [HE.out.2]; exact HIN5.out (HB5.out.1 h))
  · have i1 : inB lf 0 ((i : Int) - 1) = false := inB_f (by omega)
    have HN := HNO.out (w.alloc (.cells #[.int .i64 op, .int .i64 lf, .int .i64 rt, .string tb, .slice ko ks.length kcap, .int .i64 ct, .slice co cols.length ccap, .slice oo ots.length ocap, .slice so sums.length scap] 106)) (fun h => hlf (h _ hmem)) ((Touch.refl _ _).alloc _)
    clear hK hmem
    go_wp2_with (go_at_call 48; refine (HI.out _ _ _ _).mono ?_; rintro e w' ⟨rfl, rfl⟩)
    go_ret2
    exact HN
end Go.Proofs.Ytjoinhljdbljaaa
