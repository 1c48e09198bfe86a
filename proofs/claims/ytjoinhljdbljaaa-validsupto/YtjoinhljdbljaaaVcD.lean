/- The document's columns of a Join: the walk. -/
import Derived.Test.YtjoinhljdbljaaaVcC
namespace Go.Proofs.Ytjoinhljdbljaaa
open Go.RowKit

/-- how a node that takes two inputs ends -/
theorem node_fin2 {T : List VT} {cs : List (List Int)} {nd : VN} {i : Nat} {w : World} {F : List Nat} {bk gd gu n : Nat} {cv : Value} {D A : List Int} {bn : Nat} {cells : List Value} {lv : Value} {L : List Int} {c d : Nat} {w4 : World} {ao : Option Addr} {m cap : Nat} {b : Bool} (h4 : nd.op = 4 ∨ nd.op = 5) (hl : nd.left = (c : Int)) (hr : nd.right = (d : Int)) (hc : c < i) (hd : d < i) (hM : MidSt w F bk gd gu cv cs n (D.set i (1 + max (D.getD c 0) (D.getD d 0))) ((A ++ [(c : Int)]) ++ [(d : Int)]) bn cells lv L w4) (hb : b = true ↔ NodeOK T cs nd) (hi : b = true → IntsIn w4 F (.slice ao m cap) (nodeL T cs nd)) : NodePost T cs nd i w F gd gu n D A (.returned (.tuple #[.slice ao m cap, .bool b])) w4 := by
  have h1 : nd.op ≠ 1 := by omega
  have e : ins nd = [(c : Int), (d : Int)] := by unfold ins; rw [if_neg h1, if_pos h4, hl, hr]
  have ha : Ahead nd i := fun x hx => by rw [e] at hx; simp at hx; omega
  refine ⟨ao, m, cap, b, rfl, by rw [hb]; exact ⟨fun h => ⟨ha, h⟩, fun h => h.2⟩, fun hb => ⟨hi hb, ?_, ?_⟩, hM.2.2.1⟩
  · rw [if_neg h1, if_pos h4, hl, hr, Int.toNat_natCast, Int.toNat_natCast]; exact hM.1.d
  · rw [e]
    have := hM.1.u
    rw [List.append_assoc] at this
    exact this
set_option maxRecDepth 20000 in
set_option maxHeartbeats 8000000 in
theorem node_two (w : World) (F : List Nat) (bk gd gu : Nat) (cv : Value) (cs : List (List Int)) (n : Nat) (D A : List Int) (tv : Value) (T : List VT) (nd : VN) (p : NP) (i : Nat) (hK : KSt w F bk gd gu cv cs n D (cntL n A)) (hFw : ∀ k ∈ F, k < w.heap.size) (hp : NodeIn w F p nd) (hs : NodeSmall nd) (hb : BareOK nd) (hop45' : nd.op = 4 ∨ nd.op = 5) (hi : i < n) (hn : n ≤ 12) (hic : cs.length = i) (hD : ∀ j, 0 ≤ D.getD j 0 ∧ D.getD j 0 ≤ 20) (hA : A.length ≤ 30) (hcl : ∀ j, (cs.getD j []).length ≤ 12) :
    Calls Try.prog 50 #[.pointer (some ⟨bk, 0, none⟩), tv, nodeV nd p, .int .i64 (i : Int)] w (NodePost T cs nd i w F gd gu n D A) := by
  have hop : nd.op ≠ 1 := by omega
  have HI : Hid (∀ n lo hi w, Calls Try.prog 48 #[.int .i64 n, .int .i64 lo, .int .i64 hi] w fun e w' => e = .returned (.bool (inB n lo hi)) ∧ w' = w) := in_any
  have hmem : nd.left ∈ ins nd := by unfold ins; rw [if_neg hop]; split <;> simp
  have HMR : Hid (nd.right ∈ ins nd) := by show _ ∈ _; unfold ins; rw [if_neg hop, if_pos hop45']; simp
  have HK : Hid (KSt w F bk gd gu cv cs n D (cntL n A)) := hK
  have HNI : Hid (NodeIn w F p nd) := hp
  have HNO : Hid (∀ w', ¬ Ahead nd i → Touch [gd, gu] w w' → NodePost T cs nd i w F gd gu n D A (.returned (.tuple #[.slice none 0 0, .bool false])) w') := fun w' h ht => ⟨none, 0, 0, false, rfl, by simp [h], by simp, ht⟩
  have hgd := hK.d.lt
  have hgu := hK.u.lt
  have hbk : bk < w.heap.size := World.block_lt_of_cell? w _ hK.c0
  have HOP : Hid (nd.op = 4 ∨ nd.op = 5) := hop45'
  have HB : Hid (BareOK nd) := hb
  have HS : Hid (NodeSmall nd) := hs
  generalize hnd : nd = n0 at *
  obtain ⟨op, lf, rt, tb, ks, ct, cols, ots, sums⟩ := n0
  obtain ⟨kv, cv2, ov, sv⟩ := p
  obtain ⟨hp1, hp2, hp3, hp4⟩ := hp
  simp only at *
  obtain ⟨ko, kcap, rfl, _, _, g1⟩ := hp1.open
  obtain ⟨co, ccap, rfl, _, _, g2⟩ := hp2.open
  obtain ⟨oo, ocap, rfl, _, _, g3⟩ := hp3.open
  obtain ⟨so, scap, rfl, _, _, g4⟩ := hp4.open
  clear g1 g2 g3 g4 hp1 hp2 hp3 hp4 hb hs
  unfold nodeV
  simp only
  have hd1 : (op == 1) = false := by simp [hop]
  go_enter Try.func50, Try.ntmps50
  by_cases hlf : 0 ≤ lf ∧ lf < (i : Int)
  · have i1 : inB lf 0 ((i : Int) - 1) = true := inB_t (by omega)
    obtain ⟨c, rfl, hc, gc, lo, lcap, ccap3, rfl, hcc, ngd, ngu, hcell, hleft⟩ := hK.left hlf.1 (by omega)
    have hL12 : (cs.getD c []).length ≤ 12 := hcl c
    obtain ⟨L, hLe⟩ : ∃ L, cs.getD c [] = L := ⟨_, rfl⟩
    rw [hLe] at hL12 hcell hleft
    have HLE : Hid (cs.getD c [] = L) := hLe
    have HCL : Hid (∀ j, (cs.getD j []).length ≤ 12) := hcl
    have HDB : Hid (∀ j, 0 ≤ D.getD j 0 ∧ D.getD j 0 ≤ 20) := hD
    have HFW : Hid (∀ k ∈ F, k < w.heap.size) := hFw
    clear hLe hcl hD hFw
    go_wp2_with (go_at_call 48; refine (HI.out _ _ _ _).mono ?_; rintro e w' ⟨rfl, rfl⟩)
    obtain ⟨bn, hbn⟩ : ∃ bn, bn = w.heap.size := ⟨_, rfl⟩
    rw [← hbn]
    refine wp_at (fun W => MidSt w F bk gd gu (.slice (some ⟨gc, 0, none⟩) cs.length ccap3) cs n D A bn (nodeCells ⟨op, (c : Int), rt, tb, ks, ct, cols, ots, sums⟩ (.slice ko ks.length kcap, .slice co cols.length ccap, .slice oo ots.length ocap, .slice so sums.length scap)) (.slice lo L.length lcap) L W) ⟨hK.b ((Below.refl _ _).alloc (Nat.le_refl _) _), by rw [hbn]; exact Box9.new w _ _, (Touch.refl _ _).alloc _, hleft.step (stepB ((Below.refl _ _).alloc (Nat.le_refl _) _))⟩ ?_
    intro W hM
    have hbnd : bn ≠ gd := by omega
    have hnu : bn ≠ gu := by omega
    have HBN : Hid (bn = w.heap.size) := hbn
    clear hbn
    have HM : Hid (MidSt w F bk gd gu (.slice (some ⟨gc, 0, none⟩) cs.length ccap3) cs n D A bn (nodeCells ⟨op, (c : Int), rt, tb, ks, ct, cols, ots, sums⟩ (.slice ko ks.length kcap, .slice co cols.length ccap, .slice oo ots.length ocap, .slice so sums.length scap)) (.slice lo L.length lcap) L W) := hM
    have k0 := hM.1.c0
    have x1 := hM.2.1.2 1 _ rfl
    have y0 := cell_touch hM.2.2.1 (by simp [ngd, ngu]) hcell
    clear hM hcell hleft hK
    go_big_quiet (fail)
    go_wp2_with fail
    refine wp_at (fun W' => MidSt w F bk gd gu (.slice (some ⟨gc, 0, none⟩) cs.length ccap3) cs n D A bn (nodeCells ⟨op, (c : Int), rt, tb, ks, ct, cols, ots, sums⟩ (.slice ko ks.length kcap, .slice co cols.length ccap, .slice oo ots.length ocap, .slice so sums.length scap)) (.slice lo L.length lcap) L W') (HM.out.b ⟨rfl, rfl, rfl, Nat.le_refl _, fun _ _ => rfl⟩) ?_
    intro W2 hM2
    have HM2 : Hid (MidSt w F bk gd gu (.slice (some ⟨gc, 0, none⟩) cs.length ccap3) cs n D A bn (nodeCells ⟨op, (c : Int), rt, tb, ks, ct, cols, ots, sums⟩ (.slice ko ks.length kcap, .slice co cols.length ccap, .slice oo ots.length ocap, .slice so sums.length scap)) (.slice lo L.length lcap) L W2) := hM2
    clear k0 x1 y0
    have k2 := hM2.1.c2
    have x1 := hM2.2.1.2 1 _ rfl
    obtain ⟨u0, u1⟩ := hM2.1.ucell (c := c) (by omega)
    have hcnt : A.count (c : Int) ≤ 30 := Nat.le_trans List.count_le_length hA
    clear hM2
    go_region
    go_wp2_with fail
    refine wp_at (fun W' => MidSt w F bk gd gu (.slice (some ⟨gc, 0, none⟩) cs.length ccap3) cs n D (A ++ [(c : Int)]) bn (nodeCells ⟨op, (c : Int), rt, tb, ks, ct, cols, ots, sums⟩ (.slice ko ks.length kcap, .slice co cols.length ccap, .slice oo ots.length ocap, .slice so sums.length scap)) (.slice lo L.length lcap) L W') ((HM2.out.ask (by omega) hnu).b ((Below.refl _ _).drew)) ?_
    intro W3 hM3
    have HM3 : Hid (MidSt w F bk gd gu (.slice (some ⟨gc, 0, none⟩) cs.length ccap3) cs n D (A ++ [(c : Int)]) bn (nodeCells ⟨op, (c : Int), rt, tb, ks, ct, cols, ots, sums⟩ (.slice ko ks.length kcap, .slice co cols.length ccap, .slice oo ots.length ocap, .slice so sums.length scap)) (.slice lo L.length lcap) L W3) := hM3
    clear k2 x1 u0 u1
    have k1 := hM3.1.c1
    have x0 := hM3.2.1.2 0 _ rfl
    have x1 := hM3.2.1.2 1 _ rfl
    have x2 := hM3.2.1.2 2 _ rfl
    have x3 := hM3.2.1.2 3 _ rfl
    have x4 := hM3.2.1.2 4 _ rfl
    have x5 := hM3.2.1.2 5 _ rfl
    have x6 := hM3.2.1.2 6 _ rfl
    have x7 := hM3.2.1.2 7 _ rfl
    have x8 := hM3.2.1.2 8 _ rfl
    obtain ⟨d0, _⟩ := hM3.1.dcell (c := c) (by omega)
    obtain ⟨d1, d2⟩ := hM3.1.dcell (c := i) (by omega)
    have hDc := HDB.out c
    clear hM3
    have HDC : Hid (∃ dc, D.getD c 0 = dc) := ⟨_, rfl⟩
    obtain ⟨dc, hdc⟩ := HDC.out
    rw [hdc] at d0 hDc
    have HDD : Hid (D.getD c 0 = dc) := hdc
    clear hdc HDC
    have HKI : Hid (∀ W, Touch [gd, gu] w W → KeysIn W [] (.slice ko ks.length kcap) ks) := fun W h => LiesC.lessN (HNI.out.1.step (F' := F) ⟨h.mono (fun k hk => by simp at hk; rcases hk with rfl | rfl; exact HK.out.fd; exact HK.out.fu), fun _ h => Or.inl h⟩)
    have HNW : Hid (∀ W, Touch [gd, gu] w W → NodeIn W [] (.slice ko ks.length kcap, .slice co cols.length ccap, .slice oo ots.length ocap, .slice so sums.length scap) ⟨op, (c : Int), rt, tb, ks, ct, cols, ots, sums⟩) := fun W h => NodeIn.lessN (HNI.out.step (F' := F) ⟨h.mono (fun k hk => by simp at hk; rcases hk with rfl | rfl; exact HK.out.fd; exact HK.out.fu), fun _ h => Or.inl h⟩)
    have HKO : Hid (∀ w v (l : List K), KeysIn w [] v l → l.length ≤ 1048576 → Calls Try.prog 69 #[v] w (IntsPost (colsOf l) w)) := keysOf_any
    have HCO : Hid (∀ w v (l : List Int) (many least : Nat), IntsIn w [] v l → l.length ≤ 1048576 → many ≤ 1048576 → Calls Try.prog 68 #[v, .int .i64 (many : Int), .int .i64 (least : Int)] w (BoolPost (ColsOK l many least) w)) := cols_any
    have hs_k : ks.length ≤ 1048576 := HS.out.1
    have hs_c : cols.length ≤ 1048576 := HS.out.2.1
    have hs_o : ots.length ≤ 1048576 := HS.out.2.2.1
    have hs_s : sums.length ≤ 1048576 := HS.out.2.2.2
    have hop45 := HOP.out
    have e6 : (op == 6) = false := by simp; omega
    have e7 : (op == 7) = false := by simp; omega
    have e22 : (op == 2) = false := by simp; omega
    have e33 : (op == 3) = false := by simp; omega
    go_region
    go_wp2_with fail
    refine calls_at (fun W => MidSt w F bk gd gu (.slice (some ⟨gc, 0, none⟩) cs.length ccap3) cs n (D.set i (1 + dc)) (A ++ [(c : Int)]) bn (nodeCells ⟨op, (c : Int), rt, tb, ks, ct, cols, ots, sums⟩ (.slice ko ks.length kcap, .slice co cols.length ccap, .slice oo ots.length ocap, .slice so sums.length scap)) (.slice lo L.length lcap) L W) ((HM3.out.deep hi hbnd _).b ((Below.refl _ _).drew)) ?_
    intro W4 hM4
    have HM4 : Hid (MidSt w F bk gd gu (.slice (some ⟨gc, 0, none⟩) cs.length ccap3) cs n (D.set i (1 + dc)) (A ++ [(c : Int)]) bn (nodeCells ⟨op, (c : Int), rt, tb, ks, ct, cols, ots, sums⟩ (.slice ko ks.length kcap, .slice co cols.length ccap, .slice oo ots.length ocap, .slice so sums.length scap)) (.slice lo L.length lcap) L W4) := hM4
    clear hM4 k1 x0 x1 x2 x3 x4 x5 x6 x7 x8 d0 d1 d2
    refine (HI.out _ _ _ _).mono ?_
    rintro e W5 ⟨rfl, rfl⟩
    by_cases hrt : 0 ≤ rt ∧ rt < (i : Int)
    · have i2 : inB rt 0 ((i : Int) - 1) = true := inB_t (by omega)
      obtain ⟨d, rfl, hd, gc', ro, rcap, cap', hcve, _, _, _, y1, hright⟩ := HM4.out.1.left hrt.1 (by omega)
      obtain rfl : gc = gc' := by simpa using (slice_inj hcve).1
      have hR12 : (cs.getD d []).length ≤ 12 := HCL.out d
      obtain ⟨R, hRe⟩ : ∃ R, cs.getD d [] = R := ⟨_, rfl⟩
      rw [hRe] at hR12 y1 hright
      have HRE : Hid (cs.getD d [] = R) := hRe
      have HE1 : Hid (NodeOK T cs ⟨op, (c : Int), (d : Int), tb, ks, ct, cols, ots, sums⟩ = JoinOK cols ots L R) := by
        show _ = _
        unfold NodeOK
        simp only [colsLeft, colsRight, Int.toNat_natCast]
        rw [if_neg (by omega), if_neg (by omega), if_neg (by omega), if_pos hop45, HLE.out, hRe]
      have HE2 : Hid (nodeL T cs ⟨op, (c : Int), (d : Int), tb, ks, ct, cols, ots, sums⟩ = L ++ R) := by
        show _ = _
        unfold nodeL
        simp only [colsLeft, colsRight, Int.toNat_natCast]
        rw [if_neg (by omega), if_pos hop45, HLE.out, hRe]
      have HCW : Hid (∀ W, Touch [gd, gu] w W → IntsIn W [] (.slice co cols.length ccap) cols) := fun W h => (HNW.out W h).2.1
      have HOW : Hid (∀ W, Touch [gd, gu] w W → IntsIn W [] (.slice oo ots.length ocap) ots) := fun W h => (HNW.out W h).2.2.1
      have HR4 : Hid (IntsIn W5 F (.slice ro R.length rcap) R) := hright
      have k0 := HM4.out.1.c0
      have x2 := HM4.out.2.1.2 2 _ rfl
      clear hRe hcve hright
      go_wp2_with fail
      go_big_quiet (fail)
      go_wp2_with fail
      refine wp_at (fun W' => MidSt w F bk gd gu (.slice (some ⟨gc, 0, none⟩) cs.length ccap3) cs n (D.set i (1 + dc)) (A ++ [(c : Int)]) bn (nodeCells ⟨op, (c : Int), (d : Int), tb, ks, ct, cols, ots, sums⟩ (.slice ko ks.length kcap, .slice co cols.length ccap, .slice oo ots.length ocap, .slice so sums.length scap)) (.slice lo L.length lcap) L W' ∧ IntsIn W' F (.slice ro R.length rcap) R) ⟨HM4.out.b ⟨rfl, rfl, rfl, Nat.le_refl _, fun _ _ => rfl⟩, HR4.out.step (stepB ⟨rfl, rfl, rfl, Nat.le_refl _, fun _ _ => rfl⟩)⟩ ?_
      rintro W6 ⟨hM6, hR6⟩
      have HM6 : Hid (MidSt w F bk gd gu (.slice (some ⟨gc, 0, none⟩) cs.length ccap3) cs n (D.set i (1 + dc)) (A ++ [(c : Int)]) bn (nodeCells ⟨op, (c : Int), (d : Int), tb, ks, ct, cols, ots, sums⟩ (.slice ko ks.length kcap, .slice co cols.length ccap, .slice oo ots.length ocap, .slice so sums.length scap)) (.slice lo L.length lcap) L W6) := hM6
      have HR6 : Hid (IntsIn W6 F (.slice ro R.length rcap) R) := hR6
      clear k0 x2 y1
      have k2 := hM6.1.c2
      have x2 := hM6.2.1.2 2 _ rfl
      obtain ⟨u0, u1⟩ := hM6.1.ucell (c := d) (by omega)
      have hcnt2 : (A ++ [(c : Int)]).count (d : Int) ≤ 31 := Nat.le_trans List.count_le_length (by simp; omega)
      clear hM6 hR6
      generalize hq0 : (A ++ [(c : Int)]).count (d : Int) = q0 at *
      have HQ0 : Hid ((A ++ [(c : Int)]).count (d : Int) = q0) := hq0
      clear hq0
      go_region
      go_wp2_with fail
      refine wp_at (fun W' => MidSt w F bk gd gu (.slice (some ⟨gc, 0, none⟩) cs.length ccap3) cs n (D.set i (1 + dc)) ((A ++ [(c : Int)]) ++ [(d : Int)]) bn (nodeCells ⟨op, (c : Int), (d : Int), tb, ks, ct, cols, ots, sums⟩ (.slice ko ks.length kcap, .slice co cols.length ccap, .slice oo ots.length ocap, .slice so sums.length scap)) (.slice lo L.length lcap) L W' ∧ IntsIn W' F (.slice ro R.length rcap) R) ⟨by have := (HM6.out.ask (c := d) (by omega) hnu).b ((Below.refl _ _).drew); rw [HQ0.out] at this; exact this, HR6.out.step ⟨((Touch.refl _ _).setCell HK.out.fu _).drew, fun _ h => Or.inl h⟩⟩ ?_
      rintro W7 ⟨hM7, hR7⟩
      have HM7 : Hid (MidSt w F bk gd gu (.slice (some ⟨gc, 0, none⟩) cs.length ccap3) cs n (D.set i (1 + dc)) ((A ++ [(c : Int)]) ++ [(d : Int)]) bn (nodeCells ⟨op, (c : Int), (d : Int), tb, ks, ct, cols, ots, sums⟩ (.slice ko ks.length kcap, .slice co cols.length ccap, .slice oo ots.length ocap, .slice so sums.length scap)) (.slice lo L.length lcap) L W7) := hM7
      have HR7 : Hid (IntsIn W7 F (.slice ro R.length rcap) R) := hR7
      clear k2 x2 u0 u1
      have k1 := hM7.1.c1
      have x2 := hM7.2.1.2 2 _ rfl
      have x6 := hM7.2.1.2 6 _ rfl
      obtain ⟨z0, _⟩ := hM7.1.dcell (c := d) (by omega)
      obtain ⟨z1, z2⟩ := hM7.1.dcell (c := i) (by omega)
      have hne : i ≠ d := by omega
      have hDl : i < D.length := by have := HK.out.dl; omega
      have g1 : (D.set i (1 + dc)).getD d 0 = D.getD d 0 := by simp [hne]
      have g2 : (D.set i (1 + dc)).getD i 0 = 1 + dc := by simp [hDl]
      rw [g1] at z0
      rw [g2] at z1
      have hDd := HDB.out d
      obtain ⟨dd, hdd⟩ : ∃ dd, D.getD d 0 = dd := ⟨_, rfl⟩
      rw [hdd] at z0 hDd
      have HDD2 : Hid (D.getD d 0 = dd) := hdd
      clear hdd g1 g2 hM7 hR7
      by_cases hge : 1 + dc ≤ dd
      · have hd9 : decide (1 + dc ≤ dd) = true := decide_eq_true hge
        have HMX : Hid (1 + max dc dd = 1 + dd) := by show _ = _; omega
        go_big_quiet (fail)
        go_wp2_with fail
        refine wp_at (fun W' => MidSt w F bk gd gu (.slice (some ⟨gc, 0, none⟩) cs.length ccap3) cs n (D.set i (1 + dc)) ((A ++ [(c : Int)]) ++ [(d : Int)]) bn (nodeCells ⟨op, (c : Int), (d : Int), tb, ks, ct, cols, ots, sums⟩ (.slice ko ks.length kcap, .slice co cols.length ccap, .slice oo ots.length ocap, .slice so sums.length scap)) (.slice lo L.length lcap) L W' ∧ IntsIn W' F (.slice ro R.length rcap) R) ⟨HM7.out.b ⟨rfl, rfl, rfl, Nat.le_refl _, fun _ _ => rfl⟩, HR7.out.step (stepB ⟨rfl, rfl, rfl, Nat.le_refl _, fun _ _ => rfl⟩)⟩ ?_
        rintro W8 ⟨hM8, hR8⟩
        have HM8 : Hid (MidSt w F bk gd gu (.slice (some ⟨gc, 0, none⟩) cs.length ccap3) cs n (D.set i (1 + dc)) ((A ++ [(c : Int)]) ++ [(d : Int)]) bn (nodeCells ⟨op, (c : Int), (d : Int), tb, ks, ct, cols, ots, sums⟩ (.slice ko ks.length kcap, .slice co cols.length ccap, .slice oo ots.length ocap, .slice so sums.length scap)) (.slice lo L.length lcap) L W8) := hM8
        have HR8 : Hid (IntsIn W8 F (.slice ro R.length rcap) R) := hR8
        clear k1 x2 z0 z1 z2 x6
        have k1 := hM8.1.c1
        have x2 := hM8.2.1.2 2 _ rfl
        have x6 := hM8.2.1.2 6 _ rfl
        obtain ⟨z0, _⟩ := hM8.1.dcell (c := d) (by omega)
        obtain ⟨z1, z2⟩ := hM8.1.dcell (c := i) (by omega)
        have g1 : (D.set i (1 + dc)).getD d 0 = D.getD d 0 := by simp [hne]
        rw [g1, HDD2.out] at z0
        clear g1 hM8 hR8
        go_region
        go_wp2_with fail
        refine calls_at (fun W' => MidSt w F bk gd gu (.slice (some ⟨gc, 0, none⟩) cs.length ccap3) cs n (D.set i (1 + max dc dd)) ((A ++ [(c : Int)]) ++ [(d : Int)]) bn (nodeCells ⟨op, (c : Int), (d : Int), tb, ks, ct, cols, ots, sums⟩ (.slice ko ks.length kcap, .slice co cols.length ccap, .slice oo ots.length ocap, .slice so sums.length scap)) (.slice lo L.length lcap) L W' ∧ IntsIn W' F (.slice ro R.length rcap) R) ⟨by have := (HM8.out.deep hi hbnd (1 + dd)).b ((Below.refl _ _).drew); rw [List.set_set] at this; rw [HMX.out]; exact this, HR8.out.step ⟨((Touch.refl _ _).setCell HK.out.fd _).drew, fun _ h => Or.inl h⟩⟩ ?_
        rintro W9 ⟨hM9, hR9⟩
        have HM9 : Hid (MidSt w F bk gd gu (.slice (some ⟨gc, 0, none⟩) cs.length ccap3) cs n (D.set i (1 + max dc dd)) ((A ++ [(c : Int)]) ++ [(d : Int)]) bn (nodeCells ⟨op, (c : Int), (d : Int), tb, ks, ct, cols, ots, sums⟩ (.slice ko ks.length kcap, .slice co cols.length ccap, .slice oo ots.length ocap, .slice so sums.length scap)) (.slice lo L.length lcap) L W9) := hM9
        have HR9 : Hid (IntsIn W9 F (.slice ro R.length rcap) R) := hR9
        clear hM9 hR9
        try clear k1
        try clear x2
        try clear x6
        try clear z0
        try clear z1
        try clear z2
        refine (HCO.out _ _ cols L.length 1 (HCW.out W9 HM9.out.2.2.1) hs_c (by omega)).mono ?_
        rintro e w10 ⟨b10, rfl, hb10, hB10⟩
        have hM10 := HM9.out.b hB10
        have HM10 : Hid (MidSt w F bk gd gu (.slice (some ⟨gc, 0, none⟩) cs.length ccap3) cs n (D.set i (1 + max dc dd)) ((A ++ [(c : Int)]) ++ [(d : Int)]) bn (nodeCells ⟨op, (c : Int), (d : Int), tb, ks, ct, cols, ots, sums⟩ (.slice ko ks.length kcap, .slice co cols.length ccap, .slice oo ots.length ocap, .slice so sums.length scap)) (.slice lo L.length lcap) L w10) := hM10
        have HR10 : Hid (IntsIn w10 F (.slice ro R.length rcap) R) := HR9.out.step (stepB hB10)
        have x7 := hM10.2.1.2 7 _ rfl
        have HB10 : Hid (b10 = true ↔ ColsOK cols L.length 1) := hb10
        clear hM10 hB10 hb10 HM9 HR9
        go_wp2_with fail
        refine (HCO.out _ _ ots R.length 1 (HOW.out w10 HM10.out.2.2.1) hs_o (by omega)).mono ?_
        rintro e w11 ⟨b11, rfl, hb11, hB11⟩
        have hM11 := HM10.out.b hB11
        have HMX9 : Hid (MidSt w F bk gd gu (.slice (some ⟨gc, 0, none⟩) cs.length ccap3) cs n (D.set i (1 + max dc dd)) ((A ++ [(c : Int)]) ++ [(d : Int)]) bn (nodeCells ⟨op, (c : Int), (d : Int), tb, ks, ct, cols, ots, sums⟩ (.slice ko ks.length kcap, .slice co cols.length ccap, .slice oo ots.length ocap, .slice so sums.length scap)) (.slice lo L.length lcap) L w11) := hM11
        have HR11 : Hid (IntsIn w11 F (.slice ro R.length rcap) R) := HR10.out.step (stepB hB11)
        clear x7
        have x6 := hM11.2.1.2 6 _ rfl
        have x7 := hM11.2.1.2 7 _ rfl
        have HB11 : Hid (b11 = true ↔ ColsOK ots R.length 1) := hb11
        clear hM11 hB11 hb11 HM10 HR10
        by_cases hj : (ColsOK cols L.length 1 ∧ ColsOK ots R.length 1) ∧ cols.length = ots.length
        · obtain rfl : b10 = true := HB10.out.2 hj.1.1
          obtain rfl : b11 = true := HB11.out.2 hj.1.2
          have HJ : Hid ((ColsOK cols L.length 1 ∧ ColsOK ots R.length 1) ∧ cols.length = ots.length) := hj
          have hcl4 : cols.length ≤ 4 := hj.1.1.2.2
          have hd3 : ((cols.length : Int) != (ots.length : Int)) = false := by simp [hj.2]
          clear hj HB10 HB11
          have HNL : Hid (NodeOK T cs ⟨op, (c : Int), (d : Int), tb, ks, ct, cols, ots, sums⟩ ↔ ∀ k (h : k < cols.length) (h2 : k < ots.length), colAt L cols[k] = colAt R ots[k]) := by
            show _ ↔ _
            rw [HE1.out]
            exact ⟨fun h k a b => (h.2.2.2 k a b).2.2, fun h => ⟨HJ.out.1.1.2.1, HJ.out.1.1.2.2, HJ.out.2.symm, fun k a b => ⟨HJ.out.1.1.1 k a, HJ.out.1.2.1 k b, h k a b⟩⟩⟩
          go_wp2_with fail
          go_loopw [16] (fun j wr => ∃ k : Nat, k ≤ cols.length ∧ j = .int .i64 k ∧ (∀ j (h : j < cols.length) (h2 : j < ots.length), j < k → colAt L cols[j] = colAt R ots[j]) ∧ Below w11.heap.size w11 wr) (fun j _ => cols.length - (intOf j).toNat)
          case atStart => exact ⟨0, by omega, rfl, fun j _ _ h => by omega, Below.refl _ _⟩
          case round =>
            obtain ⟨k, hk, rfl, hall, hB⟩ := hrel
            have hMr := HMX9.out.b hB
            have HMr : Hid (MidSt w F bk gd gu (.slice (some ⟨gc, 0, none⟩) cs.length ccap3) cs n (D.set i (1 + max dc dd)) ((A ++ [(c : Int)]) ++ [(d : Int)]) bn (nodeCells ⟨op, (c : Int), (d : Int), tb, ks, ct, cols, ots, sums⟩ (.slice ko ks.length kcap, .slice co cols.length ccap, .slice oo ots.length ocap, .slice so sums.length scap)) (.slice lo L.length lcap) L wr) := hMr
            have HRr : Hid (IntsIn wr F (.slice ro R.length rcap) R) := HR11.out.step (stepB hB)
            clear x6 x7
            have x6 := hMr.2.1.2 6 _ rfl
            have x7 := hMr.2.1.2 7 _ rfl
            by_cases hlt : k < cols.length
            · have hlt2 : k < ots.length := by have := HJ.out.2; omega
              obtain ⟨b1, off1, hao1, hcell1⟩ := (HCW.out wr hMr.2.2.1).cells (by omega)
              subst hao1
              have c0 := hcell1 k hlt
              obtain ⟨b2, off2, hao2, hcell2⟩ := (HOW.out wr hMr.2.2.1).cells (by omega)
              subst hao2
              have c1 := hcell2 k hlt2
              obtain ⟨n1, hn1, hn1l⟩ := InCol.nat (l := L) (HJ.out.1.1.1 k hlt)
              obtain ⟨n2, hn2, hn2l⟩ := InCol.nat (l := R) (HJ.out.1.2.1 k hlt2)
              obtain ⟨b3, off3, hao3, hcell3⟩ := hMr.2.2.2.cells (by omega)
              subst hao3
              have c3 := hcell3 n1 hn1l
              obtain ⟨b4, off4, hao4, hcell4⟩ := HRr.out.cells (by omega)
              subst hao4
              have c4 := hcell4 n2 hn2l
              have HEQ : Hid (colAt L cols[k] = colAt R ots[k] ↔ L[n1] = R[n2]) := by show _ ↔ _; rw [hn1, hn2, colAt_nat hn1l, colAt_nat hn2l]
              have HNX : Hid (colAt L cols[k] = colAt R ots[k] → ∀ j (h : j < cols.length) (h2 : j < ots.length), j < k + 1 → colAt L cols[j] = colAt R ots[j]) := by
                intro hq j a b hjk
                by_cases e : j = k
                · subst e; exact hq
                · exact hall j a b (by omega)
              have HNF : Hid (¬ colAt L cols[k] = colAt R ots[k] → ¬ NodeOK T cs ⟨op, (c : Int), (d : Int), tb, ks, ct, cols, ots, sums⟩) := fun hq h => hq (HNL.out.1 h k hlt hlt2)
              rw [hn1] at c0
              rw [hn2] at c1
              generalize L[n1] = v1 at *
              generalize R[n2] = v2 at *
              clear hcell1 hcell2 hcell3 hcell4 hall hn1 hn2 hMr
              by_cases hv : v1 = v2
              · subst hv
                have hd5 : (v1 != v1) = false := by simp
                have HNX2 := HNX.out (HEQ.out.2 rfl)
                have HNX3 : Hid (∀ j (h : j < cols.length) (h2 : j < ots.length), j < k + 1 → colAt L cols[j] = colAt R ots[j]) := HNX2
                clear HNX2
                go_wp2_with fail
                go_big_quiet (fail)
                go_wp2
                go_roundw
                case rel => exact ⟨k + 1, by omega, by go_num, HNX3.out, ⟨hB.os, hB.tape, hB.output, hB.size, hB.block⟩⟩
                case measure => simp [intOf]; omega
              · have hd5 : (v1 != v2) = true := by simp [hv]
                have HNJ := HNF.out (fun h => hv (HEQ.out.1 h))
                have HNJ2 : Hid (¬ NodeOK T cs ⟨op, (c : Int), (d : Int), tb, ks, ct, cols, ots, sums⟩) := HNJ
                clear HNJ hv
                go_wp2_with fail
                go_big_quiet (fail)
                go_wp2
                go_ret2
                exact node_fin2 (c := c) (d := d) hop45 rfl rfl (by omega) (by omega) (by rw [HDD.out, HDD2.out]; exact HMr.out.b ⟨rfl, rfl, rfl, Nat.le_refl _, fun _ _ => rfl⟩) (by simp [HNJ2.out]) (fun h => by cases h)
            · have HOK : Hid (NodeOK T cs ⟨op, (c : Int), (d : Int), tb, ks, ct, cols, ots, sums⟩) := HNL.out.2 fun j a b => hall j a b (by omega)
              have hq1 := HJ.out.1.1.1 0 (by have := HJ.out.1.1.2.1; omega)
              have hq2 := HJ.out.1.2.1 0 (by have := HJ.out.1.2.2.1; omega)
              have hL1 : 1 ≤ L.length := by omega
              have hR1 : 1 ≤ R.length := by omega
              obtain ⟨b3, off3, hao3, hcell3⟩ := hMr.2.2.2.cells (by omega)
              subst hao3
              have HNW1 : Hid _ := ints_news hcell3
              obtain ⟨b4, off4, hao4, hcell4⟩ := HRr.out.cells (by omega)
              subst hao4
              clear hall hcell3 hcell4 hMr hq1 hq2
              go_wp2_with (first | (at_builtin; refine irow_append rfl (.tmp 203) (.tmp 204) rfl wr.heap.size _ [] rfl (OwnI.nil _ _) _ L lcap rfl HNW1.out (by simp; omega) (Nat.le_refl _) ?_; intro v1 w12 hO12 hB12; obtain ⟨b5, off5, hao5, hcell5⟩ := (HRr.out.step (stepB hB12)).cells (by omega); obtain ⟨rfl, rfl⟩ : b4 = b5 ∧ off4 = off5 := (by simpa using hao5); have HNW2 : Hid _ := ints_news hcell5; clear hcell5 hao5) | (at_builtin; refine irow_append rfl (.tmp 206) (.tmp 207) rfl wr.heap.size _ _ rfl hO12 _ R rcap rfl HNW2.out (by simp; omega) hB12.size ?_; intro v2 w13 hO13 hB13))
              have hin := hO13.in
              obtain ⟨ao9, cap9, e9, _, _, _⟩ := hin.open
              subst e9
              have hB14 := hB12.trans hB13
              have HIN : Hid (IntsIn w13 F (.slice ao9 ([] ++ L ++ R).length cap9) (L ++ R)) := by
                have := hO13.inF (F := F) (fun k hk => Nat.lt_of_lt_of_le (HFW.out k hk) HMr.out.2.2.1.size)
                exact this
              go_wp2
              go_ret2
              exact node_fin2 (c := c) (d := d) hop45 rfl rfl (by omega) (by omega) (by rw [HDD.out, HDD2.out]; exact HMr.out.b hB14) (by simp [HOK.out]) (fun _ => by rw [HE2.out]; exact HIN.out)
        · have HNJ : Hid (¬ NodeOK T cs ⟨op, (c : Int), (d : Int), tb, ks, ct, cols, ots, sums⟩) := by
            show ¬ _
            rw [HE1.out]
            intro h
            have e := h.2.2.1
            have e1 := h.1
            have e2 := h.2.1
            exact hj ⟨⟨⟨fun k hk => (h.2.2.2 k hk (by omega)).1, h.1, h.2.1⟩, ⟨fun k hk => (h.2.2.2 k (by omega) hk).2.1, by omega, by omega⟩⟩, h.2.2.1.symm⟩
          by_cases h10 : ColsOK cols L.length 1
          · obtain rfl : b10 = true := HB10.out.2 h10
            by_cases h11 : ColsOK ots R.length 1
            · obtain rfl : b11 = true := HB11.out.2 h11
              have hne3 : ¬ cols.length = ots.length := fun e => hj ⟨⟨h10, h11⟩, e⟩
              have hd3 : ((cols.length : Int) != (ots.length : Int)) = true := by rw [bne_iff_ne]; omega
              clear hj h10 h11 HB10 HB11
              go_wp2
              go_ret2
              exact node_fin2 (c := c) (d := d) hop45 rfl rfl (by omega) (by omega) (by rw [HDD.out, HDD2.out]; exact HMX9.out) (by simp [HNJ.out]) (fun h => by cases h)
            · obtain rfl : b11 = false := by rw [← Bool.not_eq_true, HB11.out]; exact h11
              clear hj h10 h11 HB10 HB11
              go_wp2
              go_ret2
              exact node_fin2 (c := c) (d := d) hop45 rfl rfl (by omega) (by omega) (by rw [HDD.out, HDD2.out]; exact HMX9.out) (by simp [HNJ.out]) (fun h => by cases h)
          · obtain rfl : b10 = false := by rw [← Bool.not_eq_true, HB10.out]; exact h10
            clear hj h10 HB10 HB11
            go_wp2
            go_ret2
            exact node_fin2 (c := c) (d := d) hop45 rfl rfl (by omega) (by omega) (by rw [HDD.out, HDD2.out]; exact HMX9.out) (by simp [HNJ.out]) (fun h => by cases h)
      · have hd9 : decide (1 + dc ≤ dd) = false := decide_eq_false hge
        have HMX : Hid (1 + max dc dd = 1 + dc) := by show _ = _; omega
        go_big_quiet (fail)
        go_wp2_with fail
        refine calls_at (fun W' => MidSt w F bk gd gu (.slice (some ⟨gc, 0, none⟩) cs.length ccap3) cs n (D.set i (1 + max dc dd)) ((A ++ [(c : Int)]) ++ [(d : Int)]) bn (nodeCells ⟨op, (c : Int), (d : Int), tb, ks, ct, cols, ots, sums⟩ (.slice ko ks.length kcap, .slice co cols.length ccap, .slice oo ots.length ocap, .slice so sums.length scap)) (.slice lo L.length lcap) L W' ∧ IntsIn W' F (.slice ro R.length rcap) R) ⟨by rw [HMX.out]; exact HM7.out.b ⟨rfl, rfl, rfl, Nat.le_refl _, fun _ _ => rfl⟩, HR7.out.step (stepB ⟨rfl, rfl, rfl, Nat.le_refl _, fun _ _ => rfl⟩)⟩ ?_
        rintro W9 ⟨hM9, hR9⟩
        have HM9 : Hid (MidSt w F bk gd gu (.slice (some ⟨gc, 0, none⟩) cs.length ccap3) cs n (D.set i (1 + max dc dd)) ((A ++ [(c : Int)]) ++ [(d : Int)]) bn (nodeCells ⟨op, (c : Int), (d : Int), tb, ks, ct, cols, ots, sums⟩ (.slice ko ks.length kcap, .slice co cols.length ccap, .slice oo ots.length ocap, .slice so sums.length scap)) (.slice lo L.length lcap) L W9) := hM9
        have HR9 : Hid (IntsIn W9 F (.slice ro R.length rcap) R) := hR9
        clear hM9 hR9
        try clear k1
        try clear x2
        try clear x6
        try clear z0
        try clear z1
        try clear z2
        refine (HCO.out _ _ cols L.length 1 (HCW.out W9 HM9.out.2.2.1) hs_c (by omega)).mono ?_
        rintro e w10 ⟨b10, rfl, hb10, hB10⟩
        have hM10 := HM9.out.b hB10
        have HM10 : Hid (MidSt w F bk gd gu (.slice (some ⟨gc, 0, none⟩) cs.length ccap3) cs n (D.set i (1 + max dc dd)) ((A ++ [(c : Int)]) ++ [(d : Int)]) bn (nodeCells ⟨op, (c : Int), (d : Int), tb, ks, ct, cols, ots, sums⟩ (.slice ko ks.length kcap, .slice co cols.length ccap, .slice oo ots.length ocap, .slice so sums.length scap)) (.slice lo L.length lcap) L w10) := hM10
        have HR10 : Hid (IntsIn w10 F (.slice ro R.length rcap) R) := HR9.out.step (stepB hB10)
        have x7 := hM10.2.1.2 7 _ rfl
        have HB10 : Hid (b10 = true ↔ ColsOK cols L.length 1) := hb10
        clear hM10 hB10 hb10 HM9 HR9
        go_wp2_with fail
        refine (HCO.out _ _ ots R.length 1 (HOW.out w10 HM10.out.2.2.1) hs_o (by omega)).mono ?_
        rintro e w11 ⟨b11, rfl, hb11, hB11⟩
        have hM11 := HM10.out.b hB11
        have HMX9 : Hid (MidSt w F bk gd gu (.slice (some ⟨gc, 0, none⟩) cs.length ccap3) cs n (D.set i (1 + max dc dd)) ((A ++ [(c : Int)]) ++ [(d : Int)]) bn (nodeCells ⟨op, (c : Int), (d : Int), tb, ks, ct, cols, ots, sums⟩ (.slice ko ks.length kcap, .slice co cols.length ccap, .slice oo ots.length ocap, .slice so sums.length scap)) (.slice lo L.length lcap) L w11) := hM11
        have HR11 : Hid (IntsIn w11 F (.slice ro R.length rcap) R) := HR10.out.step (stepB hB11)
        clear x7
        have x6 := hM11.2.1.2 6 _ rfl
        have x7 := hM11.2.1.2 7 _ rfl
        have HB11 : Hid (b11 = true ↔ ColsOK ots R.length 1) := hb11
        clear hM11 hB11 hb11 HM10 HR10
        by_cases hj : (ColsOK cols L.length 1 ∧ ColsOK ots R.length 1) ∧ cols.length = ots.length
        · obtain rfl : b10 = true := HB10.out.2 hj.1.1
          obtain rfl : b11 = true := HB11.out.2 hj.1.2
          have HJ : Hid ((ColsOK cols L.length 1 ∧ ColsOK ots R.length 1) ∧ cols.length = ots.length) := hj
          have hcl4 : cols.length ≤ 4 := hj.1.1.2.2
          have hd3 : ((cols.length : Int) != (ots.length : Int)) = false := by simp [hj.2]
          clear hj HB10 HB11
          have HNL : Hid (NodeOK T cs ⟨op, (c : Int), (d : Int), tb, ks, ct, cols, ots, sums⟩ ↔ ∀ k (h : k < cols.length) (h2 : k < ots.length), colAt L cols[k] = colAt R ots[k]) := by
            show _ ↔ _
            rw [HE1.out]
            exact ⟨fun h k a b => (h.2.2.2 k a b).2.2, fun h => ⟨HJ.out.1.1.2.1, HJ.out.1.1.2.2, HJ.out.2.symm, fun k a b => ⟨HJ.out.1.1.1 k a, HJ.out.1.2.1 k b, h k a b⟩⟩⟩
          go_wp2_with fail
          go_loopw [16] (fun j wr => ∃ k : Nat, k ≤ cols.length ∧ j = .int .i64 k ∧ (∀ j (h : j < cols.length) (h2 : j < ots.length), j < k → colAt L cols[j] = colAt R ots[j]) ∧ Below w11.heap.size w11 wr) (fun j _ => cols.length - (intOf j).toNat)
          case atStart => exact ⟨0, by omega, rfl, fun j _ _ h => by omega, Below.refl _ _⟩
          case round =>
            obtain ⟨k, hk, rfl, hall, hB⟩ := hrel
            have hMr := HMX9.out.b hB
            have HMr : Hid (MidSt w F bk gd gu (.slice (some ⟨gc, 0, none⟩) cs.length ccap3) cs n (D.set i (1 + max dc dd)) ((A ++ [(c : Int)]) ++ [(d : Int)]) bn (nodeCells ⟨op, (c : Int), (d : Int), tb, ks, ct, cols, ots, sums⟩ (.slice ko ks.length kcap, .slice co cols.length ccap, .slice oo ots.length ocap, .slice so sums.length scap)) (.slice lo L.length lcap) L wr) := hMr
            have HRr : Hid (IntsIn wr F (.slice ro R.length rcap) R) := HR11.out.step (stepB hB)
            clear x6 x7
            have x6 := hMr.2.1.2 6 _ rfl
            have x7 := hMr.2.1.2 7 _ rfl
            by_cases hlt : k < cols.length
            · have hlt2 : k < ots.length := by have := HJ.out.2; omega
              obtain ⟨b1, off1, hao1, hcell1⟩ := (HCW.out wr hMr.2.2.1).cells (by omega)
              subst hao1
              have c0 := hcell1 k hlt
              obtain ⟨b2, off2, hao2, hcell2⟩ := (HOW.out wr hMr.2.2.1).cells (by omega)
              subst hao2
              have c1 := hcell2 k hlt2
              obtain ⟨n1, hn1, hn1l⟩ := InCol.nat (l := L) (HJ.out.1.1.1 k hlt)
              obtain ⟨n2, hn2, hn2l⟩ := InCol.nat (l := R) (HJ.out.1.2.1 k hlt2)
              obtain ⟨b3, off3, hao3, hcell3⟩ := hMr.2.2.2.cells (by omega)
              subst hao3
              have c3 := hcell3 n1 hn1l
              obtain ⟨b4, off4, hao4, hcell4⟩ := HRr.out.cells (by omega)
              subst hao4
              have c4 := hcell4 n2 hn2l
              have HEQ : Hid (colAt L cols[k] = colAt R ots[k] ↔ L[n1] = R[n2]) := by show _ ↔ _; rw [hn1, hn2, colAt_nat hn1l, colAt_nat hn2l]
              have HNX : Hid (colAt L cols[k] = colAt R ots[k] → ∀ j (h : j < cols.length) (h2 : j < ots.length), j < k + 1 → colAt L cols[j] = colAt R ots[j]) := by
                intro hq j a b hjk
                by_cases e : j = k
                · subst e; exact hq
                · exact hall j a b (by omega)
              have HNF : Hid (¬ colAt L cols[k] = colAt R ots[k] → ¬ NodeOK T cs ⟨op, (c : Int), (d : Int), tb, ks, ct, cols, ots, sums⟩) := fun hq h => hq (HNL.out.1 h k hlt hlt2)
              rw [hn1] at c0
              rw [hn2] at c1
              generalize L[n1] = v1 at *
              generalize R[n2] = v2 at *
              clear hcell1 hcell2 hcell3 hcell4 hall hn1 hn2 hMr
              by_cases hv : v1 = v2
              · subst hv
                have hd5 : (v1 != v1) = false := by simp
                have HNX2 := HNX.out (HEQ.out.2 rfl)
                have HNX3 : Hid (∀ j (h : j < cols.length) (h2 : j < ots.length), j < k + 1 → colAt L cols[j] = colAt R ots[j]) := HNX2
                clear HNX2
                go_wp2_with fail
                go_big_quiet (fail)
                go_wp2
                go_roundw
                case rel => exact ⟨k + 1, by omega, by go_num, HNX3.out, ⟨hB.os, hB.tape, hB.output, hB.size, hB.block⟩⟩
                case measure => simp [intOf]; omega
              · have hd5 : (v1 != v2) = true := by simp [hv]
                have HNJ := HNF.out (fun h => hv (HEQ.out.1 h))
                have HNJ2 : Hid (¬ NodeOK T cs ⟨op, (c : Int), (d : Int), tb, ks, ct, cols, ots, sums⟩) := HNJ
                clear HNJ hv
                go_wp2_with fail
                go_big_quiet (fail)
                go_wp2
                go_ret2
                exact node_fin2 (c := c) (d := d) hop45 rfl rfl (by omega) (by omega) (by rw [HDD.out, HDD2.out]; exact HMr.out.b ⟨rfl, rfl, rfl, Nat.le_refl _, fun _ _ => rfl⟩) (by simp [HNJ2.out]) (fun h => by cases h)
            · have HOK : Hid (NodeOK T cs ⟨op, (c : Int), (d : Int), tb, ks, ct, cols, ots, sums⟩) := HNL.out.2 fun j a b => hall j a b (by omega)
              have hq1 := HJ.out.1.1.1 0 (by have := HJ.out.1.1.2.1; omega)
              have hq2 := HJ.out.1.2.1 0 (by have := HJ.out.1.2.2.1; omega)
              have hL1 : 1 ≤ L.length := by omega
              have hR1 : 1 ≤ R.length := by omega
              obtain ⟨b3, off3, hao3, hcell3⟩ := hMr.2.2.2.cells (by omega)
              subst hao3
              have HNW1 : Hid _ := ints_news hcell3
              obtain ⟨b4, off4, hao4, hcell4⟩ := HRr.out.cells (by omega)
              subst hao4
              clear hall hcell3 hcell4 hMr hq1 hq2
              go_wp2_with (first | (at_builtin; refine irow_append rfl (.tmp 203) (.tmp 204) rfl wr.heap.size _ [] rfl (OwnI.nil _ _) _ L lcap rfl HNW1.out (by simp; omega) (Nat.le_refl _) ?_; intro v1 w12 hO12 hB12; obtain ⟨b5, off5, hao5, hcell5⟩ := (HRr.out.step (stepB hB12)).cells (by omega); obtain ⟨rfl, rfl⟩ : b4 = b5 ∧ off4 = off5 := (by simpa using hao5); have HNW2 : Hid _ := ints_news hcell5; clear hcell5 hao5) | (at_builtin; refine irow_append rfl (.tmp 206) (.tmp 207) rfl wr.heap.size _ _ rfl hO12 _ R rcap rfl HNW2.out (by simp; omega) hB12.size ?_; intro v2 w13 hO13 hB13))
              have hin := hO13.in
              obtain ⟨ao9, cap9, e9, _, _, _⟩ := hin.open
              subst e9
              have hB14 := hB12.trans hB13
              have HIN : Hid (IntsIn w13 F (.slice ao9 ([] ++ L ++ R).length cap9) (L ++ R)) := by
                have := hO13.inF (F := F) (fun k hk => Nat.lt_of_lt_of_le (HFW.out k hk) HMr.out.2.2.1.size)
                exact this
              go_wp2
              go_ret2
              exact node_fin2 (c := c) (d := d) hop45 rfl rfl (by omega) (by omega) (by rw [HDD.out, HDD2.out]; exact HMr.out.b hB14) (by simp [HOK.out]) (fun _ => by rw [HE2.out]; exact HIN.out)
        · have HNJ : Hid (¬ NodeOK T cs ⟨op, (c : Int), (d : Int), tb, ks, ct, cols, ots, sums⟩) := by
            show ¬ _
            rw [HE1.out]
            intro h
            have e := h.2.2.1
            have e1 := h.1
            have e2 := h.2.1
            exact hj ⟨⟨⟨fun k hk => (h.2.2.2 k hk (by omega)).1, h.1, h.2.1⟩, ⟨fun k hk => (h.2.2.2 k (by omega) hk).2.1, by omega, by omega⟩⟩, h.2.2.1.symm⟩
          by_cases h10 : ColsOK cols L.length 1
          · obtain rfl : b10 = true := HB10.out.2 h10
            by_cases h11 : ColsOK ots R.length 1
            · obtain rfl : b11 = true := HB11.out.2 h11
              have hne3 : ¬ cols.length = ots.length := fun e => hj ⟨⟨h10, h11⟩, e⟩
              have hd3 : ((cols.length : Int) != (ots.length : Int)) = true := by rw [bne_iff_ne]; omega
              clear hj h10 h11 HB10 HB11
              go_wp2
              go_ret2
              exact node_fin2 (c := c) (d := d) hop45 rfl rfl (by omega) (by omega) (by rw [HDD.out, HDD2.out]; exact HMX9.out) (by simp [HNJ.out]) (fun h => by cases h)
            · obtain rfl : b11 = false := by rw [← Bool.not_eq_true, HB11.out]; exact h11
              clear hj h10 h11 HB10 HB11
              go_wp2
              go_ret2
              exact node_fin2 (c := c) (d := d) hop45 rfl rfl (by omega) (by omega) (by rw [HDD.out, HDD2.out]; exact HMX9.out) (by simp [HNJ.out]) (fun h => by cases h)
          · obtain rfl : b10 = false := by rw [← Bool.not_eq_true, HB10.out]; exact h10
            clear hj h10 HB10 HB11
            go_wp2
            go_ret2
            exact node_fin2 (c := c) (d := d) hop45 rfl rfl (by omega) (by omega) (by rw [HDD.out, HDD2.out]; exact HMX9.out) (by simp [HNJ.out]) (fun h => by cases h)
    · have i2 : inB rt 0 ((i : Int) - 1) = false := inB_f (by omega)
      have HN := HNO.out W5 (fun h => hrt (h _ HMR.out)) HM4.out.2.2.1
      clear hop45
      go_wp2
      go_ret2
      exact HN
  · have i1 : inB lf 0 ((i : Int) - 1) = false := inB_f (by omega)
    have HN := HNO.out (w.alloc (.cells #[.int .i64 op, .int .i64 lf, .int .i64 rt, .string tb, .slice ko ks.length kcap, .int .i64 ct, .slice co cols.length ccap, .slice oo ots.length ocap, .slice so sums.length scap] 106)) (fun h => hlf (h _ hmem)) ((Touch.refl _ _).alloc _)
    clear hK hmem
    go_wp2_with (go_at_call 48; refine (HI.out _ _ _ _).mono ?_; rintro e w' ⟨rfl, rfl⟩)
    go_ret2
    exact HN
end Go.Proofs.Ytjoinhljdbljaaa
