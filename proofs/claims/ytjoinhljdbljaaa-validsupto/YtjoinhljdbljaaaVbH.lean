/- Tables are lent: the walk. -/
import Derived.Test.YtjoinhljdbljaaaVbG
import Derived.Deep.RegionHeld3
namespace Go.Proofs.Ytjoinhljdbljaaa
open Go.RowKit

theorem info92 : (Try.prog.info? 92).map (fun i => (i.zero, i.size, i.bytes)) = some (some (.agg #[.string ⟨#[]⟩, .slice none 0 0, .slice none 0 0]), 3, 64) := by kernel_rfl
def TabBulk (T : List VT) : Prop := T.length ≤ 1048576 ∧ (∀ i (h : i < T.length), TabSmall T[i]) ∧ (∀ i (h : i < T.length) j (h2 : j < T[i].rows.length), T[i].rows[j].length ≤ 1048576) ∧ rowsSum T ≤ 1048576
def TabsPost (T : List VT) (w : World) : Ending → World → Prop := fun e w' => ∃ Vf X ps, e = .returned (.tuple #[.slice (some ⟨w.heap.size + 1, 0, none⟩) T.length (T.length + 8), .pointer (some ⟨w.heap.size, 0, none⟩)]) ∧ TabSt w.heap.size (w.heap.size + 1) w' T (T.length + 8) Vf X ps ∧ Below w.heap.size w w'
theorem rowsSum_take {T : List VT} {k : Nat} (h : k < T.length) : rowsSum (T.take (k + 1)) = rowsSum (T.take k) + T[k].rows.length := by
  unfold rowsSum
  rw [take_snoc' T k h, List.map_append, List.sum_append]; simp
theorem rowsSum_le (T : List VT) (k : Nat) : rowsSum (T.take k) ≤ rowsSum T := by
  conv => rhs; rw [← List.take_append_drop k T]
  unfold rowsSum
  rw [List.map_append, List.sum_append]; omega

theorem TabSt.rows {bx go : Nat} {W w2 : World} {T : List VT} {k : Nat} {Vf : Nat → Value} {X : Nat → List Value} {ps : List TP} (h : TabSt bx go W T k Vf X ps) (hb : Below W.heap.size W w2) {rows : List (List V)} (hp : PA w2 W.heap.size 33 ((rows.length + 8) * 1) []) :
    RowSt bx go W.heap.size w2 rows ((T.length + 8) * 3) (tabs3 ps) X 0 Vf X [] ∧ TabAt w2 (W.heap.size :: go :: LF bx Vf) T X ps := by
  obtain ⟨h1, h2, h3, h4, h5, h6, h7, h8⟩ := h
  have hst : Step (go :: LF bx Vf) (W.heap.size :: go :: LF bx Vf) W w2 := ⟨(Below.t hb).mono (by simp), fun k hk => by
    rcases List.mem_cons.1 hk with rfl | hk
    · exact Or.inr (Nat.le_refl _)
    · exact Or.inl hk⟩
  exact ⟨⟨h1.b hb, h2.step hst, hp, rfl, fun i u hu => by simp at hu, fun e => by have := h1.lt e; omega, h3.b hb, rfl, rfl, by omega⟩, h5.step hst⟩
theorem TabAt.less {F F' : List Nat} {w : World} {T : List VT} {X : Nat → List Value} {ps : List TP} (h : TabAt w F T X ps) (hF : ∀ k ∈ F', k ∈ F) : TabAt w F' T X ps := fun i p hp => ⟨fun hi => by
  obtain ⟨a, b, c, d⟩ := (h i p hp).1 hi
  exact ⟨a, Full.less b hF, c.less hF, d⟩, (h i p hp).2⟩
theorem RowSt.done {bx go gr : Nat} {wr W w1 : World} {rows : List (List V)} {X X' : Nat → List Value} {V' V3 V4 : Nat → Value} {cs : List Value} {T : List VT} {ps : List TP} {k : Nat} {u r : Value} {kinds : List Int} {nm : ByteArray}
    (hR : RowSt bx go gr wr rows ((T.length + 8) * 3) (tabs3 ps) X (rows.length + 8) V' X' cs) (hm : rows.length + 8 ≤ maxLen) (hu : u = .slice (some ⟨gr, 0, none⟩) rows.length (rows.length + 8)) (hTA : TabAt wr (gr :: go :: LF bx V') T X ps) (hps : ps.length = k) (hkT : k < T.length) (ht : T[k] = ⟨nm, kinds, rows⟩)
    (hX1 : (X 1).length = k) (hX2 : (X 2).length = k) (hX0 : (X 0).length ≤ rowsSum (T.take k) + 8 * k) (hst3 : Step (LF bx V') (LF bx V3) wr W) (hr : FullI w1 (LF bx V4) r kinds)
    (hL4 : Lent w1 bx V4 (upd (upd X' 1 (X' 1 ++ [u])) 2 ((upd X' 1 (X' 1 ++ [u])) 2 ++ [r]))) (hst4 : Step (LF bx V3) (LF bx V4) W w1) :
    TabSt bx go (((w1.setCell ⟨go, k * 3, none⟩ (.string nm)).setCell ⟨go, k * 3 + 1, none⟩ r).setCell ⟨go, k * 3 + 1 + 1, none⟩ u) T (k + 1) V4 (upd (upd X' 1 (X' 1 ++ [u])) 2 ((upd X' 1 (X' 1 ++ [u])) 2 ++ [r])) (ps ++ [(nm, r, u)]) := by
  have hfl := hR.full hm
  rw [← hu] at hfl
  obtain ⟨h1, h2, h3, h4, h5, h6, h7, h8, h9, h10⟩ := hR
  have hgo := go_apart h1 h7
  have hst := hst3.trans hst4
  have hst2 : Step (go :: LF bx V') (go :: LF bx V4) wr w1 := hst.ext [go]
  have h7b := h7.touch hst.1 hgo
  have hr2 : FullI w1 (go :: LF bx V4) r kinds := Full.more hr h7b (by decide)
  have hM : Marked wr (go :: LF bx V') X' := h2.less (fun b hb => List.mem_cons_of_mem _ hb)
  have hTA2 : TabAt wr (go :: LF bx V') T X ps := hTA.less (fun b hb => List.mem_cons_of_mem _ hb)
  have hM2 := ((hM.l hfl).step hst2).n hr2
  have e1 : (upd (upd X' 1 (X' 1 ++ [u])) 2 ((upd X' 1 (X' 1 ++ [u])) 2 ++ [r])) 1 = X 1 ++ [u] := by rw [upd_other _ _ _ _ (by decide), upd_same, h8]
  have e2 : (upd (upd X' 1 (X' 1 ++ [u])) 2 ((upd X' 1 (X' 1 ++ [u])) 2 ++ [r])) 2 = X 2 ++ [r] := by rw [upd_same, upd_other _ _ _ _ (by decide), h9]
  have e0 : (upd (upd X' 1 (X' 1 ++ [u])) 2 ((upd X' 1 (X' 1 ++ [u])) 2 ++ [r])) 0 = X' 0 := by rw [upd_other _ _ _ _ (by decide), upd_other _ _ _ _ (by decide)]
  have hsum := rowsSum_take hkT
  rw [ht] at hsum
  simp only at hsum
  refine TabSt.put hL4 hM2 h7b hps ((hTA2.step hst2).with (fun i q hq => ?_)) ?_ ?_ ?_ (by omega) nm r u (fun hk => ?_) (fun hk => by omega)
  · rw [e1]; exact pre_get _ _ hq
  · rw [e0, hsum]; omega
  · rw [e1]; simp; omega
  · rw [e2]; simp; omega
  · rw [ht]
    refine ⟨rfl, hr2, hfl.step hst2, ?_⟩
    rw [e1, List.getElem?_append_right (by omega), hX1]
    simp
theorem cell_set_block (W : World) {b g : Nat} (h : b ≠ g) (o : Nat) (v : Value) (o' : Nat) : (W.setCell ⟨g, o, none⟩ v).cell? ⟨b, o', none⟩ = W.cell? ⟨b, o', none⟩ := World.cell?_setCell_other (w := W) (a := ⟨g, o, none⟩) (b := ⟨b, o', none⟩) (v := v) (by intro e; simp at e; all_goals exact h e.1.symm)
theorem markrow_new (w : World) (F : List Nat) (hF : ∀ k ∈ F, k < w.heap.size) (k : Nat) : MarkRow (w.alloc (.cells #[.int .i64 9, .int .i64 (k : Int), .string callers] 31)) F (.slice (some ⟨w.heap.size, 0, none⟩) 1 1) k :=
  ⟨w.heap.size, rfl, fun e => by have := hF _ e; omega, ⟨_, heap_alloc_new w _, rfl, fun i u hu => by simpa using hu⟩⟩
set_option maxRecDepth 40000 in
set_option maxHeartbeats 20000000 in
theorem tables_any (w : World) (tv : Value) (T : List VT) (ht : TabsIn w [] tv T) (hbulk : TabBulk T) : Calls Try.prog 11 #[tv] w (TabsPost T w) := by
  obtain ⟨hT, hsm, hrw, hsum⟩ := hbulk
  obtain ⟨i0, hi0, hz0, hz1, hz2⟩ := info_parts info92
  have HI0 : Hid (Try.prog.info? 92 = some i0 ∧ i0.zero = some (.agg #[.string ⟨#[]⟩, .slice none 0 0, .slice none 0 0]) ∧ i0.size = 3 ∧ i0.bytes = 64) := ⟨hi0, hz0, hz1, hz2⟩
  obtain ⟨i1, hi1, hz3, hz4, hz5⟩ := info_parts (fT_info 0)
  have HI1 : Hid (Try.prog.info? 33 = some i1 ∧ i1.zero = some (.slice none 0 0) ∧ i1.size = 1 ∧ i1.bytes = 24) := ⟨hi1, hz3, hz4, hz5⟩
  clear hi0 hz0 hz1 hz2 hi1 hz3 hz4 hz5
  obtain ⟨ao, cap, rfl, hc, hm, g1⟩ := ht.open
  clear g1
  have HT : Hid (TabsIn w [] (.slice ao T.length cap) T) := ht
  have HSM : Hid (∀ i (h : i < T.length), TabSmall T[i]) := hsm
  have HRW : Hid (∀ i (h : i < T.length) j (h2 : j < T[i].rows.length), T[i].rows[j].length ≤ 1048576) := hrw
  have HSU : Hid (rowsSum T ≤ 1048576) := hsum
  clear ht hsm hrw hsum
  have HMK : Hid (∀ (n : Int) w, Calls Try.prog 40 #[.int .i64 n] w fun e w' => e = .returned (.agg #[.int .i64 9, .int .i64 n, .string callers]) ∧ Below w.heap.size w w') := mark_any
  go_enter Try.func11, Try.ntmps11
  go_wp2_with (at_make; refine wpList_make_full _ rfl (.tmp 13) (.tmp 13) 44 rfl w.heap.size 92 i0 (.agg #[.string ⟨#[]⟩, .slice none 0 0, .slice none 0 0]) 3 Try.underlying44 HI0.out.1 HI0.out.2.1 HI0.out.2.2.1 .i64 .i64 _ _ (T.length + 8) rfl rfl (by omega) (by omega) (by rw [HI0.out.2.2.2]; omega) (by unfold maxLen; omega) (by simp) ?_; intro w1 ho1 hg1; have hp1 := (PA.made ho1 rfl).nil; have hB1 := ((Below.refl w.heap.size w).alloc (Nat.le_refl _) (.cells #[.slice none 0 0, .slice none 0 0, .slice none 0 0, .slice none 0 0, .slice none 0 0] 90)).grown hg1 (by simp) (fun k hk => by simp at hk); have hL1 := (Lent.new w).b ((Below.refl _ _).grown hg1 (Nat.le_refl _) (fun k hk => by simp at hk)); clear ho1 hg1)
  have HST : Hid (TabSt w.heap.size (w.heap.size + 1) w1 T 0 (fun _ => .slice none 0 0) (fun _ => []) []) := ⟨hL1, Marked.new _ _, (show PA _ _ _ _ [] from by simpa using hp1), rfl, fun i p hp => by simp at hp, by simp, by simp, by simp⟩
  clear hp1 hL1
  go_loopw [6] (fun j wr => ∃ (k : Nat) (Vf : Nat → Value) (X : Nat → List Value) (ps : List TP), k ≤ T.length + 8 ∧ j = .int .i64 k ∧ TabSt w.heap.size (w.heap.size + 1) wr T k Vf X ps ∧ (∀ b ∈ LF w.heap.size Vf, w.heap.size ≤ b) ∧ Below w.heap.size w wr) (fun j _ => T.length + 8 - (intOf j).toNat)
  case atStart => exact ⟨0, _, _, _, by omega, rfl, HST.out, by rw [LF_new]; simp, hB1⟩
  case round =>
    obtain ⟨k, Vf, X, ps, hk, rfl, hS, hLB, hB⟩ := hrel
    clear HST hB1 w1
    have hsz := hB.size
    have hgo := hS.2.2.1.lt
    have HS : Hid (TabSt w.heap.size (w.heap.size + 1) wr T k Vf X ps) := hS
    have HLB : Hid (∀ b ∈ LF w.heap.size Vf, w.heap.size ≤ b) := hLB
    by_cases hlt : k < T.length + 8
    · obtain ⟨⟨p0, q0⟩, f0⟩ := hS.2.2.1.place (k * 3) (by omega)
      obtain ⟨⟨p1, q1⟩, f1⟩ := hS.2.2.1.place (k * 3 + 1) (by omega)
      obtain ⟨⟨p2, q2⟩, f2⟩ := hS.2.2.1.place (k * 3 + 1 + 1) (by omega)
      clear hS hLB
      by_cases hln : k < T.length
      · have hd : decide ((T.length : Int) ≤ (k : Int)) = false := decide_eq_false (by omega)
        obtain ⟨b, off, hao, hcell⟩ := HT.out.cells (by omega)
        subst hao
        obtain ⟨kv, rv, x0, x1, x2, hkv, hrv⟩ := hcell k hln
        have hbw : b < w.heap.size := World.block_lt_of_cell? w _ x0
        obtain ⟨ko, kcap, rfl, _, _, g1⟩ := hkv.open
        obtain ⟨ro, rcap, rfl, _, _, g2⟩ := hrv.open
        clear g1 g2 hcell
        have HKV : Hid (IntsIn w [] (.slice ko T[k].kinds.length kcap) T[k].kinds) := hkv
        have HRV : Hid (RowsIn w [] (.slice ro T[k].rows.length rcap) T[k].rows) := hrv
        have HSR : Hid (∀ W, Below w.heap.size w W → W.cell? ⟨b, off + k * 3, none⟩ = some (.string T[k].name) ∧ W.cell? ⟨b, off + k * 3 + 1, none⟩ = some (.slice ko T[k].kinds.length kcap) ∧ W.cell? ⟨b, off + k * 3 + 1 + 1, none⟩ = some (.slice ro T[k].rows.length rcap)) := fun W hW => ⟨(hW.cell (p := ⟨b, off + k * 3, none⟩) hbw).trans x0, (hW.cell (p := ⟨b, off + k * 3 + 1, none⟩) hbw).trans x1, (hW.cell (p := ⟨b, off + k * 3 + 1 + 1, none⟩) hbw).trans x2⟩
        have hrl : T[k].rows.length ≤ 1048576 := (HSM.out k hln).2
        have hkl : T[k].kinds.length ≤ 1048576 := (HSM.out k hln).1
        have HRK : Hid (∀ j (h2 : j < T[k].rows.length), T[k].rows[j].length ≤ 1048576) := HRW.out k hln
        have HSK : Hid (rowsSum (T.take (k + 1)) = rowsSum (T.take k) + T[k].rows.length) := rowsSum_take hln
        have HX0 : Hid ((X 0).length ≤ 1048576 + 8 * k ∧ k ≤ 1048584) := ⟨by have h1 := HS.out.2.2.2.2.2.1; have h2 := rowsSum_le T k; have h3 := HSU.out; omega, by omega⟩
        have HX12 : Hid ((X 1).length = k ∧ (X 2).length = k ∧ k ≤ 1048576 ∧ ps.length = k ∧ (X 0).length ≤ rowsSum (T.take k) + 8 * k) := ⟨by have := HS.out.2.2.2.2.2.2.1; omega, by have := HS.out.2.2.2.2.2.2.2; omega, by omega, HS.out.2.2.2.1, HS.out.2.2.2.2.2.1⟩
        have HSL : Hid (rowsSum (T.take k) ≤ 1048576) := Nat.le_trans (rowsSum_le T k) HSU.out
        obtain ⟨c0, c1, c2⟩ := HSR.out wr hB
        clear x0 x1 x2 hkv hrv
        have hne : b ≠ w.heap.size + 1 := by omega
        generalize ht0 : T[k] = t at *
        obtain ⟨nm, kinds, rows⟩ := t
        simp only at *
        go_wp2_with (at_make; refine wpList_make_full _ rfl (.tmp 35) (.tmp 35) 84 rfl w.heap.size 33 i1 (.slice none 0 0) 1 Try.underlying84 HI1.out.1 HI1.out.2.1 HI1.out.2.2.1 .i64 .i64 _ _ (rows.length + 8) rfl rfl (by omega) (by omega) (by rw [HI1.out.2.2.2]; omega) (by unfold maxLen; omega) (by simp; omega) ?_; intro w2 ho2 hg2; have hp2 := (PA.made ho2 rfl).nil; have hb2 := (Below.refl _ _).grown hg2 (Nat.le_refl _) (fun k hk => by simp at hk); obtain ⟨hR2, hTA2⟩ := (HS.out.junk (.string callers) (.slice none 0 0) (.slice none 0 0)).rows hb2 hp2; have hB2 := (below3 hB (by omega) (k * 3) (k * 3 + 1) (k * 3 + 1 + 1) (.string callers) (.slice none 0 0) (.slice none 0 0)).trans (hb2.mono (by simp; omega)); clear ho2 hg2 hp2 hb2)
        simp only [World.size_setCell] at hR2 hTA2
        have HR2 : Hid (RowSt w.heap.size (w.heap.size + 1) wr.heap.size w2 rows ((T.length + 8) * 3) (tabs3 ps) X 0 Vf X []) := hR2
        have HTA2 : Hid (TabAt w2 (wr.heap.size :: (w.heap.size + 1) :: LF w.heap.size Vf) T X ps) := hTA2
        clear hR2 hTA2 p0 q0 p1 q1 p2 q2 f0 f1 f2 c0 c1 c2
        have hgrw : w.heap.size + 1 < wr.heap.size := hgo
        generalize wr.heap.size = gr at *
        clear HS hB hsz hgo
        have hbg : b ≠ gr := by omega
        go_loopw [8] (fun j wz => ∃ (k2 : Nat) (V' : Nat → Value) (X' : Nat → List Value) (cs : List Value), k2 ≤ rows.length + 8 ∧ j = .int .i64 k2 ∧ RowSt w.heap.size (w.heap.size + 1) gr wz rows ((T.length + 8) * 3) (tabs3 ps) X k2 V' X' cs ∧ Step (gr :: (w.heap.size + 1) :: LF w.heap.size Vf) (gr :: (w.heap.size + 1) :: LF w.heap.size V') w2 wz ∧ (∀ b ∈ LF w.heap.size V', w.heap.size ≤ b) ∧ Below w.heap.size w wz) (fun j _ => rows.length + 8 - (intOf j).toNat)
        case atStart => exact ⟨0, _, _, _, by omega, rfl, HR2.out, Step.refl _ _, HLB.out, hB2⟩
        case round =>
          obtain ⟨k2, V', X', cs, hk2, rfl, hR, hst, hLB, hBz⟩ := hrel
          have hszz := hBz.size
          have HR : Hid (RowSt w.heap.size (w.heap.size + 1) gr wr rows ((T.length + 8) * 3) (tabs3 ps) X k2 V' X' cs) := hR
          have HSTP : Hid (Step (gr :: (w.heap.size + 1) :: LF w.heap.size Vf) (gr :: (w.heap.size + 1) :: LF w.heap.size V') w2 wr) := hst
          have HLB2 : Hid (∀ b ∈ LF w.heap.size V', w.heap.size ≤ b) := hLB
          clear hR hst hLB HR2
          by_cases hlt2 : k2 < rows.length + 8
          · have HUP : Hid (∀ W V'', (∀ b ∈ LF w.heap.size V'', w.heap.size ≤ b) → Step (gr :: (w.heap.size + 1) :: LF w.heap.size V') (gr :: (w.heap.size + 1) :: LF w.heap.size V'') wr W → Below w.heap.size w W) := fun W V'' _ hS => hS.1.up hBz (fun b hb => by
              rcases List.mem_cons.1 hb with rfl | hb
              · omega
              · rcases List.mem_cons.1 hb with rfl | hb
                · omega
                · exact HLB2.out b hb)
            go_wp2_with fail
            refine (HMK.out _ _).mono ?_
            rintro e w5 ⟨rfl, hB5⟩
            have hR5 := HR.out.b hB5
            have hB6 := bthen hBz hB5
            have HS5 : Hid (Step (gr :: (w.heap.size + 1) :: LF w.heap.size V') (gr :: (w.heap.size + 1) :: LF w.heap.size V') wr w5) := stepB hB5
            obtain ⟨⟨p0, q0⟩, f0⟩ := hR5.2.2.1.place k2 (by omega)
            have hgl := hR5.2.2.1.lt
            obtain ⟨c0, c1, c2⟩ := HSR.out w5 hB6
            have hb5 : b < w5.heap.size := by have := hB6.size; omega
            have hR6 := hR5.b ((Below.refl _ _).alloc (Nat.le_refl _) (.cells #[.int .i64 9, .int .i64 (k2 : Int), .string callers] 31))
            have HR6 : Hid (RowSt w.heap.size (w.heap.size + 1) gr (w5.alloc (.cells #[.int .i64 9, .int .i64 (k2 : Int), .string callers] 31)) rows ((T.length + 8) * 3) (tabs3 ps) X k2 V' X' cs) := hR6
            have HMR : Hid (MarkRow (w5.alloc (.cells #[.int .i64 9, .int .i64 (k2 : Int), .string callers] 31)) (gr :: (w.heap.size + 1) :: LF w.heap.size V') (.slice (some ⟨w5.heap.size, 0, none⟩) 1 1) k2) := markrow_new w5 _ (fun b hb => by
              rcases List.mem_cons.1 hb with rfl | hb
              · exact hgl
              · rcases List.mem_cons.1 hb with rfl | hb
                · omega
                · exact hR5.1.lt hb) k2
            have hcomm : ((w5.alloc (.cells #[.int .i64 9, .int .i64 (k2 : Int), .string callers] 31)).setCell ⟨gr, k2, none⟩ (.slice (some ⟨w5.heap.size, 0, none⟩) 1 1)) = ((w5.setCell ⟨gr, k2, none⟩ (.slice (some ⟨w5.heap.size, 0, none⟩) 1 1)).alloc (.cells #[.int .i64 9, .int .i64 (k2 : Int), .string callers] 31)) := World.setCell_alloc_past _ _ _ _ hgl
            have HS6 : Hid (Step (gr :: (w.heap.size + 1) :: LF w.heap.size V') (gr :: (w.heap.size + 1) :: LF w.heap.size V') wr ((w5.setCell ⟨gr, k2, none⟩ (.slice (some ⟨w5.heap.size, 0, none⟩) 1 1)).alloc (.cells #[.int .i64 9, .int .i64 (k2 : Int), .string callers] 31))) := by
              show Step _ _ _ _
              rw [← hcomm]
              exact (HS5.out.trans (stepB ((Below.refl _ _).alloc (Nat.le_refl _) _))).trans (step_set _ (by simp) _ _)
            have HJ6 : Hid (RowSt w.heap.size (w.heap.size + 1) gr ((w5.setCell ⟨gr, k2, none⟩ (.slice (some ⟨w5.heap.size, 0, none⟩) 1 1)).alloc (.cells #[.int .i64 9, .int .i64 (k2 : Int), .string callers] 31)) rows ((T.length + 8) * 3) (tabs3 ps) X k2 V' X' cs) := by
              show RowSt _ _ _ _ _ _ _ _ _ _ _ _
              rw [← hcomm]
              exact HR6.out.junk _
            have HM6 : Hid (rows.length ≤ k2 → RowSt w.heap.size (w.heap.size + 1) gr ((w5.setCell ⟨gr, k2, none⟩ (.slice (some ⟨w5.heap.size, 0, none⟩) 1 1)).alloc (.cells #[.int .i64 9, .int .i64 (k2 : Int), .string callers] 31)) rows ((T.length + 8) * 3) (tabs3 ps) X (k2 + 1) V' X' (cs ++ [.slice (some ⟨w5.heap.size, 0, none⟩) 1 1])) := by
              intro hkk
              rw [← hcomm]
              exact HR6.out.mark hkk hlt2 HMR.out
            clear hcomm
            clear hR5 hR6
            by_cases hln2 : k2 < rows.length
            · have hd2 : decide ((k2 : Int) < (rows.length : Int)) = true := decide_eq_true (by omega)
              obtain ⟨b2, off2, hro, hcell2⟩ := HRV.out.cells (by show 1 ≤ rows.length; omega)
              subst hro
              obtain ⟨uv, y0, huv⟩ := hcell2 k2 hln2
              have hb2w : b2 < w.heap.size := World.block_lt_of_cell? w _ y0
              obtain ⟨uo, ucap, rfl, _, _, g3⟩ := huv.open
              clear g3
              have d0 := (hB6.cell (p := ⟨b2, off2 + k2, none⟩) hb2w).trans y0
              have hb25 : b2 < w5.heap.size := by have := hB6.size; omega
              have hb2g : b2 ≠ gr := by omega
              have HUV : Hid (ValsIn w [] (.slice uo (rows[k2]'hln2).length ucap) (rows[k2]'hln2)) := huv
              have HRL : Hid ((rows[k2]'hln2).length ≤ 1048576) := HRK.out k2 hln2
              clear hcell2 y0 huv
              generalize hrow : (rows[k2]'hln2) = row at *
              have HROW : Hid ((rows[k2]'hln2) = row) := hrow
              clear hrow
              go_wp2_with fail
              refine calls_at (fun W => RowSt w.heap.size (w.heap.size + 1) gr W rows ((T.length + 8) * 3) (tabs3 ps) X k2 V' X' cs ∧ Step (gr :: (w.heap.size + 1) :: LF w.heap.size V') (gr :: (w.heap.size + 1) :: LF w.heap.size V') wr W) ⟨HJ6.out, HS6.out⟩ ?_
              rintro W ⟨hRW, hSW⟩
              have hBW := HUP.out W V' HLB2.out hSW
              refine (row_any W w.heap.size V' X' hRW.1 _ row (HUV.out.step (F' := LF w.heap.size V') ⟨Below.t hBW, fun b hb => Or.inr (HLB2.out b hb)⟩) HRL.out (by have h1 := hRW.2.2.2.2.2.2.2.2.2; have h2 := HX0.out; omega)).mono ?_
              rintro e w7 ⟨r, V'', rfl, hr, hL7, hst7⟩
              obtain ⟨g7, hre, hr1⟩ := hr
              subst hre
              obtain ⟨hR8, hS8⟩ := hRW.row (r := .slice (some ⟨g7, 0, none⟩) row.length (row.length + 8)) hln2 (by rw [HROW.out]; exact ⟨g7, rfl, hr1⟩) hL7 hst7
              have hp7 := hRW.2.2.1.touch hst7.1 hRW.2.2.2.2.2.1
              clear p0 q0 f0
              obtain ⟨⟨p0, q0⟩, f0⟩ := hp7.place k2 (by omega)
              have HLB8 : Hid (∀ b ∈ LF w.heap.size V'', w.heap.size ≤ b) := fun b hb => by
                rcases hst7.2 b hb with e | e
                · exact HLB2.out b e
                · have := hBW.size; omega
              have hS9 := hSW.trans hS8
              have HB9 : Hid (Below w.heap.size w (w7.setCell ⟨gr, k2, none⟩ (.slice (some ⟨g7, 0, none⟩) row.length (row.length + 8)))) := HUP.out _ V'' HLB8.out hS9
              have HR8 : Hid (RowSt w.heap.size (w.heap.size + 1) gr (w7.setCell ⟨gr, k2, none⟩ (.slice (some ⟨g7, 0, none⟩) row.length (row.length + 8))) rows ((T.length + 8) * 3) (tabs3 ps) X (k2 + 1) V'' (upd X' 0 (X' 0 ++ [.slice (some ⟨g7, 0, none⟩) row.length (row.length + 8)])) (cs ++ [.slice (some ⟨g7, 0, none⟩) row.length (row.length + 8)])) := hR8
              have HS9 : Hid (Step (gr :: (w.heap.size + 1) :: LF w.heap.size V') (gr :: (w.heap.size + 1) :: LF w.heap.size V'') wr (w7.setCell ⟨gr, k2, none⟩ (.slice (some ⟨g7, 0, none⟩) row.length (row.length + 8)))) := hS9
              clear hR8 hS8 hS9 hp7 hRW hSW hL7 hst7 hr1
              go_wp2
              go_roundw
              case rel => exact ⟨k2 + 1, V'', _, _, by omega, by go_num, HR8.out, HSTP.out.trans HS9.out, HLB8.out, HB9.out⟩
              case measure => simp [intOf]; omega
            · have hd2 : decide ((k2 : Int) < (rows.length : Int)) = false := decide_eq_false (by omega)
              have HM7 := HM6.out (by omega)
              have HM8 : Hid (RowSt w.heap.size (w.heap.size + 1) gr ((w5.setCell ⟨gr, k2, none⟩ (.slice (some ⟨w5.heap.size, 0, none⟩) 1 1)).alloc (.cells #[.int .i64 9, .int .i64 (k2 : Int), .string callers] 31)) rows ((T.length + 8) * 3) (tabs3 ps) X (k2 + 1) V' X' (cs ++ [.slice (some ⟨w5.heap.size, 0, none⟩) 1 1])) := HM7
              have HB9 : Hid (Below w.heap.size w ((w5.setCell ⟨gr, k2, none⟩ (.slice (some ⟨w5.heap.size, 0, none⟩) 1 1)).alloc (.cells #[.int .i64 9, .int .i64 (k2 : Int), .string callers] 31))) := HUP.out _ V' HLB2.out HS6.out
              clear HM7
              go_wp2
              go_roundw
              case rel => exact ⟨k2 + 1, V', _, _, by omega, by go_num, HM8.out, HSTP.out.trans HS6.out, HLB2.out, HB9.out⟩
              case measure => simp [intOf]; omega
          · obtain rfl : k2 = rows.length + 8 := by omega
            have x1 := HR.out.1.1.cell (cells5_get V' 1 (by omega))
            have hfz := (HR.out.1.1.place 1 (by omega)).2
            obtain ⟨c0, c1, c2⟩ := HSR.out wr hBz
            have hb5 : b < wr.heap.size := by omega
            have hbxw : w.heap.size < wr.heap.size := HR.out.1.1.lt
            have HX1 : Hid ((X' 1).length ≤ 1000000000) := by
              show _ ≤ _
              rw [HR.out.2.2.2.2.2.2.2.1]
              have := HX12.out; omega
            have hle8 : (rows.length : Int) ≤ (rows.length : Int) + 8 := by omega
            go_wp2_with fail
            go_region_law (refine step_slrow rfl (.tmp 74) (.tmp 83) 85 1 Try.underlying85 rfl (V' 1) (X' 1) (by simp [Act.eval]) (by exact World.ownsRow.alloc (HR.out.1.2.1 1 (by omega)) _) ⟨wr.heap.size, 0, none⟩ (.slice (some ⟨gr, 0, none⟩) rows.length (rows.length + 8)) 1 (by simp [Act.eval]) (by exact cell_one_new wr _ _) rfl HX1.out ?_; intro g cp w4 hS4 hG4 hat4 hlt4; have hTW := ((Touch.refl [] wr).alloc (.cells #[.slice (some ⟨gr, 0, none⟩) rows.length (rows.length + 8)] 84)).drew; obtain ⟨hT4, hp4⟩ := HR.out.1.after (by omega) hTW hG4; have y2 := hp4.cell (cells5_get V' 1 (by omega)); have fz4 := (hp4.place 1 (by omega)).2; clear hp4 hTW)
            all_goals
              go_wp2_with fail
              refine wp_at (fun W => Lent W w.heap.size (upd V' 1 (.slice (some ⟨g, 0, none⟩) ((X' 1).length + 1) cp)) (upd X' 1 (X' 1 ++ [.slice (some ⟨gr, 0, none⟩) rows.length (rows.length + 8)])) ∧ Step (LF w.heap.size V') (LF w.heap.size (upd V' 1 (.slice (some ⟨g, 0, none⟩) ((X' 1).length + 1) cp))) wr W) (HR.out.1.push (f := 1) (by omega) hS4 hT4 (hat4.imp id (fun e => by rw [e]; show _ ≤ (wr.alloc _).heap.size; simp))) ?_
              rintro W ⟨hLW, hSW⟩
              clear hS4 hT4 hat4 hG4 hlt4 y2 fz4 c0 c1 c2 x1 hfz
              generalize upd V' 1 (.slice (some ⟨g, 0, none⟩) ((X' 1).length + 1) cp) = V3 at *
              have HLW : Hid (Lent W w.heap.size V3 (upd X' 1 (X' 1 ++ [.slice (some ⟨gr, 0, none⟩) rows.length (rows.length + 8)]))) := hLW
              have HSW : Hid (Step (LF w.heap.size V') (LF w.heap.size V3) wr W) := hSW
              have hBW : Below w.heap.size w W := hSW.1.up hBz HLB2.out
              have HLB3 : Hid (∀ b ∈ LF w.heap.size V3, w.heap.size ≤ b) := fun b hb => by
                rcases HSW.out.2 b hb with e | e
                · exact HLB2.out b e
                · omega
              have HKVW : Hid (IntsIn W (LF w.heap.size V3) (.slice ko kinds.length kcap) kinds) := HKV.out.step ⟨Below.t hBW, fun b hb => Or.inr (HLB3.out b hb)⟩
              have HX2 : Hid ((upd X' 1 (X' 1 ++ [.slice (some ⟨gr, 0, none⟩) rows.length (rows.length + 8)]) 2).length ≤ 100000000) := by
                show _ ≤ _
                rw [upd_other _ _ _ _ (by decide), HR.out.2.2.2.2.2.2.2.2.1]
                have := HX12.out; omega
              have HGO : Hid (w.heap.size + 1 ∉ LF w.heap.size V') := go_apart HR.out.1 HR.out.2.2.2.2.2.2.1
              have HPG : Hid (PA wr (w.heap.size + 1) 92 ((T.length + 8) * 3) (tabs3 ps)) := HR.out.2.2.2.2.2.2.1
              obtain ⟨c0, c1, c2⟩ := HSR.out W hBW
              clear hLW hSW
              have hcs : ∀ (W : World) (o : Nat) (v : Value) (o' : Nat), (W.setCell ⟨w.heap.size + 1, o, none⟩ v).cell? ⟨b, o', none⟩ = W.cell? ⟨b, o', none⟩ := fun W o v o' => cell_set_block W hne o v o'
              go_region_held3 (fun w' => w'.cell? ⟨b, off + k * 3, none⟩ = some (.string nm) ∧ w'.cell? ⟨b, off + k * 3 + 1, none⟩ = some (.slice ko kinds.length kcap) ∧ w'.cell? ⟨b, off + k * 3 + 1 + 1, none⟩ = some (.slice ro rows.length rcap)) (go_keep) (first | (go_at_call 42; refine (number_any _ w.heap.size V3 _ (HLW.out.b ((Below.refl _ _).drew)) _ kinds (HKVW.out.step (stepB (Below.refl _ _).drew)) hkl HX2.out).mono ?_; rintro e w1 ⟨r, V4, rfl, hr, hL1, hst1⟩; obtain ⟨g7, hre, hr1⟩ := hr; subst hre; have hst2 := HSW.out.trans ((stepB (Below.refl _ _).drew).trans hst1); have hB1 : Below w.heap.size w w1 := hst2.1.up hBz HLB2.out; obtain ⟨d0, d1, d2⟩ := HSR.out w1 hB1; have hpg := HPG.out.touch hst2.1 HGO.out; obtain ⟨⟨p0, q0⟩, f0⟩ := hpg.place (k * 3) (by omega); obtain ⟨⟨p1, q1⟩, f1⟩ := hpg.place (k * 3 + 1) (by omega); obtain ⟨⟨p2, q2⟩, f2⟩ := hpg.place (k * 3 + 1 + 1) (by omega); clear hpg hst2))
              all_goals
                have HD : Hid (TabSt w.heap.size (w.heap.size + 1) (((w1.setCell ⟨w.heap.size + 1, k * 3, none⟩ (.string nm)).setCell ⟨w.heap.size + 1, k * 3 + 1, none⟩ (.slice (some ⟨g7, 0, none⟩) kinds.length (kinds.length + 8))).setCell ⟨w.heap.size + 1, k * 3 + 1 + 1, none⟩ (.slice (some ⟨gr, 0, none⟩) rows.length (rows.length + 8))) T (k + 1) V4 _ (ps ++ [(nm, .slice (some ⟨g7, 0, none⟩) kinds.length (kinds.length + 8), .slice (some ⟨gr, 0, none⟩) rows.length (rows.length + 8))])) :=
                  HR.out.done (by unfold maxLen; omega) rfl (HTA2.out.step HSTP.out) HX12.out.2.2.2.1 hln ht0 HX12.out.1 HX12.out.2.1 HX12.out.2.2.2.2 HSW.out ⟨g7, rfl, hr1⟩ hL1 ((stepB (Below.refl _ _).drew).trans hst1)
                have HB8 : Hid (Below w.heap.size w (((w1.setCell ⟨w.heap.size + 1, k * 3, none⟩ (.string nm)).setCell ⟨w.heap.size + 1, k * 3 + 1, none⟩ (.slice (some ⟨g7, 0, none⟩) kinds.length (kinds.length + 8))).setCell ⟨w.heap.size + 1, k * 3 + 1 + 1, none⟩ (.slice (some ⟨gr, 0, none⟩) rows.length (rows.length + 8)))) := below3 hB1 (by omega) _ _ _ _ _ _
                have HLB4 : Hid (∀ b ∈ LF w.heap.size V4, w.heap.size ≤ b) := fun b hb => by
                  rcases hst1.2 b hb with e | e
                  · exact HLB3.out b e
                  · have := hBW.size; exact Nat.le_trans this e
                clear hL1 hst1 hr1
                go_wp2
                go_roundw
                case rel => exact ⟨k + 1, V4, _, _, by omega, by go_num, HD.out, HLB4.out, HB8.out⟩
                case measure => simp [intOf]; omega
      · have hd : decide ((T.length : Int) ≤ (k : Int)) = true := decide_eq_true (by omega)
        have HPT : Hid (TabSt w.heap.size (w.heap.size + 1) (((wr.setCell ⟨w.heap.size + 1, k * 3, none⟩ (.string callers)).setCell ⟨w.heap.size + 1, k * 3 + 1, none⟩ (.slice none 0 0)).setCell ⟨w.heap.size + 1, k * 3 + 1 + 1, none⟩ (.slice none 0 0)) T (k + 1) Vf X (ps ++ [(callers, .slice none 0 0, .slice none 0 0)])) := by
          obtain ⟨h1, h2, h3, h4, h5, h6, h7, h8⟩ := HS.out
          exact TabSt.put h1 h2 h3 h4 h5 (by rw [List.take_of_length_le (by omega)] at h6 ⊢; omega) (by omega) (by omega) hlt callers _ _ (fun h => absurd h hln) (fun _ => rfl)
        go_wp2
        go_roundw
        case rel => exact ⟨k + 1, Vf, X, _, by omega, by go_num, HPT.out, HLB.out, below3 hB (by omega) _ _ _ _ _ _⟩
        case measure => simp [intOf]; omega
    · obtain rfl : k = T.length + 8 := by omega
      clear hS hLB
      have hle8 : (T.length : Int) ≤ (T.length : Int) + 8 := by omega
      go_wp2
      go_ret2
      exact ⟨Vf, X, ps, rfl, HS.out, hB⟩
end Go.Proofs.Ytjoinhljdbljaaa
