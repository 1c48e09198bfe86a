/- The document's Valid: the walk. -/
import Derived.Test.YtjoinhljdbljaaaVcD
import Derived.Test.YtjoinhljdbljaaaVcE
import Derived.Test.YtjoinhljdbljaaaVbX
namespace Go.Proofs.Ytjoinhljdbljaaa
open Go.RowKit

theorem node_any (w : World) (F : List Nat) (bk gd gu : Nat) (cv : Value) (cs : List (List Int)) (n : Nat) (D A : List Int) (tv : Value) (T : List VT) (nd : VN) (p : NP) (i : Nat) (hK : KSt w F bk gd gu cv cs n D (cntL n A)) (hFw : ∀ k ∈ F, k < w.heap.size) (hT : TabsIn w F tv T) (hTl : T.length ≤ 1048576) (hp : NodeIn w F p nd) (hs : NodeSmall nd) (hb : BareOK nd) (hi : i < n) (hn : n ≤ 12) (hic : cs.length = i) (hD : ∀ j, 0 ≤ D.getD j 0 ∧ D.getD j 0 ≤ 20) (hDi : D.getD i 0 = 1) (hA : A.length ≤ 30) (hcl : ∀ j, (cs.getD j []).length ≤ 12) :
    Calls Try.prog 50 #[.pointer (some ⟨bk, 0, none⟩), tv, nodeV nd p, .int .i64 (i : Int)] w (NodePost T cs nd i w F gd gu n D A) := by
  by_cases h1 : nd.op = 1
  · exact node_scan w F bk gd gu cv cs n D A tv T nd p i hK hT hTl hp h1 hi hDi
  · by_cases h45 : nd.op = 4 ∨ nd.op = 5
    · exact node_two w F bk gd gu cv cs n D A tv T nd p i hK hFw hp hs hb h45 hi hn hic hD hA hcl
    · exact node_one w F bk gd gu cv cs n D A tv T nd p i hK hFw hp hs hb h1 h45 hi hn hic hD hA hcl
theorem VSt.new {w0 w' : World} (hb : Below w0.heap.size w0 w') (n : Nat) (x y : Nat) (hxy : (x = w'.heap.size ∧ y = w'.heap.size + 1) ∨ (x = w'.heap.size + 1 ∧ y = w'.heap.size)) :
    VSt w0 (((w'.alloc (.cells (ints (List.replicate n 0)).toArray 3)).alloc (.cells (ints (List.replicate n 0)).toArray 3)).alloc (.cells #[.slice none 0 0, .slice (some ⟨x, 0, none⟩) n n, .slice (some ⟨y, 0, none⟩) n n] 117)) (w'.heap.size + 1 + 1) x y (.slice none 0 0) [] n (List.replicate n 0) [] := by
  have ha : ∀ (w : World), PA (w.alloc (.cells (ints (List.replicate n 0)).toArray 3)) w.heap.size 3 n (ints (List.replicate n 0)) := fun w => ⟨_, heap_alloc_new w _, by simp [ints], fun i u hu => by simpa using hu⟩
  have p1 : PA (((w'.alloc (.cells (ints (List.replicate n 0)).toArray 3)).alloc (.cells (ints (List.replicate n 0)).toArray 3)).alloc (.cells #[.slice none 0 0, .slice (some ⟨x, 0, none⟩) n n, .slice (some ⟨y, 0, none⟩) n n] 117)) w'.heap.size 3 n (ints (List.replicate n 0)) := ((ha w').alloc _).alloc _
  have p2 : PA (((w'.alloc (.cells (ints (List.replicate n 0)).toArray 3)).alloc (.cells (ints (List.replicate n 0)).toArray 3)).alloc (.cells #[.slice none 0 0, .slice (some ⟨x, 0, none⟩) n n, .slice (some ⟨y, 0, none⟩) n n] 117)) (w'.heap.size + 1) 3 n (ints (List.replicate n 0)) := by
    have := (ha (w'.alloc (.cells (ints (List.replicate n 0)).toArray 3))).alloc (.cells #[.slice none 0 0, .slice (some ⟨x, 0, none⟩) n n, .slice (some ⟨y, 0, none⟩) n n] 117)
    rw [World.size_alloc] at this
    exact this
  have p3 : PA (((w'.alloc (.cells (ints (List.replicate n 0)).toArray 3)).alloc (.cells (ints (List.replicate n 0)).toArray 3)).alloc (.cells #[.slice none 0 0, .slice (some ⟨x, 0, none⟩) n n, .slice (some ⟨y, 0, none⟩) n n] 117)) (w'.heap.size + 1 + 1) 117 3 [.slice none 0 0, .slice (some ⟨x, 0, none⟩) n n, .slice (some ⟨y, 0, none⟩) n n] := by
    have := heap_alloc_new ((w'.alloc (.cells (ints (List.replicate n 0)).toArray 3)).alloc (.cells (ints (List.replicate n 0)).toArray 3)) (.cells #[.slice none 0 0, .slice (some ⟨x, 0, none⟩) n n, .slice (some ⟨y, 0, none⟩) n n] 117)
    rw [World.size_alloc, World.size_alloc] at this
    exact ⟨_, this, rfl, fun i u hu => by simpa using hu⟩
  have hbb : Below w0.heap.size w0 (((w'.alloc (.cells (ints (List.replicate n 0)).toArray 3)).alloc (.cells (ints (List.replicate n 0)).toArray 3)).alloc (.cells #[.slice none 0 0, .slice (some ⟨x, 0, none⟩) n n, .slice (some ⟨y, 0, none⟩) n n] 117)) := ((hb.alloc hb.size _).alloc (by rw [World.size_alloc]; have := hb.size; omega) _).alloc (by rw [World.size_alloc, World.size_alloc]; have := hb.size; omega) _
  have hsz := hb.size
  have px : PA (((w'.alloc (.cells (ints (List.replicate n 0)).toArray 3)).alloc (.cells (ints (List.replicate n 0)).toArray 3)).alloc (.cells #[.slice none 0 0, .slice (some ⟨x, 0, none⟩) n n, .slice (some ⟨y, 0, none⟩) n n] 117)) x 3 n (ints (List.replicate n 0)) := by
    rcases hxy with ⟨e, _⟩ | ⟨e, _⟩
    · have q := p1
      rw [← e] at q; exact q
    · have q := p2
      rw [← e] at q; exact q
  have py : PA (((w'.alloc (.cells (ints (List.replicate n 0)).toArray 3)).alloc (.cells (ints (List.replicate n 0)).toArray 3)).alloc (.cells #[.slice none 0 0, .slice (some ⟨x, 0, none⟩) n n, .slice (some ⟨y, 0, none⟩) n n] 117)) y 3 n (ints (List.replicate n 0)) := by
    rcases hxy with ⟨_, e⟩ | ⟨_, e⟩
    · have q := p2
      rw [← e] at q; exact q
    · have q := p1
      rw [← e] at q; exact q
  refine ⟨⟨p3.cell rfl, p3.cell rfl, p3.cell rfl, px, by rw [cntL_nil]; exact py, by simp, by simp [cntL], by omega, by omega, by omega, ⟨none, 0, rfl, by simp, by simp [maxLen], fun j hj => by simp at hj⟩, by simp [vF], by simp [vF]⟩, ⟨[], rfl, World.ownsRow_nil _ _ _ _, fun j u hj => by simp at hj⟩, hbb, fun z hz => ?_, fun z hz => by simp [Value.ownBlock] at hz, p3⟩
  simp only [vF, List.mem_cons, Value.ownBlock, Option.toList, List.not_mem_nil, or_false] at hz
  omega
theorem VSt.deep1 {w0 w : World} {bk gd gu : Nat} {cv : Value} {cs : List (List Int)} {n : Nat} {D A : List Int} (h : VSt w0 w bk gd gu cv cs n D A) {i : Nat} (hi : i < n) : VSt w0 (w.setCell ⟨gd, i, none⟩ (.int .i64 1)) bk gd gu cv cs n (D.set i 1) A := by
  have := h.k.deep hi 1
  exact h.turn ((Touch.refl _ _).setCell (by simp) _) this.d this.u this.dl
theorem set_bound {D : List Int} {k : Nat} (h : ∀ j, 0 ≤ D.getD j 0 ∧ D.getD j 0 ≤ 20) : ∀ j, 0 ≤ (D.set k 1).getD j 0 ∧ (D.set k 1).getD j 0 ≤ 20 := by
  intro j
  have hj := h j
  rw [List.getD_eq_getElem?_getD] at hj ⊢
  rw [List.getElem?_set]
  split
  · split <;> simp
  · exact hj
theorem set_bound2 {D : List Int} {k : Nat} {q : Int} (h : ∀ j, 0 ≤ (D.set k 1).getD j 0 ∧ (D.set k 1).getD j 0 ≤ 20) (hq : 0 ≤ q ∧ q ≤ 20) : ∀ j, 0 ≤ (D.set k q).getD j 0 ∧ (D.set k q).getD j 0 ≤ 20 := by
  intro j
  have hj := h j
  rw [List.getD_eq_getElem?_getD] at hj ⊢
  rw [List.getElem?_set] at hj ⊢
  split
  · split
    · exact hq
    · simp
  · rename_i e; rw [if_neg e] at hj; exact hj
theorem getD_set_ne {D : List Int} {k j : Nat} {q : Int} (h : j ≠ k) : (D.set k q).getD j 0 = D.getD j 0 := by
  rw [List.getD_eq_getElem?_getD, List.getD_eq_getElem?_getD, List.getElem?_set_ne (fun e => h e.symm)]
theorem high_step {N : List VN} {D : List Int} {k : Nat} (hD : ∀ j, j < k → D.getD j 0 = (hF N j : Int)) (hk : k < N.length) (ha : Ahead N[k] k) : (if N[k].op = 1 then (1 : Int) else if N[k].op = 4 ∨ N[k].op = 5 then 1 + max ((D.set k 1).getD N[k].left.toNat 0) ((D.set k 1).getD N[k].right.toNat 0) else 1 + (D.set k 1).getD N[k].left.toNat 0) = (hF N k : Int) := by
  rw [hF_eq hk]
  unfold Ahead at ha
  generalize N[k] = n at *
  unfold hOf
  unfold ins at ha
  by_cases h1 : n.op = 1
  · simp [h1]
  · by_cases h4 : n.op = 4 ∨ n.op = 5
    · simp only [h1, h4, if_true, if_false] at *
      have a1 := ha n.left (by simp)
      have a2 := ha n.right (by simp)
      rw [hF_take (by omega) (by omega), hF_take (by omega) (by omega), getD_set_ne (by omega), getD_set_ne (by omega), hD _ (by omega), hD _ (by omega)]
      omega
    · simp only [h1, h4, if_false] at *
      have a1 := ha n.left (by simp)
      rw [hF_take (by omega) (by omega), getD_set_ne (by omega), hD _ (by omega)]
      omega
def FirstAt (T : List VT) (i : Nat) : Prop := ∀ h : i < T.length, ∀ j (hj : j < T.length), j < i → T[j].name ≠ T[i].name
theorem first_find {T : List VT} {k : Nat} (hk : k < T.length) {t : Int} (h : findAt T T[k].name t) : (t = (k : Int) ↔ FirstAt T k) := by
  rcases h with ⟨_, h⟩ | ⟨j, hj, rfl, h1, h2⟩
  · exact absurd rfl (h k hk)
  · constructor
    · intro e hh j' hj' hlt
      exact h2 j' hj' (by omega)
    · intro hf
      have h3 : ¬ j < k := fun e => hf hk j hj e h1
      have h4 : ¬ k < j := fun e => h2 k hk e rfl
      omega

set_option maxRecDepth 20000 in
set_option maxHeartbeats 16000000 in
theorem rvalid_any (w : World) (tv pv : Value) (T : List VT) (N : List VN) (ht : TabsIn w [] tv T) (hp : NodesIn w [] pv N) (hs : Small T N) :
    Calls Try.prog 16 #[tv, pv] w (BoolPost (ValidOK T N) w) := by
  obtain ⟨hT, hNl, hsT, hsN⟩ := hs
  have HVI : Hid (ValidOK T N ↔ (TablesOK T ∧ NamesOK T) ∧ (1 ≤ N.length ∧ N.length ≤ 12) ∧ (∀ i, i < N.length → PassN T N i) ∧ Once N) := valid_iff T N
  generalize ValidOK T N = VO at *
  obtain ⟨tao, tcap, rfl, htc, htm, g1⟩ := ht.open
  obtain ⟨ao, cap, rfl, hc, hm, g2⟩ := hp.open
  clear g1 g2
  have HT : Hid (TabsIn w [] (.slice tao T.length tcap) T) := ht
  have HV : Hid (NodesIn w [] (.slice ao N.length cap) N) := hp
  have HST : Hid (∀ i (h : i < T.length), TabSmall T[i]) := hsT
  have HSN : Hid (∀ i (h : i < N.length), NodeSmall N[i]) := hsN
  clear ht hp hsT hsN
  have HI : Hid (∀ n lo hi w, Calls Try.prog 48 #[.int .i64 n, .int .i64 lo, .int .i64 hi] w fun e w' => e = .returned (.bool (inB n lo hi)) ∧ w' = w) := in_any
  have HTB : Hid (∀ (w : World) (t : VT) (kv rv : Value), IntsIn w [] kv t.kinds → RowsIn w [] rv t.rows → TabSmall t → Calls Try.prog 46 #[.agg #[.string t.name, kv, rv]] w (BoolPost (TableOK t) w)) := table_any
  have HFI : Hid (∀ w v T nm, TabsIn w [] v T → T.length ≤ 1048576 → Calls Try.prog 47 #[v, .string nm] w (FindPost T nm w)) := find_any
  obtain ⟨i70, hi70, hz0, hz1, hz2⟩ := info_parts info70
  have HI70 : Hid (Try.prog.info? 70 = some i70 ∧ i70.zero = some (.slice none 0 0) ∧ i70.size = 1 ∧ i70.bytes = 24) := ⟨hi70, hz0, hz1, hz2⟩
  clear hi70 hz0 hz1 hz2
  go_enter Try.func16, Try.ntmps16
  go_wp2_with fail
  go_loopw [5] (fun j wr => ∃ k : Nat, k ≤ T.length ∧ j = .int .i64 k ∧ (∀ i (h : i < T.length), i < k → TableOK T[i] ∧ FirstAt T i) ∧ Below w.heap.size w wr) (fun j _ => T.length - (intOf j).toNat)
  case atStart => exact ⟨0, by omega, rfl, fun i _ h => by omega, Below.refl _ _⟩
  case round =>
    obtain ⟨k, hk, rfl, hall, hB⟩ := hrel
    by_cases hlt : k < T.length
    · obtain ⟨b, off, hao, hcell⟩ := (HT.out.step (stepB hB)).cells (by omega)
      subst hao
      obtain ⟨kv, rv, c0, c1, c2, hkv, hrv⟩ := hcell k hlt
      obtain ⟨ko, kcap, rfl, _, _, g1⟩ := hkv.open
      obtain ⟨ro, rcap, rfl, _, _, g2⟩ := hrv.open
      clear g1 g2 hcell
      have HN : Hid (TableOK T[k] ∧ FirstAt T k → ∀ i (h : i < T.length), i < k + 1 → TableOK T[i] ∧ FirstAt T i) := by
        intro hq i hi hik
        by_cases e : i = k
        · subst e; exact hq
        · exact hall i hi (by omega)
      have HF : Hid (¬ (TableOK T[k] ∧ FirstAt T k) → ¬ VO) := fun hq h => hq ⟨(HVI.out.1 h).1.1 k hlt, fun hh j hj hjk => (HVI.out.1 h).1.2 j k hj hlt hjk⟩
      have HTk : Hid (∀ W, Below wr.heap.size wr W → Calls Try.prog 46 #[.agg #[.string T[k].name, .slice ko T[k].kinds.length kcap, .slice ro T[k].rows.length rcap]] W (BoolPost (TableOK T[k]) W)) := fun W hW => HTB.out W T[k] _ _ (hkv.step (stepB hW)) (hrv.step (stepB hW)) (HST.out k hlt)
      have HFF : Hid (∀ t, findAt T T[k].name t → (t = (k : Int) ↔ FirstAt T k)) := fun t h => first_find hlt h
      have hbw : b < wr.heap.size := World.block_lt_of_cell? wr _ c0
      clear hall hkv hrv
      generalize T[k].kinds.length = kl at *
      generalize T[k].rows.length = rl at *
      generalize T[k].name = nm at *
      generalize TableOK T[k] = TK at *
      generalize FirstAt T k = FK at *
      go_wp2_with fail
      refine (HTk.out _ (Below.refl _ _)).mono ?_
      rintro e w1 ⟨b1, rfl, hb1, hB1⟩
      have y0 := (hB1.cell (p := ⟨b, off + k * 3, none⟩) hbw).trans c0
      have hB2 := bthen hB hB1
      clear c0 c1 c2 HTk
      by_cases hTK : TK
      · obtain rfl : b1 = true := hb1.2 hTK
        have HTK : Hid TK := hTK
        clear hb1 hTK
        by_cases hFK : FK
        · have HN2 := HN.out ⟨HTK.out, hFK⟩
          have HN3 : Hid (∀ i (h : i < T.length), i < k + 1 → TableOK T[i] ∧ FirstAt T i) := HN2
          have HFK : Hid FK := hFK
          clear HN2 hFK
          go_wp2_with (go_at_call 47; refine (HFI.out _ _ T nm (HT.out.step (stepB hB2)) hT).mono ?_; rintro e w2 ⟨t, rfl, hf, hw2⟩; obtain rfl : t = (k : Int) := (HFF.out t hf).2 HFK.out; clear hf; subst hw2)
          go_roundw
          case rel => exact ⟨k + 1, by omega, by go_num, HN3.out, hB2⟩
          case measure => simp [intOf]; omega
        · have HF2 := HF.out (fun h => hFK h.2)
          have HF3 : Hid (¬ VO) := HF2
          have HFK : Hid (¬ FK) := hFK
          clear HF2 hFK
          go_wp2_with (go_at_call 47; refine (HFI.out _ _ T nm (HT.out.step (stepB hB2)) hT).mono ?_; rintro e w2 ⟨t, rfl, hf, hw2⟩; have hne : (t != (k : Int)) = true := (by rw [bne_iff_ne]; exact fun e => HFK.out ((HFF.out t hf).1 e)); clear hf; subst hw2)
          go_ret
          exact BoolPost.no HF3.out hB2
      · obtain rfl : b1 = false := by rw [← Bool.not_eq_true, hb1]; exact hTK
        have HF2 := HF.out (fun h => hTK h.1)
        have HF3 : Hid (¬ VO) := HF2
        clear HF2 hb1 hTK
        go_wp2
        go_ret
        exact BoolPost.no HF3.out hB2
    · have HTT : Hid (TablesOK T ∧ NamesOK T) := ⟨fun i hi => (hall i hi (by omega)).1, fun i j hi hj hij => (hall j hj (by omega)).2 hj i hi hij⟩
      clear hall
      by_cases hl : 1 ≤ N.length ∧ N.length ≤ 12
      · have i1 : inB (N.length : Int) 1 12 = true := inB_t (by omega)
        have hmk : ∀ w, (Instr.makeSlice 70 (.int .i64 (N.length : Int)) (.int .i64 (N.length : Int))).run Try.prog w = .ok (.slice (some ⟨w.heap.size, 0, none⟩) N.length N.length) (w.alloc (.cells (ints (List.replicate N.length 0)).toArray 3)) := make12 N.length hl.2
        go_wp2_with (go_at_call 48; refine (HI.out _ _ _ _).mono ?_; rintro e w' ⟨rfl, rfl⟩)
        go_region
        all_goals
          go_wp2_with fail
          obtain ⟨bk, hbk⟩ : ∃ bk, bk = w'.heap.size + 1 + 1 := ⟨_, rfl⟩
          rw [← hbk]
          refine wp_at (fun W => ∃ gd gu, VSt w W bk gd gu (.slice none 0 0) [] N.length (List.replicate N.length 0) []) ⟨_, _, by rw [hbk]; first | exact (VSt.new hB N.length _ _ (Or.inl ⟨rfl, rfl⟩)).down ((Below.refl _ _).drew) | exact (VSt.new hB N.length _ _ (Or.inr ⟨rfl, rfl⟩)).down ((Below.refl _ _).drew)⟩ ?_
          rintro W ⟨gd, gu, hV0⟩
          have HV0 : Hid (VSt w W bk gd gu (.slice none 0 0) [] N.length (List.replicate N.length 0) []) := hV0
          have hbkw : w.heap.size ≤ bk := hV0.f bk (by simp [vF])
          clear hV0 hbk hmk hB
          go_loopw [8] (fun j wr => ∃ (k : Nat) (cv : Value) (D : List Int), k ≤ N.length ∧ j = .int .i64 k ∧ VSt w wr bk gd gu cv (colsL T (N.take k)) N.length D (asks (N.take k)) ∧ (∀ i, i < k → PassN T N i) ∧ (∀ j, 0 ≤ D.getD j 0 ∧ D.getD j 0 ≤ 20) ∧ (∀ j, j < k → D.getD j 0 = (hF N j : Int)) ∧ (∀ j, ((colsL T (N.take k)).getD j []).length ≤ 12)) (fun j _ => N.length - (intOf j).toNat)
          case atStart => exact ⟨0, _, _, by omega, rfl, HV0.out, fun i h => by omega, fun j => by simp only [List.getD_eq_getElem?_getD, List.getElem?_replicate]; split <;> simp, fun j h => by omega, fun j => by simp [colsL, grow]⟩
          case round =>
            obtain ⟨k2, cv, D, hk2, rfl, hV, hall2, hDb, hDh, h12⟩ := hrel
            clear HV0
            have hbB := hV.b
            have hszz := hbB.size
            by_cases hlt2 : k2 < N.length
            · obtain ⟨b, off, hao, hcell⟩ := HV.out.cells9 (by omega)
              subst hao
              obtain ⟨p, hp, s0, s1, s2, s3, s4, s5, s6, s7, s8⟩ := hcell k2 hlt2
              have hbw : b < w.heap.size := World.block_lt_of_cell? w _ s0
              have hgdw : w.heap.size ≤ gd := hV.f gd (by simp [vF])
              have hne : b ≠ gd := by omega
              have HPN : Hid (PassN T N k2 ↔ BareOK N[k2] ∧ (Ahead N[k2] k2 ∧ NodeOK T (colsL T (N.take k2)) N[k2]) ∧ (1 ≤ (nodeL T (colsL T (N.take k2)) N[k2]).length ∧ (nodeL T (colsL T (N.take k2)) N[k2]).length ≤ 12) ∧ hF N k2 ≤ 8) := ⟨fun h => ⟨(h hlt2).1, ⟨(h hlt2).2.1, ((h hlt2).2.2.1 hlt2).1⟩, ((h hlt2).2.2.1 hlt2).2, (h hlt2).2.2.2⟩, fun h _ => ⟨h.1, h.2.1.1, fun _ => ⟨h.2.1.2, h.2.2.1⟩, h.2.2.2⟩⟩
              have HNX : Hid (PassN T N k2 → ∀ i, i < k2 + 1 → PassN T N i) := by
                intro hq i hi
                by_cases e : i = k2
                · subst e; exact hq
                · exact hall2 i (by omega)
              have HNF : Hid (¬ PassN T N k2 → ¬ VO) := fun hq h => hq ((HVI.out.1 h).2.2.1 k2 hlt2)
              have HSm : Hid (NodeSmall N[k2]) := HSN.out k2 hlt2
              have HCN : Hid (colsL T (N.take (k2 + 1)) = colsL T (N.take k2) ++ [nodeL T (colsL T (N.take k2)) N[k2]]) := colsL_snoc T N k2 hlt2
              have HAS : Hid (asks (N.take (k2 + 1)) = asks (N.take k2) ++ ins N[k2]) := asks_snoc hlt2
              have HCLl : Hid ((colsL T (N.take k2)).length = k2) := colsL_len T N k2 hk2
              have HAL : Hid ((asks (N.take k2)).length ≤ 24) := by have := asks_len (N.take k2); simp at this; show _ ≤ _; omega
              have HH : Hid (Ahead N[k2] k2 → (if N[k2].op = 1 then (1 : Int) else if N[k2].op = 4 ∨ N[k2].op = 5 then 1 + max ((D.set k2 1).getD N[k2].left.toNat 0) ((D.set k2 1).getD N[k2].right.toNat 0) else 1 + (D.set k2 1).getD N[k2].left.toNat 0) = (hF N k2 : Int)) := fun ha => high_step hDh hlt2 ha
              have H12 : Hid (∀ j, ((colsL T (N.take k2)).getD j []).length ≤ 12) := h12
              have HDB : Hid (∀ j, 0 ≤ (D.set k2 1).getD j 0 ∧ (D.set k2 1).getD j 0 ≤ 20) := set_bound hDb
              have HDH : Hid (∀ j, j < k2 → D.getD j 0 = (hF N j : Int)) := hDh
              have HDl : Hid (D.length = N.length) := hV.k.dl
              have HNI : Hid (∀ W F, Below w.heap.size w W → (∀ x ∈ F, w.heap.size ≤ x) → NodeIn W F p N[k2]) := fun W F hW hF => hp.step ⟨Below.t hW, fun x hx => Or.inr (hF x hx)⟩
              have HTW : Hid (∀ W F, Below w.heap.size w W → (∀ x ∈ F, w.heap.size ≤ x) → TabsIn W F (.slice tao T.length tcap) T) := fun W F hW hF => HT.out.step ⟨Below.t hW, fun x hx => Or.inr (hF x hx)⟩
              clear hcell hall2 hDb hDh h12
              generalize hn0 : N[k2] = n0 at *
              obtain ⟨op, lf, rt, tb, ks, ct, cols, ots, sums⟩ := n0
              obtain ⟨kv, cv0, ov, sv⟩ := p
              obtain ⟨hp1, hp2, hp3, hp4⟩ := hp
              simp only at *
              obtain ⟨ko, kcap, rfl, _, _, g1⟩ := hp1.open
              obtain ⟨co, ccap, rfl, _, _, g2⟩ := hp2.open
              obtain ⟨oo, ocap, rfl, _, _, g3⟩ := hp3.open
              obtain ⟨so, scap, rfl, _, _, g4⟩ := hp4.open
              clear g1 g2 g3 g4 hp1 hp2 hp3 hp4
              have HC : Hid (∀ W, Below w.heap.size w W → W.cell? ⟨b, off + k2 * 9, none⟩ = some (.int .i64 op) ∧ W.cell? ⟨b, off + k2 * 9 + 1, none⟩ = some (.int .i64 lf) ∧ W.cell? ⟨b, off + k2 * 9 + 1 + 1, none⟩ = some (.int .i64 rt) ∧ W.cell? ⟨b, off + k2 * 9 + 1 + 1 + 1, none⟩ = some (.string tb) ∧ W.cell? ⟨b, off + k2 * 9 + 1 + 1 + 1 + 1, none⟩ = some (.slice ko ks.length kcap) ∧ W.cell? ⟨b, off + k2 * 9 + 1 + 1 + 1 + 1 + 1, none⟩ = some (.int .i64 ct) ∧ W.cell? ⟨b, off + k2 * 9 + 1 + 1 + 1 + 1 + 1 + 1, none⟩ = some (.slice co cols.length ccap) ∧ W.cell? ⟨b, off + k2 * 9 + 1 + 1 + 1 + 1 + 1 + 1 + 1, none⟩ = some (.slice oo ots.length ocap) ∧ W.cell? ⟨b, off + k2 * 9 + 1 + 1 + 1 + 1 + 1 + 1 + 1 + 1, none⟩ = some (.slice so sums.length scap)) := fun W hW => ⟨(hW.cell (p := ⟨b, off + k2 * 9, none⟩) hbw).trans s0, (hW.cell (p := ⟨b, off + k2 * 9 + 1, none⟩) hbw).trans s1, (hW.cell (p := ⟨b, off + k2 * 9 + 1 + 1, none⟩) hbw).trans s2, (hW.cell (p := ⟨b, off + k2 * 9 + 1 + 1 + 1, none⟩) hbw).trans s3, (hW.cell (p := ⟨b, off + k2 * 9 + 1 + 1 + 1 + 1, none⟩) hbw).trans s4, (hW.cell (p := ⟨b, off + k2 * 9 + 1 + 1 + 1 + 1 + 1, none⟩) hbw).trans s5, (hW.cell (p := ⟨b, off + k2 * 9 + 1 + 1 + 1 + 1 + 1 + 1, none⟩) hbw).trans s6, (hW.cell (p := ⟨b, off + k2 * 9 + 1 + 1 + 1 + 1 + 1 + 1 + 1, none⟩) hbw).trans s7, (hW.cell (p := ⟨b, off + k2 * 9 + 1 + 1 + 1 + 1 + 1 + 1 + 1 + 1, none⟩) hbw).trans s8⟩
              clear s0 s1 s2 s3 s4 s5 s6 s7 s8
              obtain ⟨c0, c1, c2, c3, c4, c5, c6, c7, c8⟩ := HC.out _ hbB
              have k1 := hV.k.c1
              obtain ⟨d1, d2⟩ := hV.k.dcell (c := k2) hlt2
              have HVV : Hid (VSt w wr bk gd gu cv (colsL T (N.take k2)) N.length D (asks (N.take k2))) := hV
              clear hV
              go_wp2_with fail
              refine calls_at (fun W => VSt w W bk gd gu cv (colsL T (N.take k2)) N.length (D.set k2 1) (asks (N.take k2))) (HVV.out.deep1 hlt2) ?_
              intro W4 hV4
              have hB4 := hV4.b
              refine (bare_any W4 ⟨op, lf, rt, tb, ks, ct, cols, ots, sums⟩ (.slice ko ks.length kcap, .slice co cols.length ccap, .slice oo ots.length ocap, .slice so sums.length scap) (HNI.out W4 [] hB4 (by simp))).mono ?_
              rintro e w5 ⟨b5, rfl, hb5, hB5⟩
              have hV5 := hV4.down hB5
              have HV5 : Hid (VSt w w5 bk gd gu cv (colsL T (N.take k2)) N.length (D.set k2 1) (asks (N.take k2))) := hV5
              clear c0 c1 c2 c3 c4 c5 c6 c7 c8 k1 d1 d2 hV4 hB4 hB5
              obtain ⟨c0, c1, c2, c3, c4, c5, c6, c7, c8⟩ := HC.out _ hV5.b
              clear hV5
              by_cases hbr : BareN ⟨op, lf, rt, tb, ks, ct, cols, ots, sums⟩
              · obtain rfl : b5 = true := hb5.2 hbr
                by_cases hop : 1 ≤ op ∧ op ≤ 7
                · have i2 : inB op 1 7 = true := inB_t hop
                  have HBO : Hid (BareOK ⟨op, lf, rt, tb, ks, ct, cols, ots, sums⟩) := ⟨hop, hbr⟩
                  clear hb5 hbr
                  go_wp2_with (go_at_call 48; refine (HI.out _ _ _ _).mono ?_; rintro e w' ⟨rfl, hw'⟩; have hw2 := hw'.symm; subst hw2)
                  refine (node_any _ (vF gd gu bk cv) bk gd gu cv (colsL T (N.take k2)) N.length (D.set k2 1) (asks (N.take k2)) _ T ⟨op, lf, rt, tb, ks, ct, cols, ots, sums⟩ (.slice ko ks.length kcap, .slice co cols.length ccap, .slice oo ots.length ocap, .slice so sums.length scap) k2 HV5.out.k HV5.out.lt (HTW.out _ _ HV5.out.b HV5.out.f) hT (HNI.out _ _ HV5.out.b HV5.out.f) HSm.out HBO.out hlt2 hl.2 HCLl.out HDB.out (by have := HDl.out; simp [show k2 < D.length from by omega]) (by have := HAL.out; omega) H12.out).mono ?_
                  rintro e w6 ⟨ao6, m6, cap6, b6, rfl, hb6, hok6, hT6⟩
                  have hB6 : Below w.heap.size w w6 := hT6.up HV5.out.b (fun x hx => by simp at hx; rcases hx with rfl | rfl; exact HV5.out.f _ (by simp [vF]); exact HV5.out.f _ (by simp [vF]))
                  clear c0 c1 c2 c3 c4 c5 c6 c7 c8
                  by_cases hno : Ahead ⟨op, lf, rt, tb, ks, ct, cols, ots, sums⟩ k2 ∧ NodeOK T (colsL T (N.take k2)) ⟨op, lf, rt, tb, ks, ct, cols, ots, sums⟩
                  · obtain rfl : b6 = true := hb6.2 hno
                    obtain ⟨hin6, hd6, hu6⟩ := hok6 rfl
                    obtain ⟨ao7, cap7, e7, _, _, g7⟩ := hin6.open
                    obtain ⟨rfl, rfl, rfl⟩ := slice_inj e7
                    have hhh := HH.out hno.1
                    rw [hhh, List.set_set] at hd6
                    rw [← HAS.out] at hu6
                    have hV6 := HV5.out.turn hT6 hd6 hu6 (by simp [HDl.out])
                    have HV6 : Hid (VSt w w6 bk gd gu cv (colsL T (N.take k2)) N.length (D.set k2 (hF N k2 : Int)) (asks (N.take (k2 + 1)))) := hV6
                    have HIN6 : Hid (IntsIn w6 (vF gd gu bk cv) (.slice ao6 (nodeL T (colsL T (N.take k2)) ⟨op, lf, rt, tb, ks, ct, cols, ots, sums⟩).length cap6) (nodeL T (colsL T (N.take k2)) ⟨op, lf, rt, tb, ks, ct, cols, ots, sums⟩)) := hin6
                    have HNO : Hid (Ahead ⟨op, lf, rt, tb, ks, ct, cols, ots, sums⟩ k2 ∧ NodeOK T (colsL T (N.take k2)) ⟨op, lf, rt, tb, ks, ct, cols, ots, sums⟩) := hno
                    clear g7 e7 hok6 hb6 hd6 hu6 hno hhh hin6
                    by_cases hlen : 1 ≤ (nodeL T (colsL T (N.take k2)) ⟨op, lf, rt, tb, ks, ct, cols, ots, sums⟩).length ∧ (nodeL T (colsL T (N.take k2)) ⟨op, lf, rt, tb, ks, ct, cols, ots, sums⟩).length ≤ 12
                    · have i3 : inB ((nodeL T (colsL T (N.take k2)) ⟨op, lf, rt, tb, ks, ct, cols, ots, sums⟩).length : Int) 1 12 = true := inB_t (by omega)
                      have k1 := hV6.k.c1
                      obtain ⟨d1, _⟩ := hV6.k.dcell (c := k2) hlt2
                      have e8 : (D.set k2 (hF N k2 : Int)).getD k2 0 = (hF N k2 : Int) := by have := HDl.out; simp [show k2 < D.length from by omega]
                      rw [e8] at d1
                      clear e8
                      by_cases h8 : hF N k2 ≤ 8
                      · have hd8 : decide ((8 : Int) < (hF N k2 : Int)) = false := decide_eq_false (by omega)
                        have HPS : Hid (∀ i, i < k2 + 1 → PassN T N i) := HNX.out (HPN.out.2 ⟨HBO.out, HNO.out, hlen, h8⟩)
                        have k0 := hV6.k.c0
                        have f0 := (hV6.pk.place 0 (by omega)).2
                        obtain ⟨vs, hvl, hown, hvs⟩ := hV6.c
                        have HVS : Hid (∀ j u (h : j < (colsL T (N.take k2)).length), vs[j]? = some u → IntsIn w6 (vF gd gu bk cv) u (colsL T (N.take k2))[j]) := hvs
                        have HOWN : Hid (w6.ownsRow 0 70 1 cv vs.length vs) := hown
                        have HVL : Hid (vs.length = (colsL T (N.take k2)).length) := hvl
                        have hbk6 := hV6.pk.lt
                        have hvk : vs.length ≤ 12 := by rw [hvl, HCLl.out]; omega
                        have HPK : Hid (PA w6 bk 117 3 [cv, .slice (some ⟨gd, 0, none⟩) N.length N.length, .slice (some ⟨gu, 0, none⟩) N.length N.length]) := hV6.pk
                        have HOB : Hid (bk ∉ cv.ownBlock.toList) := fun e => (hV6.own bk (by simpa using e)).2.2 rfl
                        clear hvs hown hvl hV6
                        go_wp2_with (first | (go_at_call 48; refine (HI.out _ _ _ _).mono ?_; rintro e w' ⟨rfl, hw'⟩; have hw2 := hw'.symm; subst hw2) | (at_builtin; refine wpList_append_lies _ rfl (.tmp 109) (.tmp 111) 86 rfl 0 70 i70 (.slice none 0 0) 1 24 Try.underlying86 HI70.out.1 HI70.out.2.1 HI70.out.2.2.1 HI70.out.2.2.2 rfl (by decide) cv vs.length vs rfl (by exact World.ownsRow.alloc HOWN.out _) _ 1 1 [.slice ao6 (nodeL T (colsL T (N.take k2)) ⟨op, lf, rt, tb, ks, ct, cols, ots, sums⟩).length cap6] rfl (by simp) (by exact cell_one_new _ _ _) (by intro u hu; simp at hu; subst hu; rfl) (by decide) (by unfold maxLen; omega) (by omega) (Nat.zero_le _) _ rfl ?_; intro g cp w7 hS7 hG7 hat7 hlt7; have hT7 : Touch cv.ownBlock.toList w6 w7 := (((Touch.refl [] w6).alloc (.cells #[.slice ao6 (nodeL T (colsL T (N.take k2)) ⟨op, lf, rt, tb, ks, ct, cols, ots, sums⟩).length cap6] 70)).mono (by simp)).grown hG7 (fun k hk => by simpa using hk); have hp7 := HPK.out.touch hT7 HOB.out; have y0 := hp7.cell (i := 0) rfl; have f7 := (hp7.place 0 (by omega)).2; clear hp7))
                        have HV9 := HV6.out.push (l := (nodeL T (colsL T (N.take k2)) ⟨op, lf, rt, tb, ks, ct, cols, ots, sums⟩)) HVL.out HVS.out HIN6.out hS7 hT7 (hat7.imp id (fun e => by rw [e]; simp))
                        rw [← HCN.out] at HV9
                        have HV10 : Hid (VSt w (w7.setCell ⟨bk, 0, none⟩ (.slice (some ⟨g, 0, none⟩) (vs.length + 1) cp)) bk gd gu (.slice (some ⟨g, 0, none⟩) (vs.length + 1) cp) (colsL T (N.take (k2 + 1))) N.length (D.set k2 (hF N k2 : Int)) (asks (N.take (k2 + 1)))) := HV9
                        have H13 := getD_snoc12 H12.out hlen.2
                        rw [← HCN.out] at H13
                        have H14 : Hid (∀ j, ((colsL T (N.take (k2 + 1))).getD j []).length ≤ 12) := H13
                        have HDB2 : Hid (∀ j, 0 ≤ (D.set k2 (hF N k2 : Int)).getD j 0 ∧ (D.set k2 (hF N k2 : Int)).getD j 0 ≤ 20) := set_bound2 HDB.out (by omega)
                        have HDH2 : Hid (∀ j, j < k2 + 1 → (D.set k2 (hF N k2 : Int)).getD j 0 = (hF N j : Int)) := by
                          intro j hj
                          by_cases e : j = k2
                          · subst e; have := HDl.out; simp [show j < D.length from by omega]
                          · rw [getD_set_ne e]; exact HDH.out j (by omega)
                        clear HV9 H13 hS7 hT7 hG7 hat7
                        go_roundw
                        case rel => exact ⟨k2 + 1, _, _, by omega, by go_num, HV10.out, HPS.out, HDB2.out, HDH2.out, H14.out⟩
                        case measure => simp [intOf]; omega
                      · have hd8 : decide ((8 : Int) < (hF N k2 : Int)) = true := decide_eq_true (by omega)
                        have HF2 := HNF.out (fun h => h8 (HPN.out.1 h).2.2.2)
                        have HF3 : Hid (¬ VO) := HF2
                        clear HF2
                        go_wp2_with (go_at_call 48; refine (HI.out _ _ _ _).mono ?_; rintro e w' ⟨rfl, rfl⟩)
                        go_ret
                        exact BoolPost.no HF3.out hB6
                    · have i3 : inB ((nodeL T (colsL T (N.take k2)) ⟨op, lf, rt, tb, ks, ct, cols, ots, sums⟩).length : Int) 1 12 = false := inB_f (by omega)
                      clear hV6
                      have HF2 := HNF.out (fun h => hlen (HPN.out.1 h).2.2.1)
                      have HF3 : Hid (¬ VO) := HF2
                      clear HF2
                      go_wp2_with (go_at_call 48; refine (HI.out _ _ _ _).mono ?_; rintro e w' ⟨rfl, rfl⟩)
                      go_ret
                      exact BoolPost.no HF3.out hB6
                  · obtain rfl : b6 = false := by rw [← Bool.not_eq_true, hb6]; exact hno
                    clear hok6 hb6
                    have HF2 := HNF.out (fun h => hno (HPN.out.1 h).2.1)
                    have HF3 : Hid (¬ VO) := HF2
                    clear HF2
                    go_wp2_with (go_at_call 48; refine (HI.out _ _ _ _).mono ?_; rintro e w' ⟨rfl, rfl⟩)
                    go_ret
                    exact BoolPost.no HF3.out hB6
                · have i2 : inB op 1 7 = false := inB_f hop
                  clear hb5 hbr
                  have HF2 := HNF.out (fun h => hop (HPN.out.1 h).1.1)
                  have HF3 : Hid (¬ VO) := HF2
                  clear HF2
                  go_wp2_with (go_at_call 48; refine (HI.out _ _ _ _).mono ?_; rintro e w' ⟨rfl, rfl⟩)
                  go_ret
                  exact BoolPost.no HF3.out HV5.out.b
              · obtain rfl : b5 = false := by rw [← Bool.not_eq_true, hb5]; exact hbr
                clear hb5
                have HF2 := HNF.out (fun h => hbr (HPN.out.1 h).1.2)
                have HF3 : Hid (¬ VO) := HF2
                clear HF2
                go_wp2_with (go_at_call 48; refine (HI.out _ _ _ _).mono ?_; rintro e w' ⟨rfl, rfl⟩)
                go_ret
                exact BoolPost.no HF3.out HV5.out.b
            · have HPA : Hid (∀ i, i < N.length → PassN T N i) := fun i hi => hall2 i (by omega)
              rw [List.take_of_length_le (by omega)] at hV
              have HU : Hid (∀ W, Below wr.heap.size wr W → W.cell? ⟨bk, 2, none⟩ = some (.slice (some ⟨gu, 0, none⟩) N.length N.length) ∧ ∀ j, j < N.length → W.cell? ⟨gu, j, none⟩ = some (.int .i64 (((asks N).count (j : Int) : Nat) : Int))) := by
                intro W hW
                exact ⟨(hV.k.b hW).c2, fun j hj => ((hV.k.b hW).ucell hj).1⟩
              clear hall2 hDb hDh h12 hV
              go_wp2_with fail
              go_loopw [11] (fun j wz => ∃ k3 : Nat, k3 + 1 ≤ N.length ∧ j = .int .i64 k3 ∧ (∀ i : Nat, i < k3 → (asks N).count (i : Int) = 1) ∧ wz = wr) (fun j _ => N.length - (intOf j).toNat)
              case atStart => exact ⟨0, by omega, rfl, fun i h => by omega, rfl⟩
              case round =>
                obtain ⟨k3, hk3, rfl, hall3, hw3⟩ := hrel
                subst hw3
                by_cases hlt3 : k3 + 1 < N.length
                · have hd3 : decide ((k3 : Int) + 1 < (N.length : Int)) = true := decide_eq_true (by omega)
                  obtain ⟨u2, u3⟩ := HU.out _ (Below.refl _ _)
                  have u4 := u3 k3 (by omega)
                  clear u3
                  by_cases hq : (asks N).count (k3 : Int) = 1
                  · have HN3 : Hid (∀ i : Nat, i < k3 + 1 → (asks N).count (i : Int) = 1) := by
                      intro i hi
                      by_cases e : i = k3
                      · subst e; exact hq
                      · exact hall3 i (by omega)
                    rw [hq] at u4
                    clear hall3 hq
                    go_wp2
                    go_roundw
                    case rel => exact ⟨k3 + 1, by omega, by go_num, HN3.out, trivial⟩
                    case measure => simp [intOf]; omega
                  · have HF3 : Hid (¬ VO) := fun h => hq ((HVI.out.1 h).2.2.2 k3 hlt3)
                    have hd : ((((asks N).count (k3 : Int) : Nat) : Int) != 1) = true := by rw [bne_iff_ne]; omega
                    clear hall3 hq
                    go_wp2
                    go_ret
                    exact BoolPost.no HF3.out hbB
                · have hd3 : decide ((k3 : Int) + 1 < (N.length : Int)) = false := decide_eq_false (by omega)
                  have HYES : Hid VO := HVI.out.2 ⟨HTT.out, hl, HPA.out, fun j hj => hall3 j (by omega)⟩
                  clear hall3
                  go_wp2
                  go_ret
                  exact BoolPost.yes HYES.out hbB
      · have i1 : inB (N.length : Int) 1 12 = false := inB_f (by omega)
        have HF3 : Hid (¬ VO) := fun h => hl (HVI.out.1 h).2.1
        go_wp2_with (go_at_call 48; refine (HI.out _ _ _ _).mono ?_; rintro e w' ⟨rfl, rfl⟩)
        go_ret
        exact BoolPost.no HF3.out hB
end Go.Proofs.Ytjoinhljdbljaaa
