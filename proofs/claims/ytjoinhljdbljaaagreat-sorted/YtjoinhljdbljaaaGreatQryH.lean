/- Rows that are looked at: the walk of what q.checked hands back, over a table's rows. -/
import Derived.Test.YtjoinhljdbljaaaGreatQryFToQryG
import Derived.Sort.CutIn
namespace Go.Proofs.YtjoinhljdbljaaaGreat
open Go.RowKit
attribute [local go_sem] Oper.semAt_some

/-- What a look at a table's rows starts from. -/
structure ChkCtx (W : World) (bq bl b q : Nat) (tv wv sv : Value) (bx blk : Nat) (fan bud : Int) (vs : List Value) (rows : List (List V)) : Prop where
  hq : W.heap[bq]? = some (.cells #[.pointer (some ⟨q, 0, none⟩)] 159 (0, 0))
  hQ : W.heap[q]? = some (.cells #[tv, .int .i64 (blk : Int), .int .i64 fan, .int .i64 bud, .pointer (some ⟨bx, 0, none⟩), wv] 162 (0, 0))
  hl : W.heap[bl]? = some (.cells #[.func (.func 162) #[] #[.pointer (some ⟨b, 0, none⟩)]] 165 (0, 0))
  hb : W.heap[b]? = some (.cells #[sv] 36 (0, 0))
  list : LAt W sv vs
  len : vs.length = rows.length
  rowsAt : ∀ i (_ : i < vs.length) (_ : i < rows.length), RowAt W vs[i] rows[i]
  fair : ∀ r ∈ rows, ∀ v ∈ r, Fair v
  size : ∀ r ∈ rows, 16 + sizeR r ≤ blk ∧ r.length ≤ 1000
  b2 : blk ≤ 4096
  few : rows.length ≤ 20000

/-- What it leans on. -/
def ChkT : List TypeId := [206, 3, 4, 165, 159, 162, 83, 85, 36]
theorem ChkCtx.keep {W W' : World} {bq bl b q : Nat} {tv wv sv : Value} {bx blk : Nat} {fan bud : Int} {vs : List Value} {rows : List (List V)} (h : ChkCtx W bq bl b q tv wv sv bx blk fan bud vs rows) (k : ∀ t, t ∈ [165, 159, 162, 83, 85, 36] → KeepTag t W W') : ChkCtx W' bq bl b q tv wv sv bx blk fan bud vs rows :=
  { h with hq := k 159 (by decide) _ _ _ h.hq, hQ := k 162 (by decide) _ _ _ h.hQ, hl := k 165 (by decide) _ _ _ h.hl, hb := k 36 (by decide) _ _ _ h.hb, list := h.list.keep (k 83 (by decide)), rowsAt := fun i a b => Sl3.keep (h.rowsAt i a b) (k 85 (by decide)) }

/-- A step that turns but blocks that lie from B on. -/
def OwnN (B : Nat) (W W' : World) : Prop := ∃ F, Touch F W W' ∧ ∀ k ∈ F, B ≤ k
theorem Touch.n {W W' : World} (h : Touch [] W W') (B : Nat) : OwnN B W W' := ⟨[], h, by simp⟩
theorem OwnN.one {B k : Nat} {W W' : World} (h : Touch [k] W W') (hk : B ≤ k) : OwnN B W W' := ⟨[k], h, by simpa using hk⟩
theorem OwnN.trans {B : Nat} {X Y Z : World} (h : OwnN B X Y) (k : OwnN B Y Z) : OwnN B X Z := by
  obtain ⟨F, h1, h2⟩ := h
  obtain ⟨G, k1, k2⟩ := k
  refine ⟨F ++ G, (h1.mono (fun i hi => List.mem_append_left _ hi)).trans (k1.mono (fun i hi => List.mem_append_right _ hi)), fun i hi => ?_⟩
  rcases List.mem_append.1 hi with hi | hi
  · exact h2 i hi
  · exact k2 i hi
theorem OwnN.low {B : Nat} {W W' : World} (h : OwnN B W W') {k : Nat} {ob : Obj} (e : W.heap[k]? = some ob) (hk : k < B) : W'.heap[k]? = some ob := by
  obtain ⟨F, h1, h2⟩ := h
  rw [h1.block k (Array.getElem?_eq_some_iff.1 e).1 (fun hF => by have := h2 k hF; omega)]
  exact e

/-- Its own boxes. -/
structure ChkBox (W : World) (B l : Nat) (i : Nat) : Prop where
  y : W.heap[B]? = some (.cells #[.func (.yield l) #[] #[]] 206 (0, 0))
  c : W.heap[B + 1]? = some (.cells #[.int .i64 (i : Int)] 3 (0, 0))
  g : W.heap[B + 2]? = some (.cells #[.bool false] 4 (0, 0))
theorem ChkBox.keep {W W' : World} {B l i : Nat} (h : ChkBox W B l i) (k : ∀ t, t ∈ [206, 3, 4] → KeepTag t W W') : ChkBox W' B l i := ⟨k 206 (by decide) _ _ _ h.y, k 3 (by decide) _ _ _ h.c, k 4 (by decide) _ _ _ h.g⟩

set_option maxRecDepth 20000 in
set_option maxHeartbeats 4000000 in
theorem checked_seq (W0 : World) (bq bl b q : Nat) (tv wv sv : Value) (bx blk : Nat) (fan bud : Int) (vs : List Value) (rows : List (List V)) (h : ChkCtx W0 bq bl b q tv wv sv bx blk fan bud vs rows) :
    SeqC 140 #[.pointer (some ⟨bl, 0, none⟩), .pointer (some ⟨bq, 0, none⟩)] (0 : Nat) (fun s _ => s = vs.length) (fun i v _ i' => vs[i]? = some v ∧ i' = i + 1) (OwnN W0.heap.size) (Guard ChkT W0.heap.size) W0 := by
  intro l J hJ hY h0
  have c3 := boxOne h.hl
  have n3 := (Array.getElem?_eq_some_iff.1 h.hl).1
  have tA : Touch [] W0 (((W0.alloc (.cells #[.func (.yield l) #[] #[]] 206)).alloc (.cells #[.int .i64 0] 3)).alloc (.cells #[.bool false] 4)) := (((Touch.refl [] W0).alloc _).alloc _).alloc _
  have c3' := cell_touch c3 tA
  refine callsIn_wide.1 (callsIn_of_wp_marks (n := 0) Tryz.func140 rfl trivial (wpIn_wide.2 ?_))
  simp only [Tryz.ntmps140, List.size_toArray, List.length_cons, List.length_nil, Nat.reduceAdd, Nat.reduceSub, Array.replicate_succ, Array.replicate_zero, List.push_toArray, List.append_toArray, List.nil_append, List.cons_append]
  go_wp2
  have x0 : (((W0.alloc (.cells #[.func (.yield l) #[] #[]] 206)).alloc (.cells #[.int .i64 0] 3)).alloc (.cells #[.bool false] 4)).heap[W0.heap.size]? = some (.cells #[.func (.yield l) #[] #[]] 206 (0, 0)) := (Below.heap_alloc _ _ _ (by simp; omega)).trans ((Below.heap_alloc _ _ _ (by simp)).trans (heap_alloc_new W0 _))
  have x1 : (((W0.alloc (.cells #[.func (.yield l) #[] #[]] 206)).alloc (.cells #[.int .i64 0] 3)).alloc (.cells #[.bool false] 4)).heap[W0.heap.size + 1]? = some (.cells #[.int .i64 0] 3 (0, 0)) := (Below.heap_alloc _ _ _ (by simp)).trans (by have := heap_alloc_new (W0.alloc (.cells #[.func (.yield l) #[] #[]] 206)) (.cells #[.int .i64 0] 3); rw [World.size_alloc] at this; exact this)
  have x2 : (((W0.alloc (.cells #[.func (.yield l) #[] #[]] 206)).alloc (.cells #[.int .i64 0] 3)).alloc (.cells #[.bool false] 4)).heap[W0.heap.size + 2]? = some (.cells #[.bool false] 4 (0, 0)) := by
    have := heap_alloc_new ((W0.alloc (.cells #[.func (.yield l) #[] #[]] 206)).alloc (.cells #[.int .i64 0] 3)) (.cells #[.bool false] 4); rw [World.size_alloc, World.size_alloc] at this; exact this
  have hsz : (((W0.alloc (.cells #[.func (.yield l) #[] #[]] 206)).alloc (.cells #[.int .i64 0] 3)).alloc (.cells #[.bool false] 4)).heap.size = W0.heap.size + 3 := by simp
  clear c3 c3'
  generalize ((W0.alloc (.cells #[.func (.yield l) #[] #[]] 206)).alloc (.cells #[.int .i64 0] 3)).alloc (.cells #[.bool false] 4) = wa at *
  have tW : ∀ rec : Loop, Touch [] W0 ((wa.alloc (.deferred (some []))).alloc (.loop rec)) := fun rec => (tA.alloc _).alloc _
  have tV : ∀ rec : Loop, Touch [] wa ((wa.alloc (.deferred (some []))).alloc (.loop rec)) := fun rec => ((Touch.refl [] wa).alloc _).alloc _
  refine range_law (w := wa) (gf := 162) (lb := #[.pointer (some ⟨b, 0, none⟩)]) rfl (enters_of Tryz.func162 (by kernel_rfl) rfl) rfl
    (fun rec => values_seq _ b sv vs ((tW rec).tag0 36 _ _ _ h.hb) (h.list.keep ((tW rec).tag0 83)) (by have := h.len; have := h.few; omega))
    (by rintro A B' k ob rfl e _ _; exact e) (fun _ _ _ h1 h2 => h1.trans h2) (fun W r r' e => (Guard.putObj (T := [83]) (B := wa.heap.size + 2) e (by omega)).cells 83 (by decide))
    (fun i W => J i W ∧ ChkBox W W0.heap.size l i ∧ ChkCtx W bq bl b q tv wv sv bx blk fan bud vs rows ∧ W0.heap.size ≤ W.heap.size)
    (by rintro i A B' hi rfl; exact hi) ?hIp (by rintro i v i' W r r' hs _; exact hs) ?h0
    (fun v => { tmps := #[.func (.yield l) #[] #[], .pointer (some ⟨bl, 0, none⟩), .pointer (some ⟨bq, 0, none⟩), .pointer (some ⟨W0.heap.size, 0, none⟩), .pointer (some ⟨W0.heap.size + 1, 0, none⟩), .pointer (some ⟨W0.heap.size + 1 + 1, 0, none⟩), v, .func (.func 162) #[] #[.pointer (some ⟨b, 0, none⟩)], v, undef, undef, undef, undef, undef, undef, undef, undef, undef, undef, undef, undef, undef, undef, undef, undef, undef, undef, undef, undef, undef, undef, undef, undef, undef, undef, undef], defers := [] }) ?assign ?body ?done
  case hIp =>
    rintro i W r r' ⟨h1, h2, h3, h4⟩ hl
    have hg := OwnS.putObj (T := []) (lo := 0) (B := W0.heap.size) (ob' := .loop r') hl (odd_loop r) (by omega) (Nat.zero_le _)
    have k : ∀ t, t ≠ 5 → KeepTag t W (W.putObj (wa.heap.size + 1) (.loop r')) := fun t ht => hg.cells t (by simp) ht
    refine ⟨hJ _ _ _ h1 (OwnN.one (Touch.putObj _ _) (by omega)), h2.keep (fun t ht => k t (fun e => by subst e; simp at ht)), h3.keep (fun t ht => k t (fun e => by subst e; simp at ht)), by simpa using h4⟩
  case h0 =>
    intro rec
    exact ⟨hJ _ _ _ h0 ((tW rec).n _), ChkBox.keep ⟨x0, x1, x2⟩ (fun t _ => (tV rec).tag0 t), h.keep (fun t _ => (tW rec).tag0 t), (tW rec).size⟩
  case assign =>
    intro v W K hK
    gi_wp2
    exact hK
  case body =>
    rintro i v i' W ⟨h1, h2, h3, h4⟩ ⟨hv, rfl⟩
    obtain ⟨hiv, hve⟩ := List.getElem?_eq_some_iff.1 hv
    have hir : i < rows.length := by have := h3.len; omega
    have hrow := h3.rowsAt i hiv hir
    rw [hve] at hrow
    have hmem : rows[i] ∈ rows := List.getElem_mem _
    have hsz1 := h3.size _ hmem
    have hb2 := h3.b2
    have hfew := h3.few
    have HSZ : Hid (∀ W', RowAt W' v rows[i] → Calls Tryz.prog 141 #[v] W' fun e w' => e = .returned (.int .i64 (sizeR rows[i] : Int)) ∧ Touch [] W' w') := fun W' hr => size_any W' v rows[i] hr (h3.fair _ hmem) (by omega)
    obtain ⟨vo, vcap, rfl⟩ := hrow.shape
    have b0 := boxOne h2.y
    have b1 := boxOne h2.c
    have b2 : W.cell? ⟨W0.heap.size + 1 + 1, 0, none⟩ = some (.bool false) := boxOne h2.g
    have f1 : W.frozen? ⟨W0.heap.size + 1, 0, none⟩ = false := by simp [World.frozen?, h2.c]
    have f2 : W.frozen? ⟨W0.heap.size + 1 + 1, 0, none⟩ = false := by
      have := h2.g
      simp [World.frozen?, this]
    have c0 := boxOne h3.hq
    have hQ := h3.hQ
    have c1 : W.cell? ⟨q, 1, none⟩ = some (.int .i64 (blk : Int)) := by simp [World.cell?, hQ]
    have k1 : (i : Int) + 1 ≤ 20000 := by omega
    have k2 : ¬ (20000 : Int) < (i : Int) + 1 := by omega
    have k3 : ¬ (blk : Int) - 16 < (sizeR rows[i] : Int) := by omega
    have HR : Hid (RowAt W (.slice vo rows[i].length vcap) rows[i] ∧ i < rows.length) := ⟨hrow, hir⟩
    have hwr : IntKind.i64.wrap ((blk : Int) - 16) = (blk : Int) - 16 := wrap_small _ (by omega) (by omega)
    have hmix : Tryz.prog.follows .mixedOrders = true := by kernel_rfl
    clear hrow hmem hQ hve
    generalize hszv : sizeR rows[i] = sz at *
    gi_wp2
    have t1 : Touch [W0.heap.size + 1] W (W.setCell ⟨W0.heap.size + 1, 0, none⟩ (.int .i64 ((i : Int) + 1))) := (Touch.refl [W0.heap.size + 1] W).setCell (p := ⟨W0.heap.size + 1, 0, none⟩) (by simp) _
    have kt : ∀ t, (3 : TypeId) ≠ t → KeepTag t W (W.setCell ⟨W0.heap.size + 1, 0, none⟩ (.int .i64 ((i : Int) + 1))) := fun t ht => t1.tag (notag_of h2.c ht)
    have g1 := kt 206 (by decide) _ _ _ h2.y
    have g2 : (W.setCell ⟨W0.heap.size + 1, 0, none⟩ (.int .i64 ((i : Int) + 1))).heap[W0.heap.size + 1]? = some (.cells #[.int .i64 ((i + 1 : Nat) : Int)] 3 (0, 0)) := by
      rw [heap_setCell_same W (W0.heap.size + 1) 0 _ 3 _ h2.c]; simp
    have g3 : (W.setCell ⟨W0.heap.size + 1, 0, none⟩ (.int .i64 ((i : Int) + 1))).heap[W0.heap.size + 1 + 1]? = some (.cells #[.bool false] 4 (0, 0)) := kt 4 (by decide) _ _ _ h2.g
    have h3' := h3.keep (fun t ht => kt t (fun e => by subst e; simp at ht))
    have hr1 := Sl3.keep HR.out.1 (kt 85 (by decide))
    have hs1 : W.heap.size ≤ (W.setCell ⟨W0.heap.size + 1, 0, none⟩ (.int .i64 ((i : Int) + 1))).heap.size := t1.size
    have hh1 : OwnN W0.heap.size W (W.setCell ⟨W0.heap.size + 1, 0, none⟩ (.int .i64 ((i : Int) + 1))) := OwnN.one t1 (by omega)
    have hodd1 : ∀ (k : Nat) (ob : Obj), W.heap[k]? = some ob → Odd ob → (W.setCell ⟨W0.heap.size + 1, 0, none⟩ (.int .i64 ((i : Int) + 1))).heap[k]? = some ob := fun k ob e ho => by
      rw [t1.block k (Array.getElem?_eq_some_iff.1 e).1 (fun hk => by rw [List.mem_singleton.1 hk, h2.c] at e; cases e; exact ho.1 _ _ _ rfl)]
      exact e
    have k83 := kt 83 (by decide)
    clear b0 b1 b2 f1 f2 c0 c1 kt t1
    generalize W.setCell ⟨W0.heap.size + 1, 0, none⟩ (.int .i64 ((i : Int) + 1)) = W1 at *
    have b0 := boxOne g1
    have b1 := boxOne g2
    have b2 := boxOne g3
    have f2 : W1.frozen? ⟨W0.heap.size + 1 + 1, 0, none⟩ = false := by simp [World.frozen?, g3]
    have c0 := boxOne h3'.hq
    have hQ := h3'.hQ
    have c1 : W1.cell? ⟨q, 1, none⟩ = some (.int .i64 (blk : Int)) := by simp [World.cell?, hQ]
    have HK : Hid (∀ W', Touch [] W1 W' → W'.cell? ⟨bq, 0, none⟩ = some (.pointer (some ⟨q, 0, none⟩)) ∧ W'.cell? ⟨q, 1, none⟩ = some (.int .i64 (blk : Int)) ∧ W'.cell? ⟨W0.heap.size + 1 + 1, 0, none⟩ = some (.bool false) ∧ W'.frozen? ⟨W0.heap.size + 1 + 1, 0, none⟩ = false ∧ W'.heap[W0.heap.size + 1 + 1]? = some (.cells #[.bool false] 4 (0, 0))) := fun W' hW => by
      have hz := hW.tag0 4 _ _ _ g3
      exact ⟨cell_touch c0 hW, cell_touch c1 hW, cell_touch b2 hW, by simp [World.frozen?, hz], hz⟩
    have HR1 : Hid (∀ W', Touch [] W1 W' → RowAt W' (.slice vo rows[i].length vcap) rows[i]) := fun W' hW => RowAt.touch hr1 hW
    have G3 : Hid (W1.heap[W0.heap.size + 1 + 1]? = some (.cells #[.bool false] 4 (0, 0))) := g3
    clear hQ hr1 g3
    gi_cut [] from 14 (fun wx => Touch [W0.heap.size + 1 + 1] W1 wx ∧ wx.heap[W0.heap.size + 1 + 1]? = some (.cells #[.bool false] 4 (0, 0)))
    case first =>
      gi_region_with_o (refine ⟨trivial, rfl, ?_⟩; gi_at_call 141; refine (CallsIn.inRound _ (callsIn_wide.2 (HSZ.out _ (HR1.out _ ((Touch.refl [] _).drew))))).mono ?_; rintro e w1 ⟨rfl, hT1⟩; obtain ⟨z1, z2, z3, z4, z5⟩ := HK.out w1 (((Touch.refl [] _).drew).trans hT1))
      all_goals
        gi_wp2
        gi_meet
        case rel =>
          refine ⟨((((Touch.refl [] _).drew).trans hT1).mono (by simp)).trans ((Touch.refl [W0.heap.size + 1 + 1] w1).setCell (p := ⟨W0.heap.size + 1 + 1, 0, none⟩) (by simp) _), ?_⟩
          rw [heap_setCell_same w1 (W0.heap.size + 1 + 1) 0 _ 4 _ z5]
          simp
          omega
    case rest =>
      obtain ⟨tc, gc⟩ := hcut
      have kt : ∀ t, (4 : TypeId) ≠ t → KeepTag t W1 wc := fun t ht => tc.tag (notag_of G3.out ht)
      have hoddc : ∀ (k : Nat) (ob : Obj), W1.heap[k]? = some ob → Odd ob → wc.heap[k]? = some ob := fun k ob e ho => by
        rw [tc.block k (Array.getElem?_eq_some_iff.1 e).1 (fun hk => by rw [List.mem_singleton.1 hk, G3.out] at e; cases e; exact ho.1 _ _ _ rfl)]
        exact e
      have ho2 : OwnN W0.heap.size W1 wc := OwnN.one tc (by omega)
      have hBx : ChkBox wc W0.heap.size l (i + 1) := ⟨kt 206 (by decide) _ _ _ g1, kt 3 (by decide) _ _ _ g2, gc⟩
      have hCx := h3'.keep (fun t ht => kt t (fun e => by subst e; simp at ht))
      have hJc := hJ _ _ _ h1 (hh1.trans ho2)
      have k83c := k83.trans (kt 83 (by decide))
      have hodd2 : ∀ (k : Nat) (ob : Obj), W.heap[k]? = some ob → Odd ob → wc.heap[k]? = some ob := fun k ob e ho => hoddc k ob (hodd1 k ob e ho) ho
      have hsc : W.heap.size ≤ wc.heap.size := Nat.le_trans hs1 tc.size
      clear b0 b1 b2 f2 c0 c1 HK HR1 hh1 ho2 hodd1 hoddc kt tc k83 h3' h3 h2 g1 g2 G3 hs1
      have b0 := boxOne hBx.y
      have b2 : wc.cell? ⟨W0.heap.size + 1 + 1, 0, none⟩ = some (.bool false) := boxOne hBx.g
      obtain ⟨fn, tmps, assign, body, hy, hR⟩ := hY i (.slice vo rows[i].length vcap) (i + 1) wc hJc ⟨hv, rfl⟩
      gi_wp2
      refine ⟨rfl, hR.mono ?_⟩
      rintro e W5 ⟨rfl, hJ5, hG5⟩
      gi_wp2
      refine ⟨fun k ob e ho hk => ?_, k83c.trans (hG5.cells 83 (by decide)), hJ5, hBx.keep (fun t ht => hG5.cells t (by simp only [List.mem_cons, List.not_mem_nil, or_false] at ht; rcases ht with rfl | rfl | rfl <;> decide)), hCx.keep (fun t ht => hG5.cells t (by simp only [List.mem_cons, List.not_mem_nil, or_false] at ht; rcases ht with rfl | rfl | rfl | rfl | rfl | rfl <;> decide)), Nat.le_trans h4 (Nat.le_trans hsc hG5.size)⟩
      have hodd : Odd ob := by rcases ho with ⟨r, rfl⟩ | ⟨ds, rfl⟩; exact odd_loop r; exact odd_deferred ds
      exact hG5.others k ob (by omega) (hodd2 k ob e hodd) hodd
  case done =>
    rintro i W r r' rfl ⟨h1, h2, h3, h4⟩ hl hk
    have h1' := hJ _ _ _ h1 (OwnN.one (Touch.putObj (wa.heap.size + 1) (.loop r')) (by omega))
    have h2' : (W.putObj (wa.heap.size + 1) (.loop r')).heap[W0.heap.size + 1 + 1]? = some (.cells #[.bool false] 4 (0, 0)) := (OwnS.putObj (T := []) (lo := 0) (B := W0.heap.size) (ob' := .loop r') hl (odd_loop r) (by omega) (Nat.zero_le _)).cells 4 (by simp) (by decide) _ _ _ h2.g
    have hk1 : (W.putObj (wa.heap.size + 1) (.loop r')).heap[wa.heap.size]? = some (.deferred (some [])) := (World.putObj_heap_other (by omega)).trans hk
    generalize W.putObj (wa.heap.size + 1) (.loop r') = W2 at *
    clear h1 h2 h3 h4 hl hk
    have b2 := boxOne h2'
    have h1'' := hJ _ _ _ h1' (OwnN.one (Touch.putObj wa.heap.size (.deferred none)) (by omega))
    go_wp2
    refine ⟨by simp, .inl ⟨_, _, rfl, run_takeDeferred hk1, ?_⟩⟩
    exact ⟨_, results_none rfl _ _ _, ⟨_, rfl⟩, vs.length, rfl, h1''⟩
end Go.Proofs.YtjoinhljdbljaaaGreat
