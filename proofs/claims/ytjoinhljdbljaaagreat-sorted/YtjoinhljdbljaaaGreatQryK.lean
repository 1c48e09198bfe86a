/- A plan of a scan and a sort: the walks of waits, giveBack, Answer. -/
import Derived.Test.YtjoinhljdbljaaaGreatQryIToQryJ
namespace Go.Proofs.YtjoinhljdbljaaaGreat
open Go.RowKit
attribute [local go_sem] Oper.semAt_some

/-- The plan: a scan of a table, and a sort of it. -/
def planCells (name : ByteArray) (kv : Value) : Array Value := #[.int .i64 1, .int .i64 0, .int .i64 0, .string name, .slice none 0 0, .int .i64 0, .slice none 0 0, .slice none 0 0, .slice none 0 0, .int .i64 2, .int .i64 0, .int .i64 0, .string ⟨#[]⟩, kv, .int .i64 0, .slice none 0 0, .slice none 0 0, .slice none 0 0]
def PlanAt (w : World) (gp : Nat) (name : ByteArray) (kv : Value) : Prop := w.heap[gp]? = some (.cells (planCells name kv) 79 (0, 0))
theorem PlanAt.keep {w w' : World} {gp : Nat} {name : ByteArray} {kv : Value} (h : PlanAt w gp name kv) (k : KeepTag 79 w w') : PlanAt w' gp name kv := k _ _ _ h
theorem PlanAt.cell {w : World} {gp : Nat} {name : ByteArray} {kv : Value} (h : PlanAt w gp name kv) (i : Nat) (v : Value) (hv : (planCells name kv)[i]? = some v) : w.cell? ⟨gp, i, none⟩ = some v := by
  unfold PlanAt at h
  simp only [World.cell?, h]
  exact hv

set_option maxRecDepth 20000 in
set_option maxHeartbeats 1000000 in
theorem waits_any (w : World) (gp : Nat) (name : ByteArray) (kv : Value) (i : Nat) (hi : i = 0 ∨ i = 1) (h : PlanAt w gp name kv) : Calls Tryz.prog 80 #[.slice (some ⟨gp, 0, none⟩) 2 2, .int .i64 (i : Int)] w fun e w' => e = .returned (.bool false) ∧ w' = w := by
  have p0 := h.cell 0 (.int .i64 1) rfl
  clear h
  rcases hi with rfl | rfl
  · go_enter Tryz.func80, Tryz.ntmps80
    go_wp2
    go_ret
    exact ⟨rfl, rfl⟩
  · go_enter Tryz.func80, Tryz.ntmps80
    go_wp2
    go_ret
    exact ⟨rfl, rfl⟩

set_option maxRecDepth 20000 in
set_option maxHeartbeats 1000000 in
theorem giveBack_none (w : World) (q : Nat) (c0 c1 c2 c3 c4 : Value) (u : FrameMode) (h : w.heap[q]? = some (.cells #[c0, c1, c2, c3, c4, .slice none 0 0] 162 (0, 0))) : CallsD Tryz.prog 78 #[.pointer (some ⟨q, 0, none⟩)] u w fun e u' w' => u' = u ∧ e = .returned (.tuple #[]) ∧ w' = w := by
  have d5 : w.cell? ⟨q, 5, none⟩ = some (.slice none 0 0) := by simp [World.cell?, h]
  clear h
  go_enter_d Tryz.func78, Tryz.ntmps78
  go_wp2
  refine wp_loop_rounds 1 ?_
  rw [rounds_succ]
  go_wp2
  first | go_end0 | refine bodyPost_ret (results_none rfl _ _ _) rfl ?_
  exact ⟨rfl, rfl⟩

theorem make163 (W : World) : (Instr.makeSlice 163 (.int .i64 2) (.int .i64 2)).run Tryz.prog W = .ok (.slice (some ⟨W.heap.size, 0, none⟩) 2 2) (W.alloc (.cells #[.int .i64 0, .nilFunc, .int .i64 0, .nilFunc] 167)) := by kernel_rfl

/-- A table to be sorted, with room on a disk. -/
structure AskCtx (w : World) (gp : Nat) (tv sv kv : Value) (name : ByteArray) (ko : Option Addr) (kn kc : Nat) (bx bm blk fan bud cols : Nat) (ks : List K) (vs : List Value) (rows : List (List V)) (d : DS) (M : List PF) : Prop where
  plan : PlanAt w gp name kv
  tab : TabAt w tv name (.slice ko kn kc) sv
  keys : KeysAt w kv ks
  list : LAt w sv vs
  len : vs.length = rows.length
  rowsAt : ∀ i (h : i < vs.length) (h' : i < rows.length), RowAt w vs[i] rows[i]
  pd : PD w bx bm d M
  ok : DiskOK d
  oks : RowsOK blk cols ks rows
  b1 : 16 ≤ blk
  b2 : blk ≤ 4096
  b3 : (blk : Int) ≤ d.block
  c1 : 1 ≤ cols
  c2 : cols ≤ 1000
  bud1 : 4 * blk ≤ bud
  bud2 : bud ≤ 9223372036854775807
  fan1 : 2 ≤ fan
  fan2 : fan ≤ 1000000
  few : rows.length ≤ 20000
  hi : Hi bm (diskF bx bm M)
theorem AskCtx.quiet {w w' : World} {gp : Nat} {tv sv kv : Value} {name : ByteArray} {ko : Option Addr} {kn kc : Nat} {bx bm blk fan bud cols : Nat} {ks : List K} {vs : List Value} {rows : List (List V)} {d : DS} {M : List PF} (h : AskCtx w gp tv sv kv name ko kn kc bx bm blk fan bud cols ks vs rows d M) (t : Touch [] w w') : AskCtx w' gp tv sv kv name ko kn kc bx bm blk fan bud cols ks vs rows d M :=
  { h with plan := h.plan.keep (t.tag0 _), tab := h.tab.keep (t.tag0 _), keys := h.keys.touch t, list := h.list.keep (t.tag0 _), rowsAt := fun i a b => (h.rowsAt i a b).touch t, pd := h.pd.away t (by simp) }

set_option maxRecDepth 20000 in
set_option maxHeartbeats 4000000 in
theorem answer_any (w : World) (gp : Nat) (tv sv : Value) (kl kc2 : Nat) (kvo : Option Addr) (name : ByteArray) (ko : Option Addr) (kn kc : Nat) (bx bm blk fan bud cols : Nat) (ks : List K) (vs : List Value) (rows : List (List V)) (d : DS) (M : List PF) (P m j j2 : Nat) (h : AskCtx w gp tv sv (.slice kvo kl kc2) name ko kn kc bx bm blk fan bud cols ks vs rows d M) (hl : Left d (2 * rows.length + ((P * (rows.length + 1) + m) + 1)) (rows.length + j)) (hP : 1000000000 ≤ P + j) (hPj : P + j2 ≤ j) (hPs : P ≤ 900000) :
    Calls Tryz.prog 59 #[tv, .slice (some ⟨gp, 0, none⟩) 2 2, .agg #[.int .i64 (blk : Int), .int .i64 (fan : Int), .int .i64 (bud : Int)], .pointer (some ⟨bx, 0, none⟩)] w fun e w' => ∃ lv out, e = .returned lv ∧ out.Perm (recsOf rows) ∧ Srt ks out ∧ (∃ vs', LOwn w' lv vs' ∧ vs'.length = out.length ∧ ∀ i (_ : i < vs'.length) (_ : i < out.length), RowAt w' vs'[i] out[i].row) ∧ (∃ d' M', RunsSt w' bx bm blk cols d' M' [] none ∧ Left d' m j2) ∧ Kept bm w w' := by
  have htv : ∃ o n c, tv = .slice o n c := by
    obtain ⟨g, o, cap, cs, e, _⟩ := h.tab.st
    exact ⟨_, _, _, e⟩
  obtain ⟨tO, tn, tc, rfl⟩ := htv
  have HH : Hid (AskCtx w gp (.slice tO tn tc) sv (.slice kvo kl kc2) name ko kn kc bx bm blk fan bud cols ks vs rows d M) := h
  have HL : Hid (Left d (2 * rows.length + ((P * (rows.length + 1) + m) + 1)) (rows.length + j)) := hl
  have hgp := (Array.getElem?_eq_some_iff.1 h.plan).1
  clear h hl
  have hmk := make163
  go_enter_defers Tryz.func59, Tryz.ntmps59
  go_wp2
  have tA : Touch [] w (((w.alloc (.cells #[.int .i64 (blk : Int), .int .i64 (fan : Int), .int .i64 (bud : Int)] 51)).alloc (.cells #[.slice tO tn tc, .int .i64 (blk : Int), .int .i64 (fan : Int), .int .i64 (bud : Int), .pointer (some ⟨bx, 0, none⟩), .slice none 0 0] 162)).alloc (.cells #[.int .i64 0, .nilFunc, .int .i64 0, .nilFunc] 167)) := (((Touch.refl [] w).alloc _).alloc _).alloc _
  have hQ : (((w.alloc (.cells #[.int .i64 (blk : Int), .int .i64 (fan : Int), .int .i64 (bud : Int)] 51)).alloc (.cells #[.slice tO tn tc, .int .i64 (blk : Int), .int .i64 (fan : Int), .int .i64 (bud : Int), .pointer (some ⟨bx, 0, none⟩), .slice none 0 0] 162)).alloc (.cells #[.int .i64 0, .nilFunc, .int .i64 0, .nilFunc] 167)).heap[w.heap.size + 1]? = some (.cells #[.slice tO tn tc, .int .i64 (blk : Int), .int .i64 (fan : Int), .int .i64 (bud : Int), .pointer (some ⟨bx, 0, none⟩), .slice none 0 0] 162 (0, 0)) := (Below.heap_alloc _ _ _ (by simp only [World.size_alloc]; omega)).trans (new2 _ _ _)
  have hG : (((w.alloc (.cells #[.int .i64 (blk : Int), .int .i64 (fan : Int), .int .i64 (bud : Int)] 51)).alloc (.cells #[.slice tO tn tc, .int .i64 (blk : Int), .int .i64 (fan : Int), .int .i64 (bud : Int), .pointer (some ⟨bx, 0, none⟩), .slice none 0 0] 162)).alloc (.cells #[.int .i64 0, .nilFunc, .int .i64 0, .nilFunc] 167)).heap[w.heap.size + 1 + 1]? = some (.cells #[.int .i64 0, .nilFunc, .int .i64 0, .nilFunc] 167 (0, 0)) := by
    have e1 := heap_alloc_new ((w.alloc (.cells #[.int .i64 (blk : Int), .int .i64 (fan : Int), .int .i64 (bud : Int)] 51)).alloc (.cells #[.slice tO tn tc, .int .i64 (blk : Int), .int .i64 (fan : Int), .int .i64 (bud : Int), .pointer (some ⟨bx, 0, none⟩), .slice none 0 0] 162)) (.cells #[.int .i64 0, .nilFunc, .int .i64 0, .nilFunc] 167)
    rw [World.size_alloc, World.size_alloc] at e1
    exact e1
  have hsz : w.heap.size + 3 ≤ (((w.alloc (.cells #[.int .i64 (blk : Int), .int .i64 (fan : Int), .int .i64 (bud : Int)] 51)).alloc (.cells #[.slice tO tn tc, .int .i64 (blk : Int), .int .i64 (fan : Int), .int .i64 (bud : Int), .pointer (some ⟨bx, 0, none⟩), .slice none 0 0] 162)).alloc (.cells #[.int .i64 0, .nilFunc, .int .i64 0, .nilFunc] 167)).heap.size := by simp
  generalize ((w.alloc (.cells #[.int .i64 (blk : Int), .int .i64 (fan : Int), .int .i64 (bud : Int)] 51)).alloc (.cells #[.slice tO tn tc, .int .i64 (blk : Int), .int .i64 (fan : Int), .int .i64 (bud : Int), .pointer (some ⟨bx, 0, none⟩), .slice none 0 0] 162)).alloc (.cells #[.int .i64 0, .nilFunc, .int .i64 0, .nilFunc] 167) = wa at *
  have hP0 := HH.out.plan.keep (tA.tag0 79)
  have p0 : wa.cell? ⟨gp, 0, none⟩ = some (.int .i64 1) := hP0.cell 0 _ rfl
  have p1 : wa.cell? ⟨gp, 1, none⟩ = some (.int .i64 0) := hP0.cell 1 _ rfl
  have p2 : wa.cell? ⟨gp, 2, none⟩ = some (.int .i64 0) := hP0.cell 2 _ rfl
  have p3 : wa.cell? ⟨gp, 3, none⟩ = some (.string name) := hP0.cell 3 _ rfl
  have p4 : wa.cell? ⟨gp, 4, none⟩ = some (.slice none 0 0) := hP0.cell 4 _ rfl
  have p5 : wa.cell? ⟨gp, 5, none⟩ = some (.int .i64 0) := hP0.cell 5 _ rfl
  have p6 : wa.cell? ⟨gp, 6, none⟩ = some (.slice none 0 0) := hP0.cell 6 _ rfl
  have p7 : wa.cell? ⟨gp, 7, none⟩ = some (.slice none 0 0) := hP0.cell 7 _ rfl
  have p8 : wa.cell? ⟨gp, 8, none⟩ = some (.slice none 0 0) := hP0.cell 8 _ rfl
  have hgw : gp < wa.heap.size := by omega
  have HRS : Hid (∀ W, Touch [] wa W → Calls Tryz.prog 79 #[.pointer (some ⟨w.heap.size + 1, 0, none⟩), .agg #[.int .i64 1, .int .i64 0, .int .i64 0, .string name, .slice none 0 0, .int .i64 0, .slice none 0 0, .slice none 0 0, .slice none 0 0], .slice (some ⟨w.heap.size + 1 + 1, 0, none⟩) 2 2] W fun e w' => ∃ b, e = .returned (.agg #[.int .i64 (kn : Int), .func (.func 162) #[] #[.pointer (some ⟨b, 0, none⟩)]]) ∧ w'.heap[b]? = some (.cells #[sv] 36 (0, 0)) ∧ Touch [] W w') := fun W hW => by
    have hA := HH.out.quiet (tA.trans hW)
    exact resultScan_any W (w.heap.size + 1) (w.heap.size + 1 + 1) (.slice tO tn tc) (.slice none 0 0) bx blk fan bud name kn kc ko sv vs rows _ _ (hW.tag0 _ _ _ _ hQ) hA.tab hA.list hA.len hA.rowsAt (fun r hr v hv => by
      obtain ⟨i, hi, rfl⟩ := List.getElem_of_mem hr
      exact (hA.oks.ok i hi).fair v hv) (fun r hr => by
      obtain ⟨i, hi, rfl⟩ := List.getElem_of_mem hr
      have e1 := (hA.oks.ok i hi).size
      have e2 := (hA.oks.ok i hi).len
      have e3 := hA.c2
      simp only at e1 e2
      exact ⟨e1, by omega⟩) hA.b2 hA.few (hW.tag0 _ _ _ _ hG)
  refine wp_loop_rounds 3 ?_
  rw [rounds_succ]
  go_wp2_with (go_at_call 79; refine (HRS.out _ ((Touch.refl [] _).alloc _)).mono ?_; rintro e w2 ⟨b, rfl, hb, t2⟩; have hG2 := (((Touch.refl [] _).alloc _).trans t2).tag0 167 _ _ _ hG; have y0 : w2.cell? ⟨w.heap.size + 1 + 1, 0, none⟩ = some (.int .i64 0) := (by simp [World.cell?, hG2]); have y1 : w2.cell? ⟨w.heap.size + 1 + 1, 1, none⟩ = some .nilFunc := (by simp [World.cell?, hG2]); have g0 : w2.frozen? ⟨w.heap.size + 1 + 1, 0, none⟩ = false := (by simp [World.frozen?, hG2]); have g1 : w2.frozen? ⟨w.heap.size + 1 + 1, 1, none⟩ = false := (by simp [World.frozen?, hG2]))
  have t23 : Touch [w.heap.size + 1 + 1] w2 ((w2.setCell ⟨w.heap.size + 1 + 1, 0, none⟩ (.int .i64 (kn : Int))).setCell ⟨w.heap.size + 1 + 1, 1, none⟩ (.func (.func 162) #[] #[.pointer (some ⟨b, 0, none⟩)])) := ((Touch.refl [w.heap.size + 1 + 1] w2).setCell (p := ⟨w.heap.size + 1 + 1, 0, none⟩) (by simp) _).setCell (p := ⟨w.heap.size + 1 + 1, 1, none⟩) (by simp) _
  have hG3 : ((w2.setCell ⟨w.heap.size + 1 + 1, 0, none⟩ (.int .i64 (kn : Int))).setCell ⟨w.heap.size + 1 + 1, 1, none⟩ (.func (.func 162) #[] #[.pointer (some ⟨b, 0, none⟩)])).heap[w.heap.size + 1 + 1]? = some (.cells #[.int .i64 (kn : Int), .func (.func 162) #[] #[.pointer (some ⟨b, 0, none⟩)], .int .i64 0, .nilFunc] 167 (0, 0)) := by
    rw [heap_setCell_same _ (w.heap.size + 1 + 1) 1 _ 167 _ (heap_setCell_same w2 (w.heap.size + 1 + 1) 0 _ 167 _ hG2)]; simp
  have ta2 : Touch [] wa w2 := ((Touch.refl [] _).alloc _).trans t2
  have k23 : ∀ t, (167 : TypeId) ≠ t → KeepTag t w2 ((w2.setCell ⟨w.heap.size + 1 + 1, 0, none⟩ (.int .i64 (kn : Int))).setCell ⟨w.heap.size + 1 + 1, 1, none⟩ (.func (.func 162) #[] #[.pointer (some ⟨b, 0, none⟩)])) := fun t ht => t23.tag (notag_of hG2 ht)
  have tw3 : Touch [] w ((w2.setCell ⟨w.heap.size + 1 + 1, 0, none⟩ (.int .i64 (kn : Int))).setCell ⟨w.heap.size + 1 + 1, 1, none⟩ (.func (.func 162) #[] #[.pointer (some ⟨b, 0, none⟩)])) := (tA.trans ta2).more t23 (fun i hi => .inr (by rw [List.mem_singleton.1 hi]; omega))
  have hQ3 := k23 162 (by decide) _ _ _ (ta2.tag0 162 _ _ _ hQ)
  have hb3 := k23 36 (by decide) _ _ _ hb
  have hsz3 := tw3.size
  clear y0 y1 g0 g1 p0 p1 p2 p3 p4 p5 p6 p7 p8 hG2 t23 k23 t2 hb HRS hQ hG hP0 ta2
  generalize (w2.setCell ⟨w.heap.size + 1 + 1, 0, none⟩ (.int .i64 (kn : Int))).setCell ⟨w.heap.size + 1 + 1, 1, none⟩ (.func (.func 162) #[] #[.pointer (some ⟨b, 0, none⟩)]) = w3 at *
  have hP3 := HH.out.plan.keep (tw3.tag0 79)
  have hwt := waits_any w3 gp name (.slice kvo kl kc2) 0 (.inl rfl) hP3
  refine hwt.mono ?_
  rintro e w3' ⟨rfl, hw3⟩
  rw [hw3]
  clear hw3 w3' hwt
  go_wp2
  have p9 : w3.cell? ⟨gp, 9, none⟩ = some (.int .i64 2) := hP3.cell 9 _ rfl
  have p10 : w3.cell? ⟨gp, 10, none⟩ = some (.int .i64 0) := hP3.cell 10 _ rfl
  have p11 : w3.cell? ⟨gp, 11, none⟩ = some (.int .i64 0) := hP3.cell 11 _ rfl
  have p12 : w3.cell? ⟨gp, 12, none⟩ = some (.string ⟨#[]⟩) := hP3.cell 12 _ rfl
  have p13 : w3.cell? ⟨gp, 13, none⟩ = some (.slice kvo kl kc2) := hP3.cell 13 _ rfl
  have p14 : w3.cell? ⟨gp, 14, none⟩ = some (.int .i64 0) := hP3.cell 14 _ rfl
  have p15 : w3.cell? ⟨gp, 15, none⟩ = some (.slice none 0 0) := hP3.cell 15 _ rfl
  have p16 : w3.cell? ⟨gp, 16, none⟩ = some (.slice none 0 0) := hP3.cell 16 _ rfl
  have p17 : w3.cell? ⟨gp, 17, none⟩ = some (.slice none 0 0) := hP3.cell 17 _ rfl
  have HRT : Hid (∀ W, Touch [] w3 W → Calls Tryz.prog 79 #[.pointer (some ⟨w.heap.size + 1, 0, none⟩), .agg #[.int .i64 2, .int .i64 0, .int .i64 0, .string ⟨#[]⟩, .slice kvo kl kc2, .int .i64 0, .slice none 0 0, .slice none 0 0, .slice none 0 0], .slice (some ⟨w.heap.size + 1 + 1, 0, none⟩) 2 2] W fun e w' => ∃ bq bk bc bl, e = .returned (.agg #[.int .i64 (kn : Int), .func (.func 132) #[] #[.pointer (some ⟨bq, 0, none⟩), .pointer (some ⟨bk, 0, none⟩), .pointer (some ⟨bc, 0, none⟩), .pointer (some ⟨bl, 0, none⟩)]]) ∧ w'.heap[bq]? = some (.cells #[.pointer (some ⟨w.heap.size + 1, 0, none⟩)] 159 (0, 0)) ∧ w'.heap[bl]? = some (.cells #[.func (.func 162) #[] #[.pointer (some ⟨b, 0, none⟩)]] 165 (0, 0)) ∧ w'.heap[bk]? = some (.cells #[.slice kvo kl kc2] 74 (0, 0)) ∧ w'.heap[bc]? = some (.cells #[.int .i64 (20000 : Int)] 3 (0, 0)) ∧ Touch [] W w') := fun W hW => resultSort_any W (w.heap.size + 1) (w.heap.size + 1 + 1) b kn kvo kl kc2 _ _ (hW.tag0 _ _ _ _ hG3)
  have hg3 : gp < w3.heap.size := by omega
  rw [rounds_succ]
  go_wp2_with (go_at_call 79; refine (HRT.out _ ((Touch.refl [] _).alloc _)).mono ?_; rintro e w4 ⟨bq, bk, bc, bl, rfl, z1, z2, z3, z4, t4⟩; have hG4 := (((Touch.refl [] _).alloc _).trans t4).tag0 167 _ _ _ hG3; have y0 : w4.cell? ⟨w.heap.size + 1 + 1, 2, none⟩ = some (.int .i64 0) := (by simp [World.cell?, hG4]); have y1 : w4.cell? ⟨w.heap.size + 1 + 1, 3, none⟩ = some .nilFunc := (by simp [World.cell?, hG4]); have g0 : w4.frozen? ⟨w.heap.size + 1 + 1, 2, none⟩ = false := (by simp [World.frozen?, hG4]); have g1 : w4.frozen? ⟨w.heap.size + 1 + 1, 3, none⟩ = false := (by simp [World.frozen?, hG4]))
  have t45 : Touch [w.heap.size + 1 + 1] w4 ((w4.setCell ⟨w.heap.size + 1 + 1, 2, none⟩ (.int .i64 (kn : Int))).setCell ⟨w.heap.size + 1 + 1, 3, none⟩ (.func (.func 132) #[] #[.pointer (some ⟨bq, 0, none⟩), .pointer (some ⟨bk, 0, none⟩), .pointer (some ⟨bc, 0, none⟩), .pointer (some ⟨bl, 0, none⟩)])) := ((Touch.refl [w.heap.size + 1 + 1] w4).setCell (p := ⟨w.heap.size + 1 + 1, 2, none⟩) (by simp) _).setCell (p := ⟨w.heap.size + 1 + 1, 3, none⟩) (by simp) _
  have hG5 : ((w4.setCell ⟨w.heap.size + 1 + 1, 2, none⟩ (.int .i64 (kn : Int))).setCell ⟨w.heap.size + 1 + 1, 3, none⟩ (.func (.func 132) #[] #[.pointer (some ⟨bq, 0, none⟩), .pointer (some ⟨bk, 0, none⟩), .pointer (some ⟨bc, 0, none⟩), .pointer (some ⟨bl, 0, none⟩)])).heap[w.heap.size + 1 + 1]? = some (.cells #[.int .i64 (kn : Int), .func (.func 162) #[] #[.pointer (some ⟨b, 0, none⟩)], .int .i64 (kn : Int), .func (.func 132) #[] #[.pointer (some ⟨bq, 0, none⟩), .pointer (some ⟨bk, 0, none⟩), .pointer (some ⟨bc, 0, none⟩), .pointer (some ⟨bl, 0, none⟩)]] 167 (0, 0)) := by
    rw [heap_setCell_same _ (w.heap.size + 1 + 1) 3 _ 167 _ (heap_setCell_same w4 (w.heap.size + 1 + 1) 2 _ 167 _ hG4)]; simp
  have ta4 : Touch [] w3 w4 := ((Touch.refl [] _).alloc _).trans t4
  have k45 : ∀ t, (167 : TypeId) ≠ t → KeepTag t w4 ((w4.setCell ⟨w.heap.size + 1 + 1, 2, none⟩ (.int .i64 (kn : Int))).setCell ⟨w.heap.size + 1 + 1, 3, none⟩ (.func (.func 132) #[] #[.pointer (some ⟨bq, 0, none⟩), .pointer (some ⟨bk, 0, none⟩), .pointer (some ⟨bc, 0, none⟩), .pointer (some ⟨bl, 0, none⟩)])) := fun t ht => t45.tag (notag_of hG4 ht)
  have tw5 : Touch [] w ((w4.setCell ⟨w.heap.size + 1 + 1, 2, none⟩ (.int .i64 (kn : Int))).setCell ⟨w.heap.size + 1 + 1, 3, none⟩ (.func (.func 132) #[] #[.pointer (some ⟨bq, 0, none⟩), .pointer (some ⟨bk, 0, none⟩), .pointer (some ⟨bc, 0, none⟩), .pointer (some ⟨bl, 0, none⟩)])) := (tw3.trans ta4).more t45 (fun i hi => .inr (by rw [List.mem_singleton.1 hi]; omega))
  have hQ5 := k45 162 (by decide) _ _ _ (ta4.tag0 162 _ _ _ hQ3)
  have hb5 := k45 36 (by decide) _ _ _ (ta4.tag0 36 _ _ _ hb3)
  have u1 := k45 159 (by decide) _ _ _ z1
  have u2 := k45 165 (by decide) _ _ _ z2
  have u3 := k45 74 (by decide) _ _ _ z3
  have u4 := k45 3 (by decide) _ _ _ z4
  clear y0 y1 g0 g1 p9 p10 p11 p12 p13 p14 p15 p16 p17 hG4 t45 k45 t4 HRT hQ3 hG3 ta4 z1 z2 z3 z4 hb3 hP3
  generalize (w4.setCell ⟨w.heap.size + 1 + 1, 2, none⟩ (.int .i64 (kn : Int))).setCell ⟨w.heap.size + 1 + 1, 3, none⟩ (.func (.func 132) #[] #[.pointer (some ⟨bq, 0, none⟩), .pointer (some ⟨bk, 0, none⟩), .pointer (some ⟨bc, 0, none⟩), .pointer (some ⟨bl, 0, none⟩)]) = w5 at *
  have hP5 := HH.out.plan.keep (tw5.tag0 79)
  have hwt := waits_any w5 gp name (.slice kvo kl kc2) 1 (.inr rfl) hP5
  refine hwt.mono ?_
  rintro e w5' ⟨rfl, hw5⟩
  rw [hw5]
  clear hw5 w5' hwt
  go_wp2
  rw [rounds_succ]
  have v3 : w5.cell? ⟨w.heap.size + 1 + 1, 3, none⟩ = some (.func (.func 132) #[] #[.pointer (some ⟨bq, 0, none⟩), .pointer (some ⟨bk, 0, none⟩), .pointer (some ⟨bc, 0, none⟩), .pointer (some ⟨bl, 0, none⟩)]) := by simp [World.cell?, hG5]
  have hA5 := HH.out.quiet tw5
  have hctx : SrtCtx w5 bq bk bc bl b (w.heap.size + 1) (.slice tO tn tc) (.slice none 0 0) (.slice kvo kl kc2) sv bx bm blk fan bud 20000 cols ks vs rows d M := ⟨u1, hQ5, u3, hA5.keys, u4, u2, hb5, hA5.list, hA5.len, hA5.rowsAt, hA5.pd, hA5.ok, hA5.oks, hA5.b1, hA5.b2, hA5.b3, hA5.c1, hA5.c2, hA5.bud1, hA5.bud2, hA5.fan1, hA5.fan2, by have := hA5.few; omega, hA5.few, hA5.hi⟩
  have hcp := copied_any w5 bq bk bc bl b (w.heap.size + 1) (.slice tO tn tc) (.slice none 0 0) (.slice kvo kl kc2) sv bx bm blk fan bud 20000 cols ks vs rows d M P m j j2 hctx HL.out hP hPj hPs
  go_wp2_with (go_at_call 82; refine hcp.mono ?_; rintro e w6 ⟨lv, out, rfl, x1, x2, x3, x4, x5⟩)
  have hQ6 := x5.2 162 (by decide) (by decide) _ _ _ hQ5
  refine leaves_cons (f := 78) (args := #[.pointer (some ⟨w.heap.size + 1, 0, none⟩)]) (by simp) (by simp [go_sem]) ?_
  refine (giveBack_none w6 (w.heap.size + 1) _ _ _ _ _ .returning hQ6).mono ?_
  rintro e u' w7 ⟨rfl, rfl, hw7⟩
  rw [hw7]
  exact ⟨_, results_tmp rfl _ _ _, lv, out, rfl, x1, x2, x3, x4, tw5.kept.trans x5⟩
end Go.Proofs.YtjoinhljdbljaaaGreat
