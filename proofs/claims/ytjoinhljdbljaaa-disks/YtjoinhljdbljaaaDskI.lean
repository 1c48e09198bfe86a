/- The walks of the document's disk that make and lengthen: NewDisk, Create. -/
import Derived.Test.YtjoinhljdbljaaaDskG
import Derived.Test.YtjoinhljdbljaaaDskD
namespace Go.Proofs.Ytjoinhljdbljaaa
open Go.RowKit
open Go.ChangeMaps (setBlock)

theorem info131 : (Try.prog.info? 131).map (fun i => (i.zero, i.size, i.bytes)) = some (some (.agg #[.int .i64 0, .slice none 0 0]), 2, 32) := by kernel_rfl

theorem makeFaults (w : World) : (Instr.makeSlice 70 (.int .i64 4) (.int .i64 4)).run Try.prog w = .ok (.slice (some ⟨w.heap.size, 0, none⟩) 4 4) (w.alloc (.cells #[.int .i64 0, .int .i64 0, .int .i64 0, .int .i64 0] 3)) := by kernel_rfl

set_option maxHeartbeats 1000000 in
theorem rnew (b n : Int) (w : World) : Calls Try.prog 7 #[.int .i64 b, .int .i64 n] w fun e w' => e = .returned (.pointer (some ⟨w.heap.size + 1, 0, none⟩)) ∧ RD w' (w.heap.size + 1) w.heap.size (.slice none 0 0) (newS b n) [] ∧ Touch [] w w' := by
  have hmk := makeFaults
  have HF : Hid (∀ d : DS, d.files = [] → d.f1 = 0 → d.f2 = 0 → d.f3 = 0 → RD ((w.alloc (.cells #[.int .i64 0, .int .i64 0, .int .i64 0, .int .i64 0] 3)).alloc (.cells (RC d (.slice none 0 0) w.heap.size) 73)) (w.heap.size + 1) w.heap.size (.slice none 0 0) d []) := fun d hf e1 e2 e3 => by
    refine ⟨?_, ?_, World.ownsRow_nil _ _ _ _, hf, fun _ h => by simp at h, by simp [rowsOf, Value.ownBlock]⟩
    · have := heap_alloc_new (w.alloc (.cells #[.int .i64 0, .int .i64 0, .int .i64 0, .int .i64 0] 3)) (.cells (RC d (.slice none 0 0) w.heap.size) 73)
      simpa using this
    · rw [Below.heap_alloc _ _ _ (by simp)]
      simp only [FC, e1, e2, e3]
      exact heap_alloc_new w _
  have H2 : Hid (∀ a c, max b 1 = a → max n 0 = c → newS b n = { block := a, blocks := c, last := 0, wrote := 0, files := [], f1 := 0, f2 := 0, f3 := 0, bit := 0 }) := fun a c h1 h2 => by unfold newS; rw [h1, h2]
  go_enter Try.func7, Try.ntmps7
  go_wp2
  all_goals go_ret
  all_goals refine ⟨rfl, ?_, ((Touch.refl _ _).alloc _).alloc _⟩
  all_goals
    first
      | (rw [H2.out 1 0 (by omega) (by omega)]; exact HF.out ⟨1, 0, 0, 0, [], 0, 0, 0, 0⟩ rfl rfl rfl rfl)
      | (rw [H2.out 1 n (by omega) (by omega)]; exact HF.out ⟨1, n, 0, 0, [], 0, 0, 0, 0⟩ rfl rfl rfl rfl)
      | (rw [H2.out b 0 (by omega) (by omega)]; exact HF.out ⟨b, 0, 0, 0, [], 0, 0, 0, 0⟩ rfl rfl rfl rfl)
      | (rw [H2.out b n (by omega) (by omega)]; exact HF.out ⟨b, n, 0, 0, [], 0, 0, 0, 0⟩ rfl rfl rfl rfl)

theorem step_frow {ops : Array Oper} {o : Oper} {a : Act} {w : World} {K : Act → World → Prop} {Q : Exit → Act → World → Prop} {E : Prop} (hgd : o.guard = none) (s x : Operand)
    (ho : o.op = .call { callee := .builtin .append, args := #[s, x], argTypes := #[71, 71] }) (v : Value) (n : Nat) (xs : List Value) (hs : a.eval s = v) (hown : w.ownsRow 0 131 2 v n xs)
    (ad : Addr) (c0 c1 : Value) (c : Nat) (hx : a.eval x = .slice (some ad) 1 c) (hnews : ∀ j u, [c0, c1][j]? = some u → w.cell? (ad.add j) = some u) (hone : c0.oneCell' = true ∧ c1.oneCell' = true) (hlen : n ≤ 3000000000000)
    (h : ∀ g cap w', w'.ownsRow 0 131 2 (.slice (some ⟨g, 0, none⟩) (n + 1) cap) (n + 1) (xs ++ [c0, c1]) → w.grownBy w' v.ownBlock → (v.ownBlock = some g ∨ g = w.heap.size) → g < w'.heap.size → K (a.put o.dst (.slice (some ⟨g, 0, none⟩) (n + 1) cap)) w') :
    if Region.wanted o (yielded ops a.tmps) = true then Oper.wp Try.prog o a w K Q else E := by
  obtain ⟨i0, hi, hz0, hz1, hz2⟩ := info_parts info131
  refine step_append_lies w hgd s x 71 ho 0 131 i0 (.agg #[.int .i64 0, .slice none 0 0]) 2 32 Try.underlying71 hi hz0 hz1 hz2 rfl (by decide) v _ _ hs hown ad 1 c [c0, c1] hx (by simp) hnews ?_ (by decide) ?_ ?_ (Nat.zero_le _) _ rfl h
  · intro u hu
    simp only [List.mem_cons, List.not_mem_nil, or_false] at hu
    rcases hu with rfl | rfl
    · exact hone.1
    · exact hone.2
  · unfold maxLen; omega
  · omega

theorem new2 (w : World) (c0 c1 : Value) (t : TypeId) : ∀ j u, [c0, c1][j]? = some u → (w.alloc (.cells #[c0, c1] t)).cell? (Addr.add ⟨w.heap.size, 0, none⟩ j) = some u := by
  intro j u hj
  match j, hj with
  | 0, hj => simp at hj; subst hj; simp [Addr.add]
  | 1, hj => simp at hj; subst hj; simp [Addr.add]

/-- behind the append of a File: the disk's own two blocks are as they were -/
theorem after_frow {w W w4 : World} {bd bf : Nat} {fv : Value} {d : DS} {M : List PF} (h : RD w bd bf fv d M) (hW : Touch [] w W) (hG : W.grownBy w4 fv.ownBlock) :
    w4.heap[bd]? = some (.cells (RC d fv bf) 73 (0, 0)) ∧ w4.heap[bf]? = some (.cells (FC d) 3 (0, 0)) ∧ Touch fv.ownBlock.toList w w4 := by
  have hn := h.nodup
  simp only [List.nodup_cons, List.mem_cons, List.mem_append, not_or] at hn
  have hk : ∀ k, k < w.heap.size → some k ≠ fv.ownBlock → w4.heap[k]? = w.heap[k]? := fun k hk hne => by
    rw [hG.block k (Nat.lt_of_lt_of_le hk hW.size) hne]
    exact hW.block k hk (by simp)
  refine ⟨?_, ?_, ⟨hG.os.trans hW.os, hG.tape.trans hW.tape, hG.output.trans hW.output, Nat.le_trans hW.size hG.size, fun k hk1 hk2 => hk k hk1 (fun e => hk2 (by rw [← e]; simp))⟩⟩
  · rw [hk bd (h.lt bd (by simp)) (fun e => hn.1.2.1 (by rw [← e]; simp))]; exact h.disk
  · rw [hk bf (h.lt bf (by simp)) (fun e => hn.2.1.1 (by rw [← e]; simp))]; exact h.faults

theorem RD.newRow {w w4 F : World} {bd bf : Nat} {fv fv' : Value} {d d' : DS} {M M' : List PF} (h : RD w bd bf fv d M) (hT4 : Touch fv.ownBlock.toList w w4) (hat : ∀ k, fv'.ownBlock = some k → fv.ownBlock = some k ∨ w.heap.size ≤ k)
    (hrow : w4.ownsRow 0 131 2 fv' M'.length (filesRow M')) (hTF : Touch [bd, bf] w4 F) (hd : F.heap[bd]? = some (.cells (RC d' fv' bf) 73 (0, 0))) (hf : F.heap[bf]? = some (.cells (FC d') 3 (0, 0))) (hfiles : d'.files = filesOf M')
    (hM : ∀ m ∈ M', m ∈ M ∨ (m.2.1 = .slice none 0 0 ∧ m.2.2 = [])) (hsub : List.Sublist (rowsOf M') (rowsOf M)) :
    RD F bd bf fv' d' M' ∧ (∀ k ∈ fv'.ownBlock.toList, k ∈ fv.ownBlock.toList ∨ w.heap.size ≤ k) ∧ Touch (bd :: bf :: (fv.ownBlock.toList ++ rowsOf M)) w F := by
  have hn := h.nodup
  have hlt := h.lt
  simp only [List.nodup_cons, List.mem_cons, List.mem_append, not_or] at hn
  have hnn := List.nodup_append.1 hn.2.2
  have hgx : ∀ k, fv'.ownBlock = some k → k ≠ bd ∧ k ≠ bf ∧ k ∉ rowsOf M := by
    intro k hk
    rcases hat k hk with e | e
    · exact ⟨fun e2 => hn.1.2.1 (by rw [← e2]; simp [e]), fun e2 => hn.2.1.1 (by rw [← e2]; simp [e]), fun e2 => hnn.2.2 k (by simp [e]) k e2 rfl⟩
    · have q1 := hlt bd (by simp)
      have q2 := hlt bf (by simp)
      exact ⟨by omega, by omega, fun e2 => by have := hlt k (by simp [e2]); omega⟩
  refine ⟨⟨hd, hf, ownsRow_touch hrow hTF (fun k hk => ?_), hfiles, fun m hm => ?_, ?_⟩, fun k hk => ?_, ?_⟩
  · have := hgx k hk
    simp [this.1, this.2.1]
  · rcases hM m hm with hm' | ⟨e1, e2⟩
    · refine ((h.rows m hm').touch hT4 (fun k hk e => ?_)).touch hTF (fun k hk => ?_)
      · exact hnn.2.2 k e k (mem_rows hm' hk) rfl
      · have := mem_rows hm' hk
        simp only [List.mem_cons, List.not_mem_nil, or_false, not_or]
        exact ⟨fun e => hn.1.2.2 (e ▸ this), fun e => hn.2.1.2 (e ▸ this)⟩
    · obtain ⟨q, v, bs⟩ := m
      simp only at e1 e2
      subst e1 e2
      exact World.ownsRow_nil _ _ _ _
  · simp only [List.nodup_cons, List.mem_cons, List.mem_append, not_or]
    refine ⟨⟨hn.1.1, fun e => (hgx bd (by simpa using e)).1 rfl, fun e => hn.1.2.2 (hsub.subset e)⟩, ⟨fun e => (hgx bf (by simpa using e)).2.1 rfl, fun e => hn.2.1.2 (hsub.subset e)⟩, List.nodup_append.2 ⟨?_, hsub.nodup hnn.2.1, fun x hx y hy e => ?_⟩⟩
    · cases fv'.ownBlock <;> simp
    · subst e
      exact (hgx x (by simpa using hx)).2.2 (hsub.subset hy)
  · rcases hat k (by simpa using hk) with e | e
    · exact Or.inl (by simp [e])
    · exact Or.inr e
  · refine (hT4.mono (fun k hk => ?_)).trans (hTF.mono (fun k hk => ?_))
    · simp only [List.mem_cons, List.mem_append]
      exact Or.inr (Or.inr (Or.inl hk))
    · simp only [List.mem_cons, List.not_mem_nil, or_false] at hk
      rcases hk with rfl | rfl <;> simp

set_option maxRecDepth 20000 in
set_option maxHeartbeats 1000000 in
theorem rcreate (w : World) (bd bf : Nat) (fv : Value) (d : DS) (M : List PF) (h : RD w bd bf fv d M) (h0 : 0 ≤ d.last) (h1 : d.last ≤ 3000000000000) (hl : M.length ≤ 3000000000000) :
    Calls Try.prog 26 #[.pointer (some ⟨bd, 0, none⟩)] w fun e w' => e = .returned (.int .i64 (d.last + 1)) ∧ (∃ fv', RD w' bd bf fv' (createS d) (M ++ [(d.last + 1, .slice none 0 0, [])]) ∧ ∀ k ∈ fv'.ownBlock.toList, k ∈ fv.ownBlock.toList ∨ w.heap.size ≤ k) ∧ Touch (bd :: bf :: (fv.ownBlock.toList ++ rowsOf M)) w w' := by
  obtain ⟨_, _, c2, _, c4, _, _, fz⟩ := RCells h.disk
  have ff2 := fz 2
  have hbd := h.lt bd (by simp)
  -- the disk with its new number
  have hd1 : (w.setCell ⟨bd, 2, none⟩ (.int .i64 (d.last + 1))).heap[bd]? = some (.cells (RC { d with last := d.last + 1 } fv bf) 73 (0, 0)) := heap_setCell_same _ _ _ _ _ _ h.disk
  have hT1 : Touch [bd, bf] w (w.setCell ⟨bd, 2, none⟩ (.int .i64 (d.last + 1))) := (Touch.refl _ _).setCell (by simp) _
  have hR1 : RD (w.setCell ⟨bd, 2, none⟩ (.int .i64 (d.last + 1))) bd bf fv { d with last := d.last + 1 } M := h.turn hd1 (by rw [Below.heap_setCell _ _ _ _ (fun e => h.ne e.symm)]; exact h.faults) hT1 rfl
  have HR1 : Hid (RD (w.setCell ⟨bd, 2, none⟩ (.int .i64 (d.last + 1))) bd bf fv { d with last := d.last + 1 } M) := hR1
  have HT1 : Hid (Touch [bd, bf] w (w.setCell ⟨bd, 2, none⟩ (.int .i64 (d.last + 1)))) := hT1
  have HP : Hid (RD w bd bf fv d M) := h
  clear h fz hd1 hT1 hR1
  go_enter Try.func26, Try.ntmps26
  go_wp2
  go_region_law (refine step_frow rfl (.tmp 14) (.tmp 20) rfl fv M.length (filesRow M) (by simp [Act.eval]) (by exact World.ownsRow.alloc HR1.out.row _) ⟨w.heap.size, 0, none⟩ (.int .i64 (d.last + 1)) (.slice none 0 0) 1 (by simp [Act.eval]) (by have := new2 (w.setCell ⟨bd, 2, none⟩ (.int .i64 (d.last + 1))) (.int .i64 (d.last + 1)) (.slice none 0 0) 131; simp only [World.size_setCell] at this; exact this) ⟨rfl, rfl⟩ hl ?_; intro g cp w4 hS4 hG4 hat4 hlt4; have hTW := ((Touch.refl [] (w.setCell ⟨bd, 2, none⟩ (.int .i64 (d.last + 1)))).alloc (.cells #[.int .i64 (d.last + 1), .slice none 0 0] 131)).drew; obtain ⟨hd4, hf4, hT4⟩ := after_frow HR1.out hTW hG4; obtain ⟨_, _, k2, _, k4, _, _, fz4⟩ := RCells hd4; have ff4 := fz4 4; have HD4 : Hid _ := hd4; have HF4 : Hid _ := hf4; clear hd4 hf4 fz4 hTW)
  all_goals
    go_wp2
    go_ret
    have hx := RD.newRow (fv' := .slice (some ⟨g, 0, none⟩) (M.length + 1) cp) (F := w4.setCell ⟨bd, 4, none⟩ (.slice (some ⟨g, 0, none⟩) (M.length + 1) cp)) (M' := M ++ [(d.last + 1, .slice none 0 0, [])]) (d' := createS d) HR1.out hT4
      (fun k hk => by
        have hk' : g = k := by simpa [Value.ownBlock] using hk
        subst hk'
        exact hat4.imp id (fun e => by rw [e]; show _ ≤ ((w.setCell ⟨bd, 2, none⟩ (.int .i64 (d.last + 1))).alloc _).heap.size; simp))
      (by simpa [filesRow] using hS4) ((Touch.refl _ _).setCell (by simp) _) (heap_setCell_same _ _ _ _ _ _ HD4.out) (by rw [Below.heap_setCell _ _ _ _ (fun e => HP.out.ne e.symm)]; exact HF4.out)
      (by simp only [createS]; rw [HP.out.files]; simp [filesOf]) (fun m hm => by
        rcases List.mem_append.1 hm with hm | hm
        · exact Or.inl hm
        · simp only [List.mem_cons, List.not_mem_nil, or_false] at hm
          subst hm
          exact Or.inr ⟨rfl, rfl⟩) (by simp [rowsOf, Value.ownBlock])
    refine ⟨rfl, ⟨_, hx.1, fun k hk => by have := hx.2.1 k (by simpa using hk); simpa using this⟩, (HT1.out.mono ?_).trans ?_⟩
    · intro k hk
      simp only [List.mem_cons, List.not_mem_nil, or_false] at hk
      rcases hk with rfl | rfl <;> simp
    · exact hx.2.2
end Go.Proofs.Ytjoinhljdbljaaa
