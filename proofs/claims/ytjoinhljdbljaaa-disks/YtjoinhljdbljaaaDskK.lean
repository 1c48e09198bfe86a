/- The walk of the document's Append. -/
import Derived.Test.YtjoinhljdbljaaaDskH
import Derived.Test.YtjoinhljdbljaaaDskI
import Derived.Test.YtjoinhljdbljaaaDskF
import Derived.Deep.QuietTactic
import Derived.BigQuiet
namespace Go.Proofs.Ytjoinhljdbljaaa
open Go.RowKit
open Go.ChangeMaps (setBlock)

theorem filesRow_set : ∀ (M : List PF) (i : Nat) (m : PF) (v : Value) (bs : List ByteArray), M[i]? = some m → (filesRow M).set (i * 2 + 1) v = filesRow (M.set i (m.1, v, bs))
  | [], _, _, _, _, h => by simp at h
  | a :: M, 0, m, v, bs, h => by
    simp only [List.getElem?_cons_zero, Option.some.injEq] at h
    subst h
    simp [filesRow]
  | a :: M, i + 1, m, v, bs, h => by
    have := filesRow_set M i m v bs (by simpa using h)
    have e : ∀ (x : PF) (N : List PF), filesRow (x :: N) = .int .i64 x.1 :: x.2.1 :: filesRow N := fun x N => by simp [filesRow]
    rw [List.set_cons_succ, e, e, ← this, show (i + 1) * 2 + 1 = i * 2 + 1 + 1 + 1 from by omega]
    simp

theorem ownsRow_store {w : World} {base : Nat} {e : TypeId} {size g n cap : Nat} {xs : List Value} (h : w.ownsRow base e size (.slice (some ⟨g, 0, none⟩) n cap) n xs) (o : Nat) (ho : o < n * size) (v : Value) :
    (w.setCell ⟨g, o, none⟩ v).ownsRow base e size (.slice (some ⟨g, 0, none⟩) n cap) n (xs.set o v) := by
  obtain ⟨h1, h2⟩ := h
  refine ⟨by simpa using h1, ?_⟩
  rcases h2 with ⟨h2, _⟩ | ⟨g', cap', cur, h2, hb, hg, hc, hm, hs, ht⟩
  · simp at h2
  · simp only [Value.slice.injEq, Option.some.injEq, Addr.mk.injEq, and_true, true_and] at h2
    obtain ⟨rfl, rfl⟩ := h2
    refine Or.inr ⟨g, cap, _, rfl, hb, heap_setCell_same _ _ _ _ _ _ hg, hc, hm, by simpa using hs, ?_⟩
    rw [← ht, Array.toList_setIfInBounds]
    apply List.ext_getElem?
    intro j
    rw [List.getElem?_take, List.getElem?_set, List.getElem?_set, List.getElem?_take, List.length_take]
    by_cases hj : j < n * size
    · by_cases e : o = j
      · subst e
        have : n * size ≤ cap * size := Nat.mul_le_mul_right _ hc
        have h3 : o < cap * size := by omega
        rw [if_pos hj, if_pos rfl, if_pos (by simpa [hs] using h3), if_pos rfl, if_pos (by rw [Array.length_toList, hs]; omega)]
      · simp [hj, e]
    · have : ¬ o = j := by omega
      simp [hj, this]

/-- the state behind the document's append -/
theorem rappend_end {w2 w4 : World} {bd bf g0 cap0 : Nat} {d : DS} {M : List PF} {i : Nat} {num : Int} {v : Value} {bs : List ByteArray} {t : ByteArray} {g cp : Nat} (h : RD w2 bd bf (.slice (some ⟨g0, 0, none⟩) M.length cap0) d M) (hm : M[i]? = some (num, v, bs))
    (hS : SRow w4 (.slice (some ⟨g, 0, none⟩) (bs.length + 1) cp) (bs ++ [t])) (hT4 : Touch v.ownBlock.toList w2 w4) (hat : v.ownBlock = some g ∨ w2.heap.size ≤ g) :
    RD ((w4.setCell ⟨g0, i * 2 + 1, none⟩ (.slice (some ⟨g, 0, none⟩) (bs.length + 1) cp)).setCell ⟨bd, 3, none⟩ (.int .i64 (d.wrote + 1))) bd bf (.slice (some ⟨g0, 0, none⟩) M.length cap0) { d with wrote := d.wrote + 1, files := d.files.set i (num, bs ++ [t]) }
      (M.set i (num, .slice (some ⟨g, 0, none⟩) (bs.length + 1) cp, bs ++ [t])) ∧
    (∀ k ∈ rowsOf (M.set i (num, .slice (some ⟨g, 0, none⟩) (bs.length + 1) cp, bs ++ [t])), k ∈ rowsOf M ∨ w2.heap.size ≤ k) ∧
    Touch (bd :: bf :: g0 :: rowsOf M) w2 ((w4.setCell ⟨g0, i * 2 + 1, none⟩ (.slice (some ⟨g, 0, none⟩) (bs.length + 1) cp)).setCell ⟨bd, 3, none⟩ (.int .i64 (d.wrote + 1))) := by
  have hn := h.nodup
  have hlt := h.lt
  simp only [Value.ownBlock, Option.toList_some, List.singleton_append, List.nodup_cons, List.mem_cons, not_or] at hn hlt
  have hmem : (num, v, bs) ∈ M := List.mem_of_getElem? hm
  have hil := (List.getElem?_eq_some_iff.1 hm).1
  have hgn : v.ownBlock = some g ∨ g ∉ rowsOf M := by
    rcases hat with e | e
    · exact Or.inl e
    · refine Or.inr (fun e2 => ?_)
      have := hlt g (Or.inr (Or.inr (Or.inr e2)))
      omega
  obtain ⟨r1, r2⟩ := rows_set M i _ (num, .slice (some ⟨g, 0, none⟩) (bs.length + 1) cp, bs ++ [t]) g hm rfl hn.2.2.2 hgn
  have hgx : g ≠ bd ∧ g ≠ bf ∧ g ≠ g0 := by
    rcases hat with e | e
    · have := mem_rows hmem e
      exact ⟨fun e2 => hn.1.2.2 (e2 ▸ this), fun e2 => hn.2.1.2 (e2 ▸ this), fun e2 => hn.2.2.1 (e2 ▸ this)⟩
    · have q1 := hlt bd (Or.inl rfl)
      have q2 := hlt bf (Or.inr (Or.inl rfl))
      have q3 := hlt g0 (Or.inr (Or.inr (Or.inl rfl)))
      omega
  have hvn : ∀ k, v.ownBlock = some k → k ≠ bd ∧ k ≠ bf ∧ k ≠ g0 := fun k hk => by
    have := mem_rows hmem hk
    exact ⟨fun e2 => hn.1.2.2 (e2 ▸ this), fun e2 => hn.2.1.2 (e2 ▸ this), fun e2 => hn.2.2.1 (e2 ▸ this)⟩
  have hT5 : Touch [bd, g0] w4 ((w4.setCell ⟨g0, i * 2 + 1, none⟩ (.slice (some ⟨g, 0, none⟩) (bs.length + 1) cp)).setCell ⟨bd, 3, none⟩ (.int .i64 (d.wrote + 1))) := ((Touch.refl _ _).setCell (by simp) _).setCell (by simp) _
  have hd4 : w4.heap[bd]? = some (.cells (RC d (.slice (some ⟨g0, 0, none⟩) M.length cap0) bf) 73 (0, 0)) := by
    rw [hT4.block bd (hlt bd (Or.inl rfl)) (fun e => (hvn bd (by simpa using e)).1 rfl)]; exact h.disk
  have hf4 : w4.heap[bf]? = some (.cells (FC d) 3 (0, 0)) := by
    rw [hT4.block bf (hlt bf (Or.inr (Or.inl rfl))) (fun e => (hvn bf (by simpa using e)).2.1 rfl)]; exact h.faults
  have hr4 := ownsRow_touch h.row hT4 (fun k hk e => by
    have hk' : g0 = k := by simpa [Value.ownBlock] using hk
    exact (hvn k (by simpa using e)).2.2 hk'.symm)
  refine ⟨⟨?_, ?_, ?_, ?_, fun m hmm => ?_, ?_⟩, fun k hk => ?_, ?_⟩
  · rw [heap_setCell_same _ _ _ _ _ _ (show _ = some (Obj.cells (RC d (.slice (some ⟨g0, 0, none⟩) M.length cap0) bf) 73 (0, 0)) by rw [Below.heap_setCell _ _ _ _ hn.1.2.1]; exact hd4)]
    rfl
  · rw [Below.heap_setCell _ _ _ _ (fun e => hn.1.1 e.symm), Below.heap_setCell _ _ _ _ hn.2.1.1]; exact hf4
  · have hst := ownsRow_store hr4 (i * 2 + 1) (by omega) (.slice (some ⟨g, 0, none⟩) (bs.length + 1) cp)
    rw [filesRow_set M i _ _ (bs ++ [t]) hm] at hst
    have := ownsRow_touch hst (F := [bd]) ((Touch.refl _ _).setCell (p := ⟨bd, 3, none⟩) (by simp) (.int .i64 (d.wrote + 1))) (fun k hk e => by
      have hk' : g0 = k := by simpa [Value.ownBlock] using hk
      simp only [List.mem_cons, List.not_mem_nil, or_false] at e
      exact hn.1.2.1 (by rw [hk', e]))
    rw [List.length_set]
    exact this
  · simp only
    rw [h.files]
    unfold filesOf
    rw [List.map_set]
  · by_cases e : m = (num, .slice (some ⟨g, 0, none⟩) (bs.length + 1) cp, bs ++ [t])
    · subst e
      refine hS.touch hT5 (fun k hk => ?_)
      have hk' : g = k := by simpa [Value.ownBlock] using hk
      subst hk'
      simp [hgx.1, hgx.2.2]
    · obtain ⟨j, hj, hjm⟩ := List.getElem_of_mem hmm
      rw [List.getElem_set] at hjm
      split at hjm
      · exact absurd hjm.symm e
      · rename_i hij
        have hjl : j < M.length := by simpa using hj
        have hmM : m ∈ M := hjm ▸ List.getElem_mem hjl
        refine ((h.rows m hmM).touch hT4 (fun k hk e2 => ?_)).touch hT5 (fun k hk => ?_)
        · exact rows_apart M i j (num, v, bs) m hm (by rw [← hjm]; simp [hjl]) hij k (by simpa using e2) hk hn.2.2.2
        · have := mem_rows hmM hk
          simp only [List.mem_cons, List.not_mem_nil, or_false, not_or]
          exact ⟨fun e2 => hn.1.2.2 (e2 ▸ this), fun e2 => hn.2.2.1 (e2 ▸ this)⟩
  · simp only [Value.ownBlock, Option.toList_some, List.singleton_append, List.nodup_cons, List.mem_cons, not_or]
    refine ⟨⟨hn.1.1, hn.1.2.1, fun e => ?_⟩, ⟨hn.2.1.1, fun e => ?_⟩, fun e => ?_, r1⟩
    · rcases r2 _ e with q | q
      · exact hn.1.2.2 q
      · exact hgx.1 q.symm
    · rcases r2 _ e with q | q
      · exact hn.2.1.2 q
      · exact hgx.2.1 q.symm
    · rcases r2 _ e with q | q
      · exact hn.2.2.1 q
      · exact hgx.2.2 q.symm
  · rcases r2 k hk with q | q
    · exact Or.inl q
    · subst q
      rcases hat with e | e
      · exact Or.inl (mem_rows hmem e)
      · exact Or.inr e
  · refine (hT4.mono (fun k hk => ?_)).trans (hT5.mono (fun k hk => ?_))
    · have := mem_rows hmem (show (num, v, bs).2.1.ownBlock = some k by simpa using hk)
      simp [this]
    · simp only [List.mem_cons, List.not_mem_nil, or_false] at hk
      rcases hk with rfl | rfl <;> simp

theorem flip_facts (W : World) (s : ByteArray) (b C : Nat) (hb8 : b / 8 < s.size) :
    (W.alloc (.cells (bytesRow s C) 5 ((bytesRow s C).size, (bytesRow s C).size + 1))).cell? ⟨W.heap.size, b / 8, none⟩ = some (.int .u8 (s[b / 8].toNat : Int)) ∧
    (W.alloc (.cells (bytesRow s C) 5 ((bytesRow s C).size, (bytesRow s C).size + 1))).frozen? ⟨W.heap.size, b / 8, none⟩ = false ∧
    (convert 127 9 (.slice (some ⟨W.heap.size, 0, none⟩) s.size C)).run Try.prog (((W.alloc (.cells (bytesRow s C) 5 ((bytesRow s C).size, (bytesRow s C).size + 1))).setCell ⟨W.heap.size, b / 8, none⟩ (.int .u8 (bits .xor .u8 (s[b / 8].toNat : Int) (2 ^ (b % 8) % 256)))).drew.drew) =
      .ok (.string (flipS s b)) (((W.alloc (.cells (bytesRow s C) 5 ((bytesRow s C).size, (bytesRow s C).size + 1))).setCell ⟨W.heap.size, b / 8, none⟩ (.int .u8 (bits .xor .u8 (s[b / 8].toNat : Int) (2 ^ (b % 8) % 256)))).drew.drew) ∧
    Touch [] W (((W.alloc (.cells (bytesRow s C) 5 ((bytesRow s C).size, (bytesRow s C).size + 1))).setCell ⟨W.heap.size, b / 8, none⟩ (.int .u8 (bits .xor .u8 (s[b / 8].toNat : Int) (2 ^ (b % 8) % 256)))).drew.drew) := by
  have hrow := bytesRow_at s C (b / 8) (by exact hb8)
  have hlen : b / 8 < (bytesRow s C).size := (Array.getElem?_eq_some_iff.1 hrow).1
  refine ⟨?_, ?_, ?_, ?_⟩
  · simp only [World.cell?, heap_alloc_new]
    simp only [Option.isSome_none, Bool.false_eq_true, if_false, hrow]
    rfl
  · simp only [World.frozen?, heap_alloc_new]
    simp
    omega
  · rw [fb_eq _ _ (Nat.mod_lt _ (by decide))]
    have hl : s.size = (s.data.toList.set (b / 8) (fb (s.data.toList.getD (b / 8) 0) (b % 8))).length := by simp
    have := row_string (((W.alloc (.cells (bytesRow s C) 5 ((bytesRow s C).size, (bytesRow s C).size + 1))).setCell ⟨W.heap.size, b / 8, none⟩ (c8 (fb s[b / 8] (b % 8)))).drew.drew) W.heap.size _ C _ _ (heap_set_new W _ _ _ _ _) (flipped s b C hb8 _ rfl)
    rw [← hl] at this
    exact this
  · refine Touch.drew (Touch.drew ?_)
    refine ⟨rfl, rfl, rfl, by simp, fun k hk _ => ?_⟩
    rw [Below.heap_setCell _ _ _ _ (by simp; omega), Below.heap_alloc _ _ _ hk]

theorem cells_at {w : World} {bd bf g0 n0 cap0 : Nat} {d : DS} {M : List PF} (h : RD w bd bf (.slice (some ⟨g0, 0, none⟩) n0 cap0) d M) : ∀ i m, M[i]? = some m → w.cell? ⟨g0, i * 2, none⟩ = some (.int .i64 m.1) ∧ w.cell? ⟨g0, i * 2 + 1, none⟩ = some m.2.1 := by
  intro i m hm
  have hil := (List.getElem?_eq_some_iff.1 hm).1
  obtain ⟨g1, cap1, e1, _, _, hx⟩ := h.cells (by omega)
  simp only [Value.slice.injEq, Option.some.injEq, Addr.mk.injEq, and_true] at e1
  obtain ⟨rfl, _⟩ := e1
  exact hx i m hm

theorem after_row {w W w4 : World} {v : Value} (hW : Touch [] w W) (hG : W.grownBy w4 v.ownBlock) : Touch v.ownBlock.toList w w4 :=
  ⟨hG.os.trans hW.os, hG.tape.trans hW.tape, hG.output.trans hW.output, Nat.le_trans hW.size hG.size, fun k hk1 hk2 => by
    rw [hG.block k (Nat.lt_of_lt_of_le hk1 hW.size) (fun e => hk2 (by rw [← e]; simp))]
    exact hW.block k hk1 (by simp)⟩

/-- what the walk reads behind the append: the disk's slice, the file's cell (to be written), the count -/
theorem facts4 {w w4 : World} {bd bf g0 cap0 : Nat} {d : DS} {M : List PF} {i : Nat} {num : Int} {v : Value} {bs : List ByteArray} (h : RD w bd bf (.slice (some ⟨g0, 0, none⟩) M.length cap0) d M) (hm : M[i]? = some (num, v, bs)) (hT4 : Touch v.ownBlock.toList w w4) :
    w4.cell? ⟨bd, 4, none⟩ = some (.slice (some ⟨g0, 0, none⟩) M.length cap0) ∧ w4.cell? ⟨g0, i * 2 + 1, none⟩ = some v ∧ w4.frozen? ⟨g0, i * 2 + 1, none⟩ = false ∧ w4.cell? ⟨bd, 3, none⟩ = some (.int .i64 d.wrote) ∧ w4.frozen? ⟨bd, 3, none⟩ = false := by
  have hn := h.nodup
  have hlt := h.lt
  simp only [Value.ownBlock, Option.toList_some, List.singleton_append, List.nodup_cons, List.mem_cons, not_or] at hn hlt
  have hmem : (num, v, bs) ∈ M := List.mem_of_getElem? hm
  have hil := (List.getElem?_eq_some_iff.1 hm).1
  have hvn : ∀ k, v.ownBlock = some k → k ≠ bd ∧ k ≠ g0 := fun k hk => by
    have := mem_rows hmem hk
    exact ⟨fun e2 => hn.1.2.2 (e2 ▸ this), fun e2 => hn.2.2.1 (e2 ▸ this)⟩
  have b1 : w4.heap[bd]? = w.heap[bd]? := hT4.block bd (hlt bd (Or.inl rfl)) (fun e => (hvn bd (by simpa using e)).1 rfl)
  have b2 : w4.heap[g0]? = w.heap[g0]? := hT4.block g0 (hlt g0 (Or.inr (Or.inr (Or.inl rfl)))) (fun e => (hvn g0 (by simpa using e)).2 rfl)
  obtain ⟨_, _, _, c3, c4, _, _, fz⟩ := RCells h.disk
  obtain ⟨g1, cap1, e1, _, fg, hx⟩ := h.cells (by omega)
  simp only [Value.slice.injEq, Option.some.injEq, Addr.mk.injEq, and_true, true_and] at e1
  obtain ⟨rfl, _⟩ := e1
  exact ⟨(World.cell?_of_block (w := w) (a := ⟨bd, 4, none⟩) b1).trans c4, (World.cell?_of_block (w := w) (a := ⟨g0, i * 2 + 1, none⟩) b2).trans (hx i _ hm).2, (World.frozen?_of_block (w := w) (a := ⟨g0, i * 2 + 1, none⟩) b2).trans (fg _),
    (World.cell?_of_block (w := w) (a := ⟨bd, 3, none⟩) b1).trans c3, (World.frozen?_of_block (w := w) (a := ⟨bd, 3, none⟩) b1).trans (fz _)⟩

theorem RD.ne_row {w : World} {bd bf g0 n c : Nat} {d : DS} {M : List PF} (h : RD w bd bf (.slice (some ⟨g0, 0, none⟩) n c) d M) : g0 ≠ bd ∧ bd ≠ g0 := by
  have hn := h.nodup
  simp only [Value.ownBlock, Option.toList_some, List.singleton_append, List.nodup_cons, List.mem_cons, not_or] at hn
  exact ⟨fun e => hn.1.2.1 e.symm, hn.1.2.1⟩

set_option maxRecDepth 20000 in
set_option maxHeartbeats 8000000 in
theorem rappend (w : World) (bd bf : Nat) (fv : Value) (d : DS) (M : List PF) (file : Int) (text : ByteArray) (h : RD w bd bf fv d M) (hu : Nums d.files) (hl : M.length ≤ 3000000000000) (h0 : 0 ≤ d.f1) (h1 : d.f1 ≤ 9223372036854775807) (h2 : 0 ≤ d.f3) (h3 : d.f3 ≤ 9223372036854775807)
    (hused : usedOf d.files ≤ 3000000000000) (hub : (usedOf d.files : Int) ≤ d.blocks) (hw0 : 0 ≤ d.wrote) (hw1 : d.wrote ≤ 3000000000000) (ht : text.size ≤ 140737488355328) :
    Calls Try.prog 28 #[.pointer (some ⟨bd, 0, none⟩), .int .i64 file, .string text] w fun e w' => e = .returned (.int .i64 (appendS d file text).1) ∧
      (∃ M', RD w' bd bf fv (appendS d file text).2 M' ∧ (∀ k ∈ rowsOf M', k ∈ rowsOf M ∨ w.heap.size ≤ k) ∧ M'.length ≤ M.length) ∧ Touch (bd :: bf :: (fv.ownBlock.toList ++ rowsOf M)) w w' := by
  have HC1 : Hid (Calls Try.prog 60 #[.pointer (some ⟨bd, 0, none⟩), .int .i64 1] w fun e w' => e = .returned (.bool (d.f1 == 1)) ∧ RD w' bd bf fv { d with f1 := dec d.f1 } M ∧ Touch [bd, bf] w w') := now1 w bd bf fv d M h h0 h1
  have HC3 : Hid (∀ w1, RD w1 bd bf fv { d with f1 := dec d.f1 } M → Calls Try.prog 60 #[.pointer (some ⟨bd, 0, none⟩), .int .i64 3] w1 fun e w' => e = .returned (.bool (d.f3 == 1)) ∧ RD w' bd bf fv { d with f1 := dec d.f1, f3 := dec d.f3 } M ∧ Touch [bd, bf] w1 w') :=
    fun w1 hp => now3 w1 bd bf fv { d with f1 := dec d.f1 } M hp h2 h3
  have HPL : Hid (∀ w1, RD w1 bd bf fv { d with f1 := dec d.f1, f3 := dec d.f3 } M → Calls Try.prog 61 #[.pointer (some ⟨bd, 0, none⟩), .int .i64 file] w1 fun e w' => e = .returned (.int .i64 (posI d.files file)) ∧ w' = w1) :=
    fun w1 hp => place_any w1 bd bf fv { d with f1 := dec d.f1, f3 := dec d.f3 } M file hp hu hl
  have HUS : Hid (∀ w1, RD w1 bd bf fv { d with f1 := dec d.f1, f3 := dec d.f3 } M → Calls Try.prog 34 #[.pointer (some ⟨bd, 0, none⟩)] w1 fun e w' => e = .returned (.int .i64 (usedOf d.files : Int)) ∧ w' = w1) :=
    fun w1 hp => rused w1 bd bf fv { d with f1 := dec d.f1, f3 := dec d.f3 } M hp hl hused
  have hfil := h.files
  have HP : Hid (RD w bd bf fv d M) := h
  have HSUB : Hid (∀ k ∈ [bd, bf], k ∈ bd :: bf :: (fv.ownBlock.toList ++ rowsOf M)) := by
    intro k hk
    simp only [List.mem_cons, List.not_mem_nil, or_false] at hk
    rcases hk with rfl | rfl <;> simp
  by_cases hf : d.f1 = 1
  · have hfb : (d.f1 == 1) = true := by simp [hf]
    have E : Hid (appendS d file text = (6, { d with f1 := dec d.f1, f3 := dec d.f3 })) := by show appendS d file text = _; unfold appendS; rw [if_pos hf]
    rw [hfb] at HC1
    generalize appendS d file text = r at *
    generalize posI d.files file = q at *
    clear h hu hf hfil HUS
    go_enter Try.func28, Try.ntmps28
    go_wp2_with fail
    refine HC1.out.mono ?_
    rintro e w1 ⟨rfl, hP1, hT1⟩
    go_wp2_with fail
    refine (HC3.out w1 hP1).mono ?_
    rintro e w2 ⟨rfl, hP2, hT2⟩
    go_wp2_with fail
    refine (HPL.out w2 hP2).mono ?_
    rintro e w2' ⟨rfl, hw2⟩
    subst hw2
    obtain ⟨c0, c1, _, c3, c4, _, c6, fz⟩ := RCells hP2.disk
    clear fz
    go_wp2
    go_ret
    exact ⟨by rw [E.out]; rfl, ⟨M, by rw [E.out]; exact hP2, fun k hk => Or.inl hk, Nat.le_refl _⟩, (hT1.trans hT2).mono HSUB.out⟩
  · have hfb : (d.f1 == 1) = false := by simp [hf]
    rw [hfb] at HC1
    rcases pos_cases M file with ⟨hp, hno⟩ | ⟨i, m, hm, rfl, hp⟩
    · have hq : posI d.files file = -1 := by unfold posI; rw [hfil, hp]
      rw [hq] at HPL
      have E : Hid (appendS d file text = (8, { d with f1 := dec d.f1, f3 := dec d.f3 })) := by
        show appendS d file text = _
        unfold appendS
        rw [if_neg hf, hfil, hp]
      generalize appendS d file text = r at *
      clear h hu hf hfil hp hno hq HUS
      go_enter Try.func28, Try.ntmps28
      go_wp2_with fail
      refine HC1.out.mono ?_
      rintro e w1 ⟨rfl, hP1, hT1⟩
      go_wp2_with fail
      refine (HC3.out w1 hP1).mono ?_
      rintro e w2 ⟨rfl, hP2, hT2⟩
      go_wp2_with fail
      refine (HPL.out w2 hP2).mono ?_
      rintro e w2' ⟨rfl, hw2⟩
      subst hw2
      obtain ⟨c0, c1, _, c3, c4, _, c6, fz⟩ := RCells hP2.disk
      clear fz
      go_wp2
      go_ret
      exact ⟨by rw [E.out]; rfl, ⟨M, by rw [E.out]; exact hP2, fun k hk => Or.inl hk, Nat.le_refl _⟩, (hT1.trans hT2).mono HSUB.out⟩
    · have hq : posI d.files m.1 = (i : Int) := by unfold posI; rw [hfil, hp]
      rw [hq] at HPL
      have E0 : appendS d m.1 text = if d.block < (text.size : Int) then (8, { d with f1 := dec d.f1, f3 := dec d.f3 })
          else if (usedOf d.files : Int) = d.blocks then (5, { d with f1 := dec d.f1, f3 := dec d.f3 })
          else (0, { d with f1 := dec d.f1, f3 := dec d.f3, wrote := d.wrote + 1, files := d.files.set i (m.1, m.2.2 ++ [if d.f3 = 1 then turnS text d.bit else text]) }) := by
        unfold appendS
        rw [if_neg hf, hfil, hp]
      obtain ⟨num, v, bs⟩ := m
      simp only at E0 HPL
      have HM : Hid (M[i]? = some (num, v, bs)) := hm
      have HMEM : Hid ((num, v, bs) ∈ M) := List.mem_of_getElem? hm
      have HBL : Hid (bs.length ≤ 3000000000000) := by
        have := used_erase d.files i (num, bs) (by rw [hfil]; unfold filesOf; rw [List.getElem?_map, hm]; rfl)
        simp only at this
        show bs.length ≤ _
        omega
      have hil := (List.getElem?_eq_some_iff.1 hm).1
      obtain ⟨g0, cap0, hfv, hc0, _, _⟩ := h.cells (by omega)
      subst hfv
      generalize appendS d num text = r at *
      clear h hu hf hfil hp hq hm
      by_cases hbl : d.block < (text.size : Int)
      · have E : Hid (r = (8, { d with f1 := dec d.f1, f3 := dec d.f3 })) := by show r = _; rw [E0, if_pos hbl]
        clear E0
        go_enter Try.func28, Try.ntmps28
        go_wp2_with fail
        refine HC1.out.mono ?_
        rintro e w1 ⟨rfl, hP1, hT1⟩
        go_wp2_with fail
        refine (HC3.out w1 hP1).mono ?_
        rintro e w2 ⟨rfl, hP2, hT2⟩
        go_wp2_with fail
        refine (HPL.out w2 hP2).mono ?_
        rintro e w2' ⟨rfl, hw2⟩
        subst hw2
        obtain ⟨c0, c1, _, c3, c4, _, c6, fz⟩ := RCells hP2.disk
        clear fz
        go_wp2
        go_ret
        exact ⟨by rw [E.out]; rfl, ⟨M, by rw [E.out]; exact hP2, fun k hk => Or.inl hk, Nat.le_refl _⟩, (hT1.trans hT2).mono HSUB.out⟩
      · rw [if_neg hbl] at E0
        by_cases hfull : (usedOf d.files : Int) = d.blocks
        · have E : Hid (r = (5, { d with f1 := dec d.f1, f3 := dec d.f3 })) := by show r = _; rw [E0, if_pos hfull]
          have hge : d.blocks ≤ (usedOf d.files : Int) := by omega
          clear E0 hfull
          go_enter Try.func28, Try.ntmps28
          go_wp2_with fail
          refine HC1.out.mono ?_
          rintro e w1 ⟨rfl, hP1, hT1⟩
          go_wp2_with fail
          refine (HC3.out w1 hP1).mono ?_
          rintro e w2 ⟨rfl, hP2, hT2⟩
          go_wp2_with fail
          refine (HPL.out w2 hP2).mono ?_
          rintro e w2' ⟨rfl, hw2⟩
          subst hw2
          obtain ⟨c0, c1, _, c3, c4, _, c6, fz⟩ := RCells hP2.disk
          clear fz
          go_wp2
          go_region_with (go_at_call 34; refine (HUS.out _ (hP2.away (F := []) ((Touch.refl _ _).drew) (by simp))).mono ?_; rintro e w3 ⟨rfl, rfl⟩)
          all_goals
            go_wp2
            go_ret
            exact ⟨by rw [E.out]; rfl, ⟨M, by rw [E.out]; exact hP2.away (F := []) ((Touch.refl _ _).drew) (by simp), fun k hk => Or.inl hk, Nat.le_refl _⟩, ((hT1.trans hT2).mono HSUB.out).drew⟩
        · have hlt : (usedOf d.files : Int) < d.blocks := by omega
          rw [if_neg hfull] at E0
          clear hfull
          by_cases hf3 : d.f3 = 1
          · rw [if_pos hf3] at E0
            have h3b : (d.f3 == 1) = true := by simp [hf3]
            rw [h3b] at HC3
            by_cases hz : text.size = 0
            · have hs0 : text = ⟨#[]⟩ := by
                have h : text.data.size = 0 := hz
                have : text.data = #[] := Array.eq_empty_of_size_eq_zero h
                cases text
                simp only at this
                rw [this]
              subst hs0
              have E : Hid (r = (0, { d with f1 := dec d.f1, f3 := dec d.f3, wrote := d.wrote + 1, files := d.files.set i (num, bs ++ [⟨#[]⟩]) })) := E0
              clear hf3 E0 hz
              go_enter Try.func28, Try.ntmps28
              go_wp2_with fail
              refine HC1.out.mono ?_
              rintro e w1 ⟨rfl, hP1, hT1⟩
              go_wp2_with fail
              refine (HC3.out w1 hP1).mono ?_
              rintro e w2 ⟨rfl, hP2, hT2⟩
              go_wp2_with fail
              refine (HPL.out w2 hP2).mono ?_
              rintro e w2' ⟨rfl, hw2⟩
              subst hw2
              obtain ⟨c0, c1, _, c3, c4, _, c6, _⟩ := RCells hP2.disk
              have HT12 : Hid (Touch [bd, bf] w w2') := hT1.trans hT2
              go_wp2
              go_big_quiet ((go_at_call 34; exact Calls.quiet_of_same (HUS.out _ (hP2.away (F := []) ⟨rfl, rfl, rfl, Nat.le_refl _, fun _ _ _ => rfl⟩ (by simp)))))
              have hTW0 : Touch [] w2' (w2'.drewN nq) := ⟨rfl, rfl, rfl, Nat.le_refl _, fun _ _ _ => rfl⟩
              have hPW := hP2.away hTW0 (by simp)
              clear c0 c1 c3 c4 c6
              generalize w2'.drewN nq = W at *
              clear hP2 hP1 hT1 hT2
              obtain ⟨c0, c1, _, c3, c4, _, c6, _⟩ := RCells hPW.disk
              have HSZ : Hid (w.heap.size ≤ W.heap.size) := Nat.le_trans HT12.out.size hTW0.size
              have HTW : Hid (Touch [bd, bf] w W) := HT12.out.trans (hTW0.mono (by simp))
              clear hTW0 HT12
              obtain ⟨x0, x1⟩ := (cells_at hPW) i (num, v, bs) HM.out
              have hbd2 : bd < W.heap.size := hPW.lt bd (by simp)
              have hg02 : g0 < W.heap.size := hPW.lt g0 (by simp [Value.ownBlock])
              obtain ⟨hne1, hne2⟩ := hPW.ne_row
              go_wp2
              go_region_law (refine step_srow rfl (.tmp 87) (.tmp 89) rfl v bs (by simp [Act.eval]) (by exact World.ownsRow.alloc (hPW.rows (num, v, bs) HMEM.out) _) ⟨W.heap.size, 0, none⟩ (⟨#[]⟩ : ByteArray) 1 (by simp [Act.eval]) (by exact cell_one_new W _ _) HBL.out ?_; intro g cp w4 hS4 hG4 hat4 hlt4; have hTW := ((Touch.refl [] W).alloc (.cells #[.string (⟨#[]⟩ : ByteArray)] 9)).drew; have hT4 := after_row hTW hG4; have hat5 : v.ownBlock = some g ∨ W.heap.size ≤ g := hat4.imp id (fun e => by rw [e]; exact hTW.size); obtain ⟨k4, kx, ky, k3, kf3⟩ := facts4 hPW HM.out hT4; clear hTW hat4 hG4)
              all_goals
                go_wp2
                go_ret
                have hx := rappend_end hPW HM.out hS4 hT4 hat5
                refine ⟨by rw [E.out]; rfl, ⟨_, by rw [E.out]; exact hx.1, fun k hk => (hx.2.1 k hk).imp id (fun q => Nat.le_trans HSZ.out q), by simp⟩, ((HTW.out).mono HSUB.out).trans (hx.2.2.mono ?_)⟩
                intro k hk
                simpa [Value.ownBlock] using hk
            · have he2 : ¬ text.toList = [] := by
                rw [ByteArray.toList_eq]
                intro e
                apply hz
                have := congrArg List.length e
                simpa using this
              have he : text.toList.isEmpty = false := by simp [he2]
              have hb0 := Int.emod_nonneg d.bit (show 8 * (text.size : Int) ≠ 0 by omega)
              have hb3 := Int.emod_lt_of_pos d.bit (show 0 < 8 * (text.size : Int) by omega)
              have E1 : turnS text d.bit = flipS text (d.bit % (8 * (text.size : Int))).toNat := by unfold turnS; rw [if_neg hz]
              obtain ⟨b, hb⟩ : ∃ b : Nat, d.bit % (8 * (text.size : Int)) = (b : Int) := ⟨(d.bit % (8 * (text.size : Int))).toNat, by omega⟩
              have htm := tmod_two d.bit (8 * (text.size : Int)) (by omega)
              rw [hb] at E1 hb3 hb0 htm
              rw [Int.toNat_natCast] at E1
              rw [E1] at E0
              have hblt : b < 8 * text.size := by omega
              have hb8 : b / 8 < text.size := by omega
              have HFF : Hid (∀ (W : World) (C : Nat), _) := fun W C => flip_facts W text b C hb8
              have HCV : Hid (∀ W : World, _) := fun W => run_bytes_of_string (P := Try.prog) W 9 127 5 text Try.underlying9 Try.underlying127 Try.underlying5
              have E : Hid _ := E0
              clear hf3 E0 E1 hb hb0 hb3 hz
              by_cases hneg : d.bit.tmod (8 * (text.size : Int)) < 0
              · have HB : Hid (wrap64 (d.bit.tmod (8 * (text.size : Int)) + 8 * (text.size : Int)) = (b : Int)) := by
                  show _ = _
                  rw [IntWalk.wrap64_in _ (by omega)]
                  omega
                clear htm
                go_enter Try.func28, Try.ntmps28
                go_wp2_with fail
                refine HC1.out.mono ?_
                rintro e w1 ⟨rfl, hP1, hT1⟩
                go_wp2_with fail
                refine (HC3.out w1 hP1).mono ?_
                rintro e w2 ⟨rfl, hP2, hT2⟩
                go_wp2_with fail
                refine (HPL.out w2 hP2).mono ?_
                rintro e w2' ⟨rfl, hw2⟩
                subst hw2
                obtain ⟨c0, c1, _, c3, c4, _, c6, _⟩ := RCells hP2.disk
                have HT12 : Hid (Touch [bd, bf] w w2') := hT1.trans hT2
                go_wp2
                go_big_quiet ((go_at_call 34; exact Calls.quiet_of_same (HUS.out _ (hP2.away (F := []) ⟨rfl, rfl, rfl, Nat.le_refl _, fun _ _ _ => rfl⟩ (by simp)))))
                have hTW0 : Touch [] w2' (w2'.drewN nq) := ⟨rfl, rfl, rfl, Nat.le_refl _, fun _ _ _ => rfl⟩
                have hPW := hP2.away hTW0 (by simp)
                clear c0 c1 c3 c4 c6
                generalize w2'.drewN nq = W at *
                clear hP2 hP1 hT1 hT2
                obtain ⟨c0, c1, _, c3, c4, _, c6, _⟩ := RCells hPW.disk
                have HSZ : Hid (w.heap.size ≤ W.heap.size) := Nat.le_trans HT12.out.size hTW0.size
                have HTW : Hid (Touch [bd, bf] w W) := HT12.out.trans (hTW0.mono (by simp))
                clear hTW0 HT12
                have hcv := HCV.out W
                generalize grownCap W text.size 0 5 = C at *
                obtain ⟨hcell, hfr, hst, hTF⟩ := HFF.out W C
                have HST : Hid _ := hst
                clear hst
                go_wp2
                rw [HB.out]
                go_region
                all_goals
                  have hst := HST.out
                  clear hcell hfr hcv
                  go_wp2
                generalize hW3 : (((W.alloc (.cells (bytesRow text C) 5 ((bytesRow text C).size, (bytesRow text C).size + 1))).setCell ⟨W.heap.size, b / 8, none⟩ (.int .u8 (bits .xor .u8 (text[b / 8].toNat : Int) (2 ^ (b % 8) % 256)))).drew.drew) = W3 at *
                clear hW3 hst HST
                have hP3 := hPW.away hTF (by simp)
                have HSZ3 : Hid (w.heap.size ≤ W3.heap.size) := Nat.le_trans HSZ.out hTF.size
                have HTW3 : Hid (Touch [bd, bf] w W3) := HTW.out.trans (hTF.mono (by simp))
                obtain ⟨_, _, _, c33, c43, _, _, _⟩ := RCells hP3.disk
                clear hPW c0 c1 c3 c4 c6 hTF
                generalize flipS text b = tx at *
                obtain ⟨x0, x1⟩ := (cells_at hP3) i (num, v, bs) HM.out
                have hbd2 : bd < W3.heap.size := hP3.lt bd (by simp)
                have hg02 : g0 < W3.heap.size := hP3.lt g0 (by simp [Value.ownBlock])
                obtain ⟨hne1, hne2⟩ := hP3.ne_row
                go_wp2
                go_region_law (refine step_srow rfl (.tmp 87) (.tmp 89) rfl v bs (by simp [Act.eval]) (by exact World.ownsRow.alloc (hP3.rows (num, v, bs) HMEM.out) _) ⟨W3.heap.size, 0, none⟩ tx 1 (by simp [Act.eval]) (by exact cell_one_new W3 _ _) HBL.out ?_; intro g cp w4 hS4 hG4 hat4 hlt4; have hTW := ((Touch.refl [] W3).alloc (.cells #[.string tx] 9)).drew; have hT4 := after_row hTW hG4; have hat5 : v.ownBlock = some g ∨ W3.heap.size ≤ g := hat4.imp id (fun e => by rw [e]; exact hTW.size); obtain ⟨k4, kx, ky, k3, kf3⟩ := facts4 hP3 HM.out hT4; clear hTW hat4 hG4)
                all_goals
                  go_wp2
                  go_ret
                  have hx := rappend_end hP3 HM.out hS4 hT4 hat5
                  refine ⟨by rw [E.out]; rfl, ⟨_, by rw [E.out]; exact hx.1, fun k hk => (hx.2.1 k hk).imp id (fun q => Nat.le_trans HSZ3.out q), by simp⟩, ((HTW3.out).mono HSUB.out).trans (hx.2.2.mono ?_)⟩
                  intro k hk
                  simpa [Value.ownBlock] using hk
              · have HB : Hid (d.bit.tmod (8 * (text.size : Int)) = (b : Int)) := by show _ = _; omega
                clear htm
                have hneg' : ¬ d.bit.tmod (8 * (text.size : Int)) < 0 := hneg
                go_enter Try.func28, Try.ntmps28
                go_wp2_with fail
                refine HC1.out.mono ?_
                rintro e w1 ⟨rfl, hP1, hT1⟩
                go_wp2_with fail
                refine (HC3.out w1 hP1).mono ?_
                rintro e w2 ⟨rfl, hP2, hT2⟩
                go_wp2_with fail
                refine (HPL.out w2 hP2).mono ?_
                rintro e w2' ⟨rfl, hw2⟩
                subst hw2
                obtain ⟨c0, c1, _, c3, c4, _, c6, _⟩ := RCells hP2.disk
                have HT12 : Hid (Touch [bd, bf] w w2') := hT1.trans hT2
                go_wp2
                go_big_quiet ((go_at_call 34; exact Calls.quiet_of_same (HUS.out _ (hP2.away (F := []) ⟨rfl, rfl, rfl, Nat.le_refl _, fun _ _ _ => rfl⟩ (by simp)))))
                have hTW0 : Touch [] w2' (w2'.drewN nq) := ⟨rfl, rfl, rfl, Nat.le_refl _, fun _ _ _ => rfl⟩
                have hPW := hP2.away hTW0 (by simp)
                clear c0 c1 c3 c4 c6
                generalize w2'.drewN nq = W at *
                clear hP2 hP1 hT1 hT2
                obtain ⟨c0, c1, _, c3, c4, _, c6, _⟩ := RCells hPW.disk
                have HSZ : Hid (w.heap.size ≤ W.heap.size) := Nat.le_trans HT12.out.size hTW0.size
                have HTW : Hid (Touch [bd, bf] w W) := HT12.out.trans (hTW0.mono (by simp))
                clear hTW0 HT12
                have hcv := HCV.out W
                generalize grownCap W text.size 0 5 = C at *
                obtain ⟨hcell, hfr, hst, hTF⟩ := HFF.out W C
                have HST : Hid _ := hst
                clear hst
                go_wp2
                rw [HB.out]
                go_region
                all_goals
                  have hst := HST.out
                  clear hcell hfr hcv
                  go_wp2
                generalize hW3 : (((W.alloc (.cells (bytesRow text C) 5 ((bytesRow text C).size, (bytesRow text C).size + 1))).setCell ⟨W.heap.size, b / 8, none⟩ (.int .u8 (bits .xor .u8 (text[b / 8].toNat : Int) (2 ^ (b % 8) % 256)))).drew.drew) = W3 at *
                clear hW3 hst HST
                have hP3 := hPW.away hTF (by simp)
                have HSZ3 : Hid (w.heap.size ≤ W3.heap.size) := Nat.le_trans HSZ.out hTF.size
                have HTW3 : Hid (Touch [bd, bf] w W3) := HTW.out.trans (hTF.mono (by simp))
                obtain ⟨_, _, _, c33, c43, _, _, _⟩ := RCells hP3.disk
                clear hPW c0 c1 c3 c4 c6 hTF
                generalize flipS text b = tx at *
                obtain ⟨x0, x1⟩ := (cells_at hP3) i (num, v, bs) HM.out
                have hbd2 : bd < W3.heap.size := hP3.lt bd (by simp)
                have hg02 : g0 < W3.heap.size := hP3.lt g0 (by simp [Value.ownBlock])
                obtain ⟨hne1, hne2⟩ := hP3.ne_row
                go_wp2
                go_region_law (refine step_srow rfl (.tmp 87) (.tmp 89) rfl v bs (by simp [Act.eval]) (by exact World.ownsRow.alloc (hP3.rows (num, v, bs) HMEM.out) _) ⟨W3.heap.size, 0, none⟩ tx 1 (by simp [Act.eval]) (by exact cell_one_new W3 _ _) HBL.out ?_; intro g cp w4 hS4 hG4 hat4 hlt4; have hTW := ((Touch.refl [] W3).alloc (.cells #[.string tx] 9)).drew; have hT4 := after_row hTW hG4; have hat5 : v.ownBlock = some g ∨ W3.heap.size ≤ g := hat4.imp id (fun e => by rw [e]; exact hTW.size); obtain ⟨k4, kx, ky, k3, kf3⟩ := facts4 hP3 HM.out hT4; clear hTW hat4 hG4)
                all_goals
                  go_wp2
                  go_ret
                  have hx := rappend_end hP3 HM.out hS4 hT4 hat5
                  refine ⟨by rw [E.out]; rfl, ⟨_, by rw [E.out]; exact hx.1, fun k hk => (hx.2.1 k hk).imp id (fun q => Nat.le_trans HSZ3.out q), by simp⟩, ((HTW3.out).mono HSUB.out).trans (hx.2.2.mono ?_)⟩
                  intro k hk
                  simpa [Value.ownBlock] using hk
          · have h3b : (d.f3 == 1) = false := by simp [hf3]
            rw [if_neg hf3] at E0
            rw [h3b] at HC3
            have E : Hid _ := E0
            clear hf3 E0
            go_enter Try.func28, Try.ntmps28
            go_wp2_with fail
            refine HC1.out.mono ?_
            rintro e w1 ⟨rfl, hP1, hT1⟩
            go_wp2_with fail
            refine (HC3.out w1 hP1).mono ?_
            rintro e w2 ⟨rfl, hP2, hT2⟩
            go_wp2_with fail
            refine (HPL.out w2 hP2).mono ?_
            rintro e w2' ⟨rfl, hw2⟩
            subst hw2
            obtain ⟨c0, c1, _, c3, c4, _, c6, _⟩ := RCells hP2.disk
            have HT12 : Hid (Touch [bd, bf] w w2') := hT1.trans hT2
            go_wp2
            go_big_quiet ((go_at_call 34; exact Calls.quiet_of_same (HUS.out _ (hP2.away (F := []) ⟨rfl, rfl, rfl, Nat.le_refl _, fun _ _ _ => rfl⟩ (by simp)))))
            have hTW0 : Touch [] w2' (w2'.drewN nq) := ⟨rfl, rfl, rfl, Nat.le_refl _, fun _ _ _ => rfl⟩
            have hPW := hP2.away hTW0 (by simp)
            clear c0 c1 c3 c4 c6
            generalize w2'.drewN nq = W at *
            clear hP2 hP1 hT1 hT2
            obtain ⟨c0, c1, _, c3, c4, _, c6, _⟩ := RCells hPW.disk
            have HSZ : Hid (w.heap.size ≤ W.heap.size) := Nat.le_trans HT12.out.size hTW0.size
            have HTW : Hid (Touch [bd, bf] w W) := HT12.out.trans (hTW0.mono (by simp))
            clear hTW0 HT12
            obtain ⟨x0, x1⟩ := (cells_at hPW) i (num, v, bs) HM.out
            have hbd2 : bd < W.heap.size := hPW.lt bd (by simp)
            have hg02 : g0 < W.heap.size := hPW.lt g0 (by simp [Value.ownBlock])
            obtain ⟨hne1, hne2⟩ := hPW.ne_row
            go_wp2
            go_region_law (refine step_srow rfl (.tmp 87) (.tmp 89) rfl v bs (by simp [Act.eval]) (by exact World.ownsRow.alloc (hPW.rows (num, v, bs) HMEM.out) _) ⟨W.heap.size, 0, none⟩ text 1 (by simp [Act.eval]) (by exact cell_one_new W _ _) HBL.out ?_; intro g cp w4 hS4 hG4 hat4 hlt4; have hTW := ((Touch.refl [] W).alloc (.cells #[.string text] 9)).drew; have hT4 := after_row hTW hG4; have hat5 : v.ownBlock = some g ∨ W.heap.size ≤ g := hat4.imp id (fun e => by rw [e]; exact hTW.size); obtain ⟨k4, kx, ky, k3, kf3⟩ := facts4 hPW HM.out hT4; clear hTW hat4 hG4)
            all_goals
              go_wp2
              go_ret
              have hx := rappend_end hPW HM.out hS4 hT4 hat5
              refine ⟨by rw [E.out]; rfl, ⟨_, by rw [E.out]; exact hx.1, fun k hk => (hx.2.1 k hk).imp id (fun q => Nat.le_trans HSZ.out q), by simp⟩, ((HTW.out).mono HSUB.out).trans (hx.2.2.mono ?_)⟩
              intro k hk
              simpa [Value.ownBlock] using hk
end Go.Proofs.Ytjoinhljdbljaaa
