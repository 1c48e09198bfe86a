/- The next record of a run, where a block must be read for it. A reader of a run, by what it has still to give. A sorter's own cells; the walk of its pop. A sorter's runs, on a disk without faults; the walk of endRun. -/
import Derived.Test.YtjoinhljdbljaaaGreatRunEToRunI
namespace Go.Proofs.YtjoinhljdbljaaaGreat
open Go.RowKit

/-- What the stores at the end of Next leave: B is the record's box, N the result's. -/
theorem next_fin2 {w w1 : World} {F : List Nat} {N B q r k g al : Nat} {no : Int} {s s2 : ByteArray} {row : List V} (hT : Touch F w w1) (hqF : q ∈ F) (hN : w.heap.size ≤ N) (hB : w.heap.size ≤ B) (hNB : N ≠ B) (hqN : q ≠ N) (hqB : q ≠ B) (bA : w1.heap[N]? = some (.cells #[.int .i64 0, .slice none 0 0] 205 (0, 0))) (bB : w1.heap[B]? = some (.cells #[.int .i64 0, .slice none 0 0] 205 (0, 0))) (bQ : RdAt w1 q r k s) (hG : RowAt w1 (.slice (some ⟨g, 0, none⟩) al al) row) :
    RowAt (((((w1.setCell ⟨B, 0, none⟩ (.int .i64 no)).setCell ⟨B, 1, none⟩ (.slice (some ⟨g, 0, none⟩) al al)).setCell ⟨q, 2, none⟩ (.string s2)).setCell ⟨N, 0, none⟩ (.int .i64 no)).setCell ⟨N, 1, none⟩ (.slice (some ⟨g, 0, none⟩) al al)) (.slice (some ⟨g, 0, none⟩) al al) row ∧
    RdAt (((((w1.setCell ⟨B, 0, none⟩ (.int .i64 no)).setCell ⟨B, 1, none⟩ (.slice (some ⟨g, 0, none⟩) al al)).setCell ⟨q, 2, none⟩ (.string s2)).setCell ⟨N, 0, none⟩ (.int .i64 no)).setCell ⟨N, 1, none⟩ (.slice (some ⟨g, 0, none⟩) al al)) q r k s2 ∧
    Touch [B, q, N] w1 (((((w1.setCell ⟨B, 0, none⟩ (.int .i64 no)).setCell ⟨B, 1, none⟩ (.slice (some ⟨g, 0, none⟩) al al)).setCell ⟨q, 2, none⟩ (.string s2)).setCell ⟨N, 0, none⟩ (.int .i64 no)).setCell ⟨N, 1, none⟩ (.slice (some ⟨g, 0, none⟩) al al)) ∧
    Touch F w (((((w1.setCell ⟨B, 0, none⟩ (.int .i64 no)).setCell ⟨B, 1, none⟩ (.slice (some ⟨g, 0, none⟩) al al)).setCell ⟨q, 2, none⟩ (.string s2)).setCell ⟨N, 0, none⟩ (.int .i64 no)).setCell ⟨N, 1, none⟩ (.slice (some ⟨g, 0, none⟩) al al)) := by
  have t := (((((Touch.refl [B, q, N] w1).setCell (p := ⟨B, 0, none⟩) (by simp) (.int .i64 no)).setCell (p := ⟨B, 1, none⟩) (by simp) (.slice (some ⟨g, 0, none⟩) al al)).setCell (p := ⟨q, 2, none⟩) (by simp) (.string s2)).setCell (p := ⟨N, 0, none⟩) (by simp) (.int .i64 no)).setCell (p := ⟨N, 1, none⟩) (by simp) (.slice (some ⟨g, 0, none⟩) al al)
  refine ⟨?_, ?_, t, ?_⟩
  · refine Sl3.keep hG (t.tag (fun i hi cs f e => ?_))
    simp only [List.mem_cons, List.not_mem_nil, or_false] at hi
    rcases hi with rfl | rfl | rfl
    · rw [bB] at e; simp at e
    · rw [show w1.heap[i]? = _ from bQ] at e; simp at e
    · rw [bA] at e; simp at e
  · unfold RdAt at *
    rw [Below.heap_setCell _ _ _ _ (by simpa using hqN), Below.heap_setCell _ _ _ _ (by simpa using hqN)]
    rw [heap_setCell_same _ q 2 (rdCells r k s) 241 (.string s2) (by rw [Below.heap_setCell _ _ _ _ (by simpa using hqB), Below.heap_setCell _ _ _ _ (by simpa using hqB)]; exact bQ)]
    simp [rdCells]
  · exact hT.onto t (fun i hi => by
      simp only [List.mem_cons, List.not_mem_nil, or_false] at hi
      rcases hi with rfl | rfl | rfl
      · exact .inr hB
      · exact .inl hqF
      · exact .inr hN)

set_option maxRecDepth 20000 in
set_option maxHeartbeats 4000000 in
theorem next_read (w : World) (q r k n bx bm blk file : Nat) (v : Value) (x : Rec) (l : List UInt8) (d : DS) (M : List PF) (hq : RdAt w q r k ⟨#[]⟩) (hr : w.heap[r]? = some (.cells (runCells bx blk file x.row.length n v) 223 (0, 0))) (hk : k < n) (hk2 : n ≤ 1000000000)
    (hn : I64 x.no) (hf : ∀ y ∈ x.row, Fair y) (hc1 : 1 ≤ x.row.length) (hc : x.row.length ≤ 1000) (hP : PD w bx bm d M)
    (hrd : ∀ W, Touch [] w W → Calls Tryz.prog 157 #[.pointer (some ⟨r, 0, none⟩), .int .i64 (k : Int)] W fun e w' => e = .returned (.string (BA (encR x ++ l))) ∧ PD w' bx bm d M ∧ Touch [bx] W w') :
    Calls Tryz.prog 117 #[.pointer (some ⟨q, 0, none⟩)] w fun e w' => ∃ g, e = .returned (.tuple #[.agg #[.int .i64 x.no, .slice (some ⟨g, 0, none⟩) x.row.length x.row.length], .bool true]) ∧ RowAt w' (.slice (some ⟨g, 0, none⟩) x.row.length x.row.length) x.row ∧ RdAt w' q r (k + 1) (BA l) ∧ w.heap.size ≤ g ∧ PD w' bx bm d M ∧ Touch [q, bx] w w' := by
  have HTK : Hid (∀ W, Calls Tryz.prog 158 #[.string (BA (encR x ++ l)), .int .i64 (x.row.length : Int)] W fun e w' => ∃ g, e = .returned (.tuple #[.agg #[.int .i64 x.no, .slice (some ⟨g, 0, none⟩) x.row.length x.row.length], .string (BA l)]) ∧ RowAt w' (.slice (some ⟨g, 0, none⟩) x.row.length x.row.length) x.row ∧ W.heap.size ≤ g ∧ Touch [] W w') := fun W => take_any x hn hf hc1 hc l W
  have HRD : Hid _ := hrd
  obtain ⟨a0, a1, a2⟩ := box3 hq
  obtain ⟨c0, c1, c2, c3, c4, c5, _⟩ := box6 hr
  have hlt := lt_of_cell a0
  have hlt2 := lt_of_cell c0
  simp only at hlt hlt2
  have he : (ByteArray.toList ⟨#[]⟩).isEmpty = true := by rw [ByteArray.toList_eq]; rfl
  have hkn : ((k : Int) == (n : Int)) = false := by simp; omega
  have hqb : q ≠ bx := fun e => (hP.notag (t := 241) (by decide) (by decide)).not_mem hq (by rw [e]; exact List.mem_cons_self)
  have hrb : r ≠ bx := fun e => (hP.notag (t := 223) (by decide) (by decide)).not_mem hr (by rw [e]; exact List.mem_cons_self)
  have hqr : q ≠ r := fun e => by subst e; unfold RdAt at hq; rw [hq] at hr; simp at hr
  have hbxlt : bx < w.heap.size := hP.lt bx List.mem_cons_self
  have HQD : Hid (q ∉ diskF bx bm M) := (hP.notag (t := 241) (by decide) (by decide)).not_mem hq
  have HQ : Hid (RdAt w q r k ⟨#[]⟩) := hq
  have HR : Hid (w.heap[r]? = some (.cells (runCells bx blk file x.row.length n v) 223 (0, 0))) := hr
  have HPLT : Hid (∀ j ∈ diskF bx bm M, j < w.heap.size) := hP.lt
  clear hq hr hn hf hrd hP
  generalize BA (encR x ++ l) = s at *
  generalize BA l = s2 at *
  generalize hrow : x.row = row at *
  generalize x.no = no at *
  clear hrow
  generalize row.length = al at *
  have HW1 : Hid (∀ W0 w1, Touch [bx] W0 w1 → W0.heap = (w.alloc (.cells #[.int .i64 0, .slice none 0 0] 205)).heap → RdAt w1 q r k ⟨#[]⟩ ∧ w1.heap[w.heap.size]? = some (.cells #[.int .i64 0, .slice none 0 0] 205 (0, 0)) ∧ w1.heap[r]? = some (.cells (runCells bx blk file al n v) 223 (0, 0)) ∧ w.heap.size < w1.heap.size) := fun W0 w1 ht h0 => by
    refine ⟨?_, ?_, ?_, ?_⟩
    · unfold RdAt
      rw [ht.block q (by rw [h0]; simp; omega) (by simpa using hqb), h0, Below.heap_alloc _ _ _ hlt]; exact HQ.out
    · rw [ht.block _ (by rw [h0]; simp) (by simp; omega), h0]; exact heap_alloc_new w _
    · rw [ht.block r (by rw [h0]; simp; omega) (by simpa using hrb), h0, Below.heap_alloc _ _ _ hlt2]; exact HR.out
    · have := ht.size; rw [h0] at this; simp at this; omega
  go_enter Tryz.func117, Tryz.ntmps117
  go_wp2
  go_big_quiet (fail)
  go_wp2_with fail
  go_region_with (go_at_call 157; refine (HRD.out _ (((Touch.refl [] w).alloc _).drewN (nq + 1))).mono ?_; rintro e w1 ⟨rfl, hP1, hT1⟩; obtain ⟨bQ, bA, bR, hsz1⟩ := HW1.out _ _ hT1 rfl; obtain ⟨z0, z1, z2⟩ := box3 bQ; have g1 : w1.frozen? ⟨q, 1, none⟩ = false := (by simp [World.frozen?, show w1.heap[q]? = _ from bQ]); have g2 : w1.frozen? ⟨q, 2, none⟩ = false := (by simp [World.frozen?, show w1.heap[q]? = _ from bQ]); have HBQ : Hid (RdAt w1 q r k ⟨#[]⟩) := bQ; have HBA : Hid _ := bA; have HBR : Hid _ := bR; clear bQ bA bR)
  all_goals
    obtain ⟨e0, e1, e2, e3, e4, e5, _⟩ := box6 HBR.out
    have HT1 : Hid (Touch [q, bx] w w1) := ((((Touch.refl [q, bx] w).alloc _).drewN (nq + 1))).trans (hT1.mono (by simp))
    have HP1 : Hid (PD w1 bx bm d M) := hP1
    have HAFT : Hid (∀ W0 w5, Touch [] W0 w5 → W0.heap = (((w1.setCell ⟨q, 2, none⟩ (.string s)).setCell ⟨q, 1, none⟩ (.int .i64 ((k : Int) + 1))).alloc (.cells #[.int .i64 0, .slice none 0 0] 205)).heap → w5.heap[w.heap.size]? = some (.cells #[.int .i64 0, .slice none 0 0] 205 (0, 0)) ∧ w5.heap[w1.heap.size]? = some (.cells #[.int .i64 0, .slice none 0 0] 205 (0, 0)) ∧ RdAt w5 q r (k + 1) s) := fun W0 w5 ht h0 => by
      have hql : q < w1.heap.size := by omega
      have hNw : w.heap.size ≠ q := by omega
      refine ⟨?_, ?_, ?_⟩
      · rw [ht.block _ (by rw [h0]; simp; omega) (by simp), h0, Below.heap_alloc _ _ _ (by simp; omega), Below.heap_setCell _ _ _ _ (by simpa using hNw), Below.heap_setCell _ _ _ _ (by simpa using hNw)]; exact HBA.out
      · have := heap_alloc_new ((w1.setCell ⟨q, 2, none⟩ (.string s)).setCell ⟨q, 1, none⟩ (.int .i64 ((k : Int) + 1))) (.cells #[.int .i64 0, .slice none 0 0] 205)
        rw [show ((w1.setCell ⟨q, 2, none⟩ (.string s)).setCell ⟨q, 1, none⟩ (.int .i64 ((k : Int) + 1))).heap.size = w1.heap.size from by simp] at this
        rw [ht.block _ (by rw [h0]; simp) (by simp), h0]; exact this
      · unfold RdAt
        rw [ht.block _ (by rw [h0]; simp; omega) (by simp), h0, Below.heap_alloc _ _ _ (by simp; omega)]
        rw [heap_setCell_same _ q 1 _ 241 _ (heap_setCell_same w1 q 2 _ 241 (.string s) HBQ.out)]
        simp [rdCells]
    have HTT : Hid (∀ W0 w5, Touch [] W0 w5 → W0.heap = (((w1.setCell ⟨q, 2, none⟩ (.string s)).setCell ⟨q, 1, none⟩ (.int .i64 ((k : Int) + 1))).alloc (.cells #[.int .i64 0, .slice none 0 0] 205)).heap → W0.os = w1.os → W0.tape = w1.tape → W0.output = w1.output → Touch [q] w1 w5) := fun W0 w5 ht h0 p1 p2 p3 => by
      have t1 : Touch [q] w1 (((w1.setCell ⟨q, 2, none⟩ (.string s)).setCell ⟨q, 1, none⟩ (.int .i64 ((k : Int) + 1))).alloc (.cells #[.int .i64 0, .slice none 0 0] 205)) := (((Touch.refl [q] w1).setCell (p := ⟨q, 2, none⟩) (by simp) _).setCell (p := ⟨q, 1, none⟩) (by simp) _).alloc _
      refine Touch.trans ⟨p1, p2, p3, by rw [h0]; exact t1.size, fun j hj hn => by rw [h0]; exact t1.block j hj hn⟩ (ht.mono (by simp))
    clear hT1 hP1 a0 a1 a2 c0 c1 c2 c3 c4 c5
    have hq1 : q < w1.heap.size := by omega
    have hr1 : r < w1.heap.size := by omega
    go_wp2_with fail
    go_region_with (go_at_call 158; refine (HTK.out _).mono ?_; rintro e w5 ⟨g, rfl, hG5, hg5, hT5⟩; obtain ⟨bA, bB, bQ⟩ := HAFT.out _ _ hT5 rfl; obtain ⟨x0, x1⟩ := box2 bA; obtain ⟨y0, y1⟩ := box2 bB; obtain ⟨z5, z6, z7⟩ := box3 bQ; have g3 : w5.frozen? ⟨w.heap.size, 0, none⟩ = false := (by simp [World.frozen?, bA]); have g4 : w5.frozen? ⟨w.heap.size, 1, none⟩ = false := (by simp [World.frozen?, bA]); have g5 : w5.frozen? ⟨w1.heap.size, 0, none⟩ = false := (by simp [World.frozen?, bB]); have g6 : w5.frozen? ⟨w1.heap.size, 1, none⟩ = false := (by simp [World.frozen?, bB]); have g7 : w5.frozen? ⟨q, 2, none⟩ = false := (by simp [World.frozen?, show w5.heap[q]? = _ from bQ]); have HCA : Hid _ := bA; have HCB : Hid _ := bB; have HCQ : Hid (RdAt w5 q r (k + 1) s) := bQ; have HT5 : Hid (Touch [q] w1 w5) := HTT.out _ _ hT5 rfl rfl rfl rfl; clear bA bB bQ)
  all_goals
    have HG5 : Hid _ := hG5
    have hgg : w.heap.size ≤ g := by simp at hg5; omega
    have hNB : w.heap.size ≠ w1.heap.size := by omega
    clear hT5 hG5 hg5 z0 z1 z2 e0 e1 e2 e3 e4 e5 HAFT HTT HTK HRD HW1
    go_wp2
    obtain ⟨r1, r2, r3, r4⟩ := next_fin2 (F := [q, bx]) (no := no) (s2 := s2) (HT1.out.trans (HT5.out.mono (by simp))) (by simp) (Nat.le_refl w.heap.size) (Nat.le_of_lt hsz1) hNB (by omega) (by omega) HCA.out HCB.out HCQ.out HG5.out
    refine bodyPost_ret (v := .tuple #[.agg #[.int .i64 no, .slice (some ⟨g, 0, none⟩) al al], .bool true]) (by simp [results, Tryz.results117, go_sem, x0, x1]) rfl ⟨g, rfl, r1, r2, hgg, (HP1.out.away HT5.out ?_).away r3 ?_, r4⟩
    · intro j hj e
      rw [List.mem_singleton.1 e] at hj
      exact HQD.out hj
    · intro j hj e
      have hjl := HPLT.out j hj
      simp only [List.mem_cons, List.not_mem_nil, or_false] at e
      rcases e with e | e | e
      · omega
      · rw [e] at hj; exact HQD.out hj
      · omega
end Go.Proofs.YtjoinhljdbljaaaGreat

namespace Go.Proofs.YtjoinhljdbljaaaGreat
open Go.RowKit

def RdIs (w : World) (q r : Nat) (cs : List (List Rec)) (left : List Rec) : Prop := ∃ k rest, RdAt w q r k (BA (encs rest)) ∧ left = rest ++ (cs.drop k).flatten ∧ k ≤ cs.length

theorem RdIs.touch {F : List Nat} {w w' : World} {q r : Nat} {cs : List (List Rec)} {left : List Rec} (h : RdIs w q r cs left) (t : TouchU F w w') (hq : q ∉ F) : RdIs w' q r cs left := by
  obtain ⟨k, rest, h1, h2⟩ := h
  exact ⟨k, rest, t.keep h1 (by decide) hq, h2⟩
theorem RdIs.cell {w : World} {q r : Nat} {cs : List (List Rec)} {left : List Rec} (h : RdIs w q r cs left) : ∃ c, w.heap[q]? = some (.cells c 241 (0, 0)) := by
  obtain ⟨k, rest, h1, h2⟩ := h
  exact ⟨_, h1⟩

theorem flatten_ne {cs : List (List Rec)} (hf : ∀ c ∈ cs, c ≠ []) (h : cs.flatten = []) : cs = [] := by
  cases cs with
  | nil => rfl
  | cons c cs =>
    exfalso
    have := hf c (by simp)
    simp at h
    exact this h.1

theorem next_nil (w : World) (q r bx blk file cols : Nat) (cs : List (List Rec)) (d : DS) (hR : RunEnd w r bx blk file cols cs d) (hq : RdIs w q r cs []) :
    Calls Tryz.prog 117 #[.pointer (some ⟨q, 0, none⟩)] w fun e w' => e = .returned (.tuple #[.agg #[.int .i64 0, .slice none 0 0], .bool false]) ∧ Touch [] w w' := by
  obtain ⟨k, rest, h1, h2, h3⟩ := hq
  have h4 := List.append_eq_nil_iff.1 h2.symm
  have h5 : cs.drop k = [] := flatten_ne (fun c hc => (hR.full c (List.mem_of_mem_drop hc)).1) h4.2
  have h6 : cs.length ≤ k := List.drop_eq_nil_iff.1 h5
  rw [h4.1] at h1
  exact next_end w q r k cs.length bx blk file cols (.slice none 0 0) h1 hR.cell (by omega)

theorem encs_cons (x : Rec) (l : List Rec) : encs (x :: l) = encR x ++ encs l := by simp [encs]
theorem encs_small {blk cols : Nat} {l : List Rec} (h : ∀ x ∈ l, RecOK blk cols x) : (encs l).length ≤ blk * l.length := by
  induction l with
  | nil => simp [encs]
  | cons x l ih =>
    have h1 := encR_len (r := x) (h x (by simp)).fair
    have h2 := (h x (by simp)).size
    have h3 := ih (fun y hy => h y (by simp [hy]))
    rw [encs_cons, List.length_append, List.length_cons, Nat.mul_add]
    omega

theorem next_cons (w : World) (q r bx bm blk file cols : Nat) (cs : List (List Rec)) (d : DS) (M : List PF) (x : Rec) (l : List Rec) (hR : RunEnd w r bx blk file cols cs d) (hq : RdIs w q r cs (x :: l)) (hP : PD w bx bm d M) (ok : DiskOK d)
    (hall : ∀ y ∈ x :: l, RecOK blk cols y) (hc1 : 1 ≤ cols) (hc : cols ≤ 1000) (hfl : file ≤ 1000000000) (hn : cs.length ≤ 100000000) (hch : ∀ c ∈ cs, (encs c).length ≤ 1000000) :
    Calls Tryz.prog 117 #[.pointer (some ⟨q, 0, none⟩)] w fun e w' => ∃ g, e = .returned (.tuple #[.agg #[.int .i64 x.no, .slice (some ⟨g, 0, none⟩) cols cols], .bool true]) ∧ RowAt w' (.slice (some ⟨g, 0, none⟩) cols cols) x.row ∧ RdIs w' q r cs l ∧ w.heap.size ≤ g ∧ PD w' bx bm d M ∧ Touch [q, bx] w w' := by
  obtain ⟨k, rest, h1, h2, h3⟩ := hq
  have hx := hall x (by simp)
  have hlen := hx.len
  have hcell := hR.cell
  rw [← hlen] at hcell
  cases rest with
  | cons y rest =>
    simp only [List.cons_append, List.cons.injEq] at h2
    obtain ⟨rfl, h2⟩ := h2
    rw [encs_cons] at h1
    refine (next_have w q r k cs.length bx blk file (.slice none 0 0) x (encs rest) h1 hcell hx.no hx.fair (by omega) (by omega)).mono ?_
    rintro e w' ⟨g, rfl, p1, p2, p3, p4⟩
    rw [hlen] at p1 ⊢
    have hqd : q ∉ diskF bx bm M := (hP.notag (t := 241) (by decide) (by decide)).not_mem h1
    exact ⟨g, rfl, p1, ⟨k, rest, p2, h2, h3⟩, p3, hP.away p4 (fun j hj e => by rw [List.mem_singleton.1 e] at hj; exact hqd hj), p4.mono (by simp)⟩
  | nil =>
    have hk : k < cs.length := by
      rcases Nat.lt_or_ge k cs.length with h | h
      · exact h
      · rw [List.drop_of_length_le h] at h2; simp at h2
    rw [List.drop_eq_getElem_cons hk] at h2
    have hne := (hR.full cs[k] (List.getElem_mem _)).1
    cases hck : cs[k] with
    | nil => exact absurd hck hne
    | cons y c' =>
      rw [hck] at h2
      simp only [List.nil_append, List.flatten_cons, List.cons_append, List.cons.injEq] at h2
      obtain ⟨rfl, h2⟩ := h2
      refine (next_read w q r k cs.length bx bm blk file (.slice none 0 0) x (encs c') d M h1 hcell hk (by omega) hx.no hx.fair (by omega) (by omega) hP (fun W hW => ?_)).mono ?_
      · have hRW : RunEnd W r bx blk file cols cs d := ⟨by rw [hW.block r (Array.getElem?_eq_some_iff.1 hR.cell).1 (by simp)]; exact hR.cell, hR.got, hR.full⟩
        have := read_any W r bx bm blk file cols k cs d M hRW (hP.away hW (by simp)) ok hk (hch _ (List.getElem_mem _)) hfl (by omega)
        rw [hck, encs_cons] at this
        exact this
      · rintro e w' ⟨g, rfl, p1, p2, p3, p4, p5⟩
        rw [hlen] at p1 ⊢
        exact ⟨g, rfl, p1, ⟨k + 1, c', p2, h2, by omega⟩, p3, p4, p5⟩

set_option maxHeartbeats 400000 in
theorem reader_any (w : World) (r : Nat) (cs : List (List Rec)) : Calls Tryz.prog 116 #[.pointer (some ⟨r, 0, none⟩)] w fun e w' => e = .returned (.pointer (some ⟨w.heap.size, 0, none⟩)) ∧ RdIs w' w.heap.size r cs cs.flatten ∧ w.heap.size < w'.heap.size ∧ Touch [] w w' := by
  go_enter Tryz.func116, Tryz.ntmps116
  go_wp2
  go_ret
  exact ⟨rfl, ⟨0, [], heap_alloc_new w _, by simp, Nat.zero_le _⟩, by simp, (Touch.refl _ _).alloc _⟩
end Go.Proofs.YtjoinhljdbljaaaGreat

namespace Go.Proofs.YtjoinhljdbljaaaGreat
open Go.RowKit

structure SC where
  bx : Nat
  blk : Nat
  kv : Value
  count : Nat
  most : Nat
  fan : Nat
  ph : Nat
  held : Nat
  came : Nat
  run : Int
  length : Nat
  lno : Int
  lv : Value
  rv : Value
  mg : Value
  given : Nat

def SC.cells (s : SC) : Array Value :=
  #[.pointer (some ⟨s.bx, 0, none⟩), .int .i64 (s.blk : Int), s.kv, .int .i64 (s.count : Int), .int .i64 (s.most : Int), .int .i64 (s.fan : Int), .pointer (some ⟨s.ph, 0, none⟩), .int .i64 (s.held : Int), .int .i64 (s.came : Int), .int .i64 s.run, .int .i64 (s.length : Int), .int .i64 s.lno, s.lv, s.rv, s.mg, .int .i64 (s.given : Int)]
def SorterAt (w : World) (ps : Nat) (s : SC) : Prop := w.heap[ps]? = some (.cells s.cells 260 (0, 0))

theorem SorterAt.cell {w : World} {ps : Nat} {s : SC} (h : SorterAt w ps s) :
    w.cell? ⟨ps, 0, none⟩ = some (.pointer (some ⟨s.bx, 0, none⟩)) ∧ w.cell? ⟨ps, 1, none⟩ = some (.int .i64 (s.blk : Int)) ∧ w.cell? ⟨ps, 2, none⟩ = some s.kv ∧ w.cell? ⟨ps, 3, none⟩ = some (.int .i64 (s.count : Int)) ∧ w.cell? ⟨ps, 4, none⟩ = some (.int .i64 (s.most : Int)) ∧ w.cell? ⟨ps, 5, none⟩ = some (.int .i64 (s.fan : Int)) ∧ w.cell? ⟨ps, 6, none⟩ = some (.pointer (some ⟨s.ph, 0, none⟩)) ∧ w.cell? ⟨ps, 7, none⟩ = some (.int .i64 (s.held : Int)) ∧ w.cell? ⟨ps, 8, none⟩ = some (.int .i64 (s.came : Int)) ∧ w.cell? ⟨ps, 9, none⟩ = some (.int .i64 s.run) ∧ w.cell? ⟨ps, 10, none⟩ = some (.int .i64 (s.length : Int)) ∧ w.cell? ⟨ps, 11, none⟩ = some (.int .i64 s.lno) ∧ w.cell? ⟨ps, 12, none⟩ = some s.lv ∧ w.cell? ⟨ps, 13, none⟩ = some s.rv ∧ w.cell? ⟨ps, 14, none⟩ = some s.mg ∧ w.cell? ⟨ps, 15, none⟩ = some (.int .i64 (s.given : Int)) ∧ ∀ o, w.frozen? ⟨ps, o, none⟩ = false := by
  unfold SorterAt at h
  refine ⟨?_, ?_, ?_, ?_, ?_, ?_, ?_, ?_, ?_, ?_, ?_, ?_, ?_, ?_, ?_, ?_, ?_⟩
  all_goals first | (intro o; simp [World.frozen?, h]; done) | simp [World.cell?, h, SC.cells]

theorem SorterAt.u {F : List Nat} {w w' : World} {ps : Nat} {s : SC} (h : SorterAt w ps s) (t : TouchU F w w') (hn : ps ∉ F) : SorterAt w' ps s := t.keep h (by decide) hn

theorem SorterAt.held {w : World} {ps : Nat} {s : SC} (h : SorterAt w ps s) (n : Nat) : SorterAt (w.setCell ⟨ps, 7, none⟩ (.int .i64 (n : Int))) ps { s with held := n } := by
  unfold SorterAt at *
  rw [heap_setCell_same w ps 7 _ 260 _ h]
  simp [SC.cells]

/-- The heap stays, where other boxes turn: the sorter's own cells (but for its keys), and boxes of no row, key or link. -/
theorem HeapSt.away {w w' : World} {ph : Nat} {v : Value} {bs ps : Nat} {ks : List K} {L : List EV} {s s' : SC} {F : List Nat} (h : HeapSt w ph v bs ps ks L) (hs : SorterAt w ps s) (hs' : SorterAt w' ps s') (hk : s'.kv = s.kv) (t : TouchU F w w') (hF : ∀ k ∈ F, k ∉ heapF ph v) (n1 : NoTag 228 w F) (n2 : NoTag 73 w F) (n3 : NoTag 85 w F) : HeapSt w' ph v bs ps ks L := by
  obtain ⟨cs, f, vk, k1, k2, k3⟩ := h.ctx.keys
  refine ⟨t.keep h.head (by decide) (fun e => hF _ e (by simp [heapF])), ?_, ⟨t.tag (by decide) n1 _ _ _ h.ctx.s, s'.cells, (0, 0), vk, hs', ?_, Sl3.keep k3 (t.tag (by decide) n2)⟩, fun x hx => ⟨Sl3.keep (h.rows x hx).1 (t.tag (by decide) n3), (h.rows x hx).2⟩, h.ok⟩
  · obtain ⟨h1, h2⟩ := h.items
    refine ⟨h1, ?_⟩
    rcases h2 with h2 | ⟨g, cap, cur, e, hb, hh, rest⟩
    · exact .inl h2
    · exact .inr ⟨g, cap, cur, e, hb, t.keep hh (by decide) (fun e' => hF _ e' (by simp [heapF, e, Value.ownBlock])), rest⟩
  · unfold SorterAt at hs
    rw [hs] at k1
    simp only [Option.some.injEq, Obj.cells.injEq] at k1
    rw [← k1.1] at k2
    simp only [SC.cells] at k2 ⊢
    simpa [hk] using k2

theorem HeapSt.notag {w : World} {ph : Nat} {v : Value} {bs ps : Nat} {ks : List K} {L : List EV} (h : HeapSt w ph v bs ps ks L) {t : TypeId} (h1 : 302 ≠ t) (h2 : 263 ≠ t) : NoTag t w (heapF ph v) :=
  (h.items.notag h2).cons h.head h1

/-- The heap stays, where the sorter's own cells turn (but for its keys). -/
theorem HeapSt.turn {w w' : World} {ph : Nat} {v : Value} {bs ps : Nat} {ks : List K} {L : List EV} {s s' : SC} (h : HeapSt w ph v bs ps ks L) (hs : SorterAt w ps s) (hs' : SorterAt w' ps s') (hk : s'.kv = s.kv) (t : TouchU [ps] w w') : HeapSt w' ph v bs ps ks L := by
  have hps : ∀ t', (260 : TypeId) ≠ t' → NoTag t' w [ps] := fun t' ht => notag_of hs ht
  refine h.away hs hs' hk t (fun k e => ?_) (hps _ (by decide)) (hps _ (by decide)) (hps _ (by decide))
  rw [List.mem_singleton.1 e]
  exact (h.notag (t := 260) (by decide) (by decide)).not_mem hs

def sizes (L : List EV) : Int := (L.map fun x => x.1.size).sum
theorem size_le {L : List EV} {x : EV} (hx : x ∈ L) (hp : ∀ y ∈ L, 0 ≤ y.1.size) : x.1.size ≤ sizes L := by
  induction L with
  | nil => simp at hx
  | cons a L ih =>
    have h0 := hp a (by simp)
    have hn : 0 ≤ sizes L := sizes_nn (fun y hy => hp y (by simp [hy]))
    have e : sizes (a :: L) = a.1.size + sizes L := by simp [sizes]
    rcases List.mem_cons.1 hx with rfl | hx
    · omega
    · have := ih hx (fun y hy => hp y (by simp [hy])); omega
 where
  sizes_nn {L : List EV} (hp : ∀ y ∈ L, 0 ≤ y.1.size) : 0 ≤ sizes L := by
    induction L with
    | nil => simp [sizes]
    | cons a L ih =>
      have h0 := hp a (by simp)
      have := ih (fun y hy => hp y (by simp [hy]))
      have e : sizes (a :: L) = a.1.size + sizes L := by simp [sizes]
      omega

theorem HeapSt.quiet {w w' : World} {ph : Nat} {v : Value} {bs ps : Nat} {ks : List K} {L : List EV} (h : HeapSt w ph v bs ps ks L) (t : Touch [] w w') : HeapSt w' ph v bs ps ks L := by
  refine ⟨h.head.touch t (by simp), ?_, h.ctx.keep (t.tag0 _) (t.tag0 _) (t.tag0 _), fun x hx => ⟨(h.rows x hx).1.touch t, (h.rows x hx).2⟩, h.ok⟩
  obtain ⟨h1, h2⟩ := h.items
  refine ⟨h1, ?_⟩
  rcases h2 with h2 | ⟨g, cap, cur, e, hb, hh, rest⟩
  · exact .inl h2
  · exact .inr ⟨g, cap, cur, e, hb, t.tag0 _ _ _ _ hh, rest⟩

theorem pop_any (w : World) (ph : Nat) (v : Value) (bs ps : Nat) (ks : List K) (L : List EV) (x : EV) (h : HeapSt w ph v bs ps ks L) (h0 : L[0]? = some x) (hsmall : L.length ≤ 100000000) :
    Calls Tryz.prog 207 #[.pointer (some ⟨ph, 0, none⟩)] w fun e w' => e = .returned x.val ∧ ∃ v' L', HeapSt w' ph v' bs ps ks L' ∧ (x :: L').Perm L ∧ v'.ownBlock = v.ownBlock ∧ Touch (heapF ph v) w w' := by
  obtain ⟨hl, hx⟩ := List.getElem?_eq_some_iff.1 h0
  obtain ⟨g, cap, rfl, hA⟩ := h.at (fun e => by subst e; simp at hl)
  obtain ⟨n, hn⟩ : ∃ n, L.length = n + 1 := ⟨L.length - 1, by omega⟩
  refine (pop_at w ph g cap bs ps ks L n hA h.ok hn hsmall).mono ?_
  rintro e w' ⟨rfl, L', p1, p2, p3⟩
  rw [hx] at p2 ⊢
  exact ⟨rfl, _, L', p1, p2, rfl, p3.mono (by simp [heapF, Value.ownBlock])⟩

theorem perm_sum {a b : List Int} (h : a.Perm b) : a.sum = b.sum := by
  induction h with
  | nil => rfl
  | cons x _ ih => simp [ih]
  | swap x y l => simp only [List.sum_cons]; omega
  | trans _ _ h1 h2 => exact h1.trans h2
theorem sizes_perm {L L' : List EV} (h : L.Perm L') : sizes L = sizes L' := perm_sum (h.map _)

set_option maxRecDepth 20000 in
set_option maxHeartbeats 2000000 in
theorem sorterPop_any (w : World) (ps bs : Nat) (s : SC) (hv : Value) (ks : List K) (L : List EV) (x : EV) (hs : SorterAt w ps s) (hh : HeapSt w s.ph hv bs ps ks L) (h0 : L[0]? = some x) (hsmall : L.length ≤ 100000000) (hsz : (sizes L : Int) = s.held) (hpos : ∀ y ∈ L, 0 ≤ y.1.size) (hbig : s.held ≤ 1000000000) :
    Calls Tryz.prog 174 #[.pointer (some ⟨ps, 0, none⟩)] w fun e w' => e = .returned x.val ∧ ∃ hv' L' n, SorterAt w' ps { s with held := n } ∧ (sizes L' : Int) = n ∧ HeapSt w' s.ph hv' bs ps ks L' ∧ (x :: L').Perm L ∧ hv'.ownBlock = hv.ownBlock ∧ Touch (ps :: heapF s.ph hv) w w' := by
  obtain ⟨c0, c1, c2, c3, c4, c5, c6, c7, c8, c9, c10, c11, c12, c13, c14, c15, cf⟩ := hs.cell
  have hxm : x ∈ L := List.mem_of_getElem? h0
  obtain ⟨ao, acap, ea⟩ := (hh.rows x hxm).1.shape
  have hle : x.1.size ≤ s.held ∧ 0 ≤ x.1.size := by
    refine ⟨?_, hpos x hxm⟩
    rw [← hsz]
    exact size_le hxm hpos
  have HPOP : Hid (∀ W, Touch [] w W → Calls Tryz.prog 207 #[.pointer (some ⟨s.ph, 0, none⟩)] W fun e w' => e = .returned x.val ∧ ∃ v' L', HeapSt w' s.ph v' bs ps ks L' ∧ (x :: L').Perm L ∧ v'.ownBlock = hv.ownBlock ∧ Touch (heapF s.ph hv) W w') := fun W hW => pop_any W s.ph hv bs ps ks L x (hh.quiet hW) h0 hsmall
  have HSZ : Hid (sizes L = s.held) := hsz
  have HS : Hid (SorterAt w ps s) := hs
  have hpslt : ps < w.heap.size := (Array.getElem?_eq_some_iff.1 hs).1
  have HPN : Hid (ps ∉ heapF s.ph hv) := (hh.notag (t := 260) (by decide) (by decide)).not_mem hs
  have HLT : Hid (∀ k ∈ heapF s.ph hv, k < w.heap.size) := fun k hk => by
    rcases List.mem_cons.1 hk with e | e
    · rw [e]; exact (Array.getElem?_eq_some_iff.1 hh.head).1
    · obtain ⟨cs, f, e'⟩ := hh.items.tag k (by simpa using e)
      exact (Array.getElem?_eq_some_iff.1 e').1
  have HV : Hid (x.val = .agg #[.int .i64 x.1.rc.no, .slice ao x.1.rc.row.length acap, .int .i64 x.1.run, .int .i64 x.1.size]) := by show _ = _; unfold EV.val entVal; rw [ea]
  rw [HV.out] at HPOP ⊢
  have f7 := cf 7
  obtain ⟨hle1, hle2⟩ := hle
  clear hs hh cf hsz hpos hxm ea h0
  have HX : Hid (x.1.size = x.1.size) := rfl
  generalize hsx : x.1.size = xs at *
  have HXS : Hid (x.1.size = xs) := hsx
  clear hsx HX
  obtain ⟨m, rfl⟩ : ∃ m : Nat, xs = (m : Int) := ⟨xs.toNat, by omega⟩
  obtain ⟨n, hsub⟩ : ∃ n : Nat, (s.held : Int) - (m : Int) = (n : Int) := ⟨s.held - m, by omega⟩
  have HSUB : Hid ((s.held : Int) - (m : Int) = (n : Int)) := hsub
  generalize x.1.rc.row.length = al at *
  generalize x.1.rc.no = an at *
  generalize x.1.run = arun at *
  have HCELL : Hid (∀ W0 w1 : World, Touch (heapF s.ph hv) W0 w1 → W0.heap = (w.alloc (.cells #[.int .i64 0, .slice none 0 0, .int .i64 0, .int .i64 0] 263)).heap → SorterAt w1 ps s ∧ w1.heap[w.heap.size]? = some (.cells #[.int .i64 0, .slice none 0 0, .int .i64 0, .int .i64 0] 263 (0, 0)) ∧ w.heap.size < w1.heap.size) := fun W0 w1 ht h0 => by
    refine ⟨?_, ?_, ?_⟩
    · unfold SorterAt
      rw [ht.block ps (by rw [h0]; simp; omega) HPN.out, h0, Below.heap_alloc _ _ _ hpslt]; exact HS.out
    · rw [ht.block _ (by rw [h0]; simp) (fun e => by have := HLT.out _ e; omega), h0]; exact heap_alloc_new w _
    · have := ht.size; rw [h0] at this; simp at this; omega
  go_enter Tryz.func174, Tryz.ntmps174
  go_wp2_with (go_at_call 207; refine (HPOP.out _ ((Touch.refl [] _).alloc _)).mono ?_; rintro e w1 ⟨rfl, v1, L1, p1, p2, p3, p4⟩; obtain ⟨q1, q2, q3⟩ := HCELL.out _ _ p4 rfl; clear c0 c1 c2 c3 c4 c5 c6 c7 c8 c9 c10 c11 c12 c13 c14 c15 f7; obtain ⟨c0, c1, c2, c3, c4, c5, c6, c7, c8, c9, c10, c11, c12, c13, c14, c15, cf⟩ := q1.cell; have f7 := cf 7; have HQ1 : Hid (SorterAt w1 ps s) := q1; have HQ2 : Hid _ := q2; have HP1 : Hid _ := p1; have HP4 : Hid _ := p4; clear cf q1 q2 p1 p4)
  have hps1 : ps < w1.heap.size := by omega
  go_region
  obtain ⟨x0, x1, x2, x3⟩ := box4 HQ2.out
  have z0 : w1.frozen? ⟨w.heap.size, 0, none⟩ = false := by simp [World.frozen?, HQ2.out]
  have z1 : w1.frozen? ⟨w.heap.size, 1, none⟩ = false := by simp [World.frozen?, HQ2.out]
  have z2 : w1.frozen? ⟨w.heap.size, 2, none⟩ = false := by simp [World.frozen?, HQ2.out]
  have z3 : w1.frozen? ⟨w.heap.size, 3, none⟩ = false := by simp [World.frozen?, HQ2.out]
  have hne : w.heap.size ≠ ps := by omega
  have hne2 : ps ≠ w.heap.size := by omega
  go_wp2
  have T0 : Touch [ps, w.heap.size] w1 ((((((w1.setCell ⟨ps, 7, none⟩ (.int .i64 (n : Int))).setCell ⟨w.heap.size, 0, none⟩ (.int .i64 an)).setCell ⟨w.heap.size, 1, none⟩ (.slice ao al acap)).setCell ⟨w.heap.size, 2, none⟩ (.int .i64 arun)).setCell ⟨w.heap.size, 3, none⟩ (.int .i64 (m : Int))).alloc (.cells #[.int .i64 an, .slice ao al acap, .int .i64 arun, .int .i64 (m : Int)] 263)).drew :=
    ((((((Touch.refl [ps, w.heap.size] w1).setCell (p := ⟨ps, 7, none⟩) (by simp) _).setCell (p := ⟨w.heap.size, 0, none⟩) (by simp) _).setCell (p := ⟨w.heap.size, 1, none⟩) (by simp) _).setCell (p := ⟨w.heap.size, 2, none⟩) (by simp) _).setCell (p := ⟨w.heap.size, 3, none⟩) (by simp) _).alloc _ |>.drew
  have T1 : Touch [w.heap.size] (w1.setCell ⟨ps, 7, none⟩ (.int .i64 (n : Int))) ((((((w1.setCell ⟨ps, 7, none⟩ (.int .i64 (n : Int))).setCell ⟨w.heap.size, 0, none⟩ (.int .i64 an)).setCell ⟨w.heap.size, 1, none⟩ (.slice ao al acap)).setCell ⟨w.heap.size, 2, none⟩ (.int .i64 arun)).setCell ⟨w.heap.size, 3, none⟩ (.int .i64 (m : Int))).alloc (.cells #[.int .i64 an, .slice ao al acap, .int .i64 arun, .int .i64 (m : Int)] 263)).drew :=
    (((((Touch.refl [w.heap.size] _).setCell (p := ⟨w.heap.size, 0, none⟩) (by simp) _).setCell (p := ⟨w.heap.size, 1, none⟩) (by simp) _).setCell (p := ⟨w.heap.size, 2, none⟩) (by simp) _).setCell (p := ⟨w.heap.size, 3, none⟩) (by simp) _).alloc _ |>.drew
  have hS := (HQ1.out.held n).u T1.u (by simpa using hne2)
  have hB := heap_setCell_same _ w.heap.size 3 _ 263 (.int .i64 (m : Int)) (heap_setCell_same _ w.heap.size 2 _ 263 (.int .i64 arun) (heap_setCell_same _ w.heap.size 1 _ 263 (.slice ao al acap) (heap_setCell_same _ w.heap.size 0 _ 263 (.int .i64 an) ((heap_setCell_other w1 ⟨ps, 7, none⟩ w.heap.size (.int .i64 (n : Int)) hne).trans HQ2.out))))
  simp at hB
  have hB2 := (Below.heap_alloc _ (.cells #[.int .i64 an, .slice ao al acap, .int .i64 arun, .int .i64 (m : Int)] 263) _ (Array.getElem?_eq_some_iff.1 hB).1).trans hB
  obtain ⟨y0, y1, y2, y3⟩ := box4 hB2
  refine bodyPost_ret (v := .agg #[.int .i64 an, .slice ao al acap, .int .i64 arun, .int .i64 m]) (by simp [results, Tryz.results174, go_sem, y0, y1, y2, y3]) rfl ⟨rfl, v1, L1, n, hS, ?_, ?_, p2, p3, ?_⟩
  · have e1 := sizes_perm p2
    have e2 : sizes (x :: L1) = x.1.size + sizes L1 := by simp [sizes]
    have e3 := HSZ.out; have e4 := HXS.out; have e5 := HSUB.out
    omega
  · have nt : ∀ t', (260 : TypeId) ≠ t' → (263 : TypeId) ≠ t' → NoTag t' w1 [ps, w.heap.size] := fun t' h1 h2 => (notag_of HQ2.out h2).cons HQ1.out h1
    refine HP1.out.away HQ1.out hS rfl T0.u (fun k hk e => ?_) (nt _ (by decide) (by decide)) (nt _ (by decide) (by decide)) (nt _ (by decide) (by decide))
    have e' : k ∈ heapF s.ph hv := by simpa [heapF, p3] using e
    rcases List.mem_cons.1 hk with rfl | hk
    · exact HPN.out e'
    · have := HLT.out _ e'; simp at hk; omega
  · have := ((((Touch.refl (ps :: heapF s.ph hv) w).alloc _).trans (HP4.out.mono (fun k hk => List.mem_cons_of_mem _ hk))))
    exact this.onto T0 (fun i hi => by simp at hi; rcases hi with rfl | rfl; exact .inl (by simp); exact .inr (Nat.le_refl _))
end Go.Proofs.YtjoinhljdbljaaaGreat

namespace Go.Proofs.YtjoinhljdbljaaaGreat
open Go.RowKit

structure RI where
  r : Nat
  file : Nat
  cols : Nat
  v : Value
  cs : List (List Rec)
  cur : List Rec
def RI.recs (x : RI) : List Rec := x.cs.flatten ++ x.cur
def RI.ptr (x : RI) : Value := .pointer (some ⟨x.r, 0, none⟩)
def RI.Done (w : World) (bx blk : Nat) (d : DS) (x : RI) : Prop := RunEnd w x.r bx blk x.file x.cols x.cs d ∧ x.cur = []
def RI.Open (w : World) (bx blk : Nat) (d : DS) (x : RI) : Prop := RunIs w x.r bx blk x.file x.cols x.v x.cs x.cur d

/-- So many blocks may be written, and so many files made. -/
structure Left (d : DS) (k j : Nat) : Prop where
  used : (usedOf d.files : Int) ≤ d.wrote
  room : d.wrote + k ≤ d.blocks
  small : d.wrote + k ≤ 1000000000
  last : d.last + j ≤ 1000000000
theorem Left.mono {d : DS} {k j k' j' : Nat} (h : Left d k j) (h1 : k' ≤ k) (h2 : j' ≤ j) : Left d k' j' := by
  obtain ⟨a, b, c, e⟩ := h
  exact ⟨a, by omega, by omega, by omega⟩
theorem Left.roomy {d : DS} {k j : Nat} (h : Left d k j) : Roomy d k := by
  obtain ⟨a, b, c, e⟩ := h
  exact ⟨by omega, by omega, by omega⟩
theorem Left.wrote {w w' : World} {bx bm : Nat} {d d' : DS} {M M' : List PF} {file : Nat} {bs : List ByteArray} {k m j : Nat} (h : Left d (m + k) j) (hw : Wrote w w' bx bm d M file bs d' M' k) : Left d' m j := by
  obtain ⟨a, b, c, e⟩ := h
  have h1 := hw.wrote
  have h2 := hw.used
  have h3 := hw.last
  have h4 := hw.step.blocks
  exact ⟨by omega, by omega, by omega, by omega⟩

theorem RI.Done.keep {w w' : World} {bx blk : Nat} {d d' : DS} {x : RI} {F : List Nat} {file : Int} {c : Option (List ByteArray)} (h : x.Done w bx blk d) (t : TouchU F w w') (hr : x.r ∉ F) (hd : DStep d d' file c) (hf : (x.file : Int) ≠ file) : x.Done w' bx blk d' := by
  obtain ⟨⟨h1, h2, h3⟩, h4⟩ := h
  refine ⟨⟨t.keep h1 (by decide) hr, ?_, h3⟩, h4⟩
  rw [hd.get, if_neg hf]
  exact h2
theorem RI.Done.quiet {w w' : World} {bx blk : Nat} {d : DS} {x : RI} {F : List Nat} (h : x.Done w bx blk d) (t : TouchU F w w') (hr : x.r ∉ F) : x.Done w' bx blk d := by
  obtain ⟨⟨h1, h2, h3⟩, h4⟩ := h
  exact ⟨⟨t.keep h1 (by decide) hr, h2, h3⟩, h4⟩
theorem RI.Open.quiet {w w' : World} {bx blk : Nat} {d : DS} {x : RI} {F : List Nat} (h : x.Open w bx blk d) (t : Touch F w w') (hr : x.r ∉ F) (h5 : NoTag 5 w F) : x.Open w' bx blk d := by
  obtain ⟨⟨h1, h2⟩, h3, h4, h6⟩ := h
  refine ⟨⟨t.u.keep h1 (by decide) hr, h2.touch t (fun k hk => ?_)⟩, h3, h4, h6⟩
  obtain ⟨c, f, hc⟩ := h2.bytes k hk
  exact h5.not_mem hc

/-- The runs of a sorter: those that are whole, and the one that is being written. -/
structure RunsSt (w : World) (bx bm blk cols : Nat) (d : DS) (M : List PF) (pre : List RI) (o : Option RI) : Prop where
  pd : PD w bx bm d M
  ok : DiskOK d
  done : ∀ x ∈ pre, x.Done w bx blk d
  opn : ∀ x, o = some x → x.Open w bx blk d
  files : ((pre ++ o.toList).map RI.file).Nodup
  recs : ∀ x ∈ pre ++ o.toList, ∀ y ∈ x.recs, RecOK blk cols y
  known : ∀ x ∈ pre ++ o.toList, (x.file : Int) ≤ d.last
  len : ∀ x ∈ pre ++ o.toList, x.cs.length ≤ x.recs.length ∧ x.recs.length ≤ 1000000
  col : ∀ x ∈ pre ++ o.toList, x.recs ≠ [] → x.cols = cols
  block : (blk : Int) ≤ d.block
  b2 : blk ≤ 4096
  b1 : 16 ≤ blk
  c2 : cols ≤ 1000

def runsF (bx bm : Nat) (M : List PF) (R : List RI) : List Nat := R.map RI.r ++ diskF bx bm M

theorem RunsSt.cell {w : World} {bx bm blk cols : Nat} {d : DS} {M : List PF} {pre : List RI} {o : Option RI} (h : RunsSt w bx bm blk cols d M pre o) {x : RI} (hx : x ∈ pre ++ o.toList) : ∃ n v, w.heap[x.r]? = some (.cells (runCells bx blk x.file x.cols n v) 223 (0, 0)) := by
  rcases List.mem_append.1 hx with hx | hx
  · exact ⟨_, _, (h.done x hx).1.cell⟩
  · exact ⟨_, _, (h.opn x (by simpa using hx)).run.cell⟩

theorem RunsSt.notag {w : World} {bx bm blk cols : Nat} {d : DS} {M : List PF} {pre : List RI} {o : Option RI} (h : RunsSt w bx bm blk cols d M pre o) {t : TypeId} (h1 : 117 ≠ t) (h2 : 9 ≠ t) (h3 : 223 ≠ t) : NoTag t w (runsF bx bm M (pre ++ o.toList)) := by
  intro k hk cs f e
  rcases List.mem_append.1 hk with hk | hk
  · obtain ⟨x, hx, rfl⟩ := List.mem_map.1 hk
    obtain ⟨n, v, hc⟩ := h.cell hx
    rw [hc] at e
    simp only [Option.some.injEq, Obj.cells.injEq] at e
    exact h3 e.2.1
  · exact h.pd.notag h1 h2 k hk cs f e

/-- Two runs that lie in one box are one file. -/
theorem RunsSt.boxes {w : World} {bx bm blk cols : Nat} {d : DS} {M : List PF} {pre : List RI} {o : Option RI} (h : RunsSt w bx bm blk cols d M pre o) {x y : RI} (hx : x ∈ pre ++ o.toList) (hy : y ∈ pre ++ o.toList) (e : x.r = y.r) : x.file = y.file := by
  obtain ⟨n, v, hc⟩ := h.cell hx
  obtain ⟨n', v', hc'⟩ := h.cell hy
  rw [e, hc'] at hc
  simp only [Option.some.injEq, Obj.cells.injEq, runCells] at hc
  have := hc.1
  simp at this
  omega

theorem RunsSt.r_disk {w : World} {bx bm blk cols : Nat} {d : DS} {M : List PF} {pre : List RI} {o : Option RI} (h : RunsSt w bx bm blk cols d M pre o) {x : RI} (hx : x ∈ pre ++ o.toList) : x.r ∉ diskF bx bm M := by
  obtain ⟨n, v, hc⟩ := h.cell hx
  exact (h.pd.notag (t := 223) (by decide) (by decide)).not_mem hc

/-- Nothing of the runs turns. -/
theorem RunsSt.quiet {w w' : World} {bx bm blk cols : Nat} {d : DS} {M : List PF} {pre : List RI} {o : Option RI} {F : List Nat} (h : RunsSt w bx bm blk cols d M pre o) (t : Touch F w w') (hF : ∀ k ∈ F, k ∉ runsF bx bm M (pre ++ o.toList)) (h5 : NoTag 5 w F) : RunsSt w' bx bm blk cols d M pre o :=
  { h with
    pd := h.pd.away t (fun k hk e => hF k e (by simp only [runsF, List.mem_append]; exact .inr hk))
    done := fun x hx => (h.done x hx).quiet t.u (fun e => hF _ e (by simp only [runsF, List.mem_append, List.mem_map]; exact .inl ⟨x, .inl hx, rfl⟩))
    opn := fun x hx => (h.opn x hx).quiet t (fun e => hF _ e (by simp only [runsF, List.mem_append, List.mem_map]; exact .inl ⟨x, .inr (by simp [hx]), rfl⟩)) h5 }

theorem nodup_last {α : Type} {l : List α} {a : α} (h : (l ++ [a]).Nodup) : ∀ b ∈ l, b ≠ a := fun b hb e => (List.nodup_append.1 h).2.2 b hb a (by simp) e

/-- The list of runs, as it lies in memory. -/
def POwn (w : World) (v : Value) (R : List RI) : Prop := w.ownsRow 0 194 1 v R.length (R.map RI.ptr)

theorem POwn.shape {w : World} {v : Value} {R : List RI} (h : POwn w v R) : (v = .slice none 0 0 ∧ R = []) ∨ ∃ g cap cur, v = .slice (some ⟨g, 0, none⟩) R.length cap ∧ w.heap[g]? = some (.cells cur 194 (0, 0)) ∧ R.length ≤ cap ∧ cap ≤ maxLen ∧ cur.size = cap ∧ ∀ i (hi : i < R.length), cur[i]? = some R[i].ptr := by
  obtain ⟨h1, h2⟩ := h
  rcases h2 with ⟨rfl, h0⟩ | ⟨g, cap, cur, e, hb, hh, hc, hm, hs, hx⟩
  · exact .inl ⟨rfl, List.length_eq_zero_iff.1 h0⟩
  · refine .inr ⟨g, cap, cur, e, hh, hc, hm, by simpa using hs, fun i hi => ?_⟩
    have h3 : (List.take (R.length * 1) cur.toList)[i]? = (R.map RI.ptr)[i]? := by rw [hx]
    rw [List.getElem?_take, if_pos (by omega)] at h3
    simpa [hi] using h3
theorem POwn.u {F : List Nat} {w w' : World} {v : Value} {R : List RI} (h : POwn w v R) (t : TouchU F w w') (hn : ∀ k, v.ownBlock = some k → k ∉ F) : POwn w' v R := by
  obtain ⟨h1, h2⟩ := h
  refine ⟨h1, ?_⟩
  rcases h2 with h2 | ⟨g, cap, cur, e, hb, hh, rest⟩
  · exact .inl h2
  · exact .inr ⟨g, cap, cur, e, hb, t.keep hh (by decide) (hn g (by simp [e, Value.ownBlock])), rest⟩
theorem POwn.notag {w : World} {v : Value} {R : List RI} (h : POwn w v R) {t : TypeId} (h1 : 194 ≠ t) : NoTag t w v.ownBlock.toList := by
  intro k hk cs f e
  rcases h.shape with ⟨rfl, _⟩ | ⟨g, cap, cur, rfl, hh, _⟩
  · simp [Value.ownBlock] at hk
  · simp [Value.ownBlock] at hk
    subst hk
    rw [hh] at e
    simp only [Option.some.injEq, Obj.cells.injEq] at e
    exact h1 e.2.1
end Go.Proofs.YtjoinhljdbljaaaGreat
