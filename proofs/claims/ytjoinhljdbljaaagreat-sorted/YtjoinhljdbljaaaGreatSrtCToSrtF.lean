/- The walk of endRun. A sorter whole: its cells, its heap, its runs; what stays when parts of it turn. A new run in the list of runs. What the steps of spill do: a run ended, made, added to. -/
import Derived.Test.YtjoinhljdbljaaaGreatRunJToSrtB
namespace Go.Proofs.YtjoinhljdbljaaaGreat
open Go.RowKit

theorem len_flatten {cs : List (List Rec)} (h : ∀ c ∈ cs, c ≠ []) : cs.length ≤ cs.flatten.length := by
  induction cs with
  | nil => simp
  | cons c cs ih =>
    have h1 := ih (fun c hc => h c (by simp [hc]))
    have h2 : 1 ≤ c.length := by
      have := h c (by simp)
      cases c with
      | nil => exact absurd rfl this
      | cons => simp
    simp only [List.length_cons, List.flatten_cons, List.length_append]
    omega

theorem RunsSt.ended {w w' : World} {bx bm blk cols : Nat} {d d' : DS} {M M' : List PF} {pre : List RI} {x : RI} {cs' : List (List Rec)} {k : Nat} (h : RunsSt w bx bm blk cols d M pre (some x)) (hE : RunEnd w' x.r bx blk x.file x.cols cs' d') (hr : cs'.flatten = x.cs.flatten ++ x.cur)
    (hW : Wrote w w' bx bm d M x.file (textsOf x.file cs') d' M' k) (t : Touch (x.r :: diskF bx bm M) w w') : RunsSt w' bx bm blk cols d' M' (pre ++ [⟨x.r, x.file, x.cols, .slice none 0 0, cs', []⟩]) none := by
  have hrec : RI.recs ⟨x.r, x.file, x.cols, .slice none 0 0, cs', []⟩ = x.recs := by simp [RI.recs, hr]
  have hxm : x ∈ pre ++ (some x).toList := by simp
  have hmem : ∀ y ∈ pre ++ [(⟨x.r, x.file, x.cols, .slice none 0 0, cs', []⟩ : RI)] ++ (none : Option RI).toList, ∃ z ∈ pre ++ (some x).toList, z.file = y.file ∧ z.recs = y.recs ∧ z.cols = y.cols := by
    intro y hy
    simp only [Option.toList_none, List.append_nil] at hy
    rcases List.mem_append.1 hy with hy | hy
    · exact ⟨y, by simp [hy], rfl, rfl, rfl⟩
    · rw [List.mem_singleton.1 hy]; exact ⟨x, hxm, rfl, hrec.symm, rfl⟩
  have hfne : ∀ y ∈ pre, y.file ≠ x.file := fun y hy => by
    have := h.files
    simp only [List.map_append, Option.toList_some, List.map_cons, List.map_nil] at this
    exact nodup_last this _ (List.mem_map_of_mem hy)
  refine ⟨hW.pd, hW.step.ok, fun y hy => ?_, by simp, ?_, fun y hy z hz => ?_, fun y hy => ?_, fun y hy => ?_, fun y hy hn => ?_, by have := hW.step.block; have := h.block; omega, h.b2, h.b1, h.c2⟩
  · rcases List.mem_append.1 hy with hy | hy
    · refine (h.done y hy).keep t.u (fun e => ?_) hW.step (by have := hfne y hy; omega)
      rcases List.mem_cons.1 e with e | e
      · exact hfne y hy (h.boxes (by simp [hy]) hxm e)
      · exact h.r_disk (by simp [hy]) e
    · rw [List.mem_singleton.1 hy]; exact ⟨hE, rfl⟩
  · have := h.files
    simpa using this
  · obtain ⟨u, hu, _, e, _⟩ := hmem y hy
    exact h.recs u hu z (by rw [e]; exact hz)
  · obtain ⟨u, hu, e, _⟩ := hmem y hy
    rw [← e, hW.last]
    exact h.known u hu
  · simp only [Option.toList_none, List.append_nil] at hy
    rcases List.mem_append.1 hy with hy | hy
    · exact h.len y (by simp [hy])
    · rw [List.mem_singleton.1 hy, hrec]
      refine ⟨?_, (h.len x hxm).2⟩
      have := len_flatten (fun c hc => (hE.full c hc).1)
      rw [hr] at this
      exact this
  · obtain ⟨u, hu, _, e, e2⟩ := hmem y hy
    rw [← e2]
    exact h.col u hu (by rw [e]; exact hn)

set_option maxRecDepth 20000 in
set_option maxHeartbeats 2000000 in
theorem endRun_none (w : World) (ps : Nat) (s : SC) (ao : Option Addr) (cap : Nat) (hs : SorterAt w ps s) (hv : s.rv = .slice ao 0 cap) :
    Calls Tryz.prog 197 #[.pointer (some ⟨ps, 0, none⟩)] w fun e w' => e = .returned (.tuple #[]) ∧ w' = w := by
  obtain ⟨c0, c1, c2, c3, c4, c5, c6, c7, c8, c9, c10, c11, c12, c13, c14, c15, cf⟩ := hs.cell
  rw [hv] at c13
  clear hs cf
  go_enter Tryz.func197, Tryz.ntmps197
  go_wp2
  go_end0
  exact ⟨rfl, rfl⟩

set_option maxRecDepth 20000 in
set_option maxHeartbeats 2000000 in
theorem endRun_some (w : World) (ps bm cols m j : Nat) (s : SC) (d : DS) (M : List PF) (pre : List RI) (x : RI) (hs : SorterAt w ps s) (hp : POwn w s.rv (pre ++ [x])) (hR : RunsSt w s.bx bm s.blk cols d M pre (some x)) (hl : Left d (m + 1) j) :
    Calls Tryz.prog 197 #[.pointer (some ⟨ps, 0, none⟩)] w fun e w' => e = .returned (.tuple #[]) ∧ ∃ x' d' M', x'.r = x.r ∧ x'.file = x.file ∧ x'.recs = x.recs ∧ d'.last = d.last ∧ RunsSt w' s.bx bm s.blk cols d' M' (pre ++ [x']) none ∧ Left d' m j ∧ (∀ k ∈ rowsOf M', k ∈ rowsOf M ∨ w.heap.size ≤ k) ∧ Touch (x.r :: diskF s.bx bm M) w w' := by
  have hxm : x ∈ pre ++ (some x).toList := by simp
  have hb := hR.block
  have hk := hR.known x hxm
  have hll := hl.last
  have hlen := hR.len x hxm
  have HEND : Hid (∀ W, Touch [] w W → Calls Tryz.prog 114 #[.pointer (some ⟨x.r, 0, none⟩)] W fun e w' => e = .returned (.tuple #[]) ∧ ∃ x' d' M', x'.r = x.r ∧ x'.file = x.file ∧ x'.recs = x.recs ∧ d'.last = d.last ∧ RunsSt w' s.bx bm s.blk cols d' M' (pre ++ [x']) none ∧ Left d' m j ∧ (∀ k ∈ rowsOf M', k ∈ rowsOf M ∨ w.heap.size ≤ k) ∧ Touch (x.r :: diskF s.bx bm M) w w') := fun W hW => by
    have hR' := hR.quiet hW (by simp) (fun k hk => by simp at hk)
    refine (runEnd_any W x.r s.bx bm s.blk x.file x.cols x.v x.cs x.cur d M (hR'.opn x rfl) hR'.pd hR'.ok (fun y hy => (hR'.recs x hxm y (by simp [RI.recs, hy])).fair) hb hR.b2 (by omega) (by omega) (hl.mono (by omega) (Nat.le_refl _) : Left d 1 j).roomy).mono ?_
    rintro e w' ⟨rfl, cs', d', M', k, hk1, p1, p2, p3, p4, p5⟩
    refine ⟨rfl, ⟨x.r, x.file, x.cols, .slice none 0 0, cs', []⟩, d', M', rfl, rfl, ?_, p4.last, hR'.ended p1 p2 p4 p5, (hl.mono (by omega) (Nat.le_refl _) : Left d (m + k) j).wrote p4, fun q hq => ?_, (hW.mono (by simp)).trans p5⟩
    · simp [RI.recs, p2]
    · rcases p4.rows q hq with h | h
      · exact .inl h
      · exact .inr (Nat.le_trans hW.size h)
  rcases hp.shape with ⟨_, e⟩ | ⟨g, cap, cur, hv, hh, hc, hm, hsz, hx⟩
  · simp at e
  obtain ⟨c0, c1, c2, c3, c4, c5, c6, c7, c8, c9, c10, c11, c12, c13, c14, c15, cf⟩ := hs.cell
  have hlast := hx pre.length (by simp)
  have hlc : w.cell? ⟨g, pre.length, none⟩ = some (.pointer (some ⟨x.r, 0, none⟩)) := by
    simp only [World.cell?, hh]
    rw [hlast]
    simp [RI.ptr]
  rw [hv] at c13
  simp only [List.length_append, List.length_cons, List.length_nil, Nat.zero_add] at c13 hc
  have hlm : pre.length + 1 ≤ maxLen := Nat.le_trans hc hm
  have HAFT : Hid (∀ W, Touch (x.r :: diskF s.bx bm M) w W → W.cell? ⟨ps, 13, none⟩ = some (.slice (some ⟨g, 0, none⟩) (pre.length + 1) cap) ∧ W.cell? ⟨g, pre.length, none⟩ = some (.pointer (some ⟨x.r, 0, none⟩))) := fun W hW => by
    have nt : ∀ t, 117 ≠ t → 9 ≠ t → 223 ≠ t → NoTag t w (x.r :: diskF s.bx bm M) := fun t h1 h2 h3 => (hR.notag h1 h2 h3).sub (fun k hk => by
      rcases List.mem_cons.1 hk with rfl | hk
      · simp [runsF]
      · simp only [runsF, List.mem_append]; exact .inr hk)
    exact ⟨cell_touchF c13 hW ((nt 260 (by decide) (by decide) (by decide)).not_mem hs), cell_touchF hlc hW ((nt 194 (by decide) (by decide) (by decide)).not_mem hh)⟩
  clear hs cf hp hR hl hk hlen hb hx hlast hv
  generalize pre.length = n at *
  have hlm2 : n + 1 ≤ 9223372036854775807 := by unfold maxLen at hlm; omega
  have hw1 : IntKind.i64.wrap ((n : Int) + 1 - 1) = (n : Int) := by rw [wrap_small _ (by omega) (by omega)]; omega
  have hw2 : IntKind.i64.wrap (n : Int) = (n : Int) := wrap_small _ (by omega) (by omega)
  have hpos : (0 : Int) < (n : Int) + 1 := by omega
  have hn1 : (n : Int) < (n : Int) + 1 := by omega
  have hn2 : n < n + 1 := by omega
  go_enter Tryz.func197, Tryz.ntmps197
  go_wp2
  go_region_held3 (fun w' => w'.cell? ⟨ps, 13, none⟩ = some (.slice (some ⟨g, 0, none⟩) (n + 1) cap) ∧ w'.cell? ⟨g, n, none⟩ = some (.pointer (some ⟨x.r, 0, none⟩))) (go_keep) (first | (go_at_call 114; refine (HEND.out _ ((Touch.refl [] _).drew)).mono ?_; rintro e w1 ⟨rfl, x', d', M', q1, q2, q3, q0, q4, q5, q6, q7⟩; obtain ⟨a1, a2⟩ := HAFT.out _ q7; have HQ0 : Hid (d'.last = d.last) := q0; clear q0; have HQ4 : Hid _ := q4; have HQ7 : Hid _ := q7; clear q4 q7))
  all_goals go_end0
  all_goals exact ⟨rfl, x', d', M', q1, q2, q3, HQ0.out, HQ4.out, q5, q6, HQ7.out⟩
end Go.Proofs.YtjoinhljdbljaaaGreat

namespace Go.Proofs.YtjoinhljdbljaaaGreat
open Go.RowKit

theorem SorterAt.setCame {w : World} {ps : Nat} {s : SC} (h : SorterAt w ps s) (n : Nat) : SorterAt (w.setCell ⟨ps, 8, none⟩ (.int .i64 (n : Int))) ps { s with came := n } := by
  unfold SorterAt at *; rw [heap_setCell_same w ps 8 _ 260 _ h]; simp [SC.cells]
theorem SorterAt.setRun {w : World} {ps : Nat} {s : SC} (h : SorterAt w ps s) (n : Int) : SorterAt (w.setCell ⟨ps, 9, none⟩ (.int .i64 n)) ps { s with run := n } := by
  unfold SorterAt at *; rw [heap_setCell_same w ps 9 _ 260 _ h]; simp [SC.cells]
theorem SorterAt.setLength {w : World} {ps : Nat} {s : SC} (h : SorterAt w ps s) (n : Nat) : SorterAt (w.setCell ⟨ps, 10, none⟩ (.int .i64 (n : Int))) ps { s with length := n } := by
  unfold SorterAt at *; rw [heap_setCell_same w ps 10 _ 260 _ h]; simp [SC.cells]
theorem SorterAt.setLno {w : World} {ps : Nat} {s : SC} (h : SorterAt w ps s) (n : Int) : SorterAt (w.setCell ⟨ps, 11, none⟩ (.int .i64 n)) ps { s with lno := n } := by
  unfold SorterAt at *; rw [heap_setCell_same w ps 11 _ 260 _ h]; simp [SC.cells]
theorem SorterAt.setLv {w : World} {ps : Nat} {s : SC} (h : SorterAt w ps s) (v : Value) : SorterAt (w.setCell ⟨ps, 12, none⟩ v) ps { s with lv := v } := by
  unfold SorterAt at *; rw [heap_setCell_same w ps 12 _ 260 _ h]; simp [SC.cells]
theorem SorterAt.setRv {w : World} {ps : Nat} {s : SC} (h : SorterAt w ps s) (v : Value) : SorterAt (w.setCell ⟨ps, 13, none⟩ v) ps { s with rv := v } := by
  unfold SorterAt at *; rw [heap_setCell_same w ps 13 _ 260 _ h]; simp [SC.cells]
theorem SorterAt.setMg {w : World} {ps : Nat} {s : SC} (h : SorterAt w ps s) (v : Value) : SorterAt (w.setCell ⟨ps, 14, none⟩ v) ps { s with mg := v } := by
  unfold SorterAt at *; rw [heap_setCell_same w ps 14 _ 260 _ h]; simp [SC.cells]
theorem SorterAt.setGiven {w : World} {ps : Nat} {s : SC} (h : SorterAt w ps s) (n : Nat) : SorterAt (w.setCell ⟨ps, 15, none⟩ (.int .i64 (n : Int))) ps { s with given := n } := by
  unfold SorterAt at *; rw [heap_setCell_same w ps 15 _ 260 _ h]; simp [SC.cells]

/-- The sorter, its heap and its runs. -/
structure SB (w : World) (ps bs : Nat) (s : SC) (hv : Value) (ks : List K) (L : List EV) (bm cols : Nat) (d : DS) (M : List PF) (pre : List RI) (o : Option RI) : Prop where
  sorter : SorterAt w ps s
  heap : HeapSt w s.ph hv bs ps ks L
  held : sizes L = s.held
  ents : ∀ x ∈ L, x.1.size = sizeR x.1.rc.row ∧ RecOK s.blk cols x.1.rc
  runs : RunsSt w s.bx bm s.blk cols d M pre o
  own : POwn w s.rv (pre ++ o.toList)

def sbF (ps : Nat) (s : SC) (hv : Value) (bm : Nat) (M : List PF) (R : List RI) : List Nat := ps :: (heapF s.ph hv ++ s.rv.ownBlock.toList ++ runsF s.bx bm M R)

theorem NoTag.append {t : TypeId} {w : World} {F G : List Nat} (h : NoTag t w F) (k : NoTag t w G) : NoTag t w (F ++ G) := fun i hi => by
  rcases List.mem_append.1 hi with hi | hi
  · exact h i hi
  · exact k i hi

section
variable {w w' : World} {ps bs : Nat} {s : SC} {hv : Value} {ks : List K} {L : List EV} {bm cols : Nat} {d : DS} {M : List PF} {pre : List RI} {o : Option RI} {F : List Nat}

theorem SB.notag (h : SB w ps bs s hv ks L bm cols d M pre o) {t : TypeId} (h1 : 260 ≠ t) (h2 : 302 ≠ t) (h3 : 263 ≠ t) (h4 : 194 ≠ t) (h5 : 117 ≠ t) (h6 : 9 ≠ t) (h7 : 223 ≠ t) : NoTag t w (sbF ps s hv bm M (pre ++ o.toList)) :=
  (((h.heap.notag h2 h3).append (h.own.notag h4)).append (h.runs.notag h5 h6 h7)).cons h.sorter h1

theorem SB.small (h : SB w ps bs s hv ks L bm cols d M pre o) (hL : L.length ≤ 100000) : s.held ≤ 1000000000 ∧ ∀ y ∈ L, 0 ≤ y.1.size := by
  have hp : ∀ y ∈ L, 0 ≤ y.1.size ∧ y.1.size ≤ 4096 := fun y hy => by
    have h1 := h.ents y hy
    have h2 := h1.2.size
    have := h.runs.b2
    omega
  have hs : ∀ l : List EV, (∀ y ∈ l, 0 ≤ y.1.size ∧ y.1.size ≤ 4096) → sizes l ≤ 4096 * l.length := by
    intro l
    induction l with
    | nil => simp [sizes]
    | cons a l ih =>
      intro hl
      have h0 := hl a (by simp)
      have := ih (fun y hy => hl y (by simp [hy]))
      have e : sizes (a :: l) = a.1.size + sizes l := by simp [sizes]
      simp only [List.length_cons]
      omega
  have h1 := hs L hp
  have h2 := h.held
  exact ⟨by omega, fun y hy => (hp y hy).1⟩

/-- Blocks of one type that is none of the sorter's turn. -/
theorem SB.quiet (h : SB w ps bs s hv ks L bm cols d M pre o) (t : Touch F w w') (hF : ∀ k ∈ F, k ∉ sbF ps s hv bm M (pre ++ o.toList)) (n1 : NoTag 228 w F) (n2 : NoTag 73 w F) (n3 : NoTag 85 w F) (n4 : NoTag 5 w F) : SB w' ps bs s hv ks L bm cols d M pre o := by
  have hS : SorterAt w' ps s := h.sorter.u t.u (fun e => hF _ e (by simp [sbF]))
  exact ⟨hS, h.heap.away h.sorter hS rfl t.u (fun k hk e => hF k hk (by simp [sbF, e])) n1 n2 n3, h.held, h.ents, h.runs.quiet t (fun k hk e => hF k hk (by simp [sbF, e])) n4, h.own.u t.u (fun k hk e => hF k e (by simp [sbF, hk]))⟩

/-- The sorter's own cells turn, but for what it holds on to. -/
theorem SB.cells {s' : SC} (h : SB w ps bs s hv ks L bm cols d M pre o) (hS : SorterAt w' ps s') (t : Touch [ps] w w') (e1 : s'.bx = s.bx) (e2 : s'.blk = s.blk) (e3 : s'.kv = s.kv) (e4 : s'.ph = s.ph) (e5 : s'.held = s.held) (e6 : s'.rv = s.rv) : SB w' ps bs s' hv ks L bm cols d M pre o := by
  have hps : ∀ t', (260 : TypeId) ≠ t' → NoTag t' w [ps] := fun t' ht => notag_of h.sorter ht
  refine ⟨hS, ?_, by rw [e5]; exact h.held, by rw [e2]; exact h.ents, ?_, ?_⟩
  · rw [e4]; exact h.heap.turn h.sorter hS e3 t.u
  · rw [e1, e2]
    refine h.runs.quiet t (fun k hk => ?_) (hps 5 (by decide))
    rw [List.mem_singleton.1 hk]
    exact (h.runs.notag (by decide) (by decide) (by decide)).not_mem h.sorter
  · rw [e6]
    refine h.own.u t.u (fun k hk e => ?_)
    rw [List.mem_singleton.1 e] at hk
    exact (h.own.notag (t := 260) (by decide)).not_mem h.sorter (by simp [hk])

/-- The runs and the disk turn. -/
theorem SB.turnRuns {d' : DS} {M' : List PF} {pre' : List RI} {o' : Option RI} (h : SB w ps bs s hv ks L bm cols d M pre o) (t : TouchU F w w') (hF : ∀ k ∈ F, k ∈ runsF s.bx bm M (pre ++ o.toList) ∨ w.heap.size ≤ k) (hR : RunsSt w' s.bx bm s.blk cols d' M' pre' o') (he : (pre' ++ o'.toList).map RI.ptr = (pre ++ o.toList).map RI.ptr) : SB w' ps bs s hv ks L bm cols d' M' pre' o' := by
  have nt : ∀ t', (117 : TypeId) ≠ t' → (9 : TypeId) ≠ t' → (223 : TypeId) ≠ t' → NoTag t' w F := fun t' h1 h2 h3 k hk cs f e => by
    rcases hF k hk with hk' | hk'
    · exact h.runs.notag h1 h2 h3 k hk' cs f e
    · have := (Array.getElem?_eq_some_iff.1 e).1
      omega
  have hS : SorterAt w' ps s := h.sorter.u t ((nt 260 (by decide) (by decide) (by decide)).not_mem h.sorter)
  refine ⟨hS, h.heap.away h.sorter hS rfl t (fun k hk e => ?_) (nt _ (by decide) (by decide) (by decide)) (nt _ (by decide) (by decide) (by decide)) (nt _ (by decide) (by decide) (by decide)), h.held, h.ents, hR, ?_⟩
  · rcases List.mem_cons.1 e with e | e
    · exact (nt 302 (by decide) (by decide) (by decide)).not_mem h.heap.head (by rw [← e]; exact hk)
    · obtain ⟨cs, f, hc⟩ := h.heap.items.tag k (by simpa using e)
      exact (nt 263 (by decide) (by decide) (by decide)).not_mem hc hk
  · have hl : (pre' ++ o'.toList).length = (pre ++ o.toList).length := by simpa using congrArg List.length he
    have := h.own.u t (fun k hk e => by
      rcases h.own.shape with ⟨hv0, _⟩ | ⟨g, cap, cur, hv0, hh, _⟩
      · rw [hv0] at hk; simp [Value.ownBlock] at hk
      · rw [hv0] at hk
        simp [Value.ownBlock] at hk
        subst hk
        exact (nt 194 (by decide) (by decide) (by decide)).not_mem hh e)
    unfold POwn at this ⊢
    rw [hl, he]
    exact this
end

set_option maxRecDepth 20000 in
theorem sbPop_any (w : World) (ps bs : Nat) (s : SC) (hv : Value) (ks : List K) (L : List EV) (bm cols : Nat) (d : DS) (M : List PF) (pre : List RI) (o : Option RI) (x : EV) (h : SB w ps bs s hv ks L bm cols d M pre o) (h0 : L[0]? = some x) (hL : L.length ≤ 100000) :
    Calls Tryz.prog 174 #[.pointer (some ⟨ps, 0, none⟩)] w fun e w' => e = .returned x.val ∧ ∃ hv' L' n, SB w' ps bs { s with held := n } hv' ks L' bm cols d M pre o ∧ (x :: L').Perm L ∧ RowAt w' x.2 x.1.rc.row ∧ hv'.ownBlock = hv.ownBlock ∧ Touch (ps :: heapF s.ph hv) w w' := by
  obtain ⟨hb1, hb2⟩ := h.small hL
  refine (sorterPop_any w ps bs s hv ks L x h.sorter h.heap h0 (by omega) h.held hb2 hb1).mono ?_
  rintro e w' ⟨rfl, hv', L', n, p1, p2, p3, p4, p5, p6⟩
  have hps : ∀ t', (260 : TypeId) ≠ t' → (302 : TypeId) ≠ t' → (263 : TypeId) ≠ t' → NoTag t' w (ps :: heapF s.ph hv) := fun t' h1 h2 h3 => (h.heap.notag h2 h3).cons h.sorter h1
  have hd : ∀ k ∈ ps :: heapF s.ph hv, ∃ cs t' f, w.heap[k]? = some (.cells cs t' f) ∧ (t' = 260 ∨ t' = 302 ∨ t' = 263) := fun k hk => by
    rcases List.mem_cons.1 hk with rfl | hk
    · exact ⟨_, _, _, h.sorter, .inl rfl⟩
    · rcases List.mem_cons.1 hk with rfl | hk
      · exact ⟨_, _, _, h.heap.head, .inr (.inl rfl)⟩
      · obtain ⟨cs, f, hc⟩ := h.heap.items.tag k (by simpa using hk)
        exact ⟨_, _, _, hc, .inr (.inr rfl)⟩
  refine ⟨rfl, hv', L', n, ⟨p1, p3, p2, fun y hy => h.ents y (p4.mem_iff.1 (List.mem_cons_of_mem _ hy)), h.runs.quiet p6 (fun k hk e => ?_) (hps 5 (by decide) (by decide) (by decide)), h.own.u p6.u (fun k hk e => ?_)⟩, p4, Sl3.keep (h.heap.rows x (p4.mem_iff.1 (by simp))).1 (p6.tag (hps 85 (by decide) (by decide) (by decide))), p5, p6⟩
  · obtain ⟨cs, t', f, hc, ht⟩ := hd k hk
    rcases ht with rfl | rfl | rfl
    all_goals exact (h.runs.notag (by decide) (by decide) (by decide)).not_mem hc e
  · obtain ⟨cs, t', f, hc, ht⟩ := hd k e
    rcases ht with rfl | rfl | rfl
    all_goals exact (h.own.notag (by decide)).not_mem hc (by simp [hk])
end Go.Proofs.YtjoinhljdbljaaaGreat

namespace Go.Proofs.YtjoinhljdbljaaaGreat
open Go.RowKit

theorem info194 : (Tryz.prog.info? 194).map (fun i => (i.zero, i.size, i.bytes)) = some (some (.pointer none), 1, 8) := by kernel_rfl

theorem step_ptr {ops : Array Oper} {o : Oper} {a : Act} {w : World} {K : Act → World → Prop} {Q : Exit → Act → World → Prop} {E : Prop} (hgd : o.guard = none) (s x : Operand)
    (ho : o.op = .call { callee := .builtin .append, args := #[s, x], argTypes := #[160, 160] }) (v : Value) (R : List RI) (hs : a.eval s = v) (hown : POwn w v R)
    (ad : Addr) (y : RI) (c : Nat) (hx : a.eval x = .slice (some ad) 1 c) (hnews : w.cell? ad = some y.ptr) (hlen : R.length ≤ 1000000000)
    (h : ∀ g cap w', POwn w' (.slice (some ⟨g, 0, none⟩) (R.length + 1) cap) (R ++ [y]) → w.grownBy w' v.ownBlock → (v.ownBlock = some g ∨ g = w.heap.size) → g < w'.heap.size → K (a.put o.dst (.slice (some ⟨g, 0, none⟩) (R.length + 1) cap)) w') :
    if Region.wanted o (yielded ops a.tmps) = true then Oper.wp Tryz.prog o a w K Q else E := by
  obtain ⟨i0, hi, hz0, hz1, hz2⟩ := info_parts info194
  refine step_append_lies w hgd s x 160 ho 0 194 i0 (.pointer none) 1 8 Tryz.underlying160 hi hz0 hz1 hz2 rfl (by decide) v _ _ hs hown ad 1 c [y.ptr] hx (by simp) (fun j u hj => ?_) (by simp [RI.ptr, Value.oneCell']) (by decide) ?_ ?_ (Nat.zero_le _) _ rfl ?_
  · match j, hj with
    | 0, hj => simp at hj; subst hj; exact hnews
  · unfold maxLen; omega
  · omega
  · intro g cap w' h1 h2 h3 h4
    refine h g cap w' ?_ h2 h3 h4
    unfold POwn
    rw [List.length_append, List.map_append]
    exact h1

theorem POwn.block {w : World} {v : Value} {R : List RI} (h : POwn w v R) : ∀ k, v.ownBlock = some k → ∃ cs, w.heap[k]? = some (.cells cs 194 (0, 0)) := fun k hk => by
  rcases h.shape with ⟨rfl, _⟩ | ⟨g, cap, cur, rfl, hh, _⟩
  · simp [Value.ownBlock] at hk
  · simp [Value.ownBlock] at hk
    subst hk
    exact ⟨_, hh⟩

theorem RunsSt.fresh {w w' : World} {bx bm blk cols r file : Nat} {d d' : DS} {M M' : List PF} {pre : List RI} (h : RunsSt w bx bm blk cols d M pre none) (hR : RunIs w' r bx blk file 0 (.slice none 0 0) [] [] d') (hP : PD w' bx bm d' M') (hD : DStep d d' file (some [])) (hl : d'.last = d.last + 1) (hf : (file : Int) = d.last + 1) (t : Touch [bx, bm] w w') :
    RunsSt w' bx bm blk cols d' M' pre (some ⟨r, file, 0, .slice none 0 0, [], []⟩) := by
  have hk : ∀ x ∈ pre, (x.file : Int) ≤ d.last := fun x hx => h.known x (by simp [hx])
  have hsub : ∀ x ∈ pre ++ (some (⟨r, file, 0, .slice none 0 0, [], []⟩ : RI)).toList, x ∈ pre ++ (none : Option RI).toList ∨ x = ⟨r, file, 0, .slice none 0 0, [], []⟩ := fun x hx => by
    rcases List.mem_append.1 hx with hx | hx
    · exact .inl (by simp [hx])
    · exact .inr (by simpa using hx)
  refine ⟨hP, hD.ok, fun x hx => (h.done x hx).keep t.u (fun e => ?_) hD (by have := hk x hx; omega), fun x hx => by simp at hx; subst hx; exact hR, ?_, fun x hx y hy => ?_, fun x hx => ?_, fun x hx => ?_, fun x hx hn => ?_, by have := hD.block; have := h.block; omega, h.b2, h.b1, h.c2⟩
  · exact h.r_disk (x := x) (by simp [hx]) (by simp only [List.mem_cons, List.not_mem_nil, or_false] at e; rcases e with e | e <;> simp [diskF, e])
  · have := h.files
    simp only [Option.toList_none, List.append_nil] at this
    simp only [List.map_append, Option.toList_some, List.map_cons, List.map_nil]
    refine List.nodup_append.2 ⟨this, by simp, fun a ha b hb e => ?_⟩
    obtain ⟨x, hx, rfl⟩ := List.mem_map.1 ha
    have := hk x hx
    simp at hb
    omega
  · rcases hsub x hx with hx | rfl
    · exact h.recs x hx y hy
    · simp [RI.recs] at hy
  · rcases hsub x hx with hx | rfl
    · have := h.known x hx; omega
    · show (file : Int) ≤ _; omega
  · rcases hsub x hx with hx | rfl
    · exact h.len x hx
    · simp [RI.recs]
  · rcases hsub x hx with hx | rfl
    · exact h.col x hx hn
    · simp [RI.recs] at hn

section
variable {w w' : World} {ps bs : Nat} {s : SC} {hv : Value} {ks : List K} {L : List EV} {bm cols : Nat} {d : DS} {M : List PF} {pre : List RI} {o : Option RI} {F : List Nat}

/-- The new run laid into the list. -/
theorem SB.pushRun {w2 w4 : World} {d' : DS} {M' : List PF} {x : RI} {v' : Value} (h : SB w ps bs s hv ks L bm cols d M pre none) (hR2 : RunsSt w2 s.bx bm s.blk cols d' M' pre (some x)) (t2 : Touch [s.bx, bm] w w2) (t4 : Touch s.rv.ownBlock.toList w2 w4) (hP : POwn w4 v' (pre ++ [x])) :
    SorterAt w4 ps s ∧ SB (w4.setCell ⟨ps, 13, none⟩ v') ps bs { s with rv := v' } hv ks L bm cols d' M' pre (some x) ∧ Touch (ps :: s.bx :: bm :: s.rv.ownBlock.toList) w (w4.setCell ⟨ps, 13, none⟩ v') := by
  have n2 : ∀ t, (117 : TypeId) ≠ t → (9 : TypeId) ≠ t → (223 : TypeId) ≠ t → NoTag t w [s.bx, bm] := fun t h1 h2 h3 => (h.runs.notag h1 h2 h3).sub (fun k hk => by
    simp only [List.mem_cons, List.not_mem_nil, or_false] at hk
    rcases hk with rfl | rfl <;> simp [runsF, diskF])
  have hown2 : POwn w2 s.rv (pre ++ (none : Option RI).toList) := h.own.u t2.u (fun k hk e => (n2 194 (by decide) (by decide) (by decide)).not_mem (h.own.block k hk).choose_spec e)
  have n4 : ∀ t, (194 : TypeId) ≠ t → NoTag t w2 s.rv.ownBlock.toList := fun t ht => hown2.notag ht
  have hS2 : SorterAt w2 ps s := h.sorter.u t2.u ((n2 260 (by decide) (by decide) (by decide)).not_mem h.sorter)
  have hS4 : SorterAt w4 ps s := hS2.u t4.u ((n4 260 (by decide)).not_mem hS2)
  have hS5 : SorterAt (w4.setCell ⟨ps, 13, none⟩ v') ps { s with rv := v' } := hS4.setRv v'
  have t5 : Touch [ps] w4 (w4.setCell ⟨ps, 13, none⟩ v') := (Touch.refl [ps] w4).setCell (p := ⟨ps, 13, none⟩) (by simp) v'
  have n5 : ∀ t, (260 : TypeId) ≠ t → NoTag t w4 [ps] := fun t ht => notag_of hS4 ht
  have hh2 : HeapSt w2 s.ph hv bs ps ks L := by
    refine h.heap.away h.sorter hS2 rfl t2.u (fun k hk e => ?_) (n2 _ (by decide) (by decide) (by decide)) (n2 _ (by decide) (by decide) (by decide)) (n2 _ (by decide) (by decide) (by decide))
    rcases List.mem_cons.1 e with e | e
    · exact (n2 302 (by decide) (by decide) (by decide)).not_mem h.heap.head (by rw [← e]; exact hk)
    · obtain ⟨cs, f, hc⟩ := h.heap.items.tag k (by simpa using e)
      exact (n2 263 (by decide) (by decide) (by decide)).not_mem hc hk
  have hh4 : HeapSt w4 s.ph hv bs ps ks L := by
    refine hh2.away hS2 hS4 rfl t4.u (fun k hk e => ?_) (n4 _ (by decide)) (n4 _ (by decide)) (n4 _ (by decide))
    rcases List.mem_cons.1 e with e | e
    · exact (n4 302 (by decide)).not_mem hh2.head (by rw [← e]; exact hk)
    · obtain ⟨cs, f, hc⟩ := hh2.items.tag k (by simpa using e)
      exact (n4 263 (by decide)).not_mem hc hk
  have hR4 : RunsSt w4 s.bx bm s.blk cols d' M' pre (some x) := by
    refine hR2.quiet t4 (fun k hk e => ?_) (n4 5 (by decide))
    obtain ⟨cs, hc⟩ := hown2.block k (by simpa using hk)
    exact (hR2.notag (t := 194) (by decide) (by decide) (by decide)).not_mem hc e
  refine ⟨hS4, ⟨hS5, hh4.turn hS4 hS5 rfl t5.u, h.held, h.ents, hR4.quiet t5 (fun k hk e => ?_) (n5 5 (by decide)), hP.u t5.u (fun k hk e => ?_)⟩, ?_⟩
  · rw [List.mem_singleton.1 hk] at e
    exact (hR4.notag (t := 260) (by decide) (by decide) (by decide)).not_mem hS4 e
  · rw [List.mem_singleton.1 e] at hk
    exact (hP.notag (t := 260) (by decide)).not_mem hS4 (by simp [hk])
  · exact ((t2.mono (by simp)).trans (t4.mono (fun k hk => by simp at hk; simp [hk]))).trans (t5.mono (by simp))
end
end Go.Proofs.YtjoinhljdbljaaaGreat

namespace Go.Proofs.YtjoinhljdbljaaaGreat
open Go.RowKit

/-- What a sorter holds on to from its making on. -/
structure Same (s s' : SC) : Prop where
  bx : s'.bx = s.bx
  blk : s'.blk = s.blk
  kv : s'.kv = s.kv
  count : s'.count = s.count
  most : s'.most = s.most
  fan : s'.fan = s.fan
  ph : s'.ph = s.ph
  came : s'.came = s.came
  mg : s'.mg = s.mg
  given : s'.given = s.given
theorem Same.refl (s : SC) : Same s s := ⟨rfl, rfl, rfl, rfl, rfl, rfl, rfl, rfl, rfl, rfl⟩
theorem Same.trans {a b c : SC} (h : Same a b) (k : Same b c) : Same a c := ⟨k.bx.trans h.bx, k.blk.trans h.blk, k.kv.trans h.kv, k.count.trans h.count, k.most.trans h.most, k.fan.trans h.fan, k.ph.trans h.ph, k.came.trans h.came, k.mg.trans h.mg, k.given.trans h.given⟩

/-- The blocks of one list are those of another, or new. -/
def Sub (w : World) (F' F : List Nat) : Prop := ∀ k ∈ F', k ∈ F ∨ w.heap.size ≤ k
theorem Sub.refl (w : World) (F : List Nat) : Sub w F F := fun _ h => .inl h
theorem Sub.trans {w w' : World} {A B C : List Nat} (h : Sub w B A) (k : Sub w' C B) (hs : w.heap.size ≤ w'.heap.size) : Sub w C A := fun i hi => by
  rcases k i hi with hi | hi
  · exact h i hi
  · exact .inr (Nat.le_trans hs hi)

theorem HeapOK.map {α β : Type} {lt : β → β → Bool} (f : α → β) {l : List α} (h : HeapOK (fun a b => lt (f a) (f b)) l) : HeapOK lt (l.map f) := fun i hi h0 => by
  have := h i (by simpa using hi) h0
  simpa using this
theorem heap_fst {ks : List K} {L : List EV} (h : HeapOK (ltEV ks) L) : HeapOK (ltEnt ks) (L.map Prod.fst) := HeapOK.map Prod.fst h

theorem RunsSt.added {w w' : World} {bx bm blk cols : Nat} {d d' : DS} {M M' : List PF} {pre : List RI} {x : RI} {y : Rec} {v' : Value} {cs' : List (List Rec)} {cur' : List Rec} {k : Nat} (h : RunsSt w bx bm blk cols d M pre (some x)) (hy : RecOK blk cols y) (hn : x.recs.length < 1000000) (hE : RunIs w' x.r bx blk x.file cols v' cs' cur' d') (hr : cs'.flatten ++ cur' = x.cs.flatten ++ x.cur ++ [y])
    (hW : Wrote w w' bx bm d M x.file (textsOf x.file cs') d' M' k) (t : TouchU (x.r :: diskF bx bm M) w w') : RunsSt w' bx bm blk cols d' M' pre (some ⟨x.r, x.file, cols, v', cs', cur'⟩) := by
  have hrec : RI.recs ⟨x.r, x.file, cols, v', cs', cur'⟩ = x.recs ++ [y] := by simp [RI.recs, hr]
  have hxm : x ∈ pre ++ (some x).toList := by simp
  have hfne : ∀ y ∈ pre, y.file ≠ x.file := fun y hy => by
    have := h.files
    simp only [List.map_append, Option.toList_some, List.map_cons, List.map_nil] at this
    exact nodup_last this _ (List.mem_map_of_mem hy)
  have hsub : ∀ z ∈ pre ++ (some (⟨x.r, x.file, cols, v', cs', cur'⟩ : RI)).toList, z ∈ pre ∨ z = ⟨x.r, x.file, cols, v', cs', cur'⟩ := fun z hz => by
    rcases List.mem_append.1 hz with hz | hz
    · exact .inl hz
    · exact .inr (by simpa using hz)
  refine ⟨hW.pd, hW.step.ok, fun z hz => ?_, fun z hz => by simp at hz; subst hz; exact hE, ?_, fun z hz u hu => ?_, fun z hz => ?_, fun z hz => ?_, fun z hz hn => ?_, by have := hW.step.block; have := h.block; omega, h.b2, h.b1, h.c2⟩
  · refine (h.done z hz).keep t (fun e => ?_) hW.step (by have := hfne z hz; omega)
    rcases List.mem_cons.1 e with e | e
    · exact hfne z hz (h.boxes (by simp [hz]) hxm e)
    · exact h.r_disk (by simp [hz]) e
  · have := h.files
    simpa using this
  · rcases hsub z hz with hz | rfl
    · exact h.recs z (by simp [hz]) u hu
    · rw [hrec] at hu
      rcases List.mem_append.1 hu with hu | hu
      · exact h.recs x hxm u hu
      · rw [List.mem_singleton.1 hu]; exact hy
  · rcases hsub z hz with hz | rfl
    · rw [hW.last]; exact h.known z (by simp [hz])
    · rw [hW.last]; exact h.known x hxm
  · rcases hsub z hz with hz | rfl
    · exact h.len z (by simp [hz])
    · rw [hrec, List.length_append, List.length_singleton]
      refine ⟨?_, by omega⟩
      have h1 := len_flatten (fun c hc => (hE.full c hc).1)
      have h2 := congrArg List.length hr
      simp only [List.length_append, List.length_singleton] at h2
      simp only [RI.recs, List.length_append]
      show cs'.length ≤ _
      omega
  · rcases hsub z hz with hz | rfl
    · exact h.col z (by simp [hz]) hn
    · rfl

section
variable {w w' : World} {ps bs : Nat} {s : SC} {hv : Value} {ks : List K} {L : List EV} {bm cols : Nat} {d : DS} {M : List PF} {pre : List RI} {o : Option RI}

theorem sbEndRun_any (m j : Nat) (h : SB w ps bs s hv ks L bm cols d M pre o) (hn : o = none → pre = []) (hl : Left d (m + 1) j) :
    Calls Tryz.prog 197 #[.pointer (some ⟨ps, 0, none⟩)] w fun e w' => e = .returned (.tuple #[]) ∧ ∃ pre' d' M', SB w' ps bs s hv ks L bm cols d' M' pre' none ∧ pre'.map RI.recs = (pre ++ o.toList).map RI.recs ∧ pre'.map RI.r = (pre ++ o.toList).map RI.r ∧ Left d' m j ∧ d'.last = d.last ∧ Sub w (rowsOf M') (rowsOf M) ∧ Touch (runsF s.bx bm M (pre ++ o.toList)) w w' := by
  cases o with
  | none =>
    have hp := hn rfl
    subst hp
    have hv0 : ∃ ao cap, s.rv = .slice ao 0 cap := by
      rcases h.own.shape with ⟨e, _⟩ | ⟨g, cap, cur, e, hh, hc, hm, hsz, hx⟩
      · exact ⟨_, _, e⟩
      · exact ⟨_, _, e⟩
    obtain ⟨ao, cap, hv0⟩ := hv0
    refine (endRun_none w ps s ao cap h.sorter hv0).mono ?_
    rintro e w' ⟨rfl, rfl⟩
    exact ⟨rfl, [], d, M, h, rfl, rfl, hl.mono (by omega) (Nat.le_refl _), rfl, Sub.refl _ _, Touch.refl _ _⟩
  | some x =>
    refine (endRun_some w ps bm cols m j s d M pre x h.sorter h.own h.runs hl).mono ?_
    rintro e w' ⟨rfl, x', d', M', p1, p2, p3, p4, p5, p6, p7, p8⟩
    have hsub : ∀ k ∈ x.r :: diskF s.bx bm M, k ∈ runsF s.bx bm M (pre ++ (some x).toList) := fun k hk => by
      rcases List.mem_cons.1 hk with rfl | hk
      · simp [runsF]
      · simp only [runsF, List.mem_append]; exact .inr hk
    refine ⟨rfl, pre ++ [x'], d', M', h.turnRuns p8.u (fun k hk => .inl (hsub k hk)) p5 ?_, ?_, ?_, p6, p4, p7, p8.mono hsub⟩
    · simp [RI.ptr, p1]
    · simp [p3]
    · simp [p1]

theorem sbNew_any (m j : Nat) (h : SB w ps bs s hv ks L bm cols d M pre none) (hl : Left d m (j + 1)) :
    Calls Tryz.prog 112 #[.agg #[.pointer (some ⟨s.bx, 0, none⟩), .int .i64 (s.blk : Int)]] w fun e w' => ∃ x : RI, e = .returned x.ptr ∧ w.heap.size ≤ x.r ∧ x.recs = [] ∧ ∃ d' M', RunsSt w' s.bx bm s.blk cols d' M' pre (some x) ∧ Left d' m j ∧ d'.last = d.last + 1 ∧ rowsOf M' = rowsOf M ∧ Touch [s.bx, bm] w w' := by
  have h1 := hl.last
  have h2 := h.runs.ok.last
  obtain ⟨file, hf⟩ : ∃ file : Nat, (file : Int) = d.last + 1 := ⟨(d.last + 1).toNat, by omega⟩
  refine (shelfNew_any w s.bx bm s.blk file d M h.runs.pd h.runs.ok (by omega) hf h.runs.b1).mono ?_
  rintro e w' ⟨r, rfl, hr, d', M', p1, p2, p3, p4, p5, p6, p7, p8, p9⟩
  refine ⟨⟨r, file, 0, .slice none 0 0, [], []⟩, rfl, hr, rfl, d', M', h.runs.fresh p1 p2 p3 p4 hf p9, ?_, p4, p8, p9⟩
  obtain ⟨a, b, c, e⟩ := hl
  have := p3.blocks
  exact ⟨by omega, by omega, by omega, by omega⟩

theorem sbAdd_any (m j : Nat) {x : RI} (y : Rec) (rv : Value) (h : SB w ps bs s hv ks L bm cols d M pre (some x)) (hy : RecOK s.blk cols y) (hrow : RowAt w rv y.row) (hn : x.recs.length < 1000000) (hl : Left d (m + 1) j) :
    Calls Tryz.prog 113 #[x.ptr, .agg #[.int .i64 y.no, rv]] w fun e w' => e = .returned (.tuple #[]) ∧ ∃ (x' : RI) (d' : DS) (M' : List PF), SB w' ps bs s hv ks L bm cols d' M' pre (some x') ∧ x'.r = x.r ∧ x'.recs = x.recs ++ [y] ∧ Left d' m j ∧ d'.last = d.last ∧ Sub w (rowsOf M') (rowsOf M) ∧ TouchU (runsF s.bx bm M (pre ++ [x])) w w' := by
  have hxm : x ∈ pre ++ (some x).toList := by simp
  have h1 := hl.last
  have h2 := h.runs.known x hxm
  have h3 := h.runs.len x hxm
  refine (add_any w x.r s.bx bm s.blk x.file cols x.cols x.v rv x.cs x.cur y d M (h.runs.opn x rfl) h.runs.pd h.runs.ok hrow hy (fun z hz => h.runs.recs x hxm z hz) h.runs.c2 h.runs.block h.runs.b2 (by omega) (by omega) (hl.mono (by omega) (Nat.le_refl _) : Left d 1 j).roomy).mono ?_
  rintro e w' ⟨rfl, v', cs', cur', d', M', k, hk, p1, p2, p3, p4, p5⟩
  have hsub : ∀ k ∈ x.r :: diskF s.bx bm M, k ∈ runsF s.bx bm M (pre ++ (some x).toList) := fun k hk => by
    rcases List.mem_cons.1 hk with rfl | hk
    · simp [runsF]
    · simp only [runsF, List.mem_append]; exact .inr hk
  refine ⟨rfl, ⟨x.r, x.file, cols, v', cs', cur'⟩, d', M', h.turnRuns p5 (fun k hk => .inl (hsub k hk)) (h.runs.added hy hn p1 p2 p4 p5) ?_, rfl, ?_, (hl.mono (by omega) (Nat.le_refl _) : Left d (m + k) j).wrote p4, p4.last, p4.rows, p5.mono hsub⟩
  · simp [RI.ptr]
  · simp only [RI.recs]; exact p2
end
end Go.Proofs.YtjoinhljdbljaaaGreat
