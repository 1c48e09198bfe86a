/- The walk of mergeToFan. A sorter that gives its rows; the walk of Close. The walk of End. A sorter gives its next row. -/
import Derived.Test.YtjoinhljdbljaaaGreatMrgGToMrgK
import Derived.Deep.LoopGhost
import Derived.BigQuiet
namespace Go.Proofs.YtjoinhljdbljaaaGreat
open Go.RowKit

structure MtInv (w : World) (ps : Nat) (s : SC) (ks : List K) (bm cols : Nat) (rows : List Rec) (F : List Nat) (m j : Nat) (pre : List RI) (s' : SC) (d' : DS) (M' : List PF) (wr : World) : Prop where
  sm : SM wr ps s' ks bm cols d' M' pre none pre
  runs : Runs ks rows (pre.map RI.recs)
  same : ∃ v, s' = { s with rv := v }
  left : Left d' (pre.length * (rows.length + 1) + m) (pre.length + j)
  touch : TouchU F w wr
  sub : Sub w (smF ps s' bm M' pre) F
  few : pre.length ≤ 900000

theorem take_flat_le {l : List (List Rec)} (n : Nat) : ((l.take n).flatten).length ≤ l.flatten.length := by
  have : l.flatten = (l.take n).flatten ++ (l.drop n).flatten := by rw [← List.flatten_append, List.take_append_drop]
  rw [this, List.length_append]
  omega

theorem mt_step {w wr : World} {ps : Nat} {s s' : SC} {ks : List K} {bm cols : Nat} {rows : List Rec} {F : List Nat} {m j : Nat} {pre : List RI} {d' : DS} {M' : List PF} (h : MtInv w ps s ks bm cols rows F m j pre s' d' M' wr) (hf : 2 ≤ s.fan) (hlt : s.fan < pre.length) (hc1 : 1 ≤ cols) (hable : ∀ y ∈ rows, Able ks y.row) (hrows : rows.length ≤ 900000) (hcount : rows.length ≤ s.count) :
    Calls Tryz.prog 182 #[.pointer (some ⟨ps, 0, none⟩), .int .i64 ((min s.fan (pre.length - s.fan + 1) : Nat) : Int)] wr fun e w' => e = .returned (.tuple #[]) ∧ ∃ pre2 s2 d2 M2, MtInv w ps s ks bm cols rows F m j pre2 s2 d2 M2 w' ∧ pre2.length < pre.length ∧ s.fan ≤ pre2.length := by
  obtain ⟨n, hn⟩ : ∃ n, n = min s.fan (pre.length - s.fan + 1) := ⟨_, rfl⟩
  rw [← hn]
  have hn2 : 2 ≤ n ∧ n ≤ pre.length - s.fan + 1 ∧ n ≤ s.fan := by omega
  obtain ⟨v, hsame⟩ := h.same
  have hmem : ∀ x ∈ pre, ∀ y ∈ x.recs, y ∈ rows := fun x hx y hy => h.runs.perm.mem_iff.1 (List.mem_flatten.2 ⟨x.recs, List.mem_map_of_mem hx, hy⟩)
  have htot : (((pre.take n).map RI.recs).flatten).length ≤ rows.length := by
    have h1 := take_flat_le (l := pre.map RI.recs) n
    rw [List.map_take, h.runs.perm.length_eq.symm]
    exact h1
  have hlen2 : (pre.drop n).length + 1 = pre.length - n + 1 := by simp
  obtain ⟨q, hq⟩ : ∃ q, pre.length - n + 1 + q + 1 = pre.length := ⟨n - 2, by omega⟩
  have hq2 : (pre.length - n + 1 + q + 1) * (rows.length + 1) = (pre.length - n + 1) * (rows.length + 1) + q * (rows.length + 1) + (rows.length + 1) := by rw [Nat.add_mul, Nat.add_mul]; omega
  rw [hq] at hq2
  have hleft : Left d' ((((pre.take n).map RI.recs).flatten).length + (((pre.length - n + 1) * (rows.length + 1) + m) + 1)) ((pre.length - n + 1 + j) + 1) := h.left.mono (by omega) (by omega)
  have hcnt : s'.count = s.count := by rw [hsame]
  refine (mergeFirst_any wr ps s' ks bm cols d' M' pre n ((pre.length - n + 1) * (rows.length + 1) + m) (pre.length - n + 1 + j) _ rfl h.sm (by omega) (fun x hx y hy => hable y (hmem x hx y hy)) (fun x hx => h.runs.runs x.recs (List.mem_map_of_mem hx)) hc1 hleft (by omega) (by omega) h.few).mono ?_
  rintro e w' ⟨rfl, g', o', cap', r, hD, hg', hr⟩
  obtain ⟨x, d2, M2, p1, p2, p3, p4, p5, p6, p7⟩ := hD.st
  have hpl : (pre.drop n ++ [x]).length = pre.length - n + 1 := by simp
  refine ⟨rfl, pre.drop n ++ [x], _, d2, M2, ⟨p1, ?_, ⟨_, by rw [hsame]⟩, by rw [hpl]; exact p5, h.touch.more hD.touch h.sub, ?_, by have := h.few; omega⟩, by omega, by omega⟩
  · have := h.runs.merge n (out := x.recs) (by rw [← List.map_take]; exact p3) p4
    rw [List.map_append, List.map_drop]
    exact this
  · intro i hi
    have hsz := h.touch.size
    simp only [smF, runsF, List.mem_cons, List.mem_append, List.map_append, List.map_cons, List.map_nil, Value.ownBlock, Option.toList_some, List.not_mem_nil, or_false] at hi
    rcases hi with rfl | rfl | (hi | rfl) | hi
    · exact h.sub _ (by simp [smF])
    · rcases hg' with e | e
      · exact h.sub _ (by simp [smF, e])
      · exact .inr (by omega)
    · obtain ⟨z, hz, rfl⟩ := List.mem_map.1 hi
      exact h.sub _ (by simp only [smF, runsF, List.mem_cons, List.mem_append]; exact .inr (.inr (.inl (List.mem_map_of_mem (List.mem_of_mem_drop hz)))))
    · exact .inr (by omega)
    · rcases p7 i hi with e | e
      · exact h.sub _ e
      · exact .inr (by omega)

theorem MtInv.quiet {w wr w' : World} {ps : Nat} {s s' : SC} {ks : List K} {bm cols : Nat} {rows : List Rec} {F : List Nat} {m j : Nat} {pre : List RI} {d' : DS} {M' : List PF} (h : MtInv w ps s ks bm cols rows F m j pre s' d' M' wr) (t : Touch [] wr w') : MtInv w ps s ks bm cols rows F m j pre s' d' M' w' :=
  ⟨⟨h.sm.sorter.u t.u (by simp), Sl3.keep h.sm.keys (t.tag0 _), h.sm.runs.quiet t (by simp) (fun k hk => by simp at hk), h.sm.own.keep (t.tag0 _)⟩, h.runs, h.same, h.left, h.touch.more t.u (by simp), h.sub, h.few⟩

set_option maxRecDepth 20000 in
set_option maxHeartbeats 4000000 in
theorem mergeToFan_any (w : World) (ps : Nat) (s : SC) (ks : List K) (bm cols : Nat) (rows : List Rec) (F : List Nat) (m j : Nat) (pre : List RI) (s0 : SC) (d : DS) (M : List PF) (w0 : World) (h : MtInv w0 ps s ks bm cols rows F m j pre s0 d M w) (hne : pre ≠ []) (hf : 2 ≤ s.fan) (hfs : s.fan ≤ 1000000) (hc1 : 1 ≤ cols) (hable : ∀ y ∈ rows, Able ks y.row) (hrows : rows.length ≤ 900000) (hcount : rows.length ≤ s.count) :
    Calls Tryz.prog 170 #[.pointer (some ⟨ps, 0, none⟩)] w fun e w' => e = .returned (.tuple #[]) ∧ ∃ pre2 s2 d2 M2, MtInv w0 ps s ks bm cols rows F m j pre2 s2 d2 M2 w' ∧ pre2 ≠ [] := by
  have H0 : Hid (∃ pre2 s2 d2 M2, MtInv w0 ps s ks bm cols rows F m j pre2 s2 d2 M2 w ∧ pre2 ≠ [] ∧ pre2.length = pre.length) := ⟨pre, s0, d, M, h, hne, rfl⟩
  have HAB : Hid (∀ y ∈ rows, Able ks y.row) := hable
  clear h hne hable
  go_enter Tryz.func170, Tryz.ntmps170
  go_wp2
  go_loopg [] (pre.length) (fun g wr => ∃ pre2 s2 d2 M2, MtInv w0 ps s ks bm cols rows F m j pre2 s2 d2 M2 wr ∧ pre2 ≠ [] ∧ pre2.length = g)
  case atStart => exact H0.out
  case round =>
    clear H0
    obtain ⟨pre2, s2, d2, M2, hI, hne, hg⟩ := hrel
    obtain ⟨v, hsame⟩ := hI.same
    obtain ⟨g, of, cap, cur, hrv, hcur, hp1, hp2, hp3, hp4⟩ := hI.sm.own
    obtain ⟨c0, c1, c2, c3, c4, c5, c6, c7, c8, c9, c10, c11, c12, c13, c14, c15, cf⟩ := hI.sm.sorter.cell
    have hfan : s2.fan = s.fan := by rw [hsame]
    rw [hrv] at c13
    rw [hfan] at c5
    have hfew := hI.few
    have HI : Hid (MtInv w0 ps s ks bm cols rows F m j pre2 s2 d2 M2 wr ∧ pre2 ≠ [] ∧ pre2.length = gk) := ⟨hI, hne, hg⟩
    by_cases hlt : s.fan < pre2.length
    · have HST : Hid (∀ W, Touch [] wr W → Calls Tryz.prog 182 #[.pointer (some ⟨ps, 0, none⟩), .int .i64 (min (s.fan : Int) ((pre2.length : Int) - (s.fan : Int) + 1))] W fun e w' => e = .returned (.tuple #[]) ∧ ∃ pre3 s3 d3 M3, MtInv w0 ps s ks bm cols rows F m j pre3 s3 d3 M3 w' ∧ pre3.length < pre2.length ∧ s.fan ≤ pre3.length) := fun W hW => by
        have := mt_step (hI.quiet hW) hf hlt hc1 HAB.out hrows hcount
        have e : ((min s.fan (pre2.length - s.fan + 1) : Nat) : Int) = min (s.fan : Int) ((pre2.length : Int) - (s.fan : Int) + 1) := by omega
        rw [e] at this
        exact this
      have hlt2 : (s.fan : Int) < (pre2.length : Int) := by omega
      clear hI hne hg hsame hrv hcur hp2 hp4 cf hfan
      go_wp2
      go_region
      all_goals go_wp2
      have hwr : IntKind.i64.wrap (IntKind.i64.wrap ((pre2.length : Int) - (s.fan : Int)) + 1) = (pre2.length : Int) - (s.fan : Int) + 1 := by rw [wrap_small ((pre2.length : Int) - (s.fan : Int)) (by omega) (by omega), wrap_small _ (by omega) (by omega)]
      go_region_with (first | (go_at_call 182; refine (HST.out _ (((Touch.refl [] _).drew).drew)).mono ?_; rintro e w3 ⟨rfl, pre3, s3, d3, M3, q1, q2, q3⟩))
      all_goals
        go_wp2
        go_roundg (pre3.length)
        case measure => have := HI.out.2.2; omega
        case rel => exact ⟨pre3, s3, d3, M3, q1, (fun e => by rw [e] at q3; simp at q3; omega), rfl⟩
    · have hlt2 : ¬ (s.fan : Int) < (pre2.length : Int) := by omega
      clear hI hne hg hsame hrv hcur hp2 hp4 cf hfan
      go_wp2
      go_region
      all_goals go_wp2
      go_end0
      obtain ⟨hI, hne, hg⟩ := HI.out
      exact ⟨rfl, pre2, s2, d2, M2, hI.quiet ((Touch.refl [] _).drew), hne⟩
end Go.Proofs.YtjoinhljdbljaaaGreat

namespace Go.Proofs.YtjoinhljdbljaaaGreat
open Go.RowKit

/-- The types of what a sorter turns. -/
def OwnT : List TypeId := [260, 302, 263, 194, 117, 9, 223, 307, 331, 305, 241]
/-- Blocks of those types, and maps. -/
def OwnF (w : World) (F : List Nat) : Prop := ∀ k ∈ F, (∃ cs t f, w.heap[k]? = some (.cells cs t f) ∧ t ∈ OwnT) ∨ ∃ es c, w.heap[k]? = some (.map es c)
/-- Blocks that lie behind a base. -/
def Hi (B : Nat) (F : List Nat) : Prop := ∀ k ∈ F, B ≤ k
theorem Hi.sub {B : Nat} {w : World} {F G : List Nat} (h : Hi B F) (s : Sub w G F) (hB : B ≤ w.heap.size) : Hi B G := fun k hk => by
  rcases s k hk with e | e
  · exact h k e
  · exact Nat.le_trans hB e
/-- What lies below a base is as it was. -/
structure Low (B : Nat) (w w' : World) : Prop where
  os : w'.os = w.os
  tape : w'.tape = w.tape
  output : w'.output = w.output
  size : w.heap.size ≤ w'.heap.size
  block : ∀ k, k < B → k < w.heap.size → w'.heap[k]? = w.heap[k]?
theorem Low.refl (B : Nat) (w : World) : Low B w w := ⟨rfl, rfl, rfl, Nat.le_refl _, fun _ _ _ => rfl⟩
theorem Low.trans {B : Nat} {a b c : World} (h : Low B a b) (k : Low B b c) : Low B a c := ⟨k.os.trans h.os, k.tape.trans h.tape, k.output.trans h.output, Nat.le_trans h.size k.size, fun i h1 h2 => (k.block i h1 (Nat.lt_of_lt_of_le h2 h.size)).trans (h.block i h1 h2)⟩
theorem Low.mono {B C : Nat} {a b : World} (h : Low B a b) (hC : C ≤ B) : Low C a b := ⟨h.os, h.tape, h.output, h.size, fun k h1 h2 => h.block k (Nat.lt_of_lt_of_le h1 hC) h2⟩
theorem Low.below {w w' : World} (h : Low w.heap.size w w') : Below w.heap.size w w' := ⟨h.os, h.tape, h.output, h.size, fun k hk => h.block k hk hk⟩
theorem TouchU.low {B : Nat} {F : List Nat} {w w' : World} (t : TouchU F w w') (h : Hi B F) : Low B w w' := ⟨t.os, t.tape, t.output, t.size, fun k h1 h2 => t.block k h2 (fun e => by have := h k e; omega) (fun ⟨r, hr, hrk⟩ => by have := h r hr; omega)⟩
theorem Touch.low {B : Nat} {F : List Nat} {w w' : World} (t : Touch F w w') (h : Hi B F) : Low B w w' := t.u.low h
theorem Hi.nil (B : Nat) : Hi B [] := fun k hk => by simp at hk
/-- A step that turns nothing but a sorter's blocks and the disk's. -/
def OwnStep (B : Nat) (w w' : World) : Prop := ∃ F, TouchU F w w' ∧ OwnF w F ∧ Hi B F

theorem OwnF.notag {w : World} {F : List Nat} (h : OwnF w F) {t : TypeId} (ht : t ∉ OwnT) : NoTag t w F := fun k hk cs f e => by
  rcases h k hk with ⟨cs', t', f', h1, h2⟩ | ⟨es, c, h1⟩
  · rw [h1] at e
    simp only [Option.some.injEq, Obj.cells.injEq] at e
    obtain ⟨_, rfl, _⟩ := e
    exact ht h2
  · rw [h1] at e
    simp at e
theorem OwnStep.tag {B : Nat} {w w' : World} (h : OwnStep B w w') {t : TypeId} (ht : t ∉ OwnT) (h5 : t ≠ 5) : KeepTag t w w' := by
  obtain ⟨F, h1, h2, _⟩ := h
  exact h1.tag h5 (h2.notag ht)
theorem OwnStep.low {B : Nat} {w w' : World} (h : OwnStep B w w') : Low B w w' := by
  obtain ⟨F, h1, _, h3⟩ := h
  exact h1.low h3
theorem OwnStep.size {B : Nat} {w w' : World} (h : OwnStep B w w') : w.heap.size ≤ w'.heap.size := by
  obtain ⟨F, h1, _⟩ := h
  exact h1.size
/-- What is neither cells nor a map stays. -/
theorem OwnStep.other {B : Nat} {w w' : World} (h : OwnStep B w w') {k : Nat} {ob : Obj} (hk : w.heap[k]? = some ob) (h1 : ∀ cs t f, ob ≠ .cells cs t f) (h2 : ∀ es c, ob ≠ .map es c) : w'.heap[k]? = some ob := by
  obtain ⟨F, t, hF, _⟩ := h
  rw [t.block k (Array.getElem?_eq_some_iff.1 hk).1 (fun e => ?_) (fun _ cs f e => ?_)]
  · exact hk
  · rcases hF k e with ⟨cs, t', f, e1, _⟩ | ⟨es, c, e1⟩
    · rw [hk] at e1; simp at e1; exact h1 _ _ _ e1
    · rw [hk] at e1; simp at e1; exact h2 _ _ e1
  · rw [hk] at e; simp at e; exact h1 _ _ _ e
theorem Touch.own {B : Nat} {w w' : World} (h : Touch [] w w') : OwnStep B w w' := ⟨[], h.u, fun k hk => by simp at hk, Hi.nil B⟩

theorem PD.ownF {w : World} {bx bm : Nat} {d : DS} {M : List PF} (h : PD w bx bm d M) : OwnF w (diskF bx bm M) := fun k hk => by
  simp only [diskF, List.mem_cons] at hk
  rcases hk with rfl | rfl | hk
  · exact .inl ⟨_, _, _, h.disk, by decide⟩
  · obtain ⟨es, c, hb, _⟩ := h.map
    exact .inr ⟨es, c, hb⟩
  · obtain ⟨m, hm, hk⟩ := List.mem_flatMap.1 hk
    rcases (h.rows m hm).2 with ⟨e2, _⟩ | ⟨g, cap, cur, e2, _, hg, _⟩
    · rw [e2] at hk; simp [Value.ownBlock] at hk
    · rw [e2] at hk
      simp [Value.ownBlock] at hk
      subst hk
      exact .inl ⟨_, _, _, hg, by decide⟩
theorem RunsSt.ownF {w : World} {bx bm blk cols : Nat} {d : DS} {M : List PF} {pre : List RI} {o : Option RI} (h : RunsSt w bx bm blk cols d M pre o) : OwnF w (runsF bx bm M (pre ++ o.toList)) := fun k hk => by
  rcases List.mem_append.1 hk with hk | hk
  · obtain ⟨x, hx, rfl⟩ := List.mem_map.1 hk
    obtain ⟨n, v, hc⟩ := h.cell hx
    exact .inl ⟨_, _, _, hc, by decide⟩
  · exact h.pd.ownF k hk
theorem SB.ownF {w : World} {ps bs : Nat} {s : SC} {hv : Value} {ks : List K} {L : List EV} {bm cols : Nat} {d : DS} {M : List PF} {pre : List RI} {o : Option RI} (h : SB w ps bs s hv ks L bm cols d M pre o) : OwnF w (sbF ps s hv bm M (pre ++ o.toList)) := fun k hk => by
  simp only [sbF, heapF, List.mem_cons, List.mem_append, Option.mem_toList] at hk
  rcases hk with rfl | ((rfl | hk) | hk) | hk
  · exact .inl ⟨_, _, _, h.sorter, by decide⟩
  · exact .inl ⟨_, _, _, h.heap.head, by decide⟩
  · obtain ⟨cs, f, hc⟩ := h.heap.items.tag k hk
    exact .inl ⟨_, _, _, hc, by decide⟩
  · obtain ⟨cs, hc⟩ := h.own.block k hk
    exact .inl ⟨_, _, _, hc, by decide⟩
  · exact h.runs.ownF k hk
theorem MT.ownF {w : World} {bx lo : Nat} {F : List Nat} (h : MT w bx lo F) : OwnF w F := fun k hk => by
  obtain ⟨cs, t, f, h1, h2, _⟩ := h k hk
  refine .inl ⟨cs, t, f, h1, ?_⟩
  simp only [List.mem_cons, List.not_mem_nil, or_false] at h2
  rcases h2 with rfl | rfl | rfl | rfl | rfl <;> decide

/-- A sorter that is to be closed. -/
structure SEnd (w : World) (ps bx bm blk cols m j : Nat) : Prop where
  hi : bm ≤ bx
  st : ∃ s d M pre, s.bx = bx ∧ s.blk = blk ∧ SorterAt w ps s ∧ RunsSt w bx bm blk cols d M pre none ∧ (POff w s.rv pre ∨ (pre = [] ∧ ∃ ao cap, s.rv = .slice ao 0 cap)) ∧ Left d m j

set_option maxRecDepth 20000 in
set_option maxHeartbeats 1000000 in
theorem deleteNone_any (w : World) (ao : Option Addr) (cap : Nat) : Calls Tryz.prog 166 #[.slice ao 0 cap] w fun e w' => e = .returned (.tuple #[]) ∧ w' = w := by
  go_enter Tryz.func166, Tryz.ntmps166
  go_wp2
  refine wp_loop_rounds 1 ?_
  rw [rounds_succ]
  go_wp2
  first | go_end0 | refine bodyPost_ret (results_none rfl _ _ _) rfl ?_
  exact ⟨rfl, rfl⟩

/-- What is left when a sorter is closed: no file of its own. -/
structure Closed (w w' : World) (bx bm blk cols m j : Nat) : Prop where
  st : ∃ d M, RunsSt w' bx bm blk cols d M [] none ∧ Left d m j
  step : OwnStep bm w w'

theorem SEnd.delete {w : World} {ps bx bm blk cols m j : Nat} (h : SEnd w ps bx bm blk cols m j) : ∃ s, SorterAt w ps s ∧ Calls Tryz.prog 166 #[s.rv] w fun e w' => e = .returned (.tuple #[]) ∧ Closed w w' bx bm blk cols m j := by
  obtain ⟨s, d, M, pre, rfl, rfl, h1, h2, h3, h4⟩ := h.st
  refine ⟨s, h1, ?_⟩
  rcases h3 with h3 | ⟨rfl, ao, cap, e⟩
  · refine (deleteAll_any w s.bx bm s.blk cols d M s.rv pre [] m j h3 (by rw [List.append_nil]; exact h2) h4).mono ?_
    rintro e w' ⟨rfl, hD⟩
    obtain ⟨d', M', p1, p2, _, _⟩ := hD.st
    have hi := h.hi
    exact ⟨rfl, ⟨d', M', p1, p2⟩, _, hD.touch.u, fun k hk => h2.pd.ownF k (by
      simp only [List.mem_cons, List.not_mem_nil, or_false] at hk
      rcases hk with rfl | rfl <;> simp [diskF]), fun k hk => by
      simp only [List.mem_cons, List.not_mem_nil, or_false] at hk
      rcases hk with rfl | rfl <;> omega⟩
  · rw [e]
    refine (deleteNone_any w ao cap).mono ?_
    rintro e w' ⟨rfl, rfl⟩
    exact ⟨rfl, ⟨d, M, h2, h4⟩, (Touch.refl [] _).own⟩

set_option maxRecDepth 20000 in
set_option maxHeartbeats 1000000 in
theorem close_any (w : World) (ps bx bm blk cols m j : Nat) (h : SEnd w ps bx bm blk cols m j) : Calls Tryz.prog 134 #[.pointer (some ⟨ps, 0, none⟩)] w fun e w' => e = .returned (.tuple #[]) ∧ Closed w w' bx bm blk cols m j := by
  obtain ⟨s, hS, hD⟩ := h.delete
  obtain ⟨c0, c1, c2, c3, c4, c5, c6, c7, c8, c9, c10, c11, c12, c13, c14, c15, cf⟩ := hS.cell
  clear h hS cf
  go_enter Tryz.func134, Tryz.ntmps134
  go_wp2_with (go_at_call 166; refine hD.mono ?_; rintro e w1 ⟨rfl, h1⟩)
  go_end0
  exact ⟨rfl, h1⟩
set_option maxRecDepth 20000 in
set_option maxHeartbeats 1000000 in
theorem close_deferred (w : World) (ps bx bm blk cols m j : Nat) (u : FrameMode) (h : SEnd w ps bx bm blk cols m j) : CallsD Tryz.prog 134 #[.pointer (some ⟨ps, 0, none⟩)] u w fun e u' w' => u' = u ∧ e = .returned (.tuple #[]) ∧ Closed w w' bx bm blk cols m j := by
  obtain ⟨s, hS, hD⟩ := h.delete
  obtain ⟨c0, c1, c2, c3, c4, c5, c6, c7, c8, c9, c10, c11, c12, c13, c14, c15, cf⟩ := hS.cell
  clear h hS cf
  go_enter_d Tryz.func134, Tryz.ntmps134
  go_wp2_with (go_at_call 166; refine hD.mono ?_; rintro e w1 ⟨rfl, h1⟩)
  go_end0
  exact ⟨rfl, h1⟩
end Go.Proofs.YtjoinhljdbljaaaGreat

namespace Go.Proofs.YtjoinhljdbljaaaGreat
open Go.RowKit

/-- A sorter that gives rows out of its heap. -/
structure OutA (w : World) (ps bs : Nat) (s : SC) (hv : Value) (ks : List K) (L : List EV) (bm cols : Nat) (d : DS) (M : List PF) (rows out : List Rec) : Prop where
  sb : SB w ps bs s hv ks L bm cols d M [] none
  give : Giving ks rows (L.map Prod.fst) out
  mg : s.mg = .pointer none
  given : s.given = out.length
  few : L.length ≤ 100000
  hi : Hi bm (sbF ps s hv bm M [])
/-- A sorter that gives rows out of a merge. -/
structure OutB (w : World) (lo ps : Nat) (s : SC) (ks : List K) (bm cols : Nat) (d : DS) (M : List PF) (pre : List RI) (pm ph : Nat) (hv : Value) (bf : Nat) (L : List CU) (rows out : List Rec) : Prop where
  sm : SM w ps s ks bm cols d M pre none pre
  st : MgSt w lo pm ph hv bf ps ks pre L
  mrg : Merging ks rows (L.map CU.cur) out
  mg : s.mg = .pointer (some ⟨pm, 0, none⟩)
  given : s.given = out.length
  few : L.length ≤ 1000000
  last : d.last ≤ 1000000000
  c1 : 1 ≤ cols
  hi : bm ≤ ps ∧ bm ≤ s.bx ∧ bm ≤ lo
/-- A sorter that has given some of its rows. -/
structure SOut (w : World) (ps bx bm blk cols count m j : Nat) (ks : List K) (rows out : List Rec) : Prop where
  st : ∃ s d M, s.bx = bx ∧ s.blk = blk ∧ s.count = count ∧ Left d m j ∧ ((∃ bs hv L, OutA w ps bs s hv ks L bm cols d M rows out) ∨ (∃ lo pre pm ph hv bf L, OutB w lo ps s ks bm cols d M pre pm ph hv bf L rows out))

/-- The merge laid into the sorter. -/
theorem end_laid {w2 w3 : World} {ps : Nat} {s : SC} {ks : List K} {bm cols : Nat} {d : DS} {M : List PF} {pre : List RI} {rows : List Rec} {pm : Nat} (h : SM w2 ps s ks bm cols d M pre none pre) (hG : MgReady w2 w3 ps ks s.bx bm s.blk cols d M pre none pre pm) (hr : Runs ks rows (pre.map RI.recs)) (hg : s.given = 0) (hp : pre.length ≤ 1000000) (hl : d.last ≤ 1000000000) (c1 : 1 ≤ cols) (hi : bm ≤ ps ∧ bm ≤ s.bx ∧ bm ≤ w2.heap.size) :
    SorterAt w3 ps s ∧ ∃ ph hv bf L, OutB (w3.setCell ⟨ps, 14, none⟩ (.pointer (some ⟨pm, 0, none⟩))) w2.heap.size ps { s with mg := .pointer (some ⟨pm, 0, none⟩) } ks bm cols d M pre pm ph hv bf L rows [] := by
  obtain ⟨ph, hv, bf, L, a1, a2, a3⟩ := hG.st
  have k3 : ∀ t, (117 : TypeId) ≠ t → KeepTag t w2 w3 := fun t ht => hG.touch.tag (notag_of h.runs.pd.disk ht)
  have hS3 : SorterAt w3 ps s := k3 260 (by decide) _ _ _ h.sorter
  have hS4 := hS3.setMg (.pointer (some ⟨pm, 0, none⟩))
  have t4 : Touch [ps] w3 (w3.setCell ⟨ps, 14, none⟩ (.pointer (some ⟨pm, 0, none⟩))) := (Touch.refl [ps] w3).setCell (p := ⟨ps, 14, none⟩) (by simp) _
  have k4 : ∀ t, (260 : TypeId) ≠ t → KeepTag t w3 (w3.setCell ⟨ps, 14, none⟩ (.pointer (some ⟨pm, 0, none⟩))) := fun t ht => t4.tag (notag_of hS3 ht)
  refine ⟨hS3, ph, hv, bf, L, ⟨hS4, Sl3.keep h.keys ((k3 73 (by decide)).trans (k4 73 (by decide))), hG.runs.turned (hG.runs.pd.other t4 (fun k hk => by rw [List.mem_singleton.1 hk]; exact ⟨_, _, _, hS3, by decide, by decide⟩)) t4 (notag_of hS3 (by decide)) (notag_of hS3 (by decide)), h.own.keep ((k3 194 (by decide)).trans (k4 194 (by decide)))⟩, a1.keep ⟨k4 _ (by decide), k4 _ (by decide), k4 _ (by decide), k4 _ (by decide), k4 _ (by decide), k4 _ (by decide), k4 _ (by decide), k4 _ (by decide), KeepKey.of hS3 hS4 rfl⟩, a2.of_perm hr.perm, rfl, by simpa using hg, by omega, hl, c1, hi⟩

theorem SB.mt {w w1 : World} {ps bs : Nat} {s : SC} {hv : Value} {ks : List K} {bm cols : Nat} {d : DS} {M : List PF} {pre : List RI} {rows : List Rec} {F : List Nat} {m j : Nat} (h : SB w1 ps bs s hv ks [] bm cols d M pre none) (hr : Runs ks rows (pre.map RI.recs)) (hne : pre ≠ []) (hl : Left d (pre.length * (rows.length + 1) + m) (pre.length + j)) (ht : TouchU F w w1) (hs : Sub w (sbF ps s hv bm M pre) F) (hf : pre.length ≤ 900000) : MtInv w ps s ks bm cols rows F m j pre s d M w1 := by
  refine ⟨⟨h.sorter, h.keys, h.runs, ?_⟩, hr, ⟨s.rv, rfl⟩, hl, ht, fun k hk => hs k ?_, hf⟩
  · have := h.own
    simp only [Option.toList_none, List.append_nil] at this
    exact this.off hne
  · simp only [smF, sbF, List.mem_cons, List.mem_append] at hk ⊢
    rcases hk with hk | hk | hk
    · exact .inl hk
    · exact .inr (.inl (.inr hk))
    · exact .inr (.inr hk)

/-- What End leaves. -/
structure Ended (w w' : World) (F : List Nat) (ps bx bm blk cols count m j : Nat) (ks : List K) (rows : List Rec) : Prop where
  st : SOut w' ps bx bm blk cols count m j ks rows []
  touch : TouchU F w w'

theorem end_chain {w : World} {ps bs : Nat} {s : SC} {hv : Value} {ks : List K} {L : List EV} {bm cols : Nat} {d : DS} {M : List PF} {pre : List RI} {o : Option RI} {rows : List Rec} {lr : Rec} {P m j j2 : Nat} (h : SpSt w ps bs s hv ks L bm cols d M pre o rows lr) (hne : pre ++ o.toList ≠ []) (hl : Left d (2 * L.length + ((P * (rows.length + 1) + m) + 1)) (L.length + j)) (hP : 1000000000 ≤ P + j) (hPj : P + j2 ≤ j) (hPs : P ≤ 900000) (hf : 2 ≤ s.fan) (hfs : s.fan ≤ 1000000) (hc1 : 1 ≤ cols) (hable : ∀ y ∈ rows, Able ks y.row) (hg : s.given = 0) (hhi : Hi bm (sbF ps s hv bm M (pre ++ o.toList))) :
    Calls Tryz.prog 169 #[.pointer (some ⟨ps, 0, none⟩)] w fun e w1 => e = .returned (.tuple #[]) ∧
      Calls Tryz.prog 170 #[.pointer (some ⟨ps, 0, none⟩)] w1 fun e w2 => e = .returned (.tuple #[]) ∧ ∃ g of n cap, w2.cell? ⟨ps, 13, none⟩ = some (.slice (some ⟨g, of, none⟩) n cap) ∧
        Calls Tryz.prog 171 #[.slice (some ⟨g, of, none⟩) n cap, .func (.func 165) #[.pointer (some ⟨ps, 0, none⟩)] #[]] w2 fun e w3 => ∃ pm v14, e = .returned (.pointer (some ⟨pm, 0, none⟩)) ∧ w3.cell? ⟨ps, 14, none⟩ = some v14 ∧ w3.frozen? ⟨ps, 14, none⟩ = false ∧
          Ended w (w3.setCell ⟨ps, 14, none⟩ (.pointer (some ⟨pm, 0, none⟩))) (sbF ps s hv bm M (pre ++ o.toList)) ps s.bx bm s.blk cols s.count m j2 ks rows := by
  have hfew := h.few
  have hcnt := h.count
  refine (spillAll_any w ps bs s hv ks L bm cols d M pre o rows lr _ j h hl).mono ?_
  rintro e w1 ⟨rfl, s1, hv1, d1, M1, pre1, p1, p2, p3, p4, p5, p6, p7, p8⟩
  refine ⟨rfl, ?_⟩
  have hne1 := p6 hne
  have hlast := p4.last
  have hlen : pre1.length ≤ P := by omega
  have hmul : pre1.length * (rows.length + 1) ≤ P * (rows.length + 1) := Nat.mul_le_mul_right _ hlen
  have hI := p1.mt p2 hne1 (m := m) (j := j2) (p4.mono (by omega) (by omega)) p7 p8 (by omega)
  have e1 := p3.fan
  have e2 := p3.count
  refine (mergeToFan_any w1 ps s1 ks bm cols rows _ m j2 pre1 s1 d1 M1 w hI hne1 (by omega) (by omega) hc1 hable (by omega) (by omega)).mono ?_
  rintro e w2 ⟨rfl, pre2, s2, d2, M2, q1, q2⟩
  obtain ⟨v2, hs2⟩ := q1.same
  obtain ⟨g, of, cap, cur, hrv, _⟩ := q1.sm.own
  obtain ⟨_, _, _, _, _, _, _, _, _, _, _, _, _, c13, _⟩ := q1.sm.sorter.cell
  refine ⟨rfl, g, of, pre2.length, cap, by rw [← hrv]; exact c13, ?_⟩
  have hmem : ∀ x ∈ pre2, ∀ y ∈ x.recs, y ∈ rows := fun x hx y hy => q1.runs.perm.mem_iff.1 (List.mem_flatten.2 ⟨x.recs, List.mem_map_of_mem hx, hy⟩)
  have hl2 := q1.left.last
  have hf2 := q1.few
  rw [← hrv]
  refine (newMerge_any w2 ps s2 ks s2.bx bm s2.blk cols d2 M2 pre2 none s2.rv pre2 q1.sm.sorter q1.sm.keys q1.sm.runs q1.sm.own (fun x hx y hy => hable y (hmem x hx y hy)) (fun x hx => hx) (by omega) hc1 (by omega) (fun x hx => q1.runs.runs x.recs (List.mem_map_of_mem hx))).mono ?_
  rintro e w3 ⟨rfl, hG⟩
  have hbm : bm < w.heap.size := h.sb.runs.pd.lt bm (by simp)
  have hlow : bm ≤ ps ∧ bm ≤ s2.bx ∧ bm ≤ w2.heap.size := by
    have hsub := hhi.sub q1.sub (Nat.le_of_lt hbm)
    have := q1.touch.size
    exact ⟨hsub ps (by simp [smF]), hsub s2.bx (smF_bx ps s2 bm M2 pre2), by omega⟩
  obtain ⟨z1, ph, hv3, bf, L3, z2⟩ := end_laid q1.sm hG q1.runs (by rw [hs2]; exact p3.given.trans hg) (by omega) (by omega) hc1 hlow
  obtain ⟨_, _, _, _, _, _, _, _, _, _, _, _, _, _, u14, _, uf⟩ := z1.cell
  refine ⟨_, _, rfl, u14, uf 14, ⟨⟨_, d2, M2, ?_, ?_, ?_, q1.left.mono (by omega) (by omega), .inr ⟨_, pre2, _, ph, hv3, bf, L3, z2⟩⟩⟩, ?_⟩
  · show s2.bx = s.bx; rw [hs2]; exact p3.bx
  · show s2.blk = s.blk; rw [hs2]; exact p3.blk
  · show s2.count = s.count; rw [hs2]; exact p3.count
  · have hb2 : s2.bx ∈ smF ps s2 bm M2 pre2 := smF_bx ps s2 bm M2 pre2
    have hps : ps ∈ smF ps s2 bm M2 pre2 := by simp [smF]
    exact (q1.touch.more hG.touch.u (fun k hk => by rw [List.mem_singleton.1 hk]; exact q1.sub _ hb2)).more (((Touch.refl [ps] w3).setCell (p := ⟨ps, 14, none⟩) (by simp) _).u) (fun k hk => by rw [List.mem_singleton.1 hk]; exact q1.sub _ hps)

set_option maxRecDepth 20000 in
set_option maxHeartbeats 1000000 in
theorem end_any (w : World) (ps bs : Nat) (s : SC) (hv : Value) (ks : List K) (L : List EV) (bm cols : Nat) (d : DS) (M : List PF) (pre : List RI) (o : Option RI) (rows : List Rec) (lr : Rec) (P m j j2 : Nat) (h : SpSt w ps bs s hv ks L bm cols d M pre o rows lr) (hl : Left d (2 * L.length + ((P * (rows.length + 1) + m) + 1)) (L.length + j)) (hP : 1000000000 ≤ P + j) (hPj : P + j2 ≤ j) (hPs : P ≤ 900000) (hf : 2 ≤ s.fan) (hfs : s.fan ≤ 1000000) (hc1 : 1 ≤ cols) (hable : ∀ y ∈ rows, Able ks y.row) (hg : s.given = 0) (hmg : s.mg = .pointer none) (hL : L.length ≤ 100000) (hhi : Hi bm (sbF ps s hv bm M (pre ++ o.toList))) :
    Calls Tryz.prog 136 #[.pointer (some ⟨ps, 0, none⟩)] w fun e w' => e = .returned (.tuple #[]) ∧ Ended w w' (sbF ps s hv bm M (pre ++ o.toList)) ps s.bx bm s.blk cols s.count m j2 ks rows := by
  obtain ⟨c0, c1, c2, c3, c4, c5, c6, c7, c8, c9, c10, c11, c12, c13, c14, c15, cf⟩ := h.sb.sorter.cell
  have hmf : ∀ (fn : Fn) (first cap : Array Value) (w : World), (Instr.makeFunc fn first cap).run Tryz.prog w = .ok (.func fn first cap) w := fun _ _ _ _ => rfl
  by_cases hne : pre ++ o.toList = []
  · obtain ⟨hpre, ho⟩ := List.append_eq_nil_iff.1 hne
    have ho' : o = none := by cases o with | none => rfl | some x => simp at ho
    subst hpre
    subst ho'
    have hrv : ∃ ao cap, s.rv = .slice ao 0 cap := by
      rcases h.sb.own.shape with ⟨e, _⟩ | ⟨g, cap, cur, e, _⟩
      · exact ⟨_, _, e⟩
      · exact ⟨_, _, e⟩
    obtain ⟨ao, cap, hrv⟩ := hrv
    rw [hrv] at c13
    have HE : Hid (Ended w w (sbF ps s hv bm M ([] ++ (none : Option RI).toList)) ps s.bx bm s.blk cols s.count m j2 ks rows) := ⟨⟨⟨s, d, M, rfl, rfl, rfl, hl.mono (by omega) (by omega), .inl ⟨bs, hv, L, h.sb, Spill.giving (by simpa using h.lists), hmg, by simpa using hg, hL, hhi⟩⟩⟩, TouchU.refl _ _⟩
    clear h hl hable cf hrv
    go_enter Tryz.func136, Tryz.ntmps136
    go_wp2
    first | go_end0 | refine bodyPost_ret (results_none rfl _ _ _) rfl ?_
    exact ⟨rfl, HE.out⟩
  · have hch := end_chain h hne hl hP hPj hPs hf hfs hc1 hable hg hhi
    have hrv : ∃ g cap n, s.rv = .slice (some ⟨g, 0, none⟩) (n + 1) cap := by
      rcases h.sb.own.shape with ⟨_, e⟩ | ⟨g, cap, cur, e, _⟩
      · exact absurd e hne
      · refine ⟨g, cap, (pre ++ o.toList).length - 1, ?_⟩
        have : 0 < (pre ++ o.toList).length := List.length_pos_iff.2 hne
        rw [e]
        congr 1
        omega
    obtain ⟨g0, cap0, n0, hrv⟩ := hrv
    rw [hrv] at c13
    have hz : ¬ ((n0 + 1 : Nat) : Int) = 0 := by omega
    clear h hl hable cf hrv hne
    go_enter Tryz.func136, Tryz.ntmps136
    go_wp2_with (first | (go_at_call 169; refine hch.mono ?_; rintro e w1 ⟨rfl, hch1⟩) | (go_at_call 170; refine hch1.mono ?_; rintro e w2 ⟨rfl, g, of, n, cap, d13, hch2⟩) | (go_at_call 171; refine hch2.mono ?_; rintro e w3 ⟨pm, v14, rfl, e14, f14, hch3⟩))
    first | go_end0 | refine bodyPost_ret (results_none rfl _ _ _) rfl ?_
    exact ⟨rfl, hch3⟩
end Go.Proofs.YtjoinhljdbljaaaGreat

namespace Go.Proofs.YtjoinhljdbljaaaGreat
open Go.RowKit

/-- The sorter counts the row that it gives. -/
def gaveW (w : World) (ps : Nat) (n : Nat) : World := w.drew.setCell ⟨ps, 15, none⟩ (.int .i64 ((n : Int) + 1))
theorem gave_touch (w : World) (ps n : Nat) : Touch [ps] w (gaveW w ps n) := (((Touch.refl [ps] w).drew).setCell (p := ⟨ps, 15, none⟩) (by simp) _)
theorem gave_sorter {w : World} {ps : Nat} {s : SC} (h : SorterAt w ps s) : SorterAt (gaveW w ps s.given) ps { s with given := s.given + 1 } := by
  have h1 : SorterAt w.drew ps s := h.u ((Touch.refl [] w).drew).u (by simp)
  have := h1.setGiven (s.given + 1)
  unfold gaveW
  exact this

theorem SM.gave {w : World} {ps : Nat} {s : SC} {ks : List K} {bm cols : Nat} {d : DS} {M : List PF} {pre R : List RI} (h : SM w ps s ks bm cols d M pre none R) : SM (gaveW w ps s.given) ps { s with given := s.given + 1 } ks bm cols d M pre none R := by
  have t := gave_touch w ps s.given
  have k : ∀ t', (260 : TypeId) ≠ t' → KeepTag t' w (gaveW w ps s.given) := fun t' ht => t.tag (notag_of h.sorter ht)
  exact ⟨gave_sorter h.sorter, Sl3.keep h.keys (k 73 (by decide)), h.runs.turned (h.runs.pd.other t (fun k hk => by rw [List.mem_singleton.1 hk]; exact ⟨_, _, _, h.sorter, by decide, by decide⟩)) t (notag_of h.sorter (by decide)) (notag_of h.sorter (by decide)), h.own.keep (k 194 (by decide))⟩
theorem MgSt.gave {w : World} {lo ps pm ph bf : Nat} {s : SC} {hv : Value} {ks : List K} {R : List RI} {L : List CU} (h : MgSt w lo pm ph hv bf ps ks R L) (hS : SorterAt w ps s) : MgSt (gaveW w ps s.given) lo pm ph hv bf ps ks R L := by
  have t := gave_touch w ps s.given
  have k : ∀ t', (260 : TypeId) ≠ t' → KeepTag t' w (gaveW w ps s.given) := fun t' ht => t.tag (notag_of hS ht)
  exact h.keep ⟨k _ (by decide), k _ (by decide), k _ (by decide), k _ (by decide), k _ (by decide), k _ (by decide), k _ (by decide), k _ (by decide), KeepKey.of hS (gave_sorter hS) rfl⟩

section
variable {w : World} {ps bs : Nat} {s : SC} {hv : Value} {ks : List K} {L : List EV} {bm cols : Nat} {d : DS} {M : List PF} {rows out : List Rec}

theorem OutA.gave (h : OutA w ps bs s hv ks L bm cols d M rows out) : SB (gaveW w ps s.given) ps bs { s with given := s.given + 1 } hv ks L bm cols d M [] none :=
  h.sb.cells (gave_sorter h.sb.sorter) (gave_touch w ps s.given) rfl rfl rfl rfl rfl rfl
theorem OutA.len (h : OutA w ps bs s hv ks L bm cols d M rows out) : out.length + L.length = rows.length := by
  have := h.give.perm.length_eq
  simpa using this

theorem outA_row (h : OutA w ps bs s hv ks L bm cols d M rows out) (hL : L ≠ []) :
    Calls Tryz.prog 174 #[.pointer (some ⟨ps, 0, none⟩)] (gaveW w ps s.given) fun e w' => ∃ (x : Rec) (an : Int) (ao : Option Addr) (al acap : Nat) (ar az : Int), e = .returned (.agg #[.int .i64 an, .slice ao al acap, .int .i64 ar, .int .i64 az]) ∧ RowAt w' (.slice ao al acap) x.row ∧ (∃ s' hv' L', s'.bx = s.bx ∧ s'.blk = s.blk ∧ s'.count = s.count ∧ OutA w' ps bs s' hv' ks L' bm cols d M rows (out ++ [x])) ∧ OwnStep bm w w' := by
  obtain ⟨x, T, rfl⟩ : ∃ x T, L = x :: T := by
    cases L with
    | nil => exact absurd rfl hL
    | cons a l => exact ⟨a, l, rfl⟩
  refine (sbPop_any _ ps bs { s with given := s.given + 1 } hv ks (x :: T) bm cols d M [] none x h.gave (by simp) h.few).mono ?_
  rintro e w' ⟨rfl, hv', L', n, p1, p2, p3, p4, p5⟩
  obtain ⟨ao, acap, ea⟩ := p3.shape
  rw [ea] at p3
  have hlen := p2.length_eq
  have hfew := h.few
  simp only [List.length_cons] at hlen hfew
  refine ⟨x.1.rc, x.1.rc.no, ao, x.1.rc.row.length, acap, x.1.run, x.1.size, by rw [EV.val, ea]; rfl, p3, ⟨{ s with given := s.given + 1, held := n }, hv', L', rfl, rfl, rfl, ⟨p1, ?_, h.mg, ?_, by omega, ?_⟩⟩, ps :: heapF s.ph hv, ?_, ?_, ?_⟩
  · exact h.give.step (e := x.1) (by simp) (by simpa using p2.map Prod.fst) (heap_fst p1.heap.ok)
  · show s.given + 1 = _
    rw [h.given]; simp
  · have hi := h.hi
    unfold sbF heapF at hi ⊢
    rw [p4]
    exact hi
  · exact ((gave_touch w ps s.given).mono (by simp)).trans p5 |>.u
  · exact fun k hk => h.sb.ownF k (by
      rcases List.mem_cons.1 hk with rfl | hk
      · simp [sbF]
      · simp only [sbF, List.mem_cons, List.mem_append]; exact .inr (.inl (.inl hk)))
  · exact fun k hk => h.hi k (by
      rcases List.mem_cons.1 hk with rfl | hk
      · simp [sbF]
      · simp only [sbF, List.mem_cons, List.mem_append]; exact .inr (.inl (.inl hk)))

theorem OutA.close {m j : Nat} (h : OutA w ps bs s hv ks L bm cols d M rows out) (hl : Left d m j) : SEnd w ps s.bx bm s.blk cols m j := by
  refine ⟨h.hi _ (by simp [sbF, runsF, diskF]), s, d, M, [], rfl, rfl, h.sb.sorter, h.sb.runs, .inr ⟨rfl, ?_⟩, hl⟩
  rcases h.sb.own.shape with ⟨e, _⟩ | ⟨g, cap, cur, e, _⟩
  · exact ⟨_, _, e⟩
  · exact ⟨_, _, e⟩
theorem gave_closeA {m j : Nat} (h : OutA w ps bs s hv ks L bm cols d M rows out) (hl : Left d m j) : SEnd (gaveW w ps s.given) ps s.bx bm s.blk cols m j := by
  refine ⟨h.hi _ (by simp [sbF, runsF, diskF]), { s with given := s.given + 1 }, d, M, [], rfl, rfl, h.gave.sorter, h.gave.runs, .inr ⟨rfl, ?_⟩, hl⟩
  rcases h.sb.own.shape with ⟨e, _⟩ | ⟨g, cap, cur, e, _⟩
  · exact ⟨_, _, e⟩
  · exact ⟨_, _, e⟩
theorem gave_own (h : SorterAt w ps s) (n : Nat) (hp : bm ≤ ps) : OwnStep bm w (gaveW w ps n) := ⟨[ps], (gave_touch w ps n).u, fun k hk => by rw [List.mem_singleton.1 hk]; exact .inl ⟨_, _, _, h, by decide⟩, fun k hk => by rw [List.mem_singleton.1 hk]; exact hp⟩
end

section
variable {w : World} {lo ps : Nat} {s : SC} {ks : List K} {bm cols : Nat} {d : DS} {M : List PF} {pre : List RI} {pm ph : Nat} {hv : Value} {bf : Nat} {L : List CU} {rows out : List Rec}

theorem OutB.close {m j : Nat} (h : OutB w lo ps s ks bm cols d M pre pm ph hv bf L rows out) (hl : Left d m j) : SEnd w ps s.bx bm s.blk cols m j := ⟨h.hi.2.1, s, d, M, pre, rfl, rfl, h.sm.sorter, h.sm.runs, .inl h.sm.own, hl⟩
theorem SEnd.quiet {w w' : World} {ps bx bm blk cols m j : Nat} (h : SEnd w ps bx bm blk cols m j) (t : Touch [] w w') : SEnd w' ps bx bm blk cols m j := by
  obtain ⟨s, d, M, pre, h1, h2, h3, h4, h5, h6⟩ := h.st
  refine ⟨h.hi, s, d, M, pre, h1, h2, h3.u t.u (by simp), h4.quiet t (by simp) (fun k hk => by simp at hk), ?_, h6⟩
  rcases h5 with h5 | h5
  · exact .inl (h5.keep (t.tag0 _))
  · exact .inr h5

/-- The merge has no more. -/
theorem outB_done {m j : Nat} (h : OutB w lo ps s ks bm cols d M pre pm ph hv bf [] rows out) (hl : Left d m j) :
    Calls Tryz.prog 172 #[.pointer (some ⟨pm, 0, none⟩)] (gaveW w ps s.given) fun e w' => e = .returned (.tuple #[.agg #[.int .i64 0, .slice none 0 0], .bool false]) ∧ SEnd w' ps s.bx bm s.blk cols m j ∧ OwnStep bm w w' := by
  refine (mnext_nil _ lo pm ph hv bf ps ks pre (h.st.gave h.sm.sorter)).mono ?_
  rintro e w' ⟨rfl, t⟩
  refine ⟨rfl, SEnd.quiet (w := gaveW w ps s.given) ⟨h.hi.2.1, { s with given := s.given + 1 }, d, M, pre, rfl, rfl, h.sm.gave.sorter, h.sm.gave.runs, .inl h.sm.gave.own, hl⟩ t, [ps], ((gave_touch w ps s.given).more t (by simp)).u, fun k hk => by rw [List.mem_singleton.1 hk]; exact .inl ⟨_, _, _, h.sm.sorter, by decide⟩, fun k hk => by rw [List.mem_singleton.1 hk]; exact h.hi.1⟩

theorem OutB.quiet {w' : World} (h : OutB w lo ps s ks bm cols d M pre pm ph hv bf L rows out) (t : Touch [] w w') : OutB w' lo ps s ks bm cols d M pre pm ph hv bf L rows out :=
  ⟨⟨h.sm.sorter.u t.u (by simp), Sl3.keep h.sm.keys (t.tag0 _), h.sm.runs.quiet t (by simp) (fun k hk => by simp at hk), h.sm.own.keep (t.tag0 _)⟩, h.st.quiet t, h.mrg, h.mg, h.given, h.few, h.last, h.c1, h.hi⟩

/-- The merge gives its next record. -/
theorem outB_row {u : CU} {T : List CU} (h : OutB w lo ps s ks bm cols d M pre pm ph hv bf (u :: T) rows out) (hsm : rows.length ≤ 900000) :
    Calls Tryz.prog 172 #[.pointer (some ⟨pm, 0, none⟩)] (gaveW w ps s.given) fun e w' => ∃ (an : Int) (ao : Option Addr) (al acap : Nat), e = .returned (.tuple #[.agg #[.int .i64 an, .slice ao al acap], .bool true]) ∧ RowAt w' (.slice ao al acap) u.first.row ∧ (∃ hv' L', OutB w' lo ps { s with given := s.given + 1 } ks bm cols d M pre pm ph hv' bf L' rows (out ++ [u.first])) ∧ OwnStep bm w w' := by
  have hg := h.sm.gave
  have hm := h.st.gave h.sm.sorter
  have hfew := h.few
  simp only [List.length_cons] at hfew
  refine (mnext_cons _ lo pm ph hv bf ps ks pre u T s.bx bm s.blk cols d M pre none hm hg.runs (fun x hx => hx) (by omega) h.c1 h.last).mono ?_
  rintro e w' ⟨rfl, hrow, hN⟩
  obtain ⟨ao, acap, ea⟩ := hrow.shape
  obtain ⟨hv1, L1, a1, a2⟩ := hN.st
  have a3 := a2 rows out h.mrg
  obtain ⟨FF, t1, mt⟩ := hN.touch
  have k1 : ∀ t, t ∉ [117, 307, 331, 305, 241] → KeepTag t (gaveW w ps s.given) w' := fun t ht => t1.tag (mt.notag ht)
  have hlen1 : L1.length ≤ 1000000 := by
    have e1 := a3.perm.length_eq
    have := flat_len L1
    rw [List.length_append] at e1
    omega
  rw [ea] at hrow ⊢
  refine ⟨u.first.no, ao, _, acap, rfl, hrow, ⟨hv1, L1, ⟨k1 260 (by decide) _ _ _ hg.sorter, Sl3.keep hg.keys (k1 73 (by decide)), hN.runs, hg.own.keep (k1 194 (by decide))⟩, a1, a3, h.mg, by show s.given + 1 = _; rw [h.given]; simp, hlen1, h.last, h.c1, h.hi⟩, ?_⟩
  have hpsF : ps < w.heap.size := (Array.getElem?_eq_some_iff.1 h.sm.sorter).1
  refine ⟨ps :: FF, (((gave_touch w ps s.given).mono (by simp)).trans (t1.mono (fun k hk => List.mem_cons_of_mem _ hk))).u, fun k hk => ?_, fun k hk => ?_⟩
  rotate_left
  · rcases List.mem_cons.1 hk with rfl | hk
    · exact h.hi.1
    · obtain ⟨_, _, _, _, _, e⟩ := mt k hk
      rcases e with rfl | e
      · exact h.hi.2.1
      · exact Nat.le_trans h.hi.2.2 e
  rcases List.mem_cons.1 hk with rfl | hk
  · exact .inl ⟨_, _, _, h.sm.sorter, by decide⟩
  · by_cases e : k = ps
    · exact .inl ⟨_, _, _, by rw [e]; exact h.sm.sorter, by decide⟩
    · rcases mt.ownF k hk with ⟨cs, t, f, h1, h2⟩ | ⟨es, c, h1⟩
      · refine .inl ⟨cs, t, f, ?_, h2⟩
        rw [← (gave_touch w ps s.given).block k (by have := (Array.getElem?_eq_some_iff.1 h1).1; simpa [gaveW] using this) (by simpa using e)]
        exact h1
      · refine .inr ⟨es, c, ?_⟩
        rw [← (gave_touch w ps s.given).block k (by have := (Array.getElem?_eq_some_iff.1 h1).1; simpa [gaveW] using this) (by simpa using e)]
        exact h1
end
end Go.Proofs.YtjoinhljdbljaaaGreat
