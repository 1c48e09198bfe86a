/- The rows of a list, one by one: slices.Values. Rows into a sorter, one by one. What two parties leave each other: a function that is ranged over, and the loop's body. Rows sorted: the walk of what q.sorted hands back. -/
import Derived.Test.YtjoinhljdbljaaaGreatQryA
import Derived.RangeFuncBound
import Derived.RangeFuncCalls
import Derived.Shelf.Abstract
import Derived.Shelf.RegionOpen
import Derived.OwnWalkIn
import Derived.TacticsInMore
import Derived.LoopNIn
import Derived.LoopIn
namespace Go.Proofs.YtjoinhljdbljaaaGreat
open Go.RowKit
attribute [local go_sem] Oper.semAt_some

/-- A list of rows, as it lies in memory. -/
def LAt (w : World) (v : Value) (vs : List Value) : Prop := ∃ o cap, v = .slice o vs.length cap ∧ (vs = [] ∨ ∃ g off cs, o = some ⟨g, off, none⟩ ∧ w.heap[g]? = some (.cells cs 83 (0, 0)) ∧ cap ≤ maxLen ∧ vs.length ≤ cap ∧ ∀ i (_ : i < vs.length), cs[off + i]? = some vs[i])
theorem LAt.keep {w w' : World} {v : Value} {vs : List Value} (h : LAt w v vs) (k : KeepTag 83 w w') : LAt w' v vs := by
  obtain ⟨o, cap, e, h⟩ := h
  refine ⟨o, cap, e, ?_⟩
  rcases h with h | ⟨g, off, cs, h1, h2, h3⟩
  · exact .inl h
  · exact .inr ⟨g, off, cs, h1, k _ _ _ h2, h3⟩

set_option maxRecDepth 20000 in
set_option maxHeartbeats 1000000 in
theorem values_seq (w0 : World) (b : Nat) (sv : Value) (vs : List Value) (hb : w0.heap[b]? = some (.cells #[sv] 36 (0, 0))) (hL : LAt w0 sv vs) (hsm : vs.length ≤ 1000000000) :
    SeqC 162 #[.pointer (some ⟨b, 0, none⟩)] (0 : Nat) (fun s _ => s = vs.length) (fun i v _ i' => vs[i]? = some v ∧ i' = i + 1) (fun A B => A = B) (fun W W' => KeepTag 83 W W') w0 := by
  intro l J _ hY h0
  have c0 := boxOne hb
  have HL := hL
  obtain ⟨o, cap, rfl, hcs⟩ := hL
  refine (callsIn_wide (n := 0)).1 ?_
  refine callsIn_of_wp Tryz.func162 rfl trivial ?_ rfl
  simp only [Tryz.ntmps162, List.size_toArray, List.length_cons, List.length_nil, Nat.reduceAdd, Nat.reduceSub, Array.replicate_succ, Array.replicate_zero, List.push_toArray, List.append_toArray, List.nil_append, List.cons_append]
  gi_wp2
  gi_loopw [7] (fun p wr => ∃ k : Nat, k ≤ vs.length ∧ p = .int .i64 k ∧ J k wr ∧ LAt wr (.slice o vs.length cap) vs) (fun p _ => vs.length - (intOf p).toNat)
  case atStart => exact ⟨0, by omega, rfl, h0, HL⟩
  case round =>
    obtain ⟨k, hk, rfl, hJ, hL⟩ := hrel
    by_cases hlt : k < vs.length
    · obtain ⟨o2, cap2, e2, h2⟩ := hL
      simp only [Value.slice.injEq] at e2
      obtain ⟨rfl, _, rfl⟩ := e2
      rcases h2 with h2 | ⟨g, off, cs, rfl, hg, hm, hc, hx⟩
      · subst h2; simp at hlt
      have d0 : wr.cell? ⟨g, off + k, none⟩ = some vs[k] := by simp only [World.cell?, hg]; exact hx k hlt
      obtain ⟨fn, tmps, assign, body, hy, hR⟩ := hY k vs[k] (k + 1) wr hJ ⟨by simp [hlt], rfl⟩
      unfold maxLen at hm
      generalize vs[k] = rv at *
      gi_wp2
      refine ⟨rfl, hR.mono ?_⟩
      rintro e W3 ⟨rfl, hJ3, hk3⟩
      gi_wp2
      refine ⟨⟨k + 1, by omega, by go_num, hJ3, LAt.keep ⟨_, _, rfl, .inr ⟨g, off, cs, rfl, hg, by unfold maxLen; omega, hc, hx⟩⟩ hk3⟩, ?_⟩
      simp [intOf]; omega
    · gi_wp2
      first | go_end0 | refine bodyPost_ret (results_none rfl _ _ _) rfl ?_
      obtain rfl : k = vs.length := by omega
      exact ⟨⟨_, rfl⟩, vs.length, rfl, hJ⟩
end Go.Proofs.YtjoinhljdbljaaaGreat

namespace Go.Proofs.YtjoinhljdbljaaaGreat
open Go.RowKit

/-- Rows, with their numbers. -/
def recsOf (rows : List (List V)) : List Rec := rows.mapIdx fun i r => ⟨(i : Int), r⟩
theorem recsOf_len (rows : List (List V)) : (recsOf rows).length = rows.length := by simp [recsOf]
theorem recsOf_take (rows : List (List V)) (i : Nat) (h : i < rows.length) : (recsOf rows).take (i + 1) = (recsOf rows).take i ++ [⟨(i : Int), rows[i]⟩] := by
  rw [take_snoc' _ i (by rw [recsOf_len]; exact h)]
  simp [recsOf]
theorem recsOf_mem {rows : List (List V)} {y : Rec} (h : y ∈ recsOf rows) : ∃ i, ∃ hi : i < rows.length, y = ⟨(i : Int), rows[i]⟩ := by
  obtain ⟨i, hi, rfl⟩ := List.getElem_of_mem h
  rw [recsOf_len] at hi
  exact ⟨i, hi, by simp [recsOf]⟩

/-- What a sorter holds on to while rows come. -/
structure Cst (s : SC) (bx blk count fan most : Nat) : Prop where
  bx : s.bx = bx
  blk : s.blk = blk
  count : s.count = count
  fan : s.fan = fan
  most : s.most = most
  mg : s.mg = .pointer none
  given : s.given = 0
theorem Cst.same {s s' : SC} {bx blk count fan most : Nat} (h : Cst s bx blk count fan most) (k : Same s s') : Cst s' bx blk count fan most := ⟨k.bx.trans h.bx, k.blk.trans h.blk, k.count.trans h.count, k.fan.trans h.fan, k.most.trans h.most, k.mg.trans h.mg, k.given.trans h.given⟩

structure AddSt (W : World) (ps bs bx bm blk count fan most cols mm j : Nat) (ks : List K) (rows : List (List V)) (i : Nat) : Prop where
  st : ∃ s hv L d M pre o lr, SpSt W ps bs s hv ks L bm cols d M pre o ((recsOf rows).take i) lr ∧ Hi bm (sbF ps s hv bm M (pre ++ o.toList)) ∧ s.came = i ∧ Cst s bx blk count fan most ∧ Left d (2 * L.length + (2 * (rows.length - i) + mm)) (L.length + ((rows.length - i) + j))

theorem AddSt.quiet {W W' : World} {ps bs bx bm blk count fan most cols mm j : Nat} {ks : List K} {rows : List (List V)} {i : Nat} (h : AddSt W ps bs bx bm blk count fan most cols mm j ks rows i) (t : Touch [] W W') : AddSt W' ps bs bx bm blk count fan most cols mm j ks rows i := by
  obtain ⟨s, hv, L, d, M, pre, o, lr, h1, h2⟩ := h.st
  exact ⟨s, hv, L, d, M, pre, o, lr, h1.quiet0 t, h2⟩

/-- What rows must be. -/
structure RowsOK (blk cols : Nat) (ks : List K) (rows : List (List V)) : Prop where
  ok : ∀ i (h : i < rows.length), RecOK blk cols ⟨(i : Int), rows[i]⟩
  able : ∀ r ∈ rows, Able ks r

theorem addSt_add {W : World} {ps bs bx bm blk count fan most cols mm j : Nat} {ks : List K} {rows : List (List V)} {i : Nat} {v : Value} (h : AddSt W ps bs bx bm blk count fan most cols mm j ks rows i) (hok : RowsOK blk cols ks rows) (hi : i < rows.length) (hrow : RowAt W v rows[i]) (hsm : rows.length ≤ 100000) (hcnt : rows.length ≤ count) (hmost : blk ≤ most) :
    Calls Tryz.prog 135 #[.pointer (some ⟨ps, 0, none⟩), v] W fun e W' => e = .returned (.tuple #[]) ∧ AddSt W' ps bs bx bm blk count fan most cols mm j ks rows (i + 1) ∧ OwnStep bm W W' := by
  obtain ⟨s, hv, L, d, M, pre, o, lr, h1, hhi, h2, h3, h4⟩ := h.st
  have hlen : ((recsOf rows).take i).length = i := by rw [List.length_take, recsOf_len]; omega
  have e1 := h3.blk
  have e2 := h3.count
  have e3 := h3.most
  refine (sorterAdd_any W ps bs s hv ks L bm cols d M pre o _ lr (2 * (rows.length - (i + 1)) + mm) ((rows.length - (i + 1)) + j) v rows[i] h1 (h4.mono (by omega) (by omega)) (by rw [h2, hlen]) hrow (by rw [hlen, e1]; exact hok.ok i hi) (hok.able _ (List.getElem_mem _)) (by omega) (by omega) (by omega)).mono ?_
  rintro e W' ⟨rfl, s', hv', L', d', M', pre', o', lr', p1, p2, p3, p4, p5⟩
  rw [hlen] at p1 p2
  rw [← recsOf_take rows i hi] at p1
  have hbm : bm < W.heap.size := h1.sb.runs.pd.lt bm (by simp)
  exact ⟨rfl, ⟨s', hv', L', d', M', pre', o', lr', p1, hhi.sub p5 (Nat.le_of_lt hbm), p2.came, Cst.same (s := { s with came := i + 1 }) ⟨h3.bx, h3.blk, h3.count, h3.fan, h3.most, h3.mg, h3.given⟩ p2, p3⟩, _, p4, h1.sb.ownF, hhi⟩

theorem addSt_end {W : World} {ps bs bx bm blk count fan most cols m j j2 P : Nat} {ks : List K} {rows : List (List V)} (h : AddSt W ps bs bx bm blk count fan most cols ((P * (rows.length + 1) + m) + 1) j ks rows rows.length) (hok : RowsOK blk cols ks rows) (hP : 1000000000 ≤ P + j) (hPj : P + j2 ≤ j) (hPs : P ≤ 900000) (hf : 2 ≤ fan) (hfs : fan ≤ 1000000) (hc1 : 1 ≤ cols) :
    Calls Tryz.prog 136 #[.pointer (some ⟨ps, 0, none⟩)] W fun e W' => e = .returned (.tuple #[]) ∧ SOut W' ps bx bm blk cols count m j2 ks (recsOf rows) [] ∧ OwnStep bm W W' := by
  obtain ⟨s, hv, L, d, M, pre, o, lr, h1, hhi, h2, h3, h4⟩ := h.st
  have hl := recsOf_len rows
  have ht : (recsOf rows).take rows.length = recsOf rows := List.take_of_length_le (by omega)
  rw [ht] at h1
  have e1 := h3.fan
  have hLl : L.length ≤ (recsOf rows).length := by
    have := h1.lists.perm.length_eq
    simp only [List.length_append, List.length_map] at this
    omega
  have hfew := h1.few
  have hab : ∀ y ∈ recsOf rows, Able ks y.row := fun y hy => by
    obtain ⟨i, hi, rfl⟩ := recsOf_mem hy
    exact hok.able _ (List.getElem_mem _)
  refine (end_any W ps bs s hv ks L bm cols d M pre o (recsOf rows) lr P m j j2 h1 (by rw [hl]; exact h4.mono (by omega) (by omega)) hP hPj hPs (by omega) (by omega) hc1 hab h3.given h3.mg (by omega) hhi).mono ?_
  rintro e W' ⟨rfl, hE⟩
  have := hE.st
  rw [h3.bx, h3.blk, h3.count] at this
  exact ⟨rfl, this, _, hE.touch, h1.sb.ownF, hhi⟩
end Go.Proofs.YtjoinhljdbljaaaGreat

namespace Go.Proofs.YtjoinhljdbljaaaGreat
open Go.RowKit

/-- Neither cells nor a map. -/
def Odd (ob : Obj) : Prop := (∀ cs t f, ob ≠ .cells cs t f) ∧ ∀ es c, ob ≠ .map es c
theorem odd_loop (r : Loop) : Odd (.loop r) := ⟨fun _ _ _ h => (by cases h), fun _ _ h => (by cases h)⟩
theorem odd_deferred (ds : Option (List Deferred)) : Odd (.deferred ds) := ⟨fun _ _ _ h => (by cases h), fun _ _ h => (by cases h)⟩

/-- All that a sorter and its merge lean on. -/
def AllT : List TypeId := [260, 302, 263, 194, 117, 9, 223, 307, 331, 305, 241, 228, 73, 85, 264, 310]

/-- What a loop's body keeps: cells of some types, maps, and what else lies from B on. -/
structure Guard (T : List TypeId) (B : Nat) (W W' : World) : Prop where
  size : W.heap.size ≤ W'.heap.size
  cells : ∀ t, t ∈ T → KeepTag t W W'
  maps : ∀ (k : Nat) (es : Array MapEntry) (c : Nat), W.heap[k]? = some (.map es c) → W'.heap[k]? = some (.map es c)
  others : ∀ (k : Nat) (ob : Obj), B ≤ k → W.heap[k]? = some ob → Odd ob → W'.heap[k]? = some ob
theorem Guard.refl (T : List TypeId) (B : Nat) (W : World) : Guard T B W W := ⟨Nat.le_refl _, fun _ _ _ _ _ h => h, fun _ _ _ h => h, fun _ _ _ h _ => h⟩
theorem Guard.trans {T : List TypeId} {B : Nat} {X Y Z : World} (h : Guard T B X Y) (k : Guard T B Y Z) : Guard T B X Z :=
  ⟨Nat.le_trans h.size k.size, fun t ht => (h.cells t ht).trans (k.cells t ht), fun i es c e => k.maps i es c (h.maps i es c e), fun i ob hB e ho => k.others i ob hB (h.others i ob hB e ho) ho⟩
theorem Guard.putObj {T : List TypeId} {B : Nat} {W : World} {l : Nat} {r r' : Loop} (h : W.heap[l]? = some (.loop r)) (hl : l < B) : Guard T B W (W.putObj l (.loop r')) := by
  refine ⟨by simp, fun t _ k cs f e => ?_, fun k es c e => ?_, fun k ob hB e _ => ?_⟩
  · rw [World.putObj_heap_other (fun e' => by subst e'; rw [h] at e; cases e)]; exact e
  · rw [World.putObj_heap_other (fun e' => by subst e'; rw [h] at e; cases e)]; exact e
  · rw [World.putObj_heap_other (by omega)]; exact e

theorem Guard.putOdd {T : List TypeId} {B : Nat} {W : World} {l : Nat} {ob ob' : Obj} (h : W.heap[l]? = some ob) (ho : Odd ob) (hl : l < B) : Guard T B W (W.putObj l ob') := by
  refine ⟨by simp, fun t _ k cs f e => ?_, fun k es c e => ?_, fun k o2 hB e _ => ?_⟩
  · rw [World.putObj_heap_other (fun e' => by subst e'; rw [h] at e; cases e; exact ho.1 _ _ _ rfl)]; exact e
  · rw [World.putObj_heap_other (fun e' => by subst e'; rw [h] at e; cases e; exact ho.2 _ _ rfl)]; exact e
  · rw [World.putObj_heap_other (by omega)]; exact e

/-- What a function that is ranged over keeps: all but its own. -/
structure OwnS (T : List TypeId) (lo B : Nat) (W W' : World) : Prop where
  size : W.heap.size ≤ W'.heap.size
  cells : ∀ t, t ∉ T → t ≠ 5 → KeepTag t W W'
  others : ∀ (k : Nat) (ob : Obj), k < B → W.heap[k]? = some ob → Odd ob → W'.heap[k]? = some ob
  low : Low lo W W'
theorem OwnS.trans {T : List TypeId} {lo B : Nat} {X Y Z : World} (h : OwnS T lo B X Y) (k : OwnS T lo B Y Z) : OwnS T lo B X Z :=
  ⟨Nat.le_trans h.size k.size, fun t ht h5 => (h.cells t ht h5).trans (k.cells t ht h5), fun i ob hB e ho => k.others i ob hB (h.others i ob hB e ho) ho, h.low.trans k.low⟩
theorem OwnStep.s {lo : Nat} {W W' : World} (h : OwnStep lo W W') (B : Nat) : OwnS OwnT lo B W W' := ⟨h.size, fun _ ht h5 => h.tag ht h5, fun _ _ _ e ho => h.other e ho.1 ho.2, h.low⟩
theorem Touch.s {lo : Nat} {W W' : World} (h : Touch [] W W') (T : List TypeId) (B : Nat) : OwnS T lo B W W' := ⟨h.size, fun t _ _ => h.tag0 t, fun k ob _ e _ => by rw [h.block k (Array.getElem?_eq_some_iff.1 e).1 (by simp)]; exact e, h.low (Hi.nil lo)⟩
theorem OwnS.putObj {T : List TypeId} {lo B : Nat} {W : World} {l : Nat} {ob ob' : Obj} (h : W.heap[l]? = some ob) (ho : Odd ob) (hl : B ≤ l) (hlo : lo ≤ l) : OwnS T lo B W (W.putObj l ob') := by
  refine ⟨by simp, fun t _ _ k cs f e => ?_, fun k o2 hB e _ => ?_, ⟨rfl, rfl, rfl, by simp, fun k hk _ => World.putObj_heap_other (by omega)⟩⟩
  · rw [World.putObj_heap_other (fun e' => by subst e'; rw [h] at e; cases e; exact ho.1 _ _ _ rfl)]; exact e
  · rw [World.putObj_heap_other (by omega)]; exact e

section
variable {W W' : World} {B : Nat}

theorem PD.guard {bx bm : Nat} {d : DS} {M : List PF} (h : PD W bx bm d M) (g : Guard AllT B W W') : PD W' bx bm d M := by
  obtain ⟨es, c, hb, he⟩ := h.map
  refine ⟨g.cells 117 (by decide) _ _ _ h.disk, ⟨es, c, g.maps _ _ _ hb, he⟩, h.files, fun m hm => ?_, h.nodup⟩
  obtain ⟨h1, h2⟩ := h.rows m hm
  refine ⟨h1, ?_⟩
  rcases h2 with h2 | ⟨k, cap, cur, e, hb, hh, rest⟩
  · exact .inl h2
  · exact .inr ⟨k, cap, cur, e, hb, g.cells 9 (by decide) _ _ _ hh, rest⟩
theorem RunsSt.guard {bx bm blk cols : Nat} {d : DS} {M : List PF} {pre : List RI} (h : RunsSt W bx bm blk cols d M pre none) (g : Guard AllT B W W') : RunsSt W' bx bm blk cols d M pre none :=
  { h with
    pd := h.pd.guard g
    done := fun x hx => by
      obtain ⟨⟨h1, h2, h3⟩, h4⟩ := h.done x hx
      exact ⟨⟨g.cells 223 (by decide) _ _ _ h1, h2, h3⟩, h4⟩
    opn := fun x hx => by cases hx }
theorem POwn.guard {v : Value} {R : List RI} (h : POwn W v R) (g : Guard AllT B W W') : POwn W' v R := by
  obtain ⟨h1, h2⟩ := h
  refine ⟨h1, ?_⟩
  rcases h2 with h2 | ⟨k, cap, cur, e, hb, hh, rest⟩
  · exact .inl h2
  · exact .inr ⟨k, cap, cur, e, hb, g.cells 194 (by decide) _ _ _ hh, rest⟩
theorem HeapSt.guard {ph : Nat} {v : Value} {bs ps : Nat} {ks : List K} {L : List EV} (h : HeapSt W ph v bs ps ks L) (g : Guard AllT B W W') : HeapSt W' ph v bs ps ks L := by
  obtain ⟨cs, f, vk, k1, k2, k3⟩ := h.ctx.keys
  refine ⟨g.cells 302 (by decide) _ _ _ h.head, ?_, ⟨g.cells 228 (by decide) _ _ _ h.ctx.s, cs, f, vk, g.cells 260 (by decide) _ _ _ k1, k2, Sl3.keep k3 (g.cells 73 (by decide))⟩, fun x hx => ⟨Sl3.keep (h.rows x hx).1 (g.cells 85 (by decide)), (h.rows x hx).2⟩, h.ok⟩
  obtain ⟨h1, h2⟩ := h.items
  refine ⟨h1, ?_⟩
  rcases h2 with h2 | ⟨k, cap, cur, e, hb, hh, rest⟩
  · exact .inl h2
  · exact .inr ⟨k, cap, cur, e, hb, g.cells 263 (by decide) _ _ _ hh, rest⟩
theorem OutA.guard {ps bs : Nat} {s : SC} {hv : Value} {ks : List K} {L : List EV} {bm cols : Nat} {d : DS} {M : List PF} {rows out : List Rec} (h : OutA W ps bs s hv ks L bm cols d M rows out) (g : Guard AllT B W W') : OutA W' ps bs s hv ks L bm cols d M rows out :=
  ⟨⟨g.cells 260 (by decide) _ _ _ h.sb.sorter, h.sb.heap.guard g, h.sb.held, h.sb.ents, h.sb.runs.guard g, h.sb.own.guard g⟩, h.give, h.mg, h.given, h.few, h.hi⟩
theorem Guard.mg (g : Guard AllT B W W') (ps : Nat) : MgKeep ps W W' := ⟨g.cells _ (by decide), g.cells _ (by decide), g.cells _ (by decide), g.cells _ (by decide), g.cells _ (by decide), g.cells _ (by decide), g.cells _ (by decide), g.cells _ (by decide), (g.cells _ (by decide)).key ps⟩
theorem OutB.guard {lo ps : Nat} {s : SC} {ks : List K} {bm cols : Nat} {d : DS} {M : List PF} {pre : List RI} {pm ph : Nat} {hv : Value} {bf : Nat} {L : List CU} {rows out : List Rec} (h : OutB W lo ps s ks bm cols d M pre pm ph hv bf L rows out) (g : Guard AllT B W W') : OutB W' lo ps s ks bm cols d M pre pm ph hv bf L rows out :=
  ⟨⟨g.cells 260 (by decide) _ _ _ h.sm.sorter, Sl3.keep h.sm.keys (g.cells 73 (by decide)), h.sm.runs.guard g, h.sm.own.keep (g.cells 194 (by decide))⟩, h.st.keep (g.mg ps), h.mrg, h.mg, h.given, h.few, h.last, h.c1, h.hi⟩
theorem SOut.guard {ps bx bm blk cols count m j : Nat} {ks : List K} {rows out : List Rec} (h : SOut W ps bx bm blk cols count m j ks rows out) (g : Guard AllT B W W') : SOut W' ps bx bm blk cols count m j ks rows out := by
  obtain ⟨s, d, M, e1, e2, e3, hl, hc⟩ := h.st
  refine ⟨s, d, M, e1, e2, e3, hl, ?_⟩
  rcases hc with ⟨bs, hv, L, hA⟩ | ⟨lo, pre, pm, ph, hv, bf, L, hB⟩
  · exact .inl ⟨bs, hv, L, hA.guard g⟩
  · exact .inr ⟨lo, pre, pm, ph, hv, bf, L, hB.guard g⟩
theorem SEnd.guard {ps bx bm blk cols m j : Nat} (h : SEnd W ps bx bm blk cols m j) (g : Guard AllT B W W') : SEnd W' ps bx bm blk cols m j := by
  obtain ⟨s, d, M, pre, h1, h2, h3, h4, h5, h6⟩ := h.st
  refine ⟨h.hi, s, d, M, pre, h1, h2, g.cells 260 (by decide) _ _ _ h3, h4.guard g, ?_, h6⟩
  rcases h5 with h5 | h5
  · exact .inl (h5.keep (g.cells 194 (by decide)))
  · exact .inr h5
end

/-- A loop's record turns. -/
theorem Touch.putObj {W : World} (l : Nat) (ob : Obj) : Touch [l] W (W.putObj l ob) := ⟨rfl, rfl, rfl, by simp, fun k _ hn => World.putObj_heap_other (by simpa using hn)⟩
theorem AddSt.putObj {W : World} {ps bs bx bm blk count fan most cols mm j : Nat} {ks : List K} {rows : List (List V)} {i l : Nat} {ob ob' : Obj} (h : AddSt W ps bs bx bm blk count fan most cols mm j ks rows i) (hl : W.heap[l]? = some ob) (ho : Odd ob) : AddSt (W.putObj l ob') ps bs bx bm blk count fan most cols mm j ks rows i := by
  obtain ⟨s, hv, L, d, M, pre, o, lr, h1, h2⟩ := h.st
  have nt : ∀ t, NoTag t W [l] := fun t k hk cs f e => by
    rw [List.mem_singleton.1 hk, hl] at e
    cases e
    exact ho.1 _ _ _ rfl
  refine ⟨s, hv, L, d, M, pre, o, lr, h1.quiet (Touch.putObj l ob') (fun k hk e => ?_) (nt _) (nt _) (nt _) (nt _), h2⟩
  rw [List.mem_singleton.1 hk] at e
  rcases h1.sb.ownF l e with ⟨cs, t, f, e1, _⟩ | ⟨es, c, e1⟩
  · rw [hl] at e1; cases e1; exact ho.1 _ _ _ rfl
  · rw [hl] at e1; cases e1; exact ho.2 _ _ rfl
end Go.Proofs.YtjoinhljdbljaaaGreat

namespace Go.Proofs.YtjoinhljdbljaaaGreat
open Go.RowKit
attribute [local go_sem] Oper.semAt_some

/-- What a sort of a table's rows starts from. -/
structure SrtCtx (W : World) (bq bk bc bl b q : Nat) (tv wv kv sv : Value) (bx bm blk fan bud count cols : Nat) (ks : List K) (vs : List Value) (rows : List (List V)) (d : DS) (M : List PF) : Prop where
  hq : W.heap[bq]? = some (.cells #[.pointer (some ⟨q, 0, none⟩)] 159 (0, 0))
  hQ : W.heap[q]? = some (.cells #[tv, .int .i64 (blk : Int), .int .i64 (fan : Int), .int .i64 (bud : Int), .pointer (some ⟨bx, 0, none⟩), wv] 162 (0, 0))
  hk : W.heap[bk]? = some (.cells #[kv] 74 (0, 0))
  keys : KeysAt W kv ks
  hc : W.heap[bc]? = some (.cells #[.int .i64 (count : Int)] 3 (0, 0))
  hl : W.heap[bl]? = some (.cells #[.func (.func 162) #[] #[.pointer (some ⟨b, 0, none⟩)]] 165 (0, 0))
  hb : W.heap[b]? = some (.cells #[sv] 36 (0, 0))
  list : LAt W sv vs
  len : vs.length = rows.length
  rowsAt : ∀ i (h : i < vs.length) (h' : i < rows.length), RowAt W vs[i] rows[i]
  pd : PD W bx bm d M
  ok : DiskOK d
  oks : RowsOK blk cols ks rows
  b1 : 16 ≤ blk
  b2 : blk ≤ 4096
  b3 : (blk : Int) ≤ d.block
  c1 : 1 ≤ cols
  c2 : cols ≤ 1000
  bud1 : 4 * blk ≤ bud
  bud2 : bud ≤ 9223372036854775807
  fan1 : 2 ≤ fan
  fan2 : fan ≤ 1000000
  few : rows.length ≤ 100000
  cnt : rows.length ≤ count
  hi : Hi bm (diskF bx bm M)

theorem KeysAt.slice {w : World} {v : Value} {ks : List K} (h : KeysAt w v ks) : ∃ o n c, v = .slice o n c := by
  obtain ⟨o, c, e⟩ := h.shape
  exact ⟨_, _, _, e⟩

theorem SOut.mem {w : World} {ps bx bm blk cols count m j : Nat} {ks : List K} {rows out : List Rec} (h : SOut w ps bx bm blk cols count m j ks rows out) : ∀ x ∈ out, x ∈ rows := fun x hx => by
  obtain ⟨s, d, M, e1, e2, e3, hl, hc⟩ := h.st
  rcases hc with ⟨bs, hv, L, hA⟩ | ⟨lo, pre, pm, ph, hv, bf, L, hB⟩
  · exact hA.give.perm.mem_iff.1 (by simp [hx])
  · exact hB.mrg.perm.mem_iff.1 (by simp [hx])
theorem SorterAt.keep {w w' : World} {ps : Nat} {s : SC} (h : SorterAt w ps s) (k : KeepTag 260 w w') : SorterAt w' ps s := k _ _ _ h
theorem HeadAt.keep {w w' : World} {ph : Nat} {v : Value} {bs : Nat} (h : HeadAt w ph v bs) (k : KeepTag 302 w w') : HeadAt w' ph v bs := k _ _ _ h

section
variable {W0 : World} {bq bk bc bl b q : Nat} {tv wv kv sv : Value} {bx bm blk fan bud count cols : Nat} {ks : List K} {vs : List Value} {rows : List (List V)} {d : DS} {M : List PF}

/-- A new sorter. -/
theorem SrtCtx.new (h : SrtCtx W0 bq bk bc bl b q tv wv kv sv bx bm blk fan bud count cols ks vs rows d M) (W : World) :
    Calls Tryz.prog 133 #[.agg #[.int .i64 (blk : Int), .int .i64 (fan : Int), .int .i64 (bud : Int)], .pointer (some ⟨bx, 0, none⟩), kv, .int .i64 (count : Int)] W fun e w' => ∃ ps bs ph, e = .returned (.pointer (some ⟨ps, 0, none⟩)) ∧ Hid (W.heap.size ≤ ps ∧ W.heap.size ≤ bs ∧ W.heap.size ≤ ph ∧ SorterAt w' ps (SC.new bx blk fan bud count kv ph) ∧ HeadAt w' ph (.slice none 0 0) bs ∧ w'.heap[bs]? = some (.cells #[.pointer (some ⟨ps, 0, none⟩)] 228 (0, 0))) ∧ Touch [] W w' := by
  have hb1 := h.b1
  refine (sorterNew_any W bx blk fan bud count kv (by omega) h.bud2 h.keys.slice).mono ?_
  rintro e w' ⟨ps, bs, ph, rfl, p1, p2, p3, p4, p5, p6, p7⟩
  exact ⟨ps, bs, ph, rfl, ⟨p1, p2, p3, p4, p5, p6⟩, p7⟩
theorem SrtCtx.add0 (h : SrtCtx W0 bq bk bc bl b q tv wv kv sv bx bm blk fan bud count cols ks vs rows d M) {mm j : Nat} (hl : Left d (2 * rows.length + mm) (rows.length + j)) {wx : World} {ps bs ph : Nat} (p4 : SorterAt wx ps (SC.new bx blk fan bud count kv ph)) (p5 : HeadAt wx ph (.slice none 0 0) bs) (p6 : wx.heap[bs]? = some (.cells #[.pointer (some ⟨ps, 0, none⟩)] 228 (0, 0))) (t : Touch [] W0 wx) (hps : bm ≤ ps) (hph : bm ≤ ph) : AddSt wx ps bs bx bm blk count (min fan (bud / 2 / blk)) (bud / 2) cols mm j ks rows 0 := by
  have hS := spSt_new (cols := cols) p4 p5 p6 t h.keys h.pd h.ok h.b1 h.b2 h.b3 h.c2 ⟨0, []⟩
  exact ⟨SC.new bx blk fan bud count kv ph, _, [], d, M, [], none, _, by simpa using hS, fun k hk => by
    simp only [sbF, heapF, runsF, SC.new, Value.ownBlock, Option.toList_none, List.append_nil, List.map_nil, List.nil_append, List.mem_cons, List.mem_append, List.not_mem_nil, or_false] at hk
    rcases hk with rfl | rfl | hk
    · exact hps
    · exact hph
    · exact h.hi k hk, rfl, ⟨rfl, rfl, rfl, rfl, rfl, rfl, rfl⟩, by simpa using hl⟩
end

set_option maxRecDepth 20000 in
set_option maxHeartbeats 1000000 in
theorem close_deferredIn (w : World) (ps bx bm blk cols m j n : Nat) (u : FrameMode) (h : SEnd w ps bx bm blk cols m j) : CallsDIn Fence.wide n Tryz.prog 134 #[.pointer (some ⟨ps, 0, none⟩)] u w fun e u' w' => u' = u ∧ e = .returned (.tuple #[]) ∧ Closed w w' bx bm blk cols m j := by
  obtain ⟨s, hS, hD⟩ := h.delete
  obtain ⟨c0, c1, c2, c3, c4, c5, c6, c7, c8, c9, c10, c11, c12, c13, c14, c15, cf⟩ := hS.cell
  clear h hS cf
  refine callsDIn_of_wp Tryz.func134 rfl trivial (wpIn_wide.2 ?_)
  simp only [Tryz.ntmps134, List.size_toArray, List.length_cons, List.length_nil, Nat.reduceAdd, Nat.reduceSub, Array.replicate_succ, Array.replicate_zero, List.push_toArray, List.append_toArray, List.nil_append, List.cons_append]
  go_wp2_with (go_at_call 166; refine hD.mono ?_; rintro e w1 ⟨rfl, h1⟩)
  go_end0
  exact ⟨rfl, h1⟩

set_option maxRecDepth 20000 in
set_option maxHeartbeats 4000000 in
theorem sorted_seq (W0 : World) (bq bk bc bl b q : Nat) (tv wv kv sv : Value) (bx bm blk fan bud count cols : Nat) (ks : List K) (vs : List Value) (rows : List (List V)) (d : DS) (M : List PF) (P m j j2 : Nat) (h : SrtCtx W0 bq bk bc bl b q tv wv kv sv bx bm blk fan bud count cols ks vs rows d M) (hl : Left d (2 * rows.length + ((P * (rows.length + 1) + m) + 1)) (rows.length + j)) (hP : 1000000000 ≤ P + j) (hPj : P + j2 ≤ j) (hPs : P ≤ 900000) :
    SeqC 132 #[.pointer (some ⟨bq, 0, none⟩), .pointer (some ⟨bk, 0, none⟩), .pointer (some ⟨bc, 0, none⟩), .pointer (some ⟨bl, 0, none⟩)] ([] : List Rec) (fun out W => out.Perm (recsOf rows) ∧ Srt ks out ∧ ∃ d' M', RunsSt W bx bm blk cols d' M' [] none ∧ Left d' m j2) (fun out v W out' => ∃ x, out' = out ++ [x] ∧ x ∈ recsOf rows ∧ RowAt W v x.row ∧ out'.length ≤ rows.length) (OwnS OwnT bm W0.heap.size) (Guard AllT W0.heap.size) W0 := by
  intro l J hJ hY h0
  have HNEW : Hid (∀ W, Calls Tryz.prog 133 #[.agg #[.int .i64 (blk : Int), .int .i64 (fan : Int), .int .i64 (bud : Int)], .pointer (some ⟨bx, 0, none⟩), kv, .int .i64 (count : Int)] W fun e w' => ∃ ps bs ph, e = .returned (.pointer (some ⟨ps, 0, none⟩)) ∧ Hid (W.heap.size ≤ ps ∧ W.heap.size ≤ bs ∧ W.heap.size ≤ ph ∧ SorterAt w' ps (SC.new bx blk fan bud count kv ph) ∧ HeadAt w' ph (.slice none 0 0) bs ∧ w'.heap[bs]? = some (.cells #[.pointer (some ⟨ps, 0, none⟩)] 228 (0, 0))) ∧ Touch [] W w') := h.new
  have HADD : Hid (∀ {wx : World} {ps bs ph : Nat}, SorterAt wx ps (SC.new bx blk fan bud count kv ph) → HeadAt wx ph (.slice none 0 0) bs → wx.heap[bs]? = some (.cells #[.pointer (some ⟨ps, 0, none⟩)] 228 (0, 0)) → Touch [] W0 wx → bm ≤ ps → bm ≤ ph → AddSt wx ps bs bx bm blk count (min fan (bud / 2 / blk)) (bud / 2) cols ((P * (rows.length + 1) + m) + 1) j ks rows 0) := fun p4 p5 p6 t u1 u2 => h.add0 hl p4 p5 p6 t u1 u2
  have hbm : bm < W0.heap.size := h.pd.lt bm (by simp)
  have c0 := boxOne h.hq
  have c1 := boxOne h.hk
  have c2 := boxOne h.hc
  have c3 := boxOne h.hl
  have hQ := h.hQ
  have q1 : W0.cell? ⟨q, 1, none⟩ = some (.int .i64 (blk : Int)) := by simp [World.cell?, hQ]
  have q2 : W0.cell? ⟨q, 2, none⟩ = some (.int .i64 (fan : Int)) := by simp [World.cell?, hQ]
  have q3 : W0.cell? ⟨q, 3, none⟩ = some (.int .i64 (bud : Int)) := by simp [World.cell?, hQ]
  have q4 : W0.cell? ⟨q, 4, none⟩ = some (.pointer (some ⟨bx, 0, none⟩)) := by simp [World.cell?, hQ]
  obtain ⟨ko, kn, kc, rfl⟩ := h.keys.slice
  have n1 := (Array.getElem?_eq_some_iff.1 h.hq).1
  have n2 := (Array.getElem?_eq_some_iff.1 h.hk).1
  have n3 := (Array.getElem?_eq_some_iff.1 h.hc).1
  have n4 := (Array.getElem?_eq_some_iff.1 h.hl).1
  have n5 := (Array.getElem?_eq_some_iff.1 hQ).1
  clear hQ
  refine callsIn_wide.1 (callsIn_of_wp_marks (n := 0) Tryz.func132 rfl trivial (wpIn_wide.2 ?_))
  simp only [Tryz.ntmps132, List.size_toArray, List.length_cons, List.length_nil, Nat.reduceAdd, Nat.reduceSub, Array.replicate_succ, Array.replicate_zero, List.push_toArray, List.append_toArray, List.nil_append, List.cons_append]
  go_wp2
  go_cut [6] from 7 (fun a wx => ∃ B ps bs, a = .pointer (some ⟨B, 0, none⟩) ∧ wx.heap[B]? = some (.cells #[.pointer (some ⟨ps, 0, none⟩)] 228 (0, 0)) ∧ AddSt wx ps bs bx bm blk count (min fan (bud / 2 / blk)) (bud / 2) cols ((P * (rows.length + 1) + m) + 1) j ks rows 0 ∧ Touch [] W0 wx ∧ W0.heap.size ≤ B)
  case first =>
    have HK : Hid (∀ W, Touch [] W0 W → W.cell? ⟨bq, 0, none⟩ = some (.pointer (some ⟨q, 0, none⟩)) ∧ W.cell? ⟨q, 1, none⟩ = some (.int .i64 (blk : Int)) ∧ W.cell? ⟨q, 2, none⟩ = some (.int .i64 (fan : Int)) ∧ W.cell? ⟨q, 3, none⟩ = some (.int .i64 (bud : Int)) ∧ W.cell? ⟨q, 4, none⟩ = some (.pointer (some ⟨bx, 0, none⟩)) ∧ W.cell? ⟨bk, 0, none⟩ = some (.slice ko kn kc) ∧ W.cell? ⟨bc, 0, none⟩ = some (.int .i64 (count : Int))) := fun W hW => ⟨cell_touch c0 hW, cell_touch q1 hW, cell_touch q2 hW, cell_touch q3 hW, cell_touch q4 hW, cell_touch c1 hW, cell_touch c2 hW⟩
    have m1 : W0.heap.size ≠ bq := by omega
    have m2 : W0.heap.size ≠ q := by omega
    have m3 : W0.heap.size ≠ bk := by omega
    have m4 : W0.heap.size ≠ bc := by omega
    clear h hl hJ hY h0 c3
    go_region_held3 (fun w' => w'.cell? ⟨bq, 0, none⟩ = some (.pointer (some ⟨q, 0, none⟩)) ∧ w'.cell? ⟨q, 1, none⟩ = some (.int .i64 (blk : Int)) ∧ w'.cell? ⟨q, 2, none⟩ = some (.int .i64 (fan : Int)) ∧ w'.cell? ⟨q, 3, none⟩ = some (.int .i64 (bud : Int)) ∧ w'.cell? ⟨q, 4, none⟩ = some (.pointer (some ⟨bx, 0, none⟩)) ∧ w'.cell? ⟨bk, 0, none⟩ = some (.slice ko kn kc) ∧ w'.cell? ⟨bc, 0, none⟩ = some (.int .i64 (count : Int))) (go_keep) (first | (go_at_call 133; refine (HNEW.out _).mono ?_; rintro e w1 ⟨ps, bs, ph, rfl, hA, hT1⟩; obtain ⟨k1, k2, k3, k4, k5, k6, k7⟩ := HK.out w1 (((Touch.refl [] _).drew).trans hT1); have HT1 : Hid (Touch [] W0 w1) := (((Touch.refl [] _).drew).trans hT1); clear hT1) | (go_at_call 133; refine (HNEW.out _).mono ?_; rintro e w1 ⟨ps, bs, ph, rfl, hA, hT1⟩; obtain ⟨k1, k2, k3, k4, k5, k6, k7⟩ := HK.out w1 ((((Touch.refl [] _).alloc _).drew).trans hT1); have HT1 : Hid (Touch [] W0 w1) := ((((Touch.refl [] _).alloc _).drew).trans hT1); have hbx : w1.heap[W0.heap.size]? = some (.cells #[.pointer none] 228 (0, 0)) := (hT1.block W0.heap.size (by simp) (by simp)).trans (heap_alloc_new W0 _); have x0 := boxOne hbx; have z0 : w1.frozen? ⟨W0.heap.size, 0, none⟩ = false := (by simp [World.frozen?, hbx]); have HBX : Hid _ := hbx; clear hT1 hbx))
    · go_wp2_with fail
      go_meet
      case rel =>
        obtain ⟨a1, a2, a3, a4, a5, a6⟩ := hA.out
        exact ⟨_, ps, bs, rfl, heap_alloc_new w1 _, HADD.out (a4.keep (((Touch.refl [] w1).alloc _).tag0 260)) (a5.keep (((Touch.refl [] w1).alloc _).tag0 302)) (((Touch.refl [] w1).alloc _).tag0 228 _ _ _ a6) (HT1.out.alloc _) (by have a1' : W0.heap.size ≤ ps := a1; omega) (by have a3' : W0.heap.size ≤ ph := a3; omega), HT1.out.alloc _, HT1.out.size⟩
    · go_wp2_with fail
      go_meet
      case rel =>
        obtain ⟨a1, a2, a3, a4, a5, a6⟩ := hA.out
        have t2 : Touch [W0.heap.size] w1 (w1.setCell ⟨W0.heap.size, 0, none⟩ (.pointer (some ⟨ps, 0, none⟩))) := (Touch.refl [W0.heap.size] w1).setCell (p := ⟨W0.heap.size, 0, none⟩) (by simp) _
        have hne : bs ≠ W0.heap.size := by
          have a2' : W0.heap.size + 1 ≤ bs := by simpa using a2
          omega
        have t3 : Touch [] W0 (w1.setCell ⟨W0.heap.size, 0, none⟩ (.pointer (some ⟨ps, 0, none⟩))) := HT1.out.onto t2 (fun i hi => .inr (by rw [List.mem_singleton.1 hi]; exact Nat.le_refl _))
        refine ⟨_, ps, bs, rfl, ?_, HADD.out (a4.keep (t2.tag (notag_of HBX.out (by decide)))) (a5.keep (t2.tag (notag_of HBX.out (by decide)))) (t2.u.keep a6 (by decide) (by simpa using hne)) t3 (by have a1' : W0.heap.size + 1 ≤ ps := (by simpa using a1); omega) (by have a3' : W0.heap.size + 1 ≤ ph := (by simpa using a3); omega), t3, Nat.le_refl _⟩
        rw [heap_setCell_same w1 W0.heap.size 0 _ 228 _ HBX.out]
        simp
  case rest =>
    obtain ⟨B, ps, bs, rfl, hB, hA, hT, hBn⟩ := hcut
    have H3 : Hid (∀ W, Touch [] W0 W → W.cell? ⟨bl, 0, none⟩ = some (.func (.func 162) #[] #[.pointer (some ⟨b, 0, none⟩)])) := fun W hW => cell_touch c3 hW
    have c3' := H3.out wc hT
    have cB := boxOne hB
    have n4' : bl < wc.heap.size := by have := hT.size; omega
    have HH : Hid (SrtCtx W0 bq bk bc bl b q tv wv (.slice ko kn kc) sv bx bm blk fan bud count cols ks vs rows d M) := h
    have HJ0 := hJ _ _ _ h0 (hT.s OwnT W0.heap.size)
    clear h hl c0 c1 c2 c3 q1 q2 q3 q4 HNEW HADD h0 n1 n2 n3 n5 n4
    go_wp2
    have tW : ∀ rec : Loop, Touch [] wc ((wc.alloc (.deferred (some []))).alloc (.loop rec)) := fun rec => ((Touch.refl [] wc).alloc _).alloc _
    refine range_law (w := wc) (gf := 162) (lb := #[.pointer (some ⟨b, 0, none⟩)]) rfl (enters_of Tryz.func162 (by kernel_rfl) rfl) rfl
      (fun rec => values_seq _ b sv vs (by have := hT.trans (tW rec); exact this.tag0 36 _ _ _ HH.out.hb) (HH.out.list.keep ((hT.trans (tW rec)).tag0 83)) (by have := HH.out.len; have := HH.out.few; omega))
      (by rintro A B' k ob rfl e _ _; exact e) (fun _ _ _ h1 h2 => h1.trans h2) (fun W r r' e => (Guard.putObj (T := [83]) (B := wc.heap.size + 2) e (by omega)).cells 83 (by decide))
      (fun i W => AddSt W ps bs bx bm blk count (min fan (bud / 2 / blk)) (bud / 2) cols ((P * (rows.length + 1) + m) + 1) j ks rows i ∧ W.heap[B]? = some (.cells #[.pointer (some ⟨ps, 0, none⟩)] 228 (0, 0)) ∧ (∀ i (_ : i < vs.length) (_ : i < rows.length), RowAt W vs[i] rows[i]) ∧ J [] W ∧ wc.heap.size ≤ W.heap.size)
      (by rintro i A B' hi rfl; exact hi) ?hIp (by rintro i v i' W r r' hs _; exact hs) ?h0
      (fun v => { tmps := #[.func (.yield l) #[] #[], .pointer (some ⟨bq, 0, none⟩), .pointer (some ⟨bk, 0, none⟩), .pointer (some ⟨bc, 0, none⟩), .pointer (some ⟨bl, 0, none⟩), undef, .pointer (some ⟨B, 0, none⟩), v, u8, u9, u10, u11, u12, u13, u14, u15, u16, u17, u18, u19, u20, .pointer (some ⟨ps, 0, none⟩), .func (.func 162) #[] #[.pointer (some ⟨b, 0, none⟩)], v, u24, u25, u26, u27, u28, u29, u30, u31, u32, u33, u34, u35, u36, u37, u38, u39, u40, u41], defers := [] }) ?assign ?body ?done
    case hIp =>
      rintro i W r r' ⟨h1, h2, h3, h4, h5⟩ hl
      have hg := OwnS.putObj (T := OwnT) (lo := bm) (B := W0.heap.size) (ob' := .loop r') hl (odd_loop r) (by have := hT.size; omega) (by have := hT.size; omega)
      exact ⟨h1.putObj hl (odd_loop r), hg.cells 228 (by decide) (by decide) _ _ _ h2, fun i a b => Sl3.keep (h3 i a b) (hg.cells 85 (by decide) (by decide)), hJ _ _ _ h4 hg, by simpa using h5⟩
    case h0 =>
      intro rec
      exact ⟨hA.quiet (tW rec), (tW rec).tag0 228 _ _ _ hB, fun i a b => (HH.out.rowsAt i a b).touch (hT.trans (tW rec)), hJ _ _ _ HJ0 ((tW rec).s OwnT _), (tW rec).size⟩
    case assign =>
      intro v W K hK
      gi_wp2
      exact hK
    case body =>
      rintro i v i' W ⟨h1, h2, h3, h4, h5⟩ ⟨hv, rfl⟩
      obtain ⟨hiv, hve⟩ := List.getElem?_eq_some_iff.1 hv
      have hir : i < rows.length := by have := HH.out.len; omega
      have hrow := h3 i hiv hir
      rw [hve] at hrow
      have hb1 := HH.out.b1
      have hbud := HH.out.bud1
      have hadd := addSt_add h1 HH.out.oks hir hrow HH.out.few HH.out.cnt (by omega)
      have cB2 := boxOne h2
      obtain ⟨vo, vcap, rfl⟩ := hrow.shape
      generalize rows[i].length = vn at *
      clear cB c3'
      gi_wp2
      refine ⟨trivial, rfl, (CallsIn.inRound _ (callsIn_wide.2 hadd)).mono ?_⟩
      rintro e w1 ⟨rfl, p1, p2⟩
      gi_wp2
      refine ⟨fun k ob e ho _ => p2.other e ?_ ?_, p2.tag (by decide) (by decide), p1, p2.tag (t := 228) (by decide) (by decide) _ _ _ h2, fun i a b => Sl3.keep (h3 i a b) (p2.tag (by decide) (by decide)), hJ _ _ _ h4 (p2.s _), Nat.le_trans h5 p2.size⟩
      · rcases ho with ⟨r, rfl⟩ | ⟨ds, rfl⟩
        · exact (odd_loop r).1
        · exact (odd_deferred ds).1
      · rcases ho with ⟨r, rfl⟩ | ⟨ds, rfl⟩
        · exact (odd_loop r).2
        · exact (odd_deferred ds).2
    case done =>
      rintro i W r r' rfl ⟨h1, h2, h3, h4, h5⟩ hl hk
      have hg := OwnS.putObj (T := OwnT) (lo := bm) (B := W0.heap.size) (ob' := .loop r') hl (odd_loop r) (by have := hT.size; omega) (by have := hT.size; omega)
      have h1' := h1.putObj (ob' := .loop r') hl (odd_loop r)
      have h2' := hg.cells 228 (by decide) (by decide) _ _ _ h2
      have hk' : (W.putObj (wc.heap.size + 1) (.loop r')).heap[wc.heap.size]? = some (.deferred (some [])) := (World.putObj_heap_other (by omega)).trans hk
      have h4' := hJ _ _ _ h4 hg
      have h5' : wc.heap.size ≤ (W.putObj (wc.heap.size + 1) (.loop r')).heap.size := by simpa using h5
      generalize W.putObj (wc.heap.size + 1) (.loop r') = W2 at *
      clear h1 h2 h3 h4 h5 hl hk hg
      have cB2 := boxOne h2'
      have hlen := HH.out.len
      rw [hlen] at h1'
      have hfan : 2 ≤ min fan (bud / 2 / blk) ∧ min fan (bud / 2 / blk) ≤ 1000000 := by
        have e1 := HH.out.fan1
        have e2 := HH.out.fan2
        have e3 := HH.out.bud1
        have e4 := HH.out.b1
        have e5 : 2 ≤ bud / 2 / blk := (Nat.le_div_iff_mul_le (by omega)).2 (by omega)
        omega
      have hend := addSt_end h1' HH.out.oks hP hPj hPs hfan.1 hfan.2 HH.out.c1
      clear cB c3' hA hB
      go_wp2_with (go_at_call 136; refine hend.mono ?_; rintro e w3 ⟨rfl, p1, p2⟩)
      have h4'' := hJ _ _ _ h4' (p2.s _)
      have hk'' := p2.other hk' (odd_deferred _).1 (odd_deferred _).2
      have h2'' := p2.tag (t := 228) (by decide) (by decide) _ _ _ h2'
      have hsz3 := Nat.le_trans h5' p2.size
      clear h1' h2' hk' h4' p2 cB2 hend h5'
      have hrl := recsOf_len rows
      go_loopg [] (rows.length) (fun g wr => ∃ out, out.length + g = rows.length ∧ SOut wr ps bx bm blk cols count m j2 ks (recsOf rows) out ∧ J out wr ∧ wr.heap[wc.heap.size]? = some (.deferred (some [])) ∧ wr.heap[B]? = some (.cells #[.pointer (some ⟨ps, 0, none⟩)] 228 (0, 0)) ∧ wc.heap.size ≤ wr.heap.size)
      case atStart => exact ⟨[], by simp, p1, h4'', hk'', h2'', hsz3⟩
      case round =>
        clear p1 h4'' hk'' h2'' hsz3
        obtain ⟨out, hlen2, hS, hJo, hkr, hBr, hsr⟩ := hrel
        have cB3 := boxOne hBr
        have hcnt := HH.out.cnt
        have hfew := HH.out.few
        by_cases hlt : out.length < rows.length
        · have hnx := sorterNext_row wr ps bx bm blk cols count m j2 ks (recsOf rows) out hS (by omega) (by omega) (by omega)
          refine (wpIn_wide (n := 0)).1 ?_
          gi_wp2
          refine ⟨trivial, rfl, (callsIn_wide.2 hnx).mono ?_⟩
          rintro e w4 ⟨x, ao, al, acap, rfl, r1, r2, r3⟩
          have hJ4 := hJ _ _ _ hJo (r3.s _)
          have hk4 := r3.other hkr (odd_deferred _).1 (odd_deferred _).2
          have hB4 := r3.tag (t := 228) (by decide) (by decide) _ _ _ hBr
          have hs4 := Nat.le_trans hsr r3.size
          obtain ⟨fn, tmps, assign, body, hy, hR⟩ := hY out (.slice ao al acap) (out ++ [x]) w4 hJ4 ⟨x, rfl, r2.mem x (by simp), r1, by rw [List.length_append, List.length_singleton]; omega⟩
          gi_wp2
          refine ⟨rfl, hR.mono ?_⟩
          rintro e W5 ⟨rfl, hJ5, hG5⟩
          gi_wp2
          go_roundg (gk - 1)
          case measure => omega
          case rel => exact ⟨out ++ [x], by rw [List.length_append, List.length_singleton]; omega, r2.guard hG5, hJ5, hG5.others _ _ (by have := hT.size; omega) hk4 (odd_deferred _), hG5.cells 228 (by decide) _ _ _ hB4, Nat.le_trans hs4 hG5.size⟩
        · have hnx := sorterNext_done wr ps bx bm blk cols count m j2 ks (recsOf rows) out hS (by omega) (by omega)
          have hso := hS.sorted (by omega)
          refine (wpIn_wide (n := 0)).1 ?_
          gi_wp2
          refine ⟨trivial, rfl, (callsIn_wide.2 hnx).mono ?_⟩
          rintro e w4 ⟨rfl, r1, r2⟩
          have hJ4 := hJ _ _ _ hJo (r2.s _)
          have hk4 := r2.other hkr (odd_deferred _).1 (odd_deferred _).2
          gi_wp2
          refine ⟨fun _ h => (by cases h), ?_⟩
          gi_wp2
          have hg := OwnS.putObj (T := OwnT) (lo := bm) (B := W0.heap.size) (ob' := .deferred none) hk4 (odd_deferred _) hT.size (by have := hT.size; omega)
          have hgd : Guard AllT (wc.heap.size + 1) w4 (w4.putObj wc.heap.size (.deferred none)) := Guard.putOdd hk4 (odd_deferred _) (by omega)
          have hcl := close_deferredIn _ ps bx bm blk cols m j2 (0 - 1) .returning (r1.guard hgd)
          refine ⟨by simp, .inl ⟨_, _, rfl, run_takeDeferred hk4, ?_⟩⟩
          refine ⟨by simp, .inr ⟨by simp [Fence.wide], _, _, 134, #[.pointer (some ⟨ps, 0, none⟩)], rfl, by simp [invoke, go_sem], fun _ _ => trivial, hcl.mono ?_⟩⟩
          rintro e u' w6 ⟨rfl, rfl, hC⟩
          obtain ⟨d', M', z1, z2⟩ := hC.st
          exact ⟨_, results_none rfl _ _ _, ⟨_, rfl⟩, out, ⟨hso.1, hso.2, d', M', z1, z2⟩, hJ _ _ _ (hJ _ _ _ hJ4 hg) (hC.step.s _)⟩
end Go.Proofs.YtjoinhljdbljaaaGreat
