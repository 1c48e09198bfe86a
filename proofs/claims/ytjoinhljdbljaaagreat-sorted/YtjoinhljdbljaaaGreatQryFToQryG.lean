/- A row's copy: slices.Clone. The walk of copied, over rows sorted. -/
import Derived.Test.YtjoinhljdbljaaaGreatQryBToQryE
namespace Go.Proofs.YtjoinhljdbljaaaGreat
open Go.RowKit

def T3.list (x : T3) : List Value := [x.1, x.2.1, x.2.2]
def flat3 (L : List T3) : List Value := L.flatMap T3.list
theorem flat3_len (L : List T3) : (flat3 L).length = L.length * 3 := by
  induction L with
  | nil => rfl
  | cons x L ih => simp only [flat3, List.flatMap_cons, List.length_append, List.length_cons] at *; rw [ih]; simp [T3.list]; omega
theorem flat3_at : ∀ (L : List T3) (i r : Nat) (h : i < L.length), r < 3 → (flat3 L)[i * 3 + r]? = (T3.list L[i])[r]?
  | [], _, _, h, _ => by simp at h
  | x :: L, 0, r, _, hr => by
    simp only [flat3, List.flatMap_cons, List.getElem_cons_zero]
    rw [List.getElem?_append_left (by simp [T3.list]; omega)]
    congr 1
    omega
  | x :: L, i + 1, r, h, hr => by
    have ih := flat3_at L i r (by simpa using h) hr
    simp only [flat3, List.flatMap_cons, List.getElem_cons_succ] at *
    rw [List.getElem?_append_right (by simp [T3.list]; omega), ← ih]
    congr 1
    simp [T3.list]
    omega

/-- A new row of such cells. -/
theorem own_sl3 {w' : World} {t : TypeId} {base g cap n : Nat} {l : List T3} (h : w'.ownsRow base t 3 (.slice (some ⟨g, 0, none⟩) n cap) l.length (flat3 l)) : n = l.length ∧ base ≤ g ∧ Sl3 t w' (.slice (some ⟨g, 0, none⟩) l.length cap) l := by
  rcases h.2 with ⟨e, _⟩ | ⟨g', cap', cur, e, hb, hh, hc, hm, hs, ht⟩
  · simp at e
  · simp only [Value.slice.injEq, Option.some.injEq, Addr.mk.injEq, and_true] at e
    obtain ⟨rfl, rfl, rfl⟩ := e
    refine ⟨rfl, hb, _, _, rfl, hc, hm, fun _ => ⟨g, 0, cur, _, rfl, hh, fun i hi => ?_⟩⟩
    have key : ∀ r, r < 3 → cur[i * 3 + r]? = (T3.list l[i])[r]? := fun r hr => by
      have := congrArg (fun l => l[i * 3 + r]?) ht
      simp only [List.getElem?_take, Array.getElem?_toList] at this
      rw [if_pos (by omega), flat3_at l i r hi hr] at this
      exact this
    have k0 := key 0 (by omega)
    have k1 := key 1 (by omega)
    have k2 := key 2 (by omega)
    rw [Nat.zero_add]
    exact ⟨k0, k1, k2⟩

theorem row_form {w' : World} {base n : Nat} {t : TypeId} {v : Value} {l : List Value} (h : w'.ownsRow base t 3 v n l) (hn : 1 ≤ n) : ∃ g gcap, v = .slice (some ⟨g, 0, none⟩) n gcap := by
  rcases h.2 with ⟨_, e⟩ | ⟨g', cap', cur, e, _⟩
  · omega
  · exact ⟨_, _, e⟩

theorem nilEq83 (a : Addr) (n c : Nat) (w : World) : (binOp .eql 83 (.slice (some a) n c) (.slice none 0 0)).run Tryz.prog w = .ok (.bool false) w := by kernel_rfl

set_option maxRecDepth 20000 in
set_option maxHeartbeats 1000000 in
theorem rowClone_any (w : World) (v : Value) (row : List V) (h : RowAt w v row) (h1 : 1 ≤ row.length) (h2 : row.length ≤ 1000000) :
    Calls Tryz.prog 118 #[v] w fun e w' => ∃ g cap, e = .returned (.slice (some ⟨g, 0, none⟩) row.length cap) ∧ RowAt w' (.slice (some ⟨g, 0, none⟩) row.length cap) row ∧ w.heap.size ≤ g ∧ Touch [] w w' := by
  obtain ⟨b, off, cap, rfl, hc, hm, hb, hx⟩ := Sl3.open h (by simpa using h1)
  obtain ⟨i0, hi, hz0, hz1, hz2⟩ := info_parts info85
  have HN : Hid (∀ W, Touch [] w W → ∀ (j : Nat) (u : Value), (flat3 (row.map V.t))[j]? = some u → W.cell? (Addr.add ⟨b, off, none⟩ j) = some u) := fun W hW j u hj => by
    have hlt := (List.getElem?_eq_some_iff.1 hj).1
    rw [flat3_len] at hlt
    obtain ⟨i, r, rfl, hr⟩ : ∃ i r, j = i * 3 + r ∧ r < 3 := ⟨j / 3, j % 3, by omega, by omega⟩
    have hi' : i < (row.map V.t).length := by omega
    rw [flat3_at _ i r hi' hr] at hj
    obtain ⟨x0, x1, x2⟩ := hx W (hW.tag0 _) i hi'
    rw [Addr.add_lit]
    match r, hr with
    | 0, _ => simp [T3.list] at hj; rw [← Nat.add_assoc, Nat.add_zero, x0]; simp [hj]
    | 1, _ => simp [T3.list] at hj; rw [← Nat.add_assoc, x1]; simp [hj]
    | 2, _ => simp [T3.list] at hj; rw [← Nat.add_assoc, show off + i * 3 + 2 = off + i * 3 + 1 + 1 by omega, x2]; simp [hj]
  have HOC : Hid (∀ u ∈ flat3 (row.map V.t), u.oneCell' = true) := fun u hu => by
    obtain ⟨x, hx, hu⟩ := List.mem_flatMap.1 hu
    obtain ⟨y, _, rfl⟩ := List.mem_map.1 hx
    simp only [T3.list, V.t, List.mem_cons, List.not_mem_nil, or_false] at hu
    rcases hu with rfl | rfl | rfl <;> rfl
  simp only [List.length_map] at *
  clear h hx
  have hne := nilEq83
  go_enter Tryz.func118, Tryz.ntmps118
  go_wp2_with (at_builtin; refine wpList_append_grows _ rfl (.tmp 5) (.tmp 6) 83 rfl 85 i0 _ 3 32 Tryz.underlying83 hi hz0 hz1 hz2 rfl (by decide) _ 0 0 [] rfl (by simp) (by simp) (by intro _ _ j u hj; simp at hj) ⟨b, off, none⟩ row.length cap (flat3 (row.map V.t)) rfl (by rw [flat3_len]; simp) (HN.out _ ((Touch.refl [] w).alloc _)) HOC.out (by omega) (by unfold maxLen; omega) (by omega) ?_)
  intro v1 w1 hO1 hG1
  have hT1 : Touch [] w w1 := ((Touch.refl [] w).alloc (.cells #[] 85)).grown hG1 (fun k hk => by simp at hk)
  obtain ⟨g, gcap, rfl⟩ := row_form hO1 (by omega)
  have hO2 : w1.ownsRow (w.heap.size + 1) 85 3 (.slice (some ⟨g, 0, none⟩) row.length gcap) row.length (flat3 (row.map V.t)) := by simpa using hO1
  have HO : Hid (w1.ownsRow (w.heap.size + 1) 85 3 (.slice (some ⟨g, 0, none⟩) row.length gcap) row.length (flat3 (row.map V.t))) := hO2
  clear hO2
  clear hO1 hG1
  go_wp2
  go_ret
  have hO := HO.out
  have hl : row.length = (row.map V.t).length := by simp
  obtain ⟨_, h4, h5⟩ := own_sl3 (l := row.map V.t) (by simpa using hO)
  refine ⟨g, gcap, rfl, ?_, by omega, hT1⟩
  unfold RowAt
  simpa using h5
end Go.Proofs.YtjoinhljdbljaaaGreat

namespace Go.Proofs.YtjoinhljdbljaaaGreat
open Go.RowKit
attribute [local go_sem] Oper.semAt_some

theorem info83 : (Tryz.prog.info? 83).map (fun i => (i.zero, i.size, i.bytes)) = some (some (.slice none 0 0), 1, 24) := by kernel_rfl

/-- A list of rows that is one's own. -/
def LOwn (w : World) (v : Value) (vs : List Value) : Prop := w.ownsRow 0 83 1 v vs.length vs
theorem LOwn.keep {w w' : World} {v : Value} {vs : List Value} (h : LOwn w v vs) (k : KeepTag 83 w w') : LOwn w' v vs := by
  obtain ⟨h1, h2⟩ := h
  refine ⟨h1, ?_⟩
  rcases h2 with h2 | ⟨g, cap, cur, e, hb, hh, rest⟩
  · exact .inl h2
  · exact .inr ⟨g, cap, cur, e, hb, k _ _ _ hh, rest⟩
theorem LOwn.slice {w : World} {v : Value} {vs : List Value} (h : LOwn w v vs) : ∃ o n c, v = .slice o n c := by
  rcases h.2 with ⟨rfl, _⟩ | ⟨g, cap, cur, rfl, _⟩
  · exact ⟨_, _, _, rfl⟩
  · exact ⟨_, _, _, rfl⟩
theorem LOwn.block {w : World} {v : Value} {vs : List Value} (h : LOwn w v vs) : ∀ k, v.ownBlock = some k → ∃ cs, w.heap[k]? = some (.cells cs 83 (0, 0)) := fun k hk => by
  rcases h.2 with ⟨rfl, _⟩ | ⟨g, cap, cur, rfl, _, hh, _⟩
  · simp [Value.ownBlock] at hk
  · simp [Value.ownBlock] at hk
    subst hk
    exact ⟨_, hh⟩

theorem SrtCtx.quiet {W W' : World} {bq bk bc bl b q : Nat} {tv wv kv sv : Value} {bx bm blk fan bud count cols : Nat} {ks : List K} {vs : List Value} {rows : List (List V)} {d : DS} {M : List PF} (h : SrtCtx W bq bk bc bl b q tv wv kv sv bx bm blk fan bud count cols ks vs rows d M) (t : Touch [] W W') : SrtCtx W' bq bk bc bl b q tv wv kv sv bx bm blk fan bud count cols ks vs rows d M :=
  { h with hq := t.tag0 _ _ _ _ h.hq, hQ := t.tag0 _ _ _ _ h.hQ, hk := t.tag0 _ _ _ _ h.hk, keys := h.keys.touch t, hc := t.tag0 _ _ _ _ h.hc, hl := t.tag0 _ _ _ _ h.hl, hb := t.tag0 _ _ _ _ h.hb, list := h.list.keep (t.tag0 _), rowsAt := fun i a b => (h.rowsAt i a b).touch t, pd := h.pd.away t (by simp) }

/-- What lay there and is no sorter's stays. -/
structure Kept (lo : Nat) (w W : World) : Prop where
  low : Low lo w W
  cells : ∀ t, t ∉ OwnT → t ≠ 5 → KeepTag t w W
theorem Kept.trans {lo : Nat} {a b c : World} (h : Kept lo a b) (k : Kept lo b c) : Kept lo a c := ⟨h.low.trans k.low, fun t ht h5 => (h.cells t ht h5).trans (k.cells t ht h5)⟩
theorem Kept.mono {lo lo' : Nat} {a b : World} (h : Kept lo a b) (hl : lo' ≤ lo) : Kept lo' a b := ⟨h.low.mono hl, h.cells⟩
theorem OwnS.kept {lo B : Nat} {W W' : World} (h : OwnS OwnT lo B W W') : Kept lo W W' := ⟨h.low, h.cells⟩
theorem Touch.kept {lo : Nat} {W W' : World} (h : Touch [] W W') : Kept lo W W' := ⟨h.low (Hi.nil lo), fun t _ _ => h.tag0 t⟩
/-- Blocks turn that were laid since. -/
theorem Kept.new {lo : Nat} {F : List Nat} {w W W' : World} (h : Kept lo w W) (t : Touch F W W') (hF : ∀ k ∈ F, w.heap.size ≤ k) (hlo : lo ≤ w.heap.size) : Kept lo w W' := by
  refine ⟨h.low.trans (t.low (fun k hk => Nat.le_trans hlo (hF k hk))), fun t' ht h5 k cs f e => ?_⟩
  have hlt := (Array.getElem?_eq_some_iff.1 e).1
  rw [t.block k (by have := h.low.size; omega) (fun hk => by have := hF k hk; omega)]
  exact h.cells t' ht h5 k cs f e

/-- Rows that were copied so far. -/
structure CopySt (lo : Nat) (w W : World) (bL : Nat) (out : List Rec) : Prop where
  st : ∃ lv vs, W.heap[bL]? = some (.cells #[lv] 36 (0, 0)) ∧ LOwn W lv vs ∧ vs.length = out.length ∧ (∀ i (_ : i < vs.length) (_ : i < out.length), RowAt W vs[i] out[i].row) ∧ (∀ k, lv.ownBlock = some k → w.heap.size ≤ k)
  kept : Kept lo w W
  lo_ : lo ≤ w.heap.size
  at_ : w.heap.size ≤ bL
theorem CopySt.own {lo : Nat} {w W W' : World} {bL : Nat} {out : List Rec} {B : Nat} (h : CopySt lo w W bL out) (o : OwnS OwnT lo B W W') : CopySt lo w W' bL out := by
  obtain ⟨lv, vs, h1, h2, h3, h4, h5⟩ := h.st
  exact ⟨⟨lv, vs, o.cells 36 (by decide) (by decide) _ _ _ h1, h2.keep (o.cells 83 (by decide) (by decide)), h3, fun i a b => Sl3.keep (h4 i a b) (o.cells 85 (by decide) (by decide)), h5⟩, h.kept.trans o.kept, h.lo_, h.at_⟩

/-- Cells of types that no sorter has turn. -/
theorem touch_guard {F : List Nat} {W W' : World} (B : Nat) (t : Touch F W W') (hF : ∀ k ∈ F, ∃ cs t f, W.heap[k]? = some (.cells cs t f) ∧ t ∉ AllT) : Guard AllT B W W' ∧ ∀ (k : Nat) (ob : Obj), W.heap[k]? = some ob → Odd ob → W'.heap[k]? = some ob := by
  have hodd : ∀ (k : Nat) (ob : Obj), W.heap[k]? = some ob → Odd ob → W'.heap[k]? = some ob := fun k ob e ho => by
    rw [t.block k (Array.getElem?_eq_some_iff.1 e).1 (fun hk => ?_)]
    · exact e
    · obtain ⟨cs, t', f, e', _⟩ := hF k hk
      rw [e] at e'
      cases e'
      exact ho.1 _ _ _ rfl
  refine ⟨⟨t.size, fun t' ht => t.tag (fun k hk cs f e => ?_), fun k es c e => ?_, fun k ob _ e ho => hodd k ob e ho⟩, hodd⟩
  · obtain ⟨cs', t2, f', e', hn⟩ := hF k hk
    rw [e] at e'
    cases e'
    exact hn ht
  · rw [t.block k (Array.getElem?_eq_some_iff.1 e).1 (fun hk => ?_)]
    · exact e
    · obtain ⟨cs, t', f, e', _⟩ := hF k hk
      rw [e] at e'
      cases e'

/-- One more row, copied and laid behind the others. -/
theorem CopySt.push {lo : Nat} {w W w1 w2 : World} {bL g cap : Nat} {out : List Rec} {x : Rec} {lv : Value} {vs : List Value} {rv : Value} (hB : W.heap[bL]? = some (.cells #[lv] 36 (0, 0))) (h4 : ∀ i (_ : i < vs.length) (_ : i < out.length), RowAt W vs[i] out[i].row) (hlen : vs.length = out.length) (hlv : LOwn W lv vs) (hr : RowAt w1 rv x.row) (t1 : Touch [] W w1) (hO : LOwn w2 (.slice (some ⟨g, 0, none⟩) (vs.length + 1) cap) (vs ++ [rv])) (t2 : Touch lv.ownBlock.toList w1 w2) (hk : Kept lo w W) (hlo : lo ≤ w.heap.size) (hat : w.heap.size ≤ bL) (hnv : ∀ k, lv.ownBlock = some k → w.heap.size ≤ k) (hg : lv.ownBlock = some g ∨ g = w1.heap.size) :
    w2.heap[bL]? = some (.cells #[lv] 36 (0, 0)) ∧ CopySt lo w (w2.setCell ⟨bL, 0, none⟩ (.slice (some ⟨g, 0, none⟩) (vs.length + 1) cap)) bL (out ++ [x]) ∧ Touch (bL :: lv.ownBlock.toList) W (w2.setCell ⟨bL, 0, none⟩ (.slice (some ⟨g, 0, none⟩) (vs.length + 1) cap)) := by
  have hlv1 := hlv.keep (t1.tag0 83)
  have n2 : ∀ t, (83 : TypeId) ≠ t → NoTag t w1 lv.ownBlock.toList := fun t ht k hk cs f e => by
    obtain ⟨cs', h'⟩ := hlv1.block k (by simpa using hk)
    rw [h'] at e
    simp only [Option.some.injEq, Obj.cells.injEq] at e
    exact ht e.2.1
  have hB2 : w2.heap[bL]? = some (.cells #[lv] 36 (0, 0)) := t2.tag (n2 36 (by decide)) _ _ _ (t1.tag0 36 _ _ _ hB)
  have t3 : Touch [bL] w2 (w2.setCell ⟨bL, 0, none⟩ (.slice (some ⟨g, 0, none⟩) (vs.length + 1) cap)) := (Touch.refl [bL] w2).setCell (p := ⟨bL, 0, none⟩) (by simp) _
  have n3 : ∀ t, (36 : TypeId) ≠ t → NoTag t w2 [bL] := fun t ht => notag_of hB2 ht
  have tt : Touch (bL :: lv.ownBlock.toList) W (w2.setCell ⟨bL, 0, none⟩ (.slice (some ⟨g, 0, none⟩) (vs.length + 1) cap)) := ((t1.mono (by simp)).trans (t2.mono (fun k hk => List.mem_cons_of_mem _ hk))).trans (t3.mono (by simp))
  refine ⟨hB2, ⟨⟨_, vs ++ [rv], ?_, hO.keep (t3.tag (n3 83 (by decide))), by simp [hlen], fun i a b => ?_, fun k hk' => ?_⟩, hk.new tt (fun k hk' => ?_) hlo, hlo, hat⟩, tt⟩
  · rw [heap_setCell_same w2 bL 0 _ 36 _ hB2]; simp
  · have k85 : KeepTag 85 w1 (w2.setCell ⟨bL, 0, none⟩ (.slice (some ⟨g, 0, none⟩) (vs.length + 1) cap)) := (t2.tag (n2 85 (by decide))).trans (t3.tag (n3 85 (by decide)))
    by_cases hi : i < vs.length
    · have := Sl3.keep (h4 i hi (by omega)) ((t1.tag0 85).trans k85)
      rw [List.getElem_append_left hi, List.getElem_append_left (by omega)]
      exact this
    · simp only [List.length_append, List.length_singleton] at a b
      have e : i = vs.length := by omega
      subst e
      have h1 : (vs ++ [rv])[vs.length]'(by simp) = rv := by simp
      have h2 : (out ++ [x])[vs.length]'(by simp; omega) = x := by simp [hlen]
      rw [h1, h2]
      exact Sl3.keep hr k85
  · simp [Value.ownBlock] at hk'
    subst hk'
    rcases hg with e | e
    · exact hnv g e
    · have := hk.low.size; have := t1.size; omega
  · rcases List.mem_cons.1 hk' with rfl | hk'
    · exact hat
    · exact hnv k (by simpa using hk')

theorem stepIn_row {F : Fence} {n : Nat} {ops : Array Oper} {o : Oper} {a : Act} {w : World} {K : Act → World → Prop} {Q : Exit → Act → World → Prop} {E : Prop} (hgd : o.guard = none) (s x : Operand)
    (ho : o.op = .call { callee := .builtin .append, args := #[s, x], argTypes := #[36, 36] }) (v : Value) (vs : List Value) (hs : a.eval s = v) (hown : LOwn w v vs)
    (ad : Addr) (y : Value) (c : Nat) (hx : a.eval x = .slice (some ad) 1 c) (hnews : w.cell? ad = some y) (hy : y.oneCell' = true) (hlen : vs.length ≤ 1000000000)
    (h : ∀ g cap w', LOwn w' (.slice (some ⟨g, 0, none⟩) (vs.length + 1) cap) (vs ++ [y]) → w.grownBy w' v.ownBlock → (v.ownBlock = some g ∨ g = w.heap.size) → K (a.put o.dst (.slice (some ⟨g, 0, none⟩) (vs.length + 1) cap)) w') :
    if Region.wanted o (yielded ops a.tmps) = true then Oper.wpIn F n Tryz.prog o a w K Q else E := by
  have hw : Region.wanted o (yielded ops a.tmps) = true := by simp [Region.wanted, hgd]
  rw [if_pos hw]
  obtain ⟨i0, hi, hz0, hz1, hz2⟩ := info_parts info83
  obtain ⟨g, cap, w', hrun, r1, r2, r3, _⟩ := run_append_lies (P := Tryz.prog) w 36 o.type 0 83 i0 (.slice none 0 0) 1 24 Tryz.underlying36 hi hz0 hz1 hz2 rfl (by decide) v vs.length vs hown ad 1 c [y] (by simp) (fun j u hj => by
    match j, hj with
    | 0, hj => simp at hj; subst hj; exact hnews) (by simpa using hy) (by decide) (by unfold maxLen; omega) (by omega) (Nat.zero_le _) _ rfl
  unfold Oper.wpIn
  refine ⟨?_, ?_⟩
  · simp [Oper.about, ho, resolve, Target.leads, Sem.run_pure]
  · rw [Oper.semAt_plain F _ _ (by rw [ho]; intro c hc'; cases hc')]
    simp [execOp, ho, resolve, invoke, builtin, hs, hx, hrun, Result.andThen]
    refine h g cap w' ?_ r2 r3
    unfold LOwn
    rw [List.length_append, List.length_singleton]
    exact r1

set_option maxRecDepth 20000 in
set_option maxHeartbeats 4000000 in
theorem copied_any (w : World) (bq bk bc bl b q : Nat) (tv wv kv sv : Value) (bx bm blk fan bud count cols : Nat) (ks : List K) (vs : List Value) (rows : List (List V)) (d : DS) (M : List PF) (P m j j2 : Nat) (h : SrtCtx w bq bk bc bl b q tv wv kv sv bx bm blk fan bud count cols ks vs rows d M) (hl : Left d (2 * rows.length + ((P * (rows.length + 1) + m) + 1)) (rows.length + j)) (hP : 1000000000 ≤ P + j) (hPj : P + j2 ≤ j) (hPs : P ≤ 900000) :
    Calls Tryz.prog 82 #[.func (.func 132) #[] #[.pointer (some ⟨bq, 0, none⟩), .pointer (some ⟨bk, 0, none⟩), .pointer (some ⟨bc, 0, none⟩), .pointer (some ⟨bl, 0, none⟩)]] w fun e w' => ∃ lv out, e = .returned lv ∧ out.Perm (recsOf rows) ∧ Srt ks out ∧ (∃ vs', LOwn w' lv vs' ∧ vs'.length = out.length ∧ ∀ i (_ : i < vs'.length) (_ : i < out.length), RowAt w' vs'[i] out[i].row) ∧ (∃ d' M', RunsSt w' bx bm blk cols d' M' [] none ∧ Left d' m j2) ∧ Kept bm w w' := by
  have hbm : bm < w.heap.size := h.pd.lt bm (by simp)
  refine callsIn_wide.1 (callsIn_of_wp_marks (n := 0) Tryz.func82 rfl trivial (wpIn_wide.2 ?_))
  simp only [Tryz.ntmps82, List.size_toArray, List.length_cons, List.length_nil, Nat.reduceAdd, Nat.reduceSub, Array.replicate_succ, Array.replicate_zero, List.push_toArray, List.append_toArray, List.nil_append, List.cons_append]
  go_wp2
  have tA : Touch [] w (w.alloc (.cells #[.slice none 0 0] 36)) := (Touch.refl [] w).alloc _
  have hA := heap_alloc_new w (.cells #[.slice none 0 0] 36)
  have hAs : (w.alloc (.cells #[.slice none 0 0] 36)).heap.size = w.heap.size + 1 := by simp
  obtain ⟨wa, hwa⟩ : ∃ wa, wa = w.alloc (.cells #[.slice none 0 0] 36) := ⟨_, rfl⟩
  rw [← hwa] at tA hA hAs ⊢
  clear hwa
  have tW : ∀ rec : Loop, Touch [] w ((wa.alloc (.deferred (some []))).alloc (.loop rec)) := fun rec => (tA.alloc _).alloc _
  have HSEQ : ∀ rec : Loop, SeqC 132 #[.pointer (some ⟨bq, 0, none⟩), .pointer (some ⟨bk, 0, none⟩), .pointer (some ⟨bc, 0, none⟩), .pointer (some ⟨bl, 0, none⟩)] ([] : List Rec) (fun out W => out.Perm (recsOf rows) ∧ Srt ks out ∧ ∃ d' M', RunsSt W bx bm blk cols d' M' [] none ∧ Left d' m j2) (fun out v W out' => ∃ x, out' = out ++ [x] ∧ x ∈ recsOf rows ∧ RowAt W v x.row ∧ out'.length ≤ rows.length) (OwnS OwnT bm (wa.heap.size + 2)) (Guard AllT (wa.heap.size + 2)) ((wa.alloc (.deferred (some []))).alloc (.loop rec)) := fun rec => by
    have h1 := sorted_seq ((wa.alloc (.deferred (some []))).alloc (.loop rec)) bq bk bc bl b q tv wv kv sv bx bm blk fan bud count cols ks vs rows d M P m j j2 (h.quiet (tW rec)) hl hP hPj hPs
    have e : ((wa.alloc (.deferred (some []))).alloc (.loop rec)).heap.size = wa.heap.size + 2 := by simp
    rw [e] at h1
    exact h1
  refine range_law (w := wa) (gf := 132) (lb := #[.pointer (some ⟨bq, 0, none⟩), .pointer (some ⟨bk, 0, none⟩), .pointer (some ⟨bc, 0, none⟩), .pointer (some ⟨bl, 0, none⟩)]) rfl (enters_of Tryz.func132 (by kernel_rfl) rfl) rfl HSEQ
    (fun A B k ob ho e hk hle => ho.others k ob (by omega) e (by rcases hk with ⟨r, rfl⟩ | ⟨ds, rfl⟩; exact odd_loop r; exact odd_deferred ds))
    (fun _ _ _ h1 h2 => h1.trans h2) (fun W r r' e => Guard.putObj e (by omega))
    (fun out W => CopySt bm w W w.heap.size out) (fun out A B hi ho => hi.own ho)
    (fun out W r r' hi e => hi.own (B := 0) (OwnS.putObj e (odd_loop r) (Nat.zero_le _) (by omega)))
    (fun out v out' W r r' hs e => by
      obtain ⟨x, h1, h2, h3, h4⟩ := hs
      exact ⟨x, h1, h2, Sl3.keep h3 ((OwnS.putObj (T := OwnT) (lo := 0) (B := 0) (ob' := .loop r') e (odd_loop r) (Nat.zero_le _) (Nat.zero_le _)).cells 85 (by decide) (by decide)), h4⟩)
    (fun rec => ⟨⟨.slice none 0 0, [], (((Touch.refl [] wa).alloc _).alloc _).tag0 36 _ _ _ hA, World.ownsRow_nil _ _ _ _, rfl, by simp, by simp [Value.ownBlock]⟩, (tW rec).kept, Nat.le_of_lt hbm, Nat.le_refl _⟩)
    (fun v => { tmps := #[.func (.func 132) #[] #[.pointer (some ⟨bq, 0, none⟩), .pointer (some ⟨bk, 0, none⟩), .pointer (some ⟨bc, 0, none⟩), .pointer (some ⟨bl, 0, none⟩)], undef, .slice none 0 0, .pointer (some ⟨w.heap.size, 0, none⟩), v, .func (.func 132) #[] #[.pointer (some ⟨bq, 0, none⟩), .pointer (some ⟨bk, 0, none⟩), .pointer (some ⟨bc, 0, none⟩), .pointer (some ⟨bl, 0, none⟩)], v, undef, undef, undef, undef, undef, undef], defers := [] }) ?assign ?body ?done
  case assign =>
    intro v W K hK
    gi_wp2
    exact hK
  case body =>
    rintro out v out' W hi ⟨x, rfl, hx, hr, hle⟩
    obtain ⟨lv, vs1, h1, h2, h3, h4, h5⟩ := hi.st
    have HKP := hi.kept
    have c0 := boxOne h1
    obtain ⟨lo, ln, lc, rfl⟩ := h2.slice
    obtain ⟨vo, vcap, rfl⟩ := hr.shape
    have f0 : W.frozen? ⟨w.heap.size, 0, none⟩ = false := by simp [World.frozen?, h1]
    have H3 : Hid (vs1.length = out.length) := h3
    have hxl : x.row.length = cols := by
      obtain ⟨i, hi, rfl⟩ := recsOf_mem hx
      exact (h.oks.ok i hi).len
    have HCL : Hid (∀ W', Touch [] W W' → Calls Tryz.prog 118 #[.slice vo x.row.length vcap] W' fun e w' => ∃ g cap, e = .returned (.slice (some ⟨g, 0, none⟩) x.row.length cap) ∧ RowAt w' (.slice (some ⟨g, 0, none⟩) x.row.length cap) x.row ∧ W'.heap.size ≤ g ∧ Touch [] W' w') := fun W' hW => rowClone_any W' _ x.row (hr.touch hW) (by have := h.c1; omega) (by have := h.c2; omega)
    have hfew := h.few
    have hvl : vs1.length ≤ 1000000 := by simp at hle; omega
    clear hxl h3
    have HEND : Hid (∀ w3, CopySt bm w w3 w.heap.size (out ++ [x]) → Touch (w.heap.size :: (Value.slice lo ln lc).ownBlock.toList) W w3 → (∀ (k : Nat) (ob : Obj), W.heap[k]? = some ob → ((∃ r, ob = .loop r) ∨ ∃ ds, ob = .deferred ds) → (k = wa.heap.size ∨ k = wa.heap.size + 1) → w3.heap[k]? = some ob) ∧ Guard AllT (wa.heap.size + 2) W w3 ∧ CopySt bm w w3 w.heap.size (out ++ [x])) := fun w3 z2 z3 => by
      obtain ⟨g1, g2⟩ := touch_guard (wa.heap.size + 2) z3 (fun k hk => by
        rcases List.mem_cons.1 hk with rfl | hk
        · exact ⟨_, _, _, h1, by decide⟩
        · obtain ⟨cs, hc⟩ := h2.block k (by simpa using hk)
          exact ⟨_, _, _, hc, by decide⟩)
      exact ⟨fun k ob e ho _ => g2 k ob e (by rcases ho with ⟨r, rfl⟩ | ⟨ds, rfl⟩; exact odd_loop r; exact odd_deferred ds), g1, z2⟩
    generalize x.row.length = vn at *
    gi_wp2
    refine wpIn_region_any (by kernel_rfl) ?_
    change wpAnyIn _ _ _ _ _ _ _ _ _ (World.drew _)
    refine wpAnyIn_ready (rs := [0, 1]) (by kernel_rfl) (by simp) (AllReadyIn.cons rfl (fun K hK => ?_) (AllReadyIn.cons rfl (fun K hK => ?_) (AllReadyIn.nil)))
    · go_simp
      refine hK _ _ ?_
      clear hK K
      refine wpAnyIn_ready (rs := [1]) (by kernel_rfl) (by simp) (AllReadyIn.cons rfl (fun K hK => ?_) (AllReadyIn.nil))
      go_simp
      refine hK _ _ ?_
      clear hK K
      refine wpAnyIn_ready (rs := [2]) (by kernel_rfl) (by simp) (AllReadyIn.cons rfl (fun K hK => ?_) (AllReadyIn.nil))
      go_simp
      refine ⟨trivial, rfl, (CallsIn.inRound _ (callsIn_wide.2 (HCL.out _ ((Touch.refl [] _).drew)))).mono ?_⟩
      rintro e w1 ⟨g, gcap, rfl, p1, p2, p3⟩
      refine hK _ _ ?_
      clear hK K
      have c1 := cell_touch c0 (((Touch.refl [] _).drew).trans p3); have l1 : w.heap.size < w1.heap.size := lt_of_cell c1; have l2 : w.heap.size ≠ w1.heap.size := by omega
      refine wpAnyIn_ready (rs := [3]) (by kernel_rfl) (by simp) (AllReadyIn.cons rfl (fun K hK => ?_) (AllReadyIn.nil))
      go_simp
      refine hK _ _ ?_
      clear hK K
      refine wpAnyIn_ready (rs := [4]) (by kernel_rfl) (by simp) (AllReadyIn.cons rfl (fun K hK => ?_) AllReadyIn.nil)
      refine stepIn_row rfl (.tmp 7) (.tmp 10) rfl (.slice lo ln lc) vs1 rfl (h2.keep ((((Touch.refl [] W).drew).trans (p3.alloc _)).tag0 83)) ⟨w1.heap.size, 0, none⟩ (.slice (some ⟨g, 0, none⟩) vn gcap) 1 rfl (by simp) rfl (by omega) ?_
      intro g2 cap2 w2 q1 q2 q3
      refine hK _ _ ?_
      clear hK K
      have hT1 : Touch [] W (w1.alloc (.cells #[.slice (some ⟨g, 0, none⟩) vn gcap] 83)) := ((Touch.refl [] W).drew).trans (p3.alloc _)
      have hT2 : Touch (Value.slice lo ln lc).ownBlock.toList (w1.alloc (.cells #[.slice (some ⟨g, 0, none⟩) vn gcap] 83)) w2 := (Touch.refl _ _).grown q2 (fun k hk => by simp [hk])
      obtain ⟨z1, z2, z3⟩ := CopySt.push (x := x) h1 h4 H3.out h2 (p1.touch ((Touch.refl [] w1).alloc _)) hT1 q1 hT2 HKP (Nat.le_of_lt hbm) (Nat.le_refl _) h5 q3
      have d0 := boxOne z1
      have g0 : w2.frozen? ⟨w.heap.size, 0, none⟩ = false := by simp [World.frozen?, z1]
      refine wpAnyIn_ready (rs := [5]) (by kernel_rfl) (by simp) (AllReadyIn.cons rfl (fun K hK => ?_) AllReadyIn.nil)
      go_simp
      refine hK _ _ ?_
      clear hK K
      refine wpAnyIn_done (by kernel_rfl) ?_ _
      exact HEND.out _ z2 z3
    · go_simp
      refine hK _ _ ?_
      clear hK K
      refine wpAnyIn_ready (rs := [0, 2]) (by kernel_rfl) (by simp) (AllReadyIn.cons rfl (fun K hK => ?_) (AllReadyIn.cons rfl (fun K hK => ?_) (AllReadyIn.nil)))
      · go_simp
        refine hK _ _ ?_
        clear hK K
        refine wpAnyIn_ready (rs := [2]) (by kernel_rfl) (by simp) (AllReadyIn.cons rfl (fun K hK => ?_) (AllReadyIn.nil))
        go_simp
        refine ⟨trivial, rfl, (CallsIn.inRound _ (callsIn_wide.2 (HCL.out _ ((Touch.refl [] _).drew)))).mono ?_⟩
        rintro e w1 ⟨g, gcap, rfl, p1, p2, p3⟩
        refine hK _ _ ?_
        clear hK K
        have c1 := cell_touch c0 (((Touch.refl [] _).drew).trans p3); have l1 : w.heap.size < w1.heap.size := lt_of_cell c1; have l2 : w.heap.size ≠ w1.heap.size := by omega
        refine wpAnyIn_ready (rs := [3]) (by kernel_rfl) (by simp) (AllReadyIn.cons rfl (fun K hK => ?_) (AllReadyIn.nil))
        go_simp
        refine hK _ _ ?_
        clear hK K
        refine wpAnyIn_ready (rs := [4]) (by kernel_rfl) (by simp) (AllReadyIn.cons rfl (fun K hK => ?_) AllReadyIn.nil)
        refine stepIn_row rfl (.tmp 7) (.tmp 10) rfl (.slice lo ln lc) vs1 rfl (h2.keep ((((Touch.refl [] W).drew).trans (p3.alloc _)).tag0 83)) ⟨w1.heap.size, 0, none⟩ (.slice (some ⟨g, 0, none⟩) vn gcap) 1 rfl (by simp) rfl (by omega) ?_
        intro g2 cap2 w2 q1 q2 q3
        refine hK _ _ ?_
        clear hK K
        have hT1 : Touch [] W (w1.alloc (.cells #[.slice (some ⟨g, 0, none⟩) vn gcap] 83)) := ((Touch.refl [] W).drew).trans (p3.alloc _)
        have hT2 : Touch (Value.slice lo ln lc).ownBlock.toList (w1.alloc (.cells #[.slice (some ⟨g, 0, none⟩) vn gcap] 83)) w2 := (Touch.refl _ _).grown q2 (fun k hk => by simp [hk])
        obtain ⟨z1, z2, z3⟩ := CopySt.push (x := x) h1 h4 H3.out h2 (p1.touch ((Touch.refl [] w1).alloc _)) hT1 q1 hT2 HKP (Nat.le_of_lt hbm) (Nat.le_refl _) h5 q3
        have d0 := boxOne z1
        have g0 : w2.frozen? ⟨w.heap.size, 0, none⟩ = false := by simp [World.frozen?, z1]
        refine wpAnyIn_ready (rs := [5]) (by kernel_rfl) (by simp) (AllReadyIn.cons rfl (fun K hK => ?_) AllReadyIn.nil)
        go_simp
        refine hK _ _ ?_
        clear hK K
        refine wpAnyIn_done (by kernel_rfl) ?_ _
        exact HEND.out _ z2 z3
      · go_simp
        refine ⟨trivial, rfl, (CallsIn.inRound _ (callsIn_wide.2 (HCL.out _ ((Touch.refl [] _).drew)))).mono ?_⟩
        rintro e w1 ⟨g, gcap, rfl, p1, p2, p3⟩
        refine hK _ _ ?_
        clear hK K
        have c1 := cell_touch c0 (((Touch.refl [] _).drew).trans p3); have l1 : w.heap.size < w1.heap.size := lt_of_cell c1; have l2 : w.heap.size ≠ w1.heap.size := by omega
        refine wpAnyIn_ready (rs := [0, 3]) (by kernel_rfl) (by simp) (AllReadyIn.cons rfl (fun K hK => ?_) (AllReadyIn.cons rfl (fun K hK => ?_) (AllReadyIn.nil)))
        · go_simp
          refine hK _ _ ?_
          clear hK K
          refine wpAnyIn_ready (rs := [3]) (by kernel_rfl) (by simp) (AllReadyIn.cons rfl (fun K hK => ?_) (AllReadyIn.nil))
          go_simp
          refine hK _ _ ?_
          clear hK K
          refine wpAnyIn_ready (rs := [4]) (by kernel_rfl) (by simp) (AllReadyIn.cons rfl (fun K hK => ?_) AllReadyIn.nil)
          refine stepIn_row rfl (.tmp 7) (.tmp 10) rfl (.slice lo ln lc) vs1 rfl (h2.keep ((((Touch.refl [] W).drew).trans (p3.alloc _)).tag0 83)) ⟨w1.heap.size, 0, none⟩ (.slice (some ⟨g, 0, none⟩) vn gcap) 1 rfl (by simp) rfl (by omega) ?_
          intro g2 cap2 w2 q1 q2 q3
          refine hK _ _ ?_
          clear hK K
          have hT1 : Touch [] W (w1.alloc (.cells #[.slice (some ⟨g, 0, none⟩) vn gcap] 83)) := ((Touch.refl [] W).drew).trans (p3.alloc _)
          have hT2 : Touch (Value.slice lo ln lc).ownBlock.toList (w1.alloc (.cells #[.slice (some ⟨g, 0, none⟩) vn gcap] 83)) w2 := (Touch.refl _ _).grown q2 (fun k hk => by simp [hk])
          obtain ⟨z1, z2, z3⟩ := CopySt.push (x := x) h1 h4 H3.out h2 (p1.touch ((Touch.refl [] w1).alloc _)) hT1 q1 hT2 HKP (Nat.le_of_lt hbm) (Nat.le_refl _) h5 q3
          have d0 := boxOne z1
          have g0 : w2.frozen? ⟨w.heap.size, 0, none⟩ = false := by simp [World.frozen?, z1]
          refine wpAnyIn_ready (rs := [5]) (by kernel_rfl) (by simp) (AllReadyIn.cons rfl (fun K hK => ?_) AllReadyIn.nil)
          go_simp
          refine hK _ _ ?_
          clear hK K
          refine wpAnyIn_done (by kernel_rfl) ?_ _
          exact HEND.out _ z2 z3
        · go_simp
          refine hK _ _ ?_
          clear hK K
          refine wpAnyIn_ready (rs := [0]) (by kernel_rfl) (by simp) (AllReadyIn.cons rfl (fun K hK => ?_) (AllReadyIn.nil))
          go_simp
          refine hK _ _ ?_
          clear hK K
          refine wpAnyIn_ready (rs := [4]) (by kernel_rfl) (by simp) (AllReadyIn.cons rfl (fun K hK => ?_) AllReadyIn.nil)
          refine stepIn_row rfl (.tmp 7) (.tmp 10) rfl (.slice lo ln lc) vs1 rfl (h2.keep ((((Touch.refl [] W).drew).trans (p3.alloc _)).tag0 83)) ⟨w1.heap.size, 0, none⟩ (.slice (some ⟨g, 0, none⟩) vn gcap) 1 rfl (by simp) rfl (by omega) ?_
          intro g2 cap2 w2 q1 q2 q3
          refine hK _ _ ?_
          clear hK K
          have hT1 : Touch [] W (w1.alloc (.cells #[.slice (some ⟨g, 0, none⟩) vn gcap] 83)) := ((Touch.refl [] W).drew).trans (p3.alloc _)
          have hT2 : Touch (Value.slice lo ln lc).ownBlock.toList (w1.alloc (.cells #[.slice (some ⟨g, 0, none⟩) vn gcap] 83)) w2 := (Touch.refl _ _).grown q2 (fun k hk => by simp [hk])
          obtain ⟨z1, z2, z3⟩ := CopySt.push (x := x) h1 h4 H3.out h2 (p1.touch ((Touch.refl [] w1).alloc _)) hT1 q1 hT2 HKP (Nat.le_of_lt hbm) (Nat.le_refl _) h5 q3
          have d0 := boxOne z1
          have g0 : w2.frozen? ⟨w.heap.size, 0, none⟩ = false := by simp [World.frozen?, z1]
          refine wpAnyIn_ready (rs := [5]) (by kernel_rfl) (by simp) (AllReadyIn.cons rfl (fun K hK => ?_) AllReadyIn.nil)
          go_simp
          refine hK _ _ ?_
          clear hK K
          refine wpAnyIn_done (by kernel_rfl) ?_ _
          exact HEND.out _ z2 z3
  case done =>
    rintro out W r r' ⟨e1, e2, d', M', e3, e4⟩ hi hlp hk
    have g1 : Guard AllT (wa.heap.size + 2) W (W.putObj (wa.heap.size + 1) (.loop r')) := Guard.putObj hlp (by omega)
    have o1 : OwnS OwnT bm 0 W (W.putObj (wa.heap.size + 1) (.loop r')) := OwnS.putObj hlp (odd_loop r) (Nat.zero_le _) (by omega)
    have hk1 : (W.putObj (wa.heap.size + 1) (.loop r')).heap[wa.heap.size]? = some (.deferred (some [])) := (World.putObj_heap_other (by omega)).trans hk
    have e3' := e3.guard g1
    have hi' := hi.own o1
    generalize W.putObj (wa.heap.size + 1) (.loop r') = W2 at *
    clear e3 hi hk hlp g1 o1
    have g2 : Guard AllT (wa.heap.size + 1) W2 (W2.putObj wa.heap.size (.deferred none)) := Guard.putOdd hk1 (odd_deferred _) (by omega)
    have o2 : OwnS OwnT bm 0 W2 (W2.putObj wa.heap.size (.deferred none)) := OwnS.putObj hk1 (odd_deferred _) (Nat.zero_le _) (by omega)
    have e3'' := e3'.guard g2
    obtain ⟨lv, vs2, z1, z2, z3, z4, _⟩ := hi'.st
    have hkp := hi'.kept.trans o2.kept
    have c0 := boxOne z1
    have z2' := z2.keep (o2.cells 83 (by decide) (by decide))
    have z4' : ∀ i (_ : i < vs2.length) (_ : i < out.length), RowAt (W2.putObj wa.heap.size (.deferred none)) vs2[i] out[i].row := fun i a b => Sl3.keep (z4 i a b) (o2.cells 85 (by decide) (by decide))
    have HZ : Hid (vs2.length = out.length) := z3
    clear z3 z4 z2 o2 g2
    go_wp2
    refine ⟨by simp, .inl ⟨_, _, rfl, run_takeDeferred hk1, ?_⟩⟩
    exact ⟨_, results_tmp rfl _ _ _, lv, out, rfl, e1, e2, ⟨vs2, z2', HZ.out, z4'⟩, ⟨d', M', e3'', e4⟩, hkp⟩
end Go.Proofs.YtjoinhljdbljaaaGreat
