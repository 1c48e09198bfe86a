/- The table's rows may be; a sort of them is a valid plan. A query over a table, on a large disk of its own: the walk of ask. The walk of ask. What the statement's test of two rows answers, by the order of the sort. The same rows? The walk of same, over one row each. A query over one row answers it: the walk of lives. -/
import Derived.Test.YtjoinhljdbljaaaGreatSdDToSdE
import Derived.Deep.RegionHeld3
import Derived.BigQuiet
namespace Go.Proofs.YtjoinhljdbljaaaGreat
open Go.RowKit

theorem aOf_cases (r : Int) : aOf r = ⟨0, 0, ⟨#[]⟩⟩ ∨ ∃ n : Int, (-10 ≤ n ∧ n < 10) ∧ aOf r = ⟨1, n, ⟨#[]⟩⟩ := by
  unfold aOf
  split
  · exact .inl rfl
  · obtain ⟨h1, h2⟩ := pickN_lt r 20 (by omega)
    exact .inr ⟨_, ⟨by omega, by omega⟩, rfl⟩

theorem i64_of {n : Int} (h1 : -1000000 ≤ n) (h2 : n ≤ 1000000) : I64 n := by unfold I64; omega

theorem rowOf_fair (r : Int) (i : Nat) (s : ByteArray) (hs : s.size ≤ 9) (hi : i ≤ 1000000) : ∀ y ∈ rowOf r i s, Fair y := by
  intro y hy
  simp only [rowOf, List.mem_cons, List.not_mem_nil, or_false] at hy
  rcases hy with rfl | rfl | rfl | rfl
  · rcases aOf_cases r with h | ⟨n, hn, h⟩
    · rw [h]; exact .inl ⟨rfl, rfl, rfl⟩
    · rw [h]; exact .inr (.inl ⟨rfl, i64_of (n := n) (by omega) (by omega), rfl⟩)
  · exact .inr (.inl ⟨rfl, i64_of (n := (i : Int)) (by omega) (by omega), rfl⟩)
  · exact .inr (.inr (.inl ⟨rfl, rfl, by show s.size ≤ 200; omega⟩))
  · obtain ⟨h1, h2⟩ := pickN_lt r 2 (by omega)
    exact .inr (.inr (.inr ⟨rfl, by show pickN r 2 = 0 ∨ pickN r 2 = 1; omega, rfl⟩))

theorem rowOf_size (r : Int) (i : Nat) (s : ByteArray) (hs : s.size ≤ 9) : sizeR (rowOf r i s) ≤ 40 := by
  have ha : sizeV (aOf r) ≤ 9 := by
    rcases aOf_cases r with h | ⟨n, hn, h⟩ <;> rw [h] <;> simp [sizeV]
  have hb : sizeV ⟨1, (i : Int), ⟨#[]⟩⟩ = 9 := by simp [sizeV]
  have hc : sizeV ⟨2, 0, s⟩ = 3 + s.size := by simp [sizeV]
  have hd : sizeV ⟨3, pickN r 2, ⟨#[]⟩⟩ = 2 := by simp [sizeV]
  unfold sizeR rowOf
  simp only [List.map_cons, List.map_nil, List.sum_cons, List.sum_nil, hb, hc, hd]
  omega

theorem rows_ok {raw : List Int} {rows : List (List V)} {ks : List K} (blk : Nat) (hb : 64 ≤ blk) (hn : rows.length ≤ 1000) (h : ∀ i (h : i < rows.length), TRow raw i rows[i]) (hk : goodKeys ks 4) : RowsOK blk 4 ks rows := by
  have hf : ∀ i (hi : i < rows.length), ∀ y ∈ rows[i], Fair y := fun i hi => by
    obtain ⟨s, hs, e⟩ := h i hi
    rw [e]
    exact rowOf_fair _ i s hs (by omega)
  refine ⟨fun i hi => ⟨i64_of (n := (i : Int)) (by omega) (by omega), hf i hi, ?_, ?_⟩, fun r hr => ?_⟩
  · obtain ⟨s, hs, e⟩ := h i hi
    show rows[i].length = 4
    rw [e]; rfl
  · obtain ⟨s, hs, e⟩ := h i hi
    have := rowOf_size (raw.getD i 0) i s hs
    show 16 + sizeR rows[i] ≤ blk
    rw [e]; omega
  · obtain ⟨i, hi, rfl⟩ := List.getElem_of_mem hr
    refine ⟨hf i hi, ?_⟩
    obtain ⟨s, hs, e⟩ := h i hi
    rw [e]; exact hk

theorem nil_empty : Old.nilB ⟨#[]⟩ = true := by kernel_rfl

theorem row_pair {raw : List Int} {r : List V} {i : Nat} (h : TRow raw i r) : Old.RowOK (r.map V.old) [1, 1, 2, 3] := by
  obtain ⟨s, hs, rfl⟩ := h
  refine ⟨rfl, fun j hj h2 => ?_⟩
  simp only [List.length_cons, List.length_nil] at h2
  match j, h2 with
  | 0, _ =>
    show Old.PairOK (aOf (raw.getD i 0)).old 1
    rcases aOf_cases (raw.getD i 0) with h | ⟨n, hn, h⟩
    · rw [h]; exact ⟨.inl rfl, by simp [V.old, Old.gvalB, nil_empty]⟩
    · rw [h]; exact ⟨.inr rfl, by simp [V.old, Old.gvalB, nil_empty]⟩
  | 1, _ => exact ⟨.inr rfl, by simp [rowOf, V.old, Old.gvalB, nil_empty]⟩
  | 2, _ => exact ⟨.inr rfl, by simp [rowOf, V.old, Old.gvalB]; omega⟩
  | 3, _ =>
    obtain ⟨h1, h2⟩ := pickN_lt (raw.getD i 0) 2 (by omega)
    refine ⟨.inr rfl, ?_⟩
    have h3 : pickN (raw.getD i 0) 2 = 0 ∨ pickN (raw.getD i 0) 2 = 1 := by omega
    show Old.gvalB ⟨3, pickN (raw.getD i 0) 2, ⟨#[]⟩⟩ = true
    generalize pickN (raw.getD i 0) 2 = x at *
    rcases h3 with rfl | rfl <;> simp [Old.gvalB, nil_empty]

theorem valid_plan {raw : List Int} {rows : List (List V)} {ks : List K} (h : ∀ i (h : i < rows.length), TRow raw i rows[i]) (hk : goodKeys ks 4) (h1 : 1 ≤ ks.length) (h4 : ks.length ≤ 4) : Old.ValidOK [⟨nameT, [1, 1, 2, 3], oldRows rows⟩] (planOld nameT ks) := by
  have hcols : ∀ N, Old.colsL [⟨nameT, [1, 1, 2, 3], oldRows rows⟩] (List.take 0 N) = [] := fun N => rfl
  have htab : Old.tabK [⟨nameT, [1, 1, 2, 3], oldRows rows⟩] nameT = [1, 1, 2, 3] := by simp [Old.tabK]
  have hcol1 : Old.colsL [⟨nameT, [1, 1, 2, 3], oldRows rows⟩] (List.take 1 (planOld nameT ks)) = [[1, 1, 2, 3]] := by
    simp [planOld, Old.colsL, Old.grow, Old.nodeL, htab]
  refine ⟨⟨by simp [planOld], by simp [planOld]⟩, fun i j hi hj hij => ?_, fun i hi => ?_, ⟨fun i hi => ?_, fun j hj => ?_, fun i hi => ?_⟩, fun i hi => ?_⟩
  · simp at hi hj; omega
  · have : i = 0 := by simp at hi; omega
    subst this
    refine ⟨⟨by simp, by simp, fun j hj => ?_⟩, fun j hj => ?_⟩
    · simp only [List.getElem_cons_zero, List.length_cons, List.length_nil] at hj
      match j, hj with
      | 0, _ => simp [Old.Kind3]
      | 1, _ => simp [Old.Kind3]
      | 2, _ => simp [Old.Kind3]
      | 3, _ => simp [Old.Kind3]
    · simp only [List.getElem_cons_zero, oldRows, List.length_map] at hj
      simp only [List.getElem_cons_zero, oldRows, List.getElem_map]
      exact row_pair (h j hj)
  · simp only [planOld, List.length_cons, List.length_nil] at hi
    match i, hi with
    | 0, _ => exact ⟨⟨by simp [planOld], by simp [planOld, Old.BareN, Old.BareR]⟩, fun x hx => by simp [planOld, Old.ins] at hx⟩
    | 1, _ => exact ⟨⟨by simp [planOld], by simp [planOld, Old.BareN, Old.BareR, nil_empty]⟩, fun x hx => by simp [planOld, Old.ins] at hx; subst hx; omega⟩
  · have : j = 0 := by simp [planOld] at hj; omega
    subst this
    simp [planOld, Old.asks, Old.ins]
  · simp only [planOld, List.length_cons, List.length_nil] at hi
    match i, hi with
    | 0, _ => simp [planOld, Old.hF, Old.hts, Old.grow, Old.hOf]
    | 1, _ => simp [planOld, Old.hF, Old.hts, Old.grow, Old.hOf]
  · simp only [planOld, List.length_cons, List.length_nil] at hi
    match i, hi with
    | 0, _ =>
      intro _
      rw [hcols]
      simp only [planOld, List.getElem_cons_zero, Old.NodeOK, Old.nodeL, if_pos, htab]
      exact ⟨⟨0, by simp, rfl⟩, by simp, by simp⟩
    | 1, _ =>
      intro _
      rw [hcol1]
      simp only [planOld, List.getElem_cons_succ, List.getElem_cons_zero, Old.NodeOK, Old.nodeL, Old.colsLeft]
      refine ⟨?_, by simp, by simp⟩
      simp only [show (2 : Int) ≠ 1 by decide, if_false, if_true]
      refine ⟨fun j hj => ?_, by simpa [Old.colsOf] using h1, by simpa [Old.colsOf] using h4⟩
      simp only [Old.colsOf, List.length_map] at hj
      simp only [Old.colsOf, List.getElem_map]
      exact hk ks[j] (List.getElem_mem hj)
end Go.Proofs.YtjoinhljdbljaaaGreat

namespace Go.Proofs.YtjoinhljdbljaaaGreat
open Go.RowKit

theorem LOwn.at {w : World} {v : Value} {vs : List Value} (h : LOwn w v vs) : LAt w v vs ∧ ∀ o n c, v = .slice o n c → n ≤ c ∧ c ≤ maxLen := by
  rcases h.2 with ⟨rfl, e⟩ | ⟨g, cap, cur, rfl, hb, hh, h1, h2, h3, h4⟩
  · obtain rfl : vs = [] := List.eq_nil_of_length_eq_zero e
    exact ⟨⟨_, _, rfl, .inl rfl⟩, fun o n c e => by cases e; unfold maxLen; omega⟩
  · refine ⟨⟨_, _, rfl, .inr ⟨g, 0, cur, rfl, hh, h2, h1, fun i hi => ?_⟩⟩, fun o n c e => by cases e; exact ⟨h1, h2⟩⟩
    have h5 : (cur.toList.take (vs.length * 1))[i]? = some vs[i] := by rw [h4]; exact List.getElem?_eq_getElem hi
    rw [List.getElem?_take_of_lt (by omega)] at h5
    simpa using h5

theorem kinds_in {w : World} {bk : Nat} (h : w.heap[bk]? = some (.cells kindsC 3 (0, 0))) : Old.IntsIn w [] (.slice (some ⟨bk, 0, none⟩) 4 4) [1, 1, 2, 3] := by
  refine ⟨_, _, rfl, by simp, by unfold maxLen; omega, by simp [Old.ints], fun _ => ⟨bk, 0, rfl, by simp, fun j u hj => ?_⟩⟩
  simp only [World.cell?, h, Nat.zero_add]
  have hj' := (List.getElem?_eq_some_iff.1 hj).1
  simp only [Old.ints, List.length_map, List.length_cons, List.length_nil] at hj'
  match j, hj' with
  | 0, _ => simpa [Old.ints, kindsC] using hj
  | 1, _ => simpa [Old.ints, kindsC] using hj
  | 2, _ => simpa [Old.ints, kindsC] using hj
  | 3, _ => simpa [Old.ints, kindsC] using hj

/-- What is asked: a table, a plan over it, a configuration. -/
structure AskIn (w : World) (gp bk : Nat) (sv kv : Value) (blk fan bud : Nat) (raw : List Int) (ks : List K) (vs : List Value) (rows : List (List V)) : Prop where
  plan : PlanAt w gp nameT kv
  keys : KeysAt w kv ks
  kinds : w.heap[bk]? = some (.cells kindsC 3 (0, 0))
  list : LOwn w sv vs
  len : vs.length = rows.length
  rowsAt : ∀ i (_ : i < vs.length) (_ : i < rows.length), RowAt w vs[i] rows[i]
  trow : ∀ i (h : i < rows.length), TRow raw i rows[i]
  num : rows.length ≤ 1000
  good : goodKeys ks 4
  k1 : 1 ≤ ks.length
  k4 : ks.length ≤ 4
  b1 : 64 ≤ blk
  b2 : blk ≤ 512
  f1 : 2 ≤ fan
  f2 : fan ≤ 16
  u1 : 4 * blk ≤ bud
  u2 : bud ≤ 100000
theorem AskIn.quiet {w w' : World} {gp bk : Nat} {sv kv : Value} {blk fan bud : Nat} {raw : List Int} {ks : List K} {vs : List Value} {rows : List (List V)} (h : AskIn w gp bk sv kv blk fan bud raw ks vs rows) (t : Touch [] w w') : AskIn w' gp bk sv kv blk fan bud raw ks vs rows :=
  { h with plan := h.plan.keep (t.tag0 _), keys := h.keys.touch t, kinds := t.tag0 _ _ _ _ h.kinds, list := h.list.keep (t.tag0 _), rowsAt := fun i a b => (h.rowsAt i a b).touch t }

theorem room_enough {N : Nat} (h : N ≤ 1000) : 2 * N + ((N * (N + 1) + 0) + 1) ≤ 1048576 + 8192 * N := by
  have : N * (N + 1) ≤ 1000 * (N + 1) := Nat.mul_le_mul_right _ h
  omega

theorem newS_ok (N : Nat) : DiskOK (newS 4096 ((1048576 + 8192 * N : Nat) : Int)) := by
  refine ⟨rfl, rfl, rfl, ?_, ?_, by simp [newS], by simp [newS]⟩
  · intro i j x y hx; simp [newS] at hx
  · intro f hf; simp [newS] at hf

theorem query_here {W : World} {gp bk g bx bm : Nat} {sv : Value} {kl kc2 : Nat} {kvo : Option Addr} {blk fan bud : Nat} {raw : List Int} {ks : List K} {vs : List Value} {rows : List (List V)} (h : AskIn W gp bk sv (.slice kvo kl kc2) blk fan bud raw ks vs rows) (hg : W.heap[g]? = some (.cells #[.string nameT, .slice (some ⟨bk, 0, none⟩) 4 4, sv] 70 (0, 0))) (hp : PD W bx bm (newS 4096 ((1048576 + 8192 * rows.length : Nat) : Int)) []) (hlow : bm ≤ bx) :
    Calls Tryz.prog 18 #[.slice (some ⟨g, 0, none⟩) 1 1, .slice (some ⟨gp, 0, none⟩) 2 2, .agg #[.int .i64 (blk : Int), .int .i64 (fan : Int), .int .i64 (bud : Int)], .pointer (some ⟨bx, 0, none⟩)] W fun e w' => ∃ lv out, e = .returned (.tuple #[lv, .int .i64 0]) ∧ Answered bm W w' lv out ks rows := by
  have hn := h.num
  obtain ⟨hL, hcap⟩ := h.list.at
  have hb1 := h.b1
  have hb2 := h.b2
  have hf1 := h.f1
  have hf2 := h.f2
  have hu1 := h.u1
  have hu2 := h.u2
  refine query_any W gp _ sv kl kc2 kvo nameT (some ⟨bk, 0, none⟩) 4 4 bx bm blk fan bud 4 ks vs rows [1, 1, 2, 3] _ [] rows.length 0 (1000000000 - rows.length) 0 ⟨h.plan, ⟨⟨g, 0, 1, _, rfl, hg, by unfold maxLen; omega, by omega, rfl, rfl, rfl⟩⟩, h.keys, hL, h.len, h.rowsAt, hp, newS_ok _, rows_ok blk hb1 hn h.trow h.good, by omega, by omega, ?_, by omega, by omega, hu1, by omega, hf1, by omega, by omega, fun k hk => by simp [diskF, rowsOf] at hk; omega⟩ (kinds_in h.kinds) hcap (valid_plan h.trow h.good h.k1 h.k4) (by have := h.k4; omega) (by simp) hb1 hf2 ⟨?_, ?_, ?_, ?_⟩ (by omega) (by omega) (by omega)
  · simp [newS]; omega
  · simp [newS, usedOf]
  · have hr := room_enough hn
    show (0 : Int) + ((2 * rows.length + ((rows.length * (rows.length + 1) + 0) + 1) : Nat) : Int) ≤ max ((1048576 + 8192 * rows.length : Nat) : Int) 0
    generalize 2 * rows.length + ((rows.length * (rows.length + 1) + 0) + 1) = x at *
    omega
  · have hr := room_enough hn
    show (0 : Int) + ((2 * rows.length + ((rows.length * (rows.length + 1) + 0) + 1) : Nat) : Int) ≤ 1000000000
    generalize 2 * rows.length + ((rows.length * (rows.length + 1) + 0) + 1) = x at *
    omega
  · simp [newS]; omega
end Go.Proofs.YtjoinhljdbljaaaGreat

namespace Go.Proofs.YtjoinhljdbljaaaGreat
open Go.RowKit

def tabC (bk : Nat) (sv : Value) : Obj := .cells #[.string nameT, .slice (some ⟨bk, 0, none⟩) 4 4, sv] 70
def cfgC (blk fan bud : Nat) : Obj := .cells #[.int .i64 (blk : Int), .int .i64 (fan : Int), .int .i64 (bud : Int)] 51
def Six (W : World) (b0 b1 bk : Nat) (sv : Value) (blk fan bud : Nat) : Prop :=
  (W.cell? ⟨b0, 0, none⟩ = some (.string nameT) ∧ W.cell? ⟨b0, 1, none⟩ = some (.slice (some ⟨bk, 0, none⟩) 4 4) ∧ W.cell? ⟨b0, 2, none⟩ = some sv) ∧ (W.cell? ⟨b1, 0, none⟩ = some (.int .i64 (blk : Int)) ∧ W.cell? ⟨b1, 1, none⟩ = some (.int .i64 (fan : Int)) ∧ W.cell? ⟨b1, 2, none⟩ = some (.int .i64 (bud : Int)))

set_option maxRecDepth 20000 in
set_option maxHeartbeats 4000000 in
theorem ask_any (w : World) (gp bk : Nat) (sv : Value) (kl kc2 : Nat) (kvo : Option Addr) (blk fan bud : Nat) (raw : List Int) (ks : List K) (vs : List Value) (rows : List (List V)) (h : AskIn w gp bk sv (.slice kvo kl kc2) blk fan bud raw ks vs rows) :
    Calls Tryz.prog 32 #[.agg #[.string nameT, .slice (some ⟨bk, 0, none⟩) 4 4, sv], .slice (some ⟨gp, 0, none⟩) 2 2, .agg #[.int .i64 (blk : Int), .int .i64 (fan : Int), .int .i64 (bud : Int)]] w fun e w' => ∃ lv out, e = .returned (.tuple #[lv, .int .i64 0]) ∧ Answered w.heap.size w w' lv out ks rows := by
  obtain ⟨so, sn, sc, rfl⟩ := h.list.slice
  have hsn : sn = rows.length := by
    obtain ⟨o, cap, e, _⟩ := h.list.at.1
    simp only [Value.slice.injEq] at e
    rw [e.2.1, h.len]
  have hnum := h.num
  have HL : Hid (∀ W0 W, Touch [] W0 W → Calls Tryz.prog 39 #[.agg #[.string nameT, .slice (some ⟨bk, 0, none⟩) 4 4, .slice so sn sc]] W fun e w' => e = .returned (.int .i64 ((1048576 + 8192 * sn : Nat) : Int)) ∧ Touch [] W0 w' ∧ Touch [] W w') := fun W0 W t => by
    refine (large_any W _ _ so sn sc (by omega)).mono ?_
    rintro e w' ⟨rfl, h1⟩
    exact ⟨rfl, t.trans h1, h1⟩
  have HN : Hid (∀ W0 W, Touch [] W0 W → Calls Tryz.prog 15 #[.int .i64 4096, .int .i64 ((1048576 + 8192 * sn : Nat) : Int)] W fun e w' => ∃ bx bm, e = .returned (.pointer (some ⟨bx, 0, none⟩)) ∧ (bm ≤ bx ∧ W0.heap.size ≤ bm) ∧ PD w' bx bm (newS 4096 ((1048576 + 8192 * rows.length : Nat) : Int)) [] ∧ Touch [] W0 w' ∧ Touch [] W w') := fun W0 W t => by
    refine (pnew 4096 _ W).mono ?_
    rintro e w' ⟨rfl, h1, h2⟩
    rw [hsn] at h1
    exact ⟨_, _, rfl, ⟨Nat.le_succ _, t.size⟩, h1, t.trans h2, h2⟩
  have hAB : ∃ W0 : World, ∃ b0 b1, W0 = (w.alloc (tabC bk (.slice so sn sc))).alloc (cfgC blk fan bud) ∧ b0 = w.heap.size ∧ b1 = w.heap.size + 1 := ⟨_, _, _, rfl, rfl, rfl⟩
  obtain ⟨W0, b0, b1, eW, e0, e1⟩ := hAB
  have hT0 : Touch [] w W0 := by rw [eW]; exact ((Touch.refl [] _).alloc _).alloc _
  have hB0 : W0.heap[b0]? = some (.cells #[.string nameT, .slice (some ⟨bk, 0, none⟩) 4 4, .slice so sn sc] 70 (0, 0)) := by
    rw [eW, e0]; exact (Below.heap_alloc _ _ _ (by simp)).trans (heap_alloc_new w _)
  have hB1 : W0.heap[b1]? = some (.cells #[.int .i64 (blk : Int), .int .i64 (fan : Int), .int .i64 (bud : Int)] 51 (0, 0)) := by
    rw [eW, e1]; exact new2 _ _ _
  have HK : Hid (∀ W, Touch [] W0 W → Six W b0 b1 bk (.slice so sn sc) blk fan bud) := fun W t => ⟨box3 (t.tag0 70 _ _ _ hB0), box3 (t.tag0 51 _ _ _ hB1)⟩
  have HQ : Hid (∀ W g bx bm, Touch [] W0 W → W.heap[g]? = some (.cells #[.string nameT, .slice (some ⟨bk, 0, none⟩) 4 4, .slice so sn sc] 70 (0, 0)) → PD W bx bm (newS 4096 ((1048576 + 8192 * rows.length : Nat) : Int)) [] → (bm ≤ bx ∧ W0.heap.size ≤ bm) →
      Calls Tryz.prog 18 #[.slice (some ⟨g, 0, none⟩) 1 1, .slice (some ⟨gp, 0, none⟩) 2 2, .agg #[.int .i64 (blk : Int), .int .i64 (fan : Int), .int .i64 (bud : Int)], .pointer (some ⟨bx, 0, none⟩)] W fun e w' => ∃ lo ln lc, e = .returned (.tuple #[.slice lo ln lc, .int .i64 0]) ∧ (∃ out, Answered w.heap.size w w' (.slice lo ln lc) out ks rows) ∧ Six w' b0 b1 bk (.slice so sn sc) blk fan bud) := fun W g bx bm t hg hp hlow => by
    refine (query_here (h.quiet (hT0.trans t)) hg hp hlow.1).mono ?_
    rintro e w' ⟨lv, out, rfl, hA⟩
    obtain ⟨lo, ln, lc, rfl⟩ := hA.list.elim fun _ h => h.1.slice
    refine ⟨lo, ln, lc, rfl, ⟨out, hA.perm, hA.sorted, hA.list, (hT0.trans t).kept.trans (hA.kept.mono (Nat.le_trans hT0.size hlow.2))⟩, ⟨box3 (hA.kept.2 70 (by decide) (by decide) _ _ _ (t.tag0 70 _ _ _ hB0)), box3 (hA.kept.2 51 (by decide) (by decide) _ _ _ (t.tag0 51 _ _ _ hB1))⟩⟩
  have hl0 : b0 < W0.heap.size := (Array.getElem?_eq_some_iff.1 hB0).1
  have hl1 : b1 < W0.heap.size := (Array.getElem?_eq_some_iff.1 hB1).1
  have HNEW : Hid (∀ (W : World) (o : Obj), (W.alloc o).heap[W.heap.size]? = some o) := fun W o => heap_alloc_new W o
  clear hB0 hB1 hT0 h hnum hsn
  go_enter Tryz.func32, Tryz.ntmps32
  go_wp2
  change Code.wp _ _ _ _ ((w.alloc (tabC bk (.slice so sn sc))).alloc (cfgC blk fan bud))
  rw [← eW]
  simp only [← e1]
  simp only [← e0]
  clear eW e0 e1
  obtain ⟨⟨c0, c1, c2⟩, ⟨c3, c4, c5⟩⟩ := HK.out W0 (Touch.refl [] _)
  go_region_held3 (fun w' => (w'.cell? ⟨b0, 0, none⟩ = some (.string nameT) ∧ w'.cell? ⟨b0, 1, none⟩ = some (.slice (some ⟨bk, 0, none⟩) 4 4) ∧ w'.cell? ⟨b0, 2, none⟩ = some (.slice so sn sc)) ∧ (w'.cell? ⟨b1, 0, none⟩ = some (.int .i64 (blk : Int)) ∧ w'.cell? ⟨b1, 1, none⟩ = some (.int .i64 (fan : Int)) ∧ w'.cell? ⟨b1, 2, none⟩ = some (.int .i64 (bud : Int)))) (go_keep) (first | (go_at_call 39; first | (refine (HL.out W0 _ ((Touch.refl [] W0).drew.alloc _)).mono ?_; rintro e wL ⟨rfl, hU, hT⟩; have HUL : Hid (Touch [] W0 wL) := hU; have HGL : Hid (wL.heap[W0.heap.size]? = some (.cells #[.string nameT, .slice (some ⟨bk, 0, none⟩) 4 4, .slice so sn sc] 70 (0, 0))) := hT.tag0 70 _ _ _ (HNEW.out W0.drew _); obtain ⟨⟨p0, p1, p2⟩, ⟨p3, p4, p5⟩⟩ := HK.out wL hU; have pl0 := lt_of_cell p0; have pl1 := lt_of_cell p3; clear hU hT) | (refine (HL.out W0 _ ((Touch.refl [] W0).drew)).mono ?_; rintro e wL ⟨rfl, hU, hT⟩; have HUL : Hid (Touch [] W0 wL) := hU; obtain ⟨⟨p0, p1, p2⟩, ⟨p3, p4, p5⟩⟩ := HK.out wL hU; have pl0 := lt_of_cell p0; have pl1 := lt_of_cell p3; clear hU hT)) | (go_at_call 15; first | (refine (HN.out W0 _ (HUL.out.alloc _)).mono ?_; rintro e wN ⟨bx, bm, rfl, hlow, hp, hU, hT⟩; have HGN : Hid (wN.heap[wL.heap.size]? = some (.cells #[.string nameT, .slice (some ⟨bk, 0, none⟩) 4 4, .slice so sn sc] 70 (0, 0))) := hT.tag0 70 _ _ _ (HNEW.out wL _); have HUN : Hid (Touch [] W0 wN) := hU; obtain ⟨⟨q0, q1, q2⟩, ⟨q3, q4, q5⟩⟩ := HK.out wN hU; have ql0 := lt_of_cell q0; have ql1 := lt_of_cell q3; have HPN : Hid (PD wN bx bm (newS 4096 ((1048576 + 8192 * rows.length : Nat) : Int)) []) := hp; have HLW : Hid (bm ≤ bx ∧ W0.heap.size ≤ bm) := hlow; clear hp hU hT hlow) | (refine (HN.out W0 _ HUL.out).mono ?_; rintro e wN ⟨bx, bm, rfl, hlow, hp, hU, hT⟩; have HGN : Hid (wN.heap[W0.heap.size]? = some (.cells #[.string nameT, .slice (some ⟨bk, 0, none⟩) 4 4, .slice so sn sc] 70 (0, 0))) := hT.tag0 70 _ _ _ HGL.out; have HUN : Hid (Touch [] W0 wN) := hU; obtain ⟨⟨q0, q1, q2⟩, ⟨q3, q4, q5⟩⟩ := HK.out wN hU; have ql0 := lt_of_cell q0; have ql1 := lt_of_cell q3; have HPN : Hid (PD wN bx bm (newS 4096 ((1048576 + 8192 * rows.length : Nat) : Int)) []) := hp; have HLW : Hid (bm ≤ bx ∧ W0.heap.size ≤ bm) := hlow; clear hp hU hT hlow) | (refine (HN.out W0 _ HUL.out).mono ?_; rintro e wN ⟨bx, bm, rfl, hlow, hp, hU, hT⟩; have HUN : Hid (Touch [] W0 wN) := hU; obtain ⟨⟨q0, q1, q2⟩, ⟨q3, q4, q5⟩⟩ := HK.out wN hU; have ql0 := lt_of_cell q0; have ql1 := lt_of_cell q3; have HPN : Hid (PD wN bx bm (newS 4096 ((1048576 + 8192 * rows.length : Nat) : Int)) []) := hp; have HLW : Hid (bm ≤ bx ∧ W0.heap.size ≤ bm) := hlow; clear hp hU hT hlow)) | (go_at_call 18; first | (refine (HQ.out wN _ bx bm HUN.out HGN.out HPN.out HLW.out).mono ?_; rintro e wQ ⟨lo, ln, lc, rfl, hA, ⟨⟨r0, r1, r2⟩, ⟨r3, r4, r5⟩⟩⟩; have HANS : Hid (∃ out, Answered w.heap.size w wQ (.slice lo ln lc) out ks rows) := hA; clear hA; have rl0 := lt_of_cell r0; have rl1 := lt_of_cell r3) | (refine (HQ.out _ wN.heap.size bx bm (HUN.out.alloc _) (HNEW.out wN _) (HPN.out.away ((Touch.refl [] _).alloc _) (fun _ _ h => List.not_mem_nil h)) HLW.out).mono ?_; rintro e wQ ⟨lo, ln, lc, rfl, hA, ⟨⟨r0, r1, r2⟩, ⟨r3, r4, r5⟩⟩⟩; have HANS : Hid (∃ out, Answered w.heap.size w wQ (.slice lo ln lc) out ks rows) := hA; clear hA; have rl0 := lt_of_cell r0; have rl1 := lt_of_cell r3)))
  all_goals
    obtain ⟨out, hA⟩ := HANS.out
    go_wp2
    go_ret2
    exact ⟨_, out, rfl, hA⟩
end Go.Proofs.YtjoinhljdbljaaaGreat

namespace Go.Proofs.YtjoinhljdbljaaaGreat
open Go.RowKit

theorem Fair.old {v : V} (h : Fair v) : Old.Fair v.old := h

theorem bl_nil : Op.bytesLess (ByteArray.toList ⟨#[]⟩) (ByteArray.toList ⟨#[]⟩) = false := by kernel_rfl

theorem aheadV_cmp (y : K) {a b : V} (ha : Fair a) (hb : Fair b) (hs : a.k = 0 ∨ b.k = 0 ∨ a.k = b.k) : Old.aheadV a.old b.old y.old = - cmpV y a b := by
  rw [← codeV_eq y ha hb]
  have k1 := ha.kind
  have k2 := hb.kind
  have x1 : a.old.k = a.k := rfl
  have x2 : b.old.k = b.k := rfl
  have x3 : a.old.n = a.n := rfl
  have x4 : b.old.n = b.n := rfl
  have x5 : a.old.s = a.s := rfl
  have x6 : b.old.s = b.s := rfl
  have x7 : y.old.l = y.l := rfl
  have x8 : y.old.d = y.d := rfl
  unfold Old.aheadV codeV Old.lessV
  rw [x1, x2, x3, x4, x5, x6, x7, x8]
  by_cases h1 : a.k = 0
  · by_cases h2 : b.k = 0
    · rw [if_pos h1, if_pos h2, if_pos (c := a.k = 0 ∨ b.k = 0) (.inl h1), h1, h2]
      simp [cmpI, negIf_zero]
    · rw [if_pos h1, if_neg h2, if_pos (c := a.k = 0 ∨ b.k = 0) (.inl h1)]
      have e1 : cmpI a.k b.k = -1 := by unfold cmpI; rw [if_pos (by omega)]
      rw [e1]
      cases y.l <;> simp [negIf]
  · by_cases h2 : b.k = 0
    · rw [if_neg h1, if_pos h2, if_pos (c := a.k = 0 ∨ b.k = 0) (.inr h2)]
      have e1 : cmpI a.k b.k = 1 := by unfold cmpI; rw [if_neg (by omega), if_pos (by omega)]
      rw [e1]
      cases y.l <;> simp [negIf]
    · rw [if_neg h1, if_neg h2, if_neg (c := a.k = 0 ∨ b.k = 0) (by omega)]
      have hk : a.k = b.k := by omega
      by_cases hn : a.n = b.n
      · rw [if_pos (c := cmpI a.n b.n = 0) (cmpI_zero.2 hn)]
        by_cases hss : a.s = b.s
        · rw [if_pos ⟨hn, hss⟩, hss, cmpS_cmp.self, negIf_zero]
          rfl
        · rw [if_neg (fun e => hss e.2)]
          have e0 : decide (a.n < b.n) = false := decide_eq_false (by omega)
          rw [e0, Bool.false_or]
          unfold cmpS
          cases h3 : Op.bytesLess a.s.toList b.s.toList
          · have h4 : Op.bytesLess b.s.toList a.s.toList = true := by
              cases h5 : Op.bytesLess b.s.toList a.s.toList
              · exact absurd (Old.bytes_ext (bl_total _ _ h3 h5)) hss
              · rfl
            rw [h4]
            cases y.d <;> simp [negIf]
          · cases y.d <;> simp [negIf]
      · rw [if_neg (fun e => hn e.1), if_neg (c := cmpI a.n b.n = 0) (fun e => hn (cmpI_zero.1 e))]
        have hsa : a.s = ⟨#[]⟩ ∧ b.s = ⟨#[]⟩ := by
          rcases ha with ⟨e1, e2, e3⟩ | ⟨e1, e2, e3⟩ | ⟨e1, e2, e3⟩ | ⟨e1, e2, e3⟩ <;> rcases hb with ⟨f1, f2, f3⟩ | ⟨f1, f2, f3⟩ | ⟨f1, f2, f3⟩ | ⟨f1, f2, f3⟩ <;> first | exact ⟨e3, f3⟩ | omega
        rw [hsa.1, hsa.2, bl_nil, Bool.or_false]
        by_cases hlt : a.n < b.n
        · rw [cmpI, if_pos hlt, decide_eq_true hlt]
          cases y.d <;> simp [negIf]
        · rw [show cmpI a.n b.n = 1 by unfold cmpI; rw [if_neg hlt, if_pos (by omega)], decide_eq_false hlt]
          cases y.d <;> simp [negIf]

theorem getD_old (a : List V) (j : Nat) : (a.map V.old).getD j Old.nul = (a.getD j V0).old := by
  simp only [List.getD_eq_getElem?_getD, List.getElem?_map]
  cases a[j]? <;> rfl

theorem aheadL_cmp (a b : List V) (hf : ∀ j, Fair (a.getD j V0) ∧ Fair (b.getD j V0) ∧ ((a.getD j V0).k = 0 ∨ (b.getD j V0).k = 0 ∨ (a.getD j V0).k = (b.getD j V0).k)) : ∀ ks : List K, Old.aheadL (a.map V.old) (b.map V.old) (ks.map K.old) = - cmpR ks a b
  | [] => rfl
  | y :: ks => by
    obtain ⟨h1, h2, h3⟩ := hf y.c.toNat
    have e := aheadV_cmp y h1 h2 h3
    have ih := aheadL_cmp a b hf ks
    rw [List.map_cons, Old.aheadL]
    rw [show y.old.c.toNat = y.c.toNat from rfl, getD_old, getD_old, e, ih]
    unfold cmpR thenBy
    by_cases h0 : cmpV y (a.getD y.c.toNat V0) (b.getD y.c.toNat V0) = 0
    · rw [if_pos (by rw [h0]; rfl), if_neg (fun e => e h0)]
      cases ks <;> rfl
    · rw [if_neg (by omega), if_pos h0]

/-- Each row that is answered is one of the table's. -/
theorem out_at {out : List Rec} {rows : List (List V)} (h : out.Perm (recsOf rows)) (i : Nat) (hi : i < out.length) : ∃ k : Nat, ∃ hk : k < rows.length, out[i].no = (k : Int) ∧ out[i].row = rows[k] := by
  have hm : out[i] ∈ recsOf rows := h.mem_iff.1 (List.getElem_mem hi)
  obtain ⟨k, hk, e⟩ := List.getElem_of_mem hm
  have hk' : k < rows.length := by rw [recsOf_len] at hk; exact hk
  refine ⟨k, hk', ?_, ?_⟩ <;> rw [← e] <;> simp [recsOf]

theorem out_len {out : List Rec} {rows : List (List V)} (h : out.Perm (recsOf rows)) : out.length = rows.length := by rw [h.length_eq, recsOf_len]

theorem recs_nodup (rows : List (List V)) : ((recsOf rows).map Rec.no).Nodup := by
  rw [List.Nodup, List.pairwise_iff_getElem]
  intro i j hi hj hij
  simp only [recsOf, List.getElem_map, List.getElem_mapIdx]
  omega

/-- No row is answered twice. -/
theorem out_once {out : List Rec} {rows : List (List V)} (h : out.Perm (recsOf rows)) (i j : Nat) (hi : i < j) (hj : j < out.length) : out[i].no ≠ out[j].no := by
  have hn : (out.map Rec.no).Nodup := (h.map Rec.no).nodup_iff.2 (recs_nodup rows)
  have := List.pairwise_iff_getElem.1 hn i j (by simp; omega) (by simpa using hj) hi
  simpa using this

/-- Rows that are answered one behind another are in order. -/
theorem out_order {out : List Rec} {ks : List K} (h : Srt ks out) (i : Nat) (hi : i + 1 < out.length) : cmpR ks out[i].row out[i + 1].row ≤ 0 ∧ (cmpR ks out[i].row out[i + 1].row = 0 → out[i].no ≤ out[i + 1].no) := by
  have h1 := List.pairwise_iff_getElem.1 h i (i + 1) (by omega) hi (by omega)
  have h2 := (cmpR_cmp ks).anti out[i].row out[i + 1].row
  rw [aheadB_code] at h1
  by_cases h3 : cmpR ks out[i + 1].row out[i].row = 0
  · rw [if_neg (fun e => e h3)] at h1
    have := of_decide_eq_false h1
    exact ⟨by omega, fun _ => by omega⟩
  · rw [if_pos h3] at h1
    have := of_decide_eq_false h1
    exact ⟨by omega, fun _ => by omega⟩
end Go.Proofs.YtjoinhljdbljaaaGreat

namespace Go.Proofs.YtjoinhljdbljaaaGreat
open Go.RowKit

theorem RowAt.cells {w : World} {v : Value} {row : List V} (h : RowAt w v row) (h1 : 1 ≤ row.length) : ∃ b off cap, v = .slice (some ⟨b, off, none⟩) row.length cap ∧ row.length ≤ cap ∧ cap ≤ maxLen ∧ ∀ j (hj : j < row.length), w.cell? ⟨b, off + j * 3, none⟩ = some (.int .i64 row[j].k) ∧ w.cell? ⟨b, off + j * 3 + 1, none⟩ = some (.int .i64 row[j].n) ∧ w.cell? ⟨b, off + j * 3 + 1 + 1, none⟩ = some (.string row[j].s) := by
  obtain ⟨ao, cap, rfl, hc, hm, hx⟩ := h
  obtain ⟨b, off, cs, f, rfl, hb, hx⟩ := hx (by simpa using h1)
  rw [List.length_map] at *
  refine ⟨b, off, cap, rfl, hc, hm, fun j hj => ?_⟩
  obtain ⟨x0, x1, x2⟩ := hx j (by simpa using hj)
  simp only [List.getElem_map, V.t] at x0 x1 x2
  simp only [World.cell?, hb]
  exact ⟨x0, x1, x2⟩

set_option maxRecDepth 20000 in
set_option maxHeartbeats 4000000 in
theorem same_any (w : World) (ga oa ca gb ob cb : Nat) (ra rb : Value) (row : List V) (ha : w.cell? ⟨ga, oa, none⟩ = some ra) (hb : w.cell? ⟨gb, ob, none⟩ = some rb) (hra : RowAt w ra row) (hrb : RowAt w rb row) (h1 : 1 ≤ row.length) (h2 : row.length ≤ 1000) :
    Calls Tryz.prog 35 #[.slice (some ⟨ga, oa, none⟩) 1 ca, .slice (some ⟨gb, ob, none⟩) 1 cb] w fun e w' => e = .returned (.bool true) ∧ Touch [] w w' := by
  obtain ⟨ba, fa, ka, rfl, a1, a2, hA⟩ := hra.cells h1
  obtain ⟨bb, fb, kb, rfl, b1, b2, hB⟩ := hrb.cells h1
  have HA : Hid (∀ W, Touch [] w W → W.cell? ⟨ga, oa, none⟩ = some (.slice (some ⟨ba, fa, none⟩) row.length ka) ∧ W.cell? ⟨gb, ob, none⟩ = some (.slice (some ⟨bb, fb, none⟩) row.length kb)) := fun W t => ⟨cell_touch ha t, cell_touch hb t⟩
  have HX : Hid (∀ W j (hj : j < row.length), Touch [] w W → (W.cell? ⟨ba, fa + j * 3, none⟩ = some (.int .i64 row[j].k) ∧ W.cell? ⟨ba, fa + j * 3 + 1, none⟩ = some (.int .i64 row[j].n) ∧ W.cell? ⟨ba, fa + j * 3 + 1 + 1, none⟩ = some (.string row[j].s)) ∧ (W.cell? ⟨bb, fb + j * 3, none⟩ = some (.int .i64 row[j].k) ∧ W.cell? ⟨bb, fb + j * 3 + 1, none⟩ = some (.int .i64 row[j].n) ∧ W.cell? ⟨bb, fb + j * 3 + 1 + 1, none⟩ = some (.string row[j].s))) := fun W j hj t => by
    obtain ⟨x0, x1, x2⟩ := hA j hj
    obtain ⟨y0, y1, y2⟩ := hB j hj
    exact ⟨⟨cell_touch x0 t, cell_touch x1 t, cell_touch x2 t⟩, ⟨cell_touch y0 t, cell_touch y1 t, cell_touch y2 t⟩⟩
  clear ha hb hra hrb hA hB
  go_enter Tryz.func35, Tryz.ntmps35
  go_wp2
  go_loopw [5] (fun i wr => (i = .int .i64 0 ∨ i = .int .i64 1) ∧ Touch [] w wr) (fun i _ => 1 - (intOf i).toNat)
  case atStart => exact ⟨.inl rfl, Touch.refl [] _⟩
  case round =>
    obtain ⟨hi, hT⟩ := hrel
    have HT : Hid (Touch [] w wr) := hT
    clear hT
    rcases hi with rfl | rfl
    · obtain ⟨c0, c1⟩ := HA.out wr HT.out
      go_wp2
      go_big_quiet (fail)
      go_wp2
      clear c0 c1
      go_loopw [6] (fun i wr => ∃ k : Nat, k ≤ row.length ∧ i = .int .i64 (k : Int) ∧ Touch [] w wr) (fun i _ => row.length - (intOf i).toNat)
      case atStart => exact ⟨0, by omega, rfl, by repeat (first | exact HT.out | refine Touch.drewN ?_ _ | refine Touch.drew ?_)⟩
      case round =>
        obtain ⟨k, hk, rfl, hT2⟩ := hrel
        have HT2 : Hid (Touch [] w wr) := hT2
        clear hT2
        obtain ⟨c0, c1⟩ := HA.out wr HT2.out
        by_cases hlt : k < row.length
        · obtain ⟨⟨x0, x1, x2⟩, ⟨y0, y1, y2⟩⟩ := HX.out wr k hlt HT2.out
          generalize row[k] = r at *
          go_wp2
          go_big_quiet (fail)
          go_wp2
          go_roundw
          case rel => exact ⟨k + 1, by omega, by go_num, by repeat (first | exact HT2.out | refine Touch.drewN ?_ _ | refine Touch.drew ?_)⟩
          case measure => simp [intOf]; omega
        · go_wp2
          go_roundw
          case rel => exact ⟨.inr (by go_num), HT2.out⟩
          case measure => simp [intOf]
    · go_wp2
      go_ret
      exact ⟨rfl, HT.out⟩
end Go.Proofs.YtjoinhljdbljaaaGreat

namespace Go.Proofs.YtjoinhljdbljaaaGreat
open Go.RowKit

theorem Answered.cells {bs : Nat} {w w' : World} {lo : Option Addr} {ln lc : Nat} {out : List Rec} {ks : List K} {rows : List (List V)} (h : Answered bs w w' (.slice lo ln lc) out ks rows) : ln = out.length ∧ (1 ≤ out.length → ∃ g o, lo = some ⟨g, o, none⟩ ∧ ∀ i (hi : i < out.length), ∃ rv, w'.cell? ⟨g, o + i, none⟩ = some rv ∧ RowAt w' rv out[i].row) := by
  obtain ⟨vs, h1, h2, h3⟩ := h.list
  obtain ⟨o, cap, e, h4⟩ := h1.at.1
  simp only [Value.slice.injEq] at e
  obtain ⟨e1, e2, e3⟩ := e
  refine ⟨e2.trans h2, fun hn => ?_⟩
  rcases h4 with rfl | ⟨g, off, cs, rfl, hg, _, _, hcs⟩
  · simp at h2; omega
  · refine ⟨g, off, e1, fun i hi => ⟨vs[i]'(by omega), ?_, h3 i (by omega) hi⟩⟩
    simp only [World.cell?, hg]
    rw [hcs i (by omega)]
    rfl

theorem raw_three (W : World) : RawAt (W.alloc (.cells #[.int .i64 3] 3)) (.slice (some ⟨W.heap.size, 0, none⟩) 1 1) [3] := by
  refine ⟨fun x hx => ?_, by simp, _, _, rfl, fun _ => ⟨_, _, rfl, fun j hj => ?_⟩⟩
  · simp at hx; subst hx; unfold I64; omega
  · have : j = 0 := by simp at hj; omega
    subst this
    have hn := heap_alloc_new W (.cells #[.int .i64 3] 3)
    simp only [World.cell?, hn]
    rfl

theorem keys_one (W : World) : KeysAt (W.alloc (.cells #[.int .i64 1, .bool false, .bool false] 73)) (.slice (some ⟨W.heap.size, 0, none⟩) 1 1) [⟨1, false, false⟩] := by
  refine ⟨_, _, rfl, by simp, by unfold maxLen; omega, fun _ => ⟨_, _, _, _, rfl, heap_alloc_new W _, fun i hi => ?_⟩⟩
  have : i = 0 := by simp at hi; omega
  subst this
  exact ⟨rfl, rfl, rfl⟩

theorem aOf_three : aOf 3 = ⟨1, -7, ⟨#[]⟩⟩ := by kernel_rfl

/-- The one row is answered. -/
theorem ask_one (w w1 w2 : World) (bk gp : Nat) (so : Option Addr) (sn sc : Nat) (hTab : ∃ vs rows, Tabled (w.alloc (.cells #[.int .i64 3] 3)) w1 [3] bk (.slice so sn sc) vs rows) (hP : PlanAt w2 gp nameT (.slice (some ⟨w1.heap.size, 0, none⟩) 1 1)) (hT : Touch [] (w1.alloc (.cells #[.int .i64 1, .bool false, .bool false] 73)) w2) :
    Calls Tryz.prog 32 #[.agg #[.string nameT, .slice (some ⟨bk, 0, none⟩) 4 4, .slice so sn sc], .slice (some ⟨gp, 0, none⟩) 2 2, .agg #[.int .i64 64, .int .i64 2, .int .i64 256]] w2 fun e w' => ∃ g o c rb off cap, e = .returned (.tuple #[.slice (some ⟨g, o, none⟩) 1 c, .int .i64 0]) ∧ w'.cell? ⟨g, o, none⟩ = some (.slice (some ⟨rb, off, none⟩) 4 cap) ∧ (4 ≤ cap ∧ cap ≤ maxLen) ∧ (w'.cell? ⟨rb, off, none⟩ = some (.int .i64 1) ∧ w'.cell? ⟨rb, off + 1, none⟩ = some (.int .i64 (-7)) ∧ w'.cell? ⟨rb, off + 1 + 1, none⟩ = some (.string ⟨#[]⟩)) ∧ Kept w.heap.size w w' := by
  obtain ⟨vs, rows, h⟩ := hTab
  have t12 : Touch [] w1 w2 := ((Touch.refl [] _).alloc _).trans hT
  have hn : rows.length = 1 := by rw [h.num]; rfl
  have hin : AskIn w2 gp bk (.slice so sn sc) (.slice (some ⟨w1.heap.size, 0, none⟩) 1 1) 64 2 256 [3] [⟨1, false, false⟩] vs rows :=
    { plan := hP, keys := (keys_one w1).touch hT, kinds := t12.tag0 _ _ _ _ h.kinds, list := h.list.keep (t12.tag0 _), len := h.len, rowsAt := fun i a b => (h.rowsAt i a b).touch t12, trow := h.trow, num := by omega, good := fun y hy => by simp at hy; subst hy; simp, k1 := by simp, k4 := by simp, b1 := by omega, b2 := by omega, f1 := by omega, f2 := by omega, u1 := by omega, u2 := by omega }
  refine (ask_any w2 gp bk _ 1 1 _ 64 2 256 [3] _ vs rows hin).mono ?_
  rintro e w' ⟨lv, out, rfl, hA⟩
  obtain ⟨lo, ln, lc, rfl⟩ := hA.list.elim fun _ h => h.1.slice
  have hlen : out.length = 1 := (out_len hA.perm).trans hn
  obtain ⟨e1, hx0⟩ := Answered.cells hA
  obtain ⟨g, o, rfl, hx⟩ := hx0 (by omega)
  obtain ⟨rv, c0, hr⟩ := hx 0 (by omega)
  obtain ⟨k, hk, _, hrow⟩ := out_at hA.perm 0 (by omega)
  obtain ⟨s, hs, er⟩ := h.trow k hk
  obtain rfl : k = 0 := by omega
  rw [hrow, er] at hr
  obtain ⟨rb, off, cap, rfl, hc1, hc2, hx⟩ := hr.cells (by simp [rowOf])
  obtain ⟨x0, x1, x2⟩ := hx 0 (by simp [rowOf])
  have ea : (rowOf ([3].getD 0 0) 0 s)[0]'(by simp [rowOf]) = ⟨1, -7, ⟨#[]⟩⟩ := aOf_three
  rw [ea] at x0 x1 x2
  simp only [Nat.zero_mul, Nat.add_zero] at x0 x1 x2 c0
  rw [hlen] at e1
  subst e1
  exact ⟨g, o, lc, rb, off, cap, rfl, c0, ⟨hc1, hc2⟩, ⟨x0, x1, x2⟩, (((Touch.refl [] _).alloc _).trans (h.touch.trans t12)).kept.trans (hA.kept.mono (((Touch.refl [] _).alloc _).trans (h.touch.trans t12)).size)⟩

set_option maxRecDepth 20000 in
set_option maxHeartbeats 4000000 in
theorem lives_any (w : World) :
    Calls Tryz.prog 31 #[] w fun e w' => e = .returned (.bool true) ∧ Kept w.heap.size w w' := by
  have HT : Hid (∀ W : World, Calls Tryz.prog 30 #[.slice (some ⟨W.heap.size, 0, none⟩) 1 1] (W.alloc (.cells #[.int .i64 3] 3)) fun e w' => ∃ bk so sn sc, e = .returned (.agg #[.string nameT, .slice (some ⟨bk, 0, none⟩) 4 4, .slice so sn sc]) ∧ (∃ vs rows, Tabled (W.alloc (.cells #[.int .i64 3] 3)) w' [3] bk (.slice so sn sc) vs rows)) := fun W => by
    refine (table_any _ _ [3] (raw_three W)).mono ?_
    rintro e w' ⟨bk, sv, vs, rows, rfl, h⟩
    obtain ⟨so, sn, sc, rfl⟩ := h.list.slice
    exact ⟨bk, so, sn, sc, rfl, vs, rows, h⟩
  have HW : Hid (∀ W ko kn kc, Calls Tryz.prog 33 #[nodeV (.slice ko kn kc)] W fun e w' => ∃ gp, e = .returned (.slice (some ⟨gp, 0, none⟩) 2 2) ∧ PlanAt w' gp nameT (.slice ko kn kc) ∧ Touch [] W w') := fun W ko kn kc => with_any W ko kn kc
  unfold nodeV at HW
  have HWH : Hid (∀ n W, Calls Tryz.prog 61 #[.int .i64 n] W fun e w' => e = .returned (.agg #[.int .i64 1, .int .i64 n, .string ⟨#[]⟩]) ∧ Touch [] W w') := fun n W => by
    refine (whole_any n W).mono ?_
    rintro e w' ⟨rfl, hw⟩
    rw [hw]
    exact ⟨rfl, (Touch.refl [] _).alloc _⟩
  go_enter Tryz.func31, Tryz.ntmps31
  go_wp2_with (first | (go_at_call 30; refine (HT.out w).mono ?_; rintro e w1 ⟨bk, so, sn, sc, rfl, hTab⟩; have HTAB : Hid (∃ vs rows, Tabled (w.alloc (.cells #[.int .i64 3] 3)) w1 [3] bk (.slice so sn sc) vs rows) := hTab; clear hTab) | (go_at_call 33; refine (HW.out _ _ _ _).mono ?_; rintro e w2 ⟨gp, rfl, hP, hT⟩; have HPL : Hid (PlanAt w2 gp nameT (.slice (some ⟨w1.heap.size, 0, none⟩) 1 1)) := hP; have HT2 : Hid (Touch [] (w1.alloc (.cells #[.int .i64 1, .bool false, .bool false] 73)) w2) := hT; clear hP hT) | (go_at_call 32; refine (ask_one w w1 w2 bk gp so sn sc HTAB.out HPL.out HT2.out).mono ?_; rintro e w3 ⟨g, o, c, rb, off, cap, rfl, c0, hcap, ⟨x0, x1, x2⟩, hK⟩; have HKP : Hid (Kept w.heap.size w w3) := hK; clear hK; obtain ⟨k1, k2⟩ := hcap))
  have HC : Hid (∀ W, Touch [] w3 W → W.cell? ⟨g, o, none⟩ = some (.slice (some ⟨rb, off, none⟩) 4 cap) ∧ W.cell? ⟨rb, off, none⟩ = some (.int .i64 1) ∧ W.cell? ⟨rb, off + 1, none⟩ = some (.int .i64 (-7)) ∧ W.cell? ⟨rb, off + 1 + 1, none⟩ = some (.string ⟨#[]⟩)) := fun W t => ⟨cell_touch c0 t, cell_touch x0 t, cell_touch x1 t, cell_touch x2 t⟩
  go_region_held3 (fun w' => w'.cell? ⟨g, o, none⟩ = some (.slice (some ⟨rb, off, none⟩) 4 cap) ∧ w'.cell? ⟨rb, off, none⟩ = some (.int .i64 1) ∧ w'.cell? ⟨rb, off + 1, none⟩ = some (.int .i64 (-7)) ∧ w'.cell? ⟨rb, off + 1 + 1, none⟩ = some (.string ⟨#[]⟩)) (go_keep) (first | (go_at_call 61; refine (HWH.out _ _).mono ?_; rintro e w4 ⟨rfl, hT4⟩; have HT4 : Hid (Touch [] w3 w4) := ((Touch.refl [] _).drew).trans hT4; clear hT4; obtain ⟨y0, y1, y2, y3⟩ := HC.out w4 HT4.out))
  all_goals
    go_wp2
    go_ret
    exact ⟨by rfl, HKP.out.trans HT4.out.kept⟩
end Go.Proofs.YtjoinhljdbljaaaGreat
