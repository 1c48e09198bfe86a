/- A table while its rows come. The walk of table. -/
import Derived.Test.YtjoinhljdbljaaaGreatQryLToSdC
namespace Go.Proofs.YtjoinhljdbljaaaGreat
open Go.RowKit

def RawAt (w : World) (v : Value) (raw : List Int) : Prop :=
  (∀ x ∈ raw, I64 x) ∧ raw.length ≤ 9223372036854775807 ∧ ∃ ao cap, v = .slice ao raw.length cap ∧ (1 ≤ raw.length → ∃ b off, ao = some ⟨b, off, none⟩ ∧ ∀ j (h : j < raw.length), w.cell? ⟨b, off + j, none⟩ = some (.int .i64 raw[j]))

def aOf (r : Int) : V := if pickN r 7 = 0 then ⟨0, 0, ⟨#[]⟩⟩ else ⟨1, pickN r 20 - 10, ⟨#[]⟩⟩
def rowOf (r : Int) (i : Nat) (s : ByteArray) : List V := [aOf r, ⟨1, (i : Int), ⟨#[]⟩⟩, ⟨2, 0, s⟩, ⟨3, pickN r 2, ⟨#[]⟩⟩]
def TRow (raw : List Int) (i : Nat) (r : List V) : Prop := ∃ s : ByteArray, s.size ≤ 9 ∧ r = rowOf (raw.getD i 0) i s

def kindsC : Array Value := #[.int .i64 1, .int .i64 1, .int .i64 2, .int .i64 3]

/-- A table while its rows come. -/
structure TabSt (w wr : World) (b2 bk b3 : Nat) (raw : List Int) (sv : Value) (vs : List Value) (rows : List (List V)) : Prop where
  box : wr.heap[b3]? = some (.cells #[.string nameT, .slice (some ⟨bk, 0, none⟩) 4 4, sv] 70 (0, 0))
  res : wr.heap[b2]? = some (.cells #[.string ⟨#[]⟩, .slice none 0 0, .slice none 0 0] 70 (0, 0))
  kinds : wr.heap[bk]? = some (.cells kindsC 3 (0, 0))
  list : LOwn wr sv vs
  own : ∀ k, sv.ownBlock = some k → w.heap.size ≤ k
  len : vs.length = rows.length
  rowsAt : ∀ i (_ : i < vs.length) (_ : i < rows.length), RowAt wr vs[i] rows[i]
  trow : ∀ i (h : i < rows.length), TRow raw i rows[i]
  touch : Touch [] w wr

theorem TabSt.quiet {w wr wr' : World} {b2 bk b3 : Nat} {raw : List Int} {sv : Value} {vs : List Value} {rows : List (List V)} (h : TabSt w wr b2 bk b3 raw sv vs rows) (t : Touch [] wr wr') : TabSt w wr' b2 bk b3 raw sv vs rows :=
  ⟨t.tag0 _ _ _ _ h.box, t.tag0 _ _ _ _ h.res, t.tag0 _ _ _ _ h.kinds, h.list.keep (t.tag0 _), h.own, h.len, fun i a b => (h.rowsAt i a b).touch t, h.trow, h.touch.trans t⟩

theorem step_lst {ops : Array Oper} {o : Oper} {a : Act} {w : World} {K : Act → World → Prop} {Q : Exit → Act → World → Prop} {E : Prop} (hgd : o.guard = none) (s x : Operand)
    (ho : o.op = .call { callee := .builtin .append, args := #[s, x], argTypes := #[36, 36] }) (v : Value) (vs : List Value) (hs : a.eval s = v) (hown : LOwn w v vs)
    (ad : Addr) (y : Value) (c : Nat) (hx : a.eval x = .slice (some ad) 1 c) (hnews : w.cell? ad = some y) (hy : y.oneCell' = true) (hlen : vs.length ≤ 1000000000)
    (h : ∀ g cap w', LOwn w' (.slice (some ⟨g, 0, none⟩) (vs.length + 1) cap) (vs ++ [y]) → w.grownBy w' v.ownBlock → (v.ownBlock = some g ∨ g = w.heap.size) → g < w'.heap.size → K (a.put o.dst (.slice (some ⟨g, 0, none⟩) (vs.length + 1) cap)) w') :
    if Region.wanted o (yielded ops a.tmps) = true then Oper.wp Tryz.prog o a w K Q else E := by
  obtain ⟨i0, hi, hz0, hz1, hz2⟩ := info_parts info83
  refine step_append_lies w hgd s x 36 ho 0 83 i0 (.slice none 0 0) 1 24 Tryz.underlying36 hi hz0 hz1 hz2 rfl (by decide) v _ _ hs hown ad 1 c [y] hx (by simp) (fun j u hj => ?_) (by simpa using hy) (by decide) ?_ ?_ (Nat.zero_le _) _ rfl ?_
  · match j, hj with
    | 0, hj => simp at hj; subst hj; exact hnews
  · unfold maxLen; omega
  · omega
  · intro g cap w' h1 h2 h3 h4
    refine h g cap w' ?_ h2 h3 h4
    unfold LOwn
    rw [List.length_append]
    exact h1

theorem rowAt_new (W : World) (a b c d : V) : RowAt (W.alloc (.cells #[.int .i64 a.k, .int .i64 a.n, .string a.s, .int .i64 b.k, .int .i64 b.n, .string b.s, .int .i64 c.k, .int .i64 c.n, .string c.s, .int .i64 d.k, .int .i64 d.n, .string d.s] 85)) (.slice (some ⟨W.heap.size, 0, none⟩) 4 4) [a, b, c, d] := by
  refine ⟨_, _, rfl, by simp, by unfold maxLen; omega, fun _ => ⟨_, _, _, _, rfl, heap_alloc_new W _, fun i hi => ?_⟩⟩
  simp only [List.map_cons, List.map_nil, List.length_cons, List.length_nil] at hi
  match i, hi with
  | 0, _ => exact ⟨rfl, rfl, rfl⟩
  | 1, _ => exact ⟨rfl, rfl, rfl⟩
  | 2, _ => exact ⟨rfl, rfl, rfl⟩
  | 3, _ => exact ⟨rfl, rfl, rfl⟩

/-- The list of rows has grown: what else there is stays. -/
theorem TabSt.grown {w W w2 : World} {b2 bk b3 : Nat} {raw : List Int} {sv : Value} {vs : List Value} {rows : List (List V)} (h : TabSt w W b2 bk b3 raw sv vs rows) (t2 : Touch sv.ownBlock.toList W w2) : (∀ t, (83 : TypeId) ≠ t → KeepTag t W w2) ∧ Touch [] w w2 := by
  refine ⟨fun t ht => t2.tag (fun k hk cs f e => ?_), ⟨t2.os.trans h.touch.os, t2.tape.trans h.touch.tape, t2.output.trans h.touch.output, Nat.le_trans h.touch.size t2.size, fun k hk _ => ?_⟩⟩
  · obtain ⟨cs', h'⟩ := h.list.block k (by simpa using hk)
    rw [h'] at e
    simp only [Option.some.injEq, Obj.cells.injEq] at e
    exact ht e.2.1
  · rw [t2.block k (Nat.lt_of_lt_of_le hk h.touch.size) (fun e => ?_)]
    · exact h.touch.block k hk (by simp)
    · have := h.own k (by simpa using e)
      omega

/-- One more row. -/
theorem TabSt.push {w W w2 : World} {b2 bk b3 g cap : Nat} {raw : List Int} {sv rv : Value} {vs : List Value} {rows : List (List V)} {row : List V} (h : TabSt w W b2 bk b3 raw sv vs rows) (hr : RowAt W rv row) (ht : TRow raw rows.length row) (hO : LOwn w2 (.slice (some ⟨g, 0, none⟩) (vs.length + 1) cap) (vs ++ [rv])) (t2 : Touch sv.ownBlock.toList W w2) (hg : sv.ownBlock = some g ∨ g = W.heap.size) (h3 : w.heap.size ≤ b3) (hb2 : b2 ≠ b3) :
    TabSt w (w2.setCell ⟨b3, 2, none⟩ (.slice (some ⟨g, 0, none⟩) (vs.length + 1) cap)) b2 bk b3 raw (.slice (some ⟨g, 0, none⟩) (vs.length + 1) cap) (vs ++ [rv]) (rows ++ [row]) := by
  obtain ⟨k2, tw⟩ := h.grown t2
  have hB := k2 70 (by decide) _ _ _ h.box
  have t3 : Touch [b3] w2 (w2.setCell ⟨b3, 2, none⟩ (.slice (some ⟨g, 0, none⟩) (vs.length + 1) cap)) := (Touch.refl [b3] w2).setCell (p := ⟨b3, 2, none⟩) (by simp) _
  have n3 : ∀ t, (70 : TypeId) ≠ t → NoTag t w2 [b3] := fun t ht => notag_of hB ht
  have k85 := (k2 85 (by decide)).trans (t3.tag (n3 85 (by decide)))
  refine ⟨?_, ?_, t3.tag (n3 3 (by decide)) _ _ _ (k2 3 (by decide) _ _ _ h.kinds), hO.keep (t3.tag (n3 83 (by decide))), fun k hk => ?_, by simp [h.len], fun i a b => ?_, fun i hi => ?_, ⟨tw.os, tw.tape, tw.output, ?_, fun k hk _ => ?_⟩⟩
  · rw [heap_setCell_same w2 b3 2 _ 70 _ hB]; simp
  · rw [heap_setCell_other w2 _ b2 _ hb2]; exact k2 70 (by decide) _ _ _ h.res
  · simp [Value.ownBlock] at hk
    subst hk
    rcases hg with hg | hg
    · exact h.own _ hg
    · have := h.touch.size; omega
  · by_cases hi : i < vs.length
    · have := Sl3.keep (h.rowsAt i hi (by have := h.len; omega)) k85
      rw [List.getElem_append_left hi, List.getElem_append_left (by have := h.len; omega)]
      exact this
    · simp only [List.length_append, List.length_singleton] at a b
      have e : i = vs.length := by omega
      subst e
      have h1 : (vs ++ [rv])[vs.length]'(by simp) = rv := by simp
      have h2 : (rows ++ [row])[vs.length]'(by have := h.len; simp; omega) = row := by simp [h.len]
      rw [h1, h2]
      exact Sl3.keep hr k85
  · by_cases hi' : i < rows.length
    · rw [List.getElem_append_left hi']
      exact h.trow i hi'
    · simp only [List.length_append, List.length_singleton] at hi
      have e : i = rows.length := by omega
      subst e
      have h2 : (rows ++ [row])[rows.length]'(by simp) = row := by simp
      rw [h2]
      exact ht
  · exact Nat.le_trans tw.size t3.size
  · rw [t3.block k (Nat.lt_of_lt_of_le hk tw.size) (by simp; omega)]
    exact tw.block k hk (by simp)

/-- A table that is laid. -/
structure Tabled (w w' : World) (raw : List Int) (bk : Nat) (sv : Value) (vs : List Value) (rows : List (List V)) : Prop where
  kinds : w'.heap[bk]? = some (.cells kindsC 3 (0, 0))
  list : LOwn w' sv vs
  len : vs.length = rows.length
  rowsAt : ∀ i (_ : i < vs.length) (_ : i < rows.length), RowAt w' vs[i] rows[i]
  trow : ∀ i (h : i < rows.length), TRow raw i rows[i]
  num : rows.length = min raw.length 1000
  touch : Touch [] w w'

/-- The table is handed out. -/
theorem TabSt.done {w wr wr' : World} {b2 bk b3 : Nat} {raw : List Int} {sv : Value} {vs : List Value} {rows : List (List V)} (h : TabSt w wr b2 bk b3 raw sv vs rows) (t : Touch [b2] wr wr') (hb : w.heap.size ≤ b2) (hn : rows.length = min raw.length 1000) : Tabled w wr' raw bk sv vs rows := by
  have n : ∀ t, (70 : TypeId) ≠ t → NoTag t wr [b2] := fun t ht => notag_of h.res ht
  refine ⟨t.tag (n 3 (by decide)) _ _ _ h.kinds, h.list.keep (t.tag (n 83 (by decide))), h.len, fun i a b => Sl3.keep (h.rowsAt i a b) (t.tag (n 85 (by decide))), h.trow, hn, h.touch.more t (fun i hi => ?_)⟩
  simp at hi
  omega
end Go.Proofs.YtjoinhljdbljaaaGreat

namespace Go.Proofs.YtjoinhljdbljaaaGreat
open Go.RowKit

set_option maxRecDepth 8000 in
set_option maxHeartbeats 4000000 in
theorem table_any (w : World) (rv : Value) (raw : List Int) (h : RawAt w rv raw) :
    Calls Tryz.prog 30 #[rv] w fun e w' => ∃ bk sv vs rows, e = .returned (.agg #[.string nameT, .slice (some ⟨bk, 0, none⟩) 4 4, sv]) ∧ Tabled w w' raw bk sv vs rows := by
  obtain ⟨hI, hlen, ao, cap, rfl, hx⟩ := h
  have HI : Hid (∀ x ∈ raw, I64 x) := hI
  have HX : Hid (1 ≤ raw.length → ∃ b off, ao = some ⟨b, off, none⟩ ∧ ∀ j (h : j < raw.length), w.cell? ⟨b, off + j, none⟩ = some (.int .i64 raw[j])) := hx
  clear hI hx
  have HINIT : Hid (TabSt w (((w.alloc (.cells #[.string ⟨#[]⟩, .slice none 0 0, .slice none 0 0] 70)).alloc (.cells kindsC 3)).alloc (.cells #[.string nameT, .slice (some ⟨w.heap.size + 1, 0, none⟩) 4 4, .slice none 0 0] 70)) w.heap.size (w.heap.size + 1) (w.heap.size + 1 + 1) raw (.slice none 0 0) [] []) := by
    refine ⟨new3 _ _ _ _, ?_, ?_, ⟨rfl, .inl ⟨rfl, rfl⟩⟩, by simp [Value.ownBlock], rfl, fun i hi => by simp at hi, fun i hi => by simp at hi, (((Touch.refl [] _).alloc _).alloc _).alloc _⟩
    · exact (Below.heap_alloc _ _ _ (by simp only [World.size_alloc]; omega)).trans ((Below.heap_alloc _ _ _ (by simp)).trans (heap_alloc_new w _))
    · exact (Below.heap_alloc _ _ _ (by simp)).trans (new2 _ _ _)
  go_enter Tryz.func30, Tryz.ntmps30
  go_wp2
  go_loopw [4] (fun i wr => ∃ (k : Nat) (sv : Value) (vs : List Value) (rows : List (List V)), k ≤ raw.length ∧ k ≤ 1000 ∧ i = .int .i64 (k : Int) ∧ rows.length = k ∧ TabSt w wr w.heap.size (w.heap.size + 1) (w.heap.size + 1 + 1) raw sv vs rows) (fun i _ => 1000 - (intOf i).toNat)
  case atStart => exact ⟨0, _, [], [], by omega, by omega, rfl, rfl, HINIT.out⟩
  case round =>
    obtain ⟨k, sv, vs, rows, hk, hk2, rfl, hrl, hS⟩ := hrel
    have HS : Hid (TabSt w wr w.heap.size (w.heap.size + 1) (w.heap.size + 1 + 1) raw sv vs rows) := hS
    have HL : Hid (rows.length = k) := hrl
    obtain ⟨so, sn, sc, rfl⟩ := hS.list.slice
    clear hS hrl
    by_cases hlt : k < raw.length
    · by_cases hlt2 : k < 1000
      · obtain ⟨rb, off, rfl, hx⟩ := HX.out (by omega)
        have hrk := hx k hlt
        have hI := HI.out _ (List.getElem_mem hlt)
        have HG : Hid (raw.getD k 0 = raw[k]) := by rw [List.getD_eq_getElem?_getD, List.getElem?_eq_getElem hlt]; rfl
        generalize raw[k] = rk at *
        clear hx
        have HRK : Hid (∀ W, Touch [] w W → W.cell? ⟨rb, off + k, none⟩ = some (.int .i64 rk)) := fun W t => cell_touch hrk t
        clear hrk
        unfold I64 at hI
        have HP : Hid (∀ n W, (1 ≤ n ∧ n ≤ 1000) → Calls Tryz.prog 40 #[.int .i64 rk, .int .i64 n] W fun e w' => e = .returned (.int .i64 (pickN rk n)) ∧ w' = W) := fun n W h => pick_any rk n W hI.1 hI.2 h.1 h.2
        have HWH : Hid (∀ n W, Calls Tryz.prog 61 #[.int .i64 n] W fun e w' => e = .returned (.agg #[.int .i64 1, .int .i64 n, .string ⟨#[]⟩]) ∧ Touch [] W w') := fun n W => by
          refine (whole_any n W).mono ?_
          rintro e w' ⟨rfl, hw⟩
          rw [hw]
          exact ⟨rfl, (Touch.refl [] _).alloc _⟩
        have HWO : Hid (∀ W, Calls Tryz.prog 62 #[.int .i64 rk] W fun e w' => ∃ s : ByteArray, e = .returned (.string s) ∧ s.size ≤ 9 ∧ Touch [] W w') := fun W => word_any W rk hI
        obtain ⟨p0, p1⟩ := pickN_lt rk 20 (by omega)
        have c1 := HRK.out wr HS.out.touch
        by_cases hz : pickN rk 7 = 0
        · go_wp2_with (first | (go_at_call 40; refine (HP.out _ _ ⟨by omega, by omega⟩).mono ?_; rintro e w1 ⟨rfl, hw1⟩; rw [hw1]; clear hw1 w1) | (go_at_call 61; refine (HWH.out _ _).mono ?_; rintro e w2 ⟨rfl, hT2⟩; have c2 := cell_touch c1 hT2; have l2 : rb < w2.heap.size := lt_of_cell c2; have l3 : rb ≠ w2.heap.size := by omega))
          have hB5 : (w2.alloc (.cells #[.int .i64 0, .int .i64 0, .string ⟨#[]⟩] 85)).heap[w2.heap.size]? = some (.cells #[.int .i64 0, .int .i64 0, .string ⟨#[]⟩] 85 (0, 0)) := heap_alloc_new w2 _
          have HTW : Hid (Touch [] wr (w2.alloc (.cells #[.int .i64 0, .int .i64 0, .string ⟨#[]⟩] 85))) := hT2.alloc _
          have c3 := cell_touch c1 HTW.out
          have HA : Hid (aOf rk = ⟨0, 0, ⟨#[]⟩⟩) := by { unfold Hid aOf; rw [if_pos hz] }
          clear c2 l2 l3 hT2
          generalize w2.alloc (.cells #[.int .i64 0, .int .i64 0, .string ⟨#[]⟩] 85) = W at *
          generalize w2.heap.size = b5 at *
          have HB5 : Hid (W.heap[b5]? = some (.cells #[.int .i64 0, .int .i64 0, .string ⟨#[]⟩] 85 (0, 0))) := hB5
          have HT3 : Hid (TabSt w W w.heap.size (w.heap.size + 1) (w.heap.size + 1 + 1) raw (.slice so sn sc) vs rows) := HS.out.quiet HTW.out
          obtain ⟨y0, y1, y2⟩ := box3 HT3.out.box
          obtain ⟨z0, z1, z2⟩ := box3 hB5
          have HSK : Hid (∀ W', Touch [] W W' → W'.cell? ⟨w.heap.size + 1 + 1, 2, none⟩ = some (.slice so sn sc) ∧ W'.cell? ⟨b5, 0, none⟩ = some (.int .i64 0) ∧ W'.cell? ⟨b5, 1, none⟩ = some (.int .i64 0) ∧ W'.cell? ⟨b5, 2, none⟩ = some (.string ⟨#[]⟩) ∧ W'.cell? ⟨rb, off + k, none⟩ = some (.int .i64 rk)) := fun W' t => ⟨cell_touch y2 t, cell_touch z0 t, cell_touch z1 t, cell_touch z2 t, cell_touch c3 t⟩
          have HLV : Hid (vs.length = k) := by { have := HS.out.len; have := HL.out; unfold Hid; omega }
          refine wp_region_last (fun w' => w'.cell? ⟨w.heap.size + 1 + 1, 2, none⟩ = some (.slice so sn sc) ∧ w'.cell? ⟨b5, 0, none⟩ = some (.int .i64 0) ∧ w'.cell? ⟨b5, 1, none⟩ = some (.int .i64 0) ∧ w'.cell? ⟨b5, 2, none⟩ = some (.string ⟨#[]⟩) ∧ w'.cell? ⟨rb, off + k, none⟩ = some (.int .i64 rk)) (by kernel_rfl) rfl (lastOK_spec (by kernel_rfl)) (HSK.out _ ((Touch.refl [] _).drew)) (fun hHeld => ?_)
          simp only [List.pop_toArray, List.dropLast]
          generalize hQB : Behind Tryz.prog _ _ = QB
          have hpan : ∀ c (a : Act) d v w, QB (.panic c) (a.put d v) w → QB (.panic c) a w := by { rw [← hQB]; intro _ _ d _ _ h; cases d <;> exact h }
          have HQB : Hid (Behind Tryz.prog _ _ = QB) := hQB
          clear hQB y0 y1 y2 z0 z1 z2 hB5 c1 c3
          refine wpAnyH_take (i := 0) (v := .pointer (some ⟨w.heap.size + 1 + 1, 2, none⟩)) rfl (by kernel_rfl) (by kernel_rfl) (by kernel_rfl) (fun _ _ _ h => hpan _ _ _ _ _ h) (Or.inl ⟨by rfl, fun wz hz => ?_⟩) hHeld ?_
          · obtain ⟨hz0, hz1, hz2, hz3, hz4⟩ := hz
            go_simp
          simp only [Act.put, List.setIfInBounds_toArray]
          refine wpAnyH_take (i := 1) (v := .slice so sn sc) rfl (by kernel_rfl) (by kernel_rfl) (by kernel_rfl) (fun _ _ _ h => hpan _ _ _ _ _ h) (Or.inl ⟨by rfl, fun wz hz => ?_⟩) hHeld ?_
          · obtain ⟨hz0, hz1, hz2, hz3, hz4⟩ := hz
            go_simp
          simp only [Act.put]
          refine wpAnyH_take (i := 2) (v := .agg #[.int .i64 0, .int .i64 0, .string ⟨#[]⟩]) rfl (by kernel_rfl) (by kernel_rfl) (by kernel_rfl) (fun _ _ _ h => hpan _ _ _ _ _ h) (Or.inl ⟨by rfl, fun wz hz => ?_⟩) hHeld ?_
          · obtain ⟨hz0, hz1, hz2, hz3, hz4⟩ := hz
            go_simp
          simp only [Act.put]
          refine wpAnyH_take (i := 3) (v := .int .i64 (k : Int)) rfl (by kernel_rfl) (by kernel_rfl) (by kernel_rfl) (fun _ _ _ h => hpan _ _ _ _ _ h) (Or.inl ⟨by rfl, fun wz hz => ?_⟩) hHeld ?_
          · obtain ⟨hz0, hz1, hz2, hz3, hz4⟩ := hz
            go_simp
          simp only [Act.put]
          refine wpAnyH_take (i := 5) (v := .slice (some ⟨rb, off, none⟩) raw.length cap) rfl (by kernel_rfl) (by kernel_rfl) (by kernel_rfl) (fun _ _ _ h => hpan _ _ _ _ _ h) (Or.inl ⟨by rfl, fun wz hz => ?_⟩) hHeld ?_
          · obtain ⟨hz0, hz1, hz2, hz3, hz4⟩ := hz
            go_simp
          simp only [Act.put]
          refine wpAnyH_take (i := 6) (v := .int .i64 (k : Int)) rfl (by kernel_rfl) (by kernel_rfl) (by kernel_rfl) (fun _ _ _ h => hpan _ _ _ _ _ h) (Or.inl ⟨by rfl, fun wz hz => ?_⟩) hHeld ?_
          · obtain ⟨hz0, hz1, hz2, hz3, hz4⟩ := hz
            go_simp
          simp only [Act.put]
          refine wpAnyH_take (i := 7) (v := .pointer (some ⟨rb, off + k, none⟩)) rfl (by kernel_rfl) (by kernel_rfl) (by kernel_rfl) (fun _ _ _ h => hpan _ _ _ _ _ h) (Or.inl ⟨by rfl, fun wz hz => ?_⟩) hHeld ?_
          · obtain ⟨hz0, hz1, hz2, hz3, hz4⟩ := hz
            go_simp
          simp only [Act.put]
          refine wpAnyH_take (i := 8) (v := .int .i64 rk) rfl (by kernel_rfl) (by kernel_rfl) (by kernel_rfl) (fun _ _ _ h => hpan _ _ _ _ _ h) (Or.inl ⟨by rfl, fun wz hz => ?_⟩) hHeld ?_
          · obtain ⟨hz0, hz1, hz2, hz3, hz4⟩ := hz
            go_simp
          simp only [Act.put]
          refine wpAnyH_take (i := 11) (v := .slice (some ⟨rb, off, none⟩) raw.length cap) rfl (by kernel_rfl) (by kernel_rfl) (by kernel_rfl) (fun _ _ _ h => hpan _ _ _ _ _ h) (Or.inl ⟨by rfl, fun wz hz => ?_⟩) hHeld ?_
          · obtain ⟨hz0, hz1, hz2, hz3, hz4⟩ := hz
            go_simp
          simp only [Act.put]
          refine wpAnyH_take (i := 12) (v := .int .i64 (k : Int)) rfl (by kernel_rfl) (by kernel_rfl) (by kernel_rfl) (fun _ _ _ h => hpan _ _ _ _ _ h) (Or.inl ⟨by rfl, fun wz hz => ?_⟩) hHeld ?_
          · obtain ⟨hz0, hz1, hz2, hz3, hz4⟩ := hz
            go_simp
          simp only [Act.put]
          refine wpAnyH_take (i := 13) (v := .pointer (some ⟨rb, off + k, none⟩)) rfl (by kernel_rfl) (by kernel_rfl) (by kernel_rfl) (fun _ _ _ h => hpan _ _ _ _ _ h) (Or.inl ⟨by rfl, fun wz hz => ?_⟩) hHeld ?_
          · obtain ⟨hz0, hz1, hz2, hz3, hz4⟩ := hz
            go_simp
          simp only [Act.put]
          refine wpAnyH_take (i := 14) (v := .int .i64 rk) rfl (by kernel_rfl) (by kernel_rfl) (by kernel_rfl) (fun _ _ _ h => hpan _ _ _ _ _ h) (Or.inl ⟨by rfl, fun wz hz => ?_⟩) hHeld ?_
          · obtain ⟨hz0, hz1, hz2, hz3, hz4⟩ := hz
            go_simp
          simp only [Act.put]
          refine wpAnyH_ready (rs := [4]) (by kernel_rfl) (by simp) (AllReadyH.cons rfl (fun K hK => ?_) AllReadyH.nil)
          go_simp
          refine (HWH.out _ _).mono ?_
          rintro e w3 ⟨rfl, hT3⟩
          have HT4 : Hid (Touch [] W w3) := ((Touch.refl [] _).drew).trans hT3
          refine hK.out _ _ (HSK.out _ HT4.out) (fun hHeld3 => ?_)
          clear hK K hT3 hHeld
          refine wpAnyH_ready (rs := [9]) (by kernel_rfl) (by simp) (AllReadyH.cons rfl (fun K hK => ?_) AllReadyH.nil)
          go_simp
          refine (HWO.out _).mono ?_
          rintro e w4 ⟨s, rfl, hs9, hT5⟩
          have HT5 : Hid (Touch [] W w4) := HT4.out.trans hT5
          refine hK.out _ _ (HSK.out _ HT5.out) (fun hHeld4 => ?_)
          clear hK K hT5 hHeld3
          refine wpAnyH_take (i := 10) (v := .agg #[.int .i64 2, .int .i64 0, .string s]) rfl (by kernel_rfl) (by kernel_rfl) (by kernel_rfl) (fun _ _ _ h => hpan _ _ _ _ _ h) (Or.inl ⟨by rfl, fun wz hz => ?_⟩) hHeld4 ?_
          · obtain ⟨hz0, hz1, hz2, hz3, hz4⟩ := hz
            go_simp
          simp only [Act.put, List.setIfInBounds_toArray]
          refine wpAnyH_ready (rs := [15]) (by kernel_rfl) (by simp) (AllReadyH.cons rfl (fun K hK => ?_) AllReadyH.nil)
          go_simp
          refine (HP.out _ _ ⟨by omega, by omega⟩).mono ?_
          rintro e w5 ⟨rfl, hw5⟩
          rw [hw5]
          clear hw5 w5
          refine hK.out _ _ hHeld4 (fun hHeld5 => ?_)
          clear hK K
          refine wpAnyH_take (i := 16) (v := .agg #[.int .i64 3, .int .i64 (pickN rk 2), .string ⟨#[]⟩]) rfl (by kernel_rfl) (by kernel_rfl) (by kernel_rfl) (fun _ _ _ h => hpan _ _ _ _ _ h) (Or.inl ⟨by rfl, fun wz hz => ?_⟩) hHeld5 ?_
          · obtain ⟨hz0, hz1, hz2, hz3, hz4⟩ := hz
            go_simp
          simp only [Act.put, List.setIfInBounds_toArray]
          refine wpAnyH_ready (rs := [17]) (by kernel_rfl) (by simp) (AllReadyH.cons rfl (fun K hK => ?_) AllReadyH.nil)
          go_simp
          refine hK.out _ _ (HSK.out _ (HT5.out.alloc _)) (fun hHeld6 => ?_)
          clear hK K hHeld4 hHeld5
          refine wpAnyH_ready (rs := [18]) (by kernel_rfl) (by simp) (AllReadyH.cons rfl (fun K hK => ?_) AllReadyH.nil)
          go_simp
          refine hK.out _ _ (HSK.out _ ((HT5.out.alloc _).alloc _)) (fun hHeld7 => ?_)
          clear hK K hHeld6
          have HW6 : Hid (TabSt w ((w4.alloc (.cells #[.int .i64 0, .int .i64 0, .string ⟨#[]⟩, .int .i64 1, .int .i64 (k : Int), .string ⟨#[]⟩, .int .i64 2, .int .i64 0, .string s, .int .i64 3, .int .i64 (pickN rk 2), .string ⟨#[]⟩] 85)).alloc (.cells #[.slice (some ⟨w4.heap.size, 0, none⟩) 4 4] 83)) w.heap.size (w.heap.size + 1) (w.heap.size + 1 + 1) raw (.slice so sn sc) vs rows) := HT3.out.quiet ((HT5.out.alloc _).alloc _)
          have HR6 : Hid (RowAt ((w4.alloc (.cells #[.int .i64 0, .int .i64 0, .string ⟨#[]⟩, .int .i64 1, .int .i64 (k : Int), .string ⟨#[]⟩, .int .i64 2, .int .i64 0, .string s, .int .i64 3, .int .i64 (pickN rk 2), .string ⟨#[]⟩] 85)).alloc (.cells #[.slice (some ⟨w4.heap.size, 0, none⟩) 4 4] 83)) (.slice (some ⟨w4.heap.size, 0, none⟩) 4 4) (rowOf rk k s)) := by { unfold Hid rowOf; rw [HA.out]; exact RowAt.touch (rowAt_new w4 ⟨0, 0, ⟨#[]⟩⟩ ⟨1, (k : Int), ⟨#[]⟩⟩ ⟨2, 0, s⟩ ⟨3, pickN rk 2, ⟨#[]⟩⟩) ((Touch.refl [] _).alloc _) }
          have HB6 : Hid (((w4.alloc (.cells #[.int .i64 0, .int .i64 0, .string ⟨#[]⟩, .int .i64 1, .int .i64 (k : Int), .string ⟨#[]⟩, .int .i64 2, .int .i64 0, .string s, .int .i64 3, .int .i64 (pickN rk 2), .string ⟨#[]⟩] 85)).alloc (.cells #[.slice (some ⟨w4.heap.size, 0, none⟩) 4 4] 83)).heap[b5]? = some (.cells #[.int .i64 0, .int .i64 0, .string ⟨#[]⟩] 85 (0, 0))) := ((HT5.out.alloc _).alloc _).tag0 85 _ _ _ HB5.out
          have HC6 : Hid (((w4.alloc (.cells #[.int .i64 0, .int .i64 0, .string ⟨#[]⟩, .int .i64 1, .int .i64 (k : Int), .string ⟨#[]⟩, .int .i64 2, .int .i64 0, .string s, .int .i64 3, .int .i64 (pickN rk 2), .string ⟨#[]⟩] 85)).alloc (.cells #[.slice (some ⟨w4.heap.size, 0, none⟩) 4 4] 83)).cell? ⟨w4.heap.size + 1, 0, none⟩ = some (.slice (some ⟨w4.heap.size, 0, none⟩) 4 4)) := boxOne (new2 _ _ _)
          have HZ6 : Hid (((w4.alloc (.cells #[.int .i64 0, .int .i64 0, .string ⟨#[]⟩, .int .i64 1, .int .i64 (k : Int), .string ⟨#[]⟩, .int .i64 2, .int .i64 0, .string s, .int .i64 3, .int .i64 (pickN rk 2), .string ⟨#[]⟩] 85)).alloc (.cells #[.slice (some ⟨w4.heap.size, 0, none⟩) 4 4] 83)).heap.size = w4.heap.size + 1 + 1) := by { unfold Hid; simp }
          generalize (w4.alloc (.cells #[.int .i64 0, .int .i64 0, .string ⟨#[]⟩, .int .i64 1, .int .i64 (k : Int), .string ⟨#[]⟩, .int .i64 2, .int .i64 0, .string s, .int .i64 3, .int .i64 (pickN rk 2), .string ⟨#[]⟩] 85)).alloc (.cells #[.slice (some ⟨w4.heap.size, 0, none⟩) 4 4] 83) = W6 at *
          generalize w4.heap.size = H at *
          refine wpAnyH_ready (rs := [19]) (by kernel_rfl) (by simp) (AllReadyH.cons rfl (fun K hK => ?_) AllReadyH.nil)
          refine step_lst rfl (.tmp 33) (.tmp 50) rfl (.slice so sn sc) vs rfl HW6.out.list ⟨H + 1, 0, none⟩ (.slice (some ⟨H, 0, none⟩) 4 4) 1 rfl HC6.out rfl (by have := HLV.out; omega) ?_
          intro g cap2 w7 q1 q2 q3 q4
          have t7 : Touch (Value.slice so sn sc).ownBlock.toList W6 w7 := (Touch.refl _ _).grown q2 (fun k hk => by simp [hk])
          obtain ⟨k7, tw7⟩ := HW6.out.grown t7
          have hB7 := k7 70 (by decide) _ _ _ HW6.out.box
          obtain ⟨y0, y1, y2⟩ := box3 hB7
          obtain ⟨z0, z1, z2⟩ := box3 (k7 85 (by decide) _ _ _ HB6.out)
          have f7 : w7.frozen? ⟨w.heap.size + 1 + 1, 2, none⟩ = false := by { simp [World.frozen?, hB7] }
          have HFIN : Hid (TabSt w (w7.setCell ⟨w.heap.size + 1 + 1, 2, none⟩ (.slice (some ⟨g, 0, none⟩) (vs.length + 1) cap2)) w.heap.size (w.heap.size + 1) (w.heap.size + 1 + 1) raw (.slice (some ⟨g, 0, none⟩) (vs.length + 1) cap2) (vs ++ [.slice (some ⟨H, 0, none⟩) 4 4]) (rows ++ [rowOf rk k s])) := HW6.out.push HR6.out (by rw [HL.out]; exact ⟨s, hs9, by rw [HG.out]⟩) q1 t7 q3 (by omega) (by omega)
          refine hK.out _ _ ⟨y2, z0, z1, z2, HRK.out w7 tw7⟩ (fun hHeld8 => ?_)
          clear hK K hHeld7 t7 k7 q1 q2 q3
          simp only [Act.put, List.setIfInBounds_toArray]
          refine wpAnyH_take (i := 20) (v := .pointer (some ⟨w.heap.size + 1 + 1, 2, none⟩)) rfl (by kernel_rfl) (by kernel_rfl) (by kernel_rfl) (fun _ _ _ h => hpan _ _ _ _ _ h) (Or.inl ⟨by rfl, fun wz hz => ?_⟩) hHeld8 ?_
          · obtain ⟨hz0, hz1, hz2, hz3, hz4⟩ := hz
            go_simp
          simp only [Act.put]
          refine wpAnyH_done (by kernel_rfl) ?_ _
          rw [← HQB.out]
          unfold Behind
          change Oper.wp _ _ _ _ _ _
          go_simp
          go_wp2
          exact ⟨⟨k + 1, _, _, _, by omega, by omega, by simp, by simp [HL.out], HFIN.out⟩, by simp only [intOf]; omega⟩
        · go_wp2_with (first | (go_at_call 40; refine (HP.out _ _ ⟨by omega, by omega⟩).mono ?_; rintro e w1 ⟨rfl, hw1⟩; rw [hw1]; clear hw1 w1) | (go_at_call 61; refine (HWH.out _ _).mono ?_; rintro e w2 ⟨rfl, hT2⟩; have c2 := cell_touch c1 hT2; have l2 : rb < w2.heap.size := lt_of_cell c2; have l3 : rb ≠ w2.heap.size := by omega))
          have hB5 : (w2.alloc (.cells #[.int .i64 1, .int .i64 (pickN rk 20 - 10), .string ⟨#[]⟩] 85)).heap[w2.heap.size]? = some (.cells #[.int .i64 1, .int .i64 (pickN rk 20 - 10), .string ⟨#[]⟩] 85 (0, 0)) := heap_alloc_new w2 _
          have HTW : Hid (Touch [] wr (w2.alloc (.cells #[.int .i64 1, .int .i64 (pickN rk 20 - 10), .string ⟨#[]⟩] 85))) := hT2.alloc _
          have c3 := cell_touch c1 HTW.out
          have HA : Hid (aOf rk = ⟨1, (pickN rk 20 - 10), ⟨#[]⟩⟩) := by { unfold Hid aOf; rw [if_neg hz] }
          clear c2 l2 l3 hT2
          generalize w2.alloc (.cells #[.int .i64 1, .int .i64 (pickN rk 20 - 10), .string ⟨#[]⟩] 85) = W at *
          generalize w2.heap.size = b5 at *
          have HB5 : Hid (W.heap[b5]? = some (.cells #[.int .i64 1, .int .i64 (pickN rk 20 - 10), .string ⟨#[]⟩] 85 (0, 0))) := hB5
          have HT3 : Hid (TabSt w W w.heap.size (w.heap.size + 1) (w.heap.size + 1 + 1) raw (.slice so sn sc) vs rows) := HS.out.quiet HTW.out
          obtain ⟨y0, y1, y2⟩ := box3 HT3.out.box
          obtain ⟨z0, z1, z2⟩ := box3 hB5
          have HSK : Hid (∀ W', Touch [] W W' → W'.cell? ⟨w.heap.size + 1 + 1, 2, none⟩ = some (.slice so sn sc) ∧ W'.cell? ⟨b5, 0, none⟩ = some (.int .i64 1) ∧ W'.cell? ⟨b5, 1, none⟩ = some (.int .i64 (pickN rk 20 - 10)) ∧ W'.cell? ⟨b5, 2, none⟩ = some (.string ⟨#[]⟩) ∧ W'.cell? ⟨rb, off + k, none⟩ = some (.int .i64 rk)) := fun W' t => ⟨cell_touch y2 t, cell_touch z0 t, cell_touch z1 t, cell_touch z2 t, cell_touch c3 t⟩
          have HLV : Hid (vs.length = k) := by { have := HS.out.len; have := HL.out; unfold Hid; omega }
          refine wp_region_last (fun w' => w'.cell? ⟨w.heap.size + 1 + 1, 2, none⟩ = some (.slice so sn sc) ∧ w'.cell? ⟨b5, 0, none⟩ = some (.int .i64 1) ∧ w'.cell? ⟨b5, 1, none⟩ = some (.int .i64 (pickN rk 20 - 10)) ∧ w'.cell? ⟨b5, 2, none⟩ = some (.string ⟨#[]⟩) ∧ w'.cell? ⟨rb, off + k, none⟩ = some (.int .i64 rk)) (by kernel_rfl) rfl (lastOK_spec (by kernel_rfl)) (HSK.out _ ((Touch.refl [] _).drew)) (fun hHeld => ?_)
          simp only [List.pop_toArray, List.dropLast]
          generalize hQB : Behind Tryz.prog _ _ = QB
          have hpan : ∀ c (a : Act) d v w, QB (.panic c) (a.put d v) w → QB (.panic c) a w := by { rw [← hQB]; intro _ _ d _ _ h; cases d <;> exact h }
          have HQB : Hid (Behind Tryz.prog _ _ = QB) := hQB
          clear hQB y0 y1 y2 z0 z1 z2 hB5 c1 c3
          refine wpAnyH_take (i := 0) (v := .pointer (some ⟨w.heap.size + 1 + 1, 2, none⟩)) rfl (by kernel_rfl) (by kernel_rfl) (by kernel_rfl) (fun _ _ _ h => hpan _ _ _ _ _ h) (Or.inl ⟨by rfl, fun wz hz => ?_⟩) hHeld ?_
          · obtain ⟨hz0, hz1, hz2, hz3, hz4⟩ := hz
            go_simp
          simp only [Act.put, List.setIfInBounds_toArray]
          refine wpAnyH_take (i := 1) (v := .slice so sn sc) rfl (by kernel_rfl) (by kernel_rfl) (by kernel_rfl) (fun _ _ _ h => hpan _ _ _ _ _ h) (Or.inl ⟨by rfl, fun wz hz => ?_⟩) hHeld ?_
          · obtain ⟨hz0, hz1, hz2, hz3, hz4⟩ := hz
            go_simp
          simp only [Act.put]
          refine wpAnyH_take (i := 2) (v := .agg #[.int .i64 1, .int .i64 (pickN rk 20 - 10), .string ⟨#[]⟩]) rfl (by kernel_rfl) (by kernel_rfl) (by kernel_rfl) (fun _ _ _ h => hpan _ _ _ _ _ h) (Or.inl ⟨by rfl, fun wz hz => ?_⟩) hHeld ?_
          · obtain ⟨hz0, hz1, hz2, hz3, hz4⟩ := hz
            go_simp
          simp only [Act.put]
          refine wpAnyH_take (i := 3) (v := .int .i64 (k : Int)) rfl (by kernel_rfl) (by kernel_rfl) (by kernel_rfl) (fun _ _ _ h => hpan _ _ _ _ _ h) (Or.inl ⟨by rfl, fun wz hz => ?_⟩) hHeld ?_
          · obtain ⟨hz0, hz1, hz2, hz3, hz4⟩ := hz
            go_simp
          simp only [Act.put]
          refine wpAnyH_take (i := 5) (v := .slice (some ⟨rb, off, none⟩) raw.length cap) rfl (by kernel_rfl) (by kernel_rfl) (by kernel_rfl) (fun _ _ _ h => hpan _ _ _ _ _ h) (Or.inl ⟨by rfl, fun wz hz => ?_⟩) hHeld ?_
          · obtain ⟨hz0, hz1, hz2, hz3, hz4⟩ := hz
            go_simp
          simp only [Act.put]
          refine wpAnyH_take (i := 6) (v := .int .i64 (k : Int)) rfl (by kernel_rfl) (by kernel_rfl) (by kernel_rfl) (fun _ _ _ h => hpan _ _ _ _ _ h) (Or.inl ⟨by rfl, fun wz hz => ?_⟩) hHeld ?_
          · obtain ⟨hz0, hz1, hz2, hz3, hz4⟩ := hz
            go_simp
          simp only [Act.put]
          refine wpAnyH_take (i := 7) (v := .pointer (some ⟨rb, off + k, none⟩)) rfl (by kernel_rfl) (by kernel_rfl) (by kernel_rfl) (fun _ _ _ h => hpan _ _ _ _ _ h) (Or.inl ⟨by rfl, fun wz hz => ?_⟩) hHeld ?_
          · obtain ⟨hz0, hz1, hz2, hz3, hz4⟩ := hz
            go_simp
          simp only [Act.put]
          refine wpAnyH_take (i := 8) (v := .int .i64 rk) rfl (by kernel_rfl) (by kernel_rfl) (by kernel_rfl) (fun _ _ _ h => hpan _ _ _ _ _ h) (Or.inl ⟨by rfl, fun wz hz => ?_⟩) hHeld ?_
          · obtain ⟨hz0, hz1, hz2, hz3, hz4⟩ := hz
            go_simp
          simp only [Act.put]
          refine wpAnyH_take (i := 11) (v := .slice (some ⟨rb, off, none⟩) raw.length cap) rfl (by kernel_rfl) (by kernel_rfl) (by kernel_rfl) (fun _ _ _ h => hpan _ _ _ _ _ h) (Or.inl ⟨by rfl, fun wz hz => ?_⟩) hHeld ?_
          · obtain ⟨hz0, hz1, hz2, hz3, hz4⟩ := hz
            go_simp
          simp only [Act.put]
          refine wpAnyH_take (i := 12) (v := .int .i64 (k : Int)) rfl (by kernel_rfl) (by kernel_rfl) (by kernel_rfl) (fun _ _ _ h => hpan _ _ _ _ _ h) (Or.inl ⟨by rfl, fun wz hz => ?_⟩) hHeld ?_
          · obtain ⟨hz0, hz1, hz2, hz3, hz4⟩ := hz
            go_simp
          simp only [Act.put]
          refine wpAnyH_take (i := 13) (v := .pointer (some ⟨rb, off + k, none⟩)) rfl (by kernel_rfl) (by kernel_rfl) (by kernel_rfl) (fun _ _ _ h => hpan _ _ _ _ _ h) (Or.inl ⟨by rfl, fun wz hz => ?_⟩) hHeld ?_
          · obtain ⟨hz0, hz1, hz2, hz3, hz4⟩ := hz
            go_simp
          simp only [Act.put]
          refine wpAnyH_take (i := 14) (v := .int .i64 rk) rfl (by kernel_rfl) (by kernel_rfl) (by kernel_rfl) (fun _ _ _ h => hpan _ _ _ _ _ h) (Or.inl ⟨by rfl, fun wz hz => ?_⟩) hHeld ?_
          · obtain ⟨hz0, hz1, hz2, hz3, hz4⟩ := hz
            go_simp
          simp only [Act.put]
          refine wpAnyH_ready (rs := [4]) (by kernel_rfl) (by simp) (AllReadyH.cons rfl (fun K hK => ?_) AllReadyH.nil)
          go_simp
          refine (HWH.out _ _).mono ?_
          rintro e w3 ⟨rfl, hT3⟩
          have HT4 : Hid (Touch [] W w3) := ((Touch.refl [] _).drew).trans hT3
          refine hK.out _ _ (HSK.out _ HT4.out) (fun hHeld3 => ?_)
          clear hK K hT3 hHeld
          refine wpAnyH_ready (rs := [9]) (by kernel_rfl) (by simp) (AllReadyH.cons rfl (fun K hK => ?_) AllReadyH.nil)
          go_simp
          refine (HWO.out _).mono ?_
          rintro e w4 ⟨s, rfl, hs9, hT5⟩
          have HT5 : Hid (Touch [] W w4) := HT4.out.trans hT5
          refine hK.out _ _ (HSK.out _ HT5.out) (fun hHeld4 => ?_)
          clear hK K hT5 hHeld3
          refine wpAnyH_take (i := 10) (v := .agg #[.int .i64 2, .int .i64 0, .string s]) rfl (by kernel_rfl) (by kernel_rfl) (by kernel_rfl) (fun _ _ _ h => hpan _ _ _ _ _ h) (Or.inl ⟨by rfl, fun wz hz => ?_⟩) hHeld4 ?_
          · obtain ⟨hz0, hz1, hz2, hz3, hz4⟩ := hz
            go_simp
          simp only [Act.put, List.setIfInBounds_toArray]
          refine wpAnyH_ready (rs := [15]) (by kernel_rfl) (by simp) (AllReadyH.cons rfl (fun K hK => ?_) AllReadyH.nil)
          go_simp
          refine (HP.out _ _ ⟨by omega, by omega⟩).mono ?_
          rintro e w5 ⟨rfl, hw5⟩
          rw [hw5]
          clear hw5 w5
          refine hK.out _ _ hHeld4 (fun hHeld5 => ?_)
          clear hK K
          refine wpAnyH_take (i := 16) (v := .agg #[.int .i64 3, .int .i64 (pickN rk 2), .string ⟨#[]⟩]) rfl (by kernel_rfl) (by kernel_rfl) (by kernel_rfl) (fun _ _ _ h => hpan _ _ _ _ _ h) (Or.inl ⟨by rfl, fun wz hz => ?_⟩) hHeld5 ?_
          · obtain ⟨hz0, hz1, hz2, hz3, hz4⟩ := hz
            go_simp
          simp only [Act.put, List.setIfInBounds_toArray]
          refine wpAnyH_ready (rs := [17]) (by kernel_rfl) (by simp) (AllReadyH.cons rfl (fun K hK => ?_) AllReadyH.nil)
          go_simp
          refine hK.out _ _ (HSK.out _ (HT5.out.alloc _)) (fun hHeld6 => ?_)
          clear hK K hHeld4 hHeld5
          refine wpAnyH_ready (rs := [18]) (by kernel_rfl) (by simp) (AllReadyH.cons rfl (fun K hK => ?_) AllReadyH.nil)
          go_simp
          refine hK.out _ _ (HSK.out _ ((HT5.out.alloc _).alloc _)) (fun hHeld7 => ?_)
          clear hK K hHeld6
          have HW6 : Hid (TabSt w ((w4.alloc (.cells #[.int .i64 1, .int .i64 (pickN rk 20 - 10), .string ⟨#[]⟩, .int .i64 1, .int .i64 (k : Int), .string ⟨#[]⟩, .int .i64 2, .int .i64 0, .string s, .int .i64 3, .int .i64 (pickN rk 2), .string ⟨#[]⟩] 85)).alloc (.cells #[.slice (some ⟨w4.heap.size, 0, none⟩) 4 4] 83)) w.heap.size (w.heap.size + 1) (w.heap.size + 1 + 1) raw (.slice so sn sc) vs rows) := HT3.out.quiet ((HT5.out.alloc _).alloc _)
          have HR6 : Hid (RowAt ((w4.alloc (.cells #[.int .i64 1, .int .i64 (pickN rk 20 - 10), .string ⟨#[]⟩, .int .i64 1, .int .i64 (k : Int), .string ⟨#[]⟩, .int .i64 2, .int .i64 0, .string s, .int .i64 3, .int .i64 (pickN rk 2), .string ⟨#[]⟩] 85)).alloc (.cells #[.slice (some ⟨w4.heap.size, 0, none⟩) 4 4] 83)) (.slice (some ⟨w4.heap.size, 0, none⟩) 4 4) (rowOf rk k s)) := by { unfold Hid rowOf; rw [HA.out]; exact RowAt.touch (rowAt_new w4 ⟨1, (pickN rk 20 - 10), ⟨#[]⟩⟩ ⟨1, (k : Int), ⟨#[]⟩⟩ ⟨2, 0, s⟩ ⟨3, pickN rk 2, ⟨#[]⟩⟩) ((Touch.refl [] _).alloc _) }
          have HB6 : Hid (((w4.alloc (.cells #[.int .i64 1, .int .i64 (pickN rk 20 - 10), .string ⟨#[]⟩, .int .i64 1, .int .i64 (k : Int), .string ⟨#[]⟩, .int .i64 2, .int .i64 0, .string s, .int .i64 3, .int .i64 (pickN rk 2), .string ⟨#[]⟩] 85)).alloc (.cells #[.slice (some ⟨w4.heap.size, 0, none⟩) 4 4] 83)).heap[b5]? = some (.cells #[.int .i64 1, .int .i64 (pickN rk 20 - 10), .string ⟨#[]⟩] 85 (0, 0))) := ((HT5.out.alloc _).alloc _).tag0 85 _ _ _ HB5.out
          have HC6 : Hid (((w4.alloc (.cells #[.int .i64 1, .int .i64 (pickN rk 20 - 10), .string ⟨#[]⟩, .int .i64 1, .int .i64 (k : Int), .string ⟨#[]⟩, .int .i64 2, .int .i64 0, .string s, .int .i64 3, .int .i64 (pickN rk 2), .string ⟨#[]⟩] 85)).alloc (.cells #[.slice (some ⟨w4.heap.size, 0, none⟩) 4 4] 83)).cell? ⟨w4.heap.size + 1, 0, none⟩ = some (.slice (some ⟨w4.heap.size, 0, none⟩) 4 4)) := boxOne (new2 _ _ _)
          have HZ6 : Hid (((w4.alloc (.cells #[.int .i64 1, .int .i64 (pickN rk 20 - 10), .string ⟨#[]⟩, .int .i64 1, .int .i64 (k : Int), .string ⟨#[]⟩, .int .i64 2, .int .i64 0, .string s, .int .i64 3, .int .i64 (pickN rk 2), .string ⟨#[]⟩] 85)).alloc (.cells #[.slice (some ⟨w4.heap.size, 0, none⟩) 4 4] 83)).heap.size = w4.heap.size + 1 + 1) := by { unfold Hid; simp }
          generalize (w4.alloc (.cells #[.int .i64 1, .int .i64 (pickN rk 20 - 10), .string ⟨#[]⟩, .int .i64 1, .int .i64 (k : Int), .string ⟨#[]⟩, .int .i64 2, .int .i64 0, .string s, .int .i64 3, .int .i64 (pickN rk 2), .string ⟨#[]⟩] 85)).alloc (.cells #[.slice (some ⟨w4.heap.size, 0, none⟩) 4 4] 83) = W6 at *
          generalize w4.heap.size = H at *
          refine wpAnyH_ready (rs := [19]) (by kernel_rfl) (by simp) (AllReadyH.cons rfl (fun K hK => ?_) AllReadyH.nil)
          refine step_lst rfl (.tmp 33) (.tmp 50) rfl (.slice so sn sc) vs rfl HW6.out.list ⟨H + 1, 0, none⟩ (.slice (some ⟨H, 0, none⟩) 4 4) 1 rfl HC6.out rfl (by have := HLV.out; omega) ?_
          intro g cap2 w7 q1 q2 q3 q4
          have t7 : Touch (Value.slice so sn sc).ownBlock.toList W6 w7 := (Touch.refl _ _).grown q2 (fun k hk => by simp [hk])
          obtain ⟨k7, tw7⟩ := HW6.out.grown t7
          have hB7 := k7 70 (by decide) _ _ _ HW6.out.box
          obtain ⟨y0, y1, y2⟩ := box3 hB7
          obtain ⟨z0, z1, z2⟩ := box3 (k7 85 (by decide) _ _ _ HB6.out)
          have f7 : w7.frozen? ⟨w.heap.size + 1 + 1, 2, none⟩ = false := by { simp [World.frozen?, hB7] }
          have HFIN : Hid (TabSt w (w7.setCell ⟨w.heap.size + 1 + 1, 2, none⟩ (.slice (some ⟨g, 0, none⟩) (vs.length + 1) cap2)) w.heap.size (w.heap.size + 1) (w.heap.size + 1 + 1) raw (.slice (some ⟨g, 0, none⟩) (vs.length + 1) cap2) (vs ++ [.slice (some ⟨H, 0, none⟩) 4 4]) (rows ++ [rowOf rk k s])) := HW6.out.push HR6.out (by rw [HL.out]; exact ⟨s, hs9, by rw [HG.out]⟩) q1 t7 q3 (by omega) (by omega)
          refine hK.out _ _ ⟨y2, z0, z1, z2, HRK.out w7 tw7⟩ (fun hHeld8 => ?_)
          clear hK K hHeld7 t7 k7 q1 q2 q3
          simp only [Act.put, List.setIfInBounds_toArray]
          refine wpAnyH_take (i := 20) (v := .pointer (some ⟨w.heap.size + 1 + 1, 2, none⟩)) rfl (by kernel_rfl) (by kernel_rfl) (by kernel_rfl) (fun _ _ _ h => hpan _ _ _ _ _ h) (Or.inl ⟨by rfl, fun wz hz => ?_⟩) hHeld8 ?_
          · obtain ⟨hz0, hz1, hz2, hz3, hz4⟩ := hz
            go_simp
          simp only [Act.put]
          refine wpAnyH_done (by kernel_rfl) ?_ _
          rw [← HQB.out]
          unfold Behind
          change Oper.wp _ _ _ _ _ _
          go_simp
          go_wp2
          exact ⟨⟨k + 1, _, _, _, by omega, by omega, by simp, by simp [HL.out], HFIN.out⟩, by simp only [intOf]; omega⟩
      · have hk3 : k = 1000 := by omega
        obtain ⟨y0, y1, y2⟩ := box3 HS.out.box
        obtain ⟨z0, z1, z2⟩ := box3 HS.out.res
        have f0 : ∀ i, wr.frozen? ⟨w.heap.size, i, none⟩ = false := fun i => by simp [World.frozen?, HS.out.res]
        have f1 := f0 0
        have f2 := f0 1
        have f3 := f0 2
        go_wp2
        have hT8 : Touch [w.heap.size] wr (((wr.setCell ⟨w.heap.size, 0, none⟩ (.string nameT)).setCell ⟨w.heap.size, 1, none⟩ (.slice (some ⟨w.heap.size + 1, 0, none⟩) 4 4)).setCell ⟨w.heap.size, 2, none⟩ (.slice so sn sc)) := (((Touch.refl [w.heap.size] _).setCell (by simp) _).setCell (by simp) _).setCell (by simp) _
        exact bodyPost_ret (v := .agg #[.string nameT, .slice (some ⟨w.heap.size + 1, 0, none⟩) 4 4, .slice so sn sc]) (by simp [results, Tryz.results30, go_sem, z0, z1, z2]) rfl ⟨_, _, vs, rows, rfl, HS.out.done hT8 (Nat.le_refl _) (by rw [HL.out]; omega)⟩
    · have hk3 : k = raw.length := by omega
      obtain ⟨y0, y1, y2⟩ := box3 HS.out.box
      obtain ⟨z0, z1, z2⟩ := box3 HS.out.res
      have f0 : ∀ i, wr.frozen? ⟨w.heap.size, i, none⟩ = false := fun i => by simp [World.frozen?, HS.out.res]
      have f1 := f0 0
      have f2 := f0 1
      have f3 := f0 2
      go_wp2
      have hT8 : Touch [w.heap.size] wr (((wr.setCell ⟨w.heap.size, 0, none⟩ (.string nameT)).setCell ⟨w.heap.size, 1, none⟩ (.slice (some ⟨w.heap.size + 1, 0, none⟩) 4 4)).setCell ⟨w.heap.size, 2, none⟩ (.slice so sn sc)) := (((Touch.refl [w.heap.size] _).setCell (by simp) _).setCell (by simp) _).setCell (by simp) _
      exact bodyPost_ret (v := .agg #[.string nameT, .slice (some ⟨w.heap.size + 1, 0, none⟩) 4 4, .slice so sn sc]) (by simp [results, Tryz.results30, go_sem, z0, z1, z2]) rfl ⟨_, _, vs, rows, rfl, HS.out.done hT8 (Nat.le_refl _) (by rw [HL.out]; omega)⟩
end Go.Proofs.YtjoinhljdbljaaaGreat
