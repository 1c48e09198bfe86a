/- Lists of numbers that grow. The columns that a Group gives. The walks of grouped and sums. The walk of the document's sums. -/
import Derived.Test.YtjoinhljdbljaaaGreatOValAToOValC
import Derived.Laws.OwnMore
namespace Go.Proofs.YtjoinhljdbljaaaGreat.Old
open Go.RowKit

theorem info3 : (Tryz.prog.info? 3).map (fun i => (i.zero, i.size, i.bytes)) = some (some (.int .i64 0), 1, 8) := by kernel_rfl
def OwnI (w : World) (base : Nat) (v : Value) (l : List Int) : Prop := w.ownsRow base 3 1 v l.length (ints l)
theorem ints_len (l : List Int) : (ints l).length = l.length := by simp [ints]
theorem ints_one (l : List Int) : ∀ u ∈ ints l, u.oneCell' = true := by
  intro u hu
  simp only [ints, List.mem_map] at hu
  obtain ⟨n, _, rfl⟩ := hu
  rfl
theorem ints_app (a b : List Int) : ints (a ++ b) = ints a ++ ints b := by simp [ints]

theorem irow_append {ops : Array Oper} {rest : List Oper} {o : Oper} {a : Act} {Q : Exit → Act → World → Prop} {w : World} (hgd : o.guard = none) (s x : Operand)
    (ho : o.op = .call { callee := .builtin .append, args := #[s, x], argTypes := #[37, 37] }) (base : Nat) (v : Value) (l : List Int) (hs : a.eval s = v) (hown : OwnI w base v l)
    (ad : Addr) (m : List Int) (c : Nat) (hx : a.eval x = .slice (some ad) m.length c) (hnews : ∀ j u, (ints m)[j]? = some u → w.cell? (ad.add j) = some u) (hlen : l.length + m.length ≤ 4000000) (hbase : base ≤ w.heap.size)
    (h : ∀ v' w', OwnI w' base v' (l ++ m) → Below base w w' → wpList Tryz.prog ops Q rest (a.put o.dst v') w') : wpList Tryz.prog ops Q (o :: rest) a w := by
  obtain ⟨i0, hi, hz0, hz1, hz2⟩ := info_parts info3
  refine wpList_append_own _ hgd s x 37 ho base 3 i0 (.int .i64 0) 1 8 Tryz.underlying37 hi hz0 hz1 hz2 rfl (by decide) v _ _ hs hown ad m.length c (ints m) hx (by simp [ints]) hnews (ints_one m) ?_ ?_ hbase ?_
  · unfold maxLen; omega
  · omega
  · intro v' w' h1 h2 _
    refine h v' w' ?_ ((Below.refl _ _).grown h2 hbase fun k hk => (World.ownsRow.lt hown k hk).1)
    unfold OwnI
    rw [List.length_append, ints_app]
    exact h1

theorem OwnI.in {w : World} {base : Nat} {v : Value} {l : List Int} (h : OwnI w base v l) : IntsIn w [] v l := by
  rcases h.2 with ⟨rfl, h0⟩ | ⟨g, cap, cur, rfl, _, hg, hc, hm, hs, ht⟩
  · exact ⟨none, 0, by rw [h0], by omega, by unfold maxLen; omega, by simp [ints], fun hn => by omega⟩
  · refine ⟨_, cap, rfl, hc, hm, by simp [ints], fun hn => ⟨g, 0, rfl, by simp, fun j u hj => ?_⟩⟩
    rw [← ht, List.getElem?_take] at hj
    split at hj
    · simp only [Nat.zero_add]
      simp only [World.cell?, hg]
      simpa using hj
    · cases hj
theorem OwnI.inF {w : World} {base : Nat} {v : Value} {l : List Int} (h : OwnI w base v l) {F : List Nat} (hF : ∀ k ∈ F, k < base) : IntsIn w F v l := by
  rcases h.2 with ⟨rfl, h0⟩ | ⟨g, cap, cur, rfl, hbg, hg, hc, hm, hs, ht⟩
  · exact ⟨none, 0, by rw [h0], by omega, by unfold maxLen; omega, by simp [ints], fun hn => by omega⟩
  · refine ⟨_, cap, rfl, hc, hm, by simp [ints], fun hn => ⟨g, 0, rfl, fun hm => ?_, fun j u hj => ?_⟩⟩
    · have := hF g hm; omega
    rw [← ht, List.getElem?_take] at hj
    split at hj
    · simp only [Nat.zero_add]
      simp only [World.cell?, hg]
      simpa using hj
    · cases hj
theorem OwnI.below {w w' : World} {base B : Nat} {v : Value} {l : List Int} (h : OwnI w base v l) (hb : Below B w w') (hB : w.heap.size ≤ B) : OwnI w' base v l := by
  obtain ⟨h1, h2⟩ := h
  refine ⟨h1, ?_⟩
  rcases h2 with h2 | ⟨g, cap, cur, rfl, hbg, hg, r⟩
  · exact Or.inl h2
  · refine Or.inr ⟨g, cap, cur, rfl, hbg, ?_, r⟩
    rw [hb.block g (by have := (Array.getElem?_eq_some_iff.1 hg).1; omega)]
    exact hg
theorem OwnI.alloc {w : World} {base : Nat} {v : Value} {l : List Int} (h : OwnI w base v l) (o : Obj) : OwnI (w.alloc o) base v l := World.ownsRow.alloc h o
theorem OwnI.nil (w : World) (base : Nat) : OwnI w base (.slice none 0 0) [] := World.ownsRow_nil _ _ _ _
theorem new_int (w : World) (q : Int) (t : TypeId) : ∀ j u, (ints [q])[j]? = some u → (w.alloc (.cells #[.int .i64 q] t)).cell? ((⟨w.heap.size, 0, none⟩ : Addr).add j) = some u := cell_one_new w (.int .i64 q) t

/-- a new list of numbers comes back -/
def IntsPost (l : List Int) (w : World) : Ending → World → Prop := fun e w' => ∃ r, e = .returned r ∧ IntsIn w' [] r l ∧ Below w.heap.size w w'

set_option maxHeartbeats 1000000 in
theorem keysOf_any (w : World) (v : Value) (l : List K) (h : KeysIn w [] v l) (hl : l.length ≤ 1048576) :
    Calls Tryz.prog 88 #[v] w (IntsPost (colsOf l) w) := by
  obtain ⟨ao, cap, rfl, hc, hm, _⟩ := h.open
  have HV : Hid (KeysIn w [] (.slice ao l.length cap) l) := h
  clear h
  go_enter Tryz.func88, Tryz.ntmps88
  go_wp2
  go_loopw [3, 4] (fun o j wr => ∃ k : Nat, k ≤ l.length ∧ j = .int .i64 k ∧ OwnI wr w.heap.size o (colsOf (l.take k)) ∧ Below w.heap.size w wr) (fun _ j _ => l.length - (intOf j).toNat)
  case atStart => exact ⟨0, by omega, rfl, OwnI.nil _ _, Below.refl _ _⟩
  case round =>
    obtain ⟨k, hk, rfl, hO, hB⟩ := hrel
    have hsz := hB.size
    by_cases hlt : k < l.length
    · obtain ⟨b, off, hao, hcell⟩ := (HV.out.step (stepB hB)).cells (by omega)
      subst hao
      obtain ⟨c0, _, _⟩ := hcell k hlt
      have HS : Hid (colsOf (l.take (k + 1)) = colsOf (l.take k) ++ [l[k].c]) := by show _ = _; unfold colsOf; rw [take_snoc' l k hlt, List.map_append]; rfl
      have hll : (colsOf (l.take k)).length ≤ 1048576 := by simp [colsOf]; omega
      generalize l[k].c = q at *
      generalize colsOf (l.take k) = S at *
      clear hcell
      go_wp2_with (at_builtin; refine irow_append rfl (.tmp 11) (.tmp 17) rfl w.heap.size _ S rfl (hO.alloc _) _ [q] 1 rfl (new_int _ _ _) (by simp; omega) (by simp; omega) ?_; intro v' w5 hO5 hB5)
      go_roundw
      case rel => exact ⟨k + 1, by omega, by go_num, by rw [HS.out]; exact hO5, (hB.alloc hsz _).trans hB5⟩
      case measure => simp [intOf]; omega
    · have HI : Hid (IntsIn wr [] u3 (colsOf l)) := by
        have := hO.in
        rw [List.take_of_length_le (by omega)] at this
        exact this
      clear hO
      go_wp2
      go_ret
      exact ⟨_, rfl, HI.out, hB⟩
end Go.Proofs.YtjoinhljdbljaaaGreat.Old

namespace Go.Proofs.YtjoinhljdbljaaaGreat.Old
open Go.RowKit

def colAt (l : List Int) (c : Int) : Int := l.getD c.toNat 0
def InCol (c : Int) (l : List Int) : Prop := 0 ≤ c ∧ c < (l.length : Int)
def SumOK (s : VS) (left : List Int) : Prop := InCol s.col left ∧ ((s.op = 1 ∧ s.col = 0) ∨ s.op = 2 ∨ s.op = 3 ∨ (s.op = 4 ∧ colAt left s.col = 1))
def sumK (left : List Int) (s : VS) : Int := if s.op = 1 then 1 else colAt left s.col
def GroupOK (cols : List Int) (sums : List VS) (left : List Int) : Prop := cols.length ≤ 4 ∧ sums.length ≤ 4 ∧ (∀ i (h : i < cols.length), InCol cols[i] left) ∧ (∀ i (h : i < sums.length), SumOK sums[i] left)
def groupL (cols : List Int) (sums : List VS) (left : List Int) : List Int := cols.map (colAt left) ++ sums.map (sumK left)

/-- a new list of numbers comes back, or there is none -/
def PairPost (F : List Nat) (P : Prop) (l : List Int) (w : World) : Ending → World → Prop :=
  fun e w' => ∃ ao m cap b, e = .returned (.tuple #[.slice ao m cap, .bool b]) ∧ (b = true ↔ P) ∧ (P → IntsIn w' F (.slice ao m cap) l) ∧ Below w.heap.size w w'
theorem PairPost.yes {F : List Nat} {P : Prop} {l : List Int} {w w' : World} {ao : Option Addr} {m cap : Nat} (h : P) (hi : IntsIn w' F (.slice ao m cap) l) (hb : Below w.heap.size w w') : PairPost F P l w (.returned (.tuple #[.slice ao m cap, .bool true])) w' := ⟨ao, m, cap, true, rfl, by simp [h], fun _ => hi, hb⟩
theorem PairPost.no {F : List Nat} {P : Prop} {l : List Int} {w w' : World} {ao : Option Addr} {m cap : Nat} (h : ¬ P) (hb : Below w.heap.size w w') : PairPost F P l w (.returned (.tuple #[.slice ao m cap, .bool false])) w' := ⟨ao, m, cap, false, rfl, by simp [h], fun hp => absurd hp h, hb⟩

def SumPost (s : VS) (left : List Int) (w : World) : Ending → World → Prop := fun e w' => ∃ k b, e = .returned (.tuple #[.int .i64 k, .bool b]) ∧ (b = true ↔ SumOK s left) ∧ (SumOK s left → k = sumK left s) ∧ Below w.heap.size w w'
theorem SumPost.yes {s : VS} {left : List Int} {w w' : World} {k : Int} (h : SumOK s left) (hk : k = sumK left s) (hb : Below w.heap.size w w') : SumPost s left w (.returned (.tuple #[.int .i64 k, .bool true])) w' := ⟨k, true, rfl, by simp [h], fun _ => hk, hb⟩
theorem SumPost.no {s : VS} {left : List Int} {w w' : World} {k : Int} (h : ¬ SumOK s left) (hb : Below w.heap.size w w') : SumPost s left w (.returned (.tuple #[.int .i64 k, .bool false])) w' := ⟨k, false, rfl, by simp [h], fun hp => absurd hp h, hb⟩

theorem colAt_nat {l : List Int} {c : Nat} (h : c < l.length) : colAt l (c : Int) = l[c] := by simp [colAt, h]
theorem InCol.nat {l : List Int} {c : Int} (h : InCol c l) : ∃ n : Nat, c = (n : Int) ∧ n < l.length := ⟨c.toNat, by have := h.1; omega, by have := h.1; have := h.2; omega⟩
theorem isColB_in {c : Int} {l : List Int} (h : InCol c l) : isColB c l.length = true := (isColB_iff _ _).2 h
theorem isColB_out {c : Int} {l : List Int} (h : ¬ InCol c l) : isColB c l.length = false := by rw [← Bool.not_eq_true, isColB_iff]; exact h

set_option maxHeartbeats 1000000 in
theorem summed_any (s : VS) (v : Value) (left : List Int) (w : World) (h : IntsIn w [] v left) : Calls Tryz.prog 161 #[.agg #[.int .i64 s.op, .int .i64 s.col], v] w (SumPost s left w) := by
  obtain ⟨ao, cap, rfl, hc, hm, _⟩ := h.open
  have HV : Hid (IntsIn w [] (.slice ao left.length cap) left) := h
  clear h
  have HI : Hid (∀ c ao n cap w, Calls Tryz.prog 159 #[.int .i64 c, .slice ao n cap] w fun e w' => e = .returned (.bool (isColB c n)) ∧ w' = w) := isColumn_any
  obtain ⟨op, col⟩ := s
  simp only
  by_cases hin : InCol col left
  · have hb := isColB_in hin
    obtain ⟨c, rfl, hcl⟩ := hin.nat
    obtain ⟨b, off, hao, hcell⟩ := HV.out.cells (by omega)
    subst hao
    have c0 := hcell c hcl
    have hbw : b < w.heap.size := World.block_lt_of_cell? w _ c0
    have HC : Hid (colAt left (c : Int) = left[c]) := colAt_nat hcl
    have HY : Hid (∀ k w', ((op = 1 ∧ (c : Int) = 0) ∨ op = 2 ∨ op = 3 ∨ (op = 4 ∧ left[c] = 1)) → k = (if op = 1 then 1 else left[c]) → Below w.heap.size w w' → SumPost ⟨op, (c : Int)⟩ left w (.returned (.tuple #[.int .i64 k, .bool true])) w') :=
      fun k w' h1 h2 h3 => SumPost.yes ⟨hin, by rw [HC.out]; exact h1⟩ (by rw [h2]; simp only [sumK, HC.out]) h3
    have HN : Hid (∀ k w', ¬ ((op = 1 ∧ (c : Int) = 0) ∨ op = 2 ∨ op = 3 ∨ (op = 4 ∧ left[c] = 1)) → Below w.heap.size w w' → SumPost ⟨op, (c : Int)⟩ left w (.returned (.tuple #[.int .i64 k, .bool false])) w') :=
      fun k w' h1 h3 => SumPost.no (fun h => h1 (by have := h.2; rw [HC.out] at this; exact this)) h3
    have HB : Hid (∀ o, Below w.heap.size w (w.alloc o)) := fun o => (Below.refl _ _).alloc (Nat.le_refl _) o
    generalize left[c] = q at *
    clear hcell
    go_enter Tryz.func161, Tryz.ntmps161
    by_cases h1 : op = 1
    · subst h1
      by_cases h0 : c = 0
      · have hz : ((c : Int) == 0) = true := by simp [h0]
        have hb0 : isColB 0 left.length = true := by simpa [h0] using hb
        go_wp2_with (go_at_call 159; refine (HI.out _ _ _ _ _).mono ?_; rintro e w' ⟨rfl, rfl⟩)
        first
          | (go_ret2; exact HY.out _ _ (by simp [h0]) (by simp) (HB.out _))
          | (go_region; all_goals (go_wp2; go_ret2; exact HY.out _ _ (by simp [h0]) (by simp) (HB.out _).drew))
      · have hz : ((c : Int) == 0) = false := by simp; omega
        go_wp2_with (go_at_call 159; refine (HI.out _ _ _ _ _).mono ?_; rintro e w' ⟨rfl, rfl⟩)
        first
          | (go_ret2; exact HN.out _ _ (by omega) (HB.out _))
          | (go_region; all_goals (go_wp2; go_ret2; exact HN.out _ _ (by omega) (HB.out _).drew))
    · have e1 : (op == 1) = false := by simp [h1]
      by_cases h2 : op = 2
      · subst h2
        go_wp2_with (go_at_call 159; refine (HI.out _ _ _ _ _).mono ?_; rintro e w' ⟨rfl, rfl⟩)
        first
          | (go_ret2; exact HY.out _ _ (by simp) (by simp) (HB.out _))
          | (go_region; all_goals (go_wp2; go_ret2; exact HY.out _ _ (by simp) (by simp) (HB.out _).drew))
      · have e2 : (op == 2) = false := by simp [h2]
        by_cases h3 : op = 3
        · subst h3
          go_wp2_with (go_at_call 159; refine (HI.out _ _ _ _ _).mono ?_; rintro e w' ⟨rfl, rfl⟩)
          first
            | (go_ret2; exact HY.out _ _ (by simp) (by simp) (HB.out _))
            | (go_region; all_goals (go_wp2; go_ret2; exact HY.out _ _ (by simp) (by simp) (HB.out _).drew))
        · have e3 : (op == 3) = false := by simp [h3]
          by_cases h4 : op = 4
          · subst h4
            by_cases hq : q = 1
            · subst hq
              go_wp2_with (go_at_call 159; refine (HI.out _ _ _ _ _).mono ?_; rintro e w' ⟨rfl, rfl⟩)
              first
                | (go_ret2; exact HY.out _ _ (by simp) (by simp) (HB.out _))
                | (go_region; all_goals (go_wp2; go_ret2; exact HY.out _ _ (by simp) (by simp) (HB.out _).drew))
            · have eq1 : (q == 1) = false := by simp [hq]
              go_wp2_with (go_at_call 159; refine (HI.out _ _ _ _ _).mono ?_; rintro e w' ⟨rfl, rfl⟩)
              first
                | (go_ret2; exact HN.out _ _ (by omega) (HB.out _))
                | (go_region; all_goals (go_wp2; go_ret2; exact HN.out _ _ (by omega) (HB.out _).drew))
          · have e4 : (op == 4) = false := by simp [h4]
            go_wp2_with (go_at_call 159; refine (HI.out _ _ _ _ _).mono ?_; rintro e w' ⟨rfl, rfl⟩)
            first
              | (go_ret2; exact HN.out _ _ (by omega) (HB.out _))
              | (go_region; all_goals (go_wp2; go_ret2; exact HN.out _ _ (by omega) (HB.out _).drew))
  · have hb := isColB_out hin
    have HN : Hid (¬ SumOK ⟨op, col⟩ left) := fun h => hin h.1
    clear hin
    go_enter Tryz.func161, Tryz.ntmps161
    go_wp2_with (go_at_call 159; refine (HI.out _ _ _ _ _).mono ?_; rintro e w' ⟨rfl, rfl⟩)
    go_ret2
    exact SumPost.no HN.out ((Below.refl _ _).alloc (Nat.le_refl _) _)
end Go.Proofs.YtjoinhljdbljaaaGreat.Old

namespace Go.Proofs.YtjoinhljdbljaaaGreat.Old
open Go.RowKit

theorem up1 {w w' : World} {o : Obj} (h : Below (w.alloc o).heap.size (w.alloc o) w') : Below w.heap.size w w' := ((Below.refl _ _).alloc (Nat.le_refl _) o).trans (h.mono (by simp))

set_option maxRecDepth 20000 in
set_option maxHeartbeats 2000000 in
theorem grouped_any (w : World) (n : VN) (p : NP) (v : Value) (left : List Int) (hn : NodeIn w [] p n) (h : IntsIn w [] v left) (hl1 : n.cols.length ≤ 1048576) (hl2 : n.sums.length ≤ 1048576) (F : List Nat) (hF : ∀ k ∈ F, k < w.heap.size) :
    Calls Tryz.prog 127 #[nodeV n p, v] w (PairPost F (GroupOK n.cols n.sums left) (groupL n.cols n.sums left) w) := by
  obtain ⟨ao, cap, rfl, hc, hm, _⟩ := h.open
  obtain ⟨op, lf, rt, tb, ks, ct, cols, ots, sums⟩ := n
  obtain ⟨kv, cv, ov, sv⟩ := p
  obtain ⟨_, hcv, _, hsv⟩ := hn
  simp only at *
  obtain ⟨ao1, cap1, rfl, hc1, hm1, _⟩ := hcv.open
  obtain ⟨ao2, cap2, rfl, hc2, hm2, _⟩ := hsv.open
  unfold nodeV
  simp only
  have HI : Hid (∀ c ao n cap w, Calls Tryz.prog 159 #[.int .i64 c, .slice ao n cap] w fun e w' => e = .returned (.bool (isColB c n)) ∧ w' = w) := isColumn_any
  have HSM : Hid (∀ s w, IntsIn w [] (.slice ao left.length cap) left → Calls Tryz.prog 161 #[.agg #[.int .i64 s.op, .int .i64 s.col], .slice ao left.length cap] w (SumPost s left w)) := fun s w h => summed_any s _ left w h
  have HW0 : Hid (∀ o, Step [] [] w (w.alloc o)) := fun o => Step.of ((Touch.refl _ _).alloc o)
  have HL : Hid (IntsIn w [] (.slice ao left.length cap) left) := h
  have HC : Hid (IntsIn w [] (.slice ao1 cols.length cap1) cols) := hcv
  have HS : Hid (SumsIn w [] (.slice ao2 sums.length cap2) sums) := hsv
  have HFF : Hid (∀ k ∈ F, k < w.heap.size) := hF
  clear h hcv hsv hF
  go_enter Tryz.func127, Tryz.ntmps127
  by_cases h44 : cols.length ≤ 4 ∧ sums.length ≤ 4
  · have d1 : decide ((4 : Int) < cols.length) = false := decide_eq_false (by omega)
    have d2 : decide ((4 : Int) < sums.length) = false := decide_eq_false (by omega)
    go_wp2_with fail
    have hl0 := HL.out.step (HW0.out (.cells #[.int .i64 op, .int .i64 lf, .int .i64 rt, .string tb, kv, .int .i64 ct, .slice ao1 cols.length cap1, ov, .slice ao2 sums.length cap2] 79))
    have hc0 := HC.out.step (HW0.out (.cells #[.int .i64 op, .int .i64 lf, .int .i64 rt, .string tb, kv, .int .i64 ct, .slice ao1 cols.length cap1, ov, .slice ao2 sums.length cap2] 79))
    have hs0 := HS.out.step (HW0.out (.cells #[.int .i64 op, .int .i64 lf, .int .i64 rt, .string tb, kv, .int .i64 ct, .slice ao1 cols.length cap1, ov, .slice ao2 sums.length cap2] 79))
    have x8 : (w.alloc (.cells #[.int .i64 op, .int .i64 lf, .int .i64 rt, .string tb, kv, .int .i64 ct, .slice ao1 cols.length cap1, ov, .slice ao2 sums.length cap2] 79)).cell? ⟨w.heap.size, 8, none⟩ = some (.slice ao2 sums.length cap2) := by simp
    have HUP : Hid (∀ w', Below (w.alloc (.cells #[.int .i64 op, .int .i64 lf, .int .i64 rt, .string tb, kv, .int .i64 ct, .slice ao1 cols.length cap1, ov, .slice ao2 sums.length cap2] 79)).heap.size (w.alloc (.cells #[.int .i64 op, .int .i64 lf, .int .i64 rt, .string tb, kv, .int .i64 ct, .slice ao1 cols.length cap1, ov, .slice ao2 sums.length cap2] 79)) w' → Below w.heap.size w w') := fun w' h => up1 h
    have hlt0 : w.heap.size < (w.alloc (.cells #[.int .i64 op, .int .i64 lf, .int .i64 rt, .string tb, kv, .int .i64 ct, .slice ao1 cols.length cap1, ov, .slice ao2 sums.length cap2] 79)).heap.size := by simp
    generalize (w.alloc (.cells #[.int .i64 op, .int .i64 lf, .int .i64 rt, .string tb, kv, .int .i64 ct, .slice ao1 cols.length cap1, ov, .slice ao2 sums.length cap2] 79)) = W at *
    have HL : Hid (IntsIn W [] (.slice ao left.length cap) left) := hl0
    have HC : Hid (IntsIn W [] (.slice ao1 cols.length cap1) cols) := hc0
    have HS : Hid (SumsIn W [] (.slice ao2 sums.length cap2) sums) := hs0
    clear hl0 hc0 hs0 HW0
    go_loopw [6, 26] (fun o j wr => ∃ k : Nat, k ≤ cols.length ∧ j = .int .i64 k ∧ (∀ i (h : i < cols.length), i < k → InCol cols[i] left) ∧ OwnI wr W.heap.size o ((cols.take k).map (colAt left)) ∧ Below W.heap.size W wr) (fun _ j _ => cols.length - (intOf j).toNat)
    case atStart => exact ⟨0, by omega, rfl, fun i _ h => by omega, OwnI.nil _ _, Below.refl _ _⟩
    case round =>
      obtain ⟨k, hk, rfl, hall, hO, hB⟩ := hrel
      have hsz := hB.size
      by_cases hlt : k < cols.length
      · obtain ⟨b, off, hao, hcell⟩ := (HC.out.step (stepB hB)).cells (by omega)
        subst hao
        have c0 := hcell k hlt
        by_cases hq : InCol cols[k] left
        · have HN : Hid (∀ i (h : i < cols.length), i < k + 1 → InCol cols[i] left) := snoc_all (P := fun q => InCol q left) hlt hall hq
          have HSN : Hid ((cols.take (k + 1)).map (colAt left) = (cols.take k).map (colAt left) ++ [colAt left cols[k]]) := by show _ = _; rw [take_snoc' cols k hlt, List.map_append]; rfl
          have hb := isColB_in hq
          obtain ⟨c, hce, hcl⟩ := hq.nat
          obtain ⟨b2, off2, hao2, hcell2⟩ := (HL.out.step (stepB hB)).cells (by omega)
          subst hao2
          have c1 := hcell2 c hcl
          have hll : ((cols.take k).map (colAt left)).length ≤ 1048576 := by simp; omega
          rw [hce] at c0 hb HSN
          rw [colAt_nat hcl] at HSN
          generalize left[c] = q at *
          generalize (cols.take k).map (colAt left) = S at *
          clear hcell hall hq hcell2
          go_wp2_with (first | (go_at_call 159; refine (HI.out _ _ _ _ _).mono ?_; rintro e w' ⟨rfl, rfl⟩) | (at_builtin; refine irow_append rfl (.tmp 34) (.tmp 39) rfl W.heap.size _ S rfl (hO.alloc _) _ [q] 1 rfl (new_int _ _ _) (by simp; omega) (by simp; omega) ?_; intro v' w5 hO5 hB5))
          go_roundw
          case rel => exact ⟨k + 1, by omega, by go_num, HN.out, by rw [HSN.out]; exact hO5, (hB.alloc hsz _).trans hB5⟩
          case measure => simp [intOf]; omega
        · have HF : Hid (¬ GroupOK cols sums left) := fun h => hq (h.2.2.1 k hlt)
          have hb := isColB_out hq
          generalize cols[k] = q at *
          clear hcell hall hq hO
          go_wp2_with (go_at_call 159; refine (HI.out _ _ _ _ _).mono ?_; rintro e w' ⟨rfl, rfl⟩)
          go_ret2
          exact PairPost.no HF.out (HUP.out _ hB)
      · have HALL : Hid (∀ i (h : i < cols.length), InCol cols[i] left) := fun i hi => hall i hi (by omega)
        rw [List.take_of_length_le (by omega)] at hO
        have HO : Hid (OwnI wr W.heap.size u6 (cols.map (colAt left))) := hO
        have x8' := (hB.cell (p := ⟨w.heap.size, 8, none⟩) hlt0).trans x8
        clear hall hO x8
        go_wp2_with fail
        go_loopw [6, 45] (fun o j wz => ∃ k : Nat, k ≤ sums.length ∧ j = .int .i64 k ∧ (∀ i (h : i < sums.length), i < k → SumOK sums[i] left) ∧ OwnI wz W.heap.size o (cols.map (colAt left) ++ (sums.take k).map (sumK left)) ∧ Below W.heap.size W wz) (fun _ j _ => sums.length - (intOf j).toNat)
        case atStart => exact ⟨0, by omega, rfl, fun i _ h => by omega, by rw [List.take_zero, List.map_nil, List.append_nil]; exact HO.out, hB⟩
        case round =>
          obtain ⟨k2, hk2, rfl, hall2, hO2, hB2⟩ := hrel
          have hsz2 := hB2.size
          clear hB hsz x8'
          by_cases hlt2 : k2 < sums.length
          · obtain ⟨b, off, hao, hcell⟩ := (HS.out.step (stepB hB2)).cells (by omega)
            subst hao
            obtain ⟨c0, c1⟩ := hcell k2 hlt2
            have HSN : Hid (cols.map (colAt left) ++ (sums.take (k2 + 1)).map (sumK left) = cols.map (colAt left) ++ (sums.take k2).map (sumK left) ++ [sumK left sums[k2]]) := by show _ = _; rw [take_snoc' sums k2 hlt2, List.map_append, List.append_assoc]; rfl
            have hll : (cols.map (colAt left) ++ (sums.take k2).map (sumK left)).length ≤ 1048576 := by simp; omega
            have HL2 : Hid (IntsIn wr [] (.slice ao left.length cap) left) := HL.out.step (stepB hB2)
            by_cases hq : SumOK sums[k2] left
            · have HN : Hid (∀ i (h : i < sums.length), i < k2 + 1 → SumOK sums[i] left) := snoc_all (P := fun q => SumOK q left) hlt2 hall2 hq
              have HQ : Hid (SumOK sums[k2] left) := hq
              generalize sums[k2] = q at *
              generalize cols.map (colAt left) ++ (sums.take k2).map (sumK left) = S at *
              clear hcell hall2 hq
              go_wp2_with (first | (go_at_call 161; refine (HSM.out _ _ (HL2.out.step (Step.of ((Touch.refl _ _).alloc _)))).mono ?_; rintro e w4 ⟨kk, bb, rfl, hbb, hkk, hB4⟩; have hbt : bb = true := hbb.2 HQ.out; subst hbt; have hB5 := up1 hB4; have hO4 := hO2.below hB5 (Nat.le_refl _); have hsz4 := hB5.size; have HK : Hid (kk = _) := hkk HQ.out; clear hbb hkk hB4) | (at_builtin; refine irow_append rfl (.tmp 57) (.tmp 59) rfl W.heap.size _ S rfl (hO4.alloc _) _ [kk] 1 rfl (new_int _ _ _) (by simp; omega) (by simp; omega) ?_; intro v' w6 hO6 hB6))
              go_roundw
              case rel => exact ⟨k2 + 1, by omega, by go_num, HN.out, by rw [HSN.out, ← HK.out]; exact hO6, (((hB2.trans (hB5.mono hsz2)).alloc (by omega) _)).trans hB6⟩
              case measure => simp [intOf]; omega
            · have HF : Hid (¬ GroupOK cols sums left) := fun h => hq (h.2.2.2 k2 hlt2)
              have HQ : Hid (¬ SumOK sums[k2] left) := hq
              generalize sums[k2] = q at *
              clear hcell hall2 hq hO2
              go_wp2_with (go_at_call 161; refine (HSM.out _ _ (HL2.out.step (Step.of ((Touch.refl _ _).alloc _)))).mono ?_; rintro e w4 ⟨kk, bb, rfl, hbb, hkk, hB4⟩; have hbt : bb = false := by rw [← Bool.not_eq_true, hbb]; exact HQ.out)
              go_ret2
              exact PairPost.no HF.out (HUP.out _ (hB2.trans ((up1 hB4).mono hsz2)))
          · have HT : Hid (GroupOK cols sums left) := ⟨h44.1, h44.2, HALL.out, fun i hi => hall2 i hi (by omega)⟩
            rw [List.take_of_length_le (by omega)] at hO2
            have hin := hO2.inF (F := F) (fun k hk => Nat.lt_trans (HFF.out k hk) hlt0)
            obtain ⟨ao5, cap5, e5, _, _, _⟩ := hin.open
            subst e5
            have HIN : Hid (IntsIn wr F (.slice ao5 (cols.map (colAt left) ++ sums.map (sumK left)).length cap5) (groupL cols sums left)) := hin
            clear hall2 hO2 hin
            go_wp2
            go_ret2
            exact PairPost.yes HT.out HIN.out (HUP.out _ hB2)
  · have HF : Hid (¬ GroupOK cols sums left) := fun h => h44 ⟨h.1, h.2.1⟩
    go_wp2_with fail
    all_goals first | (exfalso; omega) | skip
    all_goals
      go_ret2
      exact PairPost.no HF.out ((Below.refl _ _).alloc (Nat.le_refl _) _)
end Go.Proofs.YtjoinhljdbljaaaGreat.Old

namespace Go.Proofs.YtjoinhljdbljaaaGreat.Old
open Go.RowKit

theorem inB_t {n lo hi : Int} (h : lo ≤ n ∧ n ≤ hi) : inB n lo hi = true := by simp [inB, h]
theorem inB_f {n lo hi : Int} (h : ¬ (lo ≤ n ∧ n ≤ hi)) : inB n lo hi = false := by rw [← Bool.not_eq_true]; simpa [inB] using h

theorem new_intH (w : World) (H : Nat) (hH : w.heap.size = H) (q : Int) (t : TypeId) : ∀ j u, (ints [q])[j]? = some u → (w.alloc (.cells #[.int .i64 q] t)).cell? ((⟨H, 0, none⟩ : Addr).add j) = some u := by
  subst hH
  exact new_int w q t

set_option maxRecDepth 20000 in
set_option maxHeartbeats 2000000 in
theorem sums_any (w : World) (n : VN) (p : NP) (v : Value) (left : List Int) (hn : NodeIn w [] p n) (h : IntsIn w [] v left) (hl0 : left.length ≤ 1048576) (hl1 : n.cols.length ≤ 1048576) (hl2 : n.sums.length ≤ 1048576) (F : List Nat) (hF : ∀ k ∈ F, k < w.heap.size) :
    Calls Tryz.prog 89 #[nodeV n p, v] w (PairPost F (GroupOK n.cols n.sums left) (groupL n.cols n.sums left) w) := by
  obtain ⟨ao, cap, rfl, hc, hm, _⟩ := h.open
  obtain ⟨op, lf, rt, tb, ks, ct, cols, ots, sums⟩ := n
  obtain ⟨kv, cv, ov, sv⟩ := p
  obtain ⟨_, hcv, _, hsv⟩ := hn
  simp only at *
  obtain ⟨ao1, cap1, rfl, hc1, hm1, _⟩ := hcv.open
  obtain ⟨ao2, cap2, rfl, hc2, hm2, _⟩ := hsv.open
  unfold nodeV
  simp only
  have HI : Hid (∀ n lo hi w, Calls Tryz.prog 45 #[.int .i64 n, .int .i64 lo, .int .i64 hi] w fun e w' => e = .returned (.bool (inB n lo hi)) ∧ w' = w) := in_any
  have HCO : Hid (∀ w, IntsIn w [] (.slice ao1 cols.length cap1) cols → Calls Tryz.prog 87 #[.slice ao1 cols.length cap1, .int .i64 (left.length : Int), .int .i64 0] w (BoolPost (ColsOK cols left.length 0) w)) := fun w h => cols_any w _ cols left.length 0 h hl1 hl0
  have HW0 : Hid (∀ o, Step [] [] w (w.alloc o)) := fun o => Step.of ((Touch.refl _ _).alloc o)
  have HL : Hid (IntsIn w [] (.slice ao left.length cap) left) := h
  have HC : Hid (IntsIn w [] (.slice ao1 cols.length cap1) cols) := hcv
  have HS : Hid (SumsIn w [] (.slice ao2 sums.length cap2) sums) := hsv
  have HFF : Hid (∀ k ∈ F, k < w.heap.size) := hF
  clear h hcv hsv hF
  go_enter Tryz.func89, Tryz.ntmps89
  go_wp2_with fail
  have hl0 := HL.out.step (HW0.out (.cells #[.int .i64 op, .int .i64 lf, .int .i64 rt, .string tb, kv, .int .i64 ct, .slice ao1 cols.length cap1, ov, .slice ao2 sums.length cap2] 64))
  have hc0 := HC.out.step (HW0.out (.cells #[.int .i64 op, .int .i64 lf, .int .i64 rt, .string tb, kv, .int .i64 ct, .slice ao1 cols.length cap1, ov, .slice ao2 sums.length cap2] 64))
  have hs0 := HS.out.step (HW0.out (.cells #[.int .i64 op, .int .i64 lf, .int .i64 rt, .string tb, kv, .int .i64 ct, .slice ao1 cols.length cap1, ov, .slice ao2 sums.length cap2] 64))
  have x8 : (w.alloc (.cells #[.int .i64 op, .int .i64 lf, .int .i64 rt, .string tb, kv, .int .i64 ct, .slice ao1 cols.length cap1, ov, .slice ao2 sums.length cap2] 64)).cell? ⟨w.heap.size, 8, none⟩ = some (.slice ao2 sums.length cap2) := by simp
  have x6 : (w.alloc (.cells #[.int .i64 op, .int .i64 lf, .int .i64 rt, .string tb, kv, .int .i64 ct, .slice ao1 cols.length cap1, ov, .slice ao2 sums.length cap2] 64)).cell? ⟨w.heap.size, 6, none⟩ = some (.slice ao1 cols.length cap1) := by simp
  have HUP : Hid (∀ w', Below (w.alloc (.cells #[.int .i64 op, .int .i64 lf, .int .i64 rt, .string tb, kv, .int .i64 ct, .slice ao1 cols.length cap1, ov, .slice ao2 sums.length cap2] 64)).heap.size (w.alloc (.cells #[.int .i64 op, .int .i64 lf, .int .i64 rt, .string tb, kv, .int .i64 ct, .slice ao1 cols.length cap1, ov, .slice ao2 sums.length cap2] 64)) w' → Below w.heap.size w w') := fun w' h => up1 h
  have hlt0 : w.heap.size < (w.alloc (.cells #[.int .i64 op, .int .i64 lf, .int .i64 rt, .string tb, kv, .int .i64 ct, .slice ao1 cols.length cap1, ov, .slice ao2 sums.length cap2] 64)).heap.size := by simp
  generalize (w.alloc (.cells #[.int .i64 op, .int .i64 lf, .int .i64 rt, .string tb, kv, .int .i64 ct, .slice ao1 cols.length cap1, ov, .slice ao2 sums.length cap2] 64)) = W0 at *
  refine (HCO.out _ hc0).mono ?_
  rintro e W ⟨b0, rfl, hb0, hB0⟩
  have hl1' := hl0.step (stepB hB0)
  have hc1' := hc0.step (stepB hB0)
  have hs1' := hs0.step (stepB hB0)
  have y8 := (hB0.cell (p := ⟨w.heap.size, 8, none⟩) hlt0).trans x8
  have y6 := (hB0.cell (p := ⟨w.heap.size, 6, none⟩) hlt0).trans x6
  have HUP2 : Hid (∀ w', Below W.heap.size W w' → Below w.heap.size w w') := fun w' h => HUP.out _ (bthen hB0 h)
  have hlt1 : w.heap.size < W.heap.size := Nat.lt_of_lt_of_le hlt0 hB0.size
  have HL : Hid (IntsIn W [] (.slice ao left.length cap) left) := hl1'
  have HC : Hid (IntsIn W [] (.slice ao1 cols.length cap1) cols) := hc1'
  have HS : Hid (SumsIn W [] (.slice ao2 sums.length cap2) sums) := hs1'
  clear hl0 hc0 hs0 HW0 x8 x6 HUP hlt0 hB0 hl1' hc1' hs1' HCO
  by_cases h44 : ColsOK cols left.length 0 ∧ sums.length ≤ 4
  · obtain rfl : b0 = true := hb0.2 h44.1
    have d2 : decide ((4 : Int) < sums.length) = false := decide_eq_false (by omega)
    have HCK : Hid (ColsOK cols left.length 0) := h44.1
    have hs4 := h44.2
    have hcc : cols.length ≤ 4 := h44.1.2.2
    clear hb0 h44
    go_wp2_with fail
    go_loopw [6, 8] (fun o j wr => ∃ k : Nat, k ≤ cols.length ∧ j = .int .i64 k ∧ OwnI wr W.heap.size o ((cols.take k).map (colAt left)) ∧ Below W.heap.size W wr) (fun _ j _ => cols.length - (intOf j).toNat)
    case atStart => exact ⟨0, by omega, rfl, OwnI.nil _ _, Below.refl _ _⟩
    case round =>
      obtain ⟨k, hk, rfl, hO, hB⟩ := hrel
      have hsz := hB.size
      have z8 := (hB.cell (p := ⟨w.heap.size, 8, none⟩) hlt1).trans y8
      have z6 := (hB.cell (p := ⟨w.heap.size, 6, none⟩) hlt1).trans y6
      by_cases hlt : k < cols.length
      · obtain ⟨b, off, hao, hcell⟩ := (HC.out.step (stepB hB)).cells (by omega)
        subst hao
        have c0 := hcell k hlt
        have hq : InCol cols[k] left := HCK.out.1 k hlt
        have HSN : Hid ((cols.take (k + 1)).map (colAt left) = (cols.take k).map (colAt left) ++ [colAt left cols[k]]) := by show _ = _; rw [take_snoc' cols k hlt, List.map_append]; rfl
        obtain ⟨c, hce, hcl⟩ := hq.nat
        obtain ⟨b2, off2, hao2, hcell2⟩ := (HL.out.step (stepB hB)).cells (by omega)
        subst hao2
        have c1 := hcell2 c hcl
        have hll : ((cols.take k).map (colAt left)).length ≤ 1048576 := by simp; omega
        rw [hce] at c0 HSN
        rw [colAt_nat hcl] at HSN
        generalize left[c] = q at *
        generalize (cols.take k).map (colAt left) = S at *
        clear hcell hq hcell2 y6 y8
        go_wp2_with (at_builtin; refine irow_append rfl (.tmp 31) (.tmp 40) rfl W.heap.size _ S rfl (hO.alloc _) _ [q] 1 rfl (new_int _ _ _) (by simp; omega) (by simp; omega) ?_; intro v' w5 hO5 hB5)
        go_roundw
        case rel => exact ⟨k + 1, by omega, by go_num, by rw [HSN.out]; exact hO5, (hB.alloc hsz _).trans hB5⟩
        case measure => simp [intOf]; omega
      · rw [List.take_of_length_le (by omega)] at hO
        have HO : Hid (OwnI wr W.heap.size u6 (cols.map (colAt left))) := hO
        clear hO
        go_wp2_with fail
        go_loopw [6, 9] (fun o j wz => ∃ k : Nat, k ≤ sums.length ∧ j = .int .i64 k ∧ (∀ i (h : i < sums.length), i < k → SumOK sums[i] left) ∧ OwnI wz W.heap.size o (cols.map (colAt left) ++ (sums.take k).map (sumK left)) ∧ Below W.heap.size W wz) (fun _ j _ => sums.length - (intOf j).toNat)
        case atStart => exact ⟨0, by omega, rfl, fun i _ h => by omega, by rw [List.take_zero, List.map_nil, List.append_nil]; exact HO.out, hB⟩
        case round =>
          obtain ⟨k2, hk2, rfl, hall2, hO2, hB2⟩ := hrel
          have hsz2 := hB2.size
          clear hB hsz z8 z6
          have z8 := (hB2.cell (p := ⟨w.heap.size, 8, none⟩) hlt1).trans y8
          by_cases hlt2 : k2 < sums.length
          · obtain ⟨b, off, hao, hcell⟩ := (HS.out.step (stepB hB2)).cells (by omega)
            subst hao
            obtain ⟨c0, c1⟩ := hcell k2 hlt2
            have HSN : Hid (cols.map (colAt left) ++ (sums.take (k2 + 1)).map (sumK left) = cols.map (colAt left) ++ (sums.take k2).map (sumK left) ++ [sumK left sums[k2]]) := by show _ = _; rw [take_snoc' sums k2 hlt2, List.map_append, List.append_assoc]; rfl
            have hll : (cols.map (colAt left) ++ (sums.take k2).map (sumK left)).length ≤ 1048576 := by simp; omega
            have HL2 : Hid (IntsIn wr [] (.slice ao left.length cap) left) := HL.out.step (stepB hB2)
            by_cases hq : SumOK sums[k2] left
            · have HN : Hid (∀ i (h : i < sums.length), i < k2 + 1 → SumOK sums[i] left) := snoc_all (P := fun q => SumOK q left) hlt2 hall2 hq
              generalize sums[k2] = q at *
              obtain ⟨sop, scol⟩ := q
              simp only at c0 c1
              obtain ⟨hq1, hq2⟩ := hq
              simp only at hq1 hq2
              obtain ⟨c, hce, hcl⟩ := hq1.nat
              obtain ⟨bl, offl, haol, hcelll⟩ := HL2.out.cells (by omega)
              subst haol
              have c2 := hcelll c hcl
              have hwb : bl < wr.heap.size := World.block_lt_of_cell? wr _ c2
              subst hce
              rw [colAt_nat hcl] at hq2
              have i1 : inB (c : Int) 0 ((left.length : Int) - 1) = true := inB_t (by omega)
              have i2 : inB sop 1 4 = true := inB_t (by omega)
              generalize cols.map (colAt left) ++ (sums.take k2).map (sumK left) = S at *
              have HK : Hid (sumK left ⟨sop, (c : Int)⟩ = if sop = 1 then 1 else left[c]) := by show _ = _; simp only [sumK, colAt_nat hcl]
              generalize left[c] = lc at *
              clear hcell hall2 hcelll hq1 y6 y8
              obtain ⟨rfl, hc0⟩ | rfl | rfl | ⟨rfl, rfl⟩ := hq2
              · have i1b : inB 0 0 ((left.length : Int) - 1) = true := by have := i1; rw [hc0] at this; exact this
                have hz : ((c : Int) != 0) = false := by simp; omega
                go_wp2_with (first | (go_at_call 45; refine (HI.out _ _ _ _).mono ?_; rintro e w' ⟨rfl, rfl⟩) | (at_builtin; refine irow_append rfl (.tmp 93) (.tmp 94) rfl W.heap.size _ S rfl ((hO2.alloc _).alloc _) _ [1] 1 rfl (new_intH _ _ (by simp) _ _) (by simp; omega) (by simp; omega) ?_; intro v' w6 hO6 hB6))
                go_roundw
                case rel => exact ⟨k2 + 1, by omega, by go_num, HN.out, by rw [HSN.out, HK.out]; exact hO6, ((hB2.alloc hsz2 _).alloc (by simp; omega) _).trans hB6⟩
                case measure => simp [intOf]; omega
              · go_wp2_with (first | (go_at_call 45; refine (HI.out _ _ _ _).mono ?_; rintro e w' ⟨rfl, rfl⟩) | (at_builtin; refine irow_append rfl (.tmp 96) (.tmp 102) rfl W.heap.size _ S rfl ((hO2.alloc _).alloc _) _ [lc] 1 rfl (new_intH _ _ (by simp) _ _) (by simp; omega) (by simp; omega) ?_; intro v' w6 hO6 hB6))
                go_roundw
                case rel => exact ⟨k2 + 1, by omega, by go_num, HN.out, by rw [HSN.out, HK.out]; exact hO6, ((hB2.alloc hsz2 _).alloc (by simp; omega) _).trans hB6⟩
                case measure => simp [intOf]; omega
              · go_wp2_with (first | (go_at_call 45; refine (HI.out _ _ _ _).mono ?_; rintro e w' ⟨rfl, rfl⟩) | (at_builtin; refine irow_append rfl (.tmp 96) (.tmp 102) rfl W.heap.size _ S rfl ((hO2.alloc _).alloc _) _ [lc] 1 rfl (new_intH _ _ (by simp) _ _) (by simp; omega) (by simp; omega) ?_; intro v' w6 hO6 hB6))
                go_roundw
                case rel => exact ⟨k2 + 1, by omega, by go_num, HN.out, by rw [HSN.out, HK.out]; exact hO6, ((hB2.alloc hsz2 _).alloc (by simp; omega) _).trans hB6⟩
                case measure => simp [intOf]; omega
              · go_wp2_with (first | (go_at_call 45; refine (HI.out _ _ _ _).mono ?_; rintro e w' ⟨rfl, rfl⟩) | (at_builtin; refine irow_append rfl (.tmp 96) (.tmp 102) rfl W.heap.size _ S rfl ((hO2.alloc _).alloc _) _ [1] 1 rfl (new_intH _ _ (by simp) _ _) (by simp; omega) (by simp; omega) ?_; intro v' w6 hO6 hB6))
                go_roundw
                case rel => exact ⟨k2 + 1, by omega, by go_num, HN.out, by rw [HSN.out, HK.out]; exact hO6, ((hB2.alloc hsz2 _).alloc (by simp; omega) _).trans hB6⟩
                case measure => simp [intOf]; omega
            · have HF : Hid (¬ GroupOK cols sums left) := fun h => hq (h.2.2.2 k2 hlt2)
              generalize sums[k2] = q at *
              obtain ⟨sop, scol⟩ := q
              simp only at c0 c1
              unfold SumOK at hq
              simp only at hq
              clear hcell hall2 hO2 y6 y8
              by_cases hin : InCol scol left
              · obtain ⟨c, hce, hcl⟩ := hin.nat
                obtain ⟨bl, offl, haol, hcelll⟩ := HL2.out.cells (by omega)
                subst haol
                have c2 := hcelll c hcl
                have hwb : bl < wr.heap.size := World.block_lt_of_cell? wr _ c2
                have hq2 := fun h => hq ⟨hin, h⟩
                subst hce
                rw [colAt_nat hcl] at hq2
                have i1 : inB (c : Int) 0 ((left.length : Int) - 1) = true := inB_t (by omega)
                generalize left[c] = lc at *
                clear hq hcelll hin
                by_cases h14 : 1 ≤ sop ∧ sop ≤ 4
                · have i2 : inB sop 1 4 = true := inB_t h14
                  by_cases h1 : sop = 1
                  · subst h1
                    have hc1 : c ≠ 0 := fun e => hq2 (by simp [e])
                    have hz : ((c : Int) != 0) = true := by rw [bne_iff_ne]; omega
                    go_wp2_with (go_at_call 45; refine (HI.out _ _ _ _).mono ?_; rintro e w' ⟨rfl, rfl⟩)
                    go_ret2
                    exact PairPost.no HF.out (HUP2.out _ (hB2.alloc hsz2 _))
                  · have n2 : sop ≠ 2 := fun e => hq2 (Or.inr (Or.inl e))
                    have n3 : sop ≠ 3 := fun e => hq2 (Or.inr (Or.inr (Or.inl e)))
                    have h4 : sop = 4 := by omega
                    subst h4
                    have hlc : (lc != 1) = true := by rw [bne_iff_ne]; exact fun e => hq2 (Or.inr (Or.inr (Or.inr ⟨rfl, e⟩)))
                    go_wp2_with (go_at_call 45; refine (HI.out _ _ _ _).mono ?_; rintro e w' ⟨rfl, rfl⟩)
                    go_ret2
                    exact PairPost.no HF.out (HUP2.out _ (hB2.alloc hsz2 _))
                · have i2 : inB sop 1 4 = false := inB_f h14
                  clear hq2
                  go_wp2_with (go_at_call 45; refine (HI.out _ _ _ _).mono ?_; rintro e w' ⟨rfl, rfl⟩)
                  go_ret2
                  exact PairPost.no HF.out (HUP2.out _ (hB2.alloc hsz2 _))
              · have i1 : inB scol 0 ((left.length : Int) - 1) = false := inB_f (fun h => hin ⟨h.1, by omega⟩)
                clear hq hin
                go_wp2_with (go_at_call 45; refine (HI.out _ _ _ _).mono ?_; rintro e w' ⟨rfl, rfl⟩)
                go_ret2
                exact PairPost.no HF.out (HUP2.out _ (hB2.alloc hsz2 _))
          · have HT : Hid (GroupOK cols sums left) := ⟨hcc, hs4, HCK.out.1, fun i hi => hall2 i hi (by omega)⟩
            rw [List.take_of_length_le (by omega)] at hO2
            have hin := hO2.inF (F := F) (fun k hk => Nat.lt_trans (HFF.out k hk) hlt1)
            obtain ⟨ao5, cap5, e5, _, _, _⟩ := hin.open
            subst e5
            have HIN : Hid (IntsIn wr F (.slice ao5 (cols.map (colAt left) ++ sums.map (sumK left)).length cap5) (groupL cols sums left)) := hin
            clear hall2 hO2 hin
            go_wp2
            go_ret2
            exact PairPost.yes HT.out HIN.out (HUP2.out _ hB2)
  · have HF : Hid (¬ GroupOK cols sums left) := fun h => h44 ⟨⟨h.2.2.1, by omega, h.1⟩, h.2.1⟩
    cases b0
    · go_wp2_with fail
      go_ret2
      exact PairPost.no HF.out (HUP2.out _ (Below.refl _ _))
    · have h4 : ¬ sums.length ≤ 4 := fun h => h44 ⟨hb0.1 rfl, h⟩
      clear h44 hb0
      go_wp2_with fail
      all_goals first | (exfalso; omega) | skip
      go_ret2
      exact PairPost.no HF.out (HUP2.out _ (Below.refl _ _))
end Go.Proofs.YtjoinhljdbljaaaGreat.Old
