/- The walk of alike: two new rows of the same kinds. -/
import Derived.Test.YtjoinhljdbljaaaKeyG
import Derived.Deep.AppendLies
namespace Go.Proofs.Ytjoinhljdbljaaa
open Go.RowKit

def t3s (l : List T3) : List Value := l.flatMap fun t => [t.1, t.2.1, t.2.2]
def Own3 (w : World) (base : Nat) (v : Value) (l : List T3) : Prop := w.ownsRow base 31 3 v l.length (t3s l)

theorem info31 : (Try.prog.info? 31).map (fun i => (i.zero, i.size, i.bytes)) = some (some (.agg #[.int .i64 0, .int .i64 0, .string ⟨#[]⟩]), 3, 32) := by kernel_rfl

theorem t3s_snoc (l : List T3) (t : T3) : t3s (l ++ [t]) = t3s l ++ [t.1, t.2.1, t.2.2] := by simp [t3s]

theorem own3_append {ops : Array Oper} {rest : List Oper} {o : Oper} {a : Act} {Q : Exit → Act → World → Prop} {w : World} (hgd : o.guard = none) (s x : Operand)
    (ho : o.op = .call { callee := .builtin .append, args := #[s, x], argTypes := #[33, 33] }) (base : Nat) (v : Value) (l : List T3) (hs : a.eval s = v) (hown : Own3 w base v l)
    (ad : Addr) (t : T3) (c : Nat) (hx : a.eval x = .slice (some ad) 1 c) (hnews : ∀ j u, [t.1, t.2.1, t.2.2][j]? = some u → w.cell? (ad.add j) = some u) (hone : t.1.oneCell' = true ∧ t.2.1.oneCell' = true ∧ t.2.2.oneCell' = true)
    (hlen : l.length + 1 ≤ 1073741824) (hbase : base ≤ w.heap.size)
    (h : ∀ g cap w', Own3 w' base (.slice (some ⟨g, 0, none⟩) (l.length + 1) cap) (l ++ [t]) → w.grownBy w' v.ownBlock → (v.ownBlock = some g ∨ g = w.heap.size) → g < w'.heap.size → wpList Try.prog ops Q rest (a.put o.dst (.slice (some ⟨g, 0, none⟩) (l.length + 1) cap)) w') : wpList Try.prog ops Q (o :: rest) a w := by
  obtain ⟨i0, hi, hz0, hz1, hz2⟩ := info_parts info31
  refine wpList_append_lies _ hgd s x 33 ho base 31 i0 (.agg #[.int .i64 0, .int .i64 0, .string ⟨#[]⟩]) 3 32 Try.underlying33 hi hz0 hz1 hz2 rfl (by decide) v _ _ hs hown ad 1 c [t.1, t.2.1, t.2.2] hx (by simp) hnews ?_ (by decide) ?_ ?_ hbase _ rfl ?_
  · intro u hu
    simp only [List.mem_cons, List.not_mem_nil, or_false] at hu
    rcases hu with rfl | rfl | rfl
    · exact hone.1
    · exact hone.2.1
    · exact hone.2.2
  · unfold maxLen; omega
  · omega
  · intro g cap w' h1 h2 h3 h4
    refine h g cap w' ?_ h2 h3 h4
    unfold Own3
    rw [t3s_snoc, List.length_append]
    exact h1

def fitTo (a b : V) : V := if (cleanV a).k = 0 then cleanV b else if (cleanV b).k = (cleanV a).k then cleanV b else ⟨0, 0, ⟨#[]⟩⟩
def alikeX (xs ys : List V) : List V := List.zipWith (fun a _ => cleanV a) xs ys
def alikeY (xs ys : List V) : List V := List.zipWith fitTo xs ys

def apart (x y : Value) : Prop := ∀ k, x.ownBlock = some k → y.ownBlock ≠ some k

theorem kept_of_apart {w w' : World} {base : Nat} {v x : Value} {l : List T3} (h : Own3 w base v l) (hg : w.grownBy w' x.ownBlock) (ha : apart x v) : Own3 w' base v l := by
  refine World.ownsRow.kept h hg ?_
  cases hv : v.ownBlock with
  | none => exact Or.inl rfl
  | some k => exact Or.inr (fun e => ha k e.symm hv)

theorem Own3.lt {w : World} {base : Nat} {v : Value} {l : List T3} (h : Own3 w base v l) {k : Nat} (hk : v.ownBlock = some k) : base ≤ k ∧ k < w.heap.size := World.ownsRow.lt h k hk
theorem Own3.alloc {w : World} {base : Nat} {v : Value} {l : List T3} (h : Own3 w base v l) (o : Obj) : Own3 (w.alloc o) base v l := World.ownsRow.alloc h o
theorem Own3.below {w w' : World} {base B : Nat} {v : Value} {l : List T3} (h : Own3 w base v l) (hb : Below B w w') (hB : w.heap.size ≤ B) : Own3 w' base v l := by
  refine World.ownsRow.kept (row := none) h ⟨hb.os, hb.tape, hb.output, hb.size, fun k hk _ => hb.block k (by omega)⟩ ?_
  cases hv : v.ownBlock <;> simp

theorem new3 (w : World) (H : Nat) (hH : w.heap.size = H) (t : T3) : ∀ j u, [t.1, t.2.1, t.2.2][j]? = some u → (w.alloc (.cells #[t.1, t.2.1, t.2.2] 31)).cell? (Addr.add ⟨H, 0, none⟩ j) = some u := by
  subst hH
  intro j u hj
  match j, hj with
  | 0, hj => simp at hj; subst hj; simp [Addr.add]
  | 1, hj => simp at hj; subst hj; simp [Addr.add]
  | 2, hj => simp at hj; subst hj; simp [Addr.add]

/-- The box that was laid ahead of the appended struct's own block, behind the append. -/
theorem third {w2 w3 : World} {a b c : Value} {o : Obj} {row : Option Nat} {m : Nat} (hG : ((w2.alloc (.cells #[a, b, c] 31)).alloc o).grownBy w3 row) (hlt : ∀ k, row = some k → k < m) (hm : m ≤ w2.heap.size) :
    w3.cell? ⟨w2.heap.size, 0, none⟩ = some a ∧ w3.cell? ⟨w2.heap.size, 1, none⟩ = some b ∧ w3.cell? ⟨w2.heap.size, 2, none⟩ = some c := by
  have hne : some w2.heap.size ≠ row := fun e => by have := hlt _ e.symm; omega
  exact ⟨hG.cell (by simp) hne, hG.cell (by simp) hne, hG.cell (by simp) hne⟩

/-- What the two appends of a round leave. -/
theorem round_end {w0 w3 w5 : World} {base : Nat} {x y : Value} {lx ly : List T3} {tx ty : T3} {g cap g' cap' n n' : Nat} {o : Obj}
    (hbase : base ≤ w0.heap.size) (hX0 : Own3 w0 base x lx) (hA : apart x y) (hYlt : ∀ k, y.ownBlock = some k → k < w0.heap.size)
    (hX : Own3 w3 base (.slice (some ⟨g, 0, none⟩) n cap) (lx ++ [tx])) (hG : w0.grownBy w3 x.ownBlock) (hat : x.ownBlock = some g ∨ g = w0.heap.size) (hg : g < w3.heap.size)
    (hY0 : Own3 (w3.alloc o) base y ly) (_hY : Own3 w5 base (.slice (some ⟨g', 0, none⟩) n' cap') (ly ++ [ty])) (hG' : (w3.alloc o).grownBy w5 y.ownBlock) (hat' : y.ownBlock = some g' ∨ g' = (w3.alloc o).heap.size) :
    Own3 w5 base (.slice (some ⟨g, 0, none⟩) n cap) (lx ++ [tx]) ∧ apart (.slice (some ⟨g, 0, none⟩) n cap) (.slice (some ⟨g', 0, none⟩) n' cap') ∧ Below base w0 w5 := by
  have hgy : y.ownBlock ≠ some g := by
    intro e
    rcases hat with h | h
    · exact hA g h e
    · have := hYlt g e
      omega
  have hsz := hG.size
  refine ⟨?_, ?_, ?_⟩
  · refine kept_of_apart (x := y) (hX.alloc o) hG' ?_
    intro k hk e
    simp [Value.ownBlock] at e
    exact hgy (by rw [hk, e])
  · intro k hk e
    simp [Value.ownBlock] at hk e
    rcases hat' with h | h
    · exact hgy (by rw [h, e, hk])
    · simp at h
      omega
  · refine ((((Below.refl base w0).grown hG hbase fun k hk => (hX0.lt hk).1).alloc (by omega) o).grown hG' (by simp; omega) fun k hk => (hY0.lt hk).1)

set_option maxHeartbeats 2000000 in
theorem alike_some (w : World) (rv sv : Value) (xs ys : List V) (hr : Lies w w.heap.size rv (xs.map V.t)) (hs : Lies w w.heap.size sv (ys.map V.t))
    (hx : xs.length ≤ 1048576) (_hy : ys.length ≤ 1048576) (hix : ∀ v ∈ xs, I64 v.k ∧ I64 v.n) (hiy : ∀ v ∈ ys, I64 v.k ∧ I64 v.n) (h1 : 1 ≤ xs.length) (h2 : 1 ≤ ys.length) :
    Calls Try.prog 21 #[rv, sv] w fun e w' => ∃ x y, e = .returned (.tuple #[x, y]) ∧ Own3 w' w.heap.size x ((alikeX xs ys).map V.t) ∧ Own3 w' w.heap.size y ((alikeY xs ys).map V.t) ∧ Below w.heap.size w w' := by
  obtain ⟨ao, cap, rfl, hrc, hrm, hrx0⟩ := hr
  obtain ⟨so, scap, rfl, hsc, hsm, hsx0⟩ := hs
  simp only [List.length_map] at *
  obtain ⟨rb, roff, rfl, hrB, hrx⟩ := hrx0 h1
  obtain ⟨sb, soff, rfl, hsB, hsx⟩ := hsx0 h2
  clear hrx0 hsx0
  go_enter Try.func21, Try.ntmps21
  go_wp2
  go_loopw [6, 7, 8] (fun x y i wr => ∃ k : Nat, k ≤ xs.length ∧ k ≤ ys.length ∧ i = .int .i64 k ∧ Own3 wr w.heap.size x (((alikeX xs ys).map V.t).take k) ∧ Own3 wr w.heap.size y (((alikeY xs ys).map V.t).take k) ∧ apart x y ∧ Below w.heap.size w wr) (fun _ _ i _ => xs.length - (intOf i).toNat)
  case atStart => exact ⟨0, Nat.zero_le _, Nat.zero_le _, rfl, World.ownsRow_nil _ _ _ _, World.ownsRow_nil _ _ _ _, fun k hk => by simp [Value.ownBlock] at hk, Below.refl _ _⟩
  case round =>
    obtain ⟨k, hk1, hk2, rfl, hX, hY, hA, hB⟩ := hrel
    by_cases hlt : k < xs.length ∧ k < ys.length
    · obtain ⟨hlx, hly⟩ := hlt
      obtain ⟨hr0, hr1, hr2⟩ := hrx k hlx
      obtain ⟨hs0, hs1, hs2⟩ := hsx k hly
      rw [← hB.cell (by exact hrB)] at hr0 hr1 hr2
      rw [← hB.cell (by exact hsB)] at hs0 hs1 hs2
      simp only [List.getElem_map, V.t] at hr0 hr1 hr2 hs0 hs1 hs2
      have hsz := hB.size
      have hrb : rb < wr.heap.size := by omega
      have hsb : sb < wr.heap.size := by omega
      obtain ⟨hxk, hxn⟩ := hix xs[k] (List.getElem_mem _)
      obtain ⟨hyk, hyn⟩ := hiy ys[k] (List.getElem_mem _)
      have hlx2 : k < (alikeX xs ys).length := by simp [alikeX]; omega
      have hly2 : k < (alikeY xs ys).length := by simp [alikeY]; omega
      have HX : Hid (((alikeX xs ys).map V.t).take (k + 1) = ((alikeX xs ys).map V.t).take k ++ [(cleanV xs[k]).t]) := by
        show _ = _
        rw [take_snoc' _ k (by simpa using hlx2)]
        simp [alikeX]
      have HY : Hid (((alikeY xs ys).map V.t).take (k + 1) = ((alikeY xs ys).map V.t).take k ++ [(fitTo xs[k] ys[k]).t]) := by
        show _ = _
        rw [take_snoc' _ k (by simpa using hly2)]
        simp [alikeY]
      have hlX : (((alikeX xs ys).map V.t).take k).length = k := by rw [List.length_take_of_le]; simp; omega
      have hlY : (((alikeY xs ys).map V.t).take k).length = k := by rw [List.length_take_of_le]; simp; omega
      generalize ((alikeX xs ys).map V.t).take k = lx at *
      generalize ((alikeY xs ys).map V.t).take k = ly at *
      have HC1 : Hid (∀ w, Calls Try.prog 55 #[(xs[k]).val] w fun e w' => e = .returned (cleanV xs[k]).val ∧ Below w.heap.size w w') := fun w => clean_any _ w hxk hxn
      have HC2 : Hid (∀ w, Calls Try.prog 55 #[(ys[k]).val] w fun e w' => e = .returned (cleanV ys[k]).val ∧ Below w.heap.size w w') := fun w => clean_any _ w hyk hyn
      have HF : Hid (fitTo xs[k] ys[k] = if (cleanV xs[k]).k = 0 then cleanV ys[k] else if (cleanV ys[k]).k = (cleanV xs[k]).k then cleanV ys[k] else ⟨0, 0, ⟨#[]⟩⟩) := rfl
      clear hrx hsx hix hiy hxk hxn hyk hyn hlx2 hly2
      generalize fitTo xs[k] ys[k] = f at *
      generalize cleanV xs[k] = p at *
      generalize cleanV ys[k] = q at *
      generalize xs[k] = x at *
      generalize ys[k] = y at *
      have HK : Hid (lx.length = k ∧ ly.length = k) := ⟨hlX, hlY⟩
      have hlX' : lx.length ≤ 1048576 := by omega
      have hlY' : ly.length ≤ 1048576 := by omega
      clear hlX hlY
      simp only [V.val] at HC1 HC2
      go_wp2_with fail
      refine (HC1.out _).mono ?_
      rintro e w1 ⟨rfl, hB1⟩
      have hsz1 := hB1.size
      rw [← hB1.cell (by exact hsb)] at hs0 hs1 hs2
      have hsb1 : sb < w1.heap.size := by omega
      clear hr0 hr1 hr2
      go_wp2_with fail
      refine (HC2.out _).mono ?_
      rintro e w2 ⟨rfl, hB2⟩
      have hsz2 := hB2.size
      have hp0 := hB2.cell (p := ⟨w1.heap.size, 0, none⟩) (by simp)
      have hp1 := hB2.cell (p := ⟨w1.heap.size, 1, none⟩) (by simp)
      have hp2 := hB2.cell (p := ⟨w1.heap.size, 2, none⟩) (by simp)
      simp at hp0 hp1 hp2 hsz2
      have hs12 : w1.heap.size < w2.heap.size := by omega
      clear hs0 hs1 hs2
      have hX2 : Own3 w2 w.heap.size u6 lx := ((hX.below hB1 (Nat.le_refl _)).alloc _).below hB2 (Nat.le_refl _)
      have hY2 : Own3 w2 w.heap.size u7 ly := ((hY.below hB1 (Nat.le_refl _)).alloc _).below hB2 (Nat.le_refl _)
      have hBw : Below w.heap.size w w2 := ((hB.trans (hB1.mono hsz)).alloc (by omega) _).trans (hB2.mono (by simp; omega))
      have hXl : ∀ k, u6.ownBlock = some k → k < wr.heap.size := fun k hk => (hX.lt hk).2
      have hYl : ∀ k, u7.ownBlock = some k → k < wr.heap.size := fun k hk => (hY.lt hk).2
      have HXL : Hid _ := hXl
      have HYL : Hid _ := hYl
      clear hXl hYl hX hY
      by_cases hp : p.k = 0
      · have hpb : (p.k != 0) = false := by simp [hp]
        obtain rfl : f = q := by rw [HF.out, if_pos hp]
        clear hp HF
        go_wp2_with (first | (at_builtin; refine own3_append rfl (.tmp 44) (.tmp 46) rfl w.heap.size _ _ rfl ((hX2.alloc _).alloc _) _ p.t _ rfl (new3 _ _ (by simp) p.t) ⟨rfl, rfl, rfl⟩ (by omega) (by simp; omega) ?_; intro g cp w3 hX3 hG3 hat3 hlt3; have hq := third hG3 HXL.out (by omega); obtain ⟨hq0, hq1, hq2⟩ := hq; have hY3 := kept_of_apart ((hY2.alloc _).alloc _) hG3 hA) | (at_builtin; refine own3_append rfl (.tmp 48) (.tmp 50) rfl w.heap.size _ _ rfl (hY3.alloc _) _ f.t _ rfl (new3 _ _ (by simp) f.t) ⟨rfl, rfl, rfl⟩ (by omega) (by have := hG3.size; simp at *; omega) ?_; intro g' cp' w5 hY5 hG5 hat5 hlt5))
        go_roundw
        case rel =>
          have hR := round_end (by simp; omega) ((hX2.alloc _).alloc _) hA (fun k hk => by have := HYL.out k hk; simp; omega) hX3 hG3 hat3 hlt3 (hY3.alloc _) hY5 hG5 hat5
          refine ⟨k + 1, by omega, by omega, by go_num, ?_, ?_, hR.2.1, (((hBw.alloc (by omega) _).alloc (by simp; omega) _).trans hR.2.2)⟩
          · rw [HX.out]; exact hR.1
          · rw [HY.out]; exact hY5
        case measure => simp [intOf]; omega
      · have hpb : (p.k != 0) = true := by simp [hp]
        by_cases hq : q.k = p.k
        · have hqb : (q.k != p.k) = false := by simp [hq]
          obtain rfl : f = q := by rw [HF.out, if_neg hp, if_pos hq]
          clear hp hq HF
          go_wp2_with (first | (at_builtin; refine own3_append rfl (.tmp 44) (.tmp 46) rfl w.heap.size _ _ rfl ((hX2.alloc _).alloc _) _ p.t _ rfl (new3 _ _ (by simp) p.t) ⟨rfl, rfl, rfl⟩ (by omega) (by simp; omega) ?_; intro g cp w3 hX3 hG3 hat3 hlt3; have hq := third hG3 HXL.out (by omega); obtain ⟨hq0, hq1, hq2⟩ := hq; have hY3 := kept_of_apart ((hY2.alloc _).alloc _) hG3 hA) | (at_builtin; refine own3_append rfl (.tmp 48) (.tmp 50) rfl w.heap.size _ _ rfl (hY3.alloc _) _ f.t _ rfl (new3 _ _ (by simp) f.t) ⟨rfl, rfl, rfl⟩ (by omega) (by have := hG3.size; simp at *; omega) ?_; intro g' cp' w5 hY5 hG5 hat5 hlt5))
          go_roundw
          case rel =>
            have hR := round_end (by simp; omega) ((hX2.alloc _).alloc _) hA (fun k hk => by have := HYL.out k hk; simp; omega) hX3 hG3 hat3 hlt3 (hY3.alloc _) hY5 hG5 hat5
            refine ⟨k + 1, by omega, by omega, by go_num, ?_, ?_, hR.2.1, (((hBw.alloc (by omega) _).alloc (by simp; omega) _).trans hR.2.2)⟩
            · rw [HX.out]; exact hR.1
            · rw [HY.out]; exact hY5
          case measure => simp [intOf]; omega
        · have hqb : (q.k != p.k) = true := by simp [hq]
          obtain rfl : f = ⟨0, 0, ⟨#[]⟩⟩ := by rw [HF.out, if_neg hp, if_neg hq]
          clear hp hq HF
          go_wp2_with (first | (at_builtin; refine own3_append rfl (.tmp 44) (.tmp 46) rfl w.heap.size _ _ rfl ((hX2.alloc _).alloc _) _ p.t _ rfl (new3 _ _ (by simp) p.t) ⟨rfl, rfl, rfl⟩ (by omega) (by simp; omega) ?_; intro g cp w3 hX3 hG3 hat3 hlt3; have hq := third hG3 HXL.out (by omega); obtain ⟨hq0, hq1, hq2⟩ := hq; have hY3 := kept_of_apart ((hY2.alloc _).alloc _) hG3 hA) | (at_builtin; refine own3_append rfl (.tmp 48) (.tmp 50) rfl w.heap.size _ _ rfl (hY3.alloc _) _ (V.t ⟨0, 0, ⟨#[]⟩⟩) _ rfl (new3 _ _ (by simp) (V.t ⟨0, 0, ⟨#[]⟩⟩)) ⟨rfl, rfl, rfl⟩ (by omega) (by have := hG3.size; simp at *; omega) ?_; intro g' cp' w5 hY5 hG5 hat5 hlt5))
          go_roundw
          case rel =>
            have hR := round_end (by simp; omega) ((hX2.alloc _).alloc _) hA (fun k hk => by have := HYL.out k hk; simp; omega) hX3 hG3 hat3 hlt3 (hY3.alloc _) hY5 hG5 hat5
            refine ⟨k + 1, by omega, by omega, by go_num, ?_, ?_, hR.2.1, (((hBw.alloc (by omega) _).alloc (by simp; omega) _).trans hR.2.2)⟩
            · rw [HX.out]; exact hR.1
            · rw [HY.out]; exact hY5
          case measure => simp [intOf]; omega
    · have hXe : ((alikeX xs ys).map V.t).take k = (alikeX xs ys).map V.t := List.take_of_length_le (by simp [alikeX]; omega)
      have hYe : ((alikeY xs ys).map V.t).take k = (alikeY xs ys).map V.t := List.take_of_length_le (by simp [alikeY]; omega)
      rw [hXe] at hX
      rw [hYe] at hY
      clear hXe hYe hrx hsx hix hiy
      by_cases hlx : k < xs.length
      · have hly : ys.length ≤ k := by omega
        clear hlt
        go_wp2
        go_ret2
        exact ⟨_, _, rfl, hX, hY, hB⟩
      · clear hlt
        go_wp2
        go_ret2
        exact ⟨_, _, rfl, hX, hY, hB⟩
end Go.Proofs.Ytjoinhljdbljaaa
