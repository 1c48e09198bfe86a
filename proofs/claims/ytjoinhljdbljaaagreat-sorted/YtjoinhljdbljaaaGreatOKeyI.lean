/- The walk of alike: two new rows of the same kinds. -/
import Derived.Test.YtjoinhljdbljaaaGreatOKeyG
import Derived.Deep.AppendLies
namespace Go.Proofs.YtjoinhljdbljaaaGreat.Old
open Go.RowKit

def t3s (l : List T3) : List Value := l.flatMap fun t => [t.1, t.2.1, t.2.2]
def Own3 (w : World) (base : Nat) (v : Value) (l : List T3) : Prop := w.ownsRow base 85 3 v l.length (t3s l)

theorem info31 : (Tryz.prog.info? 85).map (fun i => (i.zero, i.size, i.bytes)) = some (some (.agg #[.int .i64 0, .int .i64 0, .string ⟨#[]⟩]), 3, 32) := by kernel_rfl

theorem t3s_snoc (l : List T3) (t : T3) : t3s (l ++ [t]) = t3s l ++ [t.1, t.2.1, t.2.2] := by simp [t3s]

theorem own3_append {ops : Array Oper} {rest : List Oper} {o : Oper} {a : Act} {Q : Exit → Act → World → Prop} {w : World} (hgd : o.guard = none) (s x : Operand)
    (ho : o.op = .call { callee := .builtin .append, args := #[s, x], argTypes := #[83, 83] }) (base : Nat) (v : Value) (l : List T3) (hs : a.eval s = v) (hown : Own3 w base v l)
    (ad : Addr) (t : T3) (c : Nat) (hx : a.eval x = .slice (some ad) 1 c) (hnews : ∀ j u, [t.1, t.2.1, t.2.2][j]? = some u → w.cell? (ad.add j) = some u) (hone : t.1.oneCell' = true ∧ t.2.1.oneCell' = true ∧ t.2.2.oneCell' = true)
    (hlen : l.length + 1 ≤ 1073741824) (hbase : base ≤ w.heap.size)
    (h : ∀ g cap w', Own3 w' base (.slice (some ⟨g, 0, none⟩) (l.length + 1) cap) (l ++ [t]) → w.grownBy w' v.ownBlock → (v.ownBlock = some g ∨ g = w.heap.size) → g < w'.heap.size → wpList Tryz.prog ops Q rest (a.put o.dst (.slice (some ⟨g, 0, none⟩) (l.length + 1) cap)) w') : wpList Tryz.prog ops Q (o :: rest) a w := by
  obtain ⟨i0, hi, hz0, hz1, hz2⟩ := info_parts info31
  refine wpList_append_lies _ hgd s x 83 ho base 85 i0 (.agg #[.int .i64 0, .int .i64 0, .string ⟨#[]⟩]) 3 32 Tryz.underlying83 hi hz0 hz1 hz2 rfl (by decide) v _ _ hs hown ad 1 c [t.1, t.2.1, t.2.2] hx (by simp) hnews ?_ (by decide) ?_ ?_ hbase _ rfl ?_
  · intro u hu
    simp only [List.mem_cons, List.not_mem_nil, or_false] at hu
    rcases hu with rfl | rfl | rfl
    · exact hone.1
    · exact hone.2.1
    · exact hone.2.2
  · unfold maxLen; omega
  · omega
  · intro g cap w' h1 h2 h3 h4
    refine h g cap w' ?_ h2 h3 h4
    unfold Own3
    rw [t3s_snoc, List.length_append]
    exact h1

def fitTo (a b : V) : V := if (cleanV a).k = 0 then cleanV b else if (cleanV b).k = (cleanV a).k then cleanV b else ⟨0, 0, ⟨#[]⟩⟩
def alikeX (xs ys : List V) : List V := List.zipWith (fun a _ => cleanV a) xs ys
def alikeY (xs ys : List V) : List V := List.zipWith fitTo xs ys

def apart (x y : Value) : Prop := ∀ k, x.ownBlock = some k → y.ownBlock ≠ some k

theorem kept_of_apart {w w' : World} {base : Nat} {v x : Value} {l : List T3} (h : Own3 w base v l) (hg : w.grownBy w' x.ownBlock) (ha : apart x v) : Own3 w' base v l := by
  refine World.ownsRow.kept h hg ?_
  cases hv : v.ownBlock with
  | none => exact Or.inl rfl
  | some k => exact Or.inr (fun e => ha k e.symm hv)

theorem Own3.lt {w : World} {base : Nat} {v : Value} {l : List T3} (h : Own3 w base v l) {k : Nat} (hk : v.ownBlock = some k) : base ≤ k ∧ k < w.heap.size := World.ownsRow.lt h k hk
theorem Own3.alloc {w : World} {base : Nat} {v : Value} {l : List T3} (h : Own3 w base v l) (o : Obj) : Own3 (w.alloc o) base v l := World.ownsRow.alloc h o
theorem Own3.below {w w' : World} {base B : Nat} {v : Value} {l : List T3} (h : Own3 w base v l) (hb : Below B w w') (hB : w.heap.size ≤ B) : Own3 w' base v l := by
  refine World.ownsRow.kept (row := none) h ⟨hb.os, hb.tape, hb.output, hb.size, fun k hk _ => hb.block k (by omega)⟩ ?_
  cases hv : v.ownBlock <;> simp

theorem new3 (w : World) (H : Nat) (hH : w.heap.size = H) (t : T3) : ∀ j u, [t.1, t.2.1, t.2.2][j]? = some u → (w.alloc (.cells #[t.1, t.2.1, t.2.2] 85)).cell? (Addr.add ⟨H, 0, none⟩ j) = some u := by
  subst hH
  intro j u hj
  match j, hj with
  | 0, hj => simp at hj; subst hj; simp [Addr.add]
  | 1, hj => simp at hj; subst hj; simp [Addr.add]
  | 2, hj => simp at hj; subst hj; simp [Addr.add]

/-- The box that was laid ahead of the appended struct's own block, behind the append. -/
theorem third {w2 w3 : World} {a b c : Value} {o : Obj} {row : Option Nat} {m : Nat} (hG : ((w2.alloc (.cells #[a, b, c] 85)).alloc o).grownBy w3 row) (hlt : ∀ k, row = some k → k < m) (hm : m ≤ w2.heap.size) :
    w3.cell? ⟨w2.heap.size, 0, none⟩ = some a ∧ w3.cell? ⟨w2.heap.size, 1, none⟩ = some b ∧ w3.cell? ⟨w2.heap.size, 2, none⟩ = some c := by
  have hne : some w2.heap.size ≠ row := fun e => by have := hlt _ e.symm; omega
  exact ⟨hG.cell (by simp) hne, hG.cell (by simp) hne, hG.cell (by simp) hne⟩

/-- What the two appends of a round leave. -/
theorem round_end {w0 w3 w5 : World} {base : Nat} {x y : Value} {lx ly : List T3} {tx ty : T3} {g cap g' cap' n n' : Nat} {o : Obj}
    (hbase : base ≤ w0.heap.size) (hX0 : Own3 w0 base x lx) (hA : apart x y) (hYlt : ∀ k, y.ownBlock = some k → k < w0.heap.size)
    (hX : Own3 w3 base (.slice (some ⟨g, 0, none⟩) n cap) (lx ++ [tx])) (hG : w0.grownBy w3 x.ownBlock) (hat : x.ownBlock = some g ∨ g = w0.heap.size) (hg : g < w3.heap.size)
    (hY0 : Own3 (w3.alloc o) base y ly) (_hY : Own3 w5 base (.slice (some ⟨g', 0, none⟩) n' cap') (ly ++ [ty])) (hG' : (w3.alloc o).grownBy w5 y.ownBlock) (hat' : y.ownBlock = some g' ∨ g' = (w3.alloc o).heap.size) :
    Own3 w5 base (.slice (some ⟨g, 0, none⟩) n cap) (lx ++ [tx]) ∧ apart (.slice (some ⟨g, 0, none⟩) n cap) (.slice (some ⟨g', 0, none⟩) n' cap') ∧ Below base w0 w5 := by
  have hgy : y.ownBlock ≠ some g := by
    intro e
    rcases hat with h | h
    · exact hA g h e
    · have := hYlt g e
      omega
  have hsz := hG.size
  refine ⟨?_, ?_, ?_⟩
  · refine kept_of_apart (x := y) (hX.alloc o) hG' ?_
    intro k hk e
    simp [Value.ownBlock] at e
    exact hgy (by rw [hk, e])
  · intro k hk e
    simp [Value.ownBlock] at hk e
    rcases hat' with h | h
    · exact hgy (by rw [h, e, hk])
    · simp at h
      omega
  · refine ((((Below.refl base w0).grown hG hbase fun k hk => (hX0.lt hk).1).alloc (by omega) o).grown hG' (by simp; omega) fun k hk => (hY0.lt hk).1)

end Go.Proofs.YtjoinhljdbljaaaGreat.Old
