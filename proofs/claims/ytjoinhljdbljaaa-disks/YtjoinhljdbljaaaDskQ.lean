/- A script of deeds as it lies in memory, and what holds of two disks while it is walked. -/
import Derived.Test.YtjoinhljdbljaaaDskO
import Derived.Test.YtjoinhljdbljaaaKeyO
import Derived.Laws.OwnMore
namespace Go.Proofs.Ytjoinhljdbljaaa
open Go.RowKit
open Go.ChangeMaps (setBlock)

structure D6 where
  w : Int
  k : Int
  a : Int
  b : Int
  c : Int
  t : ByteArray
def D6.cells (x : D6) : List Value := [.int .i64 x.w, .int .i64 x.k, .int .i64 x.a, .int .i64 x.b, .int .i64 x.c, .string x.t]
def flat6 (L : List D6) : List Value := L.flatMap D6.cells
theorem flat6_cons (x : D6) (L : List D6) : flat6 (x :: L) = .int .i64 x.w :: .int .i64 x.k :: .int .i64 x.a :: .int .i64 x.b :: .int .i64 x.c :: .string x.t :: flat6 L := by simp [flat6, D6.cells]
theorem flat6_len : ∀ L : List D6, (flat6 L).length = L.length * 6
  | [] => rfl
  | x :: L => by rw [flat6_cons]; have := flat6_len L; simp only [List.length_cons]; omega
theorem flat6_app (A B : List D6) : flat6 (A ++ B) = flat6 A ++ flat6 B := by simp [flat6]
theorem flat6_get : ∀ (L : List D6) (i : Nat) (x : D6), L[i]? = some x → (flat6 L)[i * 6]? = some (.int .i64 x.w) ∧ (flat6 L)[i * 6 + 1]? = some (.int .i64 x.k) ∧ (flat6 L)[i * 6 + 2]? = some (.int .i64 x.a) ∧
    (flat6 L)[i * 6 + 3]? = some (.int .i64 x.b) ∧ (flat6 L)[i * 6 + 4]? = some (.int .i64 x.c) ∧ (flat6 L)[i * 6 + 5]? = some (.string x.t)
  | [], _, _, h => by simp at h
  | y :: L, 0, x, h => by
    simp only [List.getElem?_cons_zero, Option.some.injEq] at h
    subst h
    rw [flat6_cons]
    simp
  | y :: L, i + 1, x, h => by
    have := flat6_get L i x (by simpa using h)
    rw [flat6_cons, show (i + 1) * 6 = i * 6 + 1 + 1 + 1 + 1 + 1 + 1 from by omega]
    simpa using this
theorem flat6_one (L : List D6) : ∀ u ∈ flat6 L, u.oneCell' = true := by
  intro u hu
  unfold flat6 at hu
  rw [List.mem_flatMap] at hu
  obtain ⟨x, _, hx⟩ := hu
  simp only [D6.cells, List.mem_cons, List.not_mem_nil, or_false] at hx
  rcases hx with rfl | rfl | rfl | rfl | rfl | rfl <;> rfl

def Lies6 (w : World) (v : Value) (L : List D6) : Prop := (v = .slice none 0 0 ∧ L = []) ∨ ∃ ad c, v = .slice (some ad) L.length c ∧ ∀ j u, (flat6 L)[j]? = some u → w.cell? (ad.add j) = some u
theorem cell_touch {w w' : World} {p : Addr} {u : Value} (h : w.cell? p = some u) (ht : Touch [] w w') : w'.cell? p = some u := by
  have hb : w'.heap[p.block]? = w.heap[p.block]? := ht.block _ (World.block_lt_of_cell? w p h) (by simp)
  rw [World.cell?_of_block (w := w) hb]
  exact h
theorem Lies6.touch {w w' : World} {v : Value} {L : List D6} (h : Lies6 w v L) (ht : Touch [] w w') : Lies6 w' v L := by
  rcases h with h | ⟨ad, c, hv, hx⟩
  · exact Or.inl h
  · exact Or.inr ⟨ad, c, hv, fun j u hj => cell_touch (hx j u hj) ht⟩

theorem info38 : (Try.prog.info? 38).map (fun i => (i.zero, i.size, i.bytes)) = some (some (.agg #[.int .i64 0, .int .i64 0, .int .i64 0, .int .i64 0, .int .i64 0, .string ⟨#[]⟩]), 6, 56) := by kernel_rfl

theorem drow_append {ops : Array Oper} {rest : List Oper} {o : Oper} {a : Act} {Q : Exit → Act → World → Prop} {w : World} (hgd : o.guard = none) (s x : Operand)
    (ho : o.op = .call { callee := .builtin .append, args := #[s, x], argTypes := #[22, 22] }) (base : Nat) (v : Value) (n : Nat) (xs : List Value) (hs : a.eval s = v) (hown : w.ownsRow base 38 6 v n xs)
    (sv : Value) (L : List D6) (hx : a.eval x = sv) (hL : Lies6 w sv L) (hlen : (n + L.length) * 56 ≤ 140737488355328) (hbase : base ≤ w.heap.size)
    (h : ∀ v' w', w'.ownsRow base 38 6 v' (n + L.length) (xs ++ flat6 L) → Below base w w' → wpList Try.prog ops Q rest (a.put o.dst v') w') : wpList Try.prog ops Q (o :: rest) a w := by
  obtain ⟨i0, hi, hz0, hz1, hz2⟩ := info_parts info38
  rcases hL with ⟨rfl, rfl⟩ | ⟨ad, c, rfl, hc⟩
  · refine wpList_plain hgd fun K hK => ?_
    have hr := run_append_owned_none (P := Try.prog) (w := w) base 22 o.type 38 i0 6 Try.underlying22 hi v n xs hown
    unfold Oper.wp execOp
    simp only [ho, resolve, invoke, builtin, Sem.run_bind, Sem.run_pure, Result.andThen_ok, List.map_toArray, List.map_cons, List.map_nil, hs, hx, hr]
    exact hK _ _ (h v w (by simpa [flat6] using hown) (Below.refl _ _))
  · refine wpList_append_own _ hgd s x 22 ho base 38 i0 (.agg #[.int .i64 0, .int .i64 0, .int .i64 0, .int .i64 0, .int .i64 0, .string ⟨#[]⟩]) 6 56 Try.underlying22 hi hz0 hz1 hz2 rfl (by decide) v _ _ hs hown ad L.length c (flat6 L) hx (flat6_len L) hc (flat6_one L) ?_ ?_ hbase ?_
    · unfold maxLen; omega
    · omega
    · intro v' w' h2 h3 _
      exact h v' w' h2 ((Below.refl _ _).grown h3 hbase fun k hk => (World.ownsRow.lt hown k hk).1)

theorem Touch.up {F : List Nat} {a w w' : World} (h : Below a.heap.size a w) (ht : Touch F w w') (hF : ∀ k ∈ F, a.heap.size ≤ k) : Below a.heap.size a w' :=
  h.trans ⟨ht.os, ht.tape, ht.output, ht.size, fun k hk => ht.block k (Nat.lt_of_lt_of_le hk h.size) (fun e => by have := hF k e; omega)⟩

/-- while the script is walked: two pairs of disks that are apart, and three blocks that nothing touches -/
structure Inv (w w7 wr : World) (X D g bx0 bd0 bx1 bd1 k : Nat) : Prop where
  ex : ∃ F0 F1, Duo wr bx0 bd0 F0 k ∧ Duo wr bx1 bd1 F1 k ∧ (∀ j ∈ F0, j ∉ F1) ∧ (∀ j, j ∈ F0 ∨ j ∈ F1 → w.heap.size ≤ j ∧ j ≠ X ∧ j ≠ D ∧ j ≠ g)
  hX : wr.heap[X]? = w7.heap[X]?
  hD : wr.heap[D]? = w7.heap[D]?
  hg : wr.heap[g]? = w7.heap[g]?
  lt : X < wr.heap.size ∧ D < wr.heap.size ∧ g < wr.heap.size
  below : Below w.heap.size w wr

theorem Inv.drew {w w7 wr : World} {X D g bx0 bd0 bx1 bd1 k : Nat} (h : Inv w w7 wr X D g bx0 bd0 bx1 bd1 k) : Inv w w7 wr.drew X D g bx0 bd0 bx1 bd1 k := by
  obtain ⟨F0, F1, h0, h1, ha, hb⟩ := h.ex
  have ht : Touch [] wr wr.drew := (Touch.refl _ _).drew
  exact ⟨⟨F0, F1, h0.away ht (by simp), h1.away ht (by simp), ha, hb⟩, h.hX, h.hD, h.hg, h.lt, Touch.up h.below ht (by simp)⟩

theorem Inv.step0 {w w7 wr : World} {X D g bx0 bd0 bx1 bd1 k : Nat} (h : Inv w w7 wr X D g bx0 bd0 bx1 bd1 k) : ∃ F0, Duo wr bx0 bd0 F0 k ∧ ∀ wr', After wr bx0 bd0 F0 k wr' → Inv w w7 wr' X D g bx0 bd0 bx1 bd1 (k + 1) := by
  obtain ⟨F0, F1, h0, h1, ha, hb⟩ := h.ex
  obtain ⟨l1, l2, l3⟩ := h.lt
  refine ⟨F0, h0, fun wr' ⟨F', h0', hs, ht⟩ => ⟨⟨F', F1, h0', (h1.away ht (fun k hk e => ha k e hk)).more, ?_, ?_⟩, ?_, ?_, ?_, ⟨Nat.lt_of_lt_of_le l1 ht.size, Nat.lt_of_lt_of_le l2 ht.size, Nat.lt_of_lt_of_le l3 ht.size⟩, Touch.up h.below ht (fun k hk => (hb k (Or.inl hk)).1)⟩⟩
  · intro j hj hj1
    rcases hs j hj with e | e
    · exact ha j e hj1
    · have := h1.lt j hj1; omega
  · intro j hj
    rcases hj with hj | hj
    · rcases hs j hj with e | e
      · exact hb j (Or.inl e)
      · exact ⟨Nat.le_trans h.below.size e, by omega, by omega, by omega⟩
    · exact hb j (Or.inr hj)
  · rw [ht.block X l1 (fun e => (hb X (Or.inl e)).2.1 rfl)]; exact h.hX
  · rw [ht.block D l2 (fun e => (hb D (Or.inl e)).2.2.1 rfl)]; exact h.hD
  · rw [ht.block g l3 (fun e => (hb g (Or.inl e)).2.2.2 rfl)]; exact h.hg

theorem Inv.swap {w w7 wr : World} {X D g bx0 bd0 bx1 bd1 k : Nat} (h : Inv w w7 wr X D g bx0 bd0 bx1 bd1 k) : Inv w w7 wr X D g bx1 bd1 bx0 bd0 k := by
  obtain ⟨F0, F1, h0, h1, ha, hb⟩ := h.ex
  exact ⟨⟨F1, F0, h1, h0, fun j hj e => ha j e hj, fun j hj => hb j hj.symm⟩, h.hX, h.hD, h.hg, h.lt, h.below⟩
theorem Inv.step1 {w w7 wr : World} {X D g bx0 bd0 bx1 bd1 k : Nat} (h : Inv w w7 wr X D g bx0 bd0 bx1 bd1 k) : ∃ F1, Duo wr bx1 bd1 F1 k ∧ ∀ wr', After wr bx1 bd1 F1 k wr' → Inv w w7 wr' X D g bx0 bd0 bx1 bd1 (k + 1) := by
  obtain ⟨F1, h1, h2⟩ := h.swap.step0
  exact ⟨F1, h1, fun wr' ha => (h2 wr' ha).swap⟩

theorem drow_cells {w : World} {base g n cap : Nat} {L : List D6} (h : w.ownsRow base 38 6 (.slice (some ⟨g, 0, none⟩) n cap) n (flat6 L)) (i : Nat) (x : D6) (hx : L[i]? = some x) :
    w.cell? ⟨g, i * 6, none⟩ = some (.int .i64 x.w) ∧ w.cell? ⟨g, i * 6 + 1, none⟩ = some (.int .i64 x.k) ∧ w.cell? ⟨g, i * 6 + 1 + 1, none⟩ = some (.int .i64 x.a) ∧ w.cell? ⟨g, i * 6 + 1 + 1 + 1, none⟩ = some (.int .i64 x.b) ∧
    w.cell? ⟨g, i * 6 + 1 + 1 + 1 + 1, none⟩ = some (.int .i64 x.c) ∧ w.cell? ⟨g, i * 6 + 1 + 1 + 1 + 1 + 1, none⟩ = some (.string x.t) := by
  have hn : n * 6 = L.length * 6 := by rw [← flat6_len]; exact h.1.symm
  have hi := (List.getElem?_eq_some_iff.1 hx).1
  obtain ⟨h0, h1, h2, h3, h4, h5⟩ := flat6_get L i x hx
  refine ⟨?_, ?_, ?_, ?_, ?_, ?_⟩
  · rw [h.cellAt _ (by omega)]; exact h0
  · rw [h.cellAt _ (by omega)]; exact h1
  · rw [h.cellAt _ (by omega)]; exact h2
  · rw [h.cellAt _ (by omega)]; exact h3
  · rw [h.cellAt _ (by omega)]; exact h4
  · rw [h.cellAt _ (by omega)]; exact h5

theorem encode_two (n : Int) (hn : I64 n) (w : World) (o : Obj) : Calls Try.prog 8 #[.slice (some ⟨w.heap.size + 1, 0, none⟩) 1 1, .slice (some ⟨w.heap.size + 1 + 1, 0, none⟩) 1 1]
    (((w.alloc o).alloc (.cells #[.int .i64 1, .int .i64 n, .string ⟨#[]⟩] 31)).alloc (.cells #[.int .i64 0, .bool false, .bool false] 35)) fun e w' => e = .returned (.string (sOne n)) ∧
      Below (w.heap.size + 1) (w.alloc o) w' := by
  have h1 := lies_one (w.alloc o) (w.heap.size + 2) (by simp) (.int .i64 1, .int .i64 n, .string ⟨#[]⟩) 31
  have h2 := h1.below ((Below.refl (w.heap.size + 2) _).alloc (by simp) (.cells #[.int .i64 0, .bool false, .bool false] 35))
  have h3 := lies_one ((w.alloc o).alloc (.cells #[.int .i64 1, .int .i64 n, .string ⟨#[]⟩] 31)) (w.heap.size + 3) (by simp) (.int .i64 0, .bool false, .bool false) 35
  simp only [World.size_alloc] at h1 h2 h3
  refine (Encode_any _ _ _ [⟨1, n, ⟨#[]⟩⟩] [⟨0, false, false⟩] 1 ?_ ?_ (by decide) (by simp) ?_ ?_).mono ?_
  · exact h2.mono (by simp)
  · exact h3.mono (by simp)
  · intro v hv
    simp only [List.mem_cons, List.not_mem_nil, or_false] at hv
    subst hv
    exact Or.inr (Or.inl ⟨rfl, hn, rfl⟩)
  · refine ⟨by decide, fun i hi _ => ?_, fun h => absurd h (by decide)⟩
    obtain rfl : i = 0 := by simpa using hi
    exact ⟨Int.le_refl _, by simp⟩
  · rintro e w' ⟨rfl, hB⟩
    refine ⟨rfl, ?_⟩
    exact (((Below.refl _ _).alloc (by simp) _).alloc (by simp) _).trans (hB.mono (by simp))
end Go.Proofs.Ytjoinhljdbljaaa
