/- The walk of Keys. -/
import Derived.Test.YtjoinhljdbljaaaKeyK
import Derived.Test.YtjoinhljdbljaaaKeyM
namespace Go.Proofs.Ytjoinhljdbljaaa
open Go.RowKit

theorem Own3.lies {w : World} {base : Nat} {v : Value} {l : List T3} (h : Own3 w base v l) : Lies w w.heap.size v l := by
  obtain ⟨h1, h2⟩ := h
  rcases h2 with ⟨rfl, h0⟩ | ⟨g, cap, cur, rfl, hb, hh, hc, hm, hs, ht⟩
  · have : l = [] := List.eq_nil_of_length_eq_zero h0
    subst this
    exact ⟨none, 0, rfl, Nat.le_refl _, by unfold maxLen; omega, fun h => by simp at h⟩
  · refine ⟨_, cap, rfl, hc, hm, fun _ => ⟨g, 0, rfl, (Array.getElem?_eq_some_iff.1 hh).1, fun i hi => ?_⟩⟩
    obtain ⟨a0, a1, a2⟩ := t3s_get l i hi
    have key : ∀ j u, (t3s l)[j]? = some u → w.cell? ⟨g, 0 + j, none⟩ = some u := by
      intro j u hj
      have hjl : j < l.length * 3 := by rw [← t3s_len]; exact (List.getElem?_eq_some_iff.1 hj).1
      rw [← ht, List.getElem?_take, if_pos hjl] at hj
      simp only [Nat.zero_add, World.cell?, hh]
      simpa using hj
    exact ⟨key _ _ a0, key _ _ a1, key _ _ a2⟩

theorem cleanV_fair (v : V) (h : I64 v.n) : Fair (cleanV v) := by
  unfold cleanV
  split
  · exact Or.inr (Or.inl ⟨rfl, h, rfl⟩)
  · split
    · refine Or.inr (Or.inr (Or.inl ⟨rfl, rfl, ?_⟩))
      show (cut200 v.s).size ≤ 200
      unfold cut200
      split
      · simp; omega
      · omega
    · split
      · have := pick2 v.n
        exact Or.inr (Or.inr (Or.inr ⟨rfl, by show pickN v.n 2 = 0 ∨ pickN v.n 2 = 1; omega, rfl⟩))
      · exact Or.inl ⟨rfl, rfl, rfl⟩

theorem fitTo_pair (a b : V) (ha : I64 a.n) (hb : I64 b.n) : Pair (cleanV a) (fitTo a b) := by
  have f1 := cleanV_fair a ha
  have f2 := cleanV_fair b hb
  unfold fitTo
  split
  · exact ⟨f1, f2, Or.inl (by assumption)⟩
  · split
    · exact ⟨f1, f2, Or.inr (Or.inr (by rename_i h; exact h.symm))⟩
    · exact ⟨f1, Or.inl ⟨rfl, rfl, rfl⟩, Or.inr (Or.inl rfl)⟩

theorem alike_lens (us vs : List V) : (alikeX us vs).length = min us.length vs.length ∧ (alikeY us vs).length = min us.length vs.length := by simp [alikeX, alikeY]

theorem alike_pair (us vs : List V) (ha : ∀ v ∈ us, I64 v.k ∧ I64 v.n) (hb : ∀ v ∈ vs, I64 v.k ∧ I64 v.n) : ∀ i (h : i < (alikeX us vs).length), Pair (alikeX us vs)[i] ((alikeY us vs)[i]'(by have := alike_lens us vs; omega)) := by
  intro i h
  have hl := alike_lens us vs
  simp only [alikeX, alikeY, List.getElem_zipWith]
  exact fitTo_pair _ _ (ha _ (List.getElem_mem _)).2 (hb _ (List.getElem_mem _)).2

theorem alikeX_fair (us vs : List V) (ha : ∀ v ∈ us, I64 v.k ∧ I64 v.n) (hb : ∀ v ∈ vs, I64 v.k ∧ I64 v.n) : ∀ v ∈ alikeX us vs, Fair v := by
  intro v hv
  obtain ⟨i, hi, rfl⟩ := List.getElem_of_mem hv
  exact (alike_pair us vs ha hb i hi).1
theorem alikeY_fair (us vs : List V) (ha : ∀ v ∈ us, I64 v.k ∧ I64 v.n) (hb : ∀ v ∈ vs, I64 v.k ∧ I64 v.n) : ∀ v ∈ alikeY us vs, Fair v := by
  intro v hv
  obtain ⟨i, hi, rfl⟩ := List.getElem_of_mem hv
  have hl := alike_lens us vs
  exact (alike_pair us vs ha hb i (by omega)).2.1

set_option maxHeartbeats 1000000 in
theorem alike_any (w : World) (rv sv : Value) (xs ys : List V) (hr : Lies w w.heap.size rv (xs.map V.t)) (hs : Lies w w.heap.size sv (ys.map V.t))
    (hx : xs.length ≤ 1048576) (hy : ys.length ≤ 1048576) (hix : ∀ v ∈ xs, I64 v.k ∧ I64 v.n) (hiy : ∀ v ∈ ys, I64 v.k ∧ I64 v.n) :
    Calls Try.prog 21 #[rv, sv] w fun e w' => ∃ x y, e = .returned (.tuple #[x, y]) ∧ Own3 w' w.heap.size x ((alikeX xs ys).map V.t) ∧ Own3 w' w.heap.size y ((alikeY xs ys).map V.t) ∧ Below w.heap.size w w' := by
  by_cases h1 : 1 ≤ xs.length
  · by_cases h2 : 1 ≤ ys.length
    · exact alike_some w rv sv xs ys hr hs hx hy hix hiy h1 h2
    · have e : ys = [] := by cases ys <;> simp_all
      subst e
      have e1 : alikeX xs [] = [] := by simp [alikeX]
      have e2 : alikeY xs [] = [] := by simp [alikeY]
      rw [e1, e2]
      obtain ⟨ao, cap, rfl, _, _, _⟩ := hr
      obtain ⟨so, scap, rfl, _, _, _⟩ := hs
      simp only [List.length_map, List.map_nil, List.length_nil] at *
      clear hix hiy e1 e2
      go_enter Try.func21, Try.ntmps21
      go_wp2
      refine wp_loop_rounds 1 ?_
      rw [rounds_succ]
      go_wp2
      go_ret2
      exact ⟨_, _, rfl, World.ownsRow_nil _ _ _ _, World.ownsRow_nil _ _ _ _, Below.refl _ _⟩
  · have e : xs = [] := by cases xs <;> simp_all
    subst e
    have e1 : alikeX [] ys = [] := by simp [alikeX]
    have e2 : alikeY [] ys = [] := by simp [alikeY]
    rw [e1, e2]
    obtain ⟨ao, cap, rfl, _, _, _⟩ := hr
    obtain ⟨so, scap, rfl, _, _, _⟩ := hs
    simp only [List.length_map, List.map_nil, List.length_nil] at *
    clear hix hiy e1 e2
    go_enter Try.func21, Try.ntmps21
    go_wp2
    refine wp_loop_rounds 1 ?_
    rw [rounds_succ]
    go_wp2
    go_ret2
    exact ⟨_, _, rfl, World.ownsRow_nil _ _ _ _, World.ownsRow_nil _ _ _ _, Below.refl _ _⟩
end Go.Proofs.Ytjoinhljdbljaaa
