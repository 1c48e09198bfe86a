/- The inputs of a node. -/
import Derived.Test.YtjoinhljdbljaaaValP
namespace Go.Proofs.Ytjoinhljdbljaaa
open Go.RowKit
/-- a new list of numbers comes back -/
def ListPost (l : List Int) (w : World) : Ending → World → Prop := fun e w' => ∃ ao cap, e = .returned (.slice ao l.length cap) ∧ (∀ F : List Nat, (∀ k ∈ F, k < w.heap.size) → IntsIn w' F (.slice ao l.length cap) l) ∧ Below w.heap.size w w'

theorem IntsIn.fresh (W : World) (H : Nat) (hH : W.heap.size = H) (l : List Int) (hl : l.length ≤ maxLen) (e : TypeId) (F : List Nat) (hF : ∀ k ∈ F, k < H) : IntsIn (W.alloc (.cells (ints l).toArray e)) F (.slice (some ⟨H, 0, none⟩) l.length l.length) l := by
  subst hH
  refine ⟨_, _, rfl, Nat.le_refl _, hl, by simp [ints], fun _ => ⟨W.heap.size, 0, rfl, fun hm => by have := hF _ hm; omega, fun j u hj => ?_⟩⟩
  have e : (W.alloc (.cells (ints l).toArray e)).heap[W.heap.size]? = some (.cells (ints l).toArray e) := by rw [← World.alloc_eq]; simp
  simp only [World.cell?, e, Nat.zero_add]
  simpa using hj

set_option maxHeartbeats 2000000 in
theorem inputs_any (w : World) (n : VN) (p : NP) : Calls Try.prog 86 #[nodeV n p] w (ListPost (ins n) w) := by
  obtain ⟨op, lf, rt, tb, ks, ct, cols, ots, sums⟩ := n
  obtain ⟨kv, cv, ov, sv⟩ := p
  unfold nodeV ins
  simp only
  go_enter Try.func86, Try.ntmps86
  by_cases h1 : op = 1
  · subst h1
    go_wp2
    go_ret
    exact ⟨none, 0, rfl, fun F _ => ⟨none, 0, rfl, by simp, by simp [maxLen], by simp [ints], fun h => by simp at h⟩, (Below.refl _ _).alloc (Nat.le_refl _) _⟩
  · by_cases h4 : op = 4 ∨ op = 5
    · simp only [h1, h4, if_true, if_false]
      obtain rfl | rfl := h4
      all_goals
        go_wp2
        go_ret
        exact ⟨_, _, rfl, fun F hF => IntsIn.fresh _ (w.heap.size + 1) (by simp) [lf, rt] (by simp [maxLen]) 3 F (fun k hk => by have := hF k hk; omega), ((Below.refl _ _).alloc (Nat.le_refl _) _).alloc (by simp) _⟩
    · simp only [h1, h4, if_false]
      have h4a : (op == 4) = false := by simp; omega
      have h4b : (op == 5) = false := by simp; omega
      have h1a : (op == 1) = false := by simp; omega
      clear h4
      go_wp2
      go_ret
      exact ⟨_, _, rfl, fun F hF => IntsIn.fresh _ (w.heap.size + 1) (by simp) [lf] (by simp [maxLen]) 3 F (fun k hk => by have := hF k hk; omega), ((Below.refl _ _).alloc (Nat.le_refl _) _).alloc (by simp) _⟩
end Go.Proofs.Ytjoinhljdbljaaa
