/- The document's table and plan. -/
import Derived.Test.YtjoinhljdbljaaaVbP
import Derived.Test.YtjoinhljdbljaaaVbN
import Derived.Test.YtjoinhljdbljaaaVbX
namespace Go.Proofs.Ytjoinhljdbljaaa
open Go.RowKit

def bT : ByteArray := ⟨#[116]⟩
def bE : ByteArray := ⟨#[]⟩
def exT : List VT := [⟨bT, [1, 2], [[⟨1, 2, bE⟩, ⟨2, 0, ⟨#[98]⟩⟩], [⟨1, 1, bE⟩, ⟨2, 0, ⟨#[97]⟩⟩], [⟨0, 0, bE⟩, ⟨2, 0, ⟨#[99]⟩⟩], [⟨1, 2, bE⟩, ⟨2, 0, ⟨#[97]⟩⟩]]⟩]
def exN : List VN := [⟨1, 0, 0, bT, [], 0, [], [], []⟩, ⟨7, 0, 0, bE, [], 0, [0], [], [⟨1, 0⟩, ⟨3, 1⟩]⟩]

theorem lies_new (W : World) (H : Nat) (hH : W.heap.size = H) (cs : List Value) (e : TypeId) (sz n : Nat) (hl : cs.length = n * sz) (hn : n ≤ maxLen) : LiesC (W.alloc (.cells cs.toArray e)) [] (.slice (some ⟨H, 0, none⟩) n n) sz n cs := by
  subst hH
  refine ⟨_, n, rfl, Nat.le_refl _, hn, hl, fun _ => ⟨W.heap.size, 0, rfl, by simp, fun j u hj => ?_⟩⟩
  have e : (W.alloc (.cells cs.toArray e)).heap[W.heap.size]? = some (.cells cs.toArray e) := by rw [← World.alloc_eq]; simp
  simp only [World.cell?, e, Nat.zero_add]
  simpa using hj
theorem LiesC.al {w : World} {v : Value} {sz n : Nat} {cs : List Value} (h : LiesC w [] v sz n cs) (hs : 1 ≤ sz) (o : Obj) : LiesC (w.alloc o) [] v sz n cs := h.step hs (Step.of ((Touch.refl _ _).alloc o))
theorem maxL (n : Nat) (h : n ≤ 100) : n ≤ maxLen := by unfold maxLen; omega
set_option maxHeartbeats 4000000 in
theorem example_any (w : World) : Calls Try.prog 12 #[] w fun e w' => ∃ v, e = .returned v ∧ TabsIn w' [] v exT ∧ Below w.heap.size w w' := by
  go_enter Try.func12, Try.ntmps12
  go_wp2
  go_ret
  refine ⟨_, rfl, ⟨[(bT, .slice (some ⟨w.heap.size + 1 + 1, 0, none⟩) 2 2, .slice (some ⟨w.heap.size + 1 + 1 + 1 + 1 + 1 + 1 + 1, 0, none⟩) 4 4)], rfl, (lies_new _ (w.heap.size + 1 + 1 + 1 + 1 + 1 + 1 + 1 + 1) (by simp) [.string ⟨#[116]⟩, .slice (some ⟨w.heap.size + 1 + 1, 0, none⟩) 2 2, .slice (some ⟨w.heap.size + 1 + 1 + 1 + 1 + 1 + 1 + 1, 0, none⟩) 4 4] 95 3 1 rfl (maxL _ (by decide))), fun i t p ht hp => ?_⟩, by repeat (first | exact Below.refl _ _ | refine Below.alloc ?_ (by simp; try omega) _)⟩
  have hi : i < 1 := (List.getElem?_eq_some_iff.1 ht).1
  obtain rfl : i = 0 := by omega
  cases ht
  cases hp
  refine ⟨rfl, (LiesC.al (LiesC.al (LiesC.al (LiesC.al (LiesC.al (LiesC.al (lies_new _ (w.heap.size + 1 + 1) (by simp) [.int .i64 1, .int .i64 2] 3 1 2 rfl (maxL _ (by decide))) (by decide) _) (by decide) _) (by decide) _) (by decide) _) (by decide) _) (by decide) _), [.slice (some ⟨w.heap.size + 1 + 1 + 1, 0, none⟩) 2 2, .slice (some ⟨w.heap.size + 1 + 1 + 1 + 1, 0, none⟩) 2 2, .slice (some ⟨w.heap.size + 1 + 1 + 1 + 1 + 1, 0, none⟩) 2 2, .slice (some ⟨w.heap.size + 1 + 1 + 1 + 1 + 1 + 1, 0, none⟩) 2 2], rfl, (LiesC.al (lies_new _ (w.heap.size + 1 + 1 + 1 + 1 + 1 + 1 + 1) (by simp) [.slice (some ⟨w.heap.size + 1 + 1 + 1, 0, none⟩) 2 2, .slice (some ⟨w.heap.size + 1 + 1 + 1 + 1, 0, none⟩) 2 2, .slice (some ⟨w.heap.size + 1 + 1 + 1 + 1 + 1, 0, none⟩) 2 2, .slice (some ⟨w.heap.size + 1 + 1 + 1 + 1 + 1 + 1, 0, none⟩) 2 2] 97 1 4 rfl (maxL _ (by decide))) (by decide) _), fun i r u hr hu => ?_⟩
  have hi : i < 4 := (List.getElem?_eq_some_iff.1 hr).1
  obtain rfl | rfl | rfl | rfl : i = 0 ∨ i = 1 ∨ i = 2 ∨ i = 3 := by omega
  · cases hr
    cases hu
    exact (LiesC.al (LiesC.al (LiesC.al (LiesC.al (LiesC.al (lies_new _ (w.heap.size + 1 + 1 + 1) (by simp) [.int .i64 1, .int .i64 2, .string ⟨#[]⟩, .int .i64 2, .int .i64 0, .string ⟨#[98]⟩] 99 3 2 rfl (maxL _ (by decide))) (by decide) _) (by decide) _) (by decide) _) (by decide) _) (by decide) _)
  · cases hr
    cases hu
    exact (LiesC.al (LiesC.al (LiesC.al (LiesC.al (lies_new _ (w.heap.size + 1 + 1 + 1 + 1) (by simp) [.int .i64 1, .int .i64 1, .string ⟨#[]⟩, .int .i64 2, .int .i64 0, .string ⟨#[97]⟩] 99 3 2 rfl (maxL _ (by decide))) (by decide) _) (by decide) _) (by decide) _) (by decide) _)
  · cases hr
    cases hu
    exact (LiesC.al (LiesC.al (LiesC.al (lies_new _ (w.heap.size + 1 + 1 + 1 + 1 + 1) (by simp) [.int .i64 0, .int .i64 0, .string ⟨#[]⟩, .int .i64 2, .int .i64 0, .string ⟨#[99]⟩] 99 3 2 rfl (maxL _ (by decide))) (by decide) _) (by decide) _) (by decide) _)
  · cases hr
    cases hu
    exact (LiesC.al (LiesC.al (lies_new _ (w.heap.size + 1 + 1 + 1 + 1 + 1 + 1) (by simp) [.int .i64 1, .int .i64 2, .string ⟨#[]⟩, .int .i64 2, .int .i64 0, .string ⟨#[97]⟩] 99 3 2 rfl (maxL _ (by decide))) (by decide) _) (by decide) _)
set_option maxHeartbeats 4000000 in
theorem grouped14_any (w : World) : Calls Try.prog 14 #[] w fun e w' => ∃ v, e = .returned v ∧ NodesIn w' [] v exN ∧ Below w.heap.size w w' := by
  go_enter Try.func14, Try.ntmps14
  go_wp2
  go_ret
  refine ⟨_, rfl, ⟨[(.slice none 0 0, .slice none 0 0, .slice none 0 0, .slice none 0 0), (.slice none 0 0, .slice (some ⟨w.heap.size, 0, none⟩) 1 1, .slice none 0 0, .slice (some ⟨w.heap.size + 1, 0, none⟩) 2 2)], rfl, (lies_new _ (w.heap.size + 1 + 1) (by simp) [.int .i64 1, .int .i64 0, .int .i64 0, .string ⟨#[116]⟩, .slice none 0 0, .int .i64 0, .slice none 0 0, .slice none 0 0, .slice none 0 0, .int .i64 7, .int .i64 0, .int .i64 0, .string ⟨#[]⟩, .slice none 0 0, .int .i64 0, .slice (some ⟨w.heap.size, 0, none⟩) 1 1, .slice none 0 0, .slice (some ⟨w.heap.size + 1, 0, none⟩) 2 2] 106 9 2 rfl (maxL _ (by decide))), fun i n p hn hp => ?_⟩, by repeat (first | exact Below.refl _ _ | refine Below.alloc ?_ (by simp; try omega) _)⟩
  have hi : i < 2 := (List.getElem?_eq_some_iff.1 hn).1
  obtain rfl | rfl : i = 0 ∨ i = 1 := by omega
  · cases hn
    cases hp
    exact ⟨⟨none, 0, rfl, by simp, maxL _ (by decide), rfl, fun h => by simp at h⟩, ⟨none, 0, rfl, by simp, maxL _ (by decide), rfl, fun h => by simp at h⟩, ⟨none, 0, rfl, by simp, maxL _ (by decide), rfl, fun h => by simp at h⟩, ⟨none, 0, rfl, by simp, maxL _ (by decide), rfl, fun h => by simp at h⟩⟩
  · cases hn
    cases hp
    exact ⟨⟨none, 0, rfl, by simp, maxL _ (by decide), rfl, fun h => by simp at h⟩, (LiesC.al (LiesC.al (lies_new _ (w.heap.size) (by simp) [.int .i64 0] 3 1 1 rfl (maxL _ (by decide))) (by decide) _) (by decide) _), ⟨none, 0, rfl, by simp, maxL _ (by decide), rfl, fun h => by simp at h⟩, (LiesC.al (lies_new _ (w.heap.size + 1) (by simp) [.int .i64 1, .int .i64 0, .int .i64 3, .int .i64 1] 110 2 2 rfl (maxL _ (by decide))) (by decide) _)⟩
end Go.Proofs.Ytjoinhljdbljaaa
