/- The document's columns of a node: what stands in memory. -/
import Derived.Test.YtjoinhljdbljaaaVbW
import Derived.Test.YtjoinhljdbljaaaValS
import Derived.Test.YtjoinhljdbljaaaValJ
import Derived.Deep.RegionHeld3
namespace Go.Proofs.Ytjoinhljdbljaaa
open Go.RowKit

/-- what the document's test of a plan keeps -/
structure KSt (w : World) (F : List Nat) (bk gd gu : Nat) (cv : Value) (cs : List (List Int)) (n : Nat) (D U : List Int) : Prop where
  c0 : w.cell? ⟨bk, 0, none⟩ = some cv
  c1 : w.cell? ⟨bk, 1, none⟩ = some (.slice (some ⟨gd, 0, none⟩) n n)
  c2 : w.cell? ⟨bk, 2, none⟩ = some (.slice (some ⟨gu, 0, none⟩) n n)
  d : PA w gd 3 n (ints D)
  u : PA w gu 3 n (ints U)
  dl : D.length = n
  ul : U.length = n
  dne : gd ≠ gu
  bkd : bk ≠ gd
  bku : bk ≠ gu
  cols : ∃ ao cap, cv = .slice ao cs.length cap ∧ cs.length ≤ cap ∧ cap ≤ maxLen ∧ ∀ j (h : j < cs.length), ∃ b, ao = some ⟨b, 0, none⟩ ∧ b ≠ gd ∧ b ≠ gu ∧ ∃ u, w.cell? ⟨b, j, none⟩ = some u ∧ IntsIn w F u cs[j]
  fd : gd ∈ F
  fu : gu ∈ F
theorem cell_touch {F : List Nat} {w w' : World} (h : Touch F w w') {b o : Nat} {u : Value} (hb : b ∉ F) (hc : w.cell? ⟨b, o, none⟩ = some u) : w'.cell? ⟨b, o, none⟩ = some u := by
  rw [World.cell?_of_block (w := w) (a := ⟨b, o, none⟩) (h.block b (World.block_lt_of_cell? w _ hc) hb)]
  exact hc
/-- the two arrays of numbers are written -/
theorem KSt.turn {w w' : World} {F : List Nat} {bk gd gu : Nat} {cv : Value} {cs : List (List Int)} {n : Nat} {D U D' U' : List Int} (h : KSt w F bk gd gu cv cs n D U) (ht : Touch [gd, gu] w w') (hd : PA w' gd 3 n (ints D')) (hu : PA w' gu 3 n (ints U')) (hdl : D'.length = n) (hul : U'.length = n) : KSt w' F bk gd gu cv cs n D' U' := by
  have hst : Step F F w w' := ⟨ht.mono (fun k hk => by simp at hk; rcases hk with rfl | rfl; exact h.fd; exact h.fu), fun _ h => Or.inl h⟩
  refine ⟨cell_touch ht (by simp [h.bkd, h.bku]) h.c0, cell_touch ht (by simp [h.bkd, h.bku]) h.c1, cell_touch ht (by simp [h.bkd, h.bku]) h.c2, hd, hu, hdl, hul, h.dne, h.bkd, h.bku, ?_, h.fd, h.fu⟩
  obtain ⟨ao, cap, e, h1, h2, h3⟩ := h.cols
  refine ⟨ao, cap, e, h1, h2, fun j hj => ?_⟩
  obtain ⟨b, e1, n1, n2, u, hu, hi⟩ := h3 j hj
  exact ⟨b, e1, n1, n2, u, cell_touch ht (by simp [n1, n2]) hu, hi.step hst⟩
theorem KSt.b {w w' : World} {F : List Nat} {bk gd gu : Nat} {cv : Value} {cs : List (List Int)} {n : Nat} {D U : List Int} (h : KSt w F bk gd gu cv cs n D U) (hb : Below w.heap.size w w') : KSt w' F bk gd gu cv cs n D U := h.turn ((Below.t hb).mono (by simp)) (h.d.b hb) (h.u.b hb) h.dl h.ul
theorem KSt.left {w : World} {F : List Nat} {bk gd gu : Nat} {cv : Value} {cs : List (List Int)} {n : Nat} {D U : List Int} (h : KSt w F bk gd gu cv cs n D U) {x : Int} (h0 : 0 ≤ x) (h1 : x < (cs.length : Int)) : ∃ c : Nat, x = (c : Int) ∧ c < cs.length ∧ ∃ gc lo lcap cap, cv = .slice (some ⟨gc, 0, none⟩) cs.length cap ∧ cs.length ≤ cap ∧ gc ≠ gd ∧ gc ≠ gu ∧ w.cell? ⟨gc, c, none⟩ = some (.slice lo (cs.getD c []).length lcap) ∧ IntsIn w F (.slice lo (cs.getD c []).length lcap) (cs.getD c []) := by
  obtain ⟨ao, cap, e, h2, h3, h4⟩ := h.cols
  have hc : x.toNat < cs.length := by omega
  obtain ⟨b, e1, n1, n2, u, hu, hi⟩ := h4 x.toNat hc
  obtain ⟨lo, lcap, rfl, _⟩ := hi.open
  have eg : cs.getD x.toNat [] = cs[x.toNat] := by simp [hc]
  refine ⟨x.toNat, by omega, hc, b, lo, lcap, cap, by rw [e, e1], h2, n1, n2, by rw [eg]; exact hu, by rw [eg]; exact hi⟩
def NodePost (T : List VT) (cs : List (List Int)) (nd : VN) (i : Nat) (w : World) (F : List Nat) (gd gu n : Nat) (D A : List Int) : Ending → World → Prop := fun e w' =>
  ∃ ao m cap b, e = .returned (.tuple #[.slice ao m cap, .bool b]) ∧ (b = true ↔ Ahead nd i ∧ NodeOK T cs nd) ∧ (b = true → IntsIn w' F (.slice ao m cap) (nodeL T cs nd) ∧ PA w' gd 3 n (ints (D.set i (if nd.op = 1 then 1 else if nd.op = 4 ∨ nd.op = 5 then 1 + max (D.getD nd.left.toNat 0) (D.getD nd.right.toNat 0) else 1 + D.getD nd.left.toNat 0))) ∧ PA w' gu 3 n (ints (cntL n (A ++ ins nd)))) ∧ Touch [gd, gu] w w'
end Go.Proofs.Ytjoinhljdbljaaa
