/- The state while nodes are lent. -/
import Derived.Test.YtjoinhljdbljaaaVbG
import Derived.Test.YtjoinhljdbljaaaValU
import Derived.Deep.RegionHeld3
namespace Go.Proofs.Ytjoinhljdbljaaa
open Go.RowKit

theorem go_apart2 {bx go nT : Nat} {w : World} {Vf : Nat → Value} {X : Nat → List Value} {tb : List Value} (h : Lent w bx Vf X) (hp : PA w go 102 nT tb) : go ∉ LF bx Vf := h.apart hp (by decide) (fun f hf => by
  obtain rfl | rfl | rfl | rfl | rfl : f = 0 ∨ f = 1 ∨ f = 2 ∨ f = 3 ∨ f = 4 := by omega
  all_goals decide)
/-- bx is what is lent, go the nodes, bn the node that is read -/
def NLent (w0 : World) (bx go bn nT : Nat) (w : World) (tb cs : List Value) (Vf : Nat → Value) (X : Nat → List Value) : Prop :=
  Lent w bx Vf X ∧ Marked w (go :: LF bx Vf) X ∧ PA w go 102 nT tb ∧ Box9 w bn cs ∧ bn ∉ LF bx Vf ∧ (∀ b ∈ LF bx Vf, w0.heap.size ≤ b) ∧ Below w0.heap.size w0 w
theorem Box9.touch {F : List Nat} {w w' : World} {g : Nat} {cs : List Value} (h : Box9 w g cs) (ht : Touch F w w') (hg : g ∉ F) : Box9 w' g cs :=
  ⟨Nat.lt_of_lt_of_le h.1 ht.size, fun r u hr => by
    rw [World.cell?_of_block (w := w) (a := ⟨g, r, none⟩) (ht.block g h.1 hg)]
    exact h.2 r u hr⟩
theorem NLent.next {w0 : World} {bx go bn nT : Nat} {w w' : World} {tb cs : List Value} {Vf V' : Nat → Value} {X X' : Nat → List Value} (h : NLent w0 bx go bn nT w tb cs Vf X) (hL : Lent w' bx V' X') (hst : Step (LF bx Vf) (LF bx V') w w') (hM : Marked w' (go :: LF bx V') X') : NLent w0 bx go bn nT w' tb cs V' X' := by
  obtain ⟨h1, h2, h3, h4, h5, h6, h7⟩ := h
  refine ⟨hL, hM, h3.touch hst.1 (go_apart2 h1 h3), h4.touch hst.1 h5, fun e => ?_, fun b hb => ?_, hst.1.up h7 h6⟩
  · rcases hst.2 _ e with e | e
    · exact h5 e
    · have := h4.1; omega
  · rcases hst.2 b hb with e | e
    · exact h6 b e
    · have := h7.size; omega
def NextPost (w0 : World) (bx go bn nT : Nat) (w : World) (tb cs : List Value) (Vf : Nat → Value) (X : Nat → List Value) (f n : Nat) (Φ : World → List Nat → Value → Prop) : Ending → World → Prop := fun e w' =>
  ∃ g V', e = .returned (.slice (some ⟨g, 0, none⟩) n (n + 8)) ∧ NLent w0 bx go bn nT w' tb cs V' (upd X f (X f ++ [.slice (some ⟨g, 0, none⟩) n (n + 8)])) ∧ Φ w' (go :: LF bx V') (.slice (some ⟨g, 0, none⟩) n (n + 8)) ∧ Step (go :: LF bx Vf) (go :: LF bx V') w w'
theorem number_next {w0 : World} {bx go bn nT : Nat} {w : World} {tb cs : List Value} {Vf : Nat → Value} {X : Nat → List Value} (h : NLent w0 bx go bn nT w tb cs Vf X) (v : Value) (l : List Int) (hv : IntsIn w0 [] v l) (hl : l.length ≤ 1048576) (hX : (X 2).length ≤ 100000000) :
    Calls Try.prog 42 #[.pointer (some ⟨bx, 0, none⟩), v] w (NextPost w0 bx go bn nT w tb cs Vf X 2 l.length fun w' F r => FullI w' F r l) := by
  refine (number_any w bx Vf X h.1 v l (hv.step (F' := LF bx Vf) ⟨Below.t h.2.2.2.2.2.2, fun b hb => Or.inr (h.2.2.2.2.2.1 b hb)⟩) hl hX).mono ?_
  rintro e w' ⟨r, V', rfl, hr, hL, hst⟩
  have hs2 : Step (go :: LF bx Vf) (go :: LF bx V') w w' := hst.ext [go]
  have hp := h.2.2.1.touch hst.1 (go_apart2 h.1 h.2.2.1)
  have hr2 : FullI w' (go :: LF bx V') r l := Full.more hr hp (by decide)
  obtain ⟨g, hg, _⟩ := hr
  subst hg
  exact ⟨g, V', rfl, h.next hL hst ((h.2.1.step hs2).n hr2), hr2, hs2⟩
theorem key_next {w0 : World} {bx go bn nT : Nat} {w : World} {tb cs : List Value} {Vf : Nat → Value} {X : Nat → List Value} (h : NLent w0 bx go bn nT w tb cs Vf X) (v : Value) (l : List K) (hv : KeysIn w0 [] v l) (hl : l.length ≤ 1048576) (hX : (X 3).length ≤ 100000000) :
    Calls Try.prog 43 #[.pointer (some ⟨bx, 0, none⟩), v] w (NextPost w0 bx go bn nT w tb cs Vf X 3 l.length fun w' F r => FullK w' F r l) := by
  refine (key_any w bx Vf X h.1 v l (hv.step (F' := LF bx Vf) ⟨Below.t h.2.2.2.2.2.2, fun b hb => Or.inr (h.2.2.2.2.2.1 b hb)⟩) hl hX).mono ?_
  rintro e w' ⟨r, V', rfl, hr, hL, hst⟩
  have hs2 : Step (go :: LF bx Vf) (go :: LF bx V') w w' := hst.ext [go]
  have hp := h.2.2.1.touch hst.1 (go_apart2 h.1 h.2.2.1)
  have hr2 : FullK w' (go :: LF bx V') r l := Full.more hr hp (by decide)
  obtain ⟨g, hg, _⟩ := hr
  subst hg
  exact ⟨g, V', rfl, h.next hL hst ((h.2.1.step hs2).k hr2), hr2, hs2⟩
theorem sum_next {w0 : World} {bx go bn nT : Nat} {w : World} {tb cs : List Value} {Vf : Nat → Value} {X : Nat → List Value} (h : NLent w0 bx go bn nT w tb cs Vf X) (v : Value) (l : List VS) (hv : SumsIn w0 [] v l) (hl : l.length ≤ 1048576) (hX : (X 4).length ≤ 100000000) :
    Calls Try.prog 44 #[.pointer (some ⟨bx, 0, none⟩), v] w (NextPost w0 bx go bn nT w tb cs Vf X 4 l.length fun w' F r => FullS w' F r l) := by
  refine (sum_any w bx Vf X h.1 v l (hv.step (F' := LF bx Vf) ⟨Below.t h.2.2.2.2.2.2, fun b hb => Or.inr (h.2.2.2.2.2.1 b hb)⟩) hl hX).mono ?_
  rintro e w' ⟨r, V', rfl, hr, hL, hst⟩
  have hs2 : Step (go :: LF bx Vf) (go :: LF bx V') w w' := hst.ext [go]
  have hp := h.2.2.1.touch hst.1 (go_apart2 h.1 h.2.2.1)
  have hr2 : FullS w' (go :: LF bx V') r l := Full.more hr hp (by decide)
  obtain ⟨g, hg, _⟩ := hr
  subst hg
  exact ⟨g, V', rfl, h.next hL hst ((h.2.1.step hs2).s hr2), hr2, hs2⟩

def blankN : VN := ⟨-77, 0, 0, ⟨#[]⟩, [], 0, [], [], []⟩
def nil4 : NP := (.slice none 0 0, .slice none 0 0, .slice none 0 0, .slice none 0 0)
def NodAt (w : World) (F : List Nat) (N : List VN) (qs : List (VN × NP)) : Prop := ∀ i q, qs[i]? = some q → (∀ h : i < N.length, q.1 = N[i] ∧ FullK w F q.2.1 N[i].keys ∧ FullI w F q.2.2.1 N[i].cols ∧ FullI w F q.2.2.2.1 N[i].others ∧ FullS w F q.2.2.2.2 N[i].sums) ∧ (N.length ≤ i → q = (blankN, nil4))
theorem NodAt.step {F F' : List Nat} {w w' : World} {N : List VN} {qs : List (VN × NP)} (h : NodAt w F N qs) (hs : Step F F' w w') : NodAt w' F' N qs := fun i q hq => ⟨fun hi => by
  obtain ⟨a, b, c, d, e⟩ := (h i q hq).1 hi
  exact ⟨a, Full.step b hs, Full.step c hs, Full.step d hs, Full.step e hs⟩, (h i q hq).2⟩
theorem NodAt.snoc {F : List Nat} {w : World} {N : List VN} {qs : List (VN × NP)} (h : NodAt w F N qs) {q : VN × NP} (h1 : ∀ h : qs.length < N.length, q.1 = N[qs.length] ∧ FullK w F q.2.1 N[qs.length].keys ∧ FullI w F q.2.2.1 N[qs.length].cols ∧ FullI w F q.2.2.2.1 N[qs.length].others ∧ FullS w F q.2.2.2.2 N[qs.length].sums) (h2 : N.length ≤ qs.length → q = (blankN, nil4)) : NodAt w F N (qs ++ [q]) := by
  intro i p hp
  by_cases e : i < qs.length
  · rw [List.getElem?_append_left e] at hp
    exact h i p hp
  · have hl := (List.getElem?_eq_some_iff.1 hp).1
    simp at hl
    obtain rfl : i = qs.length := by omega
    rw [List.getElem?_append_right (Nat.le_refl _)] at hp
    simp at hp
    subst hp
    exact ⟨h1, h2⟩
theorem nodes9_len (l : List (VN × NP)) : (nodes9 l).length = l.length * 9 := by
  induction l with
  | nil => rfl
  | cons t l ih => simp only [nodes9, List.flatMap_cons, List.length_append, List.length_cons, nodeCells, List.length_nil] at *; omega
theorem nodes9_app (a b : List (VN × NP)) : nodes9 (a ++ b) = nodes9 a ++ nodes9 b := by simp [nodes9]
def NodSt (bx go : Nat) (w : World) (N : List VN) (k : Nat) (Vf : Nat → Value) (X : Nat → List Value) (qs : List (VN × NP)) : Prop :=
  Lent w bx Vf X ∧ Marked w (go :: LF bx Vf) X ∧ PA w go 102 ((N.length + 8) * 9) (nodes9 qs) ∧ qs.length = k ∧ NodAt w (go :: LF bx Vf) N qs ∧ (X 2).length ≤ 2 * k ∧ (X 3).length ≤ k ∧ (X 4).length ≤ k
/-- nine cells, one behind the other -/
def set9 (w : World) (g o : Nat) (a b c d e f h i j : Value) : World :=
  ((((((((w.setCell ⟨g, o, none⟩ a).setCell ⟨g, o + 1, none⟩ b).setCell ⟨g, o + 1 + 1, none⟩ c).setCell ⟨g, o + 1 + 1 + 1, none⟩ d).setCell ⟨g, o + 1 + 1 + 1 + 1, none⟩ e).setCell ⟨g, o + 1 + 1 + 1 + 1 + 1, none⟩ f).setCell ⟨g, o + 1 + 1 + 1 + 1 + 1 + 1, none⟩ h).setCell ⟨g, o + 1 + 1 + 1 + 1 + 1 + 1 + 1, none⟩ i).setCell ⟨g, o + 1 + 1 + 1 + 1 + 1 + 1 + 1 + 1, none⟩ j
theorem set9_touch (w : World) (g o : Nat) (a b c d e f h i j : Value) : Touch [g] w (set9 w g o a b c d e f h i j) := by
  unfold set9
  refine Touch.setCell (Touch.setCell (Touch.setCell (Touch.setCell (Touch.setCell (Touch.setCell (Touch.setCell (Touch.setCell (Touch.setCell (Touch.refl [g] w) ?_ _) ?_ _) ?_ _) ?_ _) ?_ _) ?_ _) ?_ _) ?_ _) ?_ _
  all_goals exact List.mem_singleton.2 rfl
set_option maxHeartbeats 1000000 in
theorem set9_put {w : World} {g : Nat} {e : TypeId} {n : Nat} {cs : List Value} (hp : PA w g e n cs) {o : Nat} (ho : o = cs.length) (hn : o + 9 ≤ n) (a b c d e' f h i j : Value) : PA (set9 w g o a b c d e' f h i j) g e n (cs ++ [a, b, c, d, e', f, h, i, j]) := by
  subst ho
  have e1 : cs ++ [a, b, c, d, e', f, h, i, j] = ((((((((cs ++ [a]) ++ [b]) ++ [c]) ++ [d]) ++ [e']) ++ [f]) ++ [h]) ++ [i]) ++ [j] := by simp only [List.append_assoc, List.cons_append, List.nil_append]
  rw [e1]
  unfold set9
  have q1 := hp.put rfl (by omega) a
  have q2 := q1.put (k := cs.length + 1) (by simp only [List.length_append, List.length_cons, List.length_nil]) (by omega) b
  have q3 := q2.put (k := cs.length + 1 + 1) (by simp only [List.length_append, List.length_cons, List.length_nil]) (by omega) c
  have q4 := q3.put (k := cs.length + 1 + 1 + 1) (by simp only [List.length_append, List.length_cons, List.length_nil]) (by omega) d
  have q5 := q4.put (k := cs.length + 1 + 1 + 1 + 1) (by simp only [List.length_append, List.length_cons, List.length_nil]) (by omega) e'
  have q6 := q5.put (k := cs.length + 1 + 1 + 1 + 1 + 1) (by simp only [List.length_append, List.length_cons, List.length_nil]) (by omega) f
  have q7 := q6.put (k := cs.length + 1 + 1 + 1 + 1 + 1 + 1) (by simp only [List.length_append, List.length_cons, List.length_nil]) (by omega) h
  have q8 := q7.put (k := cs.length + 1 + 1 + 1 + 1 + 1 + 1 + 1) (by simp only [List.length_append, List.length_cons, List.length_nil]) (by omega) i
  exact q8.put (k := cs.length + 1 + 1 + 1 + 1 + 1 + 1 + 1 + 1) (by simp only [List.length_append, List.length_cons, List.length_nil]) (by omega) j
theorem NodSt.junk {bx go : Nat} {w : World} {N : List VN} {k : Nat} {Vf : Nat → Value} {X : Nat → List Value} {qs : List (VN × NP)} (h : NodSt bx go w N k Vf X qs) (hk : k < N.length + 8) (a b c d e' f g i j : Value) : NodSt bx go (set9 w go (k * 9) a b c d e' f g i j) N k Vf X qs := by
  obtain ⟨h1, h2, h3, h4, h5, h6, h7, h8⟩ := h
  have hgo := go_apart2 h1 h3
  have ht := set9_touch w go (k * 9) a b c d e' f g i j
  have hst : Step (go :: LF bx Vf) (go :: LF bx Vf) w (set9 w go (k * 9) a b c d e' f g i j) := ⟨ht.mono (by simp), fun _ h => Or.inl h⟩
  have hl := nodes9_len qs
  exact ⟨h1.touch ht (fun b hb e => by simp at e; subst e; exact hgo hb), h2.step hst, (set9_put h3 (by omega) (by omega) a b c d e' f g i j).pre, h4, h5.step hst, h6, h7, h8⟩
theorem NodSt.put {bx go : Nat} {w : World} {N : List VN} {k : Nat} {Vf : Nat → Value} {X : Nat → List Value} {qs : List (VN × NP)} (h1 : Lent w bx Vf X) (h2 : Marked w (go :: LF bx Vf) X) (h3 : PA w go 102 ((N.length + 8) * 9) (nodes9 qs)) (h4 : qs.length = k) (h5 : NodAt w (go :: LF bx Vf) N qs) (h6 : (X 2).length ≤ 2 * (k + 1)) (h7 : (X 3).length ≤ k + 1) (h8 : (X 4).length ≤ k + 1) (hk : k < N.length + 8) (n : VN) (p : NP)
    (ha : ∀ h : k < N.length, n = N[k] ∧ FullK w (go :: LF bx Vf) p.1 N[k].keys ∧ FullI w (go :: LF bx Vf) p.2.1 N[k].cols ∧ FullI w (go :: LF bx Vf) p.2.2.1 N[k].others ∧ FullS w (go :: LF bx Vf) p.2.2.2 N[k].sums) (hb : N.length ≤ k → (n, p) = (blankN, nil4)) :
    NodSt bx go (set9 w go (k * 9) (.int .i64 n.op) (.int .i64 n.left) (.int .i64 n.right) (.string n.table) p.1 (.int .i64 n.count) p.2.1 p.2.2.1 p.2.2.2) N (k + 1) Vf X (qs ++ [(n, p)]) := by
  have hgo := go_apart2 h1 h3
  have ht := set9_touch w go (k * 9) (.int .i64 n.op) (.int .i64 n.left) (.int .i64 n.right) (.string n.table) p.1 (.int .i64 n.count) p.2.1 p.2.2.1 p.2.2.2
  have hst : Step (go :: LF bx Vf) (go :: LF bx Vf) w (set9 w go (k * 9) (.int .i64 n.op) (.int .i64 n.left) (.int .i64 n.right) (.string n.table) p.1 (.int .i64 n.count) p.2.1 p.2.2.1 p.2.2.2) := ⟨ht.mono (by simp), fun _ h => Or.inl h⟩
  have hl := nodes9_len qs
  subst h4
  refine ⟨h1.touch ht (fun b hb e => by simp at e; subst e; exact hgo hb), h2.step hst, ?_, by simp, (h5.snoc (q := (n, p)) ha hb).step hst, h6, h7, h8⟩
  have := set9_put h3 (o := qs.length * 9) hl.symm (by omega) (.int .i64 n.op) (.int .i64 n.left) (.int .i64 n.right) (.string n.table) p.1 (.int .i64 n.count) p.2.1 p.2.2.1 p.2.2.2
  rw [nodes9_app]
  simpa [nodes9, nodeCells] using this
end Go.Proofs.Ytjoinhljdbljaaa
