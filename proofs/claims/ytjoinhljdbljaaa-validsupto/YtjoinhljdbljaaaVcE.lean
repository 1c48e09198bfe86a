/- The document's Valid: what it keeps. -/
import Derived.Test.YtjoinhljdbljaaaVcC
namespace Go.Proofs.Ytjoinhljdbljaaa
open Go.RowKit

theorem make12 (n : Nat) (hn : n ≤ 12) (w : World) : (Instr.makeSlice 70 (.int .i64 (n : Int)) (.int .i64 (n : Int))).run Try.prog w = .ok (.slice (some ⟨w.heap.size, 0, none⟩) n n) (w.alloc (.cells (ints (List.replicate n 0)).toArray 3)) := by
  obtain rfl | rfl | rfl | rfl | rfl | rfl | rfl | rfl | rfl | rfl | rfl | rfl | rfl : n = 0 ∨ n = 1 ∨ n = 2 ∨ n = 3 ∨ n = 4 ∨ n = 5 ∨ n = 6 ∨ n = 7 ∨ n = 8 ∨ n = 9 ∨ n = 10 ∨ n = 11 ∨ n = 12 := by omega
  all_goals kernel_rfl
/-- a node passes -/
def PassN (T : List VT) (N : List VN) (i : Nat) : Prop := ∀ h : i < N.length, BareOK N[i] ∧ Ahead N[i] i ∧ StepOK T N i ∧ hF N i ≤ 8
theorem valid_iff (T : List VT) (N : List VN) : ValidOK T N ↔ (TablesOK T ∧ NamesOK T) ∧ (1 ≤ N.length ∧ N.length ≤ 12) ∧ (∀ i, i < N.length → PassN T N i) ∧ Once N := by
  constructor
  · rintro ⟨h1, h2, h3, ⟨h4, h5, h6⟩, h7⟩
    exact ⟨⟨h3, h2⟩, h1, fun i hi h => ⟨(h4 i hi).1, (h4 i hi).2, h7 i hi, h6 i hi⟩, h5⟩
  · rintro ⟨⟨h3, h2⟩, h1, h4, h5⟩
    exact ⟨h1, h2, h3, ⟨fun i hi => ⟨(h4 i hi hi).1, (h4 i hi hi).2.1⟩, h5, fun i hi => (h4 i hi hi).2.2.2⟩, fun i hi => (h4 i hi hi).2.2.1⟩
/-- the columns that are kept, in a list of their own -/
def ColsSt (w : World) (F : List Nat) (cv : Value) (cs : List (List Int)) : Prop := ∃ vs : List Value, vs.length = cs.length ∧ w.ownsRow 0 70 1 cv vs.length vs ∧ ∀ j u (h : j < cs.length), vs[j]? = some u → IntsIn w F u cs[j]
def vF (gd gu bk : Nat) (cv : Value) : List Nat := gd :: gu :: bk :: cv.ownBlock.toList
/-- while the nodes are looked at -/
structure VSt (w0 w : World) (bk gd gu : Nat) (cv : Value) (cs : List (List Int)) (n : Nat) (D A : List Int) : Prop where
  k : KSt w (vF gd gu bk cv) bk gd gu cv cs n D (cntL n A)
  c : ColsSt w (vF gd gu bk cv) cv cs
  b : Below w0.heap.size w0 w
  f : ∀ x ∈ vF gd gu bk cv, w0.heap.size ≤ x
  own : ∀ x, cv.ownBlock = some x → x ≠ gd ∧ x ≠ gu ∧ x ≠ bk
  pk : PA w bk 117 3 [cv, .slice (some ⟨gd, 0, none⟩) n n, .slice (some ⟨gu, 0, none⟩) n n]
theorem VSt.lt {w0 w : World} {bk gd gu : Nat} {cv : Value} {cs : List (List Int)} {n : Nat} {D A : List Int} (h : VSt w0 w bk gd gu cv cs n D A) : ∀ x ∈ vF gd gu bk cv, x < w.heap.size := by
  intro x hx
  simp only [vF, List.mem_cons] at hx
  rcases hx with rfl | rfl | rfl | hx
  · exact h.k.d.lt
  · exact h.k.u.lt
  · exact h.pk.lt
  · obtain ⟨vs, _, ho, _⟩ := h.c
    exact (World.ownsRow.lt ho x (by simpa using hx)).2
theorem ownsRow_touch {w w' : World} {F : List Nat} {t : TypeId} {v : Value} {n : Nat} {xs : List Value} (h : w.ownsRow 0 t 1 v n xs) (ht : Touch F w w') (hv : ∀ k, v.ownBlock = some k → k ∉ F) : w'.ownsRow 0 t 1 v n xs := by
  obtain ⟨h1, h2⟩ := h
  refine ⟨h1, ?_⟩
  rcases h2 with h2 | ⟨g, cap, cur, rfl, hbg, hg, r⟩
  · exact Or.inl h2
  · refine Or.inr ⟨g, cap, cur, rfl, hbg, ?_, r⟩
    rw [ht.block g (Array.getElem?_eq_some_iff.1 hg).1 (hv g rfl)]
    exact hg
/-- the numbers are turned, nothing else -/
theorem VSt.turn {w0 w w' : World} {bk gd gu : Nat} {cv : Value} {cs : List (List Int)} {n : Nat} {D A D' A' : List Int} (h : VSt w0 w bk gd gu cv cs n D A) (ht : Touch [gd, gu] w w') (hd : PA w' gd 3 n (ints D')) (hu : PA w' gu 3 n (ints (cntL n A'))) (hdl : D'.length = n) : VSt w0 w' bk gd gu cv cs n D' A' := by
  have hst : Step (vF gd gu bk cv) (vF gd gu bk cv) w w' := ⟨ht.mono (fun k hk => by simp at hk; simp only [vF, List.mem_cons]; rcases hk with rfl | rfl <;> simp), fun _ h => Or.inl h⟩
  refine ⟨h.k.turn ht hd hu hdl (cntL_length _ _), ?_, ht.up h.b (fun x hx => by simp at hx; exact h.f x (by simp only [vF, List.mem_cons]; rcases hx with rfl | rfl <;> simp)), h.f, h.own, h.pk.touch ht (by simp [h.k.bkd, h.k.bku])⟩
  obtain ⟨vs, h1, h2, h3⟩ := h.c
  exact ⟨vs, h1, ownsRow_touch h2 ht (fun x hx => by have := h.own x hx; simp [this.1, this.2.1]), fun j u hj hu => (h3 j u hj hu).step hst⟩
theorem VSt.down {w0 w w' : World} {bk gd gu : Nat} {cv : Value} {cs : List (List Int)} {n : Nat} {D A : List Int} (h : VSt w0 w bk gd gu cv cs n D A) (hb : Below w.heap.size w w') : VSt w0 w' bk gd gu cv cs n D A := h.turn ((Below.t hb).mono (by simp)) (h.k.d.b hb) (h.k.u.b hb) h.k.dl
/-- one more node's columns are kept -/
theorem VSt.push {w0 w w4 : World} {bk gd gu : Nat} {cv : Value} {cs : List (List Int)} {n : Nat} {D A : List Int} (h : VSt w0 w bk gd gu cv cs n D A) {g cap : Nat} {u : Value} {l : List Int} {vs : List Value} (hvl : vs.length = cs.length) (hvs : ∀ j u (h : j < cs.length), vs[j]? = some u → IntsIn w (vF gd gu bk cv) u cs[j]) (hu : IntsIn w (vF gd gu bk cv) u l)
    (hS : w4.ownsRow 0 70 1 (.slice (some ⟨g, 0, none⟩) (vs.length + 1) cap) (vs.length + 1) (vs ++ [u])) (hT : Touch cv.ownBlock.toList w w4) (hat : cv.ownBlock = some g ∨ w.heap.size ≤ g) :
    VSt w0 (w4.setCell ⟨bk, 0, none⟩ (.slice (some ⟨g, 0, none⟩) (vs.length + 1) cap)) bk gd gu (.slice (some ⟨g, 0, none⟩) (vs.length + 1) cap) (cs ++ [l]) n D A := by
  have hlt := h.lt
  have hgd : g ≠ gd := by
    rcases hat with e | e
    · exact (h.own g e).1
    · have := h.k.d.lt; omega
  have hgu : g ≠ gu := by
    rcases hat with e | e
    · exact (h.own g e).2.1
    · have := h.k.u.lt; omega
  have hgb : g ≠ bk := by
    rcases hat with e | e
    · exact (h.own g e).2.2
    · have := h.pk.lt; omega
  have hnot : ∀ x, x = gd ∨ x = gu ∨ x = bk → x ∉ cv.ownBlock.toList := fun x hx e => by
    have := h.own x (by simpa using e)
    omega
  have hT2 : Touch (bk :: cv.ownBlock.toList) w (w4.setCell ⟨bk, 0, none⟩ (.slice (some ⟨g, 0, none⟩) (vs.length + 1) cap)) := (hT.mono (by intro k hk; simp at hk ⊢; exact Or.inr hk)).setCell (by simp) _
  have hst : Step (vF gd gu bk cv) (vF gd gu bk (.slice (some ⟨g, 0, none⟩) (vs.length + 1) cap)) w (w4.setCell ⟨bk, 0, none⟩ (.slice (some ⟨g, 0, none⟩) (vs.length + 1) cap)) := by
    refine ⟨hT2.mono (fun k hk => by simp only [vF, List.mem_cons] at hk ⊢; rcases hk with hk | hk <;> simp [hk]), fun k hk => ?_⟩
    simp only [vF, List.mem_cons, Value.ownBlock, Option.toList, List.not_mem_nil, or_false] at hk
    rcases hk with rfl | rfl | rfl | rfl
    · exact Or.inl (by simp [vF])
    · exact Or.inl (by simp [vF])
    · exact Or.inl (by simp [vF])
    · rcases hat with e | e
      · exact Or.inl (by simp [vF, e])
      · exact Or.inr e
  have hpd := (h.k.d.touch hT (hnot gd (Or.inl rfl))).other bk 0 (.slice (some ⟨g, 0, none⟩) (vs.length + 1) cap) (fun e => h.k.bkd e.symm)
  have hpu := (h.k.u.touch hT (hnot gu (Or.inr (Or.inl rfl)))).other bk 0 (.slice (some ⟨g, 0, none⟩) (vs.length + 1) cap) (fun e => h.k.bku e.symm)
  have hpk := (h.pk.touch hT (hnot bk (Or.inr (Or.inr rfl)))).set 0 (by simp) (.slice (some ⟨g, 0, none⟩) (vs.length + 1) cap)
  simp only [List.set_cons_zero] at hpk
  have hown : (w4.setCell ⟨bk, 0, none⟩ (.slice (some ⟨g, 0, none⟩) (vs.length + 1) cap)).ownsRow 0 70 1 (.slice (some ⟨g, 0, none⟩) (vs.length + 1) cap) (vs.length + 1) (vs ++ [u]) := ownsRow_touch hS ((Touch.refl [bk] w4).setCell (by simp) _) (fun x hx => by simp [Value.ownBlock] at hx; subst hx; simpa using hgb)
  have helem : ∀ j q (hj : j < (cs ++ [l]).length), (vs ++ [u])[j]? = some q → IntsIn (w4.setCell ⟨bk, 0, none⟩ (.slice (some ⟨g, 0, none⟩) (vs.length + 1) cap)) (vF gd gu bk (.slice (some ⟨g, 0, none⟩) (vs.length + 1) cap)) q (cs ++ [l])[j] := by
    intro j q hj hq
    by_cases e : j < cs.length
    · rw [List.getElem?_append_left (by omega)] at hq
      rw [List.getElem_append_left e]
      exact (hvs j q e hq).step hst
    · simp at hj
      obtain rfl : j = cs.length := by omega
      rw [List.getElem?_append_right (by omega), hvl] at hq
      simp at hq
      subst hq
      rw [List.getElem_append_right (by omega)]
      simpa using hu.step hst
  refine ⟨⟨hpk.cell rfl, hpk.cell rfl, hpk.cell rfl, hpd, hpu, h.k.dl, cntL_length _ _, h.k.dne, h.k.bkd, h.k.bku, ?_, by simp [vF], by simp [vF]⟩, ⟨vs ++ [u], by simp [hvl], by simpa using hown, helem⟩, hT2.up h.b (fun x hx => ?_), fun x hx => ?_, fun x hx => ?_, hpk⟩
  · rcases hown.2 with ⟨e, _⟩ | ⟨g', cap', cur, e, _, hg, h3, h4, h5, h6⟩
    · cases e
    · simp only [Value.slice.injEq, Option.some.injEq, Addr.mk.injEq, and_true, true_and] at e
      obtain ⟨rfl, rfl⟩ := e
      refine ⟨_, cap, by simp [hvl], by simp; omega, h4, fun j hj => ⟨g, rfl, hgd, hgu, ?_⟩⟩
      have hj2 : j < (vs ++ [u]).length := by simp at hj ⊢; omega
      obtain ⟨q, hq⟩ : ∃ q, (vs ++ [u])[j]? = some q := ⟨_, List.getElem?_eq_getElem hj2⟩
      refine ⟨q, ?_, helem j q hj hq⟩
      rw [← h6, List.getElem?_take] at hq
      simp only [World.cell?, hg]
      split at hq
      · simpa using hq
      · cases hq
  · rcases List.mem_cons.1 hx with rfl | hx
    · exact h.f _ (by simp [vF])
    · exact h.f x (by simp only [vF, List.mem_cons]; simp at hx; simp [hx])
  · simp only [vF, List.mem_cons, Value.ownBlock, Option.toList, List.not_mem_nil, or_false] at hx
    rcases hx with rfl | rfl | rfl | rfl
    · exact h.f _ (by simp [vF])
    · exact h.f _ (by simp [vF])
    · exact h.f _ (by simp [vF])
    · rcases hat with e | e
      · exact h.f _ (by simp [vF, e])
      · have := h.b.size; omega
  · simp [Value.ownBlock] at hx
    subst hx
    exact ⟨hgd, hgu, hgb⟩
end Go.Proofs.Ytjoinhljdbljaaa
