/- Lists of rows that are lent; all that is lent has its marks. The state while tables are lent. -/
import Derived.Test.YtjoinhljdbljaaaVbE
namespace Go.Proofs.Ytjoinhljdbljaaa
open Go.RowKit

theorem PA.ne {w : World} {g g' : Nat} {e e' : TypeId} {n n' : Nat} {cs cs' : List Value} (h : PA w g e n cs) (h' : PA w g' e' n' cs') (he : e ≠ e') : g ≠ g' := by
  rintro rfl
  obtain ⟨c1, h1, _⟩ := h
  obtain ⟨c2, h2, _⟩ := h'
  rw [h1] at h2
  simp only [Option.some.injEq, Obj.cells.injEq] at h2
  exact he h2.2.1
theorem Full.more {w : World} {F : List Nat} {e e' : TypeId} {sz : Nat} {r : Value} {cs cs' : List Value} {n n' g' : Nat} (h : Full w F e sz r cs n) (hp : PA w g' e' n' cs') (he : e ≠ e') : Full w (g' :: F) e sz r cs n := by
  obtain ⟨g, rfl, h1, h2, h3⟩ := h
  refine ⟨g, rfl, fun hm => ?_, h2, h3⟩
  rcases List.mem_cons.1 hm with e | e
  · exact h2.ne hp he e
  · exact h1 e
theorem Full.less {w : World} {F F' : List Nat} {e : TypeId} {sz : Nat} {r : Value} {cs : List Value} {n : Nat} (h : Full w F e sz r cs n) (hF : ∀ k ∈ F', k ∈ F) : Full w F' e sz r cs n := by
  obtain ⟨g, rfl, h1, h2, h3⟩ := h
  exact ⟨g, rfl, fun hm => h1 (hF _ hm), h2, h3⟩
theorem Step.ext {F F' : List Nat} {w w' : World} (h : Step F F' w w') (E : List Nat) : Step (E ++ F) (E ++ F') w w' :=
  ⟨h.1.mono (fun k hk => List.mem_append_right _ hk), fun k hk => by
    rcases List.mem_append.1 hk with hk | hk
    · exact Or.inl (List.mem_append_left _ hk)
    · rcases h.2 k hk with e | e
      · exact Or.inl (List.mem_append_right _ e)
      · exact Or.inr e⟩
/-- a row of one mark -/
def MarkRow (w : World) (F : List Nat) (u : Value) (k : Nat) : Prop := ∃ b, u = .slice (some ⟨b, 0, none⟩) 1 1 ∧ b ∉ F ∧ PA w b 31 3 [.int .i64 9, .int .i64 (k : Int), .string callers]
theorem MarkRow.step {F F' : List Nat} {w w' : World} {u : Value} {k : Nat} (h : MarkRow w F u k) (hs : Step F F' w w') : MarkRow w' F' u k := by
  obtain ⟨b, rfl, h1, h2⟩ := h
  refine ⟨b, rfl, fun hm => ?_, h2.touch hs.1 h1⟩
  rcases hs.2 b hm with hm | hm
  · exact h1 hm
  · have := h2.lt; omega
theorem MarkRow.less {w : World} {F F' : List Nat} {u : Value} {k : Nat} (h : MarkRow w F u k) (hF : ∀ k ∈ F', k ∈ F) : MarkRow w F' u k := by
  obtain ⟨b, rfl, h1, h2⟩ := h
  exact ⟨b, rfl, fun hm => h1 (hF _ hm), h2⟩
/-- what stands at the places of a list of rows: the rows, and the marks behind -/
def RowsAt (w : World) (F : List Nat) (rows : List (List V)) (cs : List Value) : Prop := (∀ i u, cs[i]? = some u → (∀ h : i < rows.length, FullR w F u rows[i]) ∧ (rows.length ≤ i → MarkRow w F u i))
theorem RowsAt.step {F F' : List Nat} {w w' : World} {rows : List (List V)} {cs : List Value} (h : RowsAt w F rows cs) (hs : Step F F' w w') : RowsAt w' F' rows cs := fun i u hu => ⟨fun hi => ((h i u hu).1 hi).step hs, fun hi => ((h i u hu).2 hi).step hs⟩
theorem RowsAt.snoc {F : List Nat} {w : World} {rows : List (List V)} {cs : List Value} (h : RowsAt w F rows cs) {u : Value} (h1 : ∀ h : cs.length < rows.length, FullR w F u rows[cs.length]) (h2 : rows.length ≤ cs.length → MarkRow w F u cs.length) : RowsAt w F rows (cs ++ [u]) := by
  intro i q hq
  by_cases e : i < cs.length
  · rw [List.getElem?_append_left e] at hq
    exact h i q hq
  · have hl := (List.getElem?_eq_some_iff.1 hq).1
    simp at hl
    obtain rfl : i = cs.length := by omega
    rw [List.getElem?_append_right (Nat.le_refl _)] at hq
    simp at hq
    subst hq
    exact ⟨h1, h2⟩
def FullL (w : World) (F : List Nat) (r : Value) (rows : List (List V)) : Prop := ∃ cs, cs.length = rows.length + 8 ∧ Full w F 33 1 r cs rows.length ∧ RowsAt w F rows cs
theorem FullL.step {F F' : List Nat} {w w' : World} {r : Value} {rows : List (List V)} (h : FullL w F r rows) (hs : Step F F' w w') : FullL w' F' r rows := by
  obtain ⟨cs, h1, h2, h3⟩ := h
  exact ⟨cs, h1, h2.step hs, h3.step hs⟩
theorem FullL.less {F F' : List Nat} {w : World} {r : Value} {rows : List (List V)} (h : FullL w F r rows) (hF : ∀ k ∈ F', k ∈ F) : FullL w F' r rows := by
  obtain ⟨cs, h1, h2, h3⟩ := h
  exact ⟨cs, h1, h2.less hF, fun i u hu => ⟨fun hi => Full.less ((h3 i u hu).1 hi) hF, fun hi => ((h3 i u hu).2 hi).less hF⟩⟩
theorem FullL.in {w : World} {F : List Nat} {r : Value} {rows : List (List V)} (h : FullL w F r rows) : RowsIn w F r rows := by
  obtain ⟨cs, h1, h2, h3⟩ := h
  refine ⟨cs.take rows.length, by simp; omega, Full.lies h2 (by simp; omega) (fun i u hu => ?_), fun i q u hq hu => ?_⟩
  · rw [List.getElem?_take] at hu
    split at hu
    · exact hu
    · cases hu
  · obtain ⟨hi, rfl⟩ := List.getElem?_eq_some_iff.1 hq
    rw [List.getElem?_take, if_pos hi] at hu
    exact FullR.in ((h3 i u hu).1 hi)
def Marked (w : World) (F : List Nat) (X : Nat → List Value) : Prop := (∀ r ∈ X 0, ∃ l, FullR w F r l) ∧ (∀ r ∈ X 1, ∃ l, FullL w F r l) ∧ (∀ r ∈ X 2, ∃ l, FullI w F r l) ∧ (∀ r ∈ X 3, ∃ l, FullK w F r l) ∧ (∀ r ∈ X 4, ∃ l, FullS w F r l)
theorem Marked.step {F F' : List Nat} {w w' : World} {X : Nat → List Value} (h : Marked w F X) (hs : Step F F' w w') : Marked w' F' X := by
  obtain ⟨h0, h1, h2, h3, h4⟩ := h
  refine ⟨fun r hr => ?_, fun r hr => ?_, fun r hr => ?_, fun r hr => ?_, fun r hr => ?_⟩
  · obtain ⟨l, h⟩ := h0 r hr; exact ⟨l, Full.step h hs⟩
  · obtain ⟨l, h⟩ := h1 r hr; exact ⟨l, FullL.step h hs⟩
  · obtain ⟨l, h⟩ := h2 r hr; exact ⟨l, Full.step h hs⟩
  · obtain ⟨l, h⟩ := h3 r hr; exact ⟨l, Full.step h hs⟩
  · obtain ⟨l, h⟩ := h4 r hr; exact ⟨l, Full.step h hs⟩
theorem Marked.less {F F' : List Nat} {w : World} {X : Nat → List Value} (h : Marked w F X) (hF : ∀ k ∈ F', k ∈ F) : Marked w F' X := by
  obtain ⟨h0, h1, h2, h3, h4⟩ := h
  refine ⟨fun r hr => ?_, fun r hr => ?_, fun r hr => ?_, fun r hr => ?_, fun r hr => ?_⟩
  · obtain ⟨l, h⟩ := h0 r hr; exact ⟨l, Full.less h hF⟩
  · obtain ⟨l, h⟩ := h1 r hr; exact ⟨l, FullL.less h hF⟩
  · obtain ⟨l, h⟩ := h2 r hr; exact ⟨l, Full.less h hF⟩
  · obtain ⟨l, h⟩ := h3 r hr; exact ⟨l, Full.less h hF⟩
  · obtain ⟨l, h⟩ := h4 r hr; exact ⟨l, Full.less h hF⟩
theorem Lent.apart {w : World} {bx : Nat} {Vf : Nat → Value} {X : Nat → List Value} (h : Lent w bx Vf X) {g : Nat} {e : TypeId} {n : Nat} {cs : List Value} (hp : PA w g e n cs) (h90 : e ≠ 90) (hf : ∀ f, f < 5 → e ≠ fT f) : g ∉ LF bx Vf := by
  intro hm
  rcases LF_mem.1 hm with rfl | ⟨f, hf5, hk⟩
  · exact hp.ne h.1 h90 rfl
  · rcases (h.2.1 f hf5).2 with ⟨e1, _⟩ | ⟨g', cap, cur, e1, _, hg, _⟩
    · rw [e1] at hk; simp [Value.ownBlock] at hk
    · rw [e1] at hk
      simp [Value.ownBlock] at hk
      subst hk
      obtain ⟨c2, h2, _⟩ := hp
      rw [hg] at h2
      simp only [Option.some.injEq, Obj.cells.injEq] at h2
      exact hf f hf5 h2.2.1.symm
theorem upd_same {α : Type} (X : Nat → α) (f : Nat) (v : α) : upd X f v f = v := by simp [upd]
theorem upd_other {α : Type} (X : Nat → α) (f g : Nat) (v : α) (h : g ≠ f) : upd X f v g = X g := by simp [upd, h]
theorem Marked.r {w : World} {F : List Nat} {X : Nat → List Value} (h : Marked w F X) {u : Value} {l : List V} (hu : FullR w F u l) : Marked w F (upd X 0 (X 0 ++ [u])) := by
  refine ⟨fun r hr => ?_, by rw [upd_other _ _ _ _ (by decide)]; exact h.2.1, by rw [upd_other _ _ _ _ (by decide)]; exact h.2.2.1, by rw [upd_other _ _ _ _ (by decide)]; exact h.2.2.2.1, by rw [upd_other _ _ _ _ (by decide)]; exact h.2.2.2.2⟩
  rw [upd_same] at hr
  rcases List.mem_append.1 hr with hr | hr
  · exact h.1 r hr
  · simp at hr; subst hr; exact ⟨l, hu⟩
theorem Marked.l {w : World} {F : List Nat} {X : Nat → List Value} (h : Marked w F X) {u : Value} {l : List (List V)} (hu : FullL w F u l) : Marked w F (upd X 1 (X 1 ++ [u])) := by
  refine ⟨by rw [upd_other _ _ _ _ (by decide)]; exact h.1, fun r hr => ?_, by rw [upd_other _ _ _ _ (by decide)]; exact h.2.2.1, by rw [upd_other _ _ _ _ (by decide)]; exact h.2.2.2.1, by rw [upd_other _ _ _ _ (by decide)]; exact h.2.2.2.2⟩
  rw [upd_same] at hr
  rcases List.mem_append.1 hr with hr | hr
  · exact h.2.1 r hr
  · simp at hr; subst hr; exact ⟨l, hu⟩
theorem Marked.n {w : World} {F : List Nat} {X : Nat → List Value} (h : Marked w F X) {u : Value} {l : List Int} (hu : FullI w F u l) : Marked w F (upd X 2 (X 2 ++ [u])) := by
  refine ⟨by rw [upd_other _ _ _ _ (by decide)]; exact h.1, by rw [upd_other _ _ _ _ (by decide)]; exact h.2.1, fun r hr => ?_, by rw [upd_other _ _ _ _ (by decide)]; exact h.2.2.2.1, by rw [upd_other _ _ _ _ (by decide)]; exact h.2.2.2.2⟩
  rw [upd_same] at hr
  rcases List.mem_append.1 hr with hr | hr
  · exact h.2.2.1 r hr
  · simp at hr; subst hr; exact ⟨l, hu⟩
theorem Marked.k {w : World} {F : List Nat} {X : Nat → List Value} (h : Marked w F X) {u : Value} {l : List K} (hu : FullK w F u l) : Marked w F (upd X 3 (X 3 ++ [u])) := by
  refine ⟨by rw [upd_other _ _ _ _ (by decide)]; exact h.1, by rw [upd_other _ _ _ _ (by decide)]; exact h.2.1, by rw [upd_other _ _ _ _ (by decide)]; exact h.2.2.1, fun r hr => ?_, by rw [upd_other _ _ _ _ (by decide)]; exact h.2.2.2.2⟩
  rw [upd_same] at hr
  rcases List.mem_append.1 hr with hr | hr
  · exact h.2.2.2.1 r hr
  · simp at hr; subst hr; exact ⟨l, hu⟩
theorem Marked.s {w : World} {F : List Nat} {X : Nat → List Value} (h : Marked w F X) {u : Value} {l : List VS} (hu : FullS w F u l) : Marked w F (upd X 4 (X 4 ++ [u])) := by
  refine ⟨by rw [upd_other _ _ _ _ (by decide)]; exact h.1, by rw [upd_other _ _ _ _ (by decide)]; exact h.2.1, by rw [upd_other _ _ _ _ (by decide)]; exact h.2.2.1, by rw [upd_other _ _ _ _ (by decide)]; exact h.2.2.2.1, fun r hr => ?_⟩
  rw [upd_same] at hr
  rcases List.mem_append.1 hr with hr | hr
  · exact h.2.2.2.2 r hr
  · simp at hr; subst hr; exact ⟨l, hu⟩
/-- nothing is lent yet -/
theorem Lent.new (w : World) : Lent (w.alloc (.cells #[.slice none 0 0, .slice none 0 0, .slice none 0 0, .slice none 0 0, .slice none 0 0] 90)) w.heap.size (fun _ => .slice none 0 0) (fun _ => []) := by
  refine ⟨⟨_, heap_alloc_new w _, rfl, fun i u hu => by simpa [cells5] using hu⟩, fun f _ => World.ownsRow_nil _ _ _ _, fun f _ => by simp [Value.ownBlock], fun f g b _ _ _ h => by simp [Value.ownBlock] at h⟩
theorem Marked.new (w : World) (F : List Nat) : Marked w F (fun _ => []) := ⟨by simp, by simp, by simp, by simp, by simp⟩
theorem LF_new (bx : Nat) : LF bx (fun _ => .slice none 0 0) = [bx] := by simp [LF, Value.ownBlock]
end Go.Proofs.Ytjoinhljdbljaaa

namespace Go.Proofs.Ytjoinhljdbljaaa
open Go.RowKit

theorem PA.setOther {w : World} {g g' : Nat} {e : TypeId} {n : Nat} {cs : List Value} (h : PA w g e n cs) (hne : g ≠ g') (o : Nat) (v : Value) : PA (w.setCell ⟨g', o, none⟩ v) g e n cs := h.other g' o v hne
theorem step_set {F : List Nat} (w : World) {g : Nat} (hg : g ∈ F) (o : Nat) (v : Value) : Step F F w (w.setCell ⟨g, o, none⟩ v) := ⟨(Touch.refl _ _).setCell hg _, fun _ h => Or.inl h⟩

/-- while the rows of a table are laid: bx is what is lent, go the tables, gr the rows -/
def RowSt (bx go gr : Nat) (w : World) (rows : List (List V)) (nT : Nat) (tb : List Value) (X0 : Nat → List Value) (k : Nat) (Vf : Nat → Value) (X : Nat → List Value) (cs : List Value) : Prop :=
  Lent w bx Vf X ∧ Marked w (gr :: go :: LF bx Vf) X ∧ PA w gr 33 ((rows.length + 8) * 1) cs ∧ cs.length = k ∧ RowsAt w (gr :: go :: LF bx Vf) rows cs ∧ gr ∉ LF bx Vf ∧ PA w go 92 nT tb ∧ X 1 = X0 1 ∧ X 2 = X0 2 ∧ (X 0).length ≤ (X0 0).length + k
theorem go_apart {bx go nT : Nat} {w : World} {Vf : Nat → Value} {X : Nat → List Value} {tb : List Value} (h : Lent w bx Vf X) (hp : PA w go 92 nT tb) : go ∉ LF bx Vf := h.apart hp (by decide) (fun f hf => by
  obtain rfl | rfl | rfl | rfl | rfl : f = 0 ∨ f = 1 ∨ f = 2 ∨ f = 3 ∨ f = 4 := by omega
  all_goals decide)
/-- through what leaves all as it was -/
theorem RowSt.b {bx go gr : Nat} {w w' : World} {rows : List (List V)} {nT : Nat} {tb : List Value} {X0 : Nat → List Value} {k : Nat} {Vf : Nat → Value} {X : Nat → List Value} {cs : List Value} (h : RowSt bx go gr w rows nT tb X0 k Vf X cs) (hb : Below w.heap.size w w') : RowSt bx go gr w' rows nT tb X0 k Vf X cs := by
  obtain ⟨h1, h2, h3, h4, h5, h6, h7, h8, h9, h10⟩ := h
  exact ⟨h1.b hb, h2.step (stepB hb), h3.b hb, h4, h5.step (stepB hb), h6, h7.b hb, h8, h9, h10⟩
theorem RowSt.ne {bx go gr : Nat} {w : World} {rows : List (List V)} {nT : Nat} {tb : List Value} {X0 : Nat → List Value} {k : Nat} {Vf : Nat → Value} {X : Nat → List Value} {cs : List Value} (h : RowSt bx go gr w rows nT tb X0 k Vf X cs) : go ≠ gr := h.2.2.2.2.2.2.1.ne h.2.2.1 (by decide)
/-- a place that is not yet laid is written -/
theorem RowSt.junk {bx go gr : Nat} {w : World} {rows : List (List V)} {nT : Nat} {tb : List Value} {X0 : Nat → List Value} {k : Nat} {Vf : Nat → Value} {X : Nat → List Value} {cs : List Value} (h : RowSt bx go gr w rows nT tb X0 k Vf X cs) (x : Value) : RowSt bx go gr (w.setCell ⟨gr, k, none⟩ x) rows nT tb X0 k Vf X cs := by
  have hne := h.ne
  obtain ⟨h1, h2, h3, h4, h5, h6, h7, h8, h9, h10⟩ := h
  have hst : Step (gr :: go :: LF bx Vf) (gr :: go :: LF bx Vf) w (w.setCell ⟨gr, k, none⟩ x) := step_set w (by simp) _ _
  exact ⟨h1.touch (F := [gr]) ((Touch.refl _ _).setCell (by simp) _) (fun b hb e => by simp at e; subst e; exact h6 hb), h2.step hst, h3.junk (by omega) _, h4, h5.step hst, h6, h7.setOther hne _ _, h8, h9, h10⟩
theorem RowSt.mark {bx go gr : Nat} {w : World} {rows : List (List V)} {nT : Nat} {tb : List Value} {X0 : Nat → List Value} {k : Nat} {Vf : Nat → Value} {X : Nat → List Value} {cs : List Value} (h : RowSt bx go gr w rows nT tb X0 k Vf X cs) (hk : rows.length ≤ k) (hk2 : k < rows.length + 8) {x : Value} (hx : MarkRow w (gr :: go :: LF bx Vf) x k) : RowSt bx go gr (w.setCell ⟨gr, k, none⟩ x) rows nT tb X0 (k + 1) Vf X (cs ++ [x]) := by
  have hne := h.ne
  obtain ⟨h1, h2, h3, h4, h5, h6, h7, h8, h9, h10⟩ := h
  have hst : Step (gr :: go :: LF bx Vf) (gr :: go :: LF bx Vf) w (w.setCell ⟨gr, k, none⟩ x) := step_set w (by simp) _ _
  refine ⟨h1.touch (F := [gr]) ((Touch.refl _ _).setCell (by simp) _) (fun b hb e => by simp at e; subst e; exact h6 hb), h2.step hst, h3.put h4.symm (by omega) _, by simp [h4], (h5.step hst).snoc (fun hi => by omega) (fun _ => by rw [h4]; exact hx.step hst), h6, h7.setOther hne _ _, h8, h9, by omega⟩
theorem RowSt.row {bx go gr : Nat} {w w7 : World} {rows : List (List V)} {nT : Nat} {tb : List Value} {X0 : Nat → List Value} {k : Nat} {Vf V' : Nat → Value} {X : Nat → List Value} {cs : List Value} (h : RowSt bx go gr w rows nT tb X0 k Vf X cs) (hk : k < rows.length) {r : Value} (hr : FullR w7 (LF bx V') r rows[k]) (hL : Lent w7 bx V' (upd X 0 (X 0 ++ [r]))) (hst : Step (LF bx Vf) (LF bx V') w w7) :
    RowSt bx go gr (w7.setCell ⟨gr, k, none⟩ r) rows nT tb X0 (k + 1) V' (upd X 0 (X 0 ++ [r])) (cs ++ [r]) ∧ Step (gr :: go :: LF bx Vf) (gr :: go :: LF bx V') w (w7.setCell ⟨gr, k, none⟩ r) := by
  have hne := h.ne
  obtain ⟨h1, h2, h3, h4, h5, h6, h7, h8, h9, h10⟩ := h
  have hgo := go_apart h1 h7
  have h3b := h3.touch hst.1 h6
  have h7b := h7.touch hst.1 hgo
  have hst2 : Step (gr :: go :: LF bx Vf) (gr :: go :: LF bx V') w w7 := hst.ext [gr, go]
  have hst3 : Step (gr :: go :: LF bx V') (gr :: go :: LF bx V') w7 (w7.setCell ⟨gr, k, none⟩ r) := step_set w7 (by simp) _ _
  have h6b : gr ∉ LF bx V' := fun e => by
    rcases hst.2 gr e with e | e
    · exact h6 e
    · have := h3.lt; omega
  have hr2 : FullR w7 (gr :: go :: LF bx V') r rows[k] := Full.more (Full.more hr h7b (by decide)) h3b (by decide)
  refine ⟨⟨hL.touch (F := [gr]) ((Touch.refl _ _).setCell (by simp) _) (fun b hb e => by simp at e; subst e; exact h6b hb), (Marked.r (h2.step hst2) hr2).step hst3, h3b.put h4.symm (by omega) _, by simp [h4], ((h5.step hst2).step hst3).snoc (fun hi => ?_) (fun hi => by omega), h6b, h7b.setOther hne _ _, by rw [upd_other _ _ _ _ (by decide)]; exact h8, by rw [upd_other _ _ _ _ (by decide)]; exact h9, ?_⟩, hst2.trans hst3⟩
  · subst h4
    exact Full.step hr2 hst3
  · rw [upd_same]; simp; omega
theorem RowSt.full {bx go gr : Nat} {w : World} {rows : List (List V)} {nT : Nat} {tb : List Value} {X0 : Nat → List Value} {Vf : Nat → Value} {X : Nat → List Value} {cs : List Value} (h : RowSt bx go gr w rows nT tb X0 (rows.length + 8) Vf X cs) (hm : rows.length + 8 ≤ maxLen) : FullL w (go :: LF bx Vf) (.slice (some ⟨gr, 0, none⟩) rows.length (rows.length + 8)) rows := by
  have hne := h.ne
  obtain ⟨h1, h2, h3, h4, h5, h6, h7, h8, h9, h10⟩ := h
  refine ⟨cs, h4, ⟨gr, rfl, fun e => ?_, h3, hm⟩, fun i u hu => ⟨fun hi => Full.less ((h5 i u hu).1 hi) (fun k hk => by simp at hk ⊢; exact Or.inr hk), fun hi => ((h5 i u hu).2 hi).less (fun k hk => by simp at hk ⊢; exact Or.inr hk)⟩⟩
  rcases List.mem_cons.1 e with e | e
  · exact hne e.symm
  · exact h6 e

def TabAt (w : World) (F : List Nat) (T : List VT) (X : Nat → List Value) (ps : List TP) : Prop := ∀ i p, ps[i]? = some p → (∀ h : i < T.length, p.1 = T[i].name ∧ FullI w F p.2.1 T[i].kinds ∧ FullL w F p.2.2 T[i].rows ∧ (X 1)[i]? = some p.2.2) ∧ (T.length ≤ i → p = (callers, .slice none 0 0, .slice none 0 0))
theorem TabAt.step {F F' : List Nat} {w w' : World} {T : List VT} {X : Nat → List Value} {ps : List TP} (h : TabAt w F T X ps) (hs : Step F F' w w') : TabAt w' F' T X ps := fun i p hp => ⟨fun hi => by
  obtain ⟨a, b, c, d⟩ := (h i p hp).1 hi
  exact ⟨a, Full.step b hs, c.step hs, d⟩, (h i p hp).2⟩
theorem TabAt.with {F : List Nat} {w : World} {T : List VT} {X X' : Nat → List Value} {ps : List TP} (h : TabAt w F T X ps) (hX : ∀ (i : Nat) u, (X 1)[i]? = some u → (X' 1)[i]? = some u) : TabAt w F T X' ps := fun i p hp => ⟨fun hi => by
  obtain ⟨a, b, c, d⟩ := (h i p hp).1 hi
  exact ⟨a, b, c, hX i _ d⟩, (h i p hp).2⟩
theorem TabAt.snoc {F : List Nat} {w : World} {T : List VT} {X : Nat → List Value} {ps : List TP} (h : TabAt w F T X ps) {p : TP} (h1 : ∀ h : ps.length < T.length, p.1 = T[ps.length].name ∧ FullI w F p.2.1 T[ps.length].kinds ∧ FullL w F p.2.2 T[ps.length].rows ∧ (X 1)[ps.length]? = some p.2.2) (h2 : T.length ≤ ps.length → p = (callers, .slice none 0 0, .slice none 0 0)) : TabAt w F T X (ps ++ [p]) := by
  intro i q hq
  by_cases e : i < ps.length
  · rw [List.getElem?_append_left e] at hq
    exact h i q hq
  · have hl := (List.getElem?_eq_some_iff.1 hq).1
    simp at hl
    obtain rfl : i = ps.length := by omega
    rw [List.getElem?_append_right (Nat.le_refl _)] at hq
    simp at hq
    subst hq
    exact ⟨h1, h2⟩
def rowsSum (T : List VT) : Nat := (T.map fun t => t.rows.length).sum
def TabSt (bx go : Nat) (w : World) (T : List VT) (k : Nat) (Vf : Nat → Value) (X : Nat → List Value) (ps : List TP) : Prop :=
  Lent w bx Vf X ∧ Marked w (go :: LF bx Vf) X ∧ PA w go 92 ((T.length + 8) * 3) (tabs3 ps) ∧ ps.length = k ∧ TabAt w (go :: LF bx Vf) T X ps ∧ (X 0).length ≤ rowsSum (T.take k) + 8 * k ∧ (X 1).length = min k T.length ∧ (X 2).length = min k T.length
theorem tabs3_len (l : List TP) : (tabs3 l).length = l.length * 3 := by
  induction l with
  | nil => rfl
  | cons t l ih => simp only [tabs3, List.flatMap_cons, List.length_append, List.length_cons, List.length_nil] at *; omega
theorem TabSt.b {bx go : Nat} {w w' : World} {T : List VT} {k : Nat} {Vf : Nat → Value} {X : Nat → List Value} {ps : List TP} (h : TabSt bx go w T k Vf X ps) (hb : Below w.heap.size w w') : TabSt bx go w' T k Vf X ps := by
  obtain ⟨h1, h2, h3, h4, h5, h6, h7, h8⟩ := h
  exact ⟨h1.b hb, h2.step (stepB hb), h3.b hb, h4, h5.step (stepB hb), h6, h7, h8⟩
/-- the place of the next table is written -/
theorem TabSt.junk {bx go : Nat} {w : World} {T : List VT} {k : Nat} {Vf : Nat → Value} {X : Nat → List Value} {ps : List TP} (h : TabSt bx go w T k Vf X ps) (x y z : Value) : TabSt bx go (((w.setCell ⟨go, k * 3, none⟩ x).setCell ⟨go, k * 3 + 1, none⟩ y).setCell ⟨go, k * 3 + 1 + 1, none⟩ z) T k Vf X ps := by
  obtain ⟨h1, h2, h3, h4, h5, h6, h7, h8⟩ := h
  have hgo := go_apart h1 h3
  have hst : Step (go :: LF bx Vf) (go :: LF bx Vf) w (((w.setCell ⟨go, k * 3, none⟩ x).setCell ⟨go, k * 3 + 1, none⟩ y).setCell ⟨go, k * 3 + 1 + 1, none⟩ z) := ⟨(((Touch.refl _ _).setCell (by simp) _).setCell (by simp) _).setCell (by simp) _, fun _ h => Or.inl h⟩
  have hl := tabs3_len ps
  exact ⟨h1.touch (F := [go]) ((((Touch.refl _ _).setCell (by simp) _).setCell (by simp) _).setCell (by simp) _) (fun b hb e => by simp at e; subst e; exact hgo hb), h2.step hst, ((h3.junk (by omega) _).junk (by omega) _).junk (by omega) _, h4, h5.step hst, h6, h7, h8⟩
theorem tabs3_app (a b : List TP) : tabs3 (a ++ b) = tabs3 a ++ tabs3 b := by simp [tabs3]
theorem TabSt.put {bx go : Nat} {w : World} {T : List VT} {k : Nat} {Vf : Nat → Value} {X : Nat → List Value} {ps : List TP} (h1 : Lent w bx Vf X) (h2 : Marked w (go :: LF bx Vf) X) (h3 : PA w go 92 ((T.length + 8) * 3) (tabs3 ps)) (h4 : ps.length = k) (h5 : TabAt w (go :: LF bx Vf) T X ps) (h6 : (X 0).length ≤ rowsSum (T.take (k + 1)) + 8 * (k + 1)) (h7 : (X 1).length = min (k + 1) T.length) (h8 : (X 2).length = min (k + 1) T.length) (hk : k < T.length + 8) (nm : ByteArray) (y z : Value)
    (ha : ∀ h : k < T.length, nm = T[k].name ∧ FullI w (go :: LF bx Vf) y T[k].kinds ∧ FullL w (go :: LF bx Vf) z T[k].rows ∧ (X 1)[k]? = some z) (hb : T.length ≤ k → (nm, y, z) = (callers, .slice none 0 0, .slice none 0 0)) :
    TabSt bx go (((w.setCell ⟨go, k * 3, none⟩ (.string nm)).setCell ⟨go, k * 3 + 1, none⟩ y).setCell ⟨go, k * 3 + 1 + 1, none⟩ z) T (k + 1) Vf X (ps ++ [(nm, y, z)]) := by
  have hgo := go_apart h1 h3
  have hst : Step (go :: LF bx Vf) (go :: LF bx Vf) w (((w.setCell ⟨go, k * 3, none⟩ (.string nm)).setCell ⟨go, k * 3 + 1, none⟩ y).setCell ⟨go, k * 3 + 1 + 1, none⟩ z) := ⟨(((Touch.refl _ _).setCell (by simp) _).setCell (by simp) _).setCell (by simp) _, fun _ h => Or.inl h⟩
  have hl := tabs3_len ps
  subst h4
  refine ⟨h1.touch (F := [go]) ((((Touch.refl _ _).setCell (by simp) _).setCell (by simp) _).setCell (by simp) _) (fun b hb e => by simp at e; subst e; exact hgo hb), h2.step hst, ?_, by simp, (h5.snoc (p := (nm, y, z)) ha hb).step hst, h6, h7, h8⟩
  have := ((h3.put (k := ps.length * 3) hl.symm (by omega) (.string nm)).put (k := ps.length * 3 + 1) (by simp [hl]) (by omega) y).put (k := ps.length * 3 + 1 + 1) (by simp [hl]) (by omega) z
  rw [tabs3_app]
  simpa [tabs3] using this
end Go.Proofs.Ytjoinhljdbljaaa
