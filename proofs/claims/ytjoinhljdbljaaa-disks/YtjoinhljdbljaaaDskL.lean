/- What holds of a disk behind n steps. -/
import Derived.Test.YtjoinhljdbljaaaDskJ
import Derived.Test.YtjoinhljdbljaaaDskF
namespace Go.Proofs.Ytjoinhljdbljaaa
open Go.RowKit
open Go.ChangeMaps (setBlock)

structure Wf (n : Nat) (d : DS) : Prop where
  nums : Nums d.files
  le : ∀ f ∈ d.files, f.1 ≤ d.last
  last0 : 0 ≤ d.last
  last1 : d.last ≤ (n : Int)
  wrote0 : 0 ≤ d.wrote
  wrote1 : d.wrote ≤ (n : Int)
  used : usedOf d.files ≤ n
  room : (usedOf d.files : Int) ≤ d.blocks
  len : d.files.length ≤ n
  a1 : 0 ≤ d.f1 ∧ d.f1 ≤ 9223372036854775807
  a2 : 0 ≤ d.f2 ∧ d.f2 ≤ 9223372036854775807
  a3 : 0 ≤ d.f3 ∧ d.f3 ≤ 9223372036854775807

theorem dec_in {f : Int} (h : 0 ≤ f ∧ f ≤ 9223372036854775807) : 0 ≤ dec f ∧ dec f ≤ 9223372036854775807 := by
  unfold dec
  split <;> omega

theorem Wf.more {n : Nat} {d : DS} (h : Wf n d) : Wf (n + 1) d :=
  { h with last1 := by have := h.last1; omega, wrote1 := by have := h.wrote1; omega, used := by have := h.used; omega, len := by have := h.len; omega }
theorem Wf.read {n : Nat} {d : DS} (h : Wf n d) : Wf n { d with f2 := dec d.f2 } := { h with a2 := dec_in h.a2 }
theorem Wf.write {n : Nat} {d : DS} (h : Wf n d) : Wf n { d with f1 := dec d.f1, f3 := dec d.f3 } := { h with a1 := dec_in h.a1, a3 := dec_in h.a3 }
theorem Wf.fault {n : Nat} {d : DS} (h : Wf n d) (kind m bit : Int) (hm : m ≤ 9223372036854775807) : Wf n (faultS d kind m bit) := by
  unfold faultS
  have hx : 0 ≤ max m 0 ∧ max m 0 ≤ 9223372036854775807 := by omega
  split
  · exact { h with a1 := hx }
  · split
    · exact { h with a2 := hx }
    · split
      · exact { h with a3 := hx }
      · exact h
theorem Wf.new (b n : Int) : Wf 0 (newS b n) := by
  refine ⟨fun i j a b ha => by simp [newS] at ha, fun f hf => by simp [newS] at hf, by simp [newS], by simp [newS], by simp [newS], by simp [newS], by simp [newS, usedOf], ?_, by simp [newS], by simp [newS], by simp [newS], by simp [newS]⟩
  simp only [newS, usedOf, List.map_nil, List.sum_nil]
  omega
theorem Wf.create {n : Nat} {d : DS} (h : Wf n d) : Wf (n + 1) (createS d) := by
  have hl := h.last1
  refine ⟨?_, ?_, by have := h.last0; simp only [createS]; omega, by simp only [createS]; omega, h.wrote0, by have := h.wrote1; simp only [createS]; omega, by have := h.used; simp only [createS]; rw [used_snoc]; omega, by have := h.room; simp only [createS]; rw [used_snoc]; exact this, by have := h.len; simp only [createS, List.length_append, List.length_cons, List.length_nil]; omega, h.a1, h.a2, h.a3⟩
  · intro i j a b ha hb e
    simp only [createS] at ha hb
    have hi : i < d.files.length + 1 := by have := (List.getElem?_eq_some_iff.1 ha).1; simpa using this
    have hj : j < d.files.length + 1 := by have := (List.getElem?_eq_some_iff.1 hb).1; simpa using this
    rw [List.getElem?_append] at ha hb
    split at ha <;> split at hb
    · exact h.nums i j a b ha hb e
    · have h1 := h.le a (List.mem_of_getElem? ha)
      have h2 : j - d.files.length = 0 := by omega
      rw [h2] at hb
      simp only [List.getElem?_cons_zero, Option.some.injEq] at hb
      subst hb
      simp only at e
      omega
    · have h1 := h.le b (List.mem_of_getElem? hb)
      have h2 : i - d.files.length = 0 := by omega
      rw [h2] at ha
      simp only [List.getElem?_cons_zero, Option.some.injEq] at ha
      subst ha
      simp only at e
      omega
    · omega
  · intro f hf
    simp only [createS] at hf ⊢
    rcases List.mem_append.1 hf with hf | hf
    · have := h.le f hf; omega
    · simp only [List.mem_singleton] at hf
      subst hf
      exact Int.le_refl _
theorem posOf_get {l : List FL} {k : Int} {i : Nat} {bs : List ByteArray} (h : posOf l k = some (i, bs)) : l[i]? = some (k, bs) := by
  unfold posOf at h
  split at h
  · rename_i i' hf
    simp only [Option.some.injEq, Prod.mk.injEq] at h
    obtain ⟨rfl, h2⟩ := h
    obtain ⟨hlt, hp, _⟩ := List.findIdx?_eq_some_iff_getElem.1 hf
    simp only [beq_iff_eq] at hp
    rw [List.getD_eq_getElem?_getD, List.getElem?_eq_getElem hlt, Option.getD_some] at h2
    rw [List.getElem?_eq_getElem hlt, ← hp, ← h2]
  · cases h
theorem Wf.delete {n : Nat} {d : DS} (h : Wf n d) (file : Int) : Wf n (deleteS d file).2 := by
  unfold deleteS
  cases hp : posOf d.files file with
  | none => exact h
  | some x =>
    obtain ⟨i, bs⟩ := x
    have hu := used_erase d.files i _ (posOf_get hp)
    have hroom := h.room
    have hused := h.used
    refine { h with nums := ?_, le := fun f hf => h.le f (List.mem_of_mem_eraseIdx hf), used := by simp only; omega, room := by simp only; omega, len := by have := List.length_eraseIdx_le d.files i; have := h.len; simp only; omega }
    intro a b x y hx hy e
    simp only [List.getElem?_eraseIdx] at hx hy
    have key := fun a b hx hy => h.nums a b x y hx hy e
    split at hx <;> split at hy
    · exact key a b hx hy
    · have := key _ _ hx hy; omega
    · have := key _ _ hx hy; omega
    · have := key _ _ hx hy; omega
theorem Wf.append {n : Nat} {d : DS} (h : Wf n d) (file : Int) (text : ByteArray) : Wf (n + 1) (appendS d file text).2 := by
  have hw := h.write.more
  unfold appendS
  split
  · exact hw
  · cases hp : posOf d.files file with
    | none => exact hw
    | some x =>
      obtain ⟨i, bs⟩ := x
      simp only
      split
      · exact hw
      · split
        · exact hw
        · rename_i hfull
          have hg := posOf_get hp
          have hu := used_set d.files i _ file (if d.f3 = 1 then turnS text d.bit else text) hg
          simp only at hu
          have hil := (List.getElem?_eq_some_iff.1 hg).1
          have hroom := h.room
          have hused := h.used
          refine { hw with nums := ?_, le := ?_, wrote0 := by have := h.wrote0; simp only; omega, wrote1 := by have := h.wrote1; simp only; omega, used := by simp only; omega, room := by simp only; omega, len := by have := h.len; simp only [List.length_set]; omega }
          · intro a b x y hx hy e
            have key : ∀ (a : Nat) (x : FL), (d.files.set i (file, bs ++ [if d.f3 = 1 then turnS text d.bit else text]))[a]? = some x → ∃ x' : FL, d.files[a]? = some x' ∧ x'.1 = x.1 := by
              intro a x hx
              rw [List.getElem?_set] at hx
              split at hx
              · rename_i e
                simp only [Option.some.injEq] at hx
                subst hx
                subst e
                exact ⟨_, hg, rfl⟩
              · exact ⟨x, hx, rfl⟩
            obtain ⟨x', hx', ex⟩ := key a x hx
            obtain ⟨y', hy', ey⟩ := key b y hy
            exact h.nums a b x' y' hx' hy' (by rw [ex, ey]; exact e)
          · intro f hf
            rcases List.mem_or_eq_of_mem_set hf with hf | rfl
            · exact h.le f hf
            · exact h.le (file, bs) (List.mem_of_getElem? hg)
end Go.Proofs.Ytjoinhljdbljaaa
