/- The columns that a Group gives. -/
import Derived.Test.YtjoinhljdbljaaaValD
namespace Go.Proofs.Ytjoinhljdbljaaa
open Go.RowKit

def colAt (l : List Int) (c : Int) : Int := l.getD c.toNat 0
def InCol (c : Int) (l : List Int) : Prop := 0 ≤ c ∧ c < (l.length : Int)
def SumOK (s : VS) (left : List Int) : Prop := InCol s.col left ∧ ((s.op = 1 ∧ s.col = 0) ∨ s.op = 2 ∨ s.op = 3 ∨ (s.op = 4 ∧ colAt left s.col = 1))
def sumK (left : List Int) (s : VS) : Int := if s.op = 1 then 1 else colAt left s.col
def GroupOK (cols : List Int) (sums : List VS) (left : List Int) : Prop := cols.length ≤ 4 ∧ sums.length ≤ 4 ∧ (∀ i (h : i < cols.length), InCol cols[i] left) ∧ (∀ i (h : i < sums.length), SumOK sums[i] left)
def groupL (cols : List Int) (sums : List VS) (left : List Int) : List Int := cols.map (colAt left) ++ sums.map (sumK left)

/-- a new list of numbers comes back, or there is none -/
def PairPost (F : List Nat) (P : Prop) (l : List Int) (w : World) : Ending → World → Prop :=
  fun e w' => ∃ ao m cap b, e = .returned (.tuple #[.slice ao m cap, .bool b]) ∧ (b = true ↔ P) ∧ (P → IntsIn w' F (.slice ao m cap) l) ∧ Below w.heap.size w w'
theorem PairPost.yes {F : List Nat} {P : Prop} {l : List Int} {w w' : World} {ao : Option Addr} {m cap : Nat} (h : P) (hi : IntsIn w' F (.slice ao m cap) l) (hb : Below w.heap.size w w') : PairPost F P l w (.returned (.tuple #[.slice ao m cap, .bool true])) w' := ⟨ao, m, cap, true, rfl, by simp [h], fun _ => hi, hb⟩
theorem PairPost.no {F : List Nat} {P : Prop} {l : List Int} {w w' : World} {ao : Option Addr} {m cap : Nat} (h : ¬ P) (hb : Below w.heap.size w w') : PairPost F P l w (.returned (.tuple #[.slice ao m cap, .bool false])) w' := ⟨ao, m, cap, false, rfl, by simp [h], fun hp => absurd hp h, hb⟩

def SumPost (s : VS) (left : List Int) (w : World) : Ending → World → Prop := fun e w' => ∃ k b, e = .returned (.tuple #[.int .i64 k, .bool b]) ∧ (b = true ↔ SumOK s left) ∧ (SumOK s left → k = sumK left s) ∧ Below w.heap.size w w'
theorem SumPost.yes {s : VS} {left : List Int} {w w' : World} {k : Int} (h : SumOK s left) (hk : k = sumK left s) (hb : Below w.heap.size w w') : SumPost s left w (.returned (.tuple #[.int .i64 k, .bool true])) w' := ⟨k, true, rfl, by simp [h], fun _ => hk, hb⟩
theorem SumPost.no {s : VS} {left : List Int} {w w' : World} {k : Int} (h : ¬ SumOK s left) (hb : Below w.heap.size w w') : SumPost s left w (.returned (.tuple #[.int .i64 k, .bool false])) w' := ⟨k, false, rfl, by simp [h], fun hp => absurd hp h, hb⟩

theorem colAt_nat {l : List Int} {c : Nat} (h : c < l.length) : colAt l (c : Int) = l[c] := by simp [colAt, h]
theorem InCol.nat {l : List Int} {c : Int} (h : InCol c l) : ∃ n : Nat, c = (n : Int) ∧ n < l.length := ⟨c.toNat, by have := h.1; omega, by have := h.1; have := h.2; omega⟩
theorem isColB_in {c : Int} {l : List Int} (h : InCol c l) : isColB c l.length = true := (isColB_iff _ _).2 h
theorem isColB_out {c : Int} {l : List Int} (h : ¬ InCol c l) : isColB c l.length = false := by rw [← Bool.not_eq_true, isColB_iff]; exact h

set_option maxHeartbeats 1000000 in
theorem summed_any (s : VS) (v : Value) (left : List Int) (w : World) (h : IntsIn w [] v left) : Calls Try.prog 93 #[.agg #[.int .i64 s.op, .int .i64 s.col], v] w (SumPost s left w) := by
  obtain ⟨ao, cap, rfl, hc, hm, _⟩ := h.open
  have HV : Hid (IntsIn w [] (.slice ao left.length cap) left) := h
  clear h
  have HI : Hid (∀ c ao n cap w, Calls Try.prog 91 #[.int .i64 c, .slice ao n cap] w fun e w' => e = .returned (.bool (isColB c n)) ∧ w' = w) := isColumn_any
  obtain ⟨op, col⟩ := s
  simp only
  by_cases hin : InCol col left
  · have hb := isColB_in hin
    obtain ⟨c, rfl, hcl⟩ := hin.nat
    obtain ⟨b, off, hao, hcell⟩ := HV.out.cells (by omega)
    subst hao
    have c0 := hcell c hcl
    have hbw : b < w.heap.size := World.block_lt_of_cell? w _ c0
    have HC : Hid (colAt left (c : Int) = left[c]) := colAt_nat hcl
    have HY : Hid (∀ k w', ((op = 1 ∧ (c : Int) = 0) ∨ op = 2 ∨ op = 3 ∨ (op = 4 ∧ left[c] = 1)) → k = (if op = 1 then 1 else left[c]) → Below w.heap.size w w' → SumPost ⟨op, (c : Int)⟩ left w (.returned (.tuple #[.int .i64 k, .bool true])) w') :=
      fun k w' h1 h2 h3 => SumPost.yes ⟨hin, by rw [HC.out]; exact h1⟩ (by rw [h2]; simp only [sumK, HC.out]) h3
    have HN : Hid (∀ k w', ¬ ((op = 1 ∧ (c : Int) = 0) ∨ op = 2 ∨ op = 3 ∨ (op = 4 ∧ left[c] = 1)) → Below w.heap.size w w' → SumPost ⟨op, (c : Int)⟩ left w (.returned (.tuple #[.int .i64 k, .bool false])) w') :=
      fun k w' h1 h3 => SumPost.no (fun h => h1 (by have := h.2; rw [HC.out] at this; exact this)) h3
    have HB : Hid (∀ o, Below w.heap.size w (w.alloc o)) := fun o => (Below.refl _ _).alloc (Nat.le_refl _) o
    generalize left[c] = q at *
    clear hcell
    go_enter Try.func93, Try.ntmps93
    by_cases h1 : op = 1
    · subst h1
      by_cases h0 : c = 0
      · have hz : ((c : Int) == 0) = true := by simp [h0]
        have hb0 : isColB 0 left.length = true := by simpa [h0] using hb
        go_wp2_with (go_at_call 91; refine (HI.out _ _ _ _ _).mono ?_; rintro e w' ⟨rfl, rfl⟩)
        first
          | (go_ret2; exact HY.out _ _ (by simp [h0]) (by simp) (HB.out _))
          | (go_region; all_goals (go_wp2; go_ret2; exact HY.out _ _ (by simp [h0]) (by simp) (HB.out _).drew))
      · have hz : ((c : Int) == 0) = false := by simp; omega
        go_wp2_with (go_at_call 91; refine (HI.out _ _ _ _ _).mono ?_; rintro e w' ⟨rfl, rfl⟩)
        first
          | (go_ret2; exact HN.out _ _ (by omega) (HB.out _))
          | (go_region; all_goals (go_wp2; go_ret2; exact HN.out _ _ (by omega) (HB.out _).drew))
    · have e1 : (op == 1) = false := by simp [h1]
      by_cases h2 : op = 2
      · subst h2
        go_wp2_with (go_at_call 91; refine (HI.out _ _ _ _ _).mono ?_; rintro e w' ⟨rfl, rfl⟩)
        first
          | (go_ret2; exact HY.out _ _ (by simp) (by simp) (HB.out _))
          | (go_region; all_goals (go_wp2; go_ret2; exact HY.out _ _ (by simp) (by simp) (HB.out _).drew))
      · have e2 : (op == 2) = false := by simp [h2]
        by_cases h3 : op = 3
        · subst h3
          go_wp2_with (go_at_call 91; refine (HI.out _ _ _ _ _).mono ?_; rintro e w' ⟨rfl, rfl⟩)
          first
            | (go_ret2; exact HY.out _ _ (by simp) (by simp) (HB.out _))
            | (go_region; all_goals (go_wp2; go_ret2; exact HY.out _ _ (by simp) (by simp) (HB.out _).drew))
        · have e3 : (op == 3) = false := by simp [h3]
          by_cases h4 : op = 4
          · subst h4
            by_cases hq : q = 1
            · subst hq
              go_wp2_with (go_at_call 91; refine (HI.out _ _ _ _ _).mono ?_; rintro e w' ⟨rfl, rfl⟩)
              first
                | (go_ret2; exact HY.out _ _ (by simp) (by simp) (HB.out _))
                | (go_region; all_goals (go_wp2; go_ret2; exact HY.out _ _ (by simp) (by simp) (HB.out _).drew))
            · have eq1 : (q == 1) = false := by simp [hq]
              go_wp2_with (go_at_call 91; refine (HI.out _ _ _ _ _).mono ?_; rintro e w' ⟨rfl, rfl⟩)
              first
                | (go_ret2; exact HN.out _ _ (by omega) (HB.out _))
                | (go_region; all_goals (go_wp2; go_ret2; exact HN.out _ _ (by omega) (HB.out _).drew))
          · have e4 : (op == 4) = false := by simp [h4]
            go_wp2_with (go_at_call 91; refine (HI.out _ _ _ _ _).mono ?_; rintro e w' ⟨rfl, rfl⟩)
            first
              | (go_ret2; exact HN.out _ _ (by omega) (HB.out _))
              | (go_region; all_goals (go_wp2; go_ret2; exact HN.out _ _ (by omega) (HB.out _).drew))
  · have hb := isColB_out hin
    have HN : Hid (¬ SumOK ⟨op, col⟩ left) := fun h => hin h.1
    clear hin
    go_enter Try.func93, Try.ntmps93
    go_wp2_with (go_at_call 91; refine (HI.out _ _ _ _ _).mono ?_; rintro e w' ⟨rfl, rfl⟩)
    go_ret2
    exact SumPost.no HN.out ((Below.refl _ _).alloc (Nat.le_refl _) _)
end Go.Proofs.Ytjoinhljdbljaaa
