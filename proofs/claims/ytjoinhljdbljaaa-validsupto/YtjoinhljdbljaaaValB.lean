/- Small readers: ranges, values. -/
import Derived.Test.YtjoinhljdbljaaaValA
import Derived.Deep.QuietTactic
import Derived.BigQuiet
namespace Go.Proofs.Ytjoinhljdbljaaa
open Go.RowKit

theorem Below.t {w w' : World} (h : Below w.heap.size w w') : Touch [] w w' := ⟨h.os, h.tape, h.output, h.size, fun k hk _ => h.block k hk⟩
theorem Touch.b {w w' : World} (h : Touch [] w w') : Below w.heap.size w w' := ⟨h.os, h.tape, h.output, h.size, fun k hk => h.block k hk (by simp)⟩
theorem stepB {F : List Nat} {w w' : World} (h : Below w.heap.size w w') : Step F F w w' := Step.of (Below.t h)
theorem bthen {w w1 w2 : World} (h : Below w.heap.size w w1) (k : Below w1.heap.size w1 w2) : Below w.heap.size w w2 := h.trans (k.mono h.size)

def inB (n lo hi : Int) : Bool := decide (lo ≤ n) && decide (n ≤ hi)
def nilB (s : ByteArray) : Bool := s.toList.isEmpty
/-- may a value stand in a column of a kind? -/
def rvalB (v : V) (k : Int) : Bool :=
  if v.k = 0 then decide (v.n = 0) && nilB v.s else if v.k = k then (if k = 2 then decide (v.n = 0) && decide (v.s.size ≤ 200) else nilB v.s && (decide (k = 1) || inB v.n 0 1)) else false
def gvalB (v : V) : Bool :=
  if v.k = 0 then decide (v.n = 0) && nilB v.s else if v.k = 1 then nilB v.s else if v.k = 2 then decide (v.n = 0) && decide (v.s.size ≤ 200) else if v.k = 3 then (decide (v.n = 0) || decide (v.n = 1)) && nilB v.s else false
def callers : ByteArray := ⟨#[116, 104, 101, 32, 99, 97, 108, 108, 101, 114, 39, 115]⟩

set_option maxHeartbeats 400000 in
theorem in_any (n lo hi : Int) (w : World) : Calls Try.prog 48 #[.int .i64 n, .int .i64 lo, .int .i64 hi] w fun e w' => e = .returned (.bool (inB n lo hi)) ∧ w' = w := by
  by_cases h : lo ≤ n
  · have E : Hid (inB n lo hi = decide (n ≤ hi)) := by simp [Hid, inB, h]
    go_enter Try.func48, Try.ntmps48
    go_wp2
    go_ret
    exact ⟨by rw [E.out]; rfl, rfl⟩
  · have E : Hid (inB n lo hi = false) := by simp [Hid, inB, h]
    have hd : decide (lo ≤ n) = false := by simpa using h
    go_enter Try.func48, Try.ntmps48
    go_wp2
    go_ret
    exact ⟨by rw [E.out]; rfl, rfl⟩
set_option maxHeartbeats 400000 in
theorem mark_any (n : Int) (w : World) : Calls Try.prog 40 #[.int .i64 n] w fun e w' => e = .returned (.agg #[.int .i64 9, .int .i64 n, .string callers]) ∧ Below w.heap.size w w' := by
  go_enter Try.func40, Try.ntmps40
  go_wp2
  exact bodyPost_ret (v := .agg #[.int .i64 9, .int .i64 n, .string callers]) (by simp [results, Try.results40, go_sem, callers]) rfl ⟨rfl, (Below.refl _ _).alloc (Nat.le_refl _) _⟩
set_option maxHeartbeats 400000 in
theorem value_any (v : V) (w : World) : Calls Try.prog 62 #[.agg #[.int .i64 v.k, .int .i64 v.n, .string v.s]] w fun e w' => e = .returned (.agg #[.int .i64 v.k, .int .i64 v.n, .string v.s]) ∧ Below w.heap.size w w' := by
  go_enter Try.func62, Try.ntmps62
  go_wp2
  exact bodyPost_ret (v := .agg #[.int .i64 v.k, .int .i64 v.n, .string v.s]) (by simp [results, Try.results62, go_sem]) rfl ⟨rfl, by repeat (first | exact Below.refl _ _ | refine Below.alloc ?_ (by simp) _ | refine Below.setCell ?_ (by simp) _)⟩
set_option maxHeartbeats 1000000 in
theorem goodValue_any (v : V) (w : World) : Calls Try.prog 85 #[.agg #[.int .i64 v.k, .int .i64 v.n, .string v.s]] w fun e w' => e = .returned (.bool (gvalB v)) ∧ Below w.heap.size w w' := by
  obtain ⟨k, n, s⟩ := v
  have HG : Hid (gvalB ⟨k, n, s⟩ = if k = 0 then decide (n = 0) && s.toList.isEmpty else if k = 1 then s.toList.isEmpty else if k = 2 then decide (n = 0) && decide (s.size ≤ 200) else if k = 3 then (decide (n = 0) || decide (n = 1)) && s.toList.isEmpty else false) := rfl
  generalize gvalB ⟨k, n, s⟩ = r at *
  go_enter Try.func85, Try.ntmps85
  go_wp2
  all_goals
    go_ret
    refine ⟨?_, (Below.refl _ _).alloc (Nat.le_refl _) _⟩
    rw [HG.out]
    simp_all
  omega
set_option maxHeartbeats 1000000 in
theorem rvalue_any (v : V) (q : Int) (w : World) : Calls Try.prog 67 #[.agg #[.int .i64 v.k, .int .i64 v.n, .string v.s], .int .i64 q] w fun e w' => e = .returned (.bool (rvalB v q)) ∧ Below w.heap.size w w' := by
  obtain ⟨k, n, s⟩ := v
  have HG : Hid (rvalB ⟨k, n, s⟩ q = if k = 0 then decide (n = 0) && s.toList.isEmpty else if k = q then (if q = 2 then decide (n = 0) && decide (s.size ≤ 200) else s.toList.isEmpty && (decide (q = 1) || inB n 0 1)) else false) := rfl
  generalize rvalB ⟨k, n, s⟩ q = r at *
  have HI : Hid (∀ n lo hi w, Calls Try.prog 48 #[.int .i64 n, .int .i64 lo, .int .i64 hi] w fun e w' => e = .returned (.bool (inB n lo hi)) ∧ w' = w) := in_any
  go_enter Try.func67, Try.ntmps67
  go_wp2_with (go_at_call 48; refine (HI.out _ _ _ _).mono ?_; rintro e w' ⟨rfl, rfl⟩)
  all_goals
    go_ret
    refine ⟨?_, (Below.refl _ _).alloc (Nat.le_refl _) _⟩
    rw [HG.out]
    simp_all
  omega
end Go.Proofs.Ytjoinhljdbljaaa
