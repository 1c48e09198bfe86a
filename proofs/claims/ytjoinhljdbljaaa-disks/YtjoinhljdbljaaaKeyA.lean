/- The walks of the small functions on the way of Keys: pick, whole, clean and less return what the plain functions beside them say, for every argument. -/
import Derived.Test.YtjoinhljdbljaaaRows
import Derived.WalkKit
import Derived.WalkSpells
import Derived.WalkLawsBesides
namespace Go.Proofs.Ytjoinhljdbljaaa
open Go.RowKit

def pickN (c n : Int) : Int := (if c < 0 then -(c + 1) else c) % n

theorem pickN_neg {c n : Int} (h : c < 0) : pickN c n = (-(c + 1)) % n := by unfold pickN; rw [if_pos h]
theorem pickN_pos {c n : Int} (h : ¬ c < 0) : pickN c n = c % n := by unfold pickN; rw [if_neg h]

set_option maxHeartbeats 400000 in
theorem pick_any (c n : Int) (w : World) (h1 : -9223372036854775808 ≤ c) (h2 : c ≤ 9223372036854775807) (hn : 1 ≤ n) (hn2 : n ≤ 1000) :
    Calls Try.prog 72 #[.int .i64 c, .int .i64 n] w fun e w' => e = .returned (.int .i64 (pickN c n)) ∧ w' = w := by
  by_cases hc : c < 0
  · have e := pickN_neg (n := n) hc
    have e2 : (-(c + 1)).tmod n = (-(c + 1)) % n := Int.tmod_eq_emod_of_nonneg (by omega)
    have E : Hid (pickN c n = (-(c + 1)).tmod n) := e.trans e2.symm
    clear e e2
    go_enter Try.func72, Try.ntmps72
    go_wp2
    go_ret
    exact ⟨by rw [E.out]; simp [Int.neg_tmod], rfl⟩
  · have E : Hid (pickN c n = c % n) := pickN_pos hc
    go_enter Try.func72, Try.ntmps72
    go_wp2
    go_ret
    exact ⟨by rw [E.out]; rfl, rfl⟩

structure V where
  k : Int
  n : Int
  s : ByteArray
structure K where
  c : Int
  d : Bool
  l : Bool
def V.val (v : V) : Value := .agg #[.int .i64 v.k, .int .i64 v.n, .string v.s]
def V.cs (v : V) : List Value := [.int .i64 v.k, .int .i64 v.n, .string v.s]
def K.val (v : K) : Value := .agg #[.int .i64 v.c, .bool v.d, .bool v.l]
def K.cs (v : K) : List Value := [.int .i64 v.c, .bool v.d, .bool v.l]

set_option maxHeartbeats 400000 in
theorem whole_any (n : Int) (w : World) :
    Calls Try.prog 20 #[.int .i64 n] w fun e w' => e = .returned (.agg #[.int .i64 1, .int .i64 n, .string ⟨#[]⟩]) ∧ w' = w.alloc (.cells #[.int .i64 1, .int .i64 n, .string ⟨#[]⟩] 31) := by
  go_enter Try.func20, Try.ntmps20
  go_wp2
  exact bodyPost_ret (v := .agg #[.int .i64 1, .int .i64 n, .string ⟨#[]⟩]) (by simp [results, Try.results20, go_sem]) rfl ⟨rfl, rfl⟩

def cut200 (s : ByteArray) : ByteArray := if 200 < s.size then s.extract 0 200 else s

def cleanV (v : V) : V :=
  if pickN v.k 4 = 1 then ⟨1, v.n, ⟨#[]⟩⟩
  else if pickN v.k 4 = 2 then ⟨2, 0, cut200 v.s⟩
  else if pickN v.k 4 = 3 then ⟨3, pickN v.n 2, ⟨#[]⟩⟩
  else ⟨0, 0, ⟨#[]⟩⟩

def I64 (n : Int) : Prop := -9223372036854775808 ≤ n ∧ n ≤ 9223372036854775807


theorem pick4 (c : Int) : 0 ≤ pickN c 4 ∧ pickN c 4 < 4 := by unfold pickN; omega
theorem pick2 (c : Int) : 0 ≤ pickN c 2 ∧ pickN c 2 < 2 := by unfold pickN; omega

set_option maxHeartbeats 1000000 in
theorem clean_any (v : V) (w : World) (hk : I64 v.k) (hn : I64 v.n) :
    Calls Try.prog 55 #[v.val] w fun e w' => e = .returned (cleanV v).val ∧ Below w.heap.size w w' := by
  obtain ⟨k, n, s⟩ := v
  have hq := pick4 k
  have E1 : Hid (pickN k 4 = 1 → cleanV ⟨k, n, s⟩ = ⟨1, n, ⟨#[]⟩⟩) := fun h => by unfold cleanV; rw [if_pos h]
  have E2 : Hid (pickN k 4 = 2 → 200 < s.size → cleanV ⟨k, n, s⟩ = ⟨2, 0, s.extract 0 200⟩) := fun h h2 => by unfold cleanV; simp [h, cut200, h2]
  have E3 : Hid (pickN k 4 = 2 → s.size ≤ 200 → cleanV ⟨k, n, s⟩ = ⟨2, 0, s⟩) := fun h h2 => by unfold cleanV; simp only [h, cut200]; rw [if_neg (by omega), if_pos trivial, if_neg (by omega)]
  have E4 : Hid (pickN k 4 = 3 → cleanV ⟨k, n, s⟩ = ⟨3, pickN n 2, ⟨#[]⟩⟩) := fun h => by unfold cleanV; simp [h]
  have E5 : Hid (pickN k 4 = 0 → cleanV ⟨k, n, s⟩ = ⟨0, 0, ⟨#[]⟩⟩) := fun h => by unfold cleanV; simp [h]
  generalize cleanV ⟨k, n, s⟩ = r at *
  simp only [V.val] at *
  obtain ⟨hk1, hk2⟩ := hk
  obtain ⟨hn1, hn2⟩ := hn
  go_enter Try.func55, Try.ntmps55
  go_wp2_with (first | (go_at_call 72; refine (pick_any _ _ _ (by omega) (by omega) (by omega) (by omega)).mono ?_; rintro e w' ⟨rfl, rfl⟩) | (go_at_call 20; refine (whole_any _ _).mono ?_; rintro e w' ⟨rfl, rfl⟩))
  · have h : pickN k 4 = 1 := by simpa using (by assumption : (pickN k 4 == 1) = true)
    rw [E1.out h]
    exact bodyPost_ret (v := .agg #[.int .i64 1, .int .i64 n, .string ⟨#[]⟩]) (by simp [results, Try.results55, go_sem]) rfl ⟨rfl, by repeat (first | exact Below.refl _ _ | refine Below.alloc ?_ (by simp; try omega) _ | refine Below.setCell ?_ (by simp; try omega) _)⟩
  · have h : pickN k 4 = 2 := by simpa using (by assumption : (pickN k 4 == 2) = true)
    rw [E2.out h (by omega)]
    exact bodyPost_ret (v := .agg #[.int .i64 2, .int .i64 0, .string (s.extract 0 200)]) (by simp [results, Try.results55, go_sem]) rfl ⟨rfl, by repeat (first | exact Below.refl _ _ | refine Below.alloc ?_ (by simp; try omega) _)⟩
  · have h : pickN k 4 = 2 := by simpa using (by assumption : (pickN k 4 == 2) = true)
    rw [E3.out h (by omega)]
    exact bodyPost_ret (v := .agg #[.int .i64 2, .int .i64 0, .string s]) (by simp [results, Try.results55, go_sem]) rfl ⟨rfl, by repeat (first | exact Below.refl _ _ | refine Below.alloc ?_ (by simp; try omega) _)⟩
  · have h : pickN k 4 = 3 := by simpa using (by assumption : (pickN k 4 == 3) = true)
    rw [E4.out h]
    exact bodyPost_ret (v := .agg #[.int .i64 3, .int .i64 (pickN n 2), .string ⟨#[]⟩]) (by simp [results, Try.results55, go_sem]) rfl ⟨rfl, by repeat (first | exact Below.refl _ _ | refine Below.alloc ?_ (by simp; try omega) _)⟩
  · have h : pickN k 4 = 0 := by
      have h1 : pickN k 4 ≠ 1 := by simpa using (by assumption : (pickN k 4 == 1) = false)
      have h2 : pickN k 4 ≠ 2 := by simpa using (by assumption : (pickN k 4 == 2) = false)
      have h3 : pickN k 4 ≠ 3 := by simpa using (by assumption : (pickN k 4 == 3) = false)
      omega
    rw [E5.out h]
    exact bodyPost_ret (v := .agg #[.int .i64 0, .int .i64 0, .string ⟨#[]⟩]) (by simp [results, Try.results55, go_sem]) rfl ⟨rfl, by repeat (first | exact Below.refl _ _ | refine Below.alloc ?_ (by simp; try omega) _)⟩

def lessV (a b : V) : Bool := decide (a.n < b.n) || Op.bytesLess a.s.toList b.s.toList

set_option maxHeartbeats 1000000 in
theorem less_any (a b : V) (w : World) :
    Calls Try.prog 56 #[a.val, b.val] w fun e w' => e = .returned (.bool (lessV a b)) ∧ Below w.heap.size w w' := by
  obtain ⟨k, n, s⟩ := a
  obtain ⟨k', n', s'⟩ := b
  simp only [V.val] at *
  have E : Hid (lessV ⟨k, n, s⟩ ⟨k', n', s'⟩ = (decide (n < n') || Op.bytesLess s.toList s'.toList)) := rfl
  generalize lessV ⟨k, n, s⟩ ⟨k', n', s'⟩ = r at *
  by_cases h : n < n'
  · go_enter Try.func56, Try.ntmps56
    go_wp2
    go_ret
    exact ⟨by rw [E.out]; simp [h], by repeat (first | exact Below.refl _ _ | refine Below.alloc ?_ (by simp; try omega) _)⟩
  · go_enter Try.func56, Try.ntmps56
    go_wp2
    go_ret
    exact ⟨by rw [E.out, decide_eq_false (by omega)]; rfl, by repeat (first | exact Below.refl _ _ | refine Below.alloc ?_ (by simp; try omega) _)⟩
end Go.Proofs.Ytjoinhljdbljaaa
