/- The walk of appendInt: eight bytes, the high ones first, the sign's bit turned. -/
import Derived.Test.YtjoinhljdbljaaaKeyB
namespace Go.Proofs.Ytjoinhljdbljaaa
open Go.RowKit

theorem xor_top (a : Nat) (h : a < 2 ^ 63) : a ^^^ 2 ^ 63 = 2 ^ 63 + a := by
  apply Nat.eq_of_testBit_eq
  intro i
  rw [Nat.testBit_xor, Nat.testBit_two_pow]
  rcases Nat.lt_trichotomy i 63 with hi | hi | hi
  · rw [Nat.testBit_two_pow_add_gt hi, decide_eq_false (by omega)]; simp
  · subst hi; rw [Nat.testBit_two_pow_add_eq]; simp
  · rw [Nat.testBit_lt_two_pow (show 2 ^ 63 + a < 2 ^ i from Nat.lt_of_lt_of_le (by omega : 2 ^ 63 + a < 2 ^ 64) (Nat.pow_le_pow_right (by omega) hi)), decide_eq_false (by omega),
      Nat.testBit_lt_two_pow (show a < 2 ^ i from Nat.lt_of_lt_of_le h (Nat.pow_le_pow_right (by omega) (by omega)))]; rfl

def up (n : Int) : Nat := (n + 9223372036854775808).toNat

theorem xor63 (n : Int) (hn1 : -9223372036854775808 ≤ n) (hn2 : n ≤ 9223372036854775807) :
    bits .xor .u64 (IntKind.u64.wrap n) 9223372036854775808 = ((up n : Nat) : Int) := by
  rw [IntKind.wrap_u64]
  obtain ⟨a, ha⟩ : ∃ a : Nat, n % 18446744073709551616 = (a : Int) := ⟨(n % 18446744073709551616).toNat, by omega⟩
  rw [ha]
  have := u64_xor_nat a 9223372036854775808 (by omega) (by omega)
  rw [show (9223372036854775808 : Int) = ((9223372036854775808 : Nat) : Int) from rfl, this]
  congr 1
  unfold up
  by_cases h : 0 ≤ n
  · have : a < 2 ^ 63 := by omega
    have e := xor_top a this
    simp only [show (2 : Nat) ^ 63 = 9223372036854775808 from rfl] at e
    rw [e]; omega
  · obtain ⟨b, rfl⟩ : ∃ b, a = 2 ^ 63 + b := ⟨a - 2 ^ 63, by omega⟩
    have e := xor_top b (by omega)
    rw [← e, show (9223372036854775808 : Nat) = 2 ^ 63 from rfl, Nat.xor_assoc, Nat.xor_self, Nat.xor_zero]
    omega

theorem up_lt (n : Int) (hn1 : -9223372036854775808 ≤ n) (hn2 : n ≤ 9223372036854775807) : up n ≤ 18446744073709551615 := by unfold up; omega

def by8 (u j : Nat) : UInt8 := UInt8.ofNat (u / 256 ^ (7 - j) % 256)
def encNat (u : Nat) : List UInt8 := (List.range 8).map (by8 u)
def encInt (n : Int) : List UInt8 := encNat (up n)

theorem by8_eq (u j : Nat) (D : Int) (hD : D = ((256 ^ (7 - j) : Nat) : Int)) : (u : Int) / D % 256 = ((by8 u j).toNat : Int) := by
  subst hD
  unfold by8
  rw [UInt8.toNat_ofNat']
  omega

theorem by8_eq7 (u : Nat) : (u : Int) % 256 = ((by8 u 7).toNat : Int) := by
  have := by8_eq u 7 1 (by decide)
  simpa using this

set_option maxHeartbeats 2000000 in
theorem wordsAppend_any (base : Nat) (v : Value) (bs : List UInt8) (u : Nat) (w : World) (ho : Tx w base v bs) (hb : base ≤ w.heap.size) (hl : bs.length ≤ 1000000000000) :
    Calls Try.prog 90 #[v, .int .u64 u] w fun e w' => ∃ v', e = .returned v' ∧ Tx w' base v' (bs ++ encNat u) ∧ Fr base w w' := by
  go_enter Try.func90, Try.ntmps90
  go_wp2
  go_loopw [0, 5] (fun t i wr => ∃ k : Nat, k ≤ 8 ∧ i = .int .i64 (56 - 8 * (k : Int)) ∧ Tx wr base t (bs ++ (List.range k).map (by8 u)) ∧ Fr base w wr) (fun _ i _ => (8 + intOf i).toNat)
  case atStart => exact ⟨0, by omega, rfl, by simpa using ho, Fr.refl _ _⟩
  case round =>
    obtain ⟨k, hk, rfl, hT, hB⟩ := hrel
    have hsz := hB.size
    by_cases hlt : k < 8
    · rcases (show k = 0 ∨ k = 1 ∨ k = 2 ∨ k = 3 ∨ k = 4 ∨ k = 5 ∨ k = 6 ∨ k = 7 from by omega) with rfl | rfl | rfl | rfl | rfl | rfl | rfl | rfl
      · go_wp2_with (at_builtin; refine tx_append rfl (.tmp 10) (.tmp 15) rfl base _ _ rfl (hT.alloc _) _ [by8 u 0] _ rfl (new_one _ _ _ (by8_eq u 0 72057594037927936 (by decide))) (by simp; omega) (by simp; omega) ?_; intro v1 w1 hT1 hB1)
        go_roundw
        case rel => exact ⟨1, by omega, by go_num, by simpa [List.range, List.range.loop] using hT1, (hB.alloc (by omega) _).trans hB1⟩
        case measure => simp [intOf]
      · go_wp2_with (at_builtin; refine tx_append rfl (.tmp 10) (.tmp 15) rfl base _ _ rfl (hT.alloc _) _ [by8 u 1] _ rfl (new_one _ _ _ (by8_eq u 1 281474976710656 (by decide))) (by simp; omega) (by simp; omega) ?_; intro v1 w1 hT1 hB1)
        go_roundw
        case rel => exact ⟨2, by omega, by go_num, by simpa [List.range, List.range.loop] using hT1, (hB.alloc (by omega) _).trans hB1⟩
        case measure => simp [intOf]
      · go_wp2_with (at_builtin; refine tx_append rfl (.tmp 10) (.tmp 15) rfl base _ _ rfl (hT.alloc _) _ [by8 u 2] _ rfl (new_one _ _ _ (by8_eq u 2 1099511627776 (by decide))) (by simp; omega) (by simp; omega) ?_; intro v1 w1 hT1 hB1)
        go_roundw
        case rel => exact ⟨3, by omega, by go_num, by simpa [List.range, List.range.loop] using hT1, (hB.alloc (by omega) _).trans hB1⟩
        case measure => simp [intOf]
      · go_wp2_with (at_builtin; refine tx_append rfl (.tmp 10) (.tmp 15) rfl base _ _ rfl (hT.alloc _) _ [by8 u 3] _ rfl (new_one _ _ _ (by8_eq u 3 4294967296 (by decide))) (by simp; omega) (by simp; omega) ?_; intro v1 w1 hT1 hB1)
        go_roundw
        case rel => exact ⟨4, by omega, by go_num, by simpa [List.range, List.range.loop] using hT1, (hB.alloc (by omega) _).trans hB1⟩
        case measure => simp [intOf]
      · go_wp2_with (at_builtin; refine tx_append rfl (.tmp 10) (.tmp 15) rfl base _ _ rfl (hT.alloc _) _ [by8 u 4] _ rfl (new_one _ _ _ (by8_eq u 4 16777216 (by decide))) (by simp; omega) (by simp; omega) ?_; intro v1 w1 hT1 hB1)
        go_roundw
        case rel => exact ⟨5, by omega, by go_num, by simpa [List.range, List.range.loop] using hT1, (hB.alloc (by omega) _).trans hB1⟩
        case measure => simp [intOf]
      · go_wp2_with (at_builtin; refine tx_append rfl (.tmp 10) (.tmp 15) rfl base _ _ rfl (hT.alloc _) _ [by8 u 5] _ rfl (new_one _ _ _ (by8_eq u 5 65536 (by decide))) (by simp; omega) (by simp; omega) ?_; intro v1 w1 hT1 hB1)
        go_roundw
        case rel => exact ⟨6, by omega, by go_num, by simpa [List.range, List.range.loop] using hT1, (hB.alloc (by omega) _).trans hB1⟩
        case measure => simp [intOf]
      · go_wp2_with (at_builtin; refine tx_append rfl (.tmp 10) (.tmp 15) rfl base _ _ rfl (hT.alloc _) _ [by8 u 6] _ rfl (new_one _ _ _ (by8_eq u 6 256 (by decide))) (by simp; omega) (by simp; omega) ?_; intro v1 w1 hT1 hB1)
        go_roundw
        case rel => exact ⟨7, by omega, by go_num, by simpa [List.range, List.range.loop] using hT1, (hB.alloc (by omega) _).trans hB1⟩
        case measure => simp [intOf]
      · go_wp2_with (at_builtin; refine tx_append rfl (.tmp 10) (.tmp 15) rfl base _ _ rfl (hT.alloc _) _ [by8 u 7] _ rfl (new_one _ _ _ (by8_eq7 u)) (by simp; omega) (by simp; omega) ?_; intro v1 w1 hT1 hB1)
        go_roundw
        case rel => exact ⟨8, by omega, by go_num, by simpa [List.range, List.range.loop] using hT1, (hB.alloc (by omega) _).trans hB1⟩
        case measure => simp [intOf]
    · obtain rfl : k = 8 := by omega
      go_wp2
      go_ret
      exact ⟨_, rfl, hT, hB⟩

set_option maxHeartbeats 2000000 in
theorem appendInt_any (base : Nat) (v : Value) (bs : List UInt8) (n : Int) (w : World) (ho : Tx w base v bs) (hb : base ≤ w.heap.size) (hl : bs.length ≤ 1000000000000) (hn1 : -9223372036854775808 ≤ n) (hn2 : n ≤ 9223372036854775807) :
    Calls Try.prog 83 #[v, .int .i64 n] w fun e w' => ∃ v', e = .returned v' ∧ Tx w' base v' (bs ++ encInt n) ∧ Fr base w w' := by
  unfold encInt
  have hx := xor63 n hn1 hn2
  go_enter Try.func83, Try.ntmps83
  go_wp2_with (go_at_call 90; first | rw [hx] | skip; refine (wordsAppend_any base _ bs (up n) _ ho hb hl).mono ?_; rintro e w1 ⟨v', rfl, hT, hB⟩)
  go_ret
  exact ⟨_, rfl, hT, hB⟩
end Go.Proofs.Ytjoinhljdbljaaa
