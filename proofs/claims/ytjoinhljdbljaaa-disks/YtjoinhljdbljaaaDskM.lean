/- The walk of one deed on a disk and the document's disk. -/
import Derived.Test.YtjoinhljdbljaaaDskL
namespace Go.Proofs.Ytjoinhljdbljaaa
open Go.RowKit
open Go.ChangeMaps (setBlock)

abbrev PFt (bx bm : Nat) (M : List PF) : List Nat := bx :: bm :: rowsOf M
abbrev RFt (bd bf : Nat) (fv : Value) (M : List PF) : List Nat := bd :: bf :: (fv.ownBlock.toList ++ rowsOf M)

def Duo (w : World) (bx bd : Nat) (F : List Nat) (n : Nat) : Prop :=
  ∃ bm bf fv d M M2, PD w bx bm d M ∧ RD w bd bf fv d M2 ∧ Wf n d ∧ F = PFt bx bm M ++ RFt bd bf fv M2 ∧ (∀ k ∈ PFt bx bm M, k ∉ RFt bd bf fv M2)

theorem Duo.lt {w : World} {bx bd : Nat} {F : List Nat} {n : Nat} (h : Duo w bx bd F n) : ∀ k ∈ F, k < w.heap.size := by
  obtain ⟨bm, bf, fv, d, M, M2, hP, hR, _, rfl, _⟩ := h
  intro k hk
  rcases List.mem_append.1 hk with hk | hk
  · exact hP.lt k hk
  · exact hR.lt k hk
theorem Duo.away {w w' : World} {bx bd : Nat} {F G : List Nat} {n : Nat} (h : Duo w bx bd F n) (ht : Touch G w w') (hG : ∀ k ∈ F, k ∉ G) : Duo w' bx bd F n := by
  obtain ⟨bm, bf, fv, d, M, M2, hP, hR, hw, rfl, hd⟩ := h
  exact ⟨bm, bf, fv, d, M, M2, hP.away ht (fun k hk => hG k (List.mem_append_left _ hk)), hR.away ht (fun k hk => hG k (List.mem_append_right _ hk)), hw, rfl, hd⟩
theorem Duo.more {w : World} {bx bd : Nat} {F : List Nat} {n : Nat} (h : Duo w bx bd F n) : Duo w bx bd F (n + 1) := by
  obtain ⟨bm, bf, fv, d, M, M2, hP, hR, hw, rfl, hd⟩ := h
  exact ⟨bm, bf, fv, d, M, M2, hP, hR, hw.more, rfl, hd⟩

/-- what one deed leaves -/
def After (w : World) (bx bd : Nat) (F : List Nat) (n : Nat) (w' : World) : Prop :=
  ∃ F', Duo w' bx bd F' (n + 1) ∧ (∀ k ∈ F', k ∈ F ∨ w.heap.size ≤ k) ∧ Touch F w w'

theorem duo_mid {w w1 w2 : World} {bx bm bd bf : Nat} {fv : Value} {d : DS} {M M2 : List PF} (hR : RD w bd bf fv d M2) (hd : ∀ k ∈ PFt bx bm M, k ∉ RFt bd bf fv M2) (h0 : Touch [] w w1) (h1 : Touch (PFt bx bm M) w1 w2) : RD w2 bd bf fv d M2 :=
  (hR.away h0 (by simp)).away h1 (fun k hk h => hd k h hk)

theorem duo_end {w w1 w2 w3 w4 : World} {bx bm bd bf : Nat} {fv fv' : Value} {d d' : DS} {M M2 M' M2' : List PF} {n : Nat} (hP : PD w bx bm d M) (hR : RD w bd bf fv d M2) (hd : ∀ k ∈ PFt bx bm M, k ∉ RFt bd bf fv M2)
    (h0 : Touch [] w w1) (h1 : Touch (PFt bx bm M) w1 w2) (hP' : PD w2 bx bm d' M') (hM' : ∀ k ∈ rowsOf M', k ∈ rowsOf M ∨ w1.heap.size ≤ k)
    (h2 : Touch [] w2 w3) (h3 : Touch (RFt bd bf fv M2) w3 w4) (hR' : RD w4 bd bf fv' d' M2') (hf' : ∀ k ∈ fv'.ownBlock.toList, k ∈ fv.ownBlock.toList ∨ w3.heap.size ≤ k) (hM2' : ∀ k ∈ rowsOf M2', k ∈ rowsOf M2 ∨ w3.heap.size ≤ k)
    (hw : Wf (n + 1) d') : After w bx bd (PFt bx bm M ++ RFt bd bf fv M2) n w4 := by
  have s1 := h0.size
  have s2 := h1.size
  have s3 := h2.size
  have ltR := hR.lt
  have ltP := hP.lt
  have ltP' := hP'.lt
  have subP : ∀ k ∈ PFt bx bm M', k ∈ PFt bx bm M ∨ w.heap.size ≤ k := by
    intro k hk
    simp only [List.mem_cons] at hk ⊢
    rcases hk with rfl | rfl | hk
    · exact Or.inl (Or.inl rfl)
    · exact Or.inl (Or.inr (Or.inl rfl))
    · rcases hM' k hk with h | h
      · exact Or.inl (Or.inr (Or.inr h))
      · exact Or.inr (by omega)
  have subR : ∀ k ∈ RFt bd bf fv' M2', k ∈ RFt bd bf fv M2 ∨ w3.heap.size ≤ k := by
    intro k hk
    simp only [List.mem_cons, List.mem_append] at hk ⊢
    rcases hk with rfl | rfl | hk | hk
    · exact Or.inl (Or.inl rfl)
    · exact Or.inl (Or.inr (Or.inl rfl))
    · rcases hf' k hk with h | h
      · exact Or.inl (Or.inr (Or.inr (Or.inl h)))
      · exact Or.inr h
    · rcases hM2' k hk with h | h
      · exact Or.inl (Or.inr (Or.inr (Or.inr h)))
      · exact Or.inr h
  have apart : ∀ k ∈ PFt bx bm M', k ∉ RFt bd bf fv M2 := by
    intro k hk hk2
    rcases subP k hk with h | h
    · exact hd k h hk2
    · have := ltR k hk2; omega
  refine ⟨PFt bx bm M' ++ RFt bd bf fv' M2', ⟨bm, bf, fv', d', M', M2', (hP'.away h2 (by simp)).away h3 apart, hR', hw, rfl, ?_⟩, ?_, ?_⟩
  · intro k hk hk2
    rcases subR k hk2 with h | h
    · exact apart k hk h
    · have := ltP' k hk; omega
  · intro k hk
    rcases List.mem_append.1 hk with hk | hk
    · rcases subP k hk with h | h
      · exact Or.inl (List.mem_append_left _ h)
      · exact Or.inr h
    · rcases subR k hk with h | h
      · exact Or.inl (List.mem_append_right _ h)
      · exact Or.inr (by omega)
  · exact ((h0.mono (by simp)).trans (h1.mono (fun k hk => List.mem_append_left _ hk))).trans ((h2.mono (by simp)).trans (h3.mono (fun k hk => List.mem_append_right _ hk)))

set_option maxHeartbeats 400000 in
theorem num_any (n : Int) (w : World) : Calls Try.prog 19 #[.int .i64 n] w fun e w' => e = .returned (.int .i64 n) ∧ w' = w := by
  go_enter Try.func19, Try.ntmps19
  go_wp2
  go_ret
  exact ⟨rfl, rfl⟩

set_option maxHeartbeats 1000000 in
theorem pick_two (n : Int) (hn : I64 n) : ∃ k : Nat, k < 2 ∧ ∀ w, Calls Try.prog 9 #[.int .i64 n, .int .i64 2] w fun e w' => e = .returned (.int .i64 (k : Int)) ∧ w' = w := by
  have h1 := hn.1
  have h2 := hn.2
  by_cases h : n < 0
  · have e : -(n + 1).tmod 2 = (((-(n + 1)) % 2).toNat : Int) := by
      rw [← Int.neg_tmod, Int.tmod_eq_emod_of_nonneg (by omega)]
      omega
    generalize ((-(n + 1)) % 2).toNat = r at *
    refine ⟨r, by have := Int.tmod_two_eq (n + 1); omega, fun w => ?_⟩
    go_enter Try.func9, Try.ntmps9
    go_wp2
    go_ret
    exact ⟨by rw [← e]; rfl, rfl⟩
  · have e : n % 2 = ((n % 2).toNat : Int) := by omega
    have hr : (n % 2).toNat < 2 := by omega
    generalize (n % 2).toNat = r at *
    refine ⟨r, hr, fun w => ?_⟩
    go_enter Try.func9, Try.ntmps9
    go_wp2
    go_ret
    exact ⟨by rw [← e]; rfl, rfl⟩
end Go.Proofs.Ytjoinhljdbljaaa
