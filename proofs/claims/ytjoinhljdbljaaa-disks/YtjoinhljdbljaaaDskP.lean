/- One deed, whatever it is: the disk and the document's disk answer the same. -/
import Derived.Test.YtjoinhljdbljaaaDskO
import Derived.Test.YtjoinhljdbljaaaDskK
namespace Go.Proofs.Ytjoinhljdbljaaa
open Go.RowKit
open Go.ChangeMaps (setBlock)

set_option maxRecDepth 20000 in
set_option maxHeartbeats 2000000 in
theorem deed2 (w : World) (bx bd : Nat) (F : List Nat) (n : Nat) (which a b c : Int) (t : ByteArray) (h : Duo w bx bd F n) (hn : n ≤ 2600000000000) (ht : t.size ≤ 140737488355328) :
    Calls Try.prog 10 #[.pointer (some ⟨bx, 0, none⟩), .pointer (some ⟨bd, 0, none⟩), .agg #[.int .i64 which, .int .i64 2, .int .i64 a, .int .i64 b, .int .i64 c, .string t]] w (DeedPost w bx bd F n) := by
  obtain ⟨bm, bf, fv, d, M, M2, hP, hR, hw, rfl, hd⟩ := h
  have hml := Duo.len hR hw
  have HX : Hid (∀ w1, PD w1 bx bm d M → Calls Try.prog 27 #[.pointer (some ⟨bx, 0, none⟩), .int .i64 a, .string t] w1 fun e w' => e = .returned (.int .i64 (appendS d a t).1) ∧ (∃ M', PD w' bx bm (appendS d a t).2 M' ∧ ∀ k ∈ rowsOf M', k ∈ rowsOf M ∨ w1.heap.size ≤ k) ∧ Touch (PFt bx bm M) w1 w') :=
    fun w1 hp => pappend w1 bx bm d M a t hp hw.nums hw.a1.1 hw.a1.2 hw.a3.1 hw.a3.2 (by have := hw.used; omega) hw.wrote0 (by have := hw.wrote1; omega) ht
  have HR : Hid (∀ w1, RD w1 bd bf fv d M2 → Calls Try.prog 28 #[.pointer (some ⟨bd, 0, none⟩), .int .i64 a, .string t] w1 fun e w' => e = .returned (.int .i64 (appendS d a t).1) ∧ (∃ M', RD w' bd bf fv (appendS d a t).2 M' ∧ (∀ k ∈ rowsOf M', k ∈ rowsOf M2 ∨ w1.heap.size ≤ k) ∧ M'.length ≤ M2.length) ∧ Touch (RFt bd bf fv M2) w1 w') :=
    fun w1 hp => rappend w1 bd bf fv d M2 a t hp hw.nums (by omega) hw.a1.1 hw.a1.2 hw.a3.1 hw.a3.2 (by have := hw.used; omega) hw.room hw.wrote0 (by have := hw.wrote1; omega) ht
  have HN : Hid (∀ (n : Int) (w : World), Calls Try.prog 19 #[.int .i64 n] w fun e w' => e = .returned (.int .i64 n) ∧ w' = w) := num_any
  have HW : Hid (Wf (n + 1) (appendS d a t).2) := hw.append a t
  have HD : Hid (∀ k ∈ PFt bx bm M, k ∉ RFt bd bf fv M2) := hd
  have HP : Hid (PD w bx bm d M) := hP
  have HRD : Hid (RD w bd bf fv d M2) := hR
  clear hP hR hw hd
  have HT0 : Hid (∀ o, Touch [] w (w.alloc o)) := fun o => (Touch.refl [] w).alloc o
  generalize hF : PFt bx bm M ++ RFt bd bf fv M2 = F
  have HF : Hid (PFt bx bm M ++ RFt bd bf fv M2 = F) := hF
  clear hF
  have hq := beq_int_self (appendS d a t).1
  generalize (appendS d a t).1 = r at *
  generalize (appendS d a t).2 = d' at *
  go_enter Try.func10, Try.ntmps10
  go_wp2_with fail
  refine (HX.out _ (HP.out.away (HT0.out _) (by simp))).mono ?_
  rintro e w2 ⟨rfl, ⟨M', hP2, hs2⟩, hT2⟩
  have HT2 : Hid (Touch (PFt bx bm M) _ w2) := hT2
  have c2 := deed_cell HT2.out HP.out.out 2 _ rfl
  have c5 := deed_cell HT2.out HP.out.out 5 _ rfl
  have HR2 : Hid (RD w2 bd bf fv d M2) := duo_mid HRD.out HD.out (HT0.out _) HT2.out
  clear hT2
  go_wp2_with fail
  go_region_with (first | (go_at_call 19; refine (HN.out _ _).mono ?_; rintro e wx ⟨rfl, hwx⟩; subst hwx) | (go_at_call 28; refine (HR.out _ (HR2.out.away (F := []) (Touch.refl _ _).drew (by simp))).mono ?_; rintro e w3 ⟨rfl, ⟨M3, hR3, hs3, hl3⟩, hT3⟩))
  all_goals
    go_wp2
    go_ret
    exact ⟨rfl, HF.out ▸ duo_end HP.out HRD.out HD.out (HT0.out _) HT2.out hP2 hs2 (Touch.refl _ _).drew hT3 hR3 (keepsOwn _ _) hs3 HW.out⟩

/-- one deed, whatever it is -/
theorem deed_any (w : World) (bx bd : Nat) (F : List Nat) (n : Nat) (which kind a b c : Int) (t : ByteArray) (h : Duo w bx bd F n) (hn : n ≤ 2600000000000) (ht : t.size ≤ 140737488355328) (hb : b ≤ 9223372036854775807) :
    Calls Try.prog 10 #[.pointer (some ⟨bx, 0, none⟩), .pointer (some ⟨bd, 0, none⟩), .agg #[.int .i64 which, .int .i64 kind, .int .i64 a, .int .i64 b, .int .i64 c, .string t]] w (DeedPost w bx bd F n) := by
  by_cases h1 : kind = 1
  · subst h1; exact deed1 w bx bd F n which a b c t h hn
  by_cases h2 : kind = 2
  · subst h2; exact deed2 w bx bd F n which a b c t h hn ht
  by_cases h3 : kind = 3
  · subst h3; exact deed3 w bx bd F n which a b c t h hn
  by_cases h4 : kind = 4
  · subst h4; exact deed4 w bx bd F n which a b c t h hn
  by_cases h5 : kind = 5
  · subst h5; exact deed5 w bx bd F n which a b c t h hn
  by_cases h6 : kind = 6
  · subst h6; exact deed6 w bx bd F n which a b c t h hb
  exact deed0 w bx bd F n which kind a b c t h ⟨h1, h2, h3, h4, h5, h6⟩
end Go.Proofs.Ytjoinhljdbljaaa
