/- The walks of deeds: Delete, Read, and what a disk says of itself. -/
import Derived.Test.YtjoinhljdbljaaaDskN
import Derived.Deep.QuietTactic
import Derived.BigQuiet
namespace Go.Proofs.Ytjoinhljdbljaaa
open Go.RowKit
open Go.ChangeMaps (setBlock)
set_option maxRecDepth 20000 in
set_option maxHeartbeats 2000000 in
theorem deed4 (w : World) (bx bd : Nat) (F : List Nat) (n : Nat) (which a b c : Int) (t : ByteArray) (h : Duo w bx bd F n) (hn : n ≤ 2600000000000) :
    Calls Try.prog 10 #[.pointer (some ⟨bx, 0, none⟩), .pointer (some ⟨bd, 0, none⟩), .agg #[.int .i64 which, .int .i64 4, .int .i64 a, .int .i64 b, .int .i64 c, .string t]] w (DeedPost w bx bd F n) := by
  obtain ⟨bm, bf, fv, d, M, M2, hP, hR, hw, rfl, hd⟩ := h
  have hml := Duo.len hR hw
  have HX : Hid (∀ w1, PD w1 bx bm d M → Calls Try.prog 31 #[.pointer (some ⟨bx, 0, none⟩), .int .i64 a] w1 fun e w' => e = .returned (.int .i64 (deleteS d a).1) ∧ (∃ M', PD w' bx bm (deleteS d a).2 M' ∧ List.Sublist (rowsOf M') (rowsOf M)) ∧ Touch [bx, bm] w1 w') :=
    fun w1 hp => pdelete w1 bx bm d M a hp hw.nums (by have := hw.used; omega)
  have HR : Hid (∀ w1, RD w1 bd bf fv d M2 → Calls Try.prog 32 #[.pointer (some ⟨bd, 0, none⟩), .int .i64 a] w1 fun e w' => e = .returned (.int .i64 (deleteS d a).1) ∧ (∃ fv' M', RD w' bd bf fv' (deleteS d a).2 M' ∧ List.Sublist (rowsOf M') (rowsOf M2) ∧ (M'.length ≤ M2.length) ∧ ∀ k ∈ fv'.ownBlock.toList, k ∈ fv.ownBlock.toList ∨ w1.heap.size ≤ k) ∧ Touch (RFt bd bf fv M2) w1 w') :=
    fun w1 hp => rdelete w1 bd bf fv d M2 a hp hw.nums (by omega)
  have HN : Hid (∀ (n : Int) (w : World), Calls Try.prog 19 #[.int .i64 n] w fun e w' => e = .returned (.int .i64 n) ∧ w' = w) := num_any
  have HW : Hid (Wf (n + 1) (deleteS d a).2) := (hw.delete a).more
  have HD : Hid (∀ k ∈ PFt bx bm M, k ∉ RFt bd bf fv M2) := hd
  have HP : Hid (PD w bx bm d M) := hP
  have HRD : Hid (RD w bd bf fv d M2) := hR
  clear hP hR hw hd
  have HT0 : Hid (∀ o, Touch [] w (w.alloc o)) := fun o => (Touch.refl [] w).alloc o
  generalize hF : PFt bx bm M ++ RFt bd bf fv M2 = F
  have HF : Hid (PFt bx bm M ++ RFt bd bf fv M2 = F) := hF
  clear hF
  have hq := beq_int_self (deleteS d a).1
  generalize (deleteS d a).1 = r at *
  generalize (deleteS d a).2 = d' at *
  go_enter Try.func10, Try.ntmps10
  go_wp2_with fail
  refine (HX.out _ (HP.out.away (HT0.out _) (by simp))).mono ?_
  rintro e w2 ⟨rfl, ⟨M', hP2, hs2⟩, hT2⟩
  have HT2 : Hid (Touch (PFt bx bm M) _ w2) := hT2.mono (sub2 _ _ _)
  have c2 := deed_cell HT2.out HP.out.out 2 _ rfl
  have HR2 : Hid (RD w2 bd bf fv d M2) := duo_mid HRD.out HD.out (HT0.out _) HT2.out
  clear hT2
  go_wp2_with fail
  go_region_with (first | (go_at_call 19; refine (HN.out _ _).mono ?_; rintro e wx ⟨rfl, hwx⟩; subst hwx) | (go_at_call 32; refine (HR.out _ (HR2.out.away (F := []) (Touch.refl _ _).drew (by simp))).mono ?_; rintro e w3 ⟨rfl, ⟨fv', M3, hR3, hs3, hl3, hf3⟩, hT3⟩))
  all_goals
    go_wp2
    go_ret
    exact ⟨rfl, HF.out ▸ duo_end HP.out HRD.out HD.out (HT0.out _) HT2.out hP2 (fun k hk => Or.inl (hs2.subset hk)) (Touch.refl _ _).drew hT3 hR3 hf3 (fun k hk => Or.inl (hs3.subset hk)) HW.out⟩

set_option maxRecDepth 20000 in
set_option maxHeartbeats 2000000 in
theorem deed3 (w : World) (bx bd : Nat) (F : List Nat) (n : Nat) (which a b c : Int) (t : ByteArray) (h : Duo w bx bd F n) (hn : n ≤ 2600000000000) :
    Calls Try.prog 10 #[.pointer (some ⟨bx, 0, none⟩), .pointer (some ⟨bd, 0, none⟩), .agg #[.int .i64 which, .int .i64 3, .int .i64 a, .int .i64 b, .int .i64 c, .string t]] w (DeedPost w bx bd F n) := by
  obtain ⟨bm, bf, fv, d, M, M2, hP, hR, hw, rfl, hd⟩ := h
  have hml := Duo.len hR hw
  have HX : Hid (∀ w1, PD w1 bx bm d M → Calls Try.prog 29 #[.pointer (some ⟨bx, 0, none⟩), .int .i64 a, .int .i64 b] w1 fun e w' => e = .returned (.tuple #[.string (readS d a b).1, .int .i64 (readS d a b).2]) ∧ PD w' bx bm { d with f2 := dec d.f2 } M ∧ Touch [bx] w1 w') :=
    fun w1 hp => pread w1 bx bm d M a b hp hw.nums hw.a2.1 hw.a2.2
  have HR : Hid (∀ w1, RD w1 bd bf fv d M2 → Calls Try.prog 30 #[.pointer (some ⟨bd, 0, none⟩), .int .i64 a, .int .i64 b] w1 fun e w' => e = .returned (.tuple #[.string (readS d a b).1, .int .i64 (readS d a b).2]) ∧ RD w' bd bf fv { d with f2 := dec d.f2 } M2 ∧ Touch [bd, bf] w1 w') :=
    fun w1 hp => rread w1 bd bf fv d M2 a b hp hw.nums (by omega) hw.a2.1 hw.a2.2
  have HN : Hid (∀ (n : Int) (w : World), Calls Try.prog 19 #[.int .i64 n] w fun e w' => e = .returned (.int .i64 n) ∧ w' = w) := num_any
  have HW : Hid (Wf (n + 1) { d with f2 := dec d.f2 }) := hw.read.more
  have HD : Hid (∀ k ∈ PFt bx bm M, k ∉ RFt bd bf fv M2) := hd
  have HP : Hid (PD w bx bm d M) := hP
  have HRD : Hid (RD w bd bf fv d M2) := hR
  clear hP hR hw hd
  have HT0 : Hid (∀ o, Touch [] w (w.alloc o)) := fun o => (Touch.refl [] w).alloc o
  generalize hF : PFt bx bm M ++ RFt bd bf fv M2 = F
  have HF : Hid (PFt bx bm M ++ RFt bd bf fv M2 = F) := hF
  clear hF
  have hq := beq_int_self (readS d a b).2
  generalize (readS d a b).1 = r1 at *
  generalize (readS d a b).2 = r2 at *
  go_enter Try.func10, Try.ntmps10
  go_wp2_with fail
  refine (HX.out _ (HP.out.away (HT0.out _) (by simp))).mono ?_
  rintro e w2 ⟨rfl, hP2, hT2⟩
  have HT2 : Hid (Touch (PFt bx bm M) _ w2) := hT2.mono (sub1 _ _ _)
  have c2 := deed_cell HT2.out HP.out.out 2 _ rfl
  have c3 := deed_cell HT2.out HP.out.out 3 _ rfl
  have HR2 : Hid (RD w2 bd bf fv d M2) := duo_mid HRD.out HD.out (HT0.out _) HT2.out
  clear hT2
  go_wp2_with fail
  refine (HR.out _ HR2.out).mono ?_
  rintro e w3 ⟨rfl, hR3, hT3⟩
  go_wp2_with fail
  refine (HN.out _ _).mono ?_
  rintro e w4 ⟨rfl, hw4⟩
  subst hw4
  go_wp2
  go_ret
  exact ⟨rfl, HF.out ▸ duo_end HP.out HRD.out HD.out (HT0.out _) HT2.out hP2 (keepsRows _ _) (Touch.refl _ _) (hT3.mono (sub3 _ _ _ _)) hR3 (keepsOwn _ _) (keepsRows _ _) HW.out⟩

set_option maxRecDepth 20000 in
set_option maxHeartbeats 2000000 in
theorem deed5 (w : World) (bx bd : Nat) (F : List Nat) (n : Nat) (which a b c : Int) (t : ByteArray) (h : Duo w bx bd F n) (hn : n ≤ 2600000000000) :
    Calls Try.prog 10 #[.pointer (some ⟨bx, 0, none⟩), .pointer (some ⟨bd, 0, none⟩), .agg #[.int .i64 which, .int .i64 5, .int .i64 a, .int .i64 b, .int .i64 c, .string t]] w (DeedPost w bx bd F n) := by
  have HD : Hid (Duo w bx bd F n) := h
  obtain ⟨bm, bf, fv, d, M, M2, hP, hR, hw, hF, hd⟩ := h
  have hml := Duo.len hR hw
  have HT0 : Hid (∀ o, Touch [] w (w.alloc o)) := fun o => (Touch.refl [] w).alloc o
  have hus := hw.used
  have HU : Hid (∀ w1, PD w1 bx bm d M → Calls Try.prog 33 #[.pointer (some ⟨bx, 0, none⟩)] w1 fun e w' => e = .returned (.int .i64 (usedOf d.files : Int)) ∧ w' = w1) := fun w1 hp => pused w1 bx bm d M hp
  have HV : Hid (∀ w1, RD w1 bd bf fv d M2 → Calls Try.prog 34 #[.pointer (some ⟨bd, 0, none⟩)] w1 fun e w' => e = .returned (.int .i64 (usedOf d.files : Int)) ∧ w' = w1) := fun w1 hp => rused w1 bd bf fv d M2 hp (by omega) (by omega)
  have HL : Hid (∀ w1, PD w1 bx bm d M → Calls Try.prog 35 #[.pointer (some ⟨bx, 0, none⟩)] w1 fun e w' => e = .returned (.int .i64 (M2.length : Int)) ∧ w' = w1) := fun w1 hp => by
    have := pfiles w1 bx bm d M hp
    rw [show d.files.length = M2.length by rw [hR.files]; simp [filesOf]] at this
    exact this
  have HK : Hid (∀ w1, PD w1 bx bm d M → Calls Try.prog 36 #[.pointer (some ⟨bx, 0, none⟩)] w1 fun e w' => e = .returned (.int .i64 d.wrote) ∧ w' = w1) := fun w1 hp => pwrote w1 bx bm d M hp
  have HB : Hid (∀ w1, PD w1 bx bm d M → Calls Try.prog 37 #[.pointer (some ⟨bx, 0, none⟩)] w1 fun e w' => e = .returned (.int .i64 d.block) ∧ w' = w1) := fun w1 hp => pblock w1 bx bm d M hp
  obtain ⟨ao, cap, hfv⟩ := hR.shape
  subst hfv
  have HP : Hid (∀ o, PD (w.alloc o) bx bm d M) := fun o => hP.away (HT0.out o) (by simp)
  have HR : Hid (∀ o, RD (w.alloc o) bd bf (.slice ao M2.length cap) d M2) := fun o => hR.away (HT0.out o) (by simp)
  obtain ⟨c0, _, _, c3, c4, _, _, _⟩ := RCells hR.disk
  have hbd := hR.lt bd (by simp)
  have q1 := beq_int_self (usedOf d.files : Int)
  have q2 := beq_int_self (M2.length : Int)
  have q3 := beq_int_self d.wrote
  have q4 := beq_int_self d.block
  clear hP hR hw hd hF
  generalize (usedOf d.files : Int) = uu at *
  have HQ1 : Hid (∀ w1, Touch [] (w.alloc (.cells #[.int .i64 which, .int .i64 5, .int .i64 a, .int .i64 b, .int .i64 c, .string t] 38)) w1 → PD w1 bx bm d M) := fun w1 ht => (HP.out _).away ht (by simp)
  have HQ2 : Hid (∀ w1, Touch [] (w.alloc (.cells #[.int .i64 which, .int .i64 5, .int .i64 a, .int .i64 b, .int .i64 c, .string t] 38)) w1 → RD w1 bd bf (.slice ao M2.length cap) d M2) := fun w1 ht => (HR.out _).away ht (by simp)
  go_enter Try.func10, Try.ntmps10
  go_wp2_with fail
  go_big_quiet (first | (go_at_call 33; exact Calls.quiet_of_same (HU.out _ (HQ1.out _ ⟨rfl, rfl, rfl, Nat.le_refl _, fun _ _ _ => rfl⟩))) | (go_at_call 34; exact Calls.quiet_of_same (HV.out _ (HQ2.out _ ⟨rfl, rfl, rfl, Nat.le_refl _, fun _ _ _ => rfl⟩))) | (go_at_call 35; exact Calls.quiet_of_same (HL.out _ (HQ1.out _ ⟨rfl, rfl, rfl, Nat.le_refl _, fun _ _ _ => rfl⟩))) | (go_at_call 36; exact Calls.quiet_of_same (HK.out _ (HQ1.out _ ⟨rfl, rfl, rfl, Nat.le_refl _, fun _ _ _ => rfl⟩))) | (go_at_call 37; exact Calls.quiet_of_same (HB.out _ (HQ1.out _ ⟨rfl, rfl, rfl, Nat.le_refl _, fun _ _ _ => rfl⟩))))
  go_wp2
  go_ret
  have ht : Touch [] w ((w.alloc (.cells #[.int .i64 which, .int .i64 5, .int .i64 a, .int .i64 b, .int .i64 c, .string t] 38)).drewN nq) := (HT0.out _).trans ⟨rfl, rfl, rfl, Nat.le_refl _, fun _ _ _ => rfl⟩
  exact ⟨rfl, F, (HD.out.away ht (by simp)).more, fun k hk => Or.inl hk, ht.mono (by simp)⟩
end Go.Proofs.Ytjoinhljdbljaaa
