/- The walk of one deed on a disk and the document's disk. -/
import Derived.Test.YtjoinhljdbljaaaDskM
namespace Go.Proofs.Ytjoinhljdbljaaa
open Go.RowKit
open Go.ChangeMaps (setBlock)

theorem beq_int_self (a : Int) : (a == a) = true := by simp
theorem Duo.len {w : World} {bd bf : Nat} {fv : Value} {d : DS} {M2 : List PF} {n : Nat} (hR : RD w bd bf fv d M2) (hw : Wf n d) : M2.length ≤ n := by
  have := hw.len; rw [hR.files] at this; simpa [filesOf] using this

def DeedPost (w : World) (bx bd : Nat) (F : List Nat) (n : Nat) : Ending → World → Prop := fun e w' => e = .returned (.bool true) ∧ After w bx bd F n w'
def DeedV (which kind a b c : Int) (t : ByteArray) : Value := .agg #[.int .i64 which, .int .i64 kind, .int .i64 a, .int .i64 b, .int .i64 c, .string t]

set_option maxRecDepth 20000 in
set_option maxHeartbeats 2000000 in
theorem deed1 (w : World) (bx bd : Nat) (F : List Nat) (n : Nat) (which a b c : Int) (t : ByteArray) (h : Duo w bx bd F n) (hn : n ≤ 2600000000000) :
    Calls Try.prog 10 #[.pointer (some ⟨bx, 0, none⟩), .pointer (some ⟨bd, 0, none⟩), .agg #[.int .i64 which, .int .i64 1, .int .i64 a, .int .i64 b, .int .i64 c, .string t]] w (DeedPost w bx bd F n) := by
  obtain ⟨bm, bf, fv, d, M, M2, hP, hR, hw, rfl, hd⟩ := h
  have HX : Hid (∀ w1, PD w1 bx bm d M → Calls Try.prog 25 #[.pointer (some ⟨bx, 0, none⟩)] w1 fun e w' => e = .returned (.int .i64 (d.last + 1)) ∧ PD w' bx bm (createS d) (M ++ [(d.last + 1, .slice none 0 0, [])]) ∧ Touch [bx, bm] w1 w') :=
    fun w1 hp => pcreate w1 bx bm d M hp hw.last0 (by have := hw.last1; omega) hw.le
  have hml := Duo.len hR hw
  have HR : Hid (∀ w1, RD w1 bd bf fv d M2 → Calls Try.prog 26 #[.pointer (some ⟨bd, 0, none⟩)] w1 fun e w' => e = .returned (.int .i64 (d.last + 1)) ∧ (∃ fv', RD w' bd bf fv' (createS d) (M2 ++ [(d.last + 1, .slice none 0 0, [])]) ∧ ∀ k ∈ fv'.ownBlock.toList, k ∈ fv.ownBlock.toList ∨ w1.heap.size ≤ k) ∧ Touch (RFt bd bf fv M2) w1 w') :=
    fun w1 hp => rcreate w1 bd bf fv d M2 hp hw.last0 (by have := hw.last1; omega) (by omega)
  have HW : Hid (Wf n d) := hw
  have HD : Hid (∀ k ∈ PFt bx bm M, k ∉ RFt bd bf fv M2) := hd
  have HP : Hid (PD w bx bm d M) := hP
  have HRD : Hid (RD w bd bf fv d M2) := hR
  clear hP hR hw hd
  have HT0 : Hid (∀ o, Touch [] w (w.alloc o)) := fun o => (Touch.refl [] w).alloc o
  have hq := beq_int_self (d.last + 1)
  generalize hF : PFt bx bm M ++ RFt bd bf fv M2 = F
  have HF : Hid (PFt bx bm M ++ RFt bd bf fv M2 = F) := hF
  clear hF
  generalize d.last + 1 = lst at *
  go_enter Try.func10, Try.ntmps10
  go_wp2_with fail
  refine (HX.out _ (HP.out.away (HT0.out _) (by simp))).mono ?_
  rintro e w2 ⟨rfl, hP2, hT2⟩
  have HT2 : Hid (Touch (PFt bx bm M) _ w2) := hT2.mono (fun k hk => by simp only [List.mem_cons, List.not_mem_nil, or_false] at hk; rcases hk with rfl | rfl <;> simp)
  go_wp2_with fail
  refine (HR.out _ (duo_mid HRD.out HD.out (HT0.out _) HT2.out)).mono ?_
  rintro e w3 ⟨rfl, ⟨fv', hR3, hf3⟩, hT3⟩
  go_wp2
  go_ret
  have r1 : rowsOf (M ++ [(lst, Value.slice none 0 0, [])]) = rowsOf M := by simp [rowsOf, Value.ownBlock]
  have r2 : rowsOf (M2 ++ [(lst, Value.slice none 0 0, [])]) = rowsOf M2 := by simp [rowsOf, Value.ownBlock]
  exact ⟨rfl, HF.out ▸ duo_end HP.out HRD.out HD.out (HT0.out _) HT2.out hP2 (by rw [r1]; exact fun k hk => Or.inl hk) (Touch.refl _ _) hT3 hR3 hf3 (by rw [r2]; exact fun k hk => Or.inl hk) HW.out.create⟩

theorem deed_cell {w w2 : World} {F : List Nat} {cs : Array Value} {ty : TypeId} (ht : Touch F (w.alloc (.cells cs ty)) w2) (hF : w.heap.size ∉ F) (i : Nat) (v : Value) (hv : cs[i]? = some v) : w2.cell? ⟨w.heap.size, i, none⟩ = some v := by
  have hb : w2.heap[w.heap.size]? = (w.alloc (.cells cs ty)).heap[w.heap.size]? := ht.block _ (by simp) hF
  rw [World.cell?_of_block (w := w.alloc (.cells cs ty)) (a := ⟨w.heap.size, i, none⟩) hb]
  have h0 := heap_alloc_new w (.cells cs ty)
  unfold World.cell?
  simp only [h0]
  exact hv
theorem PD.out {w : World} {bx bm : Nat} {d : DS} {M : List PF} (h : PD w bx bm d M) : w.heap.size ∉ PFt bx bm M := fun hk => Nat.lt_irrefl _ (h.lt _ hk)

theorem keepsRows (M : List PF) (n : Nat) : ∀ k ∈ rowsOf M, k ∈ rowsOf M ∨ n ≤ k := fun _ h => Or.inl h
theorem keepsOwn (v : Value) (n : Nat) : ∀ k ∈ v.ownBlock.toList, k ∈ v.ownBlock.toList ∨ n ≤ k := fun _ h => Or.inl h
theorem sub1 (bx bm : Nat) (M : List PF) : ∀ k ∈ [bx], k ∈ PFt bx bm M := fun k hk => by simp only [List.mem_cons, List.not_mem_nil, or_false] at hk; subst hk; simp
theorem sub2 (bx bm : Nat) (M : List PF) : ∀ k ∈ [bx, bm], k ∈ PFt bx bm M := fun k hk => by simp only [List.mem_cons, List.not_mem_nil, or_false] at hk; rcases hk with rfl | rfl <;> simp
theorem sub3 (bd bf : Nat) (fv : Value) (M : List PF) : ∀ k ∈ [bd, bf], k ∈ RFt bd bf fv M := fun k hk => by simp only [List.mem_cons, List.not_mem_nil, or_false] at hk; rcases hk with rfl | rfl <;> simp

set_option maxRecDepth 20000 in
set_option maxHeartbeats 2000000 in
theorem deed6 (w : World) (bx bd : Nat) (F : List Nat) (n : Nat) (which a b c : Int) (t : ByteArray) (h : Duo w bx bd F n) (hb : b ≤ 9223372036854775807) :
    Calls Try.prog 10 #[.pointer (some ⟨bx, 0, none⟩), .pointer (some ⟨bd, 0, none⟩), .agg #[.int .i64 which, .int .i64 6, .int .i64 a, .int .i64 b, .int .i64 c, .string t]] w (DeedPost w bx bd F n) := by
  obtain ⟨bm, bf, fv, d, M, M2, hP, hR, hw, rfl, hd⟩ := h
  have HX : Hid (∀ w1, PD w1 bx bm d M → Calls Try.prog 38 #[.pointer (some ⟨bx, 0, none⟩), .int .i64 a, .int .i64 b, .int .i64 c] w1 fun e w' => e = .returned (.tuple #[]) ∧ PD w' bx bm (faultS d a b c) M ∧ Touch [bx] w1 w') :=
    fun w1 hp => pfault w1 bx bm d M a b c hp
  have HR : Hid (∀ w1, RD w1 bd bf fv d M2 → Calls Try.prog 39 #[.pointer (some ⟨bd, 0, none⟩), .int .i64 a, .int .i64 b, .int .i64 c] w1 fun e w' => e = .returned (.tuple #[]) ∧ RD w' bd bf fv (faultS d a b c) M2 ∧ Touch [bd, bf] w1 w') :=
    fun w1 hp => rfault w1 bd bf fv d M2 a b c hp
  have HW : Hid (Wf (n + 1) (faultS d a b c)) := (hw.fault a b c hb).more
  have HD : Hid (∀ k ∈ PFt bx bm M, k ∉ RFt bd bf fv M2) := hd
  have HP : Hid (PD w bx bm d M) := hP
  have HRD : Hid (RD w bd bf fv d M2) := hR
  clear hP hR hw hd
  have HT0 : Hid (∀ o, Touch [] w (w.alloc o)) := fun o => (Touch.refl [] w).alloc o
  generalize hF : PFt bx bm M ++ RFt bd bf fv M2 = F
  have HF : Hid (PFt bx bm M ++ RFt bd bf fv M2 = F) := hF
  clear hF
  go_enter Try.func10, Try.ntmps10
  go_wp2_with fail
  refine (HX.out _ (HP.out.away (HT0.out _) (by simp))).mono ?_
  rintro e w2 ⟨rfl, hP2, hT2⟩
  have HT2 : Hid (Touch (PFt bx bm M) _ w2) := hT2.mono (sub1 _ _ _)
  have c2 := deed_cell HT2.out HP.out.out 2 _ rfl
  have c3 := deed_cell HT2.out HP.out.out 3 _ rfl
  have c4 := deed_cell HT2.out HP.out.out 4 _ rfl
  go_wp2_with fail
  refine (HR.out _ (duo_mid HRD.out HD.out (HT0.out _) HT2.out)).mono ?_
  rintro e w3 ⟨rfl, hR3, hT3⟩
  go_wp2
  go_ret
  exact ⟨rfl, HF.out ▸ duo_end HP.out HRD.out HD.out (HT0.out _) HT2.out hP2 (keepsRows _ _) (Touch.refl _ _) (hT3.mono (sub3 _ _ _ _)) hR3 (keepsOwn _ _) (keepsRows _ _) HW.out⟩

set_option maxRecDepth 20000 in
set_option maxHeartbeats 2000000 in
theorem deed0 (w : World) (bx bd : Nat) (F : List Nat) (n : Nat) (which kind a b c : Int) (t : ByteArray) (h : Duo w bx bd F n) (hk : kind ≠ 1 ∧ kind ≠ 2 ∧ kind ≠ 3 ∧ kind ≠ 4 ∧ kind ≠ 5 ∧ kind ≠ 6) :
    Calls Try.prog 10 #[.pointer (some ⟨bx, 0, none⟩), .pointer (some ⟨bd, 0, none⟩), .agg #[.int .i64 which, .int .i64 kind, .int .i64 a, .int .i64 b, .int .i64 c, .string t]] w (DeedPost w bx bd F n) := by
  obtain ⟨k1, k2, k3, k4, k5, k6⟩ := hk
  rw [← bne_iff_ne, bne, Bool.not_eq_true'] at k1 k2 k3 k4 k5 k6
  have HT0 : Hid (∀ o, Touch [] w (w.alloc o)) := fun o => (Touch.refl [] w).alloc o
  have HD : Hid (Duo w bx bd F n) := h
  clear h
  go_enter Try.func10, Try.ntmps10
  go_wp2_with fail
  go_ret
  exact ⟨rfl, F, (HD.out.away (HT0.out _) (by simp)).more, fun k hk => Or.inl hk, (HT0.out _).mono (by simp)⟩

end Go.Proofs.Ytjoinhljdbljaaa
