/- The inputs of a node stand ahead; each node is asked for once. -/
import Derived.Test.YtjoinhljdbljaaaValK
import Derived.Test.YtjoinhljdbljaaaValQ
namespace Go.Proofs.Ytjoinhljdbljaaa
open Go.RowKit

set_option maxHeartbeats 2000000 in
theorem inputsAhead_any (w : World) (n : VN) (p : NP) (i : Nat) : Calls Try.prog 78 #[nodeV n p, .int .i64 (i : Int)] w (BoolPost (Ahead n i) w) := by
  have HIN : Hid (∀ w, Calls Try.prog 86 #[nodeV n p] w (ListPost (ins n) w)) := fun w => inputs_any w n p
  have hA : Ahead n i ↔ ∀ k (h : k < (ins n).length), 0 ≤ (ins n)[k] ∧ (ins n)[k] < (i : Int) := by
    unfold Ahead
    constructor
    · intro h k hk; exact h _ (List.getElem_mem hk)
    · intro h x hx
      obtain ⟨k, hk, rfl⟩ := List.mem_iff_getElem.1 hx
      exact h k hk
  have hl : (ins n).length ≤ 2 := by unfold ins; split <;> (try split) <;> simp
  have HA : Hid _ := hA
  generalize Ahead n i = A at *
  generalize ins n = L at *
  clear hA
  obtain ⟨op, lf, rt, tb, ks, ct, cols, ots, sums⟩ := n
  obtain ⟨kv, cv, ov, sv⟩ := p
  unfold nodeV at *
  simp only at *
  go_enter Try.func78, Try.ntmps78
  go_wp2_with (go_at_call 86; refine (HIN.out _).mono ?_; rintro e w1 ⟨ao, cap, rfl, hin, hB1⟩)
  have HI : Hid (IntsIn w1 [] (.slice ao L.length cap) L) := hin [] (by simp)
  have hB := up1 hB1
  clear hin hB1
  go_loopw [10] (fun j wr => ∃ k : Nat, k ≤ L.length ∧ j = .int .i64 k ∧ (∀ i' (h : i' < L.length), i' < k → 0 ≤ L[i'] ∧ L[i'] < (i : Int)) ∧ wr = w1) (fun j _ => L.length - (intOf j).toNat)
  case atStart => exact ⟨0, by omega, rfl, fun i _ h => by omega, rfl⟩
  case round =>
    obtain ⟨k, hk, rfl, hall, hw⟩ := hrel
    subst hw
    by_cases hlt : k < L.length
    · obtain ⟨b, off, hao, hcell⟩ := HI.out.cells (by omega)
      subst hao
      have c0 := hcell k hlt
      by_cases hq : 0 ≤ L[k] ∧ L[k] < (i : Int)
      · have HN : Hid (∀ i' (h : i' < L.length), i' < k + 1 → 0 ≤ L[i'] ∧ L[i'] < (i : Int)) := snoc_all (P := fun q => 0 ≤ q ∧ q < (i : Int)) hlt hall hq
        have d1 : decide (L[k] < 0) = false := decide_eq_false (by omega)
        have d2 : decide ((i : Int) ≤ L[k]) = false := decide_eq_false (by omega)
        generalize L[k] = q at *
        clear hcell hall
        go_wp2
        go_roundw
        case rel => exact ⟨k + 1, by omega, by go_num, HN.out, trivial⟩
        case measure => simp [intOf]; omega
      · have HF : Hid (¬ A) := fun h => hq (HA.out.1 h k hlt)
        generalize L[k] = q at *
        clear hcell hall
        by_cases h0 : q < 0
        · have d1 : decide (q < 0) = true := decide_eq_true h0
          go_wp2
          go_ret
          exact BoolPost.no HF.out hB
        · have d1 : decide (q < 0) = false := decide_eq_false h0
          have d2 : decide ((i : Int) ≤ q) = true := decide_eq_true (by omega)
          go_wp2
          go_ret
          exact BoolPost.no HF.out hB
    · have HT : Hid A := HA.out.2 fun k' h => hall k' h (by omega)
      clear hall
      go_wp2
      go_ret
      exact BoolPost.yes HT.out hB

theorem NodesIn.cells9 {F : List Nat} {w : World} {ao : Option Addr} {n cap : Nat} {l : List VN} (h : NodesIn w F (.slice ao n cap) l) (hn : 1 ≤ l.length) : ∃ b off, ao = some ⟨b, off, none⟩ ∧
    ∀ i (h : i < l.length), ∃ p : NP, NodeIn w F p l[i] ∧ w.cell? ⟨b, off + i * 9, none⟩ = some (.int .i64 l[i].op) ∧ w.cell? ⟨b, off + i * 9 + 1, none⟩ = some (.int .i64 l[i].left) ∧ w.cell? ⟨b, off + i * 9 + 1 + 1, none⟩ = some (.int .i64 l[i].right) ∧ w.cell? ⟨b, off + i * 9 + 1 + 1 + 1, none⟩ = some (.string l[i].table) ∧
      w.cell? ⟨b, off + i * 9 + 1 + 1 + 1 + 1, none⟩ = some p.1 ∧ w.cell? ⟨b, off + i * 9 + 1 + 1 + 1 + 1 + 1, none⟩ = some (.int .i64 l[i].count) ∧ w.cell? ⟨b, off + i * 9 + 1 + 1 + 1 + 1 + 1 + 1, none⟩ = some p.2.1 ∧ w.cell? ⟨b, off + i * 9 + 1 + 1 + 1 + 1 + 1 + 1 + 1, none⟩ = some p.2.2.1 ∧ w.cell? ⟨b, off + i * 9 + 1 + 1 + 1 + 1 + 1 + 1 + 1 + 1, none⟩ = some p.2.2.2 := by
  obtain ⟨b, off, hao, hx⟩ := h.cells hn
  refine ⟨b, off, hao, fun i hi => ?_⟩
  obtain ⟨p, hp, hx⟩ := hx i hi
  exact ⟨p, hp, hx 0 _ rfl, hx 1 _ rfl, hx 2 _ rfl, hx 3 _ rfl, hx 4 _ rfl, hx 5 _ rfl, hx 6 _ rfl, hx 7 _ rfl, hx 8 _ rfl⟩

/-- how often each number stands in a list -/
def cntL (N : Nat) (A : List Int) : List Int := (List.range N).map fun (j : Nat) => ((A.count (j : Int) : Nat) : Int)
theorem cntL_length (N : Nat) (A : List Int) : (cntL N A).length = N := by simp [cntL]
theorem cntL_get (N : Nat) (A : List Int) (j : Nat) (h : j < (cntL N A).length) : (cntL N A)[j] = ((A.count (j : Int) : Nat) : Int) := by simp [cntL]
theorem cntL_snoc (N : Nat) (A : List Int) (x : Int) (h0 : 0 ≤ x) (h1 : x < (N : Int)) : cntL N (A ++ [x]) = (cntL N A).set x.toNat (((A.count x : Nat) : Int) + 1) := by
  apply List.ext_getElem
  · simp [cntL]
  · intro j h2 h3
    rw [cntL_get]
    rw [List.getElem_set]
    split
    · rename_i e
      have : x = (j : Int) := by omega
      subst this
      simp
    · rename_i e
      rw [cntL_get, List.count_append]
      have : ¬ (x = (j : Int)) := by omega
      simp [this]
theorem asks_len (N : List VN) : (asks N).length ≤ 2 * N.length := by
  induction N with
  | nil => simp [asks]
  | cons n N ih =>
    have : (ins n).length ≤ 2 := by unfold ins; split <;> (try split) <;> simp
    simp only [asks, List.flatMap_cons, List.length_append, List.length_cons] at *
    omega
theorem asks_snoc {N : List VN} {k : Nat} (h : k < N.length) : asks (N.take (k + 1)) = asks (N.take k) ++ ins N[k] := by
  unfold asks
  rw [take_snoc' N k h, List.flatMap_append]; simp
end Go.Proofs.Ytjoinhljdbljaaa
