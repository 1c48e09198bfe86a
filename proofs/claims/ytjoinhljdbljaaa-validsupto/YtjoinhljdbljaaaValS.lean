/- The document's find. -/
import Derived.Test.YtjoinhljdbljaaaValH
import Derived.Test.YtjoinhljdbljaaaKeyH
namespace Go.Proofs.Ytjoinhljdbljaaa
open Go.RowKit

def findAt (T : List VT) (nm : ByteArray) (i : Int) : Prop := (i = -1 ∧ ∀ j (h : j < T.length), T[j].name ≠ nm) ∨ (∃ j, ∃ h : j < T.length, i = (j : Int) ∧ T[j].name = nm ∧ ∀ j' (h' : j' < T.length), j' < j → T[j'].name ≠ nm)
def FindPost (T : List VT) (nm : ByteArray) (w : World) : Ending → World → Prop := fun e w' => ∃ i : Int, e = .returned (.int .i64 i) ∧ findAt T nm i ∧ w' = w
set_option maxHeartbeats 1000000 in
theorem find_any (w : World) (v : Value) (T : List VT) (nm : ByteArray) (h : TabsIn w [] v T) (hl : T.length ≤ 1048576) :
    Calls Try.prog 47 #[v, .string nm] w (FindPost T nm w) := by
  obtain ⟨ao, cap, rfl, hc, hm, hx⟩ := h.open
  have HV : Hid (TabsIn w [] (.slice ao T.length cap) T) := h
  clear h hx
  go_enter Try.func47, Try.ntmps47
  go_wp2
  go_loopw [5] (fun j wr => ∃ k : Nat, k ≤ T.length ∧ j = .int .i64 k ∧ (∀ i (h : i < T.length), i < k → T[i].name ≠ nm) ∧ wr = w) (fun j _ => T.length - (intOf j).toNat)
  case atStart => exact ⟨0, by omega, rfl, fun i _ h => by omega, rfl⟩
  case round =>
    obtain ⟨k, hk, rfl, hall, hw⟩ := hrel
    subst hw
    by_cases hlt : k < T.length
    · obtain ⟨b, off, hao, hcell⟩ := HV.out.cells (by omega)
      subst hao
      obtain ⟨kv, rv, c0, _, _, _, _⟩ := hcell k hlt
      have HN : Hid (T[k].name ≠ nm → ∀ i (h : i < T.length), i < k + 1 → T[i].name ≠ nm) := fun hq => snoc_all (P := fun t => t.name ≠ nm) hlt hall hq
      have HF : Hid (T[k].name = nm → findAt T nm (k : Int)) := fun hq => Or.inr ⟨k, hlt, rfl, hq, hall⟩
      clear hall hcell
      generalize T[k].name = x at *
      by_cases hq : x = nm
      · have hb : (x.toList == nm.toList) = true := by simp [hq]
        have HF2 : Hid (findAt T nm (k : Int)) := HF.out hq
        clear hq
        go_wp2
        go_ret
        exact ⟨k, rfl, HF2.out, rfl⟩
      · have hb : (x.toList == nm.toList) = false := beq_eq_false_iff_ne.2 fun h => hq (bytes_ext h)
        have HN2 : Hid (∀ i (h : i < T.length), i < k + 1 → T[i].name ≠ nm) := HN.out hq
        clear hq
        go_wp2
        go_roundw
        case rel => exact ⟨k + 1, by omega, by go_num, HN2.out, trivial⟩
        case measure => simp [intOf]; omega
    · have HT : Hid (findAt T nm (-1)) := Or.inl ⟨rfl, fun j hj => hall j hj (by omega)⟩
      clear hall
      go_wp2
      go_ret
      exact ⟨-1, rfl, HT.out, rfl⟩
end Go.Proofs.Ytjoinhljdbljaaa
