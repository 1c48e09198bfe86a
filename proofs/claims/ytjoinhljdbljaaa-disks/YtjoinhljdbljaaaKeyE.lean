/- The walk of turnRound: each byte of a slice that lies in a block of its own is turned, in place. -/
import Derived.Test.YtjoinhljdbljaaaKeyD
namespace Go.Proofs.Ytjoinhljdbljaaa
open Go.RowKit

def inv (b : UInt8) : UInt8 := UInt8.ofNat (255 - b.toNat)
theorem inv_toNat (b : UInt8) : (inv b).toNat = 255 - b.toNat := by
  have := b.toNat_lt
  rw [inv, UInt8.toNat_ofNat']; omega
theorem xor255 (b : UInt8) : 255 ^^^ b.toNat = 255 - b.toNat := by
  have h : ∀ x : Fin 256, 255 ^^^ x.val = 255 - x.val := by decide +kernel
  exact h ⟨b.toNat, b.toNat_lt⟩

theorem not_byte (b : UInt8) : Value.int .u8 (bits .xor .u8 (if IntKind.u8.signed = true then -1 else IntKind.u8.max) (b.toNat : Int)) = c8 (inv b) := by
  have h : (if IntKind.u8.signed = true then -1 else IntKind.u8.max) = ((255 : Nat) : Int) := by decide
  rw [h, u8_xor_nat 255 b.toNat (by omega) b.toNat_lt, xor255, c8, inv_toNat]

theorem grownBy_setCell {w wr : World} {g : Nat} (h : w.grownBy wr (some g)) (o : Nat) (u : Value) : w.grownBy (wr.setCell ⟨g, o, none⟩ u) (some g) :=
  ⟨h.os, h.tape, h.output, by have := h.size; simpa using this, fun k hk hn => (Below.heap_setCell _ _ _ _ (fun e => hn (by rw [e]))).trans (h.block k hk hn)⟩

def Turned (cur : Array Value) (st k : Nat) (new : List UInt8) (cur' : Array Value) : Prop :=
  cur'.size = cur.size ∧ (∀ i (h : i < new.length), cur'[st + i]? = some (c8 (if i < k then inv new[i] else new[i]))) ∧ (∀ j, (j < st ∨ st + new.length ≤ j) → cur'[j]? = cur[j]?)

theorem Turned.step {cur cur' : Array Value} {st k : Nat} {new : List UInt8} (h : Turned cur st k new cur') (hk : k < new.length) (u : Value) (hu : u = c8 (inv new[k])) : Turned cur st (k + 1) new (cur'.setIfInBounds (st + k) u) := by
  subst hu
  obtain ⟨h1, h2, h3⟩ := h
  refine ⟨by simpa using h1, fun i hi => ?_, fun j hj => ?_⟩
  · rw [Array.getElem?_setIfInBounds]
    by_cases e : i = k
    · subst e
      have : st + i < cur'.size := by
        have := h2 i hi
        exact (Array.getElem?_eq_some_iff.1 this).1
      simp [this]
    · rw [if_neg (by omega), h2 i hi]
      by_cases e2 : i < k
      · rw [if_pos e2, if_pos (by omega)]
      · rw [if_neg e2, if_neg (by omega)]
  · rw [Array.getElem?_setIfInBounds, if_neg (by omega), h3 j hj]

set_option maxHeartbeats 1000000 in
theorem turnRound_any (g st cap : Nat) (cur : Array Value) (new : List UInt8) (w : World) (hg : w.heap[g]? = some (.cells cur 5 (0, 0))) (hc : ∀ i (h : i < new.length), cur[st + i]? = some (c8 new[i])) (hl : new.length ≤ 1000000000000) :
    Calls Try.prog 74 #[.slice (some ⟨g, st, none⟩) new.length cap] w fun e w' => e = .returned (.tuple #[]) ∧ ∃ cur', w'.heap[g]? = some (.cells cur' 5 (0, 0)) ∧ Turned cur st new.length new cur' ∧ w.grownBy w' (some g) := by
  go_enter Try.func74, Try.ntmps74
  go_wp2
  go_loopw [5] (fun i wr => ∃ k : Nat, k ≤ new.length ∧ i = .int .i64 k ∧ (∃ cur', wr.heap[g]? = some (.cells cur' 5 (0, 0)) ∧ Turned cur st k new cur') ∧ w.grownBy wr (some g)) (fun i _ => new.length - (intOf i).toNat)
  case atStart => exact ⟨0, Nat.zero_le _, rfl, ⟨cur, hg, rfl, fun i hi => by simpa using hc i hi, fun _ _ => rfl⟩, ⟨rfl, rfl, rfl, Nat.le_refl _, fun _ _ _ => rfl⟩⟩
  case round =>
    obtain ⟨k, hk, rfl, ⟨cur', hg', hT⟩, hB⟩ := hrel
    by_cases hlt : k < new.length
    · have hcell : wr.cell? ⟨g, st + k, none⟩ = some (.int .u8 (new[k].toNat : Int)) := by
        have := hT.2.1 k hlt
        simp only [Nat.lt_irrefl, if_false] at this
        simp [World.cell?, hg', this, c8]
      have hfr : wr.frozen? ⟨g, st + k, none⟩ = false := by simp [World.frozen?, hg']
      have HG : Hid (wr.heap[g]? = some (.cells cur' 5 (0, 0))) := hg'
      have HT : Hid (Turned cur st k new cur') := hT
      have HC : Hid (∀ i (h : i < new.length), cur[st + i]? = some (c8 new[i])) := hc
      have H0 : Hid (w.heap[g]? = some (.cells cur 5 (0, 0))) := hg
      clear hg' hT hc hg
      have hby : (new[k].toNat : Int) ≤ 255 := by have := new[k].toNat_lt; omega
      go_wp2
      go_roundw
      case rel =>
        refine ⟨k + 1, by omega, by go_num, ⟨_, heap_setCell_same wr g (st + k) cur' 5 _ HG.out, HT.out.step hlt _ (not_byte _)⟩, grownBy_setCell hB _ _⟩
      case measure => simp [intOf]; omega
    · have HE : Hid (k = new.length) := by show k = _; omega
      have HG : Hid (wr.heap[g]? = some (.cells cur' 5 (0, 0))) := hg'
      have HT : Hid (Turned cur st k new cur') := hT
      clear hg' hT hc hg
      go_wp2
      go_end0
      refine ⟨rfl, cur', HG.out, ?_, hB⟩
      have := HT.out
      rwa [HE.out] at this
end Go.Proofs.Ytjoinhljdbljaaa
