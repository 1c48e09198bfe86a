/- One bit of a text turned: the walk of turned. -/
import Derived.Test.YtjoinhljdbljaaaDskD
namespace Go.Proofs.Ytjoinhljdbljaaa
open Go.RowKit

theorem tmod_two (a n : Int) (hn : 0 < n) : a.tmod n = a % n ∨ a.tmod n = a % n - n := by
  rw [Int.tmod_eq_emod]
  split
  · left; omega
  · right; omega

theorem bit_eq (bit n : Int) (hn : 0 < n) (hn2 : n ≤ 2000000000000000) : (wrap64 (bit.tmod n + n)).tmod n = bit % n := by
  have h0 := Int.emod_nonneg bit (show n ≠ 0 by omega)
  have h1 := Int.emod_lt_of_pos bit hn
  rcases tmod_two bit n hn with h | h
  · rw [h, IntWalk.wrap64_in _ (by omega), Int.tmod_eq_emod_of_nonneg (by omega), Int.add_emod_right, Int.emod_emod_of_dvd _ (Int.dvd_refl _)]
  · rw [h, IntWalk.wrap64_in _ (by omega), Int.tmod_eq_emod_of_nonneg (by omega), Int.sub_add_cancel, Int.emod_emod_of_dvd _ (Int.dvd_refl _)]

theorem row_string (W : World) (g : Nat) (l : List UInt8) (cap : Nat) (cur : Array Value) (f : Nat × Nat) (hh : W.heap[g]? = some (.cells cur 5 f)) (hx : ∀ i (h : i < l.length), cur[i]? = some (c8 l[i])) :
    (convert 127 9 (.slice (some ⟨g, 0, none⟩) l.length cap)).run Try.prog W = .ok (.string ⟨l.toArray⟩) W := by
  rw [run_convert_bytes_string W 127 9 5 _ _ _ Try.underlying127 Try.underlying5 Try.underlying9]
  have hl : (loadCells (⟨g, 0, none⟩ : Addr) l.length).run Try.prog W = .ok ((l.map fun b => (b.toNat : Int)).map (Value.int .u8)).toArray W := by
    have := run_loadCells_list (P := Try.prog) (w := W) ⟨g, 0, none⟩ (l.map c8) (fun j u hu => by
      obtain ⟨hj, rfl⟩ := List.getElem?_eq_some_iff.1 hu
      simp only [List.length_map] at hj
      have hadd : (⟨g, 0, none⟩ : Addr).add j = ⟨g, j, none⟩ := by unfold Addr.add; split <;> simp_all
      rw [hadd]
      simp [World.cell?, hh, hx j hj])
    simp only [List.length_map] at this
    rw [List.map_map]
    exact this
  rw [run_bytesToString W ⟨g, 0, none⟩ l.length cap _ hl, foldl_push]
  congr 2
  congr 1
  show #[] ++ l.toArray = l.toArray
  simp

def fb (x : UInt8) (k : Nat) : UInt8 := UInt8.ofNat (x.toNat ^^^ 2 ^ k % 256)
theorem fb_eq (x : UInt8) (k : Nat) (_hk : k < 8) : Value.int .u8 (bits .xor .u8 (x.toNat : Int) (2 ^ k % 256)) = c8 (fb x k) := by
  have h2 : ((2 : Int) ^ k % 256) = ((2 ^ k % 256 : Nat) : Int) := by simp
  have hx : x.toNat ^^^ 2 ^ k % 256 < 2 ^ 8 := Nat.xor_lt_two_pow x.toNat_lt (Nat.mod_lt _ (by decide))
  rw [h2, u8_xor_nat _ _ x.toNat_lt (Nat.mod_lt _ (by decide)), c8, fb, UInt8.toNat_ofNat', Nat.mod_eq_of_lt hx]

def flipS (s : ByteArray) (b : Nat) : ByteArray := ⟨(s.data.toList.set (b / 8) (fb (s.data.toList.getD (b / 8) 0) (b % 8))).toArray⟩
def turnS (s : ByteArray) (bit : Int) : ByteArray := if s.size = 0 then s else flipS s (bit % (8 * (s.size : Int))).toNat

theorem heap_set_new (w : World) (c : Array Value) (t : TypeId) (f : Nat × Nat) (i : Nat) (v : Value) : ((w.alloc (.cells c t f)).setCell ⟨w.heap.size, i, none⟩ v).heap[w.heap.size]? = some (.cells (c.setIfInBounds i v) t f) := by
  have := heap_alloc_new w (.cells c t f)
  simp only [World.setCell, Array.getElem?_modify, if_true, this, Option.map_some]
  simp

theorem flipped (s : ByteArray) (b C : Nat) (hb : b / 8 < s.size) (x : UInt8) (hx : x = s[b / 8]) : ∀ i (h : i < (s.data.toList.set (b / 8) (fb (s.data.toList.getD (b / 8) 0) (b % 8))).length), ((bytesRow s C).setIfInBounds (b / 8) (c8 (fb x (b % 8))))[i]? = some (c8 (s.data.toList.set (b / 8) (fb (s.data.toList.getD (b / 8) 0) (b % 8)))[i]) := by
  intro i hi
  have hsz : s.data.size = s.size := rfl
  simp only [List.length_set, Array.length_toList] at hi
  have hrow := bytesRow_at s C i hi
  have hlen : i < (bytesRow s C).size := (Array.getElem?_eq_some_iff.1 hrow).1
  rw [Array.getElem?_setIfInBounds]
  by_cases e : b / 8 = i
  · subst e
    rw [if_pos rfl, if_pos hlen]
    have : s.data.toList.getD (b / 8) 0 = x := by
      rw [hx]
      simp only [List.getD, Array.getElem?_toList]
      rw [Array.getElem?_eq_getElem (by omega)]
      rfl
    rw [List.getElem_set_self, this]
  · rw [if_neg e, hrow]
    simp [e, c8]

set_option maxRecDepth 20000 in
set_option maxHeartbeats 1000000 in
theorem turned_any (s : ByteArray) (bit : Int) (w : World) (hs : s.size ≤ 140737488355328) :
    Calls Try.prog 59 #[.string s, .int .i64 bit] w fun e w' => e = .returned (.string (turnS s bit)) ∧ Touch [] w w' := by
  by_cases h1 : s.size = 0
  · have hs0 : s = ⟨#[]⟩ := by
      have h : s.data.size = 0 := h1
      have : s.data = #[] := Array.eq_empty_of_size_eq_zero h
      cases s
      simp only at this
      rw [this]
    subst hs0
    have E : Hid (turnS ⟨#[]⟩ bit = ⟨#[]⟩) := rfl
    go_enter Try.func59, Try.ntmps59
    go_wp2
    go_ret
    exact ⟨by rw [E.out]; rfl, Touch.refl _ _⟩
  · have he2 : ¬ s.toList = [] := by
      rw [ByteArray.toList_eq]
      intro e
      apply h1
      have := congrArg List.length e
      simpa using this
    have he : s.toList.isEmpty = false := by simp [he2]
    have hcv := run_bytes_of_string (P := Try.prog) w 9 127 5 s Try.underlying9 Try.underlying127 Try.underlying5
    have HBIT := bit_eq bit (8 * (s.size : Int)) (by omega) (by omega)
    have hb0 := Int.emod_nonneg bit (show 8 * (s.size : Int) ≠ 0 by omega)
    have hb3 := Int.emod_lt_of_pos bit (show 0 < 8 * (s.size : Int) by omega)
    have E0 : turnS s bit = flipS s (bit % (8 * (s.size : Int))).toNat := by unfold turnS; rw [if_neg h1]
    obtain ⟨b, hb⟩ : ∃ b : Nat, bit % (8 * (s.size : Int)) = (b : Int) := ⟨(bit % (8 * (s.size : Int))).toNat, by omega⟩
    rw [hb] at HBIT E0 hb3
    rw [Int.toNat_natCast] at E0
    have hblt : b < 8 * s.size := by omega
    have hb8 : b / 8 < s.size := by omega
    generalize grownCap w s.size 0 5 = C at *
    generalize turnS s bit = r at *
    have E : Hid (r = flipS s b) := E0
    have HB : Hid ((wrap64 (bit.tmod (8 * (s.size : Int)) + 8 * (s.size : Int))).tmod (8 * (s.size : Int)) = (b : Int)) := HBIT
    have hrow := bytesRow_at s C (b / 8) (by exact hb8)
    have hcell : (w.alloc (.cells (bytesRow s C) 5 ((bytesRow s C).size, (bytesRow s C).size + 1))).cell? ⟨w.heap.size, b / 8, none⟩ = some (.int .u8 (s[b / 8].toNat : Int)) := by
      simp only [World.cell?, heap_alloc_new]
      simp only [Option.isSome_none, Bool.false_eq_true, if_false, hrow]
      rfl
    have hlen : b / 8 < (bytesRow s C).size := (Array.getElem?_eq_some_iff.1 hrow).1
    have hfr : (w.alloc (.cells (bytesRow s C) 5 ((bytesRow s C).size, (bytesRow s C).size + 1))).frozen? ⟨w.heap.size, b / 8, none⟩ = false := by
      simp only [World.frozen?, heap_alloc_new]
      simp
      omega
    have hst : (convert 127 9 (.slice (some ⟨w.heap.size, 0, none⟩) s.size C)).run Try.prog (((w.alloc (.cells (bytesRow s C) 5 ((bytesRow s C).size, (bytesRow s C).size + 1))).setCell ⟨w.heap.size, b / 8, none⟩ (.int .u8 (bits .xor .u8 (s[b / 8].toNat : Int) (2 ^ (b % 8) % 256)))).drew.drew) =
        .ok (.string (flipS s b)) (((w.alloc (.cells (bytesRow s C) 5 ((bytesRow s C).size, (bytesRow s C).size + 1))).setCell ⟨w.heap.size, b / 8, none⟩ (.int .u8 (bits .xor .u8 (s[b / 8].toNat : Int) (2 ^ (b % 8) % 256)))).drew.drew) := by
      rw [fb_eq _ _ (Nat.mod_lt _ (by decide))]
      have hl : s.size = (s.data.toList.set (b / 8) (fb (s.data.toList.getD (b / 8) 0) (b % 8))).length := by simp
      have := row_string (((w.alloc (.cells (bytesRow s C) 5 ((bytesRow s C).size, (bytesRow s C).size + 1))).setCell ⟨w.heap.size, b / 8, none⟩ (c8 (fb s[b / 8] (b % 8)))).drew.drew) w.heap.size _ C _ _ (heap_set_new w _ _ _ _ _) (flipped s b C hb8 _ rfl)
      rw [← hl] at this
      exact this
    have HST : Hid _ := hst
    clear hb E0 HBIT hb0 hb3 hrow hlen hst
    go_enter Try.func59, Try.ntmps59
    go_wp2
    rw [HB.out]
    clear HB
    go_region
    all_goals
      have hst := HST.out
      clear hcell hfr hcv
      go_wp2
      go_ret
      refine ⟨by rw [E.out]; rfl, ?_⟩
      refine Touch.drew (Touch.drew ?_)
      refine ⟨rfl, rfl, rfl, by simp, fun k hk _ => ?_⟩
      rw [Below.heap_setCell _ _ _ _ (by simp; omega), Below.heap_alloc _ _ _ hk]
end Go.Proofs.Ytjoinhljdbljaaa
