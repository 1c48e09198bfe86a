/- The walk of appendPresent. -/
import Derived.Test.YtjoinhljdbljaaaKeyC
namespace Go.Proofs.Ytjoinhljdbljaaa
open Go.RowKit

def encPresent (v : V) : List UInt8 :=
  if v.k = 1 then encInt v.n else if v.k = 2 then encText v.s else [UInt8.ofNat v.n.toNat]

/-- a value that may stand in a column and is not Null -/
def Solid (v : V) : Prop := (v.k = 1 ∧ I64 v.n ∧ v.s = ⟨#[]⟩) ∨ (v.k = 2 ∧ v.n = 0 ∧ v.s.size ≤ 200) ∨ (v.k = 3 ∧ (v.n = 0 ∨ v.n = 1) ∧ v.s = ⟨#[]⟩)

theorem encInt_len (n : Int) : (encInt n).length = 8 := by simp [encInt, encNat]
theorem encText_len (s : ByteArray) : (encText s).length ≤ 2 * s.size + 2 := by
  have := esc_len s.data.toList
  simp only [encText, List.length_append, List.length_cons, List.length_nil, Array.length_toList] at *
  have : s.data.size = s.size := rfl
  omega
theorem encPresent_len (v : V) (h : Solid v) : (encPresent v).length ≤ 402 := by
  unfold encPresent
  rcases h with ⟨h, _⟩ | ⟨h, _, h2⟩ | ⟨h, _⟩
  · rw [if_pos h, encInt_len]; omega
  · rw [if_neg (by omega), if_pos h]; have := encText_len v.s; omega
  · rw [if_neg (by omega), if_neg (by omega)]; simp
theorem encPresent_pos (v : V) : 1 ≤ (encPresent v).length := by
  unfold encPresent
  split
  · rw [encInt_len]; omega
  · split
    · simp [encText]
    · simp

/-- the one new cell where a block has been laid ahead of it (its number is reckoned as the walk writes it) -/
theorem new_one1 (w : World) (o : Obj) (b : UInt8) (n : Int) (hn : n = (b.toNat : Int)) : ∀ j u, ([b].map c8)[j]? = some u → ((w.alloc o).alloc (.cells #[.int .u8 n] 5)).cell? (Addr.add ⟨w.heap.size + 1, 0, none⟩ j) = some u := by
  have := new_one (w.alloc o) b n hn
  simpa using this

set_option maxHeartbeats 1000000 in
theorem appendPresent_any (base : Nat) (t : Value) (bs : List UInt8) (v : V) (w : World) (ho : Tx w base t bs) (hb : base ≤ w.heap.size) (hl : bs.length ≤ 1000000000000) (hv : Solid v) :
    Calls Try.prog 73 #[t, v.val] w fun e w' => ∃ v', e = .returned v' ∧ Tx w' base v' (bs ++ encPresent v) ∧ Fr base w w' := by
  obtain ⟨k, n, s⟩ := v
  simp only [V.val]
  rcases hv with ⟨h, hn, _⟩ | ⟨h, _, h2⟩ | ⟨h, h2, _⟩
  · simp only at h hn
    subst h
    have E : Hid (encPresent ⟨1, n, s⟩ = encInt n) := by simp [Hid, encPresent]
    generalize encPresent ⟨1, n, s⟩ = r at *
    obtain ⟨hn1, hn2⟩ := hn
    go_enter Try.func73, Try.ntmps73
    go_wp2_with (go_at_call 83; refine (appendInt_any base _ bs n _ (ho.alloc _) (by simp; omega) hl hn1 hn2).mono ?_; rintro e w1 ⟨v', rfl, hT, hB⟩)
    go_ret
    exact ⟨_, rfl, by rw [E.out]; exact hT, ((Fr.refl _ _).alloc hb _).trans hB⟩
  · simp only at h h2
    subst h
    have E : Hid (encPresent ⟨2, n, s⟩ = encText s) := by simp [Hid, encPresent]
    generalize encPresent ⟨2, n, s⟩ = r at *
    go_enter Try.func73, Try.ntmps73
    go_wp2_with (go_at_call 84; refine (appendText_any base _ bs s _ (ho.alloc _) (by simp; omega) hl (by omega)).mono ?_; rintro e w1 ⟨v', rfl, hT, hB⟩)
    go_ret
    exact ⟨_, rfl, by rw [E.out]; exact hT, ((Fr.refl _ _).alloc hb _).trans hB⟩
  · simp only at h h2
    subst h
    rcases h2 with rfl | rfl
    · have E : Hid (encPresent ⟨3, 0, s⟩ = [0]) := by simp [Hid, encPresent]
      generalize encPresent ⟨3, 0, s⟩ = r at *
      go_enter Try.func73, Try.ntmps73
      go_wp2_with (at_builtin; refine tx_append rfl (.tmp 21) (.tmp 25) rfl base _ _ rfl ((ho.alloc _).alloc _) _ [0] _ rfl (new_one1 _ _ _ _ rfl) (by simp; omega) (by simp; omega) ?_; intro v1 w1 hT1 hB1)
      go_ret
      exact ⟨_, rfl, by rw [E.out]; exact hT1, (((Fr.refl _ _).alloc hb _).alloc (by simp; omega) _).trans hB1⟩
    · have E : Hid (encPresent ⟨3, 1, s⟩ = [1]) := by simp [Hid, encPresent]
      generalize encPresent ⟨3, 1, s⟩ = r at *
      go_enter Try.func73, Try.ntmps73
      go_wp2_with (at_builtin; refine tx_append rfl (.tmp 21) (.tmp 25) rfl base _ _ rfl ((ho.alloc _).alloc _) _ [1] _ rfl (new_one1 _ _ _ _ rfl) (by simp; omega) (by simp; omega) ?_; intro v1 w1 hT1 hB1)
      go_ret
      exact ⟨_, rfl, by rw [E.out]; exact hT1, (((Fr.refl _ _).alloc hb _).alloc (by simp; omega) _).trans hB1⟩
end Go.Proofs.Ytjoinhljdbljaaa
