/- Bytes appended to a text that the call itself made: the walks of appendInt and appendText. -/
import Derived.Test.YtjoinhljdbljaaaKeyA
namespace Go.Proofs.Ytjoinhljdbljaaa
open Go.RowKit

def c8 (b : UInt8) : Value := .int .u8 (b.toNat : Int)
/-- BELOW BLOCK NUMBER B, and in every block that is no row of bytes, w' is as w was. -/
structure Fr (B : Nat) (w w' : World) : Prop where
  below : Below B w w'
  kept : ∀ k, k < w.heap.size → (∀ c f, w.heap[k]? ≠ some (.cells c 5 f)) → w'.heap[k]? = w.heap[k]?
theorem Fr.size {B : Nat} {w w' : World} (h : Fr B w w') : w.heap.size ≤ w'.heap.size := h.below.size
theorem Fr.refl (B : Nat) (w : World) : Fr B w w := ⟨Below.refl _ _, fun _ _ _ => rfl⟩
theorem Fr.trans {B : Nat} {a b c : World} (h : Fr B a b) (k : Fr B b c) : Fr B a c :=
  ⟨h.below.trans k.below, fun i hi hn => (k.kept i (Nat.lt_of_lt_of_le hi h.size) (by rw [h.kept i hi hn]; exact hn)).trans (h.kept i hi hn)⟩
theorem Fr.alloc {B : Nat} {a w : World} (h : Fr B a w) (hB : B ≤ w.heap.size) (o : Obj) : Fr B a (w.alloc o) :=
  h.trans ⟨(Below.refl _ _).alloc hB o, fun _ hi _ => Below.heap_alloc _ _ _ hi⟩
theorem Fr.drew {B : Nat} {a w : World} (h : Fr B a w) : Fr B a w.drew := ⟨h.below.drew, h.kept⟩
theorem Fr.cell {B : Nat} {w w' : World} (h : Fr B w w') {p : Addr} (hp : p.block < w.heap.size) (hn : ∀ c f, w.heap[p.block]? ≠ some (.cells c 5 f)) : w'.cell? p = w.cell? p := World.cell?_of_block (w := w) (h.kept p.block hp hn)
theorem Fr.frozen {B : Nat} {w w' : World} (h : Fr B w w') {p : Addr} (hp : p.block < w.heap.size) (hn : ∀ c f, w.heap[p.block]? ≠ some (.cells c 5 f)) : w'.frozen? p = w.frozen? p := World.frozen?_of_block (w := w) (h.kept p.block hp hn)
theorem Fr.mono {B B' : Nat} {w w' : World} (h : Fr B w w') (hB : B' ≤ B) : Fr B' w w' := ⟨h.below.mono hB, h.kept⟩

def Tx (w : World) (base : Nat) (v : Value) (bs : List UInt8) : Prop := w.ownsRow base 5 1 v bs.length (bs.map c8)

theorem info5 : (Try.prog.info? 5).map (fun i => (i.zero, i.size, i.bytes)) = some (some (.int .u8 0), 1, 1) := by kernel_rfl

theorem Tx.nil (w : World) (base : Nat) : Tx w base (.slice none 0 0) [] := World.ownsRow_nil _ _ _ _

theorem Tx.own {w : World} {base : Nat} {v : Value} {bs : List UInt8} (h : Tx w base v bs) : ∀ k, v.ownBlock = some k → base ≤ k := fun k hk => (World.ownsRow.lt h k hk).1

theorem Tx.alloc {w : World} {base : Nat} {v : Value} {bs : List UInt8} (h : Tx w base v bs) (o : Obj) : Tx (w.alloc o) base v bs := World.ownsRow.alloc h o

theorem Tx.bytes {w : World} {base : Nat} {v : Value} {bs : List UInt8} (h : Tx w base v bs) : ∀ k, v.ownBlock = some k → ∃ c f, w.heap[k]? = some (.cells c 5 f) := by
  intro k hk
  rcases h.2 with ⟨rfl, _⟩ | ⟨g, cap, cur, rfl, _, hg, _⟩
  · simp [Value.ownBlock] at hk
  · simp [Value.ownBlock] at hk
    subst hk
    exact ⟨_, _, hg⟩

theorem tx_append {ops : Array Oper} {rest : List Oper} {o : Oper} {a : Act} {Q : Exit → Act → World → Prop} {w : World} (hgd : o.guard = none) (s x : Operand)
    (ho : o.op = .call { callee := .builtin .append, args := #[s, x], argTypes := #[127, 127] }) (base : Nat) (v : Value) (bs : List UInt8) (hs : a.eval s = v) (hown : Tx w base v bs)
    (ad : Addr) (new : List UInt8) (c : Nat) (hx : a.eval x = .slice (some ad) new.length c) (hnews : ∀ j u, (new.map c8)[j]? = some u → w.cell? (ad.add j) = some u)
    (hlen : bs.length + new.length ≤ 70368744177664) (hbase : base ≤ w.heap.size)
    (h : ∀ v' w', Tx w' base v' (bs ++ new) → Fr base w w' → wpList Try.prog ops Q rest (a.put o.dst v') w') : wpList Try.prog ops Q (o :: rest) a w := by
  obtain ⟨i0, hi, hz0, hz1, hz2⟩ := info_parts info5
  refine wpList_append_own _ hgd s x 127 ho base 5 i0 (.int .u8 0) 1 1 Try.underlying127 hi hz0 hz1 hz2 rfl (by decide) v _ _ hs hown ad new.length c (new.map c8) hx (by simp) hnews ?_ ?_ ?_ hbase ?_
  · intro u hu
    obtain ⟨b, _, rfl⟩ := List.mem_map.1 hu
    rfl
  · unfold maxLen; omega
  · omega
  · intro v' w' h1 h2 _
    refine h v' w' ?_ ⟨(Below.refl _ _).grown h2 hbase fun k hk => hown.own k hk, fun k hk hn => h2.block k hk fun e => ?_⟩
    rotate_left
    · obtain ⟨c, f, hc⟩ := hown.bytes k e.symm
      exact hn _ _ hc
    simpa [Tx] using h1

def esc (l : List UInt8) : List UInt8 := l.flatMap fun b => if b = 0 then [0, 255] else [b]
theorem esc_cons (b : UInt8) (l : List UInt8) : esc (b :: l) = (if b = 0 then [0, 255] else [b]) ++ esc l := by simp [esc]
theorem esc_len (l : List UInt8) : (esc l).length ≤ 2 * l.length := by
  induction l with
  | nil => simp [esc]
  | cons b l ih =>
    rw [esc_cons, List.length_append, List.length_cons]
    have : (if b = 0 then [(0 : UInt8), 255] else [b]).length ≤ 2 := by split <;> simp
    omega
def encText (s : ByteArray) : List UInt8 := esc s.data.toList ++ [0, 0]

theorem take_snoc (s : ByteArray) (k : Nat) (h : k < s.size) : s.data.toList.take (k + 1) = s.data.toList.take k ++ [s[k]] := by
  rw [List.take_succ_eq_append_getElem (by simpa using h)]; rfl

theorem esc_snoc (l : List UInt8) (b : UInt8) : esc (l ++ [b]) = esc l ++ if b = 0 then [0, 255] else [b] := by simp [esc]

theorem new_one (w : World) (b : UInt8) (n : Int) (hn : n = (b.toNat : Int)) : ∀ j u, ([b].map c8)[j]? = some u → (w.alloc (.cells #[.int .u8 n] 5)).cell? (Addr.add ⟨w.heap.size, 0, none⟩ j) = some u := by
  subst hn
  exact cell_one_new _ _ _

theorem new_two (w : World) (b c : UInt8) : ∀ j u, ([b, c].map c8)[j]? = some u → (w.alloc (.cells #[.int .u8 b.toNat, .int .u8 c.toNat] 5)).cell? (Addr.add ⟨w.heap.size, 0, none⟩ j) = some u := by
  intro j u hj
  match j, hj with
  | 0, hj => simp at hj; subst hj; simp [Addr.add]; rfl
  | 1, hj => simp at hj; subst hj; simp [Addr.add]; rfl

set_option maxHeartbeats 1000000 in
theorem appendText_any (base : Nat) (v : Value) (bs : List UInt8) (s : ByteArray) (w : World) (ho : Tx w base v bs) (hb : base ≤ w.heap.size) (hl : bs.length ≤ 1000000000000) (hs : s.size ≤ 1000000000000) :
    Calls Try.prog 84 #[v, .string s] w fun e w' => ∃ v', e = .returned v' ∧ Tx w' base v' (bs ++ encText s) ∧ Fr base w w' := by
  go_enter Try.func84, Try.ntmps84
  go_wp2
  go_loopw [0, 8] (fun t i wr => ∃ k : Nat, k ≤ s.size ∧ i = .int .i64 k ∧ Tx wr base t (bs ++ esc (s.data.toList.take k)) ∧ Fr base w wr) (fun _ i _ => s.size - (intOf i).toNat)
  case atStart => exact ⟨0, Nat.zero_le _, rfl, by simpa [esc] using ho, Fr.refl _ _⟩
  case round =>
    obtain ⟨k, hk, rfl, hT, hB⟩ := hrel
    have hel := esc_len (s.data.toList.take k)
    have htl : (s.data.toList.take k).length ≤ k := List.length_take_le _ _
    have hsz := hB.size
    by_cases hlt : k < s.size
    · have HS : Hid (s.data.toList.take (k + 1) = s.data.toList.take k ++ [s[k]]) := take_snoc s k hlt
      by_cases hz : s[k] = 0
      · have hz1 : ((s[k].toNat : Int) == 0) = true := by rw [hz]; rfl
        have HZ : Hid (s[k] = 0) := hz
        clear hz
        go_wp2_with (first | (at_builtin; refine tx_append rfl (.tmp 11) (.tmp 15) rfl base _ _ rfl (hT.alloc _) _ [s[k]] _ rfl (new_one _ _ _ rfl) (by simp; omega) (by simp; omega) ?_; intro v1 w1 hT1 hB1) | (at_builtin; refine tx_append rfl (.tmp 21) (.tmp 22) rfl base _ _ rfl (hT1.alloc _) _ [255] _ rfl (new_one _ _ _ rfl) (by simp; omega) (by have := hB1.size; simp at *; omega) ?_; intro v2 w2 hT2 hB2))
        go_roundw
        case rel =>
          refine ⟨k + 1, by omega, by go_num, ?_, ?_⟩
          · rw [HS.out, esc_snoc, if_pos HZ.out]
            rw [HZ.out] at hT2
            simpa using hT2
          · exact ((hB.alloc (by omega) _).trans hB1).alloc (by have := hB1.size; simp at this; omega) _ |>.trans hB2
        case measure => simp [intOf]; omega
      · have hz1 : ((s[k].toNat : Int) == 0) = false := by
          rw [beq_eq_false_iff_ne]
          intro h
          exact hz (UInt8.toNat_inj.1 (by simpa using h))
        have HZ : Hid (¬ s[k] = 0) := hz
        clear hz
        go_wp2_with (first | (at_builtin; refine tx_append rfl (.tmp 11) (.tmp 15) rfl base _ _ rfl (hT.alloc _) _ [s[k]] _ rfl (new_one _ _ _ rfl) (by simp; omega) (by simp; omega) ?_; intro v1 w1 hT1 hB1))
        go_roundw
        case rel =>
          refine ⟨k + 1, by omega, by go_num, ?_, ?_⟩
          · rw [HS.out, esc_snoc, if_neg HZ.out]
            simpa using hT1
          · exact (hB.alloc (by omega) _).trans hB1
        case measure => simp [intOf]; omega
    · have hk' : k = s.size := by omega
      have HE : Hid (s.data.toList.take k = s.data.toList) := by rw [hk']; exact List.take_of_length_le (by simp)
      clear hk'
      go_wp2_with (first | (at_builtin; refine tx_append rfl (.tmp 25) (.tmp 26) rfl base _ _ rfl (hT.alloc _) _ [0, 0] _ rfl (new_two _ _ _) (by simp; omega) (by simp; omega) ?_; intro v1 w1 hT1 hB1))
      go_ret
      refine ⟨_, rfl, ?_, (hB.alloc (by omega) _).trans hB1⟩
      rw [HE.out] at hT1
      simpa [encText] using hT1
end Go.Proofs.Ytjoinhljdbljaaa
