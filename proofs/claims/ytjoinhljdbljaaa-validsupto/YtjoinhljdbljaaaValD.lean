/- Lists of numbers that grow. -/
import Derived.Test.YtjoinhljdbljaaaValC
import Derived.Laws.OwnMore
namespace Go.Proofs.Ytjoinhljdbljaaa
open Go.RowKit

theorem info3 : (Try.prog.info? 3).map (fun i => (i.zero, i.size, i.bytes)) = some (some (.int .i64 0), 1, 8) := by kernel_rfl
def OwnI (w : World) (base : Nat) (v : Value) (l : List Int) : Prop := w.ownsRow base 3 1 v l.length (ints l)
theorem ints_len (l : List Int) : (ints l).length = l.length := by simp [ints]
theorem ints_one (l : List Int) : ∀ u ∈ ints l, u.oneCell' = true := by
  intro u hu
  simp only [ints, List.mem_map] at hu
  obtain ⟨n, _, rfl⟩ := hu
  rfl
theorem ints_app (a b : List Int) : ints (a ++ b) = ints a ++ ints b := by simp [ints]

theorem irow_append {ops : Array Oper} {rest : List Oper} {o : Oper} {a : Act} {Q : Exit → Act → World → Prop} {w : World} (hgd : o.guard = none) (s x : Operand)
    (ho : o.op = .call { callee := .builtin .append, args := #[s, x], argTypes := #[70, 70] }) (base : Nat) (v : Value) (l : List Int) (hs : a.eval s = v) (hown : OwnI w base v l)
    (ad : Addr) (m : List Int) (c : Nat) (hx : a.eval x = .slice (some ad) m.length c) (hnews : ∀ j u, (ints m)[j]? = some u → w.cell? (ad.add j) = some u) (hlen : l.length + m.length ≤ 4000000) (hbase : base ≤ w.heap.size)
    (h : ∀ v' w', OwnI w' base v' (l ++ m) → Below base w w' → wpList Try.prog ops Q rest (a.put o.dst v') w') : wpList Try.prog ops Q (o :: rest) a w := by
  obtain ⟨i0, hi, hz0, hz1, hz2⟩ := info_parts info3
  refine wpList_append_own _ hgd s x 70 ho base 3 i0 (.int .i64 0) 1 8 Try.underlying70 hi hz0 hz1 hz2 rfl (by decide) v _ _ hs hown ad m.length c (ints m) hx (by simp [ints]) hnews (ints_one m) ?_ ?_ hbase ?_
  · unfold maxLen; omega
  · omega
  · intro v' w' h1 h2 _
    refine h v' w' ?_ ((Below.refl _ _).grown h2 hbase fun k hk => (World.ownsRow.lt hown k hk).1)
    unfold OwnI
    rw [List.length_append, ints_app]
    exact h1

theorem OwnI.in {w : World} {base : Nat} {v : Value} {l : List Int} (h : OwnI w base v l) : IntsIn w [] v l := by
  rcases h.2 with ⟨rfl, h0⟩ | ⟨g, cap, cur, rfl, _, hg, hc, hm, hs, ht⟩
  · exact ⟨none, 0, by rw [h0], by omega, by unfold maxLen; omega, by simp [ints], fun hn => by omega⟩
  · refine ⟨_, cap, rfl, hc, hm, by simp [ints], fun hn => ⟨g, 0, rfl, by simp, fun j u hj => ?_⟩⟩
    rw [← ht, List.getElem?_take] at hj
    split at hj
    · simp only [Nat.zero_add]
      simp only [World.cell?, hg]
      simpa using hj
    · cases hj
theorem OwnI.inF {w : World} {base : Nat} {v : Value} {l : List Int} (h : OwnI w base v l) {F : List Nat} (hF : ∀ k ∈ F, k < base) : IntsIn w F v l := by
  rcases h.2 with ⟨rfl, h0⟩ | ⟨g, cap, cur, rfl, hbg, hg, hc, hm, hs, ht⟩
  · exact ⟨none, 0, by rw [h0], by omega, by unfold maxLen; omega, by simp [ints], fun hn => by omega⟩
  · refine ⟨_, cap, rfl, hc, hm, by simp [ints], fun hn => ⟨g, 0, rfl, fun hm => ?_, fun j u hj => ?_⟩⟩
    · have := hF g hm; omega
    rw [← ht, List.getElem?_take] at hj
    split at hj
    · simp only [Nat.zero_add]
      simp only [World.cell?, hg]
      simpa using hj
    · cases hj
theorem OwnI.below {w w' : World} {base B : Nat} {v : Value} {l : List Int} (h : OwnI w base v l) (hb : Below B w w') (hB : w.heap.size ≤ B) : OwnI w' base v l := by
  obtain ⟨h1, h2⟩ := h
  refine ⟨h1, ?_⟩
  rcases h2 with h2 | ⟨g, cap, cur, rfl, hbg, hg, r⟩
  · exact Or.inl h2
  · refine Or.inr ⟨g, cap, cur, rfl, hbg, ?_, r⟩
    rw [hb.block g (by have := (Array.getElem?_eq_some_iff.1 hg).1; omega)]
    exact hg
theorem OwnI.alloc {w : World} {base : Nat} {v : Value} {l : List Int} (h : OwnI w base v l) (o : Obj) : OwnI (w.alloc o) base v l := World.ownsRow.alloc h o
theorem OwnI.nil (w : World) (base : Nat) : OwnI w base (.slice none 0 0) [] := World.ownsRow_nil _ _ _ _
theorem new_int (w : World) (q : Int) (t : TypeId) : ∀ j u, (ints [q])[j]? = some u → (w.alloc (.cells #[.int .i64 q] t)).cell? ((⟨w.heap.size, 0, none⟩ : Addr).add j) = some u := cell_one_new w (.int .i64 q) t

/-- a new list of numbers comes back -/
def IntsPost (l : List Int) (w : World) : Ending → World → Prop := fun e w' => ∃ r, e = .returned r ∧ IntsIn w' [] r l ∧ Below w.heap.size w w'

set_option maxHeartbeats 1000000 in
theorem keysOf_any (w : World) (v : Value) (l : List K) (h : KeysIn w [] v l) (hl : l.length ≤ 1048576) :
    Calls Try.prog 69 #[v] w (IntsPost (colsOf l) w) := by
  obtain ⟨ao, cap, rfl, hc, hm, _⟩ := h.open
  have HV : Hid (KeysIn w [] (.slice ao l.length cap) l) := h
  clear h
  go_enter Try.func69, Try.ntmps69
  go_wp2
  go_loopw [3, 4] (fun o j wr => ∃ k : Nat, k ≤ l.length ∧ j = .int .i64 k ∧ OwnI wr w.heap.size o (colsOf (l.take k)) ∧ Below w.heap.size w wr) (fun _ j _ => l.length - (intOf j).toNat)
  case atStart => exact ⟨0, by omega, rfl, OwnI.nil _ _, Below.refl _ _⟩
  case round =>
    obtain ⟨k, hk, rfl, hO, hB⟩ := hrel
    have hsz := hB.size
    by_cases hlt : k < l.length
    · obtain ⟨b, off, hao, hcell⟩ := (HV.out.step (stepB hB)).cells (by omega)
      subst hao
      obtain ⟨c0, _, _⟩ := hcell k hlt
      have HS : Hid (colsOf (l.take (k + 1)) = colsOf (l.take k) ++ [l[k].c]) := by show _ = _; unfold colsOf; rw [take_snoc' l k hlt, List.map_append]; rfl
      have hll : (colsOf (l.take k)).length ≤ 1048576 := by simp [colsOf]; omega
      generalize l[k].c = q at *
      generalize colsOf (l.take k) = S at *
      clear hcell
      go_wp2_with (at_builtin; refine irow_append rfl (.tmp 11) (.tmp 17) rfl w.heap.size _ S rfl (hO.alloc _) _ [q] 1 rfl (new_int _ _ _) (by simp; omega) (by simp; omega) ?_; intro v' w5 hO5 hB5)
      go_roundw
      case rel => exact ⟨k + 1, by omega, by go_num, by rw [HS.out]; exact hO5, (hB.alloc hsz _).trans hB5⟩
      case measure => simp [intOf]; omega
    · have HI : Hid (IntsIn wr [] u3 (colsOf l)) := by
        have := hO.in
        rw [List.take_of_length_le (by omega)] at this
        exact this
      clear hO
      go_wp2
      go_ret
      exact ⟨_, rfl, HI.out, hB⟩
end Go.Proofs.Ytjoinhljdbljaaa
