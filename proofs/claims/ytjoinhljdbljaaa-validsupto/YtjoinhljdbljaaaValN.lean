/- Each node is asked for once: the walk. -/
import Derived.Test.YtjoinhljdbljaaaValM
namespace Go.Proofs.Ytjoinhljdbljaaa
open Go.RowKit

theorem madeZeros (n : Nat) : (madeCells (Value.int .i64 0).cells (n * 1)).toList = ints (List.replicate n 0) := by
  apply List.ext_getElem
  · simp [madeCells, ints]
  · intro i h1 h2
    simp [madeCells, ints, Nat.mod_one, Value.cells]
theorem cntL_nil (N : Nat) : cntL N [] = List.replicate N 0 := by
  apply List.ext_getElem
  · simp [cntL]
  · intro i h1 h2; simp [cntL]
theorem ins_len (n : VN) : (ins n).length ≤ 2 := by unfold ins; split <;> (try split) <;> simp
theorem Touch.up {F : List Nat} {a w w' : World} (ht : Touch F w w') (h : Below a.heap.size a w) (hF : ∀ k ∈ F, a.heap.size ≤ k) : Below a.heap.size a w' :=
  ⟨ht.os.trans h.os, ht.tape.trans h.tape, ht.output.trans h.output, Nat.le_trans h.size ht.size, fun k hk => (ht.block k (Nat.lt_of_lt_of_le hk h.size) (fun e => by have := hF k e; omega)).trans (h.block k hk)⟩
set_option maxRecDepth 20000 in
set_option maxHeartbeats 4000000 in
theorem eachAskedOnce_any (w : World) (v : Value) (N : List VN) (h : NodesIn w [] v N) (hl1 : 1 ≤ N.length) (hl : N.length ≤ 12) (ha : AheadAll N) :
    Calls Try.prog 79 #[v] w (BoolPost (Once N) w) := by
  obtain ⟨i0, hi0, hz0, hz1, hz2⟩ := info_parts info3
  have HI0 : Hid (Try.prog.info? 3 = some i0 ∧ i0.zero = some (.int .i64 0) ∧ i0.size = 1 ∧ i0.bytes = 8) := ⟨hi0, hz0, hz1, hz2⟩
  clear hi0 hz0 hz1 hz2
  obtain ⟨ao, cap, rfl, hc, hm, hx⟩ := h.open
  have HV : Hid (NodesIn w [] (.slice ao N.length cap) N) := h
  have HA : Hid (AheadAll N) := ha
  clear h hx ha
  have HIN : Hid (∀ n p w, Calls Try.prog 86 #[nodeV n p] w (ListPost (ins n) w)) := fun n p w => inputs_any w n p
  go_enter Try.func79, Try.ntmps79
  go_wp2_with (at_make; refine wpList_make_full _ rfl (.tmp 11) (.tmp 11) 70 rfl w.heap.size 3 i0 (.int .i64 0) 1 Try.underlying70 HI0.out.1 HI0.out.2.1 HI0.out.2.2.1 .i64 .i64 _ _ N.length rfl rfl (by omega) (by omega) (by rw [HI0.out.2.2.2]; omega) (by unfold maxLen; omega) (Nat.le_refl _) ?_; intro w1 ho1 hg1; have hp1 := PA.made ho1 rfl; have hB1 := (Below.refl w.heap.size w).grown hg1 (Nat.le_refl _) (fun k hk => by simp at hk); clear ho1 hg1)
  rw [madeZeros, ← cntL_nil, Nat.mul_one] at hp1
  have HP1 : Hid (PA w1 w.heap.size 3 N.length (ints (cntL N.length []))) := hp1
  clear hp1
  go_loopw [15] (fun j wr => ∃ k : Nat, k ≤ N.length ∧ j = .int .i64 k ∧ PA wr w.heap.size 3 N.length (ints (cntL N.length (asks (N.take k)))) ∧ Below w.heap.size w wr) (fun j _ => N.length - (intOf j).toNat)
  case atStart => exact ⟨0, by omega, rfl, HP1.out, hB1⟩
  case round =>
    obtain ⟨k, hk, rfl, hP, hB⟩ := hrel
    clear HP1 hB1 w1
    have hsz := hB.size
    by_cases hlt : k < N.length
    · obtain ⟨b, off, hao, hcell⟩ := (HV.out.step (stepB hB)).cells9 (by omega)
      subst hao
      obtain ⟨p, hp, c0, c1, c2, c3, c4, c5, c6, c7, c8⟩ := hcell k hlt
      have HIk : Hid (∀ w, Calls Try.prog 86 #[nodeV N[k] p] w (ListPost (ins N[k]) w)) := fun w => HIN.out _ _ _
      have HS : Hid (asks (N.take (k + 1)) = asks (N.take k) ++ ins N[k]) := asks_snoc hlt
      have HL : Hid (∀ i (h : i < (ins N[k]).length), 0 ≤ (ins N[k])[i] ∧ (ins N[k])[i] < (k : Int)) := fun i h => HA.out k hlt _ (List.getElem_mem h)
      have hL2 := ins_len N[k]
      have hA2 : (asks (N.take k)).length ≤ 24 := by have := asks_len (N.take k); simp at this; omega
      have hPl := hP.lt
      have HP : Hid (PA wr w.heap.size 3 N.length (ints (cntL N.length (asks (N.take k))))) := hP
      clear hcell hP
      generalize asks (N.take k) = A at *
      generalize ins N[k] = L at *
      generalize N[k] = n at *
      obtain ⟨op, lf, rt, tb, ks, ct, cols, ots, sums⟩ := n
      obtain ⟨kv, cv, ov, sv⟩ := p
      unfold nodeV at HIk
      obtain ⟨hp1, hp2, hp3, hp4⟩ := hp
      simp only at *
      obtain ⟨ko, kcap, rfl, _, _, g1⟩ := hp1.open
      clear g1
      obtain ⟨co, ccap, rfl, _, _, g2⟩ := hp2.open
      clear g2
      obtain ⟨oo, ocap, rfl, _, _, g3⟩ := hp3.open
      clear g3
      obtain ⟨so, scap, rfl, _, _, g4⟩ := hp4.open
      clear g4 hp1 hp2 hp3 hp4
      go_wp2_with (go_at_call 86; refine (HIk.out _).mono ?_; rintro e w2 ⟨ao2, cap2, rfl, hin, hB2⟩)
      have hB3 : Below wr.heap.size wr w2 := Below.trans (by repeat (first | exact Below.refl _ _ | refine Below.alloc ?_ (by first | exact Nat.le_refl _ | simp) _ | refine Below.setCell ?_ (by simp) _)) (hB2.mono (by simp))
      have HI : Hid (IntsIn w2 [w.heap.size] (.slice ao2 L.length cap2) L) := hin [w.heap.size] (by simp; omega)
      have HP2 : Hid (PA w2 w.heap.size 3 N.length (ints (cntL N.length A))) := HP.out.b hB3
      have hB4 : Below w.heap.size w w2 := bthen hB (hB3)
      have hsz2 := hB4.size
      clear hin hB2 HP hB3 c0 c1 c2 c3 c4 c5 c6 c7 c8
      go_loopw [22] (fun j wz => ∃ k2 : Nat, k2 ≤ L.length ∧ j = .int .i64 k2 ∧ PA wz w.heap.size 3 N.length (ints (cntL N.length (A ++ L.take k2))) ∧ Touch [w.heap.size] w2 wz) (fun j _ => L.length - (intOf j).toNat)
      case atStart => exact ⟨0, by omega, rfl, by rw [List.take_zero, List.append_nil]; exact HP2.out, Touch.refl _ _⟩
      case round =>
        obtain ⟨k2, hk2, rfl, hP3, hT⟩ := hrel
        by_cases hlt2 : k2 < L.length
        · obtain ⟨b2, off2, hao2, hcell2⟩ := (HI.out.step (F' := [w.heap.size]) ⟨hT, fun k hk => Or.inl hk⟩).cells (by omega)
          subst hao2
          have d0 := hcell2 k2 hlt2
          have hx := HL.out k2 hlt2
          obtain ⟨c, hce⟩ : ∃ c : Nat, L[k2] = (c : Int) := ⟨L[k2].toNat, by omega⟩
          have HT2 : Hid (A ++ L.take (k2 + 1) = (A ++ L.take k2) ++ [(c : Int)]) := by show _ = _; rw [take_snoc' L k2 hlt2, hce, List.append_assoc]
          rw [hce] at d0 hx
          have hcN : c < (cntL N.length (A ++ L.take k2)).length := by rw [cntL_length]; omega
          have d1 := hP3.cell (ints_get hcN)
          rw [cntL_get] at d1
          have d2 := (hP3.place c (by omega)).2
          have hq : (A ++ L.take k2).count (c : Int) ≤ 26 := by
            have := List.count_le_length (a := (c : Int)) (l := A ++ L.take k2)
            rw [List.length_append, List.length_take] at this; omega
          have HP4 := hP3.set c (by rw [ints_len]; exact hcN) (.int .i64 (((A ++ L.take k2).count (c : Int) : Nat) + 1))
          rw [← ints_set] at HP4
          have e := cntL_snoc N.length (A ++ L.take k2) (c : Int) (by omega) (by omega)
          rw [Int.toNat_natCast] at e
          rw [← e, ← HT2.out] at HP4
          have HP5 : Hid (PA (wr.setCell ⟨w.heap.size, c, none⟩ (.int .i64 (((A ++ L.take k2).count (c : Int) : Nat) + 1))) w.heap.size 3 N.length (ints (cntL N.length (A ++ L.take (k2 + 1))))) := HP4
          clear HP4 e hP3 hcell2
          generalize (A ++ L.take k2).count (c : Int) = q at *
          go_wp2
          go_roundw
          case rel => exact ⟨k2 + 1, by omega, by go_num, HP5.out, hT.setCell (by simp) _⟩
          case measure => simp [intOf]; omega
        · have HP6 : Hid (PA wr w.heap.size 3 N.length (ints (cntL N.length (asks (N.take (k + 1)))))) := by
            rw [List.take_of_length_le (by omega)] at hP3
            rw [HS.out]; exact hP3
          clear hP3
          go_wp2
          go_roundw
          case rel => exact ⟨k + 1, by omega, by go_num, HP6.out, hT.up hB4 (by simp)⟩
          case measure => simp [intOf]; omega
    · rw [List.take_of_length_le (by omega)] at hP
      have HP : Hid (PA wr w.heap.size 3 N.length (ints (cntL N.length (asks N)))) := hP
      clear hP
      obtain ⟨m, hm1⟩ : ∃ m, N.length = m + 1 := ⟨N.length - 1, by omega⟩
      have HM : Hid (N.length = m + 1) := hm1
      have HCN : Hid (∀ j (h : j < m), wr.cell? ⟨w.heap.size, j, none⟩ = some (.int .i64 (((asks N).count (j : Int) : Nat) : Int))) := by
        intro j hj
        have := HP.out.cell (ints_get (l := cntL N.length (asks N)) (i := j) (by rw [cntL_length]; omega))
        rw [cntL_get] at this; exact this
      go_wp2
      go_loopw [40] (fun j wz => ∃ k : Nat, k ≤ m ∧ j = .int .i64 k ∧ (∀ i : Nat, i < k → (asks N).count (i : Int) = 1) ∧ wz = wr) (fun j _ => m - (intOf j).toNat)
      case atStart => exact ⟨0, by omega, rfl, fun i h => by omega, rfl⟩
      case round =>
        obtain ⟨k3, hk3, rfl, hall, hw⟩ := hrel
        subst hw
        by_cases hlt3 : k3 < m
        · have d0 := HCN.out k3 hlt3
          by_cases hq : (asks N).count (k3 : Int) = 1
          · have HN : Hid (∀ i : Nat, i < k3 + 1 → (asks N).count (i : Int) = 1) := by
              intro i hi
              by_cases e : i = k3
              · subst e; exact hq
              · exact hall i (by omega)
            rw [hq] at d0
            clear hall hq
            go_wp2
            go_roundw
            case rel => exact ⟨k3 + 1, by omega, by go_num, HN.out, trivial⟩
            case measure => simp [intOf]; omega
          · have HF : Hid (¬ Once N) := fun h => hq (h k3 (by omega))
            have hd : ((((asks N).count (k3 : Int) : Nat) : Int) != 1) = true := by rw [bne_iff_ne]; omega
            clear hall hq
            go_wp2
            go_ret
            exact BoolPost.no HF.out hB
        · have HT : Hid (Once N) := fun j hj => hall j (by omega)
          clear hall
          go_wp2
          go_ret
          exact BoolPost.yes HT.out hB
end Go.Proofs.Ytjoinhljdbljaaa
