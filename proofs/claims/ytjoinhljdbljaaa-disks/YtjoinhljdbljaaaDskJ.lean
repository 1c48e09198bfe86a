/- The walk of the document's Delete. -/
import Derived.Test.YtjoinhljdbljaaaDskH
import Derived.Test.YtjoinhljdbljaaaDskI
namespace Go.Proofs.Ytjoinhljdbljaaa
open Go.RowKit
open Go.ChangeMaps (setBlock)

theorem frow_append {ops : Array Oper} {rest : List Oper} {o : Oper} {a : Act} {Q : Exit → Act → World → Prop} {w : World} (hgd : o.guard = none) (s x : Operand)
    (ho : o.op = .call { callee := .builtin .append, args := #[s, x], argTypes := #[71, 71] }) (base : Nat) (v : Value) (n : Nat) (xs : List Value) (hs : a.eval s = v) (hown : w.ownsRow base 131 2 v n xs)
    (ad : Addr) (c0 c1 : Value) (c : Nat) (hx : a.eval x = .slice (some ad) 1 c) (hnews : ∀ j u, [c0, c1][j]? = some u → w.cell? (ad.add j) = some u) (hone : c0.oneCell' = true ∧ c1.oneCell' = true) (hlen : n ≤ 3000000000000) (hbase : base ≤ w.heap.size)
    (h : ∀ v' w', w'.ownsRow base 131 2 v' (n + 1) (xs ++ [c0, c1]) → Below base w w' → wpList Try.prog ops Q rest (a.put o.dst v') w') : wpList Try.prog ops Q (o :: rest) a w := by
  obtain ⟨i0, hi, hz0, hz1, hz2⟩ := info_parts info131
  refine wpList_append_own _ hgd s x 71 ho base 131 i0 (.agg #[.int .i64 0, .slice none 0 0]) 2 32 Try.underlying71 hi hz0 hz1 hz2 rfl (by decide) v _ _ hs hown ad 1 c [c0, c1] hx (by simp) hnews ?_ ?_ ?_ hbase ?_
  · intro u hu
    simp only [List.mem_cons, List.not_mem_nil, or_false] at hu
    rcases hu with rfl | rfl
    · exact hone.1
    · exact hone.2
  · unfold maxLen; omega
  · omega
  · intro v' w' h1 h2 _
    exact h v' w' h1 ((Below.refl _ _).grown h2 hbase fun k hk => (World.ownsRow.lt hown k hk).1)

theorem ownsRow_base {w : World} {base : Nat} {e : TypeId} {size : Nat} {v : Value} {n : Nat} {xs : List Value} (h : w.ownsRow base e size v n xs) : w.ownsRow 0 e size v n xs := by
  obtain ⟨h1, h2⟩ := h
  refine ⟨h1, ?_⟩
  rcases h2 with h2 | ⟨g, cap, cur, rfl, _, r⟩
  · exact Or.inl h2
  · exact Or.inr ⟨g, cap, cur, rfl, Nat.zero_le _, r⟩

theorem Below.touch {w w' : World} (h : Below w.heap.size w w') (F : List Nat) : Touch F w w' := ⟨h.os, h.tape, h.output, h.size, fun k hk _ => h.block k hk⟩

theorem row_shape {w : World} {base : Nat} {e : TypeId} {size : Nat} {v : Value} {n : Nat} {xs : List Value} (h : w.ownsRow base e size v n xs) : ∃ ao cp, v = .slice ao n cp ∧ ∀ k, v.ownBlock = some k → base ≤ k := by
  have hlt := fun k hk => (World.ownsRow.lt h k hk).1
  rcases h.2 with ⟨rfl, h0⟩ | ⟨g, cap, cur, rfl, _⟩
  · exact ⟨none, 0, by rw [h0], hlt⟩
  · exact ⟨_, cap, rfl, hlt⟩

theorem skip_same (M : List PF) (i k : Nat) (h : k < M.length) (e : k = i) : (M.take (k + 1)).eraseIdx i = (M.take k).eraseIdx i := by
  subst e
  rw [take_snoc' M k h, List.eraseIdx_append_of_length_le (by simp; omega), List.eraseIdx_of_length_le (l := M.take k) (by simp; omega)]
  have : k - (M.take k).length = 0 := by simp; omega
  rw [this]
  simp
theorem skip_other (M : List PF) (i k : Nat) (h : k < M.length) (e : k ≠ i) : (M.take (k + 1)).eraseIdx i = (M.take k).eraseIdx i ++ [M[k]] := by
  rw [take_snoc' M k h]
  have hl : (M.take k).length = k := by simp; omega
  by_cases hik : i < k
  · rw [List.eraseIdx_append_of_lt_length (by omega)]
  · rw [List.eraseIdx_append_of_length_le (by omega), List.eraseIdx_of_length_le (l := M.take k) (by omega)]
    congr 1
    rw [hl]
    have : i - k ≠ 0 := by omega
    cases hq : i - k with
    | zero => exact absurd hq this
    | succ q => simp
theorem skip_len (M : List PF) (i k : Nat) : ((M.take k).eraseIdx i).length ≤ M.length := by
  have := List.length_eraseIdx_le (M.take k) i
  have h2 : (M.take k).length ≤ M.length := by simp; omega
  omega
theorem filesRow_snoc (M : List PF) (m : PF) : filesRow (M ++ [m]) = filesRow M ++ [.int .i64 m.1, m.2.1] := by simp [filesRow]

set_option maxRecDepth 20000 in
set_option maxHeartbeats 2000000 in
theorem rdelete (w : World) (bd bf : Nat) (fv : Value) (d : DS) (M : List PF) (file : Int) (h : RD w bd bf fv d M) (hu : Nums d.files) (hl : M.length ≤ 3000000000000) :
    Calls Try.prog 32 #[.pointer (some ⟨bd, 0, none⟩), .int .i64 file] w fun e w' => e = .returned (.int .i64 (deleteS d file).1) ∧ (∃ fv' M', RD w' bd bf fv' (deleteS d file).2 M' ∧ List.Sublist (rowsOf M') (rowsOf M) ∧ (M'.length ≤ M.length) ∧ ∀ k ∈ fv'.ownBlock.toList, k ∈ fv.ownBlock.toList ∨ w.heap.size ≤ k) ∧ Touch (bd :: bf :: (fv.ownBlock.toList ++ rowsOf M)) w w' := by
  have HPL : Hid (Calls Try.prog 61 #[.pointer (some ⟨bd, 0, none⟩), .int .i64 file] w fun e w' => e = .returned (.int .i64 (posI d.files file)) ∧ w' = w) := place_any w bd bf fv d M file h hu hl
  have hfil := h.files
  have HP : Hid (RD w bd bf fv d M) := h
  rcases pos_cases M file with ⟨hp, hno⟩ | ⟨i, m, hm, rfl, hp⟩
  · have hq : posI d.files file = -1 := by unfold posI; rw [hfil, hp]
    rw [hq] at HPL
    have E : Hid (deleteS d file = (8, d)) := by
      show deleteS d file = _
      unfold deleteS
      rw [hfil, hp]
    generalize deleteS d file = r at *
    clear h hu hfil hp hno hq
    go_enter Try.func32, Try.ntmps32
    go_wp2_with fail
    refine HPL.out.mono ?_
    rintro e w1 ⟨rfl, hw⟩
    subst hw
    go_wp2
    go_ret
    exact ⟨by rw [E.out]; rfl, ⟨fv, M, by rw [E.out]; exact HP.out, List.Sublist.refl _, Nat.le_refl _, fun k hk => Or.inl (by simpa using hk)⟩, Touch.refl _ _⟩
  · have hq : posI d.files m.1 = (i : Int) := by unfold posI; rw [hfil, hp]
    rw [hq] at HPL
    have E : Hid (deleteS d m.1 = (0, { d with files := d.files.eraseIdx i })) := by
      show deleteS d m.1 = _
      unfold deleteS
      rw [hfil, hp]
    generalize deleteS d m.1 = r at *
    generalize m.1 = file at *
    have hil := (List.getElem?_eq_some_iff.1 hm).1
    obtain ⟨g0, cap0, hfv, hc0, _, hx⟩ := h.cells (by omega)
    subst hfv
    obtain ⟨_, _, _, _, c4, _, _, fz⟩ := RCells h.disk
    have ff4 := fz 4
    have hbd := h.lt bd (by simp)
    have hg0 := h.lt g0 (by simp [Value.ownBlock])
    have HX : Hid _ := hx
    clear h hu hfil hp hq hm hx fz
    go_enter Try.func32, Try.ntmps32
    go_wp2_with fail
    refine HPL.out.mono ?_
    rintro e w1 ⟨rfl, hw⟩
    subst hw
    go_wp2
    go_loopw [6, 7] (fun l j wr => ∃ k : Nat, k ≤ M.length ∧ j = .int .i64 k ∧ wr.ownsRow w1.heap.size 131 2 l ((M.take k).eraseIdx i).length (filesRow ((M.take k).eraseIdx i)) ∧ Below w1.heap.size w1 wr) (fun _ j _ => M.length - (intOf j).toNat)
    case atStart => exact ⟨0, by omega, rfl, by simpa [filesRow] using World.ownsRow_nil _ _ _ _, Below.refl _ _⟩
    case round =>
      obtain ⟨k, hk, rfl, hO, hB⟩ := hrel
      have hsz := hB.size
      have c4' : wr.cell? ⟨bd, 4, none⟩ = some (.slice (some ⟨g0, 0, none⟩) M.length cap0) := (hB.cell (by exact hbd)).trans c4
      have ff4' : wr.frozen? ⟨bd, 4, none⟩ = false := (hB.frozen (by exact hbd)).trans ff4
      have hbd' : bd < wr.heap.size := by omega
      have hg0' : g0 < wr.heap.size := by omega
      by_cases hlt : k < M.length
      · by_cases he : k = i
        · have HS : Hid ((M.take (k + 1)).eraseIdx i = (M.take k).eraseIdx i) := skip_same M i k hlt he
          have hb : ((k : Int) != (i : Int)) = false := by simp [he]
          generalize hz : (M.take k).eraseIdx i = S at *
          clear hz he
          go_wp2
          go_roundw
          case rel => exact ⟨k + 1, by omega, by go_num, by rw [HS.out]; exact hO, hB⟩
          case measure => simp [intOf]; omega
        · have HS : Hid ((M.take (k + 1)).eraseIdx i = (M.take k).eraseIdx i ++ [M[k]]) := skip_other M i k hlt he
          have hb : ((k : Int) != (i : Int)) = true := by rw [bne_iff_ne]; omega
          have hlen := skip_len M i k
          obtain ⟨x0, x1⟩ := HX.out k M[k] (List.getElem?_eq_getElem hlt)
          rw [← hB.cell (by exact hg0)] at x0 x1
          have hone : M[k].2.1.oneCell' = true := by
            obtain ⟨ao, cp, hv, _⟩ := (HP.out.rows M[k] (List.getElem_mem _)).shape
            rw [hv]; rfl
          generalize hz : (M.take k).eraseIdx i = S at *
          generalize hz2 : M[k] = mk at *
          obtain ⟨num, v, bs⟩ := mk
          simp only at x0 x1 hone
          clear hz hz2 he
          go_wp2_with (at_builtin; refine frow_append rfl (.tmp 25) (.tmp 33) rfl w1.heap.size _ S.length (filesRow S) rfl (hO.alloc _) _ (.int .i64 num) v 1 rfl (new2 _ _ _ _) ⟨rfl, hone⟩ (by omega) (by simp; omega) ?_; intro v' w5 hO5 hB5)
          go_roundw
          case rel =>
            refine ⟨k + 1, by omega, by go_num, ?_, (hB.alloc (by omega) _).trans hB5⟩
            rw [HS.out, filesRow_snoc, List.length_append]
            exact hO5
          case measure => simp [intOf]; omega
      · have HE : Hid ((M.take k).eraseIdx i = M.eraseIdx i) := by show _ = _; rw [List.take_of_length_le (by omega)]
        rw [HE.out] at hO
        obtain ⟨ao, cp, hv, hat⟩ := row_shape hO
        subst hv
        have HO : Hid (wr.ownsRow w1.heap.size 131 2 (.slice ao (M.eraseIdx i).length cp) (M.eraseIdx i).length (filesRow (M.eraseIdx i))) := hO
        have HAT : Hid _ := hat
        clear hO hat
        go_wp2
        go_ret
        have hx := RD.newRow (fv' := .slice ao (M.eraseIdx i).length cp) (F := wr.setCell ⟨bd, 4, none⟩ (.slice ao (M.eraseIdx i).length cp)) (M' := M.eraseIdx i) (d' := { d with files := d.files.eraseIdx i }) (w4 := wr) HP.out (Below.touch hB _)
          (fun k hk => Or.inr (HAT.out k hk)) (ownsRow_base HO.out) ((Touch.refl _ _).setCell (by simp) _)
          (heap_setCell_same _ _ _ _ _ _ (show _ = some (Obj.cells (RC d (.slice (some ⟨g0, 0, none⟩) M.length cap0) bf) 73 (0, 0)) by rw [hB.block bd hbd]; exact HP.out.disk))
          (by rw [Below.heap_setCell _ _ _ _ (fun e => HP.out.ne e.symm), hB.block bf (HP.out.lt bf (by simp))]; exact HP.out.faults)
          (by simp only; rw [HP.out.files]; unfold filesOf; rw [map_erase]) (fun m hm => Or.inl (mem_erase hm)) (rows_erase M i)
        refine ⟨by rw [E.out]; rfl, ⟨_, _, by rw [E.out]; exact hx.1, rows_erase M i, ?_, fun k hk => by have := hx.2.1 k (by simpa using hk); simpa using this⟩, hx.2.2⟩
        exact List.length_eraseIdx_le M i
end Go.Proofs.Ytjoinhljdbljaaa
