/- Keys with marks behind. Sums with marks behind. A row with marks behind. -/
import Derived.Test.YtjoinhljdbljaaaVbB
import Derived.Test.YtjoinhljdbljaaaValT
import Derived.BigRegion
namespace Go.Proofs.Ytjoinhljdbljaaa
open Go.RowKit

theorem PA.junk {w : World} {g : Nat} {e : TypeId} {n : Nat} {cs : List Value} (h : PA w g e n cs) {i : Nat} (hi : cs.length ≤ i) (x : Value) : PA (w.setCell ⟨g, i, none⟩ x) g e n cs := by
  obtain ⟨cur, hh, hs, r⟩ := h
  refine ⟨_, heap_setCell_same _ _ _ _ _ _ hh, by simpa using hs, fun j u hj => ?_⟩
  have := (List.getElem?_eq_some_iff.1 hj).1
  rw [Array.getElem?_setIfInBounds, if_neg (by omega)]
  exact r j u hj
theorem t3s_app (a b : List T3) : t3s (a ++ b) = t3s a ++ t3s b := by simp [t3s]
theorem fill3 {w : World} {g : Nat} {e : TypeId} {n : Nat} {A : List T3} {k : Nat} {a b c : Value} (h : PA w g e n (t3s (A.take k))) (hn : A.length * 3 = n) (hu : A[k]? = some (a, b, c)) :
    PA (((w.setCell ⟨g, k * 3, none⟩ a).setCell ⟨g, k * 3 + 1, none⟩ b).setCell ⟨g, k * 3 + 1 + 1, none⟩ c) g e n (t3s (A.take (k + 1))) := by
  obtain ⟨hk, hu⟩ := List.getElem?_eq_some_iff.1 hu
  rw [take_snoc' A k hk, hu, t3s_app]
  have hl : (t3s (A.take k)).length = k * 3 := by rw [t3s_len]; simp; omega
  have := ((h.put (k := k * 3) hl.symm (by omega) a).put (k := k * 3 + 1) (by simp [hl]) (by omega) b).put (k := k * 3 + 1 + 1) (by simp [hl]) (by omega) c
  simpa [t3s] using this
theorem junk3 {w : World} {g : Nat} {e : TypeId} {n : Nat} {A : List T3} {k : Nat} (h : PA w g e n (t3s (A.take k))) (a b c : Value) :
    PA (((w.setCell ⟨g, k * 3, none⟩ a).setCell ⟨g, k * 3 + 1, none⟩ b).setCell ⟨g, k * 3 + 1 + 1, none⟩ c) g e n (t3s (A.take k)) := by
  have hl : (t3s (A.take k)).length ≤ k * 3 := by rw [t3s_len]; simp; omega
  exact ((h.junk hl a).junk (by omega) b).junk (by omega) c
def mKey : T3 := (.int .i64 (-77), .bool false, .bool false)
def allK (l : List K) : List T3 := l.map K.t ++ List.replicate 8 mKey
def FullK (w : World) (F : List Nat) (r : Value) (l : List K) : Prop := Full w F 35 3 r (t3s (allK l)) l.length
theorem FullK.in {w : World} {F : List Nat} {r : Value} {l : List K} (h : FullK w F r l) : KeysIn w F r l := Full.lies h (by rw [t3s_len]; simp) (by unfold allK; rw [t3s_app]; exact pre_get)
theorem allK_len (l : List K) : (allK l).length = l.length + 8 := by simp [allK]
theorem allK_val {l : List K} {k : Nat} (h : k < l.length) : (allK l)[k]? = some (.int .i64 l[k].c, .bool l[k].d, .bool l[k].l) := pre_get k _ (by simp [h, K.t])
theorem allK_mark {l : List K} {k : Nat} (h : l.length ≤ k) (h2 : k < l.length + 8) : (allK l)[k]? = some (.int .i64 (-77), .bool false, .bool false) := by
  unfold allK
  rw [List.getElem?_append_right (by simpa using h), List.getElem?_replicate, if_pos (by simp; omega)]
  rfl
theorem below3 {B : Nat} {a w : World} (h : Below B a w) {g : Nat} (hg : B ≤ g) (i j k : Nat) (x y z : Value) : Below B a (((w.setCell ⟨g, i, none⟩ x).setCell ⟨g, j, none⟩ y).setCell ⟨g, k, none⟩ z) := ((h.setCell hg _).setCell hg _).setCell hg _

set_option maxRecDepth 20000 in
set_option maxHeartbeats 8000000 in
theorem key_any (w : World) (bx : Nat) (V : Nat → Value) (X : Nat → List Value) (hL : Lent w bx V X) (v : Value) (l : List K) (hv : KeysIn w (LF bx V) v l) (hl : l.length ≤ 1048576) (hX : (X 3).length ≤ 100000000) :
    Calls Try.prog 43 #[.pointer (some ⟨bx, 0, none⟩), v] w (LendPost w bx V X 3 fun w' F r => FullK w' F r l) := by
  obtain ⟨i0, hi0, hz0, hz1, hz2⟩ := info_parts info35
  have HI0 : Hid (Try.prog.info? 35 = some i0 ∧ i0.zero = some (.agg #[.int .i64 0, .bool false, .bool false]) ∧ i0.size = 3 ∧ i0.bytes = 16) := ⟨hi0, hz0, hz1, hz2⟩
  clear hi0 hz0 hz1 hz2
  obtain ⟨ao, cap, rfl, hc, hm, g1⟩ := hv.open
  clear g1
  have HV : Hid (KeysIn w (LF bx V) (.slice ao l.length cap) l) := hv
  have HL : Hid (Lent w bx V X) := hL
  have hbx := hL.1.lt
  clear hv hL
  go_enter Try.func43, Try.ntmps43
  go_wp2_with (at_make; refine wpList_make_full _ rfl (.tmp 9) (.tmp 9) 36 rfl w.heap.size 35 i0 (.agg #[.int .i64 0, .bool false, .bool false]) 3 Try.underlying36 HI0.out.1 HI0.out.2.1 HI0.out.2.2.1 .i64 .i64 _ _ (l.length + 8) rfl rfl (by omega) (by omega) (by rw [HI0.out.2.2.2]; omega) (by unfold maxLen; omega) (Nat.le_refl _) ?_; intro w1 ho1 hg1; have hp1 := (PA.made ho1 rfl).nil; have hB1 := (Below.refl w.heap.size w).grown hg1 (Nat.le_refl _) (fun k hk => by simp at hk); clear ho1 hg1)
  have HP1 : Hid (PA w1 w.heap.size 35 ((l.length + 8) * 3) []) := hp1
  clear hp1
  go_loopw [6] (fun j wr => ∃ k : Nat, k ≤ l.length + 8 ∧ j = .int .i64 k ∧ PA wr w.heap.size 35 ((l.length + 8) * 3) (t3s ((allK l).take k)) ∧ Below w.heap.size w wr) (fun j _ => l.length + 8 - (intOf j).toNat)
  case atStart => exact ⟨0, by omega, rfl, HP1.out, hB1⟩
  case round =>
    obtain ⟨k, hk, rfl, hP, hB⟩ := hrel
    clear HP1 hB1 w1
    have hsz := hB.size
    by_cases hlt : k < l.length + 8
    · obtain ⟨⟨p0, q0⟩, f0⟩ := hP.place (k * 3) (by omega)
      obtain ⟨⟨p1, q1⟩, f1⟩ := hP.place (k * 3 + 1) (by omega)
      obtain ⟨⟨p2, q2⟩, f2⟩ := hP.place (k * 3 + 1 + 1) (by omega)
      by_cases hln : k < l.length
      · obtain ⟨b, off, hao, hcell⟩ := HV.out.cells (by omega)
        subst hao
        obtain ⟨x0, x1, x2⟩ := hcell k hln
        have hbw : b < w.heap.size := World.block_lt_of_cell? w _ x0
        have c0 := (hB.cell (p := ⟨b, off + k * 3, none⟩) hbw).trans x0
        have c1 := (hB.cell (p := ⟨b, off + k * 3 + 1, none⟩) hbw).trans x1
        have c2 := (hB.cell (p := ⟨b, off + k * 3 + 1 + 1, none⟩) hbw).trans x2
        have hne : b ≠ w.heap.size := by omega
        have HA : Hid ((allK l)[k]? = some (.int .i64 l[k].c, .bool l[k].d, .bool l[k].l)) := allK_val hln
        have HP : Hid (PA wr w.heap.size 35 ((l.length + 8) * 3) (t3s ((allK l).take k))) := hP
        generalize l[k].c = y0 at *
        generalize l[k].d = y1 at *
        generalize l[k].l = y2 at *
        have HX0 : Hid (w.cell? ⟨b, off + k * 3, none⟩ = some (.int .i64 y0) ∧ w.cell? ⟨b, off + k * 3 + 1, none⟩ = some (.bool y1) ∧ w.cell? ⟨b, off + k * 3 + 1 + 1, none⟩ = some (.bool y2)) := ⟨x0, x1, x2⟩
        clear hcell hP x0 x1 x2
        go_wp2_with fail
        refine wp_at (fun W => PA W w.heap.size 35 ((l.length + 8) * 3) (t3s ((allK l).take k)) ∧ Below w.heap.size w W) ⟨junk3 HP.out _ _ _, below3 hB (Nat.le_refl _) _ _ _ _ _ _⟩ ?_
        rintro W ⟨hPW, hBW⟩
        clear c0 c1 c2
        have c0 := (hBW.cell (p := ⟨b, off + k * 3, none⟩) hbw).trans HX0.out.1
        have c1 := (hBW.cell (p := ⟨b, off + k * 3 + 1, none⟩) hbw).trans HX0.out.2.1
        have c2 := (hBW.cell (p := ⟨b, off + k * 3 + 1 + 1, none⟩) hbw).trans HX0.out.2.2
        clear p0 q0 p1 q1 p2 q2 f0 f1 f2
        obtain ⟨⟨p0, q0⟩, f0⟩ := hPW.place (k * 3) (by omega)
        obtain ⟨⟨p1, q1⟩, f1⟩ := hPW.place (k * 3 + 1) (by omega)
        obtain ⟨⟨p2, q2⟩, f2⟩ := hPW.place (k * 3 + 1 + 1) (by omega)
        have HP3 : Hid (PA (((W.setCell ⟨w.heap.size, k * 3, none⟩ (.int .i64 y0)).setCell ⟨w.heap.size, k * 3 + 1, none⟩ (.bool y1)).setCell ⟨w.heap.size, k * 3 + 1 + 1, none⟩ (.bool y2)) w.heap.size 35 ((l.length + 8) * 3) (t3s ((allK l).take (k + 1)))) := fill3 hPW (by rw [allK_len]) HA.out
        clear hPW HP
        go_region
        all_goals
          go_wp2
          go_roundw
          case rel => exact ⟨k + 1, by omega, by go_num, HP3.out, (below3 hBW (Nat.le_refl _) _ _ _ _ _ _).drew⟩
          case measure => simp [intOf]; omega
      · have HP3 : Hid (PA (((wr.setCell ⟨w.heap.size, k * 3, none⟩ (.int .i64 (-77))).setCell ⟨w.heap.size, k * 3 + 1, none⟩ (.bool false)).setCell ⟨w.heap.size, k * 3 + 1 + 1, none⟩ (.bool false)) w.heap.size 35 ((l.length + 8) * 3) (t3s ((allK l).take (k + 1)))) := fill3 hP (by rw [allK_len]) (allK_mark (by omega) hlt)
        clear hP
        go_wp2
        go_roundw
        case rel => exact ⟨k + 1, by omega, by go_num, HP3.out, below3 hB (Nat.le_refl _) _ _ _ _ _ _⟩
        case measure => simp [intOf]; omega
    · rw [List.take_of_length_le (by rw [allK_len]; omega)] at hP
      have HL2 : Hid (Lent wr bx V X) := HL.out.b hB
      have x2 := HL2.out.1.cell (cells5_get V 3 (by omega))
      have hfz := (HL2.out.1.place 3 (by omega)).2
      have HP : Hid (PA wr w.heap.size 35 ((l.length + 8) * 3) (t3s (allK l))) := hP
      clear hP
      have HX : Hid ((X 3).length ≤ 1000000000) := by show _ ≤ _; omega
      have hle8 : (l.length : Int) ≤ (l.length : Int) + 8 := by omega
      have hbxw : bx < wr.heap.size := by omega
      go_wp2_with fail
      go_region_law (refine step_slrow rfl (.tmp 48) (.tmp 53) 87 3 Try.underlying87 rfl (V 3) (X 3) (by simp [Act.eval]) (by exact World.ownsRow.alloc (HL2.out.2.1 3 (by omega)) _) ⟨wr.heap.size, 0, none⟩ (.slice (some ⟨w.heap.size, 0, none⟩) l.length (l.length + 8)) 1 (by simp [Act.eval]) (by exact cell_one_new wr _ _) rfl HX.out ?_; intro g cp w4 hS4 hG4 hat4 hlt4; have hTW := ((Touch.refl [] wr).alloc (.cells #[.slice (some ⟨w.heap.size, 0, none⟩) l.length (l.length + 8)] 36)).drew; obtain ⟨hT4, hp4⟩ := HL2.out.after (by omega) hTW hG4; have y2 := hp4.cell (cells5_get V 3 (by omega)); have fz4 := (hp4.place 3 (by omega)).2; have HP4 : Hid _ := hp4; clear hp4 hTW)
      all_goals
        go_wp2
        go_ret
        obtain ⟨hLL, hST⟩ := HL2.out.push (f := 3) (by omega) hS4 hT4 (hat4.imp id (fun e => by rw [e]; show _ ≤ (wr.alloc _).heap.size; simp))
        refine ⟨_, _, rfl, ?_, hLL, (stepB hB).trans hST⟩
        exact Full.step (F := LF bx V) ⟨w.heap.size, rfl, fun hm => by have := HL.out.lt hm; omega, HP.out, by unfold maxLen; omega⟩ hST
end Go.Proofs.Ytjoinhljdbljaaa

namespace Go.Proofs.Ytjoinhljdbljaaa
open Go.RowKit

theorem info137 : (Try.prog.info? 137).map (fun i => (i.zero, i.size, i.bytes)) = some (some (.agg #[.int .i64 0, .int .i64 0]), 2, 16) := by kernel_rfl
theorem sums2_app (a b : List VS) : sums2 (a ++ b) = sums2 a ++ sums2 b := by simp [sums2]
theorem sums2_len (l : List VS) : (sums2 l).length = l.length * 2 := by
  induction l with
  | nil => rfl
  | cons t l ih => simp only [sums2, List.flatMap_cons, List.length_append, List.length_cons, List.length_nil] at *; omega
theorem fill2 {w : World} {g : Nat} {e : TypeId} {n : Nat} {A : List VS} {k : Nat} {a b : Int} (h : PA w g e n (sums2 (A.take k))) (hn : A.length * 2 = n) (hu : A[k]? = some ⟨a, b⟩) :
    PA ((w.setCell ⟨g, k * 2, none⟩ (.int .i64 a)).setCell ⟨g, k * 2 + 1, none⟩ (.int .i64 b)) g e n (sums2 (A.take (k + 1))) := by
  obtain ⟨hk, hu⟩ := List.getElem?_eq_some_iff.1 hu
  rw [take_snoc' A k hk, hu, sums2_app]
  have hl : (sums2 (A.take k)).length = k * 2 := by rw [sums2_len]; simp; omega
  have := (h.put (k := k * 2) hl.symm (by omega) (.int .i64 a)).put (k := k * 2 + 1) (by simp [hl]) (by omega) (.int .i64 b)
  simpa [sums2] using this
theorem junk2 {w : World} {g : Nat} {e : TypeId} {n : Nat} {A : List VS} {k : Nat} (h : PA w g e n (sums2 (A.take k))) (a b : Value) :
    PA ((w.setCell ⟨g, k * 2, none⟩ a).setCell ⟨g, k * 2 + 1, none⟩ b) g e n (sums2 (A.take k)) := by
  have hl : (sums2 (A.take k)).length ≤ k * 2 := by rw [sums2_len]; simp; omega
  exact (h.junk hl a).junk (by omega) b
def allS (l : List VS) : List VS := l ++ List.replicate 8 ⟨-77, 0⟩
def FullS (w : World) (F : List Nat) (r : Value) (l : List VS) : Prop := Full w F 137 2 r (sums2 (allS l)) l.length
theorem FullS.in {w : World} {F : List Nat} {r : Value} {l : List VS} (h : FullS w F r l) : SumsIn w F r l := Full.lies h (by rw [sums2_len]) (by unfold allS; rw [sums2_app]; exact pre_get)
theorem allS_len (l : List VS) : (allS l).length = l.length + 8 := by simp [allS]
theorem allS_val {l : List VS} {k : Nat} (h : k < l.length) : (allS l)[k]? = some l[k] := pre_get k _ (by simp [h])
theorem allS_mark {l : List VS} {k : Nat} (h : l.length ≤ k) (h2 : k < l.length + 8) : (allS l)[k]? = some ⟨-77, 0⟩ := by
  unfold allS
  rw [List.getElem?_append_right h, List.getElem?_replicate, if_pos (by omega)]
theorem below2 {B : Nat} {a w : World} (h : Below B a w) {g : Nat} (hg : B ≤ g) (i j : Nat) (x y : Value) : Below B a ((w.setCell ⟨g, i, none⟩ x).setCell ⟨g, j, none⟩ y) := (h.setCell hg _).setCell hg _

set_option maxRecDepth 20000 in
set_option maxHeartbeats 8000000 in
theorem sum_any (w : World) (bx : Nat) (V : Nat → Value) (X : Nat → List Value) (hL : Lent w bx V X) (v : Value) (l : List VS) (hv : SumsIn w (LF bx V) v l) (hl : l.length ≤ 1048576) (hX : (X 4).length ≤ 100000000) :
    Calls Try.prog 44 #[.pointer (some ⟨bx, 0, none⟩), v] w (LendPost w bx V X 4 fun w' F r => FullS w' F r l) := by
  obtain ⟨i0, hi0, hz0, hz1, hz2⟩ := info_parts info137
  have HI0 : Hid (Try.prog.info? 137 = some i0 ∧ i0.zero = some (.agg #[.int .i64 0, .int .i64 0]) ∧ i0.size = 2 ∧ i0.bytes = 16) := ⟨hi0, hz0, hz1, hz2⟩
  clear hi0 hz0 hz1 hz2
  obtain ⟨ao, cap, rfl, hc, hm, g1⟩ := hv.open
  clear g1
  have HV : Hid (SumsIn w (LF bx V) (.slice ao l.length cap) l) := hv
  have HL : Hid (Lent w bx V X) := hL
  have hbx := hL.1.lt
  clear hv hL
  go_enter Try.func44, Try.ntmps44
  go_wp2_with (at_make; refine wpList_make_full _ rfl (.tmp 9) (.tmp 9) 100 rfl w.heap.size 137 i0 (.agg #[.int .i64 0, .int .i64 0]) 2 Try.underlying100 HI0.out.1 HI0.out.2.1 HI0.out.2.2.1 .i64 .i64 _ _ (l.length + 8) rfl rfl (by omega) (by omega) (by rw [HI0.out.2.2.2]; omega) (by unfold maxLen; omega) (Nat.le_refl _) ?_; intro w1 ho1 hg1; have hp1 := (PA.made ho1 rfl).nil; have hB1 := (Below.refl w.heap.size w).grown hg1 (Nat.le_refl _) (fun k hk => by simp at hk); clear ho1 hg1)
  have HP1 : Hid (PA w1 w.heap.size 137 ((l.length + 8) * 2) []) := hp1
  clear hp1
  go_loopw [6] (fun j wr => ∃ k : Nat, k ≤ l.length + 8 ∧ j = .int .i64 k ∧ PA wr w.heap.size 137 ((l.length + 8) * 2) (sums2 ((allS l).take k)) ∧ Below w.heap.size w wr) (fun j _ => l.length + 8 - (intOf j).toNat)
  case atStart => exact ⟨0, by omega, rfl, HP1.out, hB1⟩
  case round =>
    obtain ⟨k, hk, rfl, hP, hB⟩ := hrel
    clear HP1 hB1 w1
    have hsz := hB.size
    by_cases hlt : k < l.length + 8
    · obtain ⟨⟨p0, q0⟩, f0⟩ := hP.place (k * 2) (by omega)
      obtain ⟨⟨p1, q1⟩, f1⟩ := hP.place (k * 2 + 1) (by omega)
      by_cases hln : k < l.length
      · obtain ⟨b, off, hao, hcell⟩ := HV.out.cells (by omega)
        subst hao
        obtain ⟨x0, x1⟩ := hcell k hln
        have hbw : b < w.heap.size := World.block_lt_of_cell? w _ x0
        have c0 := (hB.cell (p := ⟨b, off + k * 2, none⟩) hbw).trans x0
        have c1 := (hB.cell (p := ⟨b, off + k * 2 + 1, none⟩) hbw).trans x1
        have hne : b ≠ w.heap.size := by omega
        have HA : Hid ((allS l)[k]? = some l[k]) := allS_val hln
        have HP : Hid (PA wr w.heap.size 137 ((l.length + 8) * 2) (sums2 ((allS l).take k))) := hP
        generalize l[k] = y at *
        obtain ⟨y0, y1⟩ := y
        simp only at c0 c1 x0 x1
        have HX0 : Hid (w.cell? ⟨b, off + k * 2, none⟩ = some (.int .i64 y0) ∧ w.cell? ⟨b, off + k * 2 + 1, none⟩ = some (.int .i64 y1)) := ⟨x0, x1⟩
        clear hcell hP x0 x1
        go_wp2_with fail
        refine wp_at (fun W => PA W w.heap.size 137 ((l.length + 8) * 2) (sums2 ((allS l).take k)) ∧ Below w.heap.size w W) ⟨junk2 HP.out _ _, below2 hB (Nat.le_refl _) _ _ _ _⟩ ?_
        rintro W ⟨hPW, hBW⟩
        clear c0 c1
        have c0 := (hBW.cell (p := ⟨b, off + k * 2, none⟩) hbw).trans HX0.out.1
        have c1 := (hBW.cell (p := ⟨b, off + k * 2 + 1, none⟩) hbw).trans HX0.out.2
        clear p0 q0 p1 q1 f0 f1
        obtain ⟨⟨p0, q0⟩, f0⟩ := hPW.place (k * 2) (by omega)
        obtain ⟨⟨p1, q1⟩, f1⟩ := hPW.place (k * 2 + 1) (by omega)
        have HP3 : Hid (PA ((W.setCell ⟨w.heap.size, k * 2, none⟩ (.int .i64 y0)).setCell ⟨w.heap.size, k * 2 + 1, none⟩ (.int .i64 y1)) w.heap.size 137 ((l.length + 8) * 2) (sums2 ((allS l).take (k + 1)))) := fill2 hPW (by rw [allS_len]) HA.out
        clear hPW HP
        go_region
        all_goals
          go_wp2
          go_roundw
          case rel => exact ⟨k + 1, by omega, by go_num, HP3.out, (below2 hBW (Nat.le_refl _) _ _ _ _).drew⟩
          case measure => simp [intOf]; omega
      · have HP3 : Hid (PA ((wr.setCell ⟨w.heap.size, k * 2, none⟩ (.int .i64 (-77))).setCell ⟨w.heap.size, k * 2 + 1, none⟩ (.int .i64 0)) w.heap.size 137 ((l.length + 8) * 2) (sums2 ((allS l).take (k + 1)))) := fill2 hP (by rw [allS_len]) (allS_mark (by omega) hlt)
        clear hP
        go_wp2
        go_roundw
        case rel => exact ⟨k + 1, by omega, by go_num, HP3.out, below2 hB (Nat.le_refl _) _ _ _ _⟩
        case measure => simp [intOf]; omega
    · rw [List.take_of_length_le (by rw [allS_len]; omega)] at hP
      have HL2 : Hid (Lent wr bx V X) := HL.out.b hB
      have x2 := HL2.out.1.cell (cells5_get V 4 (by omega))
      have hfz := (HL2.out.1.place 4 (by omega)).2
      have HP : Hid (PA wr w.heap.size 137 ((l.length + 8) * 2) (sums2 (allS l))) := hP
      clear hP
      have HX : Hid ((X 4).length ≤ 1000000000) := by show _ ≤ _; omega
      have hle8 : (l.length : Int) ≤ (l.length : Int) + 8 := by omega
      have hbxw : bx < wr.heap.size := by omega
      go_wp2_with fail
      go_region_law (refine step_slrow rfl (.tmp 43) (.tmp 48) 88 4 Try.underlying88 rfl (V 4) (X 4) (by simp [Act.eval]) (by exact World.ownsRow.alloc (HL2.out.2.1 4 (by omega)) _) ⟨wr.heap.size, 0, none⟩ (.slice (some ⟨w.heap.size, 0, none⟩) l.length (l.length + 8)) 1 (by simp [Act.eval]) (by exact cell_one_new wr _ _) rfl HX.out ?_; intro g cp w4 hS4 hG4 hat4 hlt4; have hTW := ((Touch.refl [] wr).alloc (.cells #[.slice (some ⟨w.heap.size, 0, none⟩) l.length (l.length + 8)] 100)).drew; obtain ⟨hT4, hp4⟩ := HL2.out.after (by omega) hTW hG4; have y2 := hp4.cell (cells5_get V 4 (by omega)); have fz4 := (hp4.place 4 (by omega)).2; have HP4 : Hid _ := hp4; clear hp4 hTW)
      all_goals
        go_wp2
        go_ret
        obtain ⟨hLL, hST⟩ := HL2.out.push (f := 4) (by omega) hS4 hT4 (hat4.imp id (fun e => by rw [e]; show _ ≤ (wr.alloc _).heap.size; simp))
        refine ⟨_, _, rfl, ?_, hLL, (stepB hB).trans hST⟩
        exact Full.step (F := LF bx V) ⟨w.heap.size, rfl, fun hm => by have := HL.out.lt hm; omega, HP.out, by unfold maxLen; omega⟩ hST
end Go.Proofs.Ytjoinhljdbljaaa

namespace Go.Proofs.Ytjoinhljdbljaaa
open Go.RowKit

def mkT (k : Nat) : T3 := (.int .i64 9, .int .i64 (k : Int), .string callers)
def allR (l : List V) : List T3 := l.map V.t ++ (List.range 8).map fun i => mkT (l.length + i)
def FullR (w : World) (F : List Nat) (r : Value) (l : List V) : Prop := Full w F 31 3 r (t3s (allR l)) l.length
theorem FullR.in {w : World} {F : List Nat} {r : Value} {l : List V} (h : FullR w F r l) : ValsIn w F r l := Full.lies h (by rw [t3s_len]; simp) (by unfold allR; rw [t3s_app]; exact pre_get)
theorem allR_len (l : List V) : (allR l).length = l.length + 8 := by simp [allR]
theorem allR_val {l : List V} {k : Nat} (h : k < l.length) : (allR l)[k]? = some (.int .i64 l[k].k, .int .i64 l[k].n, .string l[k].s) := pre_get k _ (by simp [h, V.t])
theorem allR_mark {l : List V} {k : Nat} (h : l.length ≤ k) (h2 : k < l.length + 8) : (allR l)[k]? = some (.int .i64 9, .int .i64 (k : Int), .string callers) := by
  unfold allR
  rw [List.getElem?_append_right (by simpa using h), List.getElem?_map, List.getElem?_range (by simp; omega)]
  simp [mkT]; omega

set_option maxRecDepth 20000 in
set_option maxHeartbeats 8000000 in
theorem row_any (w : World) (bx : Nat) (Vf : Nat → Value) (X : Nat → List Value) (hL : Lent w bx Vf X) (v : Value) (l : List V) (hv : ValsIn w (LF bx Vf) v l) (hl : l.length ≤ 1048576) (hX : (X 0).length ≤ 100000000) :
    Calls Try.prog 41 #[.pointer (some ⟨bx, 0, none⟩), v] w (LendPost w bx Vf X 0 fun w' F r => FullR w' F r l) := by
  obtain ⟨i0, hi0, hz0, hz1, hz2⟩ := info_parts info31
  have HI0 : Hid (Try.prog.info? 31 = some i0 ∧ i0.zero = some (.agg #[.int .i64 0, .int .i64 0, .string ⟨#[]⟩]) ∧ i0.size = 3 ∧ i0.bytes = 32) := ⟨hi0, hz0, hz1, hz2⟩
  clear hi0 hz0 hz1 hz2
  obtain ⟨ao, cap, rfl, hc, hm, g1⟩ := hv.open
  clear g1
  have HV : Hid (ValsIn w (LF bx Vf) (.slice ao l.length cap) l) := hv
  have HL : Hid (Lent w bx Vf X) := hL
  have hbx := hL.1.lt
  clear hv hL
  have HMK : Hid (∀ (n : Int) w, Calls Try.prog 40 #[.int .i64 n] w fun e w' => e = .returned (.agg #[.int .i64 9, .int .i64 n, .string callers]) ∧ Below w.heap.size w w') := mark_any
  have HVL : Hid (∀ (v : V) w, Calls Try.prog 62 #[.agg #[.int .i64 v.k, .int .i64 v.n, .string v.s]] w fun e w' => e = .returned (.agg #[.int .i64 v.k, .int .i64 v.n, .string v.s]) ∧ Below w.heap.size w w') := value_any
  go_enter Try.func41, Try.ntmps41
  go_wp2_with (at_make; refine wpList_make_full _ rfl (.tmp 9) (.tmp 9) 33 rfl w.heap.size 31 i0 (.agg #[.int .i64 0, .int .i64 0, .string ⟨#[]⟩]) 3 Try.underlying33 HI0.out.1 HI0.out.2.1 HI0.out.2.2.1 .i64 .i64 _ _ (l.length + 8) rfl rfl (by omega) (by omega) (by rw [HI0.out.2.2.2]; omega) (by unfold maxLen; omega) (Nat.le_refl _) ?_; intro w1 ho1 hg1; have hp1 := (PA.made ho1 rfl).nil; have hB1 := (Below.refl w.heap.size w).grown hg1 (Nat.le_refl _) (fun k hk => by simp at hk); clear ho1 hg1)
  have HP1 : Hid (PA w1 w.heap.size 31 ((l.length + 8) * 3) []) := hp1
  clear hp1
  go_loopw [6] (fun j wr => ∃ k : Nat, k ≤ l.length + 8 ∧ j = .int .i64 k ∧ PA wr w.heap.size 31 ((l.length + 8) * 3) (t3s ((allR l).take k)) ∧ Below w.heap.size w wr) (fun j _ => l.length + 8 - (intOf j).toNat)
  case atStart => exact ⟨0, by omega, rfl, HP1.out, hB1⟩
  case round =>
    obtain ⟨k, hk, rfl, hP, hB⟩ := hrel
    clear HP1 hB1 w1
    have hsz := hB.size
    by_cases hlt : k < l.length + 8
    · obtain ⟨⟨p0, q0⟩, f0⟩ := hP.place (k * 3) (by omega)
      obtain ⟨⟨p1, q1⟩, f1⟩ := hP.place (k * 3 + 1) (by omega)
      obtain ⟨⟨p2, q2⟩, f2⟩ := hP.place (k * 3 + 1 + 1) (by omega)
      clear p0 q0 p1 q1 p2 q2 f0 f1 f2
      have HP : Hid (PA wr w.heap.size 31 ((l.length + 8) * 3) (t3s ((allR l).take k))) := hP
      clear hP
      by_cases hln : k < l.length
      · obtain ⟨b, off, hao, hcell⟩ := HV.out.cells (by omega)
        subst hao
        obtain ⟨x0, x1, x2⟩ := hcell k hln
        have hbw : b < w.heap.size := World.block_lt_of_cell? w _ x0
        have HA : Hid ((allR l)[k]? = some (.int .i64 l[k].k, .int .i64 l[k].n, .string l[k].s)) := allR_val hln
        have HX0 : Hid (w.cell? ⟨b, off + k * 3, none⟩ = some (.int .i64 l[k].k) ∧ w.cell? ⟨b, off + k * 3 + 1, none⟩ = some (.int .i64 l[k].n) ∧ w.cell? ⟨b, off + k * 3 + 1 + 1, none⟩ = some (.string l[k].s)) := ⟨x0, x1, x2⟩
        generalize l[k] = y at *
        obtain ⟨y0, y1, y2⟩ := y
        simp only at HX0 HA
        clear hcell x0 x1 x2
        go_wp2_with fail
        refine (HMK.out _ _).mono ?_
        rintro e w5 ⟨rfl, hB5⟩
        have hB6 := bthen hB hB5
        have hP6 := HP.out.b hB5
        obtain ⟨⟨p0, q0⟩, f0⟩ := hP6.place (k * 3) (by omega)
        obtain ⟨⟨p1, q1⟩, f1⟩ := hP6.place (k * 3 + 1) (by omega)
        obtain ⟨⟨p2, q2⟩, f2⟩ := hP6.place (k * 3 + 1 + 1) (by omega)
        have HP6 : Hid (PA w5 w.heap.size 31 ((l.length + 8) * 3) (t3s ((allR l).take k))) := hP6
        have c0 := (hB6.cell (p := ⟨b, off + k * 3, none⟩) hbw).trans HX0.out.1
        have c1 := (hB6.cell (p := ⟨b, off + k * 3 + 1, none⟩) hbw).trans HX0.out.2.1
        have c2 := (hB6.cell (p := ⟨b, off + k * 3 + 1 + 1, none⟩) hbw).trans HX0.out.2.2
        have hne : b ≠ w.heap.size := by omega
        clear hB5 hP6
        go_wp2_with fail
        refine calls_at (fun W => PA W w.heap.size 31 ((l.length + 8) * 3) (t3s ((allR l).take k)) ∧ Below w.heap.size w W) ⟨junk3 HP6.out _ _ _, below3 hB6 (Nat.le_refl _) _ _ _ _ _ _⟩ ?_
        rintro W ⟨hPW, hBW⟩
        refine (HVL.out ⟨y0, y1, y2⟩ W).mono ?_
        rintro e w7 ⟨rfl, hB7⟩
        have hP8 := hPW.b hB7
        have hB8 := bthen hBW hB7
        clear p0 q0 p1 q1 p2 q2 f0 f1 f2 c0 c1 c2
        obtain ⟨⟨p0, q0⟩, f0⟩ := hP8.place (k * 3) (by omega)
        obtain ⟨⟨p1, q1⟩, f1⟩ := hP8.place (k * 3 + 1) (by omega)
        obtain ⟨⟨p2, q2⟩, f2⟩ := hP8.place (k * 3 + 1 + 1) (by omega)
        have HP3 : Hid (PA (((w7.setCell ⟨w.heap.size, k * 3, none⟩ (.int .i64 y0)).setCell ⟨w.heap.size, k * 3 + 1, none⟩ (.int .i64 y1)).setCell ⟨w.heap.size, k * 3 + 1 + 1, none⟩ (.string y2)) w.heap.size 31 ((l.length + 8) * 3) (t3s ((allR l).take (k + 1)))) := fill3 hP8 (by rw [allR_len]) HA.out
        clear hPW HP6 hP8 hB7 hBW
        go_wp2
        go_roundw
        case rel => exact ⟨k + 1, by omega, by go_num, HP3.out, below3 hB8 (Nat.le_refl _) _ _ _ _ _ _⟩
        case measure => simp [intOf]; omega
      · have HA : Hid ((allR l)[k]? = some (.int .i64 9, .int .i64 (k : Int), .string callers)) := allR_mark (by omega) hlt
        go_wp2_with fail
        refine (HMK.out _ _).mono ?_
        rintro e w5 ⟨rfl, hB5⟩
        have hB6 := bthen hB hB5
        have hP6 := HP.out.b hB5
        obtain ⟨⟨p0, q0⟩, f0⟩ := hP6.place (k * 3) (by omega)
        obtain ⟨⟨p1, q1⟩, f1⟩ := hP6.place (k * 3 + 1) (by omega)
        obtain ⟨⟨p2, q2⟩, f2⟩ := hP6.place (k * 3 + 1 + 1) (by omega)
        have HP3 : Hid (PA (((w5.setCell ⟨w.heap.size, k * 3, none⟩ (.int .i64 9)).setCell ⟨w.heap.size, k * 3 + 1, none⟩ (.int .i64 (k : Int))).setCell ⟨w.heap.size, k * 3 + 1 + 1, none⟩ (.string callers)) w.heap.size 31 ((l.length + 8) * 3) (t3s ((allR l).take (k + 1)))) := fill3 hP6 (by rw [allR_len]) HA.out
        clear hB5 hP6
        go_wp2
        go_roundw
        case rel => exact ⟨k + 1, by omega, by go_num, HP3.out, below3 hB6 (Nat.le_refl _) _ _ _ _ _ _⟩
        case measure => simp [intOf]; omega
    · rw [List.take_of_length_le (by rw [allR_len]; omega)] at hP
      have HL2 : Hid (Lent wr bx Vf X) := HL.out.b hB
      have x2 := HL2.out.1.cell (cells5_get Vf 0 (by omega))
      have hfz := (HL2.out.1.place 0 (by omega)).2
      have HP : Hid (PA wr w.heap.size 31 ((l.length + 8) * 3) (t3s (allR l))) := hP
      clear hP
      have HX : Hid ((X 0).length ≤ 1000000000) := by show _ ≤ _; omega
      have hle8 : (l.length : Int) ≤ (l.length : Int) + 8 := by omega
      have hbxw : bx < wr.heap.size := by omega
      go_wp2_with fail
      go_region_law (refine step_slrow rfl (.tmp 38) (.tmp 43) 84 0 Try.underlying84 rfl (Vf 0) (X 0) (by simp [Act.eval]) (by exact World.ownsRow.alloc (HL2.out.2.1 0 (by omega)) _) ⟨wr.heap.size, 0, none⟩ (.slice (some ⟨w.heap.size, 0, none⟩) l.length (l.length + 8)) 1 (by simp [Act.eval]) (by exact cell_one_new wr _ _) rfl HX.out ?_; intro g cp w4 hS4 hG4 hat4 hlt4; have hTW := ((Touch.refl [] wr).alloc (.cells #[.slice (some ⟨w.heap.size, 0, none⟩) l.length (l.length + 8)] 33)).drew; obtain ⟨hT4, hp4⟩ := HL2.out.after (by omega) hTW hG4; have y2 := hp4.cell (cells5_get Vf 0 (by omega)); have fz4 := (hp4.place 0 (by omega)).2; have HP4 : Hid _ := hp4; clear hp4 hTW)
      all_goals
        go_wp2
        go_ret
        obtain ⟨hLL, hST⟩ := HL2.out.push (f := 0) (by omega) hS4 hT4 (hat4.imp id (fun e => by rw [e]; show _ ≤ (wr.alloc _).heap.size; simp))
        refine ⟨_, _, rfl, ?_, hLL, (stepB hB).trans hST⟩
        exact Full.step (F := LF bx Vf) ⟨w.heap.size, rfl, fun hm => by have := HL.out.lt hm; omega, HP.out, by unfold maxLen; omega⟩ hST
end Go.Proofs.Ytjoinhljdbljaaa
