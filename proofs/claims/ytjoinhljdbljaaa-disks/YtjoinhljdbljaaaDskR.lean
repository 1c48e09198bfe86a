/- The walk of Disks: true, whatever script comes in. -/
import Derived.Test.YtjoinhljdbljaaaDskQ
import Derived.Test.YtjoinhljdbljaaaDskP
namespace Go.Proofs.Ytjoinhljdbljaaa
open Go.RowKit
open Go.ChangeMaps (setBlock)

theorem Below.touch0 {n : Nat} {w w' : World} (h : Below n w w') (hn : w.heap.size ≤ n) : Touch [] w w' := ⟨h.os, h.tape, h.output, h.size, fun k hk _ => h.block k (by omega)⟩

theorem Inv.start {w w1 w2 w3 w4 w5 w7 : World} {ox od : Obj} {d0 d1 : DS} {g : Nat} (t1 : Touch [] w w1) (hP0 : PD w1 (w.heap.size + 1) w.heap.size d0 []) (t2 : Touch [] w1 w2) (hP1 : PD w2 (w1.heap.size + 1) w1.heap.size d1 [])
    (t3 : Touch [] (w2.alloc ox) w3) (hR0 : RD w3 (w2.heap.size + 1 + 1) (w2.heap.size + 1) (.slice none 0 0) d0 []) (t4 : Touch [] w3 w4) (hR1 : RD w4 (w3.heap.size + 1) w3.heap.size (.slice none 0 0) d1 [])
    (t5 : Touch [] (w4.alloc od) w5) (t7 : Touch [] w5 w7) (hg : w5.heap.size ≤ g) (hg7 : g < w7.heap.size) (hw0 : Wf 0 d0) (hw1 : Wf 0 d1) :
    Inv w w7 w7 w2.heap.size w4.heap.size g (w.heap.size + 1) (w2.heap.size + 1 + 1) (w1.heap.size + 1) (w3.heap.size + 1) 0 := by
  have l0 := hP0.lt
  have l1 := hP1.lt
  have l2 := hR0.lt
  have l3 := hR1.lt
  simp only [List.mem_cons, rowsOf, List.flatMap_nil, Value.ownBlock, Option.toList_none, List.nil_append, List.not_mem_nil, or_false, forall_eq_or_imp, forall_eq] at l0 l1 l2 l3
  have s1 := t1.size
  have s2 := t2.size
  have s3 := t3.size
  have s4 := t4.size
  have s5 := t5.size
  have s7 := t7.size
  simp only [World.size_alloc] at s3 s5
  have t27 : Touch [] w2 w7 := ((((Touch.refl _ _).alloc ox).trans t3).trans t4).trans ((((Touch.refl _ _).alloc od).trans t5).trans t7)
  have t47 : Touch [] w4 w7 := (((Touch.refl _ _).alloc od).trans t5).trans t7
  refine ⟨⟨_, _, ⟨_, _, _, d0, [], [], hP0.away (t2.trans t27) (by simp), hR0.away (t4.trans t47) (by simp), hw0, rfl, ?_⟩, ⟨_, _, _, d1, [], [], hP1.away t27 (by simp), hR1.away t47 (by simp), hw1, rfl, ?_⟩, ?_, ?_⟩, rfl, rfl, rfl, ⟨by omega, by omega, hg7⟩, ?_⟩
  · intro k hk hk2
    simp only [List.mem_cons, rowsOf, List.flatMap_nil, Value.ownBlock, Option.toList_none, List.nil_append, List.not_mem_nil, or_false] at hk hk2
    omega
  · intro k hk hk2
    simp only [List.mem_cons, rowsOf, List.flatMap_nil, Value.ownBlock, Option.toList_none, List.nil_append, List.not_mem_nil, or_false] at hk hk2
    omega
  · intro k hk hk2
    simp only [List.mem_append, List.mem_cons, rowsOf, List.flatMap_nil, Value.ownBlock, Option.toList_none, List.nil_append, List.not_mem_nil, or_false] at hk hk2
    omega
  · intro k hk
    simp only [List.mem_append, List.mem_cons, rowsOf, List.flatMap_nil, Value.ownBlock, Option.toList_none, List.nil_append, List.not_mem_nil, or_false] at hk
    omega
  · have t : Touch [] w w7 := (t1.trans t2).trans t27
    exact ⟨t.os, t.tape, t.output, t.size, fun k hk => t.block k hk (by simp)⟩

def four : List D6 := [⟨0, 1, 0, 0, 0, ⟨#[]⟩⟩, ⟨0, 2, 1, 0, 0, ⟨#[116]⟩⟩, ⟨0, 3, 1, 0, 0, ⟨#[]⟩⟩, ⟨0, 5, 0, 0, 0, ⟨#[]⟩⟩]

set_option maxRecDepth 20000 in
set_option maxHeartbeats 2000000 in
theorem disks_walk (w : World) (block blocks more many : Int) (sv : Value) (L : List D6) (hL : Lies6 w sv L) (hlen : L.length * 56 ≤ 140737488351232) (hok : ∀ x ∈ L, I64 x.w ∧ x.b ≤ 9223372036854775807 ∧ x.t.size ≤ 140737488355328) :
    Calls Try.prog 3 #[.int .i64 block, .int .i64 blocks, .int .i64 more, .int .i64 many, sv] w fun e w' => e = .returned (.bool true) ∧ Below w.heap.size w w' := by
  have HN : Hid (∀ b n w, Calls Try.prog 6 #[.int .i64 b, .int .i64 n] w fun e w' => e = .returned (.pointer (some ⟨w.heap.size + 1, 0, none⟩)) ∧ PD w' (w.heap.size + 1) w.heap.size (newS b n) [] ∧ Touch [] w w') := pnew
  have HM : Hid (∀ b n w, Calls Try.prog 7 #[.int .i64 b, .int .i64 n] w fun e w' => e = .returned (.pointer (some ⟨w.heap.size + 1, 0, none⟩)) ∧ RD w' (w.heap.size + 1) w.heap.size (.slice none 0 0) (newS b n) [] ∧ Touch [] w w') := rnew
  have HE : Hid _ := encode_two 1 (by unfold I64; omega)
  have hone := ones.1
  go_enter Try.func3, Try.ntmps3
  go_wp2_with fail
  refine (HN.out block blocks w).mono ?_
  rintro e w1 ⟨rfl, hP0, t1⟩
  go_wp2_with fail
  refine (HN.out more many w1).mono ?_
  rintro e w2 ⟨rfl, hP1, t2⟩
  go_wp2_with fail
  refine (HM.out block blocks _).mono ?_
  rintro e w3 ⟨rfl, hR0, t3⟩
  simp only [World.size_alloc] at hR0
  go_wp2_with fail
  refine (HM.out more many _).mono ?_
  rintro e w4 ⟨rfl, hR1, t4⟩
  go_wp2_with fail
  refine (HE.out w4 _).mono ?_
  rintro e w5 ⟨rfl, t5⟩
  replace t5 := Below.touch0 t5 (by simp)
  generalize sOne 1 = row at *
  have T25 : Touch [] (w2.alloc _) w5 := (t3.trans t4).trans (((Touch.refl _ _).alloc _).trans t5)
  have hL5 : Lies6 w5 sv L := hL.touch ((t1.trans t2).trans (((Touch.refl _ _).alloc _).trans T25))
  have cx0 : w5.cell? ⟨w2.heap.size, 0, none⟩ = some (.pointer (some ⟨w.heap.size + 1, 0, none⟩)) := cell_touch (by simp) T25
  have cx1 : w5.cell? ⟨w2.heap.size, 1, none⟩ = some (.pointer (some ⟨w1.heap.size + 1, 0, none⟩)) := cell_touch (by simp) T25
  have cd0 : w5.cell? ⟨w4.heap.size, 0, none⟩ = some (.pointer (some ⟨w2.heap.size + 1 + 1, 0, none⟩)) := cell_touch (by simp) t5
  have cd1 : w5.cell? ⟨w4.heap.size, 1, none⟩ = some (.pointer (some ⟨w3.heap.size + 1, 0, none⟩)) := cell_touch (by simp) t5
  have HST : Hid (∀ w7 g, Touch [] w5 w7 → w5.heap.size ≤ g → g < w7.heap.size → Inv w w7 w7 w2.heap.size w4.heap.size g (w.heap.size + 1) (w2.heap.size + 1 + 1) (w1.heap.size + 1) (w3.heap.size + 1) 0) :=
    fun w7 g t7 hg hg7 => Inv.start t1 hP0 t2 hP1 t3 hR0 t4 hR1 t5 t7 hg hg7 (Wf.new _ _) (Wf.new _ _)
  clear hP0 hP1 hR0 hR1 t1 t2 t3 t4 t5 T25 HN HM HE hL
  generalize w.heap.size + 1 = bx0 at *
  generalize w1.heap.size + 1 = bx1 at *
  generalize w3.heap.size + 1 = bd1 at *
  generalize w2.heap.size + 1 + 1 = bd0 at *
  generalize w2.heap.size = X at *
  generalize w4.heap.size = D at *
  go_wp2_with (at_builtin; refine drow_append rfl (.tmp 54) (.tmp 55) rfl w5.heap.size _ 4 (flat6 four) rfl (World.ownsRow_lit w5 _ 4 (Nat.le_refl _) (by decide) rfl) sv L rfl (hL5.touch ((Touch.refl _ _).alloc _)) (by omega) (by simp) ?_; intro v7 w7 hO7 hB7)
  have t7 : Touch [] w5 w7 := Below.touch0 (((Below.refl _ w5).alloc (Nat.le_refl _) _).trans hB7) (Nat.le_refl _)
  rw [← flat6_app] at hO7
  have hOK : ∀ x ∈ four ++ L, I64 x.w ∧ x.b ≤ 9223372036854775807 ∧ x.t.size ≤ 140737488355328 := by
    intro x hx
    rcases List.mem_append.1 hx with hx | hx
    · simp only [four, List.mem_cons, List.not_mem_nil, or_false] at hx
      rcases hx with rfl | rfl | rfl | rfl <;> refine ⟨by unfold I64; simp, by simp, by decide⟩
    · exact hok x hx
  have hLL : (four ++ L).length = 4 + L.length := by simp [four]; omega
  obtain ⟨g, cap, rfl, hg5, hg7, hcap⟩ : ∃ g cap, v7 = .slice (some ⟨g, 0, none⟩) (4 + L.length) cap ∧ w5.heap.size ≤ g ∧ g < w7.heap.size ∧ 4 + L.length ≤ cap := by
    rcases hO7.2 with ⟨_, h0⟩ | ⟨g, cap, cur, rfl, hb, hgg, hc, _⟩
    · omega
    · exact ⟨g, cap, rfl, hb, (Array.getElem?_eq_some_iff.1 hgg).1, hc⟩
  have HI : Hid _ := HST.out w7 g t7 hg5 hg7
  rw [← hLL] at hO7 hcap ⊢
  generalize four ++ L = LL at *
  have hcells := drow_cells hO7
  have dx0 := cell_touch cx0 t7
  have dx1 := cell_touch cx1 t7
  have dd0 := cell_touch cd0 t7
  have dd1 := cell_touch cd1 t7
  have HC : Hid _ := hcells
  have HOK : Hid _ := hOK
  have hlen2 : LL.length ≤ 2600000000000 := by omega
  clear hcells hOK hok hO7 hB7 HST hL5 cx0 cx1 cd0 cd1 t7 hone hLL hg5 hg7 hlen
  go_loopw [14] (fun j wr => ∃ k : Nat, k ≤ LL.length ∧ j = .int .i64 k ∧ Inv w w7 wr X D g bx0 bd0 bx1 bd1 k) (fun j _ => LL.length - (intOf j).toNat)
  case atStart => exact ⟨0, by omega, rfl, HI.out⟩
  case round =>
    obtain ⟨k, hk, rfl, hI⟩ := hrel
    have eX : ∀ o, wr.cell? ⟨X, o, none⟩ = w7.cell? ⟨X, o, none⟩ := fun o => World.cell?_of_block (w := w7) (a := ⟨X, o, none⟩) hI.hX
    have eD : ∀ o, wr.cell? ⟨D, o, none⟩ = w7.cell? ⟨D, o, none⟩ := fun o => World.cell?_of_block (w := w7) (a := ⟨D, o, none⟩) hI.hD
    have eg : ∀ o, wr.cell? ⟨g, o, none⟩ = w7.cell? ⟨g, o, none⟩ := fun o => World.cell?_of_block (w := w7) (a := ⟨g, o, none⟩) hI.hg
    have x0 := (eX 0).trans dx0
    have x1 := (eX 1).trans dx1
    have y0 := (eD 0).trans dd0
    have y1 := (eD 1).trans dd1
    have HINV : Hid _ := hI
    by_cases hlt : k < LL.length
    · obtain ⟨q0, q1, q2, q3, q4, q5⟩ := HC.out k LL[k] (List.getElem?_eq_getElem hlt)
      obtain ⟨o1, o2, o3⟩ := HOK.out LL[k] (List.getElem_mem _)
      generalize LL[k] = x at *
      rw [← eg] at q0 q1 q2 q3 q4 q5
      obtain ⟨p, hp, hpick⟩ := pick_two x.w o1
      have HPK : Hid _ := hpick
      clear hI eX eD eg hpick dx0 dx1 dd0 dd1
      obtain rfl | rfl : p = 0 ∨ p = 1 := by omega
      · have HPK : Hid (∀ w, Calls Try.prog 9 #[.int .i64 x.w, .int .i64 2] w fun e w' => e = .returned (.int .i64 0) ∧ w' = w) := by simpa [Hid] using HPK.out
        obtain ⟨F0, hduo, hst⟩ := HINV.out.drew.step0
        have HDEED : Hid (Calls Try.prog 10 #[.pointer (some ⟨bx0, 0, none⟩), .pointer (some ⟨bd0, 0, none⟩), .agg #[.int .i64 x.w, .int .i64 x.k, .int .i64 x.a, .int .i64 x.b, .int .i64 x.c, .string x.t]] wr.drew (DeedPost wr.drew bx0 bd0 F0 k)) := deed_any wr.drew bx0 bd0 F0 k x.w x.k x.a x.b x.c x.t hduo (by omega) o3 o2
        have HSTEP : Hid _ := hst
        clear hduo hst o1 o2 o3 hp
        go_wp2_with fail
        refine (HPK.out wr).mono ?_
        rintro e wx ⟨rfl, hwx⟩
        subst hwx
        go_wp2_with fail
        go_region_with (go_at_call 10; refine HDEED.out.mono ?_; rintro e w8 ⟨rfl, hA⟩)
        all_goals
          go_wp2
          go_roundw
          case rel => exact ⟨k + 1, by omega, by go_num, HSTEP.out _ hA⟩
          case measure => simp [intOf]; omega
      · have HPK : Hid (∀ w, Calls Try.prog 9 #[.int .i64 x.w, .int .i64 2] w fun e w' => e = .returned (.int .i64 1) ∧ w' = w) := by simpa [Hid] using HPK.out
        obtain ⟨F0, hduo, hst⟩ := HINV.out.drew.step1
        have HDEED : Hid (Calls Try.prog 10 #[.pointer (some ⟨bx1, 0, none⟩), .pointer (some ⟨bd1, 0, none⟩), .agg #[.int .i64 x.w, .int .i64 x.k, .int .i64 x.a, .int .i64 x.b, .int .i64 x.c, .string x.t]] wr.drew (DeedPost wr.drew bx1 bd1 F0 k)) := deed_any wr.drew bx1 bd1 F0 k x.w x.k x.a x.b x.c x.t hduo (by omega) o3 o2
        have HSTEP : Hid _ := hst
        clear hduo hst o1 o2 o3 hp
        go_wp2_with fail
        refine (HPK.out wr).mono ?_
        rintro e wx ⟨rfl, hwx⟩
        subst hwx
        go_wp2_with fail
        go_region_with (go_at_call 10; refine HDEED.out.mono ?_; rintro e w8 ⟨rfl, hA⟩)
        all_goals
          go_wp2
          go_roundw
          case rel => exact ⟨k + 1, by omega, by go_num, HSTEP.out _ hA⟩
          case measure => simp [intOf]; omega
    · have HB : Hid _ := hI.below
      clear hI eX eD eg
      go_wp2
      go_ret
      exact ⟨rfl, HB.out⟩
end Go.Proofs.Ytjoinhljdbljaaa
