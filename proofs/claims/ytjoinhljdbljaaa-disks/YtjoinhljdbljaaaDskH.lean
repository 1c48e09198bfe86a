/- The walks of the document's disk that look: place, Used, Read; and Fault. -/
import Derived.Test.YtjoinhljdbljaaaDskG
namespace Go.Proofs.Ytjoinhljdbljaaa
open Go.RowKit
open Go.ChangeMaps (setBlock)

theorem filesRow_len (M : List PF) : (filesRow M).length = M.length * 2 := by
  induction M with
  | nil => rfl
  | cons m M ih => simp only [filesRow, List.flatMap_cons, List.length_append, List.length_cons, List.length_nil] at *; omega
theorem filesRow_get : ∀ (M : List PF) (i : Nat) (m : PF), M[i]? = some m → (filesRow M)[i * 2]? = some (.int .i64 m.1) ∧ (filesRow M)[i * 2 + 1]? = some m.2.1
  | [], _, _, h => by simp at h
  | a :: M, 0, m, h => by
    simp only [List.getElem?_cons_zero, Option.some.injEq] at h
    subst h
    simp [filesRow]
  | a :: M, i + 1, m, h => by
    have := filesRow_get M i m (by simpa using h)
    have e : filesRow (a :: M) = .int .i64 a.1 :: a.2.1 :: filesRow M := by simp [filesRow]
    rw [e, show (i + 1) * 2 = i * 2 + 1 + 1 from by omega]
    simpa using this

theorem RD.shape {w : World} {bd bf : Nat} {fv : Value} {d : DS} {M : List PF} (h : RD w bd bf fv d M) : ∃ ao cap, fv = .slice ao M.length cap := by
  rcases h.row.2 with ⟨rfl, h0⟩ | ⟨g, cap, cur, rfl, _⟩
  · exact ⟨none, 0, by rw [h0]⟩
  · exact ⟨_, cap, rfl⟩

theorem RD.cells {w : World} {bd bf : Nat} {fv : Value} {d : DS} {M : List PF} (h : RD w bd bf fv d M) (hne : 1 ≤ M.length) : ∃ g cap, fv = .slice (some ⟨g, 0, none⟩) M.length cap ∧ M.length ≤ cap ∧ (∀ o, w.frozen? ⟨g, o, none⟩ = false) ∧
    ∀ i m, M[i]? = some m → w.cell? ⟨g, i * 2, none⟩ = some (.int .i64 m.1) ∧ w.cell? ⟨g, i * 2 + 1, none⟩ = some m.2.1 := by
  rcases h.row.2 with ⟨_, h0⟩ | ⟨g, cap, cur, rfl, _, hg, hc, _, _, ht⟩
  · omega
  · refine ⟨g, cap, rfl, hc, fun o => by simp [World.frozen?, hg], fun i m hm => ?_⟩
    have hlt := (List.getElem?_eq_some_iff.1 hm).1
    obtain ⟨q0, q1⟩ := filesRow_get M i m hm
    rw [← ht, List.getElem?_take, if_pos (by omega)] at q0 q1
    constructor
    · simp only [World.cell?, hg]; simpa using q0
    · simp only [World.cell?, hg]; simpa using q1

def posI (l : List FL) (k : Int) : Int := match posOf l k with | some (i, _) => (i : Int) | none => -1

theorem posOf_at {M : List PF} (hu : Nums (filesOf M)) {i : Nat} {m : PF} (hm : M[i]? = some m) : posOf (filesOf M) m.1 = some (i, m.2.2) := by
  rcases pos_cases M m.1 with ⟨_, hno⟩ | ⟨j, m', hm', he, hp⟩
  · exact absurd rfl (hno m (List.mem_of_getElem? hm))
  · have : i = j := hu i j (m.1, m.2.2) (m'.1, m'.2.2) (by simp [filesOf, hm]) (by simp [filesOf, hm']) he.symm
    subst this
    rw [hm] at hm'
    cases hm'
    exact hp

set_option maxRecDepth 20000 in
set_option maxHeartbeats 1000000 in
theorem place_any (w : World) (bd bf : Nat) (fv : Value) (d : DS) (M : List PF) (file : Int) (h : RD w bd bf fv d M) (hu : Nums d.files) (hl : M.length ≤ 3000000000000) :
    Calls Try.prog 61 #[.pointer (some ⟨bd, 0, none⟩), .int .i64 file] w fun e w' => e = .returned (.int .i64 (posI d.files file)) ∧ w' = w := by
  obtain ⟨_, _, _, _, c4, _⟩ := RCells h.disk
  have hfil := h.files
  rw [hfil] at hu ⊢
  by_cases hne : 1 ≤ M.length
  · obtain ⟨g, cap, rfl, hc, _, hx⟩ := h.cells hne
    clear h
    go_enter Try.func61, Try.ntmps61
    go_wp2
    go_loopw [5] (fun i wr => ∃ k : Nat, k ≤ M.length ∧ i = .int .i64 k ∧ (∀ j m, M[j]? = some m → j < k → m.1 ≠ file) ∧ wr = w) (fun i _ => M.length - (intOf i).toNat)
    case atStart => exact ⟨0, by omega, rfl, fun _ _ _ h => by omega, rfl⟩
    case round =>
      obtain ⟨k, hk, rfl, hno, hw⟩ := hrel
      subst hw
      by_cases hlt : k < M.length
      · have hm : M[k]? = some M[k] := List.getElem?_eq_getElem hlt
        obtain ⟨x0, x1⟩ := hx k M[k] hm
        by_cases he : M[k].1 = file
        · have E : Hid (posI (filesOf M) file = (k : Int)) := by
            show posI (filesOf M) file = _
            unfold posI
            rw [← he, posOf_at hu hm]
          have hb : (M[k].1 == file) = true := by simp [he]
          generalize M[k].1 = q at *
          clear hx hno hm hu hfil he
          go_wp2
          go_ret
          exact ⟨by rw [E.out]; rfl, rfl⟩
        · have hno' : ∀ j m, M[j]? = some m → j < k + 1 → m.1 ≠ file := by
            intro j m hj hjk
            by_cases e : j = k
            · subst e
              rw [hm] at hj
              cases hj
              exact he
            · exact hno j m hj (by omega)
          have HN : Hid _ := hno'
          have hb : (M[k].1 == file) = false := by simp [he]
          generalize M[k].1 = q at *
          clear hx hno hno' hm he
          go_wp2
          go_roundw
          case rel => exact ⟨k + 1, by omega, by go_num, HN.out, trivial⟩
          case measure => simp [intOf]; omega
      · have E : Hid (posI (filesOf M) file = -1) := by
          show posI (filesOf M) file = _
          unfold posI
          rcases pos_cases M file with ⟨hp, _⟩ | ⟨j, m, hm, he, _⟩
          · rw [hp]
          · exact absurd he (hno j m hm (by have := (List.getElem?_eq_some_iff.1 hm).1; omega))
        clear hx hno hu hfil
        go_wp2
        go_ret
        exact ⟨by rw [E.out]; rfl, rfl⟩
  · have hM : M = [] := by cases M <;> simp_all
    subst hM
    obtain ⟨ao, cap, rfl⟩ := h.shape
    have E : Hid (posI (filesOf []) file = -1) := rfl
    clear h hu hfil
    go_enter Try.func61, Try.ntmps61
    go_wp2
    refine wp_loop_rounds 1 ?_
    rw [rounds_succ]
    go_wp2
    go_ret
    exact ⟨by rw [E.out]; rfl, rfl⟩

theorem used_app (a b : List FL) : usedOf (a ++ b) = usedOf a + usedOf b := by
  unfold usedOf
  rw [List.map_append, List.sum_append]
theorem used_take (l : List FL) (k : Nat) (h : k < l.length) : usedOf (l.take (k + 1)) = usedOf (l.take k) + l[k].2.length := by
  rw [take_snoc' l k h, used_app]
  rfl
theorem used_take_le (l : List FL) (k : Nat) : usedOf (l.take k) ≤ usedOf l := by
  have : usedOf (l.take k ++ l.drop k) = usedOf (l.take k) + usedOf (l.drop k) := used_app _ _
  rw [List.take_append_drop] at this
  omega

set_option maxRecDepth 20000 in
set_option maxHeartbeats 1000000 in
theorem rused (w : World) (bd bf : Nat) (fv : Value) (d : DS) (M : List PF) (h : RD w bd bf fv d M) (hl : M.length ≤ 3000000000000) (hus : usedOf d.files ≤ 3000000000000) :
    Calls Try.prog 34 #[.pointer (some ⟨bd, 0, none⟩)] w fun e w' => e = .returned (.int .i64 (usedOf d.files : Int)) ∧ w' = w := by
  obtain ⟨_, _, _, _, c4, _⟩ := RCells h.disk
  have hfil := h.files
  rw [hfil] at hus ⊢
  by_cases hne : 1 ≤ M.length
  · obtain ⟨g, cap, rfl, hc, _, hx⟩ := h.cells hne
    have hrows := h.rows
    clear h
    go_enter Try.func34, Try.ntmps34
    go_wp2
    go_loopw [3, 4] (fun n i wr => ∃ k : Nat, k ≤ M.length ∧ i = .int .i64 k ∧ n = .int .i64 (usedOf ((filesOf M).take k) : Int) ∧ wr = w) (fun _ i _ => M.length - (intOf i).toNat)
    case atStart => exact ⟨0, by omega, rfl, rfl, rfl⟩
    case round =>
      obtain ⟨k, hk, rfl, rfl, hw⟩ := hrel
      subst hw
      by_cases hlt : k < M.length
      · have hm : M[k]? = some M[k] := List.getElem?_eq_getElem hlt
        obtain ⟨x0, x1⟩ := hx k M[k] hm
        obtain ⟨ao, cp, hv, _⟩ := (hrows M[k] (List.getElem_mem _)).shape
        rw [hv] at x1
        have HE : Hid (usedOf ((filesOf M).take (k + 1)) = usedOf ((filesOf M).take k) + M[k].2.2.length) := by
          have := used_take (filesOf M) k (by simpa [filesOf] using hlt)
          show usedOf _ = _
          rw [this]
          simp [filesOf]
        have hle := used_take_le (filesOf M) (k + 1)
        rw [HE.out] at hle
        generalize M[k].2.2.length = z at *
        generalize M[k].1 = q at *
        clear hx hm hrows hfil hv
        go_wp2
        go_roundw
        case rel => exact ⟨k + 1, by omega, by go_num, by rw [HE.out]; rfl, trivial⟩
        case measure => simp [intOf]; omega
      · have HE : Hid ((filesOf M).take k = filesOf M) := List.take_of_length_le (by simp [filesOf]; omega)
        clear hx hrows hfil
        go_wp2
        go_ret
        exact ⟨by rw [HE.out]; rfl, rfl⟩
  · have hM : M = [] := by cases M <;> simp_all
    subst hM
    obtain ⟨ao, cap, rfl⟩ := h.shape
    clear h hfil
    go_enter Try.func34, Try.ntmps34
    go_wp2
    refine wp_loop_rounds 1 ?_
    rw [rounds_succ]
    go_wp2
    go_ret
    exact ⟨rfl, rfl⟩

set_option maxRecDepth 20000 in
set_option maxHeartbeats 2000000 in
theorem rread (w : World) (bd bf : Nat) (fv : Value) (d : DS) (M : List PF) (file n : Int) (h : RD w bd bf fv d M) (hu : Nums d.files) (hl : M.length ≤ 3000000000000) (h0 : 0 ≤ d.f2) (h1 : d.f2 ≤ 9223372036854775807) :
    Calls Try.prog 30 #[.pointer (some ⟨bd, 0, none⟩), .int .i64 file, .int .i64 n] w fun e w' => e = .returned (.tuple #[.string (readS d file n).1, .int .i64 (readS d file n).2]) ∧ RD w' bd bf fv { d with f2 := dec d.f2 } M ∧ Touch [bd, bf] w w' := by
  have HN : Hid (Calls Try.prog 60 #[.pointer (some ⟨bd, 0, none⟩), .int .i64 2] w fun e w' => e = .returned (.bool (d.f2 == 1)) ∧ RD w' bd bf fv { d with f2 := dec d.f2 } M ∧ Touch [bd, bf] w w') := now2 w bd bf fv d M h h0 h1
  have HPL : Hid (∀ w1, RD w1 bd bf fv { d with f2 := dec d.f2 } M → Calls Try.prog 61 #[.pointer (some ⟨bd, 0, none⟩), .int .i64 file] w1 fun e w' => e = .returned (.int .i64 (posI d.files file)) ∧ w' = w1) := fun w1 hp => place_any w1 bd bf fv { d with f2 := dec d.f2 } M file hp hu hl
  have hfil := h.files
  by_cases hf : d.f2 = 1
  · have hfb : (d.f2 == 1) = true := by simp [hf]
    have E : Hid (readS d file n = (⟨#[]⟩, 6)) := by simp [Hid, readS, hf]
    rw [hfb] at HN
    generalize readS d file n = r at *
    generalize posI d.files file = q at *
    clear h hu hfil hf
    go_enter Try.func30, Try.ntmps30
    go_wp2_with fail
    refine HN.out.mono ?_
    rintro e w1 ⟨rfl, hP1, hT1⟩
    go_wp2_with fail
    refine (HPL.out w1 hP1).mono ?_
    rintro e w2 ⟨rfl, hw2⟩
    subst hw2
    go_wp2
    go_ret2
    exact ⟨by rw [E.out]; rfl, hP1, hT1⟩
  · have hfb : (d.f2 == 1) = false := by simp [hf]
    rw [hfb] at HN
    rcases pos_cases M file with ⟨hp, hno⟩ | ⟨i, m, hm, rfl, hp⟩
    · have E : Hid (readS d file n = (⟨#[]⟩, 8)) := by
        show readS d file n = _
        unfold readS
        rw [if_neg hf, hfil, hp]
      have hq : posI d.files file = -1 := by unfold posI; rw [hfil, hp]
      rw [hq] at HPL
      generalize readS d file n = r at *
      clear h hu hfil hf hq hp hno
      go_enter Try.func30, Try.ntmps30
      go_wp2_with fail
      refine HN.out.mono ?_
      rintro e w1 ⟨rfl, hP1, hT1⟩
      go_wp2_with fail
      refine (HPL.out w1 hP1).mono ?_
      rintro e w2 ⟨rfl, hw2⟩
      subst hw2
      go_wp2
      go_ret2
      exact ⟨by rw [E.out]; rfl, hP1, hT1⟩
    · have hq : posI d.files m.1 = (i : Int) := by unfold posI; rw [hfil, hp]
      rw [hq] at HPL
      have E0 : readS d m.1 n = if n < 0 ∨ (m.2.2.length : Int) ≤ n then (⟨#[]⟩, 8) else (m.2.2.getD n.toNat ⟨#[]⟩, 0) := by
        unfold readS
        rw [if_neg hf, hfil, hp]
      have hmem := List.mem_of_getElem? hm
      have hil := (List.getElem?_eq_some_iff.1 hm).1
      have HM : Hid (M[i]? = some m) := hm
      obtain ⟨g0, cap0, hfv, hc0, _, _⟩ := h.cells (by omega)
      subst hfv
      generalize readS d m.1 n = r at *
      clear h hu hfil hf hq hp hm
      by_cases hn : n < 0
      · have E : Hid (r = (⟨#[]⟩, 8)) := by show r = _; rw [E0, if_pos (Or.inl hn)]
        clear E0
        go_enter Try.func30, Try.ntmps30
        go_wp2_with fail
        refine HN.out.mono ?_
        rintro e w1 ⟨rfl, hP1, hT1⟩
        go_wp2_with fail
        refine (HPL.out w1 hP1).mono ?_
        rintro e w2 ⟨rfl, hw2⟩
        subst hw2
        go_wp2
        go_ret2
        exact ⟨by rw [E.out]; rfl, hP1, hT1⟩
      · by_cases hn2 : (m.2.2.length : Int) ≤ n
        · have E : Hid (r = (⟨#[]⟩, 8)) := by show r = _; rw [E0, if_pos (Or.inr hn2)]
          clear E0
          go_enter Try.func30, Try.ntmps30
          go_wp2_with fail
          refine HN.out.mono ?_
          rintro e w1 ⟨rfl, hP1, hT1⟩
          go_wp2_with fail
          refine (HPL.out w1 hP1).mono ?_
          rintro e w2 ⟨rfl, hw2⟩
          subst hw2
          obtain ⟨_, _, _, _, c4, _⟩ := RCells hP1.disk
          obtain ⟨g1, cap1, e1, _, _, hx⟩ := hP1.cells (by omega)
          simp only [Value.slice.injEq, Option.some.injEq, Addr.mk.injEq, and_true, true_and] at e1
          obtain ⟨rfl, _⟩ := e1
          obtain ⟨x0, x1⟩ := hx i m HM.out
          obtain ⟨ao, cp, hv, _⟩ := (hP1.rows m hmem).shape
          rw [hv] at x1
          clear hx hv
          go_wp2
          go_ret2
          exact ⟨by rw [E.out]; rfl, hP1, hT1⟩
        · obtain ⟨k, rfl⟩ : ∃ k : Nat, n = (k : Int) := ⟨n.toNat, by omega⟩
          have hk : k < m.2.2.length := by omega
          have E : Hid (r = (m.2.2[k], 0)) := by
            show r = _
            rw [E0, if_neg (by omega), Int.toNat_natCast]
            simp [List.getD, hk]
          clear E0
          go_enter Try.func30, Try.ntmps30
          go_wp2_with fail
          refine HN.out.mono ?_
          rintro e w1 ⟨rfl, hP1, hT1⟩
          go_wp2_with fail
          refine (HPL.out w1 hP1).mono ?_
          rintro e w2 ⟨rfl, hw2⟩
          subst hw2
          obtain ⟨_, _, _, _, c4, _⟩ := RCells hP1.disk
          obtain ⟨g1, cap1, e1, _, _, hx⟩ := hP1.cells (by omega)
          simp only [Value.slice.injEq, Option.some.injEq, Addr.mk.injEq, and_true, true_and] at e1
          obtain ⟨rfl, _⟩ := e1
          obtain ⟨x0, x1⟩ := hx i m HM.out
          obtain ⟨gg, cp, hv, hcp, hcl⟩ := (hP1.rows m hmem).cell (by omega)
          rw [hv] at x1
          have hcl' := hcl k hk
          clear hx hv hcl
          go_wp2
          go_ret2
          exact ⟨by rw [E.out]; rfl, hP1, hT1⟩

set_option maxRecDepth 20000 in
set_option maxHeartbeats 1000000 in
theorem rfault (w : World) (bd bf : Nat) (fv : Value) (d : DS) (M : List PF) (kind n bit : Int) (h : RD w bd bf fv d M) :
    Calls Try.prog 39 #[.pointer (some ⟨bd, 0, none⟩), .int .i64 kind, .int .i64 n, .int .i64 bit] w fun e w' => e = .returned (.tuple #[]) ∧ RD w' bd bf fv (faultS d kind n bit) M ∧ Touch [bd, bf] w w' := by
  obtain ⟨_, _, _, _, _, c5, c6, fz⟩ := RCells h.disk
  have fg := fz 6
  obtain ⟨x1, x2, x3, fy⟩ := FCells h.faults
  have HP : Hid (RD w bd bf fv d M) := h
  have hne : bf ≠ bd := fun e => h.ne e.symm
  clear h fz
  by_cases h1 : kind = 1
  · subst h1
    have ff := fy 1
    have E : Hid (faultS d 1 n bit = { d with f1 := max n 0 }) := rfl
    clear fy
    go_enter Try.func39, Try.ntmps39
    go_wp2
    all_goals
      go_end0
      refine ⟨rfl, ?_, (Touch.refl _ _).setCell (by simp) _⟩
      rw [E.out]
      first
        | (have e : max n 0 = 0 := by omega
           rw [e]; exact HP.out.turn (by rw [Below.heap_setCell _ _ _ _ (fun e => hne e.symm)]; exact HP.out.disk) (heap_setCell_same _ _ _ _ _ _ HP.out.faults) ((Touch.refl _ _).setCell (by simp) _) rfl)
        | (have e : max n 0 = n := by omega
           rw [e]; exact HP.out.turn (by rw [Below.heap_setCell _ _ _ _ (fun e => hne e.symm)]; exact HP.out.disk) (heap_setCell_same _ _ _ _ _ _ HP.out.faults) ((Touch.refl _ _).setCell (by simp) _) rfl)
  · by_cases h2 : kind = 2
    · subst h2
      have ff := fy 2
      have E : Hid (faultS d 2 n bit = { d with f2 := max n 0 }) := rfl
      clear fy h1
      go_enter Try.func39, Try.ntmps39
      go_wp2
      all_goals
        go_end0
        refine ⟨rfl, ?_, (Touch.refl _ _).setCell (by simp) _⟩
        rw [E.out]
        first
          | (have e : max n 0 = 0 := by omega
             rw [e]; exact HP.out.turn (by rw [Below.heap_setCell _ _ _ _ (fun e => hne e.symm)]; exact HP.out.disk) (heap_setCell_same _ _ _ _ _ _ HP.out.faults) ((Touch.refl _ _).setCell (by simp) _) rfl)
          | (have e : max n 0 = n := by omega
             rw [e]; exact HP.out.turn (by rw [Below.heap_setCell _ _ _ _ (fun e => hne e.symm)]; exact HP.out.disk) (heap_setCell_same _ _ _ _ _ _ HP.out.faults) ((Touch.refl _ _).setCell (by simp) _) rfl)
    · by_cases h3 : kind = 3
      · subst h3
        have ff := fy 3
        have E : Hid (faultS d 3 n bit = { d with f3 := max n 0, bit := bit }) := rfl
        clear fy h1 h2
        go_enter Try.func39, Try.ntmps39
        go_wp2
        all_goals
          go_end0
          refine ⟨rfl, ?_, ((Touch.refl _ _).setCell (by simp) _).setCell (by simp) _⟩
          rw [E.out]
          first
            | (have e : max n 0 = 0 := by omega
               rw [e]; exact HP.out.turn (by rw [heap_setCell_same _ _ _ _ _ _ (show _ = some (Obj.cells (RC d fv bf) 73 (0, 0)) by rw [Below.heap_setCell _ _ _ _ (fun e => hne e.symm)]; exact HP.out.disk)]; rfl) (by rw [Below.heap_setCell _ _ _ _ hne, heap_setCell_same _ _ _ _ _ _ HP.out.faults]; rfl) (((Touch.refl _ _).setCell (by simp) _).setCell (by simp) _) rfl)
            | (have e : max n 0 = n := by omega
               rw [e]; exact HP.out.turn (by rw [heap_setCell_same _ _ _ _ _ _ (show _ = some (Obj.cells (RC d fv bf) 73 (0, 0)) by rw [Below.heap_setCell _ _ _ _ (fun e => hne e.symm)]; exact HP.out.disk)]; rfl) (by rw [Below.heap_setCell _ _ _ _ hne, heap_setCell_same _ _ _ _ _ _ HP.out.faults]; rfl) (((Touch.refl _ _).setCell (by simp) _).setCell (by simp) _) rfl)
      · have E : Hid (faultS d kind n bit = d) := by simp [Hid, faultS, h1, h2, h3]
        clear fy
        by_cases hlo : kind < 1
        · go_enter Try.func39, Try.ntmps39
          go_wp2
          exact bodyPost_ret (v := .tuple #[]) (by simp [results, Try.results39, go_sem]) rfl ⟨rfl, by rw [E.out]; exact HP.out, Touch.refl _ _⟩
        · have hhi : 3 < kind := by omega
          have hdk : decide (kind ≤ 3) = false := by simp; omega
          go_enter Try.func39, Try.ntmps39
          go_wp2
          exact bodyPost_ret (v := .tuple #[]) (by simp [results, Try.results39, go_sem]) rfl ⟨rfl, by rw [E.out]; exact HP.out, Touch.refl _ _⟩
end Go.Proofs.Ytjoinhljdbljaaa
