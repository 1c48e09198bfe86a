/- Readers of lists of numbers and keys. -/
import Derived.Test.YtjoinhljdbljaaaValB
namespace Go.Proofs.Ytjoinhljdbljaaa
open Go.RowKit

def Kind3 (k : Int) : Prop := k = 1 ∨ k = 2 ∨ k = 3
def KindsOK (l : List Int) : Prop := 1 ≤ l.length ∧ l.length ≤ 12 ∧ ∀ i (h : i < l.length), Kind3 l[i]

/-- what a test answers -/
def BoolPost (P : Prop) (w : World) : Ending → World → Prop := fun e w' => ∃ b, e = .returned (.bool b) ∧ (b = true ↔ P) ∧ Below w.heap.size w w'
theorem BoolPost.yes {P : Prop} {w w' : World} (h : P) (hb : Below w.heap.size w w') : BoolPost P w (.returned (.bool true)) w' := ⟨true, rfl, by simp [h], hb⟩
theorem BoolPost.no {P : Prop} {w w' : World} (h : ¬ P) (hb : Below w.heap.size w w') : BoolPost P w (.returned (.bool false)) w' := ⟨false, rfl, by simp [h], hb⟩

theorem snoc_all {α : Type} {P : α → Prop} {l : List α} {k : Nat} (hk : k < l.length) (h : ∀ i (h : i < l.length), i < k → P l[i]) (hp : P l[k]) : ∀ i (h : i < l.length), i < k + 1 → P l[i] := by
  intro i hi hik
  by_cases e : i = k
  · subst e; exact hp
  · exact h i hi (by omega)

theorem slice_inj {ao ao' : Option Addr} {n n' c c' : Nat} (e : Value.slice ao n c = Value.slice ao' n' c') : ao = ao' ∧ n = n' ∧ c = c' := by
  injection e with h1 h2 h3
  exact ⟨h1, h2, h3⟩
theorem IntsIn.cells {F : List Nat} {w : World} {ao : Option Addr} {n cap : Nat} {l : List Int} (h : IntsIn w F (.slice ao n cap) l) (hn : 1 ≤ l.length) : ∃ b off, ao = some ⟨b, off, none⟩ ∧ ∀ i (h : i < l.length), w.cell? ⟨b, off + i, none⟩ = some (.int .i64 l[i]) := by
  obtain ⟨ao', cap', e, _, _, hx⟩ := h.open
  obtain ⟨rfl, _, _⟩ := slice_inj e
  exact hx hn
theorem ValsIn.cells {F : List Nat} {w : World} {ao : Option Addr} {n cap : Nat} {l : List V} (h : ValsIn w F (.slice ao n cap) l) (hn : 1 ≤ l.length) : ∃ b off, ao = some ⟨b, off, none⟩ ∧
    ∀ i (h : i < l.length), w.cell? ⟨b, off + i * 3, none⟩ = some (.int .i64 l[i].k) ∧ w.cell? ⟨b, off + i * 3 + 1, none⟩ = some (.int .i64 l[i].n) ∧ w.cell? ⟨b, off + i * 3 + 1 + 1, none⟩ = some (.string l[i].s) := by
  obtain ⟨ao', cap', e, _, _, hx⟩ := h.open
  obtain ⟨rfl, _, _⟩ := slice_inj e
  exact hx hn
theorem KeysIn.cells {F : List Nat} {w : World} {ao : Option Addr} {n cap : Nat} {l : List K} (h : KeysIn w F (.slice ao n cap) l) (hn : 1 ≤ l.length) : ∃ b off, ao = some ⟨b, off, none⟩ ∧
    ∀ i (h : i < l.length), w.cell? ⟨b, off + i * 3, none⟩ = some (.int .i64 l[i].c) ∧ w.cell? ⟨b, off + i * 3 + 1, none⟩ = some (.bool l[i].d) ∧ w.cell? ⟨b, off + i * 3 + 1 + 1, none⟩ = some (.bool l[i].l) := by
  obtain ⟨ao', cap', e, _, _, hx⟩ := h.open
  obtain ⟨rfl, _, _⟩ := slice_inj e
  exact hx hn
theorem SumsIn.cells {F : List Nat} {w : World} {ao : Option Addr} {n cap : Nat} {l : List VS} (h : SumsIn w F (.slice ao n cap) l) (hn : 1 ≤ l.length) : ∃ b off, ao = some ⟨b, off, none⟩ ∧
    ∀ i (h : i < l.length), w.cell? ⟨b, off + i * 2, none⟩ = some (.int .i64 l[i].op) ∧ w.cell? ⟨b, off + i * 2 + 1, none⟩ = some (.int .i64 l[i].col) := by
  obtain ⟨ao', cap', e, _, _, hx⟩ := h.open
  obtain ⟨rfl, _, _⟩ := slice_inj e
  exact hx hn
theorem RowsIn.cells {F : List Nat} {w : World} {ao : Option Addr} {n cap : Nat} {l : List (List V)} (h : RowsIn w F (.slice ao n cap) l) (hn : 1 ≤ l.length) : ∃ b off, ao = some ⟨b, off, none⟩ ∧ ∀ i (h : i < l.length), ∃ u, w.cell? ⟨b, off + i, none⟩ = some u ∧ ValsIn w F u l[i] := by
  obtain ⟨ao', cap', e, _, _, hx⟩ := h.open
  obtain ⟨rfl, _, _⟩ := slice_inj e
  exact hx hn
theorem TabsIn.cells {F : List Nat} {w : World} {ao : Option Addr} {n cap : Nat} {l : List VT} (h : TabsIn w F (.slice ao n cap) l) (hn : 1 ≤ l.length) : ∃ b off, ao = some ⟨b, off, none⟩ ∧
    ∀ i (h : i < l.length), ∃ kv rv, w.cell? ⟨b, off + i * 3, none⟩ = some (.string l[i].name) ∧ w.cell? ⟨b, off + i * 3 + 1, none⟩ = some kv ∧ w.cell? ⟨b, off + i * 3 + 1 + 1, none⟩ = some rv ∧ IntsIn w F kv l[i].kinds ∧ RowsIn w F rv l[i].rows := by
  obtain ⟨ao', cap', e, _, _, hx⟩ := h.open
  obtain ⟨rfl, _, _⟩ := slice_inj e
  exact hx hn
theorem NodesIn.cells {F : List Nat} {w : World} {ao : Option Addr} {n cap : Nat} {l : List VN} (h : NodesIn w F (.slice ao n cap) l) (hn : 1 ≤ l.length) : ∃ b off, ao = some ⟨b, off, none⟩ ∧
    ∀ i (h : i < l.length), ∃ p : NP, NodeIn w F p l[i] ∧ ∀ r u, (nodeCells l[i] p)[r]? = some u → w.cell? ⟨b, off + i * 9 + r, none⟩ = some u := by
  obtain ⟨ao', cap', e, _, _, hx⟩ := h.open
  obtain ⟨rfl, _, _⟩ := slice_inj e
  exact hx hn

set_option maxHeartbeats 1000000 in
theorem goodKinds_any (w : World) (v : Value) (l : List Int) (h : IntsIn w [] v l) (hl : l.length ≤ 1048576) :
    Calls Try.prog 75 #[v] w (BoolPost (KindsOK l) w) := by
  obtain ⟨ao, cap, rfl, hc, hm, hx⟩ := h.open
  have HX : Hid _ := hx
  clear h hx
  go_enter Try.func75, Try.ntmps75
  by_cases h1 : 1 ≤ l.length ∧ l.length ≤ 12
  · have hd1 : decide ((l.length : Int) < 1) = false := decide_eq_false (by omega)
    have hd2 : decide ((12 : Int) < l.length) = false := decide_eq_false (by omega)
    go_wp2
    go_loopw [15] (fun j wr => ∃ k : Nat, k ≤ l.length ∧ j = .int .i64 k ∧ (∀ i (h : i < l.length), i < k → Kind3 l[i]) ∧ wr = w) (fun j _ => l.length - (intOf j).toNat)
    case atStart => exact ⟨0, by omega, rfl, fun i _ h => by omega, rfl⟩
    case round =>
      obtain ⟨k, hk, rfl, hall, hw⟩ := hrel
      subst hw
      by_cases hlt : k < l.length
      · obtain ⟨b, off, rfl, hcell⟩ := HX.out (by omega)
        have c0 := hcell k hlt
        have HALL : Hid _ := hall
        by_cases hq : Kind3 l[k]
        · have HN : Hid _ := snoc_all hlt hall hq
          unfold Kind3 at hq
          generalize l[k] = q at *
          clear hcell hall
          obtain rfl | rfl | rfl := hq
          all_goals
            go_wp2
            go_roundw
            case rel => exact ⟨k + 1, by omega, by go_num, HN.out, trivial⟩
            case measure => simp [intOf]; omega
        · have HF : Hid (¬ KindsOK l) := fun h => hq (h.2.2 k hlt)
          unfold Kind3 at hq
          generalize l[k] = q at *
          have b1 : (q != 1) = true := by rw [bne_iff_ne]; omega
          have b2 : (q != 2) = true := by rw [bne_iff_ne]; omega
          have b3 : (q != 3) = true := by rw [bne_iff_ne]; omega
          clear hcell hall hq
          go_wp2
          all_goals
            go_ret
            exact BoolPost.no HF.out (Below.refl _ _)
      · have HT : Hid (KindsOK l) := ⟨h1.1, h1.2, fun i hi => hall i hi (by omega)⟩
        clear hall
        go_wp2
        go_ret
        exact BoolPost.yes HT.out (Below.refl _ _)
  · have HF : Hid (¬ KindsOK l) := fun h => h1 ⟨h.1, h.2.1⟩
    go_wp2
    all_goals first | (exfalso; omega) | skip
    all_goals
      go_ret
      exact BoolPost.no HF.out (Below.refl _ _)

set_option maxHeartbeats 1000000 in
theorem sameNumbers_any (w : World) (v u : Value) (l : List Int) (h : IntsIn w [] v l) (h2 : IntsIn w [] u l) (hl : l.length ≤ 1048576) :
    Calls Try.prog 51 #[v, u] w fun e w' => e = .returned (.bool true) ∧ Below w.heap.size w w' := by
  obtain ⟨ao, cap, rfl, hc, hm, _⟩ := h.open
  obtain ⟨ao2, cap2, rfl, hc2, hm2, _⟩ := h2.open
  have HV : Hid (IntsIn w [] (.slice ao l.length cap) l) := h
  have HU : Hid (IntsIn w [] (.slice ao2 l.length cap2) l) := h2
  clear h h2
  have hq := beq_self_eq_true (l.length : Int)
  go_enter Try.func51, Try.ntmps51
  go_wp2
  go_loopw [5] (fun j wr => ∃ k : Nat, k ≤ l.length ∧ j = .int .i64 k ∧ Below w.heap.size w wr) (fun j _ => l.length - (intOf j).toNat)
  case atStart => exact ⟨0, by omega, rfl, Below.refl _ _⟩
  case round =>
    obtain ⟨k, hk, rfl, hB⟩ := hrel
    by_cases hlt : k < l.length
    · obtain ⟨b, off, hao, hcell⟩ := (HV.out.step (stepB hB)).cells (by omega)
      obtain ⟨b2, off2, hao2, hcell2⟩ := (HU.out.step (stepB hB)).cells (by omega)
      subst hao hao2
      have c0 := hcell k hlt
      have c1 := hcell2 k hlt
      generalize l[k] = q at *
      have hqq : (q != q) = false := by simp
      clear hcell hcell2
      go_wp2
      go_big_quiet (fail)
      go_wp2
      go_roundw
      case rel => exact ⟨k + 1, by omega, by go_num, hB.trans ⟨rfl, rfl, rfl, Nat.le_refl _, fun _ _ => rfl⟩⟩
      case measure => simp [intOf]; omega
    · go_wp2
      go_ret
      exact ⟨rfl, hB⟩

def isColB (c : Int) (n : Nat) : Bool := decide (0 ≤ c) && decide (c < (n : Int))
set_option maxHeartbeats 400000 in
theorem isColumn_any (c : Int) (ao : Option Addr) (n cap : Nat) (w : World) : Calls Try.prog 91 #[.int .i64 c, .slice ao n cap] w fun e w' => e = .returned (.bool (isColB c n)) ∧ w' = w := by
  by_cases h : 0 ≤ c
  · have E : Hid (isColB c n = decide (c < (n : Int))) := by simp [Hid, isColB, h]
    go_enter Try.func91, Try.ntmps91
    go_wp2
    go_ret
    exact ⟨by rw [E.out]; rfl, rfl⟩
  · have E : Hid (isColB c n = false) := by simp [Hid, isColB, h]
    have hd : decide (0 ≤ c) = false := by simpa using h
    go_enter Try.func91, Try.ntmps91
    go_wp2
    go_ret
    exact ⟨by rw [E.out]; rfl, rfl⟩
theorem isColB_iff (c : Int) (n : Nat) : isColB c n = true ↔ 0 ≤ c ∧ c < (n : Int) := by simp [isColB]

/-- columns that are there, from least to four of them -/
def ColsOK (l : List Int) (many least : Nat) : Prop := (∀ i (h : i < l.length), 0 ≤ l[i] ∧ l[i] < (many : Int)) ∧ least ≤ l.length ∧ l.length ≤ 4

set_option maxHeartbeats 1000000 in
theorem cols_any (w : World) (v : Value) (l : List Int) (many least : Nat) (h : IntsIn w [] v l) (hl : l.length ≤ 1048576) (hm : many ≤ 1048576) :
    Calls Try.prog 68 #[v, .int .i64 (many : Int), .int .i64 (least : Int)] w (BoolPost (ColsOK l many least) w) := by
  obtain ⟨ao, cap, rfl, hc, hm, _⟩ := h.open
  have HV : Hid (IntsIn w [] (.slice ao l.length cap) l) := h
  clear h
  have HI : Hid (∀ n lo hi w, Calls Try.prog 48 #[.int .i64 n, .int .i64 lo, .int .i64 hi] w fun e w' => e = .returned (.bool (inB n lo hi)) ∧ w' = w) := in_any
  go_enter Try.func68, Try.ntmps68
  go_wp2
  go_loopw [7] (fun j wr => ∃ k : Nat, k ≤ l.length ∧ j = .int .i64 k ∧ (∀ i (h : i < l.length), i < k → 0 ≤ l[i] ∧ l[i] < (many : Int)) ∧ wr = w) (fun j _ => l.length - (intOf j).toNat)
  case atStart => exact ⟨0, by omega, rfl, fun i _ h => by omega, rfl⟩
  case round =>
    obtain ⟨k, hk, rfl, hall, hw⟩ := hrel
    subst hw
    by_cases hlt : k < l.length
    · obtain ⟨b, off, hao, hcell⟩ := HV.out.cells (by omega)
      subst hao
      have c0 := hcell k hlt
      by_cases hq : 0 ≤ l[k] ∧ l[k] < (many : Int)
      · have HN : Hid (∀ i (h : i < l.length), i < k + 1 → 0 ≤ l[i] ∧ l[i] < (many : Int)) := snoc_all (P := fun q => 0 ≤ q ∧ q < (many : Int)) hlt hall hq
        have hb : inB l[k] 0 ((many : Int) - 1) = true := by simp [inB]; omega
        generalize l[k] = q at *
        clear hcell hall
        go_wp2_with (go_at_call 48; refine (HI.out _ _ _ _).mono ?_; rintro e w' ⟨rfl, rfl⟩)
        go_roundw
        case rel => exact ⟨k + 1, by omega, by go_num, HN.out, trivial⟩
        case measure => simp [intOf]; omega
      · have HF : Hid (¬ ColsOK l many least) := fun h => hq (h.1 k hlt)
        have hb : inB l[k] 0 ((many : Int) - 1) = false := by rw [← Bool.not_eq_true]; simp [inB]; omega
        generalize l[k] = q at *
        clear hcell hall
        go_wp2_with (go_at_call 48; refine (HI.out _ _ _ _).mono ?_; rintro e w' ⟨rfl, rfl⟩)
        go_ret
        exact BoolPost.no HF.out (Below.refl _ _)
    · by_cases hq : least ≤ l.length ∧ l.length ≤ 4
      · have HT : Hid (ColsOK l many least) := ⟨fun i hi => hall i hi (by omega), hq.1, hq.2⟩
        have HB : Hid (inB (l.length : Int) (least : Int) 4 = true) := by simp [Hid, inB]; omega
        clear hall
        go_wp2_with (go_at_call 48; refine (HI.out _ _ _ _).mono ?_; rintro e w' ⟨rfl, rfl⟩; rw [HB.out])
        go_ret
        exact BoolPost.yes HT.out (Below.refl _ _)
      · have HF : Hid (¬ ColsOK l many least) := fun h => hq h.2
        have HB : Hid (inB (l.length : Int) (least : Int) 4 = false) := by show _ = _; rw [← Bool.not_eq_true]; simp [inB]; omega
        clear hall
        go_wp2_with (go_at_call 48; refine (HI.out _ _ _ _).mono ?_; rintro e w' ⟨rfl, rfl⟩; rw [HB.out])
        go_ret
        exact BoolPost.no HF.out (Below.refl _ _)

def colsOf (l : List K) : List Int := l.map K.c
set_option maxHeartbeats 1000000 in
theorem goodKeys_any (w : World) (v : Value) (l : List K) (ao2 : Option Addr) (n cap2 : Nat) (h : KeysIn w [] v l) (hl : l.length ≤ 1048576) :
    Calls Try.prog 87 #[v, .slice ao2 n cap2] w (BoolPost (ColsOK (colsOf l) n 1) w) := by
  obtain ⟨ao, cap, rfl, hc, hm, _⟩ := h.open
  have HV : Hid (KeysIn w [] (.slice ao l.length cap) l) := h
  clear h
  have HI : Hid (∀ c ao n cap w, Calls Try.prog 91 #[.int .i64 c, .slice ao n cap] w fun e w' => e = .returned (.bool (isColB c n)) ∧ w' = w) := isColumn_any
  go_enter Try.func87, Try.ntmps87
  by_cases h1 : 1 ≤ l.length ∧ l.length ≤ 4
  · have hd1 : decide ((l.length : Int) < 1) = false := decide_eq_false (by omega)
    have hd2 : decide ((4 : Int) < l.length) = false := decide_eq_false (by omega)
    go_wp2
    go_loopw [17] (fun j wr => ∃ k : Nat, k ≤ l.length ∧ j = .int .i64 k ∧ (∀ i (h : i < l.length), i < k → 0 ≤ l[i].c ∧ l[i].c < (n : Int)) ∧ Below w.heap.size w wr) (fun j _ => l.length - (intOf j).toNat)
    case atStart => exact ⟨0, by omega, rfl, fun i _ h => by omega, Below.refl _ _⟩
    case round =>
      obtain ⟨k, hk, rfl, hall, hB⟩ := hrel
      have hsz := hB.size
      by_cases hlt : k < l.length
      · obtain ⟨b, off, hao, hcell⟩ := (HV.out.step (stepB hB)).cells (by omega)
        subst hao
        obtain ⟨c0, c1, c2⟩ := hcell k hlt
        by_cases hq : 0 ≤ l[k].c ∧ l[k].c < (n : Int)
        · have HN : Hid (∀ i (h : i < l.length), i < k + 1 → 0 ≤ l[i].c ∧ l[i].c < (n : Int)) := snoc_all (P := fun q : K => 0 ≤ q.c ∧ q.c < (n : Int)) hlt hall hq
          have hb : isColB l[k].c n = true := (isColB_iff _ _).2 hq
          generalize l[k] = q at *
          clear hcell hall
          go_wp2_with (go_at_call 91; refine (HI.out _ _ _ _ _).mono ?_; rintro e w' ⟨rfl, rfl⟩)
          go_roundw
          case rel => exact ⟨k + 1, by omega, by go_num, HN.out, by repeat (first | exact hB | refine Below.alloc ?_ (by first | exact hsz | (simp; omega)) _ | refine Below.setCell ?_ (by simp; omega) _)⟩
          case measure => simp [intOf]; omega
        · have HF : Hid (¬ ColsOK (colsOf l) n 1) := fun h => hq (by have := h.1 k (by simpa [colsOf] using hlt); simpa [colsOf] using this)
          have hb : isColB l[k].c n = false := by rw [← Bool.not_eq_true, isColB_iff]; exact hq
          generalize l[k] = q at *
          clear hcell hall
          go_wp2_with (go_at_call 91; refine (HI.out _ _ _ _ _).mono ?_; rintro e w' ⟨rfl, rfl⟩)
          go_ret
          exact BoolPost.no HF.out (by repeat (first | exact hB | refine Below.alloc ?_ (by first | exact hsz | (simp; omega)) _ | refine Below.setCell ?_ (by simp; omega) _))
      · have HT : Hid (ColsOK (colsOf l) n 1) := ⟨fun i hi => by have := hall i (by simpa [colsOf] using hi) (by simp [colsOf] at hi; omega); simpa [colsOf] using this, by simpa [colsOf] using h1.1, by simpa [colsOf] using h1.2⟩
        clear hall
        go_wp2
        go_ret
        exact BoolPost.yes HT.out hB
  · have HF : Hid (¬ ColsOK (colsOf l) n 1) := fun h => h1 (by have := h.2; simpa [colsOf] using this)
    go_wp2
    all_goals first | (exfalso; omega) | skip
    all_goals
      go_ret
      exact BoolPost.no HF.out (Below.refl _ _)
end Go.Proofs.Ytjoinhljdbljaaa
