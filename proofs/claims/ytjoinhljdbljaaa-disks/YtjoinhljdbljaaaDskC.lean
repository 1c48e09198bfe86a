/- The walks of the given disk's calls that only read, or turn a number. -/
import Derived.Test.YtjoinhljdbljaaaDskB
namespace Go.Proofs.Ytjoinhljdbljaaa
open Go.RowKit
open Go.ChangeMaps (setBlock)

theorem Touch.grownBy {F : List Nat} {w w' : World} (h : Touch F w w') {v : Value} (hv : ∀ k, v.ownBlock = some k → k < w.heap.size ∧ k ∉ F) : ∀ k, v.ownBlock = some k → w'.heap[k]? = w.heap[k]? :=
  fun k hk => h.block k (hv k hk).1 (hv k hk).2

theorem SRow.touch {F : List Nat} {w w' : World} {v : Value} {bs : List ByteArray} (h : SRow w v bs) (ht : Touch F w w') (hv : ∀ k, v.ownBlock = some k → k ∉ F) : SRow w' v bs := by
  obtain ⟨h1, h2⟩ := h
  refine ⟨h1, ?_⟩
  rcases h2 with h2 | ⟨g, cap, cur, rfl, hb, hg, r⟩
  · exact Or.inl h2
  · refine Or.inr ⟨g, cap, cur, rfl, hb, ?_, r⟩
    rw [ht.block g (Array.getElem?_eq_some_iff.1 hg).1 (hv g rfl)]
    exact hg

theorem SRow.shape {w : World} {v : Value} {bs : List ByteArray} (h : SRow w v bs) : ∃ ao cap, v = .slice ao bs.length cap ∧ bs.length ≤ maxLen := by
  rcases h.2 with ⟨rfl, h0⟩ | ⟨g, cap, cur, rfl, _, _, hc, hm, _⟩
  · exact ⟨none, 0, by rw [h0], by rw [h0]; exact Nat.zero_le _⟩
  · exact ⟨_, cap, rfl, Nat.le_trans hc hm⟩

theorem SRow.cell {w : World} {v : Value} {bs : List ByteArray} (h : SRow w v bs) (hne : 1 ≤ bs.length) : ∃ g cap, v = .slice (some ⟨g, 0, none⟩) bs.length cap ∧ bs.length ≤ cap ∧ ∀ i (hi : i < bs.length), w.cell? ⟨g, i, none⟩ = some (.string bs[i]) := by
  rcases h.2 with ⟨_, h0⟩ | ⟨g, cap, cur, rfl, _, hg, hc, _, _, ht⟩
  · omega
  · refine ⟨g, cap, rfl, hc, fun i hi => ?_⟩
    have := congrArg (fun l => l[i]?) ht
    simp only [Nat.mul_one, List.getElem?_take, if_pos hi, Array.getElem?_toList, List.getElem?_map, List.getElem?_eq_getElem hi, Option.map_some] at this
    simp [World.cell?, hg, this]

theorem row_cell {w : World} {g n cap : Nat} {bs : List ByteArray} (h : SRow w (.slice (some ⟨g, 0, none⟩) n cap) bs) (i : Nat) (hi : i < bs.length) : w.cell? ⟨g, i, none⟩ = some (.string bs[i]) := by
  obtain ⟨g', cap', e, _, hx⟩ := h.cell (by omega)
  simp only [Value.slice.injEq, Option.some.injEq, Addr.mk.injEq, and_true] at e
  obtain ⟨rfl, _⟩ := e
  exact hx i hi

theorem mem_rows {M : List PF} {m : PF} (hm : m ∈ M) {k : Nat} (hk : m.2.1.ownBlock = some k) : k ∈ rowsOf M := by
  unfold rowsOf
  rw [List.mem_flatMap]
  exact ⟨m, hm, by simp [hk]⟩

theorem PD.lt {w : World} {bx bm : Nat} {d : DS} {M : List PF} (h : PD w bx bm d M) : ∀ k ∈ bx :: bm :: rowsOf M, k < w.heap.size := by
  intro k hk
  simp only [List.mem_cons] at hk
  rcases hk with rfl | rfl | hk
  · exact (Array.getElem?_eq_some_iff.1 h.disk).1
  · obtain ⟨es, c, hb, _⟩ := h.map
    exact (Array.getElem?_eq_some_iff.1 hb).1
  · unfold rowsOf at hk
    obtain ⟨m, hm, hk⟩ := List.mem_flatMap.1 hk
    have := (World.ownsRow.lt (h.rows m hm) k (by simpa using hk)).2
    exact this

/-- the disk's own cells turn; the files stay -/
theorem PD.turn {w w' : World} {bx bm : Nat} {d d' : DS} {M : List PF} (h : PD w bx bm d M) (hd : w'.heap[bx]? = some (.cells (DC d' bm) 69 (0, 0))) (ht : Touch [bx] w w') (hf : d'.files = d.files) : PD w' bx bm d' M := by
  have hn := h.nodup
  simp only [List.nodup_cons, List.mem_cons, not_or] at hn
  refine ⟨hd, ?_, hf.trans h.files, fun m hm => ?_, h.nodup⟩
  · obtain ⟨es, c, hb, he⟩ := h.map
    exact ⟨es, c, by rw [ht.block bm (h.lt bm (by simp)) (by simp; exact fun e => hn.1.1 e.symm)]; exact hb, he⟩
  · refine (h.rows m hm).touch ht (fun k hk => ?_)
    simp only [List.mem_cons, List.not_mem_nil, or_false]
    intro e
    subst e
    exact hn.1.2 (mem_rows hm hk)

/-- whatever does not touch the disk's blocks leaves the disk -/
theorem PD.away {w w' : World} {bx bm : Nat} {d : DS} {M : List PF} {F : List Nat} (h : PD w bx bm d M) (ht : Touch F w w') (hF : ∀ k ∈ bx :: bm :: rowsOf M, k ∉ F) : PD w' bx bm d M := by
  refine ⟨?_, ?_, h.files, fun m hm => ?_, h.nodup⟩
  · rw [ht.block bx (h.lt bx (by simp)) (hF bx (by simp))]; exact h.disk
  · obtain ⟨es, c, hb, he⟩ := h.map
    exact ⟨es, c, by rw [ht.block bm (h.lt bm (by simp)) (hF bm (by simp))]; exact hb, he⟩
  · exact (h.rows m hm).touch ht (fun k hk => hF k (by simp [mem_rows hm hk]))

def posOf (l : List FL) (k : Int) : Option (Nat × List ByteArray) :=
  match l.findIdx? (fun f => f.1 == k) with
  | some i => some (i, (l.getD i (0, [])).2)
  | none => none

def Nums (l : List FL) : Prop := ∀ (i j : Nat) (a b : FL), l[i]? = some a → l[j]? = some b → a.1 = b.1 → i = j

theorem uniq_of {M : List PF} (h : Nums (filesOf M)) : Uniq (entsOf M) := by
  intro i j a b ha hb e
  unfold entsOf at ha hb
  rw [List.getElem?_map] at ha hb
  cases hi : M[i]? with
  | none => simp [hi] at ha
  | some m =>
    cases hj : M[j]? with
    | none => simp [hj] at hb
    | some m' =>
      simp only [hi, hj, Option.map_some, Option.some.injEq] at ha hb
      subst ha hb
      exact h i j (m.1, m.2.2) (m'.1, m'.2.2) (by simp [filesOf, hi]) (by simp [filesOf, hj]) e

theorem pos_cases (M : List PF) (k : Int) : (posOf (filesOf M) k = none ∧ ∀ m ∈ M, m.1 ≠ k) ∨ ∃ i m, M[i]? = some m ∧ m.1 = k ∧ posOf (filesOf M) k = some (i, m.2.2) := by
  unfold posOf
  cases hf : (filesOf M).findIdx? (fun f => f.1 == k) with
  | none =>
    refine Or.inl ⟨rfl, fun m hm => ?_⟩
    rw [List.findIdx?_eq_none_iff] at hf
    have := hf (m.1, m.2.2) (by unfold filesOf; exact List.mem_map.2 ⟨m, hm, rfl⟩)
    simpa using this
  | some i =>
    rw [List.findIdx?_eq_some_iff_getElem] at hf
    obtain ⟨hi, hk, _⟩ := hf
    have hi' : i < M.length := by simpa [filesOf] using hi
    refine Or.inr ⟨i, M[i], by simp [hi'], ?_, ?_⟩
    · simpa [filesOf] using hk
    · simp [filesOf, List.getD, hi']

def mt : ByteArray := ⟨#[]⟩
def readS (d : DS) (file n : Int) : ByteArray × Int :=
  if d.f2 = 1 then (⟨#[]⟩, 6) else
  match posOf d.files file with
  | none => (⟨#[]⟩, 8)
  | some (_, bs) => if n < 0 ∨ (bs.length : Int) ≤ n then (⟨#[]⟩, 8) else (bs.getD n.toNat ⟨#[]⟩, 0)

set_option maxRecDepth 20000 in
set_option maxHeartbeats 1000000 in
theorem pread (w : World) (bx bm : Nat) (d : DS) (M : List PF) (file n : Int) (h : PD w bx bm d M) (hu : Nums d.files) (h0 : 0 ≤ d.f2) (h1 : d.f2 ≤ 9223372036854775807) :
    Calls Try.prog 29 #[.pointer (some ⟨bx, 0, none⟩), .int .i64 file, .int .i64 n] w fun e w' => e = .returned (.tuple #[.string (readS d file n).1, .int .i64 (readS d file n).2]) ∧ PD w' bx bm { d with f2 := dec d.f2 } M ∧ Touch [bx] w w' := by
  have HC : Hid (Calls Try.prog 58 #[.pointer (some ⟨bx, 0, none⟩), .int .i64 2] w fun e w' => e = .returned (.bool (d.f2 == 1)) ∧ w'.heap[bx]? = some (.cells (DC { d with f2 := dec d.f2 } bm) 69 (0, 0)) ∧ Touch [bx] w w') := comes2 w bx bm d h.disk h0 h1
  obtain ⟨_, _, _, c3, _⟩ := DCells h.disk
  obtain ⟨es, clock, hb, he⟩ := h.map
  have HT : Hid (∀ w', w'.heap[bx]? = some (.cells (DC { d with f2 := dec d.f2 } bm) 69 (0, 0)) → Touch [bx] w w' → PD w' bx bm { d with f2 := dec d.f2 } M) := fun w' a b => h.turn a b rfl
  have hfil := h.files
  rw [hfil] at hu
  rcases pos_cases M file with ⟨hp, hno⟩ | ⟨i, m, hm, rfl, hp⟩
  · have hrun := run_look_none hb he file (by intro p hp; unfold entsOf at hp; obtain ⟨m, hm, rfl⟩ := List.mem_map.1 hp; exact hno m hm) false
    simp only [Bool.false_eq_true, if_false] at hrun
    by_cases hf : d.f2 = 1
    · have E : Hid (readS d file n = (⟨#[]⟩, 6)) := by simp [Hid, readS, hf]
      have hfb : (d.f2 == 1) = true := by simp [hf]
      rw [hfb] at HC
      generalize readS d file n = r at *
      clear hf hfil hu hno hp h hb he
      go_enter Try.func29, Try.ntmps29
      go_wp2_with (go_at_call 58; refine HC.out.mono ?_; rintro e w1 ⟨rfl, hd1, ht1⟩; have HD : Hid (w1.heap[bx]? = some (.cells (DC { d with f2 := dec d.f2 } bm) 69 (0, 0))) := hd1; clear hd1)
      go_ret2
      exact ⟨by rw [E.out]; rfl, HT.out _ HD.out ht1, ht1⟩
    · have E : Hid (readS d file n = (⟨#[]⟩, 8)) := by
        show readS d file n = _
        unfold readS
        rw [if_neg hf, hfil, hp]
      have hfb : (d.f2 == 1) = false := by simp [hf]
      rw [hfb] at HC
      generalize readS d file n = r at *
      clear hf hfil hu hno hp h hb he
      by_cases hn : n < 0
      · go_enter Try.func29, Try.ntmps29
        go_wp2_with (go_at_call 58; refine HC.out.mono ?_; rintro e w1 ⟨rfl, hd1, ht1⟩; have HD : Hid (w1.heap[bx]? = some (.cells (DC { d with f2 := dec d.f2 } bm) 69 (0, 0))) := hd1; clear hd1)
        go_ret2
        exact ⟨by rw [E.out]; rfl, HT.out _ HD.out ht1, ht1⟩
      · have hn' : 0 ≤ n := by omega
        go_enter Try.func29, Try.ntmps29
        go_wp2_with (go_at_call 58; refine HC.out.mono ?_; rintro e w1 ⟨rfl, hd1, ht1⟩; have HD : Hid (w1.heap[bx]? = some (.cells (DC { d with f2 := dec d.f2 } bm) 69 (0, 0))) := hd1; clear hd1)
        go_ret2
        exact ⟨by rw [E.out]; rfl, HT.out _ HD.out ht1, ht1⟩
  · have hmem : m ∈ M := List.mem_of_getElem? hm
    have hrun := run_look_some hb he (uniq_of hu) i (m.1, m.2.1) (by unfold entsOf; rw [List.getElem?_map, hm]; rfl) false
    simp only [Bool.false_eq_true, if_false] at hrun
    have hrow := h.rows m hmem
    obtain ⟨num, v, bs⟩ := m
    simp only at hp hrun hrow
    by_cases hf : d.f2 = 1
    · have E : Hid (readS d num n = (⟨#[]⟩, 6)) := by simp [Hid, readS, hf]
      have hfb : (d.f2 == 1) = true := by simp [hf]
      rw [hfb] at HC
      generalize readS d num n = r at *
      clear hf hfil hu hp h hb he hrow
      go_enter Try.func29, Try.ntmps29
      go_wp2_with (go_at_call 58; refine HC.out.mono ?_; rintro e w1 ⟨rfl, hd1, ht1⟩; have HD : Hid (w1.heap[bx]? = some (.cells (DC { d with f2 := dec d.f2 } bm) 69 (0, 0))) := hd1; clear hd1)
      go_ret2
      exact ⟨by rw [E.out]; rfl, HT.out _ HD.out ht1, ht1⟩
    · have hfb : (d.f2 == 1) = false := by simp [hf]
      rw [hfb] at HC
      have E0 : readS d num n = if n < 0 ∨ (bs.length : Int) ≤ n then (⟨#[]⟩, 8) else (bs.getD n.toNat ⟨#[]⟩, 0) := by
        unfold readS
        rw [if_neg hf, hfil, hp]
      generalize readS d num n = r at *
      obtain ⟨ao, cap, hv, hlm⟩ := hrow.shape
      unfold maxLen at hlm
      by_cases hn : n < 0
      · have E : Hid (r = (⟨#[]⟩, 8)) := by show r = _; rw [E0, if_pos (Or.inl hn)]
        subst hv
        clear hf hfil hu hp h hb he hrow E0 hm hmem
        go_enter Try.func29, Try.ntmps29
        go_wp2_with (go_at_call 58; refine HC.out.mono ?_; rintro e w1 ⟨rfl, hd1, ht1⟩; have HD : Hid (w1.heap[bx]? = some (.cells (DC { d with f2 := dec d.f2 } bm) 69 (0, 0))) := hd1; clear hd1)
        go_ret2
        exact ⟨by rw [E.out]; rfl, HT.out _ HD.out ht1, ht1⟩
      · by_cases hn2 : (bs.length : Int) ≤ n
        · have E : Hid (r = (⟨#[]⟩, 8)) := by show r = _; rw [E0, if_pos (Or.inr hn2)]
          subst hv
          clear hf hfil hu hp h hb he hrow E0 hm hmem
          go_enter Try.func29, Try.ntmps29
          go_wp2_with (go_at_call 58; refine HC.out.mono ?_; rintro e w1 ⟨rfl, hd1, ht1⟩; have HD : Hid (w1.heap[bx]? = some (.cells (DC { d with f2 := dec d.f2 } bm) 69 (0, 0))) := hd1; clear hd1)
          go_ret2
          exact ⟨by rw [E.out]; rfl, HT.out _ HD.out ht1, ht1⟩
        · obtain ⟨k, rfl⟩ : ∃ k : Nat, n = (k : Int) := ⟨n.toNat, by omega⟩
          have hk : k < bs.length := by omega
          have E : Hid (r = (bs[k], 0)) := by
            show r = _
            rw [E0, if_neg (by omega), Int.toNat_natCast]
            simp [List.getD, hk]
          have HR : Hid (∀ w', w'.heap[bx]? = some (.cells (DC { d with f2 := dec d.f2 } bm) 69 (0, 0)) → Touch [bx] w w' → SRow w' v bs) := fun w' a b => (HT.out w' a b).rows (num, v, bs) hmem
          obtain ⟨g, cap', hv', hc', _⟩ := hrow.cell (by omega)
          clear hv
          subst hv'
          clear hf hfil hu hp h hb he hrow E0 hm hmem
          go_enter Try.func29, Try.ntmps29
          go_wp2_with (go_at_call 58; refine HC.out.mono ?_; go_must (rintro e w1 ⟨rfl, hd1, ht1⟩; have HD : Hid (w1.heap[bx]? = some (.cells (DC { d with f2 := dec d.f2 } bm) 69 (0, 0))) := hd1; have hcl := row_cell (HR.out _ hd1 ht1) k hk; clear hd1))
          go_ret2
          exact ⟨by rw [E.out]; rfl, HT.out _ HD.out ht1, ht1⟩

set_option maxHeartbeats 400000 in
theorem pused (w : World) (bx bm : Nat) (d : DS) (M : List PF) (h : PD w bx bm d M) : Calls Try.prog 33 #[.pointer (some ⟨bx, 0, none⟩)] w fun e w' => e = .returned (.int .i64 (usedOf d.files : Int)) ∧ w' = w := by
  obtain ⟨_, _, _, _, c4, _⟩ := DCells h.disk
  clear h
  go_enter Try.func33, Try.ntmps33
  go_wp2
  go_ret
  exact ⟨rfl, rfl⟩
set_option maxHeartbeats 400000 in
theorem pwrote (w : World) (bx bm : Nat) (d : DS) (M : List PF) (h : PD w bx bm d M) : Calls Try.prog 36 #[.pointer (some ⟨bx, 0, none⟩)] w fun e w' => e = .returned (.int .i64 d.wrote) ∧ w' = w := by
  obtain ⟨_, _, _, _, _, c5, _⟩ := DCells h.disk
  clear h
  go_enter Try.func36, Try.ntmps36
  go_wp2
  go_ret
  exact ⟨rfl, rfl⟩
set_option maxHeartbeats 400000 in
theorem pblock (w : World) (bx bm : Nat) (d : DS) (M : List PF) (h : PD w bx bm d M) : Calls Try.prog 37 #[.pointer (some ⟨bx, 0, none⟩)] w fun e w' => e = .returned (.int .i64 d.block) ∧ w' = w := by
  obtain ⟨c0, _⟩ := DCells h.disk
  clear h
  go_enter Try.func37, Try.ntmps37
  go_wp2
  go_ret
  exact ⟨rfl, rfl⟩

theorem run_len_map {w : World} {bm clock : Nat} {es : Array MapEntry} (hb : w.heap[bm]? = some (.map es clock)) (ty : TypeId) : (Builtin.len_ #[66] ty #[.map (some bm)]).run Try.prog w = .ok (goInt es.size) w := by
  simp [Builtin.len_, MapKept.run_getObj_map hb]

set_option maxHeartbeats 400000 in
theorem pfiles (w : World) (bx bm : Nat) (d : DS) (M : List PF) (h : PD w bx bm d M) : Calls Try.prog 35 #[.pointer (some ⟨bx, 0, none⟩)] w fun e w' => e = .returned (.int .i64 (d.files.length : Int)) ∧ w' = w := by
  obtain ⟨_, _, _, c3, _⟩ := DCells h.disk
  obtain ⟨es, clock, hb, he⟩ := h.map
  have hl : es.size = d.files.length := by rw [he.len, h.files]; simp [entsOf, filesOf]
  have HL : Hid _ := hl
  have hrun := run_len_map hb 3
  clear h hl he
  go_enter Try.func35, Try.ntmps35
  go_wp2
  go_ret
  exact ⟨by rw [← HL.out]; rfl, rfl⟩

def faultS (d : DS) (kind n bit : Int) : DS :=
  if kind = 1 then { d with f1 := max n 0 } else if kind = 2 then { d with f2 := max n 0 } else if kind = 3 then { d with f3 := max n 0, bit := bit } else d

set_option maxHeartbeats 1000000 in
theorem pfault (w : World) (bx bm : Nat) (d : DS) (M : List PF) (kind n bit : Int) (h : PD w bx bm d M) :
    Calls Try.prog 38 #[.pointer (some ⟨bx, 0, none⟩), .int .i64 kind, .int .i64 n, .int .i64 bit] w fun e w' => e = .returned (.tuple #[]) ∧ PD w' bx bm (faultS d kind n bit) M ∧ Touch [bx] w w' := by
  obtain ⟨_, _, _, _, _, _, c7, c8, c9, c10, fz⟩ := DCells h.disk
  have H : Hid (w.heap[bx]? = some (.cells (DC d bm) 69 (0, 0))) := h.disk
  have HT : Hid (∀ d' w', w'.heap[bx]? = some (.cells (DC d' bm) 69 (0, 0)) → Touch [bx] w w' → d'.files = d.files → PD w' bx bm d' M) := fun d' w' a b c => h.turn a b c
  have HP : Hid (PD w bx bm d M) := h
  clear h
  by_cases h1 : kind = 1
  · subst h1
    have ff := fz 7
    have E : Hid (faultS d 1 n bit = { d with f1 := max n 0 }) := rfl
    clear fz
    go_enter Try.func38, Try.ntmps38
    go_wp2
    all_goals
      go_end0
      refine ⟨rfl, ?_, (Touch.refl _ _).setCell (by simp) _⟩
      rw [E.out]
      first
        | (have e : max n 0 = 0 := by omega
           rw [e]; exact HT.out _ _ (heap_setCell_same _ _ _ _ _ _ H.out) ((Touch.refl _ _).setCell (by simp) _) rfl)
        | (have e : max n 0 = n := by omega
           rw [e]; exact HT.out _ _ (heap_setCell_same _ _ _ _ _ _ H.out) ((Touch.refl _ _).setCell (by simp) _) rfl)
  · by_cases h2 : kind = 2
    · subst h2
      have ff := fz 8
      have E : Hid (faultS d 2 n bit = { d with f2 := max n 0 }) := rfl
      clear fz h1
      go_enter Try.func38, Try.ntmps38
      go_wp2
      all_goals
        go_end0
        refine ⟨rfl, ?_, (Touch.refl _ _).setCell (by simp) _⟩
        rw [E.out]
        first
          | (have e : max n 0 = 0 := by omega
             rw [e]; exact HT.out _ _ (heap_setCell_same _ _ _ _ _ _ H.out) ((Touch.refl _ _).setCell (by simp) _) rfl)
          | (have e : max n 0 = n := by omega
             rw [e]; exact HT.out _ _ (heap_setCell_same _ _ _ _ _ _ H.out) ((Touch.refl _ _).setCell (by simp) _) rfl)
    · by_cases h3 : kind = 3
      · subst h3
        have ff := fz 9
        have ff2 := fz 10
        have E : Hid (faultS d 3 n bit = { d with f3 := max n 0, bit := bit }) := rfl
        clear fz h1 h2
        go_enter Try.func38, Try.ntmps38
        go_wp2
        all_goals
          go_end0
          refine ⟨rfl, ?_, ((Touch.refl _ _).setCell (by simp) _).setCell (by simp) _⟩
          rw [E.out]
          first
            | (have e : max n 0 = 0 := by omega
               rw [e]; exact HT.out _ _ (heap_setCell_same _ _ _ _ _ _ (heap_setCell_same _ _ _ _ _ _ H.out)) (((Touch.refl _ _).setCell (by simp) _).setCell (by simp) _) rfl)
            | (have e : max n 0 = n := by omega
               rw [e]; exact HT.out _ _ (heap_setCell_same _ _ _ _ _ _ (heap_setCell_same _ _ _ _ _ _ H.out)) (((Touch.refl _ _).setCell (by simp) _).setCell (by simp) _) rfl)
      · have E : Hid (faultS d kind n bit = d) := by simp [Hid, faultS, h1, h2, h3]
        clear fz
        by_cases hlo : kind < 1
        · go_enter Try.func38, Try.ntmps38
          go_wp2
          exact bodyPost_ret (v := .tuple #[]) (by simp [results, Try.results38, go_sem]) rfl ⟨rfl, by rw [E.out]; exact HP.out, Touch.refl _ _⟩
        · have hhi : 3 < kind := by omega
          go_enter Try.func38, Try.ntmps38
          go_wp2
          exact bodyPost_ret (v := .tuple #[]) (by simp [results, Try.results38, go_sem]) rfl ⟨rfl, by rw [E.out]; exact HP.out, Touch.refl _ _⟩
end Go.Proofs.Ytjoinhljdbljaaa
