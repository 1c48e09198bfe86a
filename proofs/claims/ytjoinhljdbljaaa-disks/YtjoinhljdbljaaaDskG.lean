/- The document's disk, as it lies in memory, and the walks of its small calls. -/
import Derived.Test.YtjoinhljdbljaaaDskE
namespace Go.Proofs.Ytjoinhljdbljaaa
open Go.RowKit
open Go.ChangeMaps (setBlock)

def RC (d : DS) (fv : Value) (bf : Nat) : Array Value :=
  #[.int .i64 d.block, .int .i64 d.blocks, .int .i64 d.last, .int .i64 d.wrote, fv, .slice (some ⟨bf, 0, none⟩) 4 4, .int .i64 d.bit]
def FC (d : DS) : Array Value := #[.int .i64 0, .int .i64 d.f1, .int .i64 d.f2, .int .i64 d.f3]
def filesRow (M : List PF) : List Value := M.flatMap fun m => [.int .i64 m.1, m.2.1]

structure RD (w : World) (bd bf : Nat) (fv : Value) (d : DS) (M : List PF) : Prop where
  disk : w.heap[bd]? = some (.cells (RC d fv bf) 73 (0, 0))
  faults : w.heap[bf]? = some (.cells (FC d) 3 (0, 0))
  row : w.ownsRow 0 131 2 fv M.length (filesRow M)
  files : d.files = filesOf M
  rows : ∀ m ∈ M, SRow w m.2.1 m.2.2
  nodup : (bd :: bf :: (fv.ownBlock.toList ++ rowsOf M)).Nodup

theorem RCells {w : World} {bd bf : Nat} {fv : Value} {d : DS} (h : w.heap[bd]? = some (.cells (RC d fv bf) 73 (0, 0))) :
    w.cell? ⟨bd, 0, none⟩ = some (.int .i64 d.block) ∧ w.cell? ⟨bd, 1, none⟩ = some (.int .i64 d.blocks) ∧ w.cell? ⟨bd, 2, none⟩ = some (.int .i64 d.last) ∧ w.cell? ⟨bd, 3, none⟩ = some (.int .i64 d.wrote) ∧
    w.cell? ⟨bd, 4, none⟩ = some fv ∧ w.cell? ⟨bd, 5, none⟩ = some (.slice (some ⟨bf, 0, none⟩) 4 4) ∧ w.cell? ⟨bd, 6, none⟩ = some (.int .i64 d.bit) ∧ (∀ o, w.frozen? ⟨bd, o, none⟩ = false) := by
  refine ⟨?_, ?_, ?_, ?_, ?_, ?_, ?_, ?_⟩
  all_goals first | (intro o; simp [World.frozen?, h]; done) | simp [World.cell?, h, RC]
theorem FCells {w : World} {bf : Nat} {d : DS} (h : w.heap[bf]? = some (.cells (FC d) 3 (0, 0))) :
    w.cell? ⟨bf, 1, none⟩ = some (.int .i64 d.f1) ∧ w.cell? ⟨bf, 2, none⟩ = some (.int .i64 d.f2) ∧ w.cell? ⟨bf, 3, none⟩ = some (.int .i64 d.f3) ∧ (∀ o, w.frozen? ⟨bf, o, none⟩ = false) := by
  refine ⟨?_, ?_, ?_, ?_⟩
  all_goals first | (intro o; simp [World.frozen?, h]; done) | simp [World.cell?, h, FC]

theorem RD.lt {w : World} {bd bf : Nat} {fv : Value} {d : DS} {M : List PF} (h : RD w bd bf fv d M) : ∀ k ∈ bd :: bf :: (fv.ownBlock.toList ++ rowsOf M), k < w.heap.size := by
  intro k hk
  simp only [List.mem_cons, List.mem_append] at hk
  rcases hk with rfl | rfl | hk | hk
  · exact (Array.getElem?_eq_some_iff.1 h.disk).1
  · exact (Array.getElem?_eq_some_iff.1 h.faults).1
  · exact (World.ownsRow.lt h.row k (by simpa using hk)).2
  · unfold rowsOf at hk
    obtain ⟨m, hm, hk⟩ := List.mem_flatMap.1 hk
    exact (World.ownsRow.lt (h.rows m hm) k (by simpa using hk)).2

theorem ownsRow_touch {F : List Nat} {w w' : World} {base : Nat} {e : TypeId} {size : Nat} {v : Value} {n : Nat} {xs : List Value} (h : w.ownsRow base e size v n xs) (ht : Touch F w w') (hv : ∀ k, v.ownBlock = some k → k ∉ F) : w'.ownsRow base e size v n xs := by
  obtain ⟨h1, h2⟩ := h
  refine ⟨h1, ?_⟩
  rcases h2 with h2 | ⟨g, cap, cur, rfl, hb, hg, r⟩
  · exact Or.inl h2
  · refine Or.inr ⟨g, cap, cur, rfl, hb, ?_, r⟩
    rw [ht.block g (Array.getElem?_eq_some_iff.1 hg).1 (hv g rfl)]
    exact hg

theorem RD.away {w w' : World} {bd bf : Nat} {fv : Value} {d : DS} {M : List PF} {F : List Nat} (h : RD w bd bf fv d M) (ht : Touch F w w') (hF : ∀ k ∈ bd :: bf :: (fv.ownBlock.toList ++ rowsOf M), k ∉ F) : RD w' bd bf fv d M := by
  refine ⟨?_, ?_, ownsRow_touch h.row ht (fun k hk => hF k (by simp [hk])), h.files, fun m hm => ?_, h.nodup⟩
  · rw [ht.block bd (h.lt bd (by simp)) (hF bd (by simp))]; exact h.disk
  · rw [ht.block bf (h.lt bf (by simp)) (hF bf (by simp))]; exact h.faults
  · exact (h.rows m hm).touch ht (fun k hk => hF k (by simp [mem_rows hm hk]))

/-- the two blocks of numbers turn; the files stay -/
theorem RD.turn {w w' : World} {bd bf : Nat} {fv : Value} {d d' : DS} {M : List PF} (h : RD w bd bf fv d M) (hd : w'.heap[bd]? = some (.cells (RC d' fv bf) 73 (0, 0))) (hf : w'.heap[bf]? = some (.cells (FC d') 3 (0, 0))) (ht : Touch [bd, bf] w w') (he : d'.files = d.files) : RD w' bd bf fv d' M := by
  have hn := h.nodup
  simp only [List.nodup_cons, List.mem_cons, List.mem_append, not_or] at hn
  refine ⟨hd, hf, ownsRow_touch h.row ht (fun k hk => ?_), he.trans h.files, fun m hm => (h.rows m hm).touch ht (fun k hk => ?_), h.nodup⟩
  · simp only [List.mem_cons, List.not_mem_nil, or_false, not_or]
    exact ⟨fun e => hn.1.2.1 (by rw [← e]; simp [hk]), fun e => hn.2.1.1 (by rw [← e]; simp [hk])⟩
  · have := mem_rows hm hk
    simp only [List.mem_cons, List.not_mem_nil, or_false, not_or]
    exact ⟨fun e => hn.1.2.2 (e ▸ this), fun e => hn.2.1.2 (e ▸ this)⟩
theorem RD.ne {w : World} {bd bf : Nat} {fv : Value} {d : DS} {M : List PF} (h : RD w bd bf fv d M) : bd ≠ bf := by
  have hn := h.nodup
  simp only [List.nodup_cons, List.mem_cons, List.mem_append, not_or] at hn
  exact hn.1.1

set_option maxHeartbeats 1000000 in
theorem now1 (w : World) (bd bf : Nat) (fv : Value) (d : DS) (M : List PF) (h : RD w bd bf fv d M) (h0 : 0 ≤ d.f1) (h1 : d.f1 ≤ 9223372036854775807) :
    Calls Try.prog 60 #[.pointer (some ⟨bd, 0, none⟩), .int .i64 1] w fun e w' => e = .returned (.bool (d.f1 == 1)) ∧ RD w' bd bf fv { d with f1 := dec d.f1 } M ∧ Touch [bd, bf] w w' := by
  obtain ⟨cc, _, _, fz⟩ := FCells h.faults
  have ff := fz 1
  obtain ⟨_, _, _, _, _, c5, _⟩ := RCells h.disk
  have HP : Hid (RD w bd bf fv d M) := h
  have hne : bf ≠ bd := fun e => h.ne e.symm
  clear h fz
  by_cases hz : 0 < d.f1
  · have E : Hid (dec d.f1 = d.f1 - 1) := by simp only [Hid, dec]; rw [if_neg (by omega)]
    go_enter Try.func60, Try.ntmps60
    go_wp2
    go_ret
    have hT : Touch [bd, bf] w (w.setCell ⟨bf, 1, none⟩ (.int .i64 (d.f1 - 1))) := (Touch.refl _ _).setCell (by simp) _
    refine ⟨by rw [← comes_beq]; rfl, ?_, hT⟩
    refine HP.out.turn ?_ ?_ hT rfl
    · rw [Below.heap_setCell _ _ _ _ (fun e => hne e.symm)]; exact HP.out.disk
    · rw [E.out]; exact heap_setCell_same _ _ _ _ _ _ HP.out.faults
  · have hz0 : d.f1 = 0 := by omega
    have E : Hid ({ d with f1 := dec d.f1 } = d ∧ (d.f1 == 1) = false) := by
      cases d
      simp only at hz0
      subst hz0
      exact ⟨rfl, rfl⟩
    clear hz0
    go_enter Try.func60, Try.ntmps60
    go_wp2
    go_ret
    exact ⟨by rw [E.out.2]; rfl, by rw [E.out.1]; exact HP.out, Touch.refl _ _⟩

set_option maxHeartbeats 1000000 in
theorem now2 (w : World) (bd bf : Nat) (fv : Value) (d : DS) (M : List PF) (h : RD w bd bf fv d M) (h0 : 0 ≤ d.f2) (h1 : d.f2 ≤ 9223372036854775807) :
    Calls Try.prog 60 #[.pointer (some ⟨bd, 0, none⟩), .int .i64 2] w fun e w' => e = .returned (.bool (d.f2 == 1)) ∧ RD w' bd bf fv { d with f2 := dec d.f2 } M ∧ Touch [bd, bf] w w' := by
  obtain ⟨_, cc, _, fz⟩ := FCells h.faults
  have ff := fz 2
  obtain ⟨_, _, _, _, _, c5, _⟩ := RCells h.disk
  have HP : Hid (RD w bd bf fv d M) := h
  have hne : bf ≠ bd := fun e => h.ne e.symm
  clear h fz
  by_cases hz : 0 < d.f2
  · have E : Hid (dec d.f2 = d.f2 - 1) := by simp only [Hid, dec]; rw [if_neg (by omega)]
    go_enter Try.func60, Try.ntmps60
    go_wp2
    go_ret
    have hT : Touch [bd, bf] w (w.setCell ⟨bf, 2, none⟩ (.int .i64 (d.f2 - 1))) := (Touch.refl _ _).setCell (by simp) _
    refine ⟨by rw [← comes_beq]; rfl, ?_, hT⟩
    refine HP.out.turn ?_ ?_ hT rfl
    · rw [Below.heap_setCell _ _ _ _ (fun e => hne e.symm)]; exact HP.out.disk
    · rw [E.out]; exact heap_setCell_same _ _ _ _ _ _ HP.out.faults
  · have hz0 : d.f2 = 0 := by omega
    have E : Hid ({ d with f2 := dec d.f2 } = d ∧ (d.f2 == 1) = false) := by
      cases d
      simp only at hz0
      subst hz0
      exact ⟨rfl, rfl⟩
    clear hz0
    go_enter Try.func60, Try.ntmps60
    go_wp2
    go_ret
    exact ⟨by rw [E.out.2]; rfl, by rw [E.out.1]; exact HP.out, Touch.refl _ _⟩

set_option maxHeartbeats 1000000 in
theorem now3 (w : World) (bd bf : Nat) (fv : Value) (d : DS) (M : List PF) (h : RD w bd bf fv d M) (h0 : 0 ≤ d.f3) (h1 : d.f3 ≤ 9223372036854775807) :
    Calls Try.prog 60 #[.pointer (some ⟨bd, 0, none⟩), .int .i64 3] w fun e w' => e = .returned (.bool (d.f3 == 1)) ∧ RD w' bd bf fv { d with f3 := dec d.f3 } M ∧ Touch [bd, bf] w w' := by
  obtain ⟨_, _, cc, fz⟩ := FCells h.faults
  have ff := fz 3
  obtain ⟨_, _, _, _, _, c5, _⟩ := RCells h.disk
  have HP : Hid (RD w bd bf fv d M) := h
  have hne : bf ≠ bd := fun e => h.ne e.symm
  clear h fz
  by_cases hz : 0 < d.f3
  · have E : Hid (dec d.f3 = d.f3 - 1) := by simp only [Hid, dec]; rw [if_neg (by omega)]
    go_enter Try.func60, Try.ntmps60
    go_wp2
    go_ret
    have hT : Touch [bd, bf] w (w.setCell ⟨bf, 3, none⟩ (.int .i64 (d.f3 - 1))) := (Touch.refl _ _).setCell (by simp) _
    refine ⟨by rw [← comes_beq]; rfl, ?_, hT⟩
    refine HP.out.turn ?_ ?_ hT rfl
    · rw [Below.heap_setCell _ _ _ _ (fun e => hne e.symm)]; exact HP.out.disk
    · rw [E.out]; exact heap_setCell_same _ _ _ _ _ _ HP.out.faults
  · have hz0 : d.f3 = 0 := by omega
    have E : Hid ({ d with f3 := dec d.f3 } = d ∧ (d.f3 == 1) = false) := by
      cases d
      simp only at hz0
      subst hz0
      exact ⟨rfl, rfl⟩
    clear hz0
    go_enter Try.func60, Try.ntmps60
    go_wp2
    go_ret
    exact ⟨by rw [E.out.2]; rfl, by rw [E.out.1]; exact HP.out, Touch.refl _ _⟩
end Go.Proofs.Ytjoinhljdbljaaa
