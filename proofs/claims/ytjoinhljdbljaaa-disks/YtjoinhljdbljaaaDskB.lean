/- The given disk, as it lies in memory, and the walks of its small calls. -/
import Derived.Test.YtjoinhljdbljaaaDskA
namespace Go.Proofs.Ytjoinhljdbljaaa
open Go.RowKit
open Go.ChangeMaps (setBlock)

abbrev FL := Int × List ByteArray
structure DS where
  block : Int
  blocks : Int
  last : Int
  wrote : Int
  files : List FL
  f1 : Int
  f2 : Int
  f3 : Int
  bit : Int

def usedOf (l : List FL) : Nat := (l.map fun f => f.2.length).sum

def DC (d : DS) (bm : Nat) : Array Value :=
  #[.int .i64 d.block, .int .i64 d.blocks, .int .i64 d.last, .map (some bm), .int .i64 (usedOf d.files : Int), .int .i64 d.wrote, .int .i64 0, .int .i64 d.f1, .int .i64 d.f2, .int .i64 d.f3, .int .i64 d.bit]

/-- outside the blocks of F all that was there is as it was -/
structure Touch (F : List Nat) (w w' : World) : Prop where
  os : w'.os = w.os
  tape : w'.tape = w.tape
  output : w'.output = w.output
  size : w.heap.size ≤ w'.heap.size
  block : ∀ k, k < w.heap.size → k ∉ F → w'.heap[k]? = w.heap[k]?
theorem Touch.refl (F : List Nat) (w : World) : Touch F w w := ⟨rfl, rfl, rfl, Nat.le_refl _, fun _ _ _ => rfl⟩
theorem Touch.trans {F : List Nat} {a b c : World} (h : Touch F a b) (k : Touch F b c) : Touch F a c :=
  ⟨k.os.trans h.os, k.tape.trans h.tape, k.output.trans h.output, Nat.le_trans h.size k.size, fun i hi hn => (k.block i (Nat.lt_of_lt_of_le hi h.size) hn).trans (h.block i hi hn)⟩
theorem Touch.drew {F : List Nat} {a w : World} (h : Touch F a w) : Touch F a w.drew := ⟨h.os, h.tape, h.output, h.size, h.block⟩
theorem Touch.alloc {F : List Nat} {a w : World} (h : Touch F a w) (o : Obj) : Touch F a (w.alloc o) :=
  h.trans ⟨rfl, rfl, rfl, by simp, fun k hk _ => Below.heap_alloc _ _ _ hk⟩
theorem Touch.setCell {F : List Nat} {a w : World} (h : Touch F a w) {p : Addr} (hp : p.block ∈ F) (u : Value) : Touch F a (w.setCell p u) :=
  h.trans ⟨rfl, rfl, rfl, by simp, fun k _ hn => Below.heap_setCell _ _ _ _ (fun e => hn (e ▸ hp))⟩
theorem Touch.setBlock {F : List Nat} {a w : World} (h : Touch F a w) {b : Nat} (hp : b ∈ F) (o : Obj) : Touch F a (setBlock w b o) :=
  h.trans ⟨rfl, rfl, rfl, by simp [Go.ChangeMaps.setBlock], fun k _ hn => by simp only [Go.ChangeMaps.setBlock]; rw [Array.getElem?_setIfInBounds, if_neg (fun (e : b = k) => hn (e ▸ hp))]⟩
theorem Touch.grown {F : List Nat} {a w w' : World} {row : Option Nat} (h : Touch F a w) (hg : w.grownBy w' row) (hr : ∀ k, row = some k → k ∈ F) : Touch F a w' :=
  h.trans ⟨hg.os, hg.tape, hg.output, hg.size, fun k hk hn => hg.block k hk (fun e => hn (hr k e.symm))⟩
theorem Touch.mono {F F' : List Nat} {w w' : World} (h : Touch F w w') (hF : ∀ k ∈ F, k ∈ F') : Touch F' w w' := ⟨h.os, h.tape, h.output, h.size, fun k hk hn => h.block k hk (fun e => hn (hF k e))⟩

def SRow (w : World) (v : Value) (bs : List ByteArray) : Prop := w.ownsRow 0 9 1 v bs.length (bs.map Value.string)

/-- a file as the given disk has it: its number, its slice, its blocks -/
abbrev PF := Int × Value × List ByteArray
def entsOf (M : List PF) : List Ent := M.map fun m => (m.1, m.2.1)
def filesOf (M : List PF) : List FL := M.map fun m => (m.1, m.2.2)
def rowsOf (M : List PF) : List Nat := M.flatMap fun m => m.2.1.ownBlock.toList

structure PD (w : World) (bx bm : Nat) (d : DS) (M : List PF) : Prop where
  disk : w.heap[bx]? = some (.cells (DC d bm) 69 (0, 0))
  map : ∃ es clock, w.heap[bm]? = some (.map es clock) ∧ Ents es (entsOf M)
  files : d.files = filesOf M
  rows : ∀ m ∈ M, SRow w m.2.1 m.2.2
  nodup : (bx :: bm :: rowsOf M).Nodup

theorem DCells {w : World} {bx bm : Nat} {d : DS} (h : w.heap[bx]? = some (.cells (DC d bm) 69 (0, 0))) :
    w.cell? ⟨bx, 0, none⟩ = some (.int .i64 d.block) ∧ w.cell? ⟨bx, 1, none⟩ = some (.int .i64 d.blocks) ∧ w.cell? ⟨bx, 2, none⟩ = some (.int .i64 d.last) ∧ w.cell? ⟨bx, 3, none⟩ = some (.map (some bm)) ∧
    w.cell? ⟨bx, 4, none⟩ = some (.int .i64 (usedOf d.files : Int)) ∧ w.cell? ⟨bx, 5, none⟩ = some (.int .i64 d.wrote) ∧ w.cell? ⟨bx, 7, none⟩ = some (.int .i64 d.f1) ∧ w.cell? ⟨bx, 8, none⟩ = some (.int .i64 d.f2) ∧
    w.cell? ⟨bx, 9, none⟩ = some (.int .i64 d.f3) ∧ w.cell? ⟨bx, 10, none⟩ = some (.int .i64 d.bit) ∧ (∀ o, w.frozen? ⟨bx, o, none⟩ = false) := by
  refine ⟨?_, ?_, ?_, ?_, ?_, ?_, ?_, ?_, ?_, ?_, ?_⟩
  all_goals first | (intro o; simp [World.frozen?, h]; done) | simp [World.cell?, h, DC]

def dec (f : Int) : Int := if f = 0 then 0 else f - 1

theorem comes_beq (f : Int) : (f - 1 == 0) = (f == 1) := by
  rw [Bool.eq_iff_iff]; simp; omega

set_option maxHeartbeats 1000000 in
theorem comes1 (w : World) (bx bm : Nat) (d : DS) (h : w.heap[bx]? = some (.cells (DC d bm) 69 (0, 0))) (h0 : 0 ≤ d.f1) (h1 : d.f1 ≤ 9223372036854775807) :
    Calls Try.prog 58 #[.pointer (some ⟨bx, 0, none⟩), .int .i64 1] w fun e w' => e = .returned (.bool (d.f1 == 1)) ∧ w'.heap[bx]? = some (.cells (DC { d with f1 := dec d.f1 } bm) 69 (0, 0)) ∧ Touch [bx] w w' := by
  obtain ⟨_, _, _, _, _, _, cc, _, _, _, fz⟩ := DCells h
  have ff := fz 7
  have H : Hid (w.heap[bx]? = some (.cells (DC d bm) 69 (0, 0))) := h
  clear h fz
  by_cases hz : d.f1 = 0
  · have hb : (d.f1 == 0) = true := by simp [hz]
    have E : Hid ({ d with f1 := dec d.f1 } = d ∧ (d.f1 == 1) = false) := by
      cases d
      simp only at hz
      subst hz
      exact ⟨rfl, rfl⟩
    clear hz
    go_enter Try.func58, Try.ntmps58
    go_wp2
    go_ret
    exact ⟨by rw [E.out.2]; rfl, by rw [E.out.1]; exact H.out, Touch.refl _ _⟩
  · have hb : (d.f1 == 0) = false := by simp [hz]
    have E : Hid (dec d.f1 = d.f1 - 1) := by simp [Hid, dec, hz]
    clear hz
    go_enter Try.func58, Try.ntmps58
    go_wp2
    go_region
    all_goals
      go_wp2
      go_ret
      refine ⟨by rw [← comes_beq]; rfl, ?_, ((Touch.refl _ _).drew).setCell (by simp) _⟩
      rw [E.out]
      exact heap_setCell_same _ _ _ _ _ _ H.out

set_option maxHeartbeats 1000000 in
theorem comes2 (w : World) (bx bm : Nat) (d : DS) (h : w.heap[bx]? = some (.cells (DC d bm) 69 (0, 0))) (h0 : 0 ≤ d.f2) (h1 : d.f2 ≤ 9223372036854775807) :
    Calls Try.prog 58 #[.pointer (some ⟨bx, 0, none⟩), .int .i64 2] w fun e w' => e = .returned (.bool (d.f2 == 1)) ∧ w'.heap[bx]? = some (.cells (DC { d with f2 := dec d.f2 } bm) 69 (0, 0)) ∧ Touch [bx] w w' := by
  obtain ⟨_, _, _, _, _, _, _, cc, _, _, fz⟩ := DCells h
  have ff := fz 8
  have H : Hid (w.heap[bx]? = some (.cells (DC d bm) 69 (0, 0))) := h
  clear h fz
  by_cases hz : d.f2 = 0
  · have hb : (d.f2 == 0) = true := by simp [hz]
    have E : Hid ({ d with f2 := dec d.f2 } = d ∧ (d.f2 == 1) = false) := by
      cases d
      simp only at hz
      subst hz
      exact ⟨rfl, rfl⟩
    clear hz
    go_enter Try.func58, Try.ntmps58
    go_wp2
    go_ret
    exact ⟨by rw [E.out.2]; rfl, by rw [E.out.1]; exact H.out, Touch.refl _ _⟩
  · have hb : (d.f2 == 0) = false := by simp [hz]
    have E : Hid (dec d.f2 = d.f2 - 1) := by simp [Hid, dec, hz]
    clear hz
    go_enter Try.func58, Try.ntmps58
    go_wp2
    go_region
    all_goals
      go_wp2
      go_ret
      refine ⟨by rw [← comes_beq]; rfl, ?_, ((Touch.refl _ _).drew).setCell (by simp) _⟩
      rw [E.out]
      exact heap_setCell_same _ _ _ _ _ _ H.out

set_option maxHeartbeats 1000000 in
theorem comes3 (w : World) (bx bm : Nat) (d : DS) (h : w.heap[bx]? = some (.cells (DC d bm) 69 (0, 0))) (h0 : 0 ≤ d.f3) (h1 : d.f3 ≤ 9223372036854775807) :
    Calls Try.prog 58 #[.pointer (some ⟨bx, 0, none⟩), .int .i64 3] w fun e w' => e = .returned (.bool (d.f3 == 1)) ∧ w'.heap[bx]? = some (.cells (DC { d with f3 := dec d.f3 } bm) 69 (0, 0)) ∧ Touch [bx] w w' := by
  obtain ⟨_, _, _, _, _, _, _, _, cc, _, fz⟩ := DCells h
  have ff := fz 9
  have H : Hid (w.heap[bx]? = some (.cells (DC d bm) 69 (0, 0))) := h
  clear h fz
  by_cases hz : d.f3 = 0
  · have hb : (d.f3 == 0) = true := by simp [hz]
    have E : Hid ({ d with f3 := dec d.f3 } = d ∧ (d.f3 == 1) = false) := by
      cases d
      simp only at hz
      subst hz
      exact ⟨rfl, rfl⟩
    clear hz
    go_enter Try.func58, Try.ntmps58
    go_wp2
    go_ret
    exact ⟨by rw [E.out.2]; rfl, by rw [E.out.1]; exact H.out, Touch.refl _ _⟩
  · have hb : (d.f3 == 0) = false := by simp [hz]
    have E : Hid (dec d.f3 = d.f3 - 1) := by simp [Hid, dec, hz]
    clear hz
    go_enter Try.func58, Try.ntmps58
    go_wp2
    go_region
    all_goals
      go_wp2
      go_ret
      refine ⟨by rw [← comes_beq]; rfl, ?_, ((Touch.refl _ _).drew).setCell (by simp) _⟩
      rw [E.out]
      exact heap_setCell_same _ _ _ _ _ _ H.out
end Go.Proofs.Ytjoinhljdbljaaa
