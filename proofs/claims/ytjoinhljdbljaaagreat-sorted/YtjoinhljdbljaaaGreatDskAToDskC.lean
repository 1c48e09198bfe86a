/- What a map from ints to one-cell values does, entry by entry. The given disk, as it lies in memory, and the walks of its small calls. The walks of the given disk's calls that only read, or turn a number. -/
import Derived.Test.YtjoinhljdbljaaaGreatKeyAToKeyD
import Derived.Deep.RegionWith
import Derived.Deep.RegionHeld3
import Derived.Deep.AppendLies
import Derived.MapKept
import Derived.Maps.OwnSet
import Derived.Deep.RegionLaw
namespace Go.Proofs.YtjoinhljdbljaaaGreat
open Go.RowKit
open Go.ChangeMaps (setBlock)
open Go.MapKept

abbrev MEnt := Int × Value

def Ents (es : Array MapEntry) (L : List MEnt) : Prop := es.toList.map (fun e => (e.key, e.val)) = L.map fun p => (Value.int .i64 p.1, p.2)

theorem Ents.len {es : Array MapEntry} {L : List MEnt} (h : Ents es L) : es.size = L.length := by
  have := congrArg List.length h
  simpa using this

theorem Ents.at {es : Array MapEntry} {L : List MEnt} (h : Ents es L) (i : Nat) (e : MapEntry) (he : es.toList[i]? = some e) : ∃ p, L[i]? = some p ∧ e.key = .int .i64 p.1 ∧ e.val = p.2 := by
  have := congrArg (fun l => l[i]?) h
  simp only [List.getElem?_map, he, Option.map_some] at this
  cases hp : L[i]? with
  | none => simp [hp] at this
  | some p =>
    simp only [hp, Option.map_some, Option.some.injEq, Prod.mk.injEq] at this
    exact ⟨p, rfl, this.1, this.2⟩

theorem isKey (k : Int) : IsKey (.int .i64) (.int .i64 k) := by
  simp [IsKey]

def Uniq (L : List MEnt) : Prop := ∀ (i j : Nat) (a b : MEnt), L[i]? = some a → L[j]? = some b → a.1 = b.1 → i = j

theorem find_none {es : Array MapEntry} {L : List MEnt} (h : Ents es L) (k : Int) (hk : ∀ p ∈ L, p.1 ≠ k) : Instr.findNow (.int .i64) (.int .i64 k) es.toList 0 = some none := by
  have hkeys : ∀ x ∈ es.toList, IsKey (.int .i64) x.key := by
    intro x hx
    obtain ⟨j, hj, rfl⟩ := List.getElem_of_mem hx
    obtain ⟨q, _, h4, _⟩ := h.at j _ (List.getElem?_eq_getElem hj)
    rw [h4]; exact isKey _
  rcases findNow_spec (isKey k) es.toList 0 hkeys with h1 | ⟨j, e, _, h2, h3⟩
  · exact h1.1
  · obtain ⟨p, hp, h4, _⟩ := h.at j e h2
    rw [h3] at h4
    simp only [Value.int.injEq, true_and] at h4
    exact absurd h4.symm (hk p (List.mem_of_getElem? hp))
theorem find_some {es : Array MapEntry} {L : List MEnt} (h : Ents es L) (hu : Uniq L) (i : Nat) (p : MEnt) (hp : L[i]? = some p) : Instr.findNow (.int .i64) (.int .i64 p.1) es.toList 0 = some (some (i, p.2)) := by
  have hkeys : ∀ x ∈ es.toList, IsKey (.int .i64) x.key := by
    intro x hx
    obtain ⟨j, hj, rfl⟩ := List.getElem_of_mem hx
    obtain ⟨q, _, h4, _⟩ := h.at j _ (List.getElem?_eq_getElem hj)
    rw [h4]; exact isKey _
  have hi : i < es.toList.length := by
    have := (List.getElem?_eq_some_iff.1 hp).1
    have := h.len
    simp; omega
  rcases findNow_spec (isKey p.1) es.toList 0 hkeys with h1 | ⟨j, e, h1, h2, h3⟩
  · obtain ⟨q, hq, h4, _⟩ := h.at i _ (List.getElem?_eq_getElem hi)
    rw [hp] at hq
    cases hq
    exact absurd h4 (h1.2 _ (List.getElem_mem hi))
  · obtain ⟨q, hq, h4, h5⟩ := h.at j e h2
    rw [h3] at h4
    simp only [Value.int.injEq, true_and] at h4
    have : i = j := hu i j p q hp hq h4
    subst this
    rw [hp] at hq
    cases hq
    rw [h1, h5, Nat.zero_add]

theorem run_findKey {w : World} {k : Value} {es : Array MapEntry} {r : Option (Nat × Value)} (h : Instr.findNow (.int .i64) k es.toList 0 = some r) : (Instr.findKey 3 k es.toList).run Tryz.prog w = .ok r w := by
  simp [Instr.findKey, run_underlying Tryz.underlying3, h]

theorem zero129 (w : World) : (zeroValue 255).run Tryz.prog w = .ok (.slice none 0 0) w := by kernel_rfl

theorem run_look_none {w : World} {bm clock : Nat} {es : Array MapEntry} {L : List MEnt} (hb : w.heap[bm]? = some (.map es clock)) (h : Ents es L) (k : Int) (hk : ∀ p ∈ L, p.1 ≠ k) (c : Bool) :
    (Instr.lookup 114 (.map (some bm)) (.int .i64 k) c).run Tryz.prog w = .ok (if c then .tuple #[.slice none 0 0, .bool false] else .slice none 0 0) w := by
  unfold Instr.lookup
  simp only [Sem.run_bind, run_underlying Tryz.underlying114, MapKept.run_getObj_map hb, Result.andThen_ok, Sem.run_pure, MapKept.run_checkKey Tryz.underlying3 (isKey k), run_findKey (find_none h k hk), zero129]

theorem run_look_some {w : World} {bm clock : Nat} {es : Array MapEntry} {L : List MEnt} (hb : w.heap[bm]? = some (.map es clock)) (h : Ents es L) (hu : Uniq L) (i : Nat) (p : MEnt) (hp : L[i]? = some p) (c : Bool) :
    (Instr.lookup 114 (.map (some bm)) (.int .i64 p.1) c).run Tryz.prog w = .ok (if c then .tuple #[p.2, .bool true] else p.2) w := by
  unfold Instr.lookup
  simp only [Sem.run_bind, run_underlying Tryz.underlying114, MapKept.run_getObj_map hb, Result.andThen_ok, Sem.run_pure, MapKept.run_checkKey Tryz.underlying3 (isKey p.1), run_findKey (find_some h hu i p hp)]

theorem Ents.push {es : Array MapEntry} {L : List MEnt} (h : Ents es L) (k : Int) (v : Value) (c : Nat) : Ents (es.push ⟨.int .i64 k, v, c⟩) (L ++ [(k, v)]) := by
  unfold Ents at *
  simp [h]

theorem Ents.set {es : Array MapEntry} {L : List MEnt} (h : Ents es L) (i : Nat) (k : Int) (v : Value) : Ents (es.modify i fun e => { e with key := .int .i64 k, val := v }) (L.set i (k, v)) := by
  unfold Ents at *
  apply List.ext_getElem?
  intro j
  have hj := congrArg (fun l => l[j]?) h
  simp only [List.getElem?_map, Array.getElem?_toList, Array.getElem?_modify, List.getElem?_set] at hj ⊢
  by_cases e : i = j
  · subst e
    have hl := (show Ents es L from h).len
    by_cases hlt : i < L.length
    · simp [hlt, hl]
    · simp [hlt, hl]
  · simp only [e, if_false]
    exact hj

theorem map_erase {α β : Type} (f : α → β) : ∀ (l : List α) (i : Nat), (l.eraseIdx i).map f = (l.map f).eraseIdx i
  | [], _ => rfl
  | _ :: _, 0 => rfl
  | a :: l, i + 1 => by simp [List.eraseIdx, map_erase f l i]

theorem Ents.erase {es : Array MapEntry} {L : List MEnt} (h : Ents es L) (i : Nat) : Ents (es.eraseIdxIfInBounds i) (L.eraseIdx i) := by
  unfold Ents at *
  by_cases hi : i < es.size
  · have : (es.eraseIdxIfInBounds i).toList = es.toList.eraseIdx i := by simp [Array.eraseIdxIfInBounds, hi]
    rw [this, map_erase, map_erase, h]
  · have hl := (show Ents es L from h).len
    have : es.eraseIdxIfInBounds i = es := by simp [Array.eraseIdxIfInBounds, hi]
    rw [this, List.eraseIdx_of_length_le (by omega)]
    exact h

theorem run_update_none {w : World} {bm clock : Nat} {es : Array MapEntry} {L : List MEnt} (hb : w.heap[bm]? = some (.map es clock)) (h : Ents es L) (k : Int) (v : Value) (hk : ∀ p ∈ L, p.1 ≠ k) :
    (Instr.mapUpdate 114 (.map (some bm)) (.int .i64 k) v).run Tryz.prog w = .ok () (setBlock w bm (.map (es.push ⟨.int .i64 k, v, clock⟩) (clock + 1))) := by
  unfold Instr.mapUpdate
  simp only [Sem.run_bind, run_underlying Tryz.underlying114, MapKept.run_getObj_map hb, Result.andThen_ok, MapKept.run_checkKey Tryz.underlying3 (isKey k), run_findKey (find_none h k hk), MapKept.run_setObj_map _ hb]
  rfl

theorem run_update_some {w : World} {bm clock : Nat} {es : Array MapEntry} {L : List MEnt} (hb : w.heap[bm]? = some (.map es clock)) (h : Ents es L) (hu : Uniq L) (i : Nat) (p : MEnt) (hp : L[i]? = some p) (v : Value) :
    (Instr.mapUpdate 114 (.map (some bm)) (.int .i64 p.1) v).run Tryz.prog w = .ok () (setBlock w bm (.map (es.modify i fun e => { e with key := .int .i64 p.1, val := v }) clock)) := by
  have hi : i < es.size := by
    have := (List.getElem?_eq_some_iff.1 hp).1
    have := h.len
    omega
  obtain ⟨q, hq, h4, _⟩ := h.at i es[i] (by simp [hi])
  rw [hp] at hq
  cases hq
  unfold Instr.mapUpdate
  simp only [Sem.run_bind, run_underlying Tryz.underlying114, MapKept.run_getObj_map hb, Result.andThen_ok, MapKept.run_checkKey Tryz.underlying3 (isKey p.1), run_findKey (find_some h hu i p hp), Instr.keyThatStays,
    Array.getElem?_eq_getElem hi, Option.map_some, Option.getD_some, h4, Instr.sameBits, beq_self_eq_true, Bool.and_self, if_true, Sem.run_pure, MapKept.run_setObj_map _ hb]
  rfl

theorem run_delete_some {w : World} {bm clock : Nat} {es : Array MapEntry} {L : List MEnt} (hb : w.heap[bm]? = some (.map es clock)) (h : Ents es L) (hu : Uniq L) (i : Nat) (p : MEnt) (hp : L[i]? = some p) (ty : TypeId) :
    (Builtin.delete_ #[114, 3] ty #[.map (some bm), .int .i64 p.1]).run Tryz.prog w = .ok (.tuple #[]) (setBlock w bm (.map (es.eraseIdxIfInBounds i) clock)) := by
  unfold Builtin.delete_
  simp [run_underlying Tryz.underlying114, MapKept.run_getObj_map hb, MapKept.run_checkKey Tryz.underlying3 (isKey p.1), run_findKey (find_some h hu i p hp), MapKept.run_setObj_map _ hb]
  rfl
end Go.Proofs.YtjoinhljdbljaaaGreat

namespace Go.Proofs.YtjoinhljdbljaaaGreat
open Go.RowKit
open Go.ChangeMaps (setBlock)

abbrev FL := Int × List ByteArray
structure DS where
  block : Int
  blocks : Int
  last : Int
  wrote : Int
  files : List FL
  f1 : Int
  f2 : Int
  f3 : Int
  bit : Int

def usedOf (l : List FL) : Nat := (l.map fun f => f.2.length).sum

def DC (d : DS) (bm : Nat) : Array Value :=
  #[.int .i64 d.block, .int .i64 d.blocks, .int .i64 d.last, .map (some bm), .int .i64 (usedOf d.files : Int), .int .i64 d.wrote, .int .i64 0, .int .i64 d.f1, .int .i64 d.f2, .int .i64 d.f3, .int .i64 d.bit]

/-- outside the blocks of F all that was there is as it was -/
structure Touch (F : List Nat) (w w' : World) : Prop where
  os : w'.os = w.os
  tape : w'.tape = w.tape
  output : w'.output = w.output
  size : w.heap.size ≤ w'.heap.size
  block : ∀ k, k < w.heap.size → k ∉ F → w'.heap[k]? = w.heap[k]?
theorem Touch.refl (F : List Nat) (w : World) : Touch F w w := ⟨rfl, rfl, rfl, Nat.le_refl _, fun _ _ _ => rfl⟩
theorem Touch.trans {F : List Nat} {a b c : World} (h : Touch F a b) (k : Touch F b c) : Touch F a c :=
  ⟨k.os.trans h.os, k.tape.trans h.tape, k.output.trans h.output, Nat.le_trans h.size k.size, fun i hi hn => (k.block i (Nat.lt_of_lt_of_le hi h.size) hn).trans (h.block i hi hn)⟩
theorem Touch.drew {F : List Nat} {a w : World} (h : Touch F a w) : Touch F a w.drew := ⟨h.os, h.tape, h.output, h.size, h.block⟩
theorem Touch.alloc {F : List Nat} {a w : World} (h : Touch F a w) (o : Obj) : Touch F a (w.alloc o) :=
  h.trans ⟨rfl, rfl, rfl, by simp, fun k hk _ => Below.heap_alloc _ _ _ hk⟩
theorem Touch.setCell {F : List Nat} {a w : World} (h : Touch F a w) {p : Addr} (hp : p.block ∈ F) (u : Value) : Touch F a (w.setCell p u) :=
  h.trans ⟨rfl, rfl, rfl, by simp, fun k _ hn => Below.heap_setCell _ _ _ _ (fun e => hn (e ▸ hp))⟩
theorem Touch.setBlock {F : List Nat} {a w : World} (h : Touch F a w) {b : Nat} (hp : b ∈ F) (o : Obj) : Touch F a (setBlock w b o) :=
  h.trans ⟨rfl, rfl, rfl, by simp [Go.ChangeMaps.setBlock], fun k _ hn => by simp only [Go.ChangeMaps.setBlock]; rw [Array.getElem?_setIfInBounds, if_neg (fun (e : b = k) => hn (e ▸ hp))]⟩
theorem Touch.grown {F : List Nat} {a w w' : World} {row : Option Nat} (h : Touch F a w) (hg : w.grownBy w' row) (hr : ∀ k, row = some k → k ∈ F) : Touch F a w' :=
  h.trans ⟨hg.os, hg.tape, hg.output, hg.size, fun k hk hn => hg.block k hk (fun e => hn (hr k e.symm))⟩
theorem Touch.mono {F F' : List Nat} {w w' : World} (h : Touch F w w') (hF : ∀ k ∈ F, k ∈ F') : Touch F' w w' := ⟨h.os, h.tape, h.output, h.size, fun k hk hn => h.block k hk (fun e => hn (hF k e))⟩

def SRow (w : World) (v : Value) (bs : List ByteArray) : Prop := w.ownsRow 0 9 1 v bs.length (bs.map Value.string)

/-- a file as the given disk has it: its number, its slice, its blocks -/
abbrev PF := Int × Value × List ByteArray
def entsOf (M : List PF) : List MEnt := M.map fun m => (m.1, m.2.1)
def filesOf (M : List PF) : List FL := M.map fun m => (m.1, m.2.2)
def rowsOf (M : List PF) : List Nat := M.flatMap fun m => m.2.1.ownBlock.toList

structure PD (w : World) (bx bm : Nat) (d : DS) (M : List PF) : Prop where
  disk : w.heap[bx]? = some (.cells (DC d bm) 117 (0, 0))
  map : ∃ es clock, w.heap[bm]? = some (.map es clock) ∧ Ents es (entsOf M)
  files : d.files = filesOf M
  rows : ∀ m ∈ M, SRow w m.2.1 m.2.2
  nodup : (bx :: bm :: rowsOf M).Nodup

theorem DCells {w : World} {bx bm : Nat} {d : DS} (h : w.heap[bx]? = some (.cells (DC d bm) 117 (0, 0))) :
    w.cell? ⟨bx, 0, none⟩ = some (.int .i64 d.block) ∧ w.cell? ⟨bx, 1, none⟩ = some (.int .i64 d.blocks) ∧ w.cell? ⟨bx, 2, none⟩ = some (.int .i64 d.last) ∧ w.cell? ⟨bx, 3, none⟩ = some (.map (some bm)) ∧
    w.cell? ⟨bx, 4, none⟩ = some (.int .i64 (usedOf d.files : Int)) ∧ w.cell? ⟨bx, 5, none⟩ = some (.int .i64 d.wrote) ∧ w.cell? ⟨bx, 7, none⟩ = some (.int .i64 d.f1) ∧ w.cell? ⟨bx, 8, none⟩ = some (.int .i64 d.f2) ∧
    w.cell? ⟨bx, 9, none⟩ = some (.int .i64 d.f3) ∧ w.cell? ⟨bx, 10, none⟩ = some (.int .i64 d.bit) ∧ (∀ o, w.frozen? ⟨bx, o, none⟩ = false) := by
  refine ⟨?_, ?_, ?_, ?_, ?_, ?_, ?_, ?_, ?_, ?_, ?_⟩
  all_goals first | (intro o; simp [World.frozen?, h]; done) | simp [World.cell?, h, DC]

def dec (f : Int) : Int := if f = 0 then 0 else f - 1

theorem comes_beq (f : Int) : (f - 1 == 0) = (f == 1) := by
  rw [Bool.eq_iff_iff]; simp; omega

set_option maxHeartbeats 1000000 in
theorem comes1 (w : World) (bx bm : Nat) (d : DS) (h : w.heap[bx]? = some (.cells (DC d bm) 117 (0, 0))) (h0 : 0 ≤ d.f1) (h1 : d.f1 ≤ 9223372036854775807) :
    Calls Tryz.prog 212 #[.pointer (some ⟨bx, 0, none⟩), .int .i64 1] w fun e w' => e = .returned (.bool (d.f1 == 1)) ∧ w'.heap[bx]? = some (.cells (DC { d with f1 := dec d.f1 } bm) 117 (0, 0)) ∧ Touch [bx] w w' := by
  obtain ⟨_, _, _, _, _, _, cc, _, _, _, fz⟩ := DCells h
  have ff := fz 7
  have H : Hid (w.heap[bx]? = some (.cells (DC d bm) 117 (0, 0))) := h
  clear h fz
  by_cases hz : d.f1 = 0
  · have hb : (d.f1 == 0) = true := by simp [hz]
    have E : Hid ({ d with f1 := dec d.f1 } = d ∧ (d.f1 == 1) = false) := by
      cases d
      simp only at hz
      subst hz
      exact ⟨rfl, rfl⟩
    clear hz
    go_enter Tryz.func212, Tryz.ntmps212
    go_wp2
    go_ret
    exact ⟨by rw [E.out.2]; rfl, by rw [E.out.1]; exact H.out, Touch.refl _ _⟩
  · have hb : (d.f1 == 0) = false := by simp [hz]
    have E : Hid (dec d.f1 = d.f1 - 1) := by simp [Hid, dec, hz]
    clear hz
    go_enter Tryz.func212, Tryz.ntmps212
    go_wp2
    go_region
    all_goals
      go_wp2
      go_ret
      refine ⟨by rw [← comes_beq]; rfl, ?_, ((Touch.refl _ _).drew).setCell (by simp) _⟩
      rw [E.out]
      exact heap_setCell_same _ _ _ _ _ _ H.out

set_option maxHeartbeats 1000000 in
theorem comes2 (w : World) (bx bm : Nat) (d : DS) (h : w.heap[bx]? = some (.cells (DC d bm) 117 (0, 0))) (h0 : 0 ≤ d.f2) (h1 : d.f2 ≤ 9223372036854775807) :
    Calls Tryz.prog 212 #[.pointer (some ⟨bx, 0, none⟩), .int .i64 2] w fun e w' => e = .returned (.bool (d.f2 == 1)) ∧ w'.heap[bx]? = some (.cells (DC { d with f2 := dec d.f2 } bm) 117 (0, 0)) ∧ Touch [bx] w w' := by
  obtain ⟨_, _, _, _, _, _, _, cc, _, _, fz⟩ := DCells h
  have ff := fz 8
  have H : Hid (w.heap[bx]? = some (.cells (DC d bm) 117 (0, 0))) := h
  clear h fz
  by_cases hz : d.f2 = 0
  · have hb : (d.f2 == 0) = true := by simp [hz]
    have E : Hid ({ d with f2 := dec d.f2 } = d ∧ (d.f2 == 1) = false) := by
      cases d
      simp only at hz
      subst hz
      exact ⟨rfl, rfl⟩
    clear hz
    go_enter Tryz.func212, Tryz.ntmps212
    go_wp2
    go_ret
    exact ⟨by rw [E.out.2]; rfl, by rw [E.out.1]; exact H.out, Touch.refl _ _⟩
  · have hb : (d.f2 == 0) = false := by simp [hz]
    have E : Hid (dec d.f2 = d.f2 - 1) := by simp [Hid, dec, hz]
    clear hz
    go_enter Tryz.func212, Tryz.ntmps212
    go_wp2
    go_region
    all_goals
      go_wp2
      go_ret
      refine ⟨by rw [← comes_beq]; rfl, ?_, ((Touch.refl _ _).drew).setCell (by simp) _⟩
      rw [E.out]
      exact heap_setCell_same _ _ _ _ _ _ H.out

set_option maxHeartbeats 1000000 in
theorem comes3 (w : World) (bx bm : Nat) (d : DS) (h : w.heap[bx]? = some (.cells (DC d bm) 117 (0, 0))) (h0 : 0 ≤ d.f3) (h1 : d.f3 ≤ 9223372036854775807) :
    Calls Tryz.prog 212 #[.pointer (some ⟨bx, 0, none⟩), .int .i64 3] w fun e w' => e = .returned (.bool (d.f3 == 1)) ∧ w'.heap[bx]? = some (.cells (DC { d with f3 := dec d.f3 } bm) 117 (0, 0)) ∧ Touch [bx] w w' := by
  obtain ⟨_, _, _, _, _, _, _, _, cc, _, fz⟩ := DCells h
  have ff := fz 9
  have H : Hid (w.heap[bx]? = some (.cells (DC d bm) 117 (0, 0))) := h
  clear h fz
  by_cases hz : d.f3 = 0
  · have hb : (d.f3 == 0) = true := by simp [hz]
    have E : Hid ({ d with f3 := dec d.f3 } = d ∧ (d.f3 == 1) = false) := by
      cases d
      simp only at hz
      subst hz
      exact ⟨rfl, rfl⟩
    clear hz
    go_enter Tryz.func212, Tryz.ntmps212
    go_wp2
    go_ret
    exact ⟨by rw [E.out.2]; rfl, by rw [E.out.1]; exact H.out, Touch.refl _ _⟩
  · have hb : (d.f3 == 0) = false := by simp [hz]
    have E : Hid (dec d.f3 = d.f3 - 1) := by simp [Hid, dec, hz]
    clear hz
    go_enter Tryz.func212, Tryz.ntmps212
    go_wp2
    go_region
    all_goals
      go_wp2
      go_ret
      refine ⟨by rw [← comes_beq]; rfl, ?_, ((Touch.refl _ _).drew).setCell (by simp) _⟩
      rw [E.out]
      exact heap_setCell_same _ _ _ _ _ _ H.out
end Go.Proofs.YtjoinhljdbljaaaGreat

namespace Go.Proofs.YtjoinhljdbljaaaGreat
open Go.RowKit
open Go.ChangeMaps (setBlock)

theorem Touch.grownBy {F : List Nat} {w w' : World} (h : Touch F w w') {v : Value} (hv : ∀ k, v.ownBlock = some k → k < w.heap.size ∧ k ∉ F) : ∀ k, v.ownBlock = some k → w'.heap[k]? = w.heap[k]? :=
  fun k hk => h.block k (hv k hk).1 (hv k hk).2

theorem SRow.touch {F : List Nat} {w w' : World} {v : Value} {bs : List ByteArray} (h : SRow w v bs) (ht : Touch F w w') (hv : ∀ k, v.ownBlock = some k → k ∉ F) : SRow w' v bs := by
  obtain ⟨h1, h2⟩ := h
  refine ⟨h1, ?_⟩
  rcases h2 with h2 | ⟨g, cap, cur, rfl, hb, hg, r⟩
  · exact Or.inl h2
  · refine Or.inr ⟨g, cap, cur, rfl, hb, ?_, r⟩
    rw [ht.block g (Array.getElem?_eq_some_iff.1 hg).1 (hv g rfl)]
    exact hg

theorem SRow.shape {w : World} {v : Value} {bs : List ByteArray} (h : SRow w v bs) : ∃ ao cap, v = .slice ao bs.length cap ∧ bs.length ≤ maxLen := by
  rcases h.2 with ⟨rfl, h0⟩ | ⟨g, cap, cur, rfl, _, _, hc, hm, _⟩
  · exact ⟨none, 0, by rw [h0], by rw [h0]; exact Nat.zero_le _⟩
  · exact ⟨_, cap, rfl, Nat.le_trans hc hm⟩

theorem SRow.cell {w : World} {v : Value} {bs : List ByteArray} (h : SRow w v bs) (hne : 1 ≤ bs.length) : ∃ g cap, v = .slice (some ⟨g, 0, none⟩) bs.length cap ∧ bs.length ≤ cap ∧ ∀ i (hi : i < bs.length), w.cell? ⟨g, i, none⟩ = some (.string bs[i]) := by
  rcases h.2 with ⟨_, h0⟩ | ⟨g, cap, cur, rfl, _, hg, hc, _, _, ht⟩
  · omega
  · refine ⟨g, cap, rfl, hc, fun i hi => ?_⟩
    have := congrArg (fun l => l[i]?) ht
    simp only [Nat.mul_one, List.getElem?_take, if_pos hi, Array.getElem?_toList, List.getElem?_map, List.getElem?_eq_getElem hi, Option.map_some] at this
    simp [World.cell?, hg, this]

theorem row_cell {w : World} {g n cap : Nat} {bs : List ByteArray} (h : SRow w (.slice (some ⟨g, 0, none⟩) n cap) bs) (i : Nat) (hi : i < bs.length) : w.cell? ⟨g, i, none⟩ = some (.string bs[i]) := by
  obtain ⟨g', cap', e, _, hx⟩ := h.cell (by omega)
  simp only [Value.slice.injEq, Option.some.injEq, Addr.mk.injEq, and_true] at e
  obtain ⟨rfl, _⟩ := e
  exact hx i hi

theorem mem_rows {M : List PF} {m : PF} (hm : m ∈ M) {k : Nat} (hk : m.2.1.ownBlock = some k) : k ∈ rowsOf M := by
  unfold rowsOf
  rw [List.mem_flatMap]
  exact ⟨m, hm, by simp [hk]⟩

theorem PD.lt {w : World} {bx bm : Nat} {d : DS} {M : List PF} (h : PD w bx bm d M) : ∀ k ∈ bx :: bm :: rowsOf M, k < w.heap.size := by
  intro k hk
  simp only [List.mem_cons] at hk
  rcases hk with rfl | rfl | hk
  · exact (Array.getElem?_eq_some_iff.1 h.disk).1
  · obtain ⟨es, c, hb, _⟩ := h.map
    exact (Array.getElem?_eq_some_iff.1 hb).1
  · unfold rowsOf at hk
    obtain ⟨m, hm, hk⟩ := List.mem_flatMap.1 hk
    have := (World.ownsRow.lt (h.rows m hm) k (by simpa using hk)).2
    exact this

/-- the disk's own cells turn; the files stay -/
theorem PD.turn {w w' : World} {bx bm : Nat} {d d' : DS} {M : List PF} (h : PD w bx bm d M) (hd : w'.heap[bx]? = some (.cells (DC d' bm) 117 (0, 0))) (ht : Touch [bx] w w') (hf : d'.files = d.files) : PD w' bx bm d' M := by
  have hn := h.nodup
  simp only [List.nodup_cons, List.mem_cons, not_or] at hn
  refine ⟨hd, ?_, hf.trans h.files, fun m hm => ?_, h.nodup⟩
  · obtain ⟨es, c, hb, he⟩ := h.map
    exact ⟨es, c, by rw [ht.block bm (h.lt bm (by simp)) (by simp; exact fun e => hn.1.1 e.symm)]; exact hb, he⟩
  · refine (h.rows m hm).touch ht (fun k hk => ?_)
    simp only [List.mem_cons, List.not_mem_nil, or_false]
    intro e
    subst e
    exact hn.1.2 (mem_rows hm hk)

/-- whatever does not touch the disk's blocks leaves the disk -/
theorem PD.away {w w' : World} {bx bm : Nat} {d : DS} {M : List PF} {F : List Nat} (h : PD w bx bm d M) (ht : Touch F w w') (hF : ∀ k ∈ bx :: bm :: rowsOf M, k ∉ F) : PD w' bx bm d M := by
  refine ⟨?_, ?_, h.files, fun m hm => ?_, h.nodup⟩
  · rw [ht.block bx (h.lt bx (by simp)) (hF bx (by simp))]; exact h.disk
  · obtain ⟨es, c, hb, he⟩ := h.map
    exact ⟨es, c, by rw [ht.block bm (h.lt bm (by simp)) (hF bm (by simp))]; exact hb, he⟩
  · exact (h.rows m hm).touch ht (fun k hk => hF k (by simp [mem_rows hm hk]))

def posOf (l : List FL) (k : Int) : Option (Nat × List ByteArray) :=
  match l.findIdx? (fun f => f.1 == k) with
  | some i => some (i, (l.getD i (0, [])).2)
  | none => none

def Nums (l : List FL) : Prop := ∀ (i j : Nat) (a b : FL), l[i]? = some a → l[j]? = some b → a.1 = b.1 → i = j

theorem uniq_of {M : List PF} (h : Nums (filesOf M)) : Uniq (entsOf M) := by
  intro i j a b ha hb e
  unfold entsOf at ha hb
  rw [List.getElem?_map] at ha hb
  cases hi : M[i]? with
  | none => simp [hi] at ha
  | some m =>
    cases hj : M[j]? with
    | none => simp [hj] at hb
    | some m' =>
      simp only [hi, hj, Option.map_some, Option.some.injEq] at ha hb
      subst ha hb
      exact h i j (m.1, m.2.2) (m'.1, m'.2.2) (by simp [filesOf, hi]) (by simp [filesOf, hj]) e

theorem pos_cases (M : List PF) (k : Int) : (posOf (filesOf M) k = none ∧ ∀ m ∈ M, m.1 ≠ k) ∨ ∃ i m, M[i]? = some m ∧ m.1 = k ∧ posOf (filesOf M) k = some (i, m.2.2) := by
  unfold posOf
  cases hf : (filesOf M).findIdx? (fun f => f.1 == k) with
  | none =>
    refine Or.inl ⟨rfl, fun m hm => ?_⟩
    rw [List.findIdx?_eq_none_iff] at hf
    have := hf (m.1, m.2.2) (by unfold filesOf; exact List.mem_map.2 ⟨m, hm, rfl⟩)
    simpa using this
  | some i =>
    rw [List.findIdx?_eq_some_iff_getElem] at hf
    obtain ⟨hi, hk, _⟩ := hf
    have hi' : i < M.length := by simpa [filesOf] using hi
    refine Or.inr ⟨i, M[i], by simp [hi'], ?_, ?_⟩
    · simpa [filesOf] using hk
    · simp [filesOf, List.getD, hi']

def mt : ByteArray := ⟨#[]⟩
def readS (d : DS) (file n : Int) : ByteArray × Int :=
  if d.f2 = 1 then (⟨#[]⟩, 6) else
  match posOf d.files file with
  | none => (⟨#[]⟩, 8)
  | some (_, bs) => if n < 0 ∨ (bs.length : Int) ≤ n then (⟨#[]⟩, 8) else (bs.getD n.toNat ⟨#[]⟩, 0)

set_option maxRecDepth 20000 in
set_option maxHeartbeats 1000000 in
theorem pread (w : World) (bx bm : Nat) (d : DS) (M : List PF) (file n : Int) (h : PD w bx bm d M) (hu : Nums d.files) (h0 : 0 ≤ d.f2) (h1 : d.f2 ≤ 9223372036854775807) :
    Calls Tryz.prog 191 #[.pointer (some ⟨bx, 0, none⟩), .int .i64 file, .int .i64 n] w fun e w' => e = .returned (.tuple #[.string (readS d file n).1, .int .i64 (readS d file n).2]) ∧ PD w' bx bm { d with f2 := dec d.f2 } M ∧ Touch [bx] w w' := by
  have HC : Hid (Calls Tryz.prog 212 #[.pointer (some ⟨bx, 0, none⟩), .int .i64 2] w fun e w' => e = .returned (.bool (d.f2 == 1)) ∧ w'.heap[bx]? = some (.cells (DC { d with f2 := dec d.f2 } bm) 117 (0, 0)) ∧ Touch [bx] w w') := comes2 w bx bm d h.disk h0 h1
  obtain ⟨_, _, _, c3, _⟩ := DCells h.disk
  obtain ⟨es, clock, hb, he⟩ := h.map
  have HT : Hid (∀ w', w'.heap[bx]? = some (.cells (DC { d with f2 := dec d.f2 } bm) 117 (0, 0)) → Touch [bx] w w' → PD w' bx bm { d with f2 := dec d.f2 } M) := fun w' a b => h.turn a b rfl
  have hfil := h.files
  rw [hfil] at hu
  rcases pos_cases M file with ⟨hp, hno⟩ | ⟨i, m, hm, rfl, hp⟩
  · have hrun := run_look_none hb he file (by intro p hp; unfold entsOf at hp; obtain ⟨m, hm, rfl⟩ := List.mem_map.1 hp; exact hno m hm) false
    simp only [Bool.false_eq_true, if_false] at hrun
    by_cases hf : d.f2 = 1
    · have E : Hid (readS d file n = (⟨#[]⟩, 6)) := by simp [Hid, readS, hf]
      have hfb : (d.f2 == 1) = true := by simp [hf]
      rw [hfb] at HC
      generalize readS d file n = r at *
      clear hf hfil hu hno hp h hb he
      go_enter Tryz.func191, Tryz.ntmps191
      go_wp2_with (go_at_call 212; refine HC.out.mono ?_; rintro e w1 ⟨rfl, hd1, ht1⟩; have HD : Hid (w1.heap[bx]? = some (.cells (DC { d with f2 := dec d.f2 } bm) 117 (0, 0))) := hd1; clear hd1)
      go_ret2
      exact ⟨by rw [E.out]; rfl, HT.out _ HD.out ht1, ht1⟩
    · have E : Hid (readS d file n = (⟨#[]⟩, 8)) := by
        show readS d file n = _
        unfold readS
        rw [if_neg hf, hfil, hp]
      have hfb : (d.f2 == 1) = false := by simp [hf]
      rw [hfb] at HC
      generalize readS d file n = r at *
      clear hf hfil hu hno hp h hb he
      by_cases hn : n < 0
      · go_enter Tryz.func191, Tryz.ntmps191
        go_wp2_with (go_at_call 212; refine HC.out.mono ?_; rintro e w1 ⟨rfl, hd1, ht1⟩; have HD : Hid (w1.heap[bx]? = some (.cells (DC { d with f2 := dec d.f2 } bm) 117 (0, 0))) := hd1; clear hd1)
        go_ret2
        exact ⟨by rw [E.out]; rfl, HT.out _ HD.out ht1, ht1⟩
      · have hn' : 0 ≤ n := by omega
        go_enter Tryz.func191, Tryz.ntmps191
        go_wp2_with (go_at_call 212; refine HC.out.mono ?_; rintro e w1 ⟨rfl, hd1, ht1⟩; have HD : Hid (w1.heap[bx]? = some (.cells (DC { d with f2 := dec d.f2 } bm) 117 (0, 0))) := hd1; clear hd1)
        go_ret2
        exact ⟨by rw [E.out]; rfl, HT.out _ HD.out ht1, ht1⟩
  · have hmem : m ∈ M := List.mem_of_getElem? hm
    have hrun := run_look_some hb he (uniq_of hu) i (m.1, m.2.1) (by unfold entsOf; rw [List.getElem?_map, hm]; rfl) false
    simp only [Bool.false_eq_true, if_false] at hrun
    have hrow := h.rows m hmem
    obtain ⟨num, v, bs⟩ := m
    simp only at hp hrun hrow
    by_cases hf : d.f2 = 1
    · have E : Hid (readS d num n = (⟨#[]⟩, 6)) := by simp [Hid, readS, hf]
      have hfb : (d.f2 == 1) = true := by simp [hf]
      rw [hfb] at HC
      generalize readS d num n = r at *
      clear hf hfil hu hp h hb he hrow
      go_enter Tryz.func191, Tryz.ntmps191
      go_wp2_with (go_at_call 212; refine HC.out.mono ?_; rintro e w1 ⟨rfl, hd1, ht1⟩; have HD : Hid (w1.heap[bx]? = some (.cells (DC { d with f2 := dec d.f2 } bm) 117 (0, 0))) := hd1; clear hd1)
      go_ret2
      exact ⟨by rw [E.out]; rfl, HT.out _ HD.out ht1, ht1⟩
    · have hfb : (d.f2 == 1) = false := by simp [hf]
      rw [hfb] at HC
      have E0 : readS d num n = if n < 0 ∨ (bs.length : Int) ≤ n then (⟨#[]⟩, 8) else (bs.getD n.toNat ⟨#[]⟩, 0) := by
        unfold readS
        rw [if_neg hf, hfil, hp]
      generalize readS d num n = r at *
      obtain ⟨ao, cap, hv, hlm⟩ := hrow.shape
      unfold maxLen at hlm
      by_cases hn : n < 0
      · have E : Hid (r = (⟨#[]⟩, 8)) := by show r = _; rw [E0, if_pos (Or.inl hn)]
        subst hv
        clear hf hfil hu hp h hb he hrow E0 hm hmem
        go_enter Tryz.func191, Tryz.ntmps191
        go_wp2_with (go_at_call 212; refine HC.out.mono ?_; rintro e w1 ⟨rfl, hd1, ht1⟩; have HD : Hid (w1.heap[bx]? = some (.cells (DC { d with f2 := dec d.f2 } bm) 117 (0, 0))) := hd1; clear hd1)
        go_ret2
        exact ⟨by rw [E.out]; rfl, HT.out _ HD.out ht1, ht1⟩
      · by_cases hn2 : (bs.length : Int) ≤ n
        · have E : Hid (r = (⟨#[]⟩, 8)) := by show r = _; rw [E0, if_pos (Or.inr hn2)]
          subst hv
          clear hf hfil hu hp h hb he hrow E0 hm hmem
          go_enter Tryz.func191, Tryz.ntmps191
          go_wp2_with (go_at_call 212; refine HC.out.mono ?_; rintro e w1 ⟨rfl, hd1, ht1⟩; have HD : Hid (w1.heap[bx]? = some (.cells (DC { d with f2 := dec d.f2 } bm) 117 (0, 0))) := hd1; clear hd1)
          go_ret2
          exact ⟨by rw [E.out]; rfl, HT.out _ HD.out ht1, ht1⟩
        · obtain ⟨k, rfl⟩ : ∃ k : Nat, n = (k : Int) := ⟨n.toNat, by omega⟩
          have hk : k < bs.length := by omega
          have E : Hid (r = (bs[k], 0)) := by
            show r = _
            rw [E0, if_neg (by omega), Int.toNat_natCast]
            simp [List.getD, hk]
          have HR : Hid (∀ w', w'.heap[bx]? = some (.cells (DC { d with f2 := dec d.f2 } bm) 117 (0, 0)) → Touch [bx] w w' → SRow w' v bs) := fun w' a b => (HT.out w' a b).rows (num, v, bs) hmem
          obtain ⟨g, cap', hv', hc', _⟩ := hrow.cell (by omega)
          clear hv
          subst hv'
          clear hf hfil hu hp h hb he hrow E0 hm hmem
          go_enter Tryz.func191, Tryz.ntmps191
          go_wp2_with (go_at_call 212; refine HC.out.mono ?_; go_must (rintro e w1 ⟨rfl, hd1, ht1⟩; have HD : Hid (w1.heap[bx]? = some (.cells (DC { d with f2 := dec d.f2 } bm) 117 (0, 0))) := hd1; have hcl := row_cell (HR.out _ hd1 ht1) k hk; clear hd1))
          go_ret2
          exact ⟨by rw [E.out]; rfl, HT.out _ HD.out ht1, ht1⟩

set_option maxHeartbeats 400000 in
theorem pused (w : World) (bx bm : Nat) (d : DS) (M : List PF) (h : PD w bx bm d M) : Calls Tryz.prog 24 #[.pointer (some ⟨bx, 0, none⟩)] w fun e w' => e = .returned (.int .i64 (usedOf d.files : Int)) ∧ w' = w := by
  obtain ⟨_, _, _, _, c4, _⟩ := DCells h.disk
  clear h
  go_enter Tryz.func24, Tryz.ntmps24
  go_wp2
  go_ret
  exact ⟨rfl, rfl⟩
set_option maxHeartbeats 400000 in
theorem pwrote (w : World) (bx bm : Nat) (d : DS) (M : List PF) (h : PD w bx bm d M) : Calls Tryz.prog 27 #[.pointer (some ⟨bx, 0, none⟩)] w fun e w' => e = .returned (.int .i64 d.wrote) ∧ w' = w := by
  obtain ⟨_, _, _, _, _, c5, _⟩ := DCells h.disk
  clear h
  go_enter Tryz.func27, Tryz.ntmps27
  go_wp2
  go_ret
  exact ⟨rfl, rfl⟩
set_option maxHeartbeats 400000 in
theorem pblock (w : World) (bx bm : Nat) (d : DS) (M : List PF) (h : PD w bx bm d M) : Calls Tryz.prog 58 #[.pointer (some ⟨bx, 0, none⟩)] w fun e w' => e = .returned (.int .i64 d.block) ∧ w' = w := by
  obtain ⟨c0, _⟩ := DCells h.disk
  clear h
  go_enter Tryz.func58, Tryz.ntmps58
  go_wp2
  go_ret
  exact ⟨rfl, rfl⟩

theorem run_len_map {w : World} {bm clock : Nat} {es : Array MapEntry} (hb : w.heap[bm]? = some (.map es clock)) (ty : TypeId) : (Builtin.len_ #[114] ty #[.map (some bm)]).run Tryz.prog w = .ok (goInt es.size) w := by
  simp [Builtin.len_, MapKept.run_getObj_map hb]

set_option maxHeartbeats 400000 in
theorem pfiles (w : World) (bx bm : Nat) (d : DS) (M : List PF) (h : PD w bx bm d M) : Calls Tryz.prog 25 #[.pointer (some ⟨bx, 0, none⟩)] w fun e w' => e = .returned (.int .i64 (d.files.length : Int)) ∧ w' = w := by
  obtain ⟨_, _, _, c3, _⟩ := DCells h.disk
  obtain ⟨es, clock, hb, he⟩ := h.map
  have hl : es.size = d.files.length := by rw [he.len, h.files]; simp [entsOf, filesOf]
  have HL : Hid _ := hl
  have hrun := run_len_map hb 3
  clear h hl he
  go_enter Tryz.func25, Tryz.ntmps25
  go_wp2
  go_ret
  exact ⟨by rw [← HL.out]; rfl, rfl⟩

def faultS (d : DS) (kind n bit : Int) : DS :=
  if kind = 1 then { d with f1 := max n 0 } else if kind = 2 then { d with f2 := max n 0 } else if kind = 3 then { d with f3 := max n 0, bit := bit } else d

set_option maxHeartbeats 1000000 in
theorem pfault (w : World) (bx bm : Nat) (d : DS) (M : List PF) (kind n bit : Int) (h : PD w bx bm d M) :
    Calls Tryz.prog 28 #[.pointer (some ⟨bx, 0, none⟩), .int .i64 kind, .int .i64 n, .int .i64 bit] w fun e w' => e = .returned (.tuple #[]) ∧ PD w' bx bm (faultS d kind n bit) M ∧ Touch [bx] w w' := by
  obtain ⟨_, _, _, _, _, _, c7, c8, c9, c10, fz⟩ := DCells h.disk
  have H : Hid (w.heap[bx]? = some (.cells (DC d bm) 117 (0, 0))) := h.disk
  have HT : Hid (∀ d' w', w'.heap[bx]? = some (.cells (DC d' bm) 117 (0, 0)) → Touch [bx] w w' → d'.files = d.files → PD w' bx bm d' M) := fun d' w' a b c => h.turn a b c
  have HP : Hid (PD w bx bm d M) := h
  clear h
  by_cases h1 : kind = 1
  · subst h1
    have ff := fz 7
    have E : Hid (faultS d 1 n bit = { d with f1 := max n 0 }) := rfl
    clear fz
    go_enter Tryz.func28, Tryz.ntmps28
    go_wp2
    all_goals
      go_end0
      refine ⟨rfl, ?_, (Touch.refl _ _).setCell (by simp) _⟩
      rw [E.out]
      first
        | (have e : max n 0 = 0 := by omega
           rw [e]; exact HT.out _ _ (heap_setCell_same _ _ _ _ _ _ H.out) ((Touch.refl _ _).setCell (by simp) _) rfl)
        | (have e : max n 0 = n := by omega
           rw [e]; exact HT.out _ _ (heap_setCell_same _ _ _ _ _ _ H.out) ((Touch.refl _ _).setCell (by simp) _) rfl)
  · by_cases h2 : kind = 2
    · subst h2
      have ff := fz 8
      have E : Hid (faultS d 2 n bit = { d with f2 := max n 0 }) := rfl
      clear fz h1
      go_enter Tryz.func28, Tryz.ntmps28
      go_wp2
      all_goals
        go_end0
        refine ⟨rfl, ?_, (Touch.refl _ _).setCell (by simp) _⟩
        rw [E.out]
        first
          | (have e : max n 0 = 0 := by omega
             rw [e]; exact HT.out _ _ (heap_setCell_same _ _ _ _ _ _ H.out) ((Touch.refl _ _).setCell (by simp) _) rfl)
          | (have e : max n 0 = n := by omega
             rw [e]; exact HT.out _ _ (heap_setCell_same _ _ _ _ _ _ H.out) ((Touch.refl _ _).setCell (by simp) _) rfl)
    · by_cases h3 : kind = 3
      · subst h3
        have ff := fz 9
        have ff2 := fz 10
        have E : Hid (faultS d 3 n bit = { d with f3 := max n 0, bit := bit }) := rfl
        clear fz h1 h2
        go_enter Tryz.func28, Tryz.ntmps28
        go_wp2
        all_goals
          go_end0
          refine ⟨rfl, ?_, ((Touch.refl _ _).setCell (by simp) _).setCell (by simp) _⟩
          rw [E.out]
          first
            | (have e : max n 0 = 0 := by omega
               rw [e]; exact HT.out _ _ (heap_setCell_same _ _ _ _ _ _ (heap_setCell_same _ _ _ _ _ _ H.out)) (((Touch.refl _ _).setCell (by simp) _).setCell (by simp) _) rfl)
            | (have e : max n 0 = n := by omega
               rw [e]; exact HT.out _ _ (heap_setCell_same _ _ _ _ _ _ (heap_setCell_same _ _ _ _ _ _ H.out)) (((Touch.refl _ _).setCell (by simp) _).setCell (by simp) _) rfl)
      · have E : Hid (faultS d kind n bit = d) := by simp [Hid, faultS, h1, h2, h3]
        clear fz
        by_cases hlo : kind < 1
        · go_enter Tryz.func28, Tryz.ntmps28
          go_wp2
          exact bodyPost_ret (v := .tuple #[]) (by simp [results, Tryz.results28, go_sem]) rfl ⟨rfl, by rw [E.out]; exact HP.out, Touch.refl _ _⟩
        · have hhi : 3 < kind := by omega
          go_enter Tryz.func28, Tryz.ntmps28
          go_wp2
          exact bodyPost_ret (v := .tuple #[]) (by simp [results, Tryz.results28, go_sem]) rfl ⟨rfl, by rw [E.out]; exact HP.out, Touch.refl _ _⟩
end Go.Proofs.YtjoinhljdbljaaaGreat
