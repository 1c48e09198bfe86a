/- What a map from ints to one-cell values does, entry by entry. The given disk, as it lies in memory, and the walks of its small calls. -/
import Derived.Test.YtjoinhljdbljaaaGreatOKeyG
import Derived.Deep.AppendLies
import Derived.MapKept
import Derived.Maps.OwnSet
import Derived.Deep.RegionLaw
namespace Go.Proofs.YtjoinhljdbljaaaGreat.Old
open Go.RowKit
open Go.ChangeMaps (setBlock)
open Go.MapKept

abbrev Ent := Int × Value

def Ents (es : Array MapEntry) (L : List Ent) : Prop := es.toList.map (fun e => (e.key, e.val)) = L.map fun p => (Value.int .i64 p.1, p.2)

theorem Ents.len {es : Array MapEntry} {L : List Ent} (h : Ents es L) : es.size = L.length := by
  have := congrArg List.length h
  simpa using this

theorem Ents.at {es : Array MapEntry} {L : List Ent} (h : Ents es L) (i : Nat) (e : MapEntry) (he : es.toList[i]? = some e) : ∃ p, L[i]? = some p ∧ e.key = .int .i64 p.1 ∧ e.val = p.2 := by
  have := congrArg (fun l => l[i]?) h
  simp only [List.getElem?_map, he, Option.map_some] at this
  cases hp : L[i]? with
  | none => simp [hp] at this
  | some p =>
    simp only [hp, Option.map_some, Option.some.injEq, Prod.mk.injEq] at this
    exact ⟨p, rfl, this.1, this.2⟩

theorem isKey (k : Int) : IsKey (.int .i64) (.int .i64 k) := by
  simp [IsKey]

def Uniq (L : List Ent) : Prop := ∀ (i j : Nat) (a b : Ent), L[i]? = some a → L[j]? = some b → a.1 = b.1 → i = j

theorem find_none {es : Array MapEntry} {L : List Ent} (h : Ents es L) (k : Int) (hk : ∀ p ∈ L, p.1 ≠ k) : Instr.findNow (.int .i64) (.int .i64 k) es.toList 0 = some none := by
  have hkeys : ∀ x ∈ es.toList, IsKey (.int .i64) x.key := by
    intro x hx
    obtain ⟨j, hj, rfl⟩ := List.getElem_of_mem hx
    obtain ⟨q, _, h4, _⟩ := h.at j _ (List.getElem?_eq_getElem hj)
    rw [h4]; exact isKey _
  rcases findNow_spec (isKey k) es.toList 0 hkeys with h1 | ⟨j, e, _, h2, h3⟩
  · exact h1.1
  · obtain ⟨p, hp, h4, _⟩ := h.at j e h2
    rw [h3] at h4
    simp only [Value.int.injEq, true_and] at h4
    exact absurd h4.symm (hk p (List.mem_of_getElem? hp))
theorem find_some {es : Array MapEntry} {L : List Ent} (h : Ents es L) (hu : Uniq L) (i : Nat) (p : Ent) (hp : L[i]? = some p) : Instr.findNow (.int .i64) (.int .i64 p.1) es.toList 0 = some (some (i, p.2)) := by
  have hkeys : ∀ x ∈ es.toList, IsKey (.int .i64) x.key := by
    intro x hx
    obtain ⟨j, hj, rfl⟩ := List.getElem_of_mem hx
    obtain ⟨q, _, h4, _⟩ := h.at j _ (List.getElem?_eq_getElem hj)
    rw [h4]; exact isKey _
  have hi : i < es.toList.length := by
    have := (List.getElem?_eq_some_iff.1 hp).1
    have := h.len
    simp; omega
  rcases findNow_spec (isKey p.1) es.toList 0 hkeys with h1 | ⟨j, e, h1, h2, h3⟩
  · obtain ⟨q, hq, h4, _⟩ := h.at i _ (List.getElem?_eq_getElem hi)
    rw [hp] at hq
    cases hq
    exact absurd h4 (h1.2 _ (List.getElem_mem hi))
  · obtain ⟨q, hq, h4, h5⟩ := h.at j e h2
    rw [h3] at h4
    simp only [Value.int.injEq, true_and] at h4
    have : i = j := hu i j p q hp hq h4
    subst this
    rw [hp] at hq
    cases hq
    rw [h1, h5, Nat.zero_add]

theorem run_findKey {w : World} {k : Value} {es : Array MapEntry} {r : Option (Nat × Value)} (h : Instr.findNow (.int .i64) k es.toList 0 = some r) : (Instr.findKey 3 k es.toList).run Tryz.prog w = .ok r w := by
  simp [Instr.findKey, run_underlying Tryz.underlying3, h]

theorem zero129 (w : World) : (zeroValue 255).run Tryz.prog w = .ok (.slice none 0 0) w := by kernel_rfl

theorem run_look_none {w : World} {bm clock : Nat} {es : Array MapEntry} {L : List Ent} (hb : w.heap[bm]? = some (.map es clock)) (h : Ents es L) (k : Int) (hk : ∀ p ∈ L, p.1 ≠ k) (c : Bool) :
    (Instr.lookup 114 (.map (some bm)) (.int .i64 k) c).run Tryz.prog w = .ok (if c then .tuple #[.slice none 0 0, .bool false] else .slice none 0 0) w := by
  unfold Instr.lookup
  simp only [Sem.run_bind, run_underlying Tryz.underlying114, MapKept.run_getObj_map hb, Result.andThen_ok, Sem.run_pure, MapKept.run_checkKey Tryz.underlying3 (isKey k), run_findKey (find_none h k hk), zero129]

theorem run_look_some {w : World} {bm clock : Nat} {es : Array MapEntry} {L : List Ent} (hb : w.heap[bm]? = some (.map es clock)) (h : Ents es L) (hu : Uniq L) (i : Nat) (p : Ent) (hp : L[i]? = some p) (c : Bool) :
    (Instr.lookup 114 (.map (some bm)) (.int .i64 p.1) c).run Tryz.prog w = .ok (if c then .tuple #[p.2, .bool true] else p.2) w := by
  unfold Instr.lookup
  simp only [Sem.run_bind, run_underlying Tryz.underlying114, MapKept.run_getObj_map hb, Result.andThen_ok, Sem.run_pure, MapKept.run_checkKey Tryz.underlying3 (isKey p.1), run_findKey (find_some h hu i p hp)]

theorem Ents.push {es : Array MapEntry} {L : List Ent} (h : Ents es L) (k : Int) (v : Value) (c : Nat) : Ents (es.push ⟨.int .i64 k, v, c⟩) (L ++ [(k, v)]) := by
  unfold Ents at *
  simp [h]

theorem Ents.set {es : Array MapEntry} {L : List Ent} (h : Ents es L) (i : Nat) (k : Int) (v : Value) : Ents (es.modify i fun e => { e with key := .int .i64 k, val := v }) (L.set i (k, v)) := by
  unfold Ents at *
  apply List.ext_getElem?
  intro j
  have hj := congrArg (fun l => l[j]?) h
  simp only [List.getElem?_map, Array.getElem?_toList, Array.getElem?_modify, List.getElem?_set] at hj ⊢
  by_cases e : i = j
  · subst e
    have hl := (show Ents es L from h).len
    by_cases hlt : i < L.length
    · simp [hlt, hl]
    · simp [hlt, hl]
  · simp only [e, if_false]
    exact hj

theorem map_erase {α β : Type} (f : α → β) : ∀ (l : List α) (i : Nat), (l.eraseIdx i).map f = (l.map f).eraseIdx i
  | [], _ => rfl
  | _ :: _, 0 => rfl
  | a :: l, i + 1 => by simp [List.eraseIdx, map_erase f l i]

theorem Ents.erase {es : Array MapEntry} {L : List Ent} (h : Ents es L) (i : Nat) : Ents (es.eraseIdxIfInBounds i) (L.eraseIdx i) := by
  unfold Ents at *
  by_cases hi : i < es.size
  · have : (es.eraseIdxIfInBounds i).toList = es.toList.eraseIdx i := by simp [Array.eraseIdxIfInBounds, hi]
    rw [this, map_erase, map_erase, h]
  · have hl := (show Ents es L from h).len
    have : es.eraseIdxIfInBounds i = es := by simp [Array.eraseIdxIfInBounds, hi]
    rw [this, List.eraseIdx_of_length_le (by omega)]
    exact h

theorem run_update_none {w : World} {bm clock : Nat} {es : Array MapEntry} {L : List Ent} (hb : w.heap[bm]? = some (.map es clock)) (h : Ents es L) (k : Int) (v : Value) (hk : ∀ p ∈ L, p.1 ≠ k) :
    (Instr.mapUpdate 114 (.map (some bm)) (.int .i64 k) v).run Tryz.prog w = .ok () (setBlock w bm (.map (es.push ⟨.int .i64 k, v, clock⟩) (clock + 1))) := by
  unfold Instr.mapUpdate
  simp only [Sem.run_bind, run_underlying Tryz.underlying114, MapKept.run_getObj_map hb, Result.andThen_ok, MapKept.run_checkKey Tryz.underlying3 (isKey k), run_findKey (find_none h k hk), MapKept.run_setObj_map _ hb]
  rfl

theorem run_update_some {w : World} {bm clock : Nat} {es : Array MapEntry} {L : List Ent} (hb : w.heap[bm]? = some (.map es clock)) (h : Ents es L) (hu : Uniq L) (i : Nat) (p : Ent) (hp : L[i]? = some p) (v : Value) :
    (Instr.mapUpdate 114 (.map (some bm)) (.int .i64 p.1) v).run Tryz.prog w = .ok () (setBlock w bm (.map (es.modify i fun e => { e with key := .int .i64 p.1, val := v }) clock)) := by
  have hi : i < es.size := by
    have := (List.getElem?_eq_some_iff.1 hp).1
    have := h.len
    omega
  obtain ⟨q, hq, h4, _⟩ := h.at i es[i] (by simp [hi])
  rw [hp] at hq
  cases hq
  unfold Instr.mapUpdate
  simp only [Sem.run_bind, run_underlying Tryz.underlying114, MapKept.run_getObj_map hb, Result.andThen_ok, MapKept.run_checkKey Tryz.underlying3 (isKey p.1), run_findKey (find_some h hu i p hp), Instr.keyThatStays,
    Array.getElem?_eq_getElem hi, Option.map_some, Option.getD_some, h4, Instr.sameBits, beq_self_eq_true, Bool.and_self, if_true, Sem.run_pure, MapKept.run_setObj_map _ hb]
  rfl

theorem run_delete_some {w : World} {bm clock : Nat} {es : Array MapEntry} {L : List Ent} (hb : w.heap[bm]? = some (.map es clock)) (h : Ents es L) (hu : Uniq L) (i : Nat) (p : Ent) (hp : L[i]? = some p) (ty : TypeId) :
    (Builtin.delete_ #[114, 3] ty #[.map (some bm), .int .i64 p.1]).run Tryz.prog w = .ok (.tuple #[]) (setBlock w bm (.map (es.eraseIdxIfInBounds i) clock)) := by
  unfold Builtin.delete_
  simp [run_underlying Tryz.underlying114, MapKept.run_getObj_map hb, MapKept.run_checkKey Tryz.underlying3 (isKey p.1), run_findKey (find_some h hu i p hp), MapKept.run_setObj_map _ hb]
  rfl
end Go.Proofs.YtjoinhljdbljaaaGreat.Old

namespace Go.Proofs.YtjoinhljdbljaaaGreat.Old
open Go.RowKit
open Go.ChangeMaps (setBlock)

abbrev FL := Int × List ByteArray
structure DS where
  block : Int
  blocks : Int
  last : Int
  wrote : Int
  files : List FL
  f1 : Int
  f2 : Int
  f3 : Int
  bit : Int

def usedOf (l : List FL) : Nat := (l.map fun f => f.2.length).sum

def DC (d : DS) (bm : Nat) : Array Value :=
  #[.int .i64 d.block, .int .i64 d.blocks, .int .i64 d.last, .map (some bm), .int .i64 (usedOf d.files : Int), .int .i64 d.wrote, .int .i64 0, .int .i64 d.f1, .int .i64 d.f2, .int .i64 d.f3, .int .i64 d.bit]

/-- outside the blocks of F all that was there is as it was -/
structure Touch (F : List Nat) (w w' : World) : Prop where
  os : w'.os = w.os
  tape : w'.tape = w.tape
  output : w'.output = w.output
  size : w.heap.size ≤ w'.heap.size
  block : ∀ k, k < w.heap.size → k ∉ F → w'.heap[k]? = w.heap[k]?
theorem Touch.refl (F : List Nat) (w : World) : Touch F w w := ⟨rfl, rfl, rfl, Nat.le_refl _, fun _ _ _ => rfl⟩
theorem Touch.trans {F : List Nat} {a b c : World} (h : Touch F a b) (k : Touch F b c) : Touch F a c :=
  ⟨k.os.trans h.os, k.tape.trans h.tape, k.output.trans h.output, Nat.le_trans h.size k.size, fun i hi hn => (k.block i (Nat.lt_of_lt_of_le hi h.size) hn).trans (h.block i hi hn)⟩
theorem Touch.drew {F : List Nat} {a w : World} (h : Touch F a w) : Touch F a w.drew := ⟨h.os, h.tape, h.output, h.size, h.block⟩
theorem Touch.alloc {F : List Nat} {a w : World} (h : Touch F a w) (o : Obj) : Touch F a (w.alloc o) :=
  h.trans ⟨rfl, rfl, rfl, by simp, fun k hk _ => Below.heap_alloc _ _ _ hk⟩
theorem Touch.setCell {F : List Nat} {a w : World} (h : Touch F a w) {p : Addr} (hp : p.block ∈ F) (u : Value) : Touch F a (w.setCell p u) :=
  h.trans ⟨rfl, rfl, rfl, by simp, fun k _ hn => Below.heap_setCell _ _ _ _ (fun e => hn (e ▸ hp))⟩
theorem Touch.setBlock {F : List Nat} {a w : World} (h : Touch F a w) {b : Nat} (hp : b ∈ F) (o : Obj) : Touch F a (setBlock w b o) :=
  h.trans ⟨rfl, rfl, rfl, by simp [Go.ChangeMaps.setBlock], fun k _ hn => by simp only [Go.ChangeMaps.setBlock]; rw [Array.getElem?_setIfInBounds, if_neg (fun (e : b = k) => hn (e ▸ hp))]⟩
theorem Touch.grown {F : List Nat} {a w w' : World} {row : Option Nat} (h : Touch F a w) (hg : w.grownBy w' row) (hr : ∀ k, row = some k → k ∈ F) : Touch F a w' :=
  h.trans ⟨hg.os, hg.tape, hg.output, hg.size, fun k hk hn => hg.block k hk (fun e => hn (hr k e.symm))⟩
theorem Touch.mono {F F' : List Nat} {w w' : World} (h : Touch F w w') (hF : ∀ k ∈ F, k ∈ F') : Touch F' w w' := ⟨h.os, h.tape, h.output, h.size, fun k hk hn => h.block k hk (fun e => hn (hF k e))⟩

def SRow (w : World) (v : Value) (bs : List ByteArray) : Prop := w.ownsRow 0 9 1 v bs.length (bs.map Value.string)

/-- a file as the given disk has it: its number, its slice, its blocks -/
abbrev PF := Int × Value × List ByteArray
def entsOf (M : List PF) : List Ent := M.map fun m => (m.1, m.2.1)
def filesOf (M : List PF) : List FL := M.map fun m => (m.1, m.2.2)
def rowsOf (M : List PF) : List Nat := M.flatMap fun m => m.2.1.ownBlock.toList

structure PD (w : World) (bx bm : Nat) (d : DS) (M : List PF) : Prop where
  disk : w.heap[bx]? = some (.cells (DC d bm) 117 (0, 0))
  map : ∃ es clock, w.heap[bm]? = some (.map es clock) ∧ Ents es (entsOf M)
  files : d.files = filesOf M
  rows : ∀ m ∈ M, SRow w m.2.1 m.2.2
  nodup : (bx :: bm :: rowsOf M).Nodup

theorem DCells {w : World} {bx bm : Nat} {d : DS} (h : w.heap[bx]? = some (.cells (DC d bm) 117 (0, 0))) :
    w.cell? ⟨bx, 0, none⟩ = some (.int .i64 d.block) ∧ w.cell? ⟨bx, 1, none⟩ = some (.int .i64 d.blocks) ∧ w.cell? ⟨bx, 2, none⟩ = some (.int .i64 d.last) ∧ w.cell? ⟨bx, 3, none⟩ = some (.map (some bm)) ∧
    w.cell? ⟨bx, 4, none⟩ = some (.int .i64 (usedOf d.files : Int)) ∧ w.cell? ⟨bx, 5, none⟩ = some (.int .i64 d.wrote) ∧ w.cell? ⟨bx, 7, none⟩ = some (.int .i64 d.f1) ∧ w.cell? ⟨bx, 8, none⟩ = some (.int .i64 d.f2) ∧
    w.cell? ⟨bx, 9, none⟩ = some (.int .i64 d.f3) ∧ w.cell? ⟨bx, 10, none⟩ = some (.int .i64 d.bit) ∧ (∀ o, w.frozen? ⟨bx, o, none⟩ = false) := by
  refine ⟨?_, ?_, ?_, ?_, ?_, ?_, ?_, ?_, ?_, ?_, ?_⟩
  all_goals first | (intro o; simp [World.frozen?, h]; done) | simp [World.cell?, h, DC]

def dec (f : Int) : Int := if f = 0 then 0 else f - 1

theorem comes_beq (f : Int) : (f - 1 == 0) = (f == 1) := by
  rw [Bool.eq_iff_iff]; simp; omega

set_option maxHeartbeats 1000000 in
theorem comes1 (w : World) (bx bm : Nat) (d : DS) (h : w.heap[bx]? = some (.cells (DC d bm) 117 (0, 0))) (h0 : 0 ≤ d.f1) (h1 : d.f1 ≤ 9223372036854775807) :
    Calls Tryz.prog 212 #[.pointer (some ⟨bx, 0, none⟩), .int .i64 1] w fun e w' => e = .returned (.bool (d.f1 == 1)) ∧ w'.heap[bx]? = some (.cells (DC { d with f1 := dec d.f1 } bm) 117 (0, 0)) ∧ Touch [bx] w w' := by
  obtain ⟨_, _, _, _, _, _, cc, _, _, _, fz⟩ := DCells h
  have ff := fz 7
  have H : Hid (w.heap[bx]? = some (.cells (DC d bm) 117 (0, 0))) := h
  clear h fz
  by_cases hz : d.f1 = 0
  · have hb : (d.f1 == 0) = true := by simp [hz]
    have E : Hid ({ d with f1 := dec d.f1 } = d ∧ (d.f1 == 1) = false) := by
      cases d
      simp only at hz
      subst hz
      exact ⟨rfl, rfl⟩
    clear hz
    go_enter Tryz.func212, Tryz.ntmps212
    go_wp2
    go_ret
    exact ⟨by rw [E.out.2]; rfl, by rw [E.out.1]; exact H.out, Touch.refl _ _⟩
  · have hb : (d.f1 == 0) = false := by simp [hz]
    have E : Hid (dec d.f1 = d.f1 - 1) := by simp [Hid, dec, hz]
    clear hz
    go_enter Tryz.func212, Tryz.ntmps212
    go_wp2
    go_region
    all_goals
      go_wp2
      go_ret
      refine ⟨by rw [← comes_beq]; rfl, ?_, ((Touch.refl _ _).drew).setCell (by simp) _⟩
      rw [E.out]
      exact heap_setCell_same _ _ _ _ _ _ H.out

set_option maxHeartbeats 1000000 in
theorem comes2 (w : World) (bx bm : Nat) (d : DS) (h : w.heap[bx]? = some (.cells (DC d bm) 117 (0, 0))) (h0 : 0 ≤ d.f2) (h1 : d.f2 ≤ 9223372036854775807) :
    Calls Tryz.prog 212 #[.pointer (some ⟨bx, 0, none⟩), .int .i64 2] w fun e w' => e = .returned (.bool (d.f2 == 1)) ∧ w'.heap[bx]? = some (.cells (DC { d with f2 := dec d.f2 } bm) 117 (0, 0)) ∧ Touch [bx] w w' := by
  obtain ⟨_, _, _, _, _, _, _, cc, _, _, fz⟩ := DCells h
  have ff := fz 8
  have H : Hid (w.heap[bx]? = some (.cells (DC d bm) 117 (0, 0))) := h
  clear h fz
  by_cases hz : d.f2 = 0
  · have hb : (d.f2 == 0) = true := by simp [hz]
    have E : Hid ({ d with f2 := dec d.f2 } = d ∧ (d.f2 == 1) = false) := by
      cases d
      simp only at hz
      subst hz
      exact ⟨rfl, rfl⟩
    clear hz
    go_enter Tryz.func212, Tryz.ntmps212
    go_wp2
    go_ret
    exact ⟨by rw [E.out.2]; rfl, by rw [E.out.1]; exact H.out, Touch.refl _ _⟩
  · have hb : (d.f2 == 0) = false := by simp [hz]
    have E : Hid (dec d.f2 = d.f2 - 1) := by simp [Hid, dec, hz]
    clear hz
    go_enter Tryz.func212, Tryz.ntmps212
    go_wp2
    go_region
    all_goals
      go_wp2
      go_ret
      refine ⟨by rw [← comes_beq]; rfl, ?_, ((Touch.refl _ _).drew).setCell (by simp) _⟩
      rw [E.out]
      exact heap_setCell_same _ _ _ _ _ _ H.out

set_option maxHeartbeats 1000000 in
theorem comes3 (w : World) (bx bm : Nat) (d : DS) (h : w.heap[bx]? = some (.cells (DC d bm) 117 (0, 0))) (h0 : 0 ≤ d.f3) (h1 : d.f3 ≤ 9223372036854775807) :
    Calls Tryz.prog 212 #[.pointer (some ⟨bx, 0, none⟩), .int .i64 3] w fun e w' => e = .returned (.bool (d.f3 == 1)) ∧ w'.heap[bx]? = some (.cells (DC { d with f3 := dec d.f3 } bm) 117 (0, 0)) ∧ Touch [bx] w w' := by
  obtain ⟨_, _, _, _, _, _, _, _, cc, _, fz⟩ := DCells h
  have ff := fz 9
  have H : Hid (w.heap[bx]? = some (.cells (DC d bm) 117 (0, 0))) := h
  clear h fz
  by_cases hz : d.f3 = 0
  · have hb : (d.f3 == 0) = true := by simp [hz]
    have E : Hid ({ d with f3 := dec d.f3 } = d ∧ (d.f3 == 1) = false) := by
      cases d
      simp only at hz
      subst hz
      exact ⟨rfl, rfl⟩
    clear hz
    go_enter Tryz.func212, Tryz.ntmps212
    go_wp2
    go_ret
    exact ⟨by rw [E.out.2]; rfl, by rw [E.out.1]; exact H.out, Touch.refl _ _⟩
  · have hb : (d.f3 == 0) = false := by simp [hz]
    have E : Hid (dec d.f3 = d.f3 - 1) := by simp [Hid, dec, hz]
    clear hz
    go_enter Tryz.func212, Tryz.ntmps212
    go_wp2
    go_region
    all_goals
      go_wp2
      go_ret
      refine ⟨by rw [← comes_beq]; rfl, ?_, ((Touch.refl _ _).drew).setCell (by simp) _⟩
      rw [E.out]
      exact heap_setCell_same _ _ _ _ _ _ H.out
end Go.Proofs.YtjoinhljdbljaaaGreat.Old
