/- What a map from ints to one-cell values does, entry by entry. -/
import Derived.Test.YtjoinhljdbljaaaKeyG
import Derived.Deep.AppendLies
import Derived.MapKept
import Derived.Maps.OwnSet
import Derived.Deep.RegionLaw
namespace Go.Proofs.Ytjoinhljdbljaaa
open Go.RowKit
open Go.ChangeMaps (setBlock)
open Go.MapKept

abbrev Ent := Int × Value

def Ents (es : Array MapEntry) (L : List Ent) : Prop := es.toList.map (fun e => (e.key, e.val)) = L.map fun p => (Value.int .i64 p.1, p.2)

theorem Ents.len {es : Array MapEntry} {L : List Ent} (h : Ents es L) : es.size = L.length := by
  have := congrArg List.length h
  simpa using this

theorem Ents.at {es : Array MapEntry} {L : List Ent} (h : Ents es L) (i : Nat) (e : MapEntry) (he : es.toList[i]? = some e) : ∃ p, L[i]? = some p ∧ e.key = .int .i64 p.1 ∧ e.val = p.2 := by
  have := congrArg (fun l => l[i]?) h
  simp only [List.getElem?_map, he, Option.map_some] at this
  cases hp : L[i]? with
  | none => simp [hp] at this
  | some p =>
    simp only [hp, Option.map_some, Option.some.injEq, Prod.mk.injEq] at this
    exact ⟨p, rfl, this.1, this.2⟩

theorem isKey (k : Int) : IsKey (.int .i64) (.int .i64 k) := by
  simp [IsKey]

def Uniq (L : List Ent) : Prop := ∀ (i j : Nat) (a b : Ent), L[i]? = some a → L[j]? = some b → a.1 = b.1 → i = j

theorem find_none {es : Array MapEntry} {L : List Ent} (h : Ents es L) (k : Int) (hk : ∀ p ∈ L, p.1 ≠ k) : Instr.findNow (.int .i64) (.int .i64 k) es.toList 0 = some none := by
  have hkeys : ∀ x ∈ es.toList, IsKey (.int .i64) x.key := by
    intro x hx
    obtain ⟨j, hj, rfl⟩ := List.getElem_of_mem hx
    obtain ⟨q, _, h4, _⟩ := h.at j _ (List.getElem?_eq_getElem hj)
    rw [h4]; exact isKey _
  rcases findNow_spec (isKey k) es.toList 0 hkeys with h1 | ⟨j, e, _, h2, h3⟩
  · exact h1.1
  · obtain ⟨p, hp, h4, _⟩ := h.at j e h2
    rw [h3] at h4
    simp only [Value.int.injEq, true_and] at h4
    exact absurd h4.symm (hk p (List.mem_of_getElem? hp))
theorem find_some {es : Array MapEntry} {L : List Ent} (h : Ents es L) (hu : Uniq L) (i : Nat) (p : Ent) (hp : L[i]? = some p) : Instr.findNow (.int .i64) (.int .i64 p.1) es.toList 0 = some (some (i, p.2)) := by
  have hkeys : ∀ x ∈ es.toList, IsKey (.int .i64) x.key := by
    intro x hx
    obtain ⟨j, hj, rfl⟩ := List.getElem_of_mem hx
    obtain ⟨q, _, h4, _⟩ := h.at j _ (List.getElem?_eq_getElem hj)
    rw [h4]; exact isKey _
  have hi : i < es.toList.length := by
    have := (List.getElem?_eq_some_iff.1 hp).1
    have := h.len
    simp; omega
  rcases findNow_spec (isKey p.1) es.toList 0 hkeys with h1 | ⟨j, e, h1, h2, h3⟩
  · obtain ⟨q, hq, h4, _⟩ := h.at i _ (List.getElem?_eq_getElem hi)
    rw [hp] at hq
    cases hq
    exact absurd h4 (h1.2 _ (List.getElem_mem hi))
  · obtain ⟨q, hq, h4, h5⟩ := h.at j e h2
    rw [h3] at h4
    simp only [Value.int.injEq, true_and] at h4
    have : i = j := hu i j p q hp hq h4
    subst this
    rw [hp] at hq
    cases hq
    rw [h1, h5, Nat.zero_add]

theorem run_findKey {w : World} {k : Value} {es : Array MapEntry} {r : Option (Nat × Value)} (h : Instr.findNow (.int .i64) k es.toList 0 = some r) : (Instr.findKey 3 k es.toList).run Try.prog w = .ok r w := by
  simp [Instr.findKey, run_underlying Try.underlying3, h]

theorem zero129 (w : World) : (zeroValue 129).run Try.prog w = .ok (.slice none 0 0) w := by kernel_rfl

theorem run_look_none {w : World} {bm clock : Nat} {es : Array MapEntry} {L : List Ent} (hb : w.heap[bm]? = some (.map es clock)) (h : Ents es L) (k : Int) (hk : ∀ p ∈ L, p.1 ≠ k) (c : Bool) :
    (Instr.lookup 66 (.map (some bm)) (.int .i64 k) c).run Try.prog w = .ok (if c then .tuple #[.slice none 0 0, .bool false] else .slice none 0 0) w := by
  unfold Instr.lookup
  simp only [Sem.run_bind, run_underlying Try.underlying66, MapKept.run_getObj_map hb, Result.andThen_ok, Sem.run_pure, MapKept.run_checkKey Try.underlying3 (isKey k), run_findKey (find_none h k hk), zero129]

theorem run_look_some {w : World} {bm clock : Nat} {es : Array MapEntry} {L : List Ent} (hb : w.heap[bm]? = some (.map es clock)) (h : Ents es L) (hu : Uniq L) (i : Nat) (p : Ent) (hp : L[i]? = some p) (c : Bool) :
    (Instr.lookup 66 (.map (some bm)) (.int .i64 p.1) c).run Try.prog w = .ok (if c then .tuple #[p.2, .bool true] else p.2) w := by
  unfold Instr.lookup
  simp only [Sem.run_bind, run_underlying Try.underlying66, MapKept.run_getObj_map hb, Result.andThen_ok, Sem.run_pure, MapKept.run_checkKey Try.underlying3 (isKey p.1), run_findKey (find_some h hu i p hp)]

theorem Ents.push {es : Array MapEntry} {L : List Ent} (h : Ents es L) (k : Int) (v : Value) (c : Nat) : Ents (es.push ⟨.int .i64 k, v, c⟩) (L ++ [(k, v)]) := by
  unfold Ents at *
  simp [h]

theorem Ents.set {es : Array MapEntry} {L : List Ent} (h : Ents es L) (i : Nat) (k : Int) (v : Value) : Ents (es.modify i fun e => { e with key := .int .i64 k, val := v }) (L.set i (k, v)) := by
  unfold Ents at *
  apply List.ext_getElem?
  intro j
  have hj := congrArg (fun l => l[j]?) h
  simp only [List.getElem?_map, Array.getElem?_toList, Array.getElem?_modify, List.getElem?_set] at hj ⊢
  by_cases e : i = j
  · subst e
    have hl := (show Ents es L from h).len
    by_cases hlt : i < L.length
    · simp [hlt, hl]
    · simp [hlt, hl]
  · simp only [e, if_false]
    exact hj

theorem map_erase {α β : Type} (f : α → β) : ∀ (l : List α) (i : Nat), (l.eraseIdx i).map f = (l.map f).eraseIdx i
  | [], _ => rfl
  | _ :: _, 0 => rfl
  | a :: l, i + 1 => by simp [List.eraseIdx, map_erase f l i]

theorem Ents.erase {es : Array MapEntry} {L : List Ent} (h : Ents es L) (i : Nat) : Ents (es.eraseIdxIfInBounds i) (L.eraseIdx i) := by
  unfold Ents at *
  by_cases hi : i < es.size
  · have : (es.eraseIdxIfInBounds i).toList = es.toList.eraseIdx i := by simp [Array.eraseIdxIfInBounds, hi]
    rw [this, map_erase, map_erase, h]
  · have hl := (show Ents es L from h).len
    have : es.eraseIdxIfInBounds i = es := by simp [Array.eraseIdxIfInBounds, hi]
    rw [this, List.eraseIdx_of_length_le (by omega)]
    exact h

theorem run_update_none {w : World} {bm clock : Nat} {es : Array MapEntry} {L : List Ent} (hb : w.heap[bm]? = some (.map es clock)) (h : Ents es L) (k : Int) (v : Value) (hk : ∀ p ∈ L, p.1 ≠ k) :
    (Instr.mapUpdate 66 (.map (some bm)) (.int .i64 k) v).run Try.prog w = .ok () (setBlock w bm (.map (es.push ⟨.int .i64 k, v, clock⟩) (clock + 1))) := by
  unfold Instr.mapUpdate
  simp only [Sem.run_bind, run_underlying Try.underlying66, MapKept.run_getObj_map hb, Result.andThen_ok, MapKept.run_checkKey Try.underlying3 (isKey k), run_findKey (find_none h k hk), MapKept.run_setObj_map _ hb]
  rfl

theorem run_update_some {w : World} {bm clock : Nat} {es : Array MapEntry} {L : List Ent} (hb : w.heap[bm]? = some (.map es clock)) (h : Ents es L) (hu : Uniq L) (i : Nat) (p : Ent) (hp : L[i]? = some p) (v : Value) :
    (Instr.mapUpdate 66 (.map (some bm)) (.int .i64 p.1) v).run Try.prog w = .ok () (setBlock w bm (.map (es.modify i fun e => { e with key := .int .i64 p.1, val := v }) clock)) := by
  have hi : i < es.size := by
    have := (List.getElem?_eq_some_iff.1 hp).1
    have := h.len
    omega
  obtain ⟨q, hq, h4, _⟩ := h.at i es[i] (by simp [hi])
  rw [hp] at hq
  cases hq
  unfold Instr.mapUpdate
  simp only [Sem.run_bind, run_underlying Try.underlying66, MapKept.run_getObj_map hb, Result.andThen_ok, MapKept.run_checkKey Try.underlying3 (isKey p.1), run_findKey (find_some h hu i p hp), Instr.keyThatStays,
    Array.getElem?_eq_getElem hi, Option.map_some, Option.getD_some, h4, Instr.sameBits, beq_self_eq_true, Bool.and_self, if_true, Sem.run_pure, MapKept.run_setObj_map _ hb]
  rfl

theorem run_delete_some {w : World} {bm clock : Nat} {es : Array MapEntry} {L : List Ent} (hb : w.heap[bm]? = some (.map es clock)) (h : Ents es L) (hu : Uniq L) (i : Nat) (p : Ent) (hp : L[i]? = some p) (ty : TypeId) :
    (Builtin.delete_ #[66, 3] ty #[.map (some bm), .int .i64 p.1]).run Try.prog w = .ok (.tuple #[]) (setBlock w bm (.map (es.eraseIdxIfInBounds i) clock)) := by
  unfold Builtin.delete_
  simp [run_underlying Try.underlying66, MapKept.run_getObj_map hb, MapKept.run_checkKey Try.underlying3 (isKey p.1), run_findKey (find_some h hu i p hp), MapKept.run_setObj_map _ hb]
  rfl
end Go.Proofs.Ytjoinhljdbljaaa
