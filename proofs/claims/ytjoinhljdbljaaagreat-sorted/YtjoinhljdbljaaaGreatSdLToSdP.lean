/- What Sorted holds while it looks at the answer. What Sorted sees of the answer. Sorted's loop: what holds at each row. The walk of Sorted. -/
import Derived.Test.YtjoinhljdbljaaaGreatSdFToSdK
namespace Go.Proofs.YtjoinhljdbljaaaGreat
open Go.RowKit

def keysC (down last : Bool) : Array Value := #[.int .i64 0, .bool down, .bool last, .int .i64 3, .bool last, .bool false]
def keysL (down last : Bool) : List K := [⟨0, down, last⟩, ⟨3, last, false⟩]

/-- The table, the keys and the configuration; and what lay there before is as it was. -/
structure SdSt (w W : World) (bC bT bK bk : Nat) (sv : Value) (cb cf cu : Int) (down last : Bool) (raw : List Int) (vs : List Value) (rows : List (List V)) : Prop where
  cfg : W.heap[bC]? = some (.cells #[.int .i64 cb, .int .i64 cf, .int .i64 cu] 51 (0, 0))
  tab : W.heap[bT]? = some (.cells #[.string nameT, .slice (some ⟨bk, 0, none⟩) 4 4, sv] 70 (0, 0))
  keys : W.heap[bK]? = some (.cells (keysC down last) 73 (0, 0))
  kinds : W.heap[bk]? = some (.cells kindsC 3 (0, 0))
  list : LOwn W sv vs
  len : vs.length = rows.length
  rowsAt : ∀ i (_ : i < vs.length) (_ : i < rows.length), RowAt W vs[i] rows[i]
  trow : ∀ i (h : i < rows.length), TRow raw i rows[i]
  num : rows.length ≤ 1000
  low : Low w.heap.size w W

theorem SdSt.kept {w W W' : World} {lo bC bT bK bk : Nat} {sv : Value} {cb cf cu : Int} {down last : Bool} {raw : List Int} {vs : List Value} {rows : List (List V)} (h : SdSt w W bC bT bK bk sv cb cf cu down last raw vs rows) (k : Kept lo W W') (hlo : w.heap.size ≤ lo) : SdSt w W' bC bT bK bk sv cb cf cu down last raw vs rows :=
  { h with cfg := k.cells 51 (by decide) (by decide) _ _ _ h.cfg, tab := k.cells 70 (by decide) (by decide) _ _ _ h.tab, keys := k.cells 73 (by decide) (by decide) _ _ _ h.keys, kinds := k.cells 3 (by decide) (by decide) _ _ _ h.kinds, list := h.list.keep (k.cells 83 (by decide) (by decide)), rowsAt := fun i a b => Sl3.keep (h.rowsAt i a b) (k.cells 85 (by decide) (by decide)), low := h.low.trans (k.low.mono hlo) }
theorem SdSt.quiet {w W W' : World} {bC bT bK bk : Nat} {sv : Value} {cb cf cu : Int} {down last : Bool} {raw : List Int} {vs : List Value} {rows : List (List V)} (h : SdSt w W bC bT bK bk sv cb cf cu down last raw vs rows) (t : Touch [] W W') : SdSt w W' bC bT bK bk sv cb cf cu down last raw vs rows := h.kept (lo := w.heap.size) t.kept (Nat.le_refl _)

theorem SdSt.keysAt {w W : World} {bC bT bK bk : Nat} {sv : Value} {cb cf cu : Int} {down last : Bool} {raw : List Int} {vs : List Value} {rows : List (List V)} (h : SdSt w W bC bT bK bk sv cb cf cu down last raw vs rows) : KeysAt W (.slice (some ⟨bK, 0, none⟩) 2 2) (keysL down last) := by
  refine ⟨_, _, rfl, by simp [keysL], by unfold maxLen; omega, fun _ => ⟨_, _, _, _, rfl, h.keys, fun i hi => ?_⟩⟩
  simp only [keysL, List.map_cons, List.map_nil, List.length_cons, List.length_nil] at hi
  match i, hi with
  | 0, _ => exact ⟨rfl, rfl, rfl⟩
  | 1, _ => exact ⟨rfl, rfl, rfl⟩

theorem keysL_good (down last : Bool) : goodKeys (keysL down last) 4 := fun y hy => by
  simp only [keysL, List.mem_cons, List.not_mem_nil, or_false] at hy
  rcases hy with rfl | rfl <;> simp

/-- The table and the keys are laid, and lives has been asked. -/
theorem sdSt_start {w w1 w2 : World} {bk : Nat} {sv : Value} {cb cf cu : Int} {down last : Bool} {raw : List Int} (hTab : ∃ vs rows, Tabled (w.alloc (.cells #[.int .i64 cb, .int .i64 cf, .int .i64 cu] 51)) w1 raw bk sv vs rows) (hK : Kept ((w1.alloc (.cells #[.string nameT, .slice (some ⟨bk, 0, none⟩) 4 4, sv] 70)).alloc (.cells (keysC down last) 73)).heap.size ((w1.alloc (.cells #[.string nameT, .slice (some ⟨bk, 0, none⟩) 4 4, sv] 70)).alloc (.cells (keysC down last) 73)) w2) :
    ∃ vs rows, SdSt w w2 w.heap.size w1.heap.size (w1.heap.size + 1) bk sv cb cf cu down last raw vs rows := by
  obtain ⟨vs, rows, h⟩ := hTab
  refine ⟨vs, rows, ?_⟩
  have t0 : Touch [] w w1 := ((Touch.refl [] _).alloc _).trans h.touch
  have t1 : Touch [] w1 ((w1.alloc (.cells #[.string nameT, .slice (some ⟨bk, 0, none⟩) 4 4, sv] 70)).alloc (.cells (keysC down last) 73)) := ((Touch.refl [] _).alloc _).alloc _
  refine SdSt.kept (W := (w1.alloc (.cells #[.string nameT, .slice (some ⟨bk, 0, none⟩) 4 4, sv] 70)).alloc (.cells (keysC down last) 73)) ⟨t1.tag0 _ _ _ _ (h.touch.tag0 _ _ _ _ (heap_alloc_new w _)), (Below.heap_alloc _ _ _ (by simp)).trans (heap_alloc_new w1 _), new2 _ _ _, t1.tag0 _ _ _ _ h.kinds, h.list.keep (t1.tag0 _), h.len, fun i a b => (h.rowsAt i a b).touch t1, h.trow, by have := h.num; omega, (t0.trans t1).low (Hi.nil _)⟩ hK (t0.trans t1).size

/-- What is asked. -/
theorem SdSt.ask {w W W' : World} {bC bT bK bk gp blk fan bud : Nat} {sv : Value} {cb cf cu : Int} {down last : Bool} {raw : List Int} {vs : List Value} {rows : List (List V)} (h : SdSt w W bC bT bK bk sv cb cf cu down last raw vs rows) (hP : PlanAt W gp nameT (.slice (some ⟨bK, 0, none⟩) 2 2)) (t : Touch [] W W') (b : 64 ≤ blk ∧ blk ≤ 512) (f : 2 ≤ fan ∧ fan ≤ 16) (u : 4 * blk ≤ bud ∧ bud ≤ 100000) :
    Calls Tryz.prog 32 #[.agg #[.string nameT, .slice (some ⟨bk, 0, none⟩) 4 4, sv], .slice (some ⟨gp, 0, none⟩) 2 2, .agg #[.int .i64 (blk : Int), .int .i64 (fan : Int), .int .i64 (bud : Int)]] W' fun e w' => ∃ lo lc, e = .returned (.tuple #[.slice lo rows.length lc, .int .i64 0]) ∧ ∃ out, Answered W'.heap.size W' w' (.slice lo rows.length lc) out (keysL down last) rows ∧ SdSt w w' bC bT bK bk sv cb cf cu down last raw vs rows := by
  have h' := h.quiet t
  refine (ask_any W' gp bk sv 2 2 _ blk fan bud raw (keysL down last) vs rows { plan := hP.keep (t.tag0 _), keys := h'.keysAt, kinds := h'.kinds, list := h'.list, len := h'.len, rowsAt := h'.rowsAt, trow := h'.trow, num := h'.num, good := keysL_good down last, k1 := by simp [keysL], k4 := by simp [keysL], b1 := b.1, b2 := b.2, f1 := f.1, f2 := f.2, u1 := u.1, u2 := u.2 }).mono ?_
  rintro e w' ⟨lv, out, rfl, hA⟩
  obtain ⟨lo, ln, lc, rfl⟩ := hA.list.elim fun _ h => h.1.slice
  obtain ⟨e1, _⟩ := Answered.cells hA
  rw [out_len hA.perm] at e1
  subst e1
  exact ⟨lo, lc, rfl, out, hA, h'.kept hA.kept h'.low.size⟩
end Go.Proofs.YtjoinhljdbljaaaGreat

namespace Go.Proofs.YtjoinhljdbljaaaGreat
open Go.RowKit

theorem RawAt.quiet {w W : World} {v : Value} {raw : List Int} (h : RawAt w v raw) (t : Touch [] w W) : RawAt W v raw := by
  obtain ⟨h1, h2, ao, cap, e, hx⟩ := h
  refine ⟨h1, h2, ao, cap, e, fun hn => ?_⟩
  obtain ⟨b, off, e2, hx⟩ := hx hn
  exact ⟨b, off, e2, fun j hj => cell_touch (hx j hj) t⟩

theorem info4 : (Tryz.prog.info? 4).map (fun i => (i.zero, i.size, i.bytes)) = some (some (.bool false), 1, 1) := by kernel_rfl
theorem make_seen (n : Nat) (hn : n ≤ 1000) : ∃ M : Array Value, M.size = n ∧ (∀ j, j < n → M[j]? = some (.bool false)) ∧ ∀ W : World, (Instr.makeSlice 81 (.int .i64 (n : Int)) (.int .i64 (n : Int))).run Tryz.prog W = .ok (.slice (some ⟨W.heap.size, 0, none⟩) n n) (W.alloc (.cells M 4)) := by
  obtain ⟨i0, hi, hz0, hz1, hz2⟩ := info_parts info4
  refine ⟨madeCells (Value.bool false).cells (((n : Nat) : Int).toNat * i0.size), by rw [size_madeCells, hz1]; simp, fun j hj => ?_, fun W => ?_⟩
  · rw [hz1]
    simp [madeCells, hj, Value.cells, Nat.mod_one]
  · have h := run_make (P := Tryz.prog) W 81 4 i0 (.bool false) Tryz.underlying81 hi hz0 .i64 .i64 (n : Int) (n : Int) (by omega) (by omega) (by rw [hz2]; omega) (by omega)
    simpa using h

/-- Which rows have been met. -/
def SeenAt (W : World) (bs n : Nat) (out : List Rec) (i : Nat) : Prop := ∃ cs, W.heap[bs]? = some (.cells cs 4 (0, 0)) ∧ cs.size = n ∧ ∀ j, j < n → cs[j]? = some (.bool (decide (∃ r, r < i ∧ ∃ h : r < out.length, out[r].no = (j : Int))))
theorem SeenAt.keep {W W' : World} {bs n i : Nat} {out : List Rec} (h : SeenAt W bs n out i) (k : KeepTag 4 W W') : SeenAt W' bs n out i := by
  obtain ⟨cs, h1, h2⟩ := h
  exact ⟨cs, k _ _ _ h1, h2⟩
def AnsAt (W : World) (lo : Option Addr) (n lc : Nat) (out : List Rec) : Prop := ∃ vs', LOwn W (.slice lo n lc) vs' ∧ vs'.length = out.length ∧ ∀ i (_ : i < vs'.length) (_ : i < out.length), RowAt W vs'[i] out[i].row
theorem AnsAt.keep {W W' : World} {lo : Option Addr} {n lc : Nat} {out : List Rec} (h : AnsAt W lo n lc out) (k : KeepTag 83 W W') (k2 : KeepTag 85 W W') : AnsAt W' lo n lc out := by
  obtain ⟨vs, h1, h2, h3⟩ := h
  exact ⟨vs, h1.keep k, h2, fun i a b => Sl3.keep (h3 i a b) k2⟩

def Sixs (W : World) (bT bC bk : Nat) (sv : Value) (cb cf cu : Int) : Prop :=
  (W.cell? ⟨bT, 0, none⟩ = some (.string nameT) ∧ W.cell? ⟨bT, 1, none⟩ = some (.slice (some ⟨bk, 0, none⟩) 4 4) ∧ W.cell? ⟨bT, 2, none⟩ = some sv) ∧ (W.cell? ⟨bC, 0, none⟩ = some (.int .i64 cb) ∧ W.cell? ⟨bC, 1, none⟩ = some (.int .i64 cf) ∧ W.cell? ⟨bC, 2, none⟩ = some (.int .i64 cu))

theorem AnsAt.place {W : World} {lo : Option Addr} {n lc : Nat} {out : List Rec} (h : AnsAt W lo n lc out) (h1 : 1 ≤ out.length) : ∃ g off, lo = some ⟨g, off, none⟩ := by
  obtain ⟨vs, h2, h3, _⟩ := h
  obtain ⟨o, cap, e, h4⟩ := h2.at.1
  simp only [Value.slice.injEq] at e
  rcases h4 with rfl | ⟨g, off, cs, rfl, _⟩
  · simp at h3; omega
  · exact ⟨g, off, e.1⟩

/-- A row of the answer. -/
theorem AnsAt.row {W : World} {g off n lc : Nat} {out : List Rec} {rows : List (List V)} {raw : List Int} (h : AnsAt W (some ⟨g, off, none⟩) n lc out) (hp : out.Perm (recsOf rows)) (ht : ∀ i (h : i < rows.length), TRow raw i rows[i]) (k : Nat) (hk : k < out.length) :
    ∃ rb roff rcap j, ∃ hj : j < rows.length, W.cell? ⟨g, off + k, none⟩ = some (.slice (some ⟨rb, roff, none⟩) 4 rcap) ∧ (4 ≤ rcap ∧ rcap ≤ maxLen) ∧ W.cell? ⟨rb, roff + 3 + 1, none⟩ = some (.int .i64 (j : Int)) ∧ RowAt W (.slice (some ⟨rb, roff, none⟩) 4 rcap) rows[j] ∧ out[k].no = (j : Int) ∧ out[k].row = rows[j] := by
  obtain ⟨vs, h2, h3, h4⟩ := h
  obtain ⟨o, cap, e, h5⟩ := h2.at.1
  simp only [Value.slice.injEq] at e
  rcases h5 with rfl | ⟨g', off', cs, e', hg, _, _, hcs⟩
  · simp at h3; omega
  · rw [e'] at e
    simp only [Option.some.injEq, Addr.mk.injEq, and_true] at e
    obtain ⟨⟨rfl, rfl⟩, _⟩ := e
    obtain ⟨j, hj, x1, x2⟩ := out_at hp k hk
    have hr := h4 k (by omega) hk
    rw [x2] at hr
    obtain ⟨s, hs, er⟩ := ht j hj
    have hl4 : rows[j].length = 4 := by rw [er]; rfl
    obtain ⟨rb, roff, rcap, ev, hc1, hc2, hx⟩ := hr.cells (by omega)
    rw [hl4] at ev hc1
    refine ⟨rb, roff, rcap, j, hj, ?_, ⟨hc1, hc2⟩, ?_, ?_, x1, x2⟩
    · simp only [World.cell?, hg]
      rw [hcs k (by omega), ev]
      rfl
    · obtain ⟨_, y1, _⟩ := hx 1 (by omega)
      have e1 : rows[j][1]'(by omega) = ⟨1, (j : Int), ⟨#[]⟩⟩ := by simp only [er]; rfl
      rw [e1] at y1
      simpa using y1
    · rw [← ev]; exact hr

/-- A row of the table. -/
theorem SdSt.row {w W : World} {bC bT bK bk : Nat} {so : Option Addr} {n sc : Nat} {cb cf cu : Int} {down last : Bool} {raw : List Int} {vs : List Value} {rows : List (List V)} (h : SdSt w W bC bT bK bk (.slice so n sc) cb cf cu down last raw vs rows) (j : Nat) (hj : j < rows.length) :
    n = rows.length ∧ n ≤ sc ∧ sc ≤ maxLen ∧ ∃ g off, so = some ⟨g, off, none⟩ ∧ ∃ rv, W.cell? ⟨g, off + j, none⟩ = some rv ∧ RowAt W rv rows[j] := by
  obtain ⟨⟨o, cap, e, h5⟩, hcap⟩ := h.list.at
  obtain ⟨c1, c2⟩ := hcap _ _ _ rfl
  simp only [Value.slice.injEq] at e
  have hl := h.len
  rcases h5 with h5 | ⟨g, off, cs, e', hg, _, _, hcs⟩
  · rw [h5] at hl; simp at hl; omega
  · refine ⟨e.2.1.trans hl, c1, c2, g, off, e.1.trans e', vs[j]'(by omega), ?_, h.rowsAt j (by omega) hj⟩
    simp only [World.cell?, hg]
    rw [hcs j (by omega)]
    rfl

theorem fair_null : Fair V0 := .inl ⟨rfl, rfl, rfl⟩
theorem rows_pair {raw : List Int} {a b : List V} {i k : Nat} (ha : TRow raw i a) (hb : TRow raw k b) (hi : i ≤ 1000000) (hk : k ≤ 1000000) : ∀ j, Fair (a.getD j V0) ∧ Fair (b.getD j V0) ∧ ((a.getD j V0).k = 0 ∨ (b.getD j V0).k = 0 ∨ (a.getD j V0).k = (b.getD j V0).k) := by
  obtain ⟨s, hs, rfl⟩ := ha
  obtain ⟨s', hs', rfl⟩ := hb
  have fa := rowOf_fair (raw.getD i 0) i s hs hi
  have fb := rowOf_fair (raw.getD k 0) k s' hs' hk
  have ka : ∀ r, (aOf r).k = 0 ∨ (aOf r).k = 1 := fun r => by
    rcases aOf_cases r with h | ⟨n, _, h⟩ <;> rw [h] <;> simp
  intro j
  match j with
  | 0 => exact ⟨fa _ (by simp [rowOf]), fb _ (by simp [rowOf]), by
      show (aOf _).k = 0 ∨ (aOf _).k = 0 ∨ (aOf _).k = (aOf _).k
      have h1 := ka (raw.getD i 0)
      have h2 := ka (raw.getD k 0)
      omega⟩
  | 1 => exact ⟨fa _ (by simp [rowOf]), fb _ (by simp [rowOf]), .inr (.inr rfl)⟩
  | 2 => exact ⟨fa _ (by simp [rowOf]), fb _ (by simp [rowOf]), .inr (.inr rfl)⟩
  | 3 => exact ⟨fa _ (by simp [rowOf]), fb _ (by simp [rowOf]), .inr (.inr rfl)⟩
  | n + 4 => exact ⟨fair_null, fair_null, .inl rfl⟩

theorem Sl3.old {t : TypeId} {w : World} {v : Value} {l : List T3} (h : Sl3 t w v l) : Old.Lies w w.heap.size v l := by
  obtain ⟨ao, cap, e, hc, hm, hx⟩ := h
  refine ⟨ao, cap, e, hc, hm, fun hn => ?_⟩
  obtain ⟨b, off, cs, f, rfl, hb, hx⟩ := hx hn
  refine ⟨b, off, rfl, (Array.getElem?_eq_some_iff.1 hb).1, fun i hi => ?_⟩
  obtain ⟨y0, y1, y2⟩ := hx i hi
  simp only [World.cell?, hb]
  exact ⟨y0, y1, y2⟩

/-- The order of two of the table's rows. -/
theorem ahead_rows (W : World) (pv cv kv : Value) (ks : List K) (raw : List Int) (a b : List V) (i k : Nat) (hp : RowAt W pv a) (hc : RowAt W cv b) (hk : KeysAt W kv ks) (ha : TRow raw i a) (hb : TRow raw k b) (hi : i ≤ 1000000) (hk2 : k ≤ 1000000) (hg : goodKeys ks 4) (hl : ks.length ≤ 4) :
    Calls Tryz.prog 36 #[pv, cv, kv] W fun e w' => e = .returned (.int .i64 (- cmpR ks a b)) ∧ Touch [] W w' := by
  have hpair := rows_pair ha hb hi hk2
  have la : a.length = 4 := by obtain ⟨s, _, rfl⟩ := ha; rfl
  have lb : b.length = 4 := by obtain ⟨s, _, rfl⟩ := hb; rfl
  have e1 : ∀ l : List V, l.map V.t = (l.map V.old).map Old.V.t := fun l => by rw [List.map_map]; rfl
  have e2 : ∀ l : List K, l.map K.t = (l.map K.old).map Old.K.t := fun l => by rw [List.map_map]; rfl
  have p1 := Sl3.old hp
  have p2 := Sl3.old hc
  have p3 := Sl3.old hk
  rw [e1] at p1 p2
  rw [e2] at p3
  refine (Old.ahead_any W pv cv kv _ _ _ p1 p2 p3 (by simp; omega) (by simp; omega) (by simp [la, lb]) (fun y hy => ?_) (fun j hj => ?_)).mono ?_
  · obtain ⟨z, hz, rfl⟩ := List.mem_map.1 hy
    have := hg z hz
    exact ⟨this.1, by show z.c < ((a.map V.old).length : Int); rw [List.length_map, la]; exact this.2⟩
  · simp only [List.length_map] at hj
    obtain ⟨f1, f2, f3⟩ := hpair j
    have g1 : a.getD j V0 = a[j] := by rw [List.getD_eq_getElem?_getD, List.getElem?_eq_getElem hj]; rfl
    have g2 : b.getD j V0 = b[j]'(by omega) := by rw [List.getD_eq_getElem?_getD, List.getElem?_eq_getElem (by omega)]; rfl
    rw [g1, g2] at f3
    rw [g1] at f1
    rw [g2] at f2
    simp only [List.getElem_map]
    exact ⟨f1.old, f2.old, f3⟩
  · rintro e w' ⟨rfl, hB⟩
    rw [aheadL_cmp a b hpair ks]
    exact ⟨rfl, below_touch hB hB.size⟩
end Go.Proofs.YtjoinhljdbljaaaGreat

namespace Go.Proofs.YtjoinhljdbljaaaGreat
open Go.RowKit

structure LpSt (w W : World) (bC bT bK bk bS : Nat) (so : Option Addr) (sc : Nat) (cb cf cu : Int) (down last : Bool) (raw : List Int) (vs : List Value) (rows : List (List V)) (lo : Option Addr) (lc : Nat) (out : List Rec) (k : Nat) : Prop where
  st : SdSt w W bC bT bK bk (.slice so rows.length sc) cb cf cu down last raw vs rows
  ans : AnsAt W lo rows.length lc out
  seen : SeenAt W bS rows.length out k
  new : w.heap.size ≤ bS

section
variable {w W W' : World} {bC bT bK bk bS : Nat} {so : Option Addr} {sc : Nat} {cb cf cu : Int} {down last : Bool} {raw : List Int} {vs : List Value} {rows : List (List V)} {lo : Option Addr} {lc : Nat} {out : List Rec} {k : Nat}

theorem LpSt.quiet (h : LpSt w W bC bT bK bk bS so sc cb cf cu down last raw vs rows lo lc out k) (t : Touch [] W W') : LpSt w W' bC bT bK bk bS so sc cb cf cu down last raw vs rows lo lc out k :=
  ⟨h.st.quiet t, h.ans.keep (t.tag0 _) (t.tag0 _), h.seen.keep (t.tag0 _), h.new⟩

theorem LpSt.fresh (h : LpSt w W bC bT bK bk bS so sc cb cf cu down last raw vs rows lo lc out k) (hp : out.Perm (recsOf rows)) (hk : k < out.length) {j : Nat} (hj : j < rows.length) (hno : out[k].no = (j : Int)) : W.cell? ⟨bS, j, none⟩ = some (.bool false) ∧ W.frozen? ⟨bS, j, none⟩ = false := by
  obtain ⟨cs, h1, h2, h3⟩ := h.seen
  have e : decide (∃ r, r < k ∧ ∃ h : r < out.length, out[r].no = (j : Int)) = false := decide_eq_false (by
    rintro ⟨r, hr, h4, h5⟩
    exact out_once hp r k hr hk (h5.trans hno.symm))
  refine ⟨?_, by simp [World.frozen?, h1]⟩
  simp only [World.cell?, h1]
  rw [h3 j hj, e]
  rfl

theorem LpSt.mark (h : LpSt w W bC bT bK bk bS so sc cb cf cu down last raw vs rows lo lc out k) (hk : k < out.length) {j : Nat} (hj : j < rows.length) (hno : out[k].no = (j : Int)) : LpSt w (W.setCell ⟨bS, j, none⟩ (.bool true)) bC bT bK bk bS so sc cb cf cu down last raw vs rows lo lc out (k + 1) := by
  obtain ⟨cs, h1, h2, h3⟩ := h.seen
  have t : Touch [bS] W (W.setCell ⟨bS, j, none⟩ (.bool true)) := (Touch.refl [bS] W).setCell (p := ⟨bS, j, none⟩) (by simp) _
  have kt : ∀ t', (4 : TypeId) ≠ t' → KeepTag t' W (W.setCell ⟨bS, j, none⟩ (.bool true)) := fun t' ht => t.tag (notag_of h1 ht)
  have hlow : Low w.heap.size W (W.setCell ⟨bS, j, none⟩ (.bool true)) := t.low (fun i hi => by rw [List.mem_singleton.1 hi]; exact h.new)
  refine ⟨{ h.st with cfg := kt 51 (by decide) _ _ _ h.st.cfg, tab := kt 70 (by decide) _ _ _ h.st.tab, keys := kt 73 (by decide) _ _ _ h.st.keys, kinds := kt 3 (by decide) _ _ _ h.st.kinds, list := h.st.list.keep (kt 83 (by decide)), rowsAt := fun i a b => Sl3.keep (h.st.rowsAt i a b) (kt 85 (by decide)), low := h.st.low.trans hlow }, h.ans.keep (kt 83 (by decide)) (kt 85 (by decide)), ?_, h.new⟩
  refine ⟨cs.setIfInBounds j (.bool true), heap_setCell_same W bS j cs 4 _ h1, by simpa using h2, fun i hi => ?_⟩
  by_cases e : i = j
  · subst e
    rw [Array.getElem?_setIfInBounds_self_of_lt (by omega)]
    rw [decide_eq_true]
    exact ⟨k, by omega, hk, hno⟩
  · rw [Array.getElem?_setIfInBounds_ne (by omega), h3 i hi]
    congr 2
    refine decide_eq_decide.2 ⟨fun ⟨r, a, b, c⟩ => ⟨r, by omega, b, c⟩, fun ⟨r, a, b, c⟩ => ⟨r, ?_, b, c⟩⟩
    by_cases hr : r = k
    · subst hr
      rw [hno] at c
      omega
    · omega

/-- At the start. -/
theorem lpSt_start {M : Array Value} (h : SdSt w W bC bT bK bk (.slice so rows.length sc) cb cf cu down last raw vs rows) (ha : AnsAt W lo rows.length lc out) (h1 : M.size = rows.length) (h2 : ∀ j, j < rows.length → M[j]? = some (.bool false)) : LpSt w (W.alloc (.cells M 4)) bC bT bK bk W.heap.size so sc cb cf cu down last raw vs rows lo lc out 0 := by
  have t : Touch [] W (W.alloc (.cells M 4)) := (Touch.refl [] _).alloc _
  refine ⟨h.quiet t, ha.keep (t.tag0 _) (t.tag0 _), ⟨M, heap_alloc_new W _, h1, fun j hj => ?_⟩, h.low.size⟩
  rw [h2 j hj, decide_eq_false]
  rintro ⟨r, hr, _⟩
  omega

/-- The row that is looked at is the table's. -/
theorem LpSt.same (h : LpSt w W bC bT bK bk bS so sc cb cf cu down last raw vs rows lo lc out k) {rv : Value} {j : Nat} (hj : j < rows.length) (hr : RowAt W rv rows[j]) {tg toff : Nat} (hso : so = some ⟨tg, toff, none⟩) (c2 : Nat) :
    Calls Tryz.prog 35 #[.slice (some ⟨W.heap.size, 0, none⟩) 1 1, .slice (some ⟨tg, toff + j, none⟩) 1 c2] (W.drew.alloc (.cells #[rv] 83)) fun e w' => e = .returned (.bool true) ∧ Touch [] W w' := by
  have t : Touch [] W (W.drew.alloc (.cells #[rv] 83)) := ((Touch.refl [] W).drew).alloc _
  obtain ⟨_, _, _, g, off, e, rv2, hc, hr2⟩ := h.st.row j hj
  rw [hso] at e
  simp only [Option.some.injEq, Addr.mk.injEq, and_true] at e
  obtain ⟨rfl, rfl⟩ := e
  obtain ⟨s, _, er⟩ := h.st.trow j hj
  have hl : rows[j].length = 4 := by rw [er]; rfl
  have hn := heap_alloc_new W.drew (.cells #[rv] 83)
  refine (same_any _ W.heap.size 0 1 tg (toff + j) c2 rv rv2 rows[j] ?_ (cell_touch hc t) (hr.touch t) (hr2.touch t) (by omega) (by omega)).mono ?_
  · have hn' : (W.drew.alloc (.cells #[rv] 83)).heap[W.heap.size]? = some (.cells #[rv] 83 (0, 0)) := hn
    simp only [World.cell?, hn']
    rfl
  · rintro e w' ⟨rfl, h1⟩
    exact ⟨rfl, t.trans h1⟩

/-- The order of the row ahead and of this one. -/
theorem LpSt.ahead (h : LpSt w W bC bT bK bk bS so sc cb cf cu down last raw vs rows lo lc out k) {n : Nat} (hs : Srt (keysL down last) out) (hn : n + 1 < out.length) {pv cv : Value} {i j : Nat} (hi : i < rows.length) (hj : j < rows.length) (hp : RowAt W pv rows[i]) (hc : RowAt W cv rows[j]) (e1 : out[n].no = (i : Int)) (e2 : out[n].row = rows[i]) (e3 : out[n + 1].no = (j : Int)) (e4 : out[n + 1].row = rows[j]) :
    ∃ r : Int, (0 ≤ r ∧ (r = 0 → i ≤ j)) ∧ Calls Tryz.prog 36 #[pv, cv, .slice (some ⟨bK, 0, none⟩) 2 2] W.drew fun e w' => e = .returned (.int .i64 r) ∧ Touch [] W w' := by
  have t : Touch [] W W.drew := (Touch.refl [] W).drew
  obtain ⟨o1, o2⟩ := out_order hs n hn
  rw [e2, e4] at o1 o2
  rw [e1, e3] at o2
  have hnum := h.st.num
  refine ⟨- cmpR (keysL down last) rows[i] rows[j], ⟨by omega, fun e => by have := o2 (by omega); omega⟩, ?_⟩
  refine (ahead_rows W.drew pv cv _ (keysL down last) raw rows[i] rows[j] i j (hp.touch t) (hc.touch t) ((h.st.quiet t).keysAt) (h.st.trow i hi) (h.st.trow j hj) (by omega) (by omega) (keysL_good down last) (by simp [keysL])).mono ?_
  rintro e w' ⟨rfl, h1⟩
  exact ⟨rfl, t.trans h1⟩
end

theorem slice_one (tg toff n sc j : Nat) (h : j + 1 ≤ sc) (W : World) : (Instr.sliceAt 36 (.slice (some ⟨tg, toff, none⟩) n sc) (some (.int .i64 (j : Int))) (some (.int .i64 ((j : Int) + 1))) none).run Tryz.prog W = .ok (.slice (some ⟨tg, toff + j, none⟩) 1 (sc - j)) W := by
  have hsz : (sizeOf (Tryz.prog.elem 36)).run Tryz.prog W = .ok 1 W := by kernel_rfl
  rw [run_sliceAt_slice _ _ _ _ _ _ (by kernel_rfl), run_slice_lh W 36 _ n sc (by kernel_rfl) .i64 .i64 (j : Int) ((j : Int) + 1) (by omega) (by omega) (by omega), hsz]
  have e1 : ¬ sc = j := by omega
  have e2 : ((j : Int) + 1).toNat = j + 1 := by omega
  have e3 : (⟨tg, toff, none⟩ : Addr).add j = ⟨tg, toff + j, none⟩ := by
    unfold Addr.add
    by_cases h0 : j = 0
    · rw [if_pos h0, h0]; rfl
    · rw [if_neg h0]
  have e4 : j + 1 - j = 1 := by omega
  show Result.ok (sliced _ _ _ _ _) W = _
  unfold sliced
  rw [Int.toNat_natCast, e2, if_neg e1, Option.map_some, Nat.mul_one, e3, e4]
end Go.Proofs.YtjoinhljdbljaaaGreat

namespace Go.Proofs.YtjoinhljdbljaaaGreat
open Go.RowKit

set_option maxRecDepth 20000 in
set_option maxHeartbeats 4000000 in
theorem sortedLaw_any (w : World) (rv : Value) (raw : List Int) (cb cf cu : Int) (down last : Bool) (h : RawAt w rv raw) (hb : I64 cb) (hf : I64 cf) (hu : I64 cu) :
    Calls Tryz.prog 5 #[rv, .agg #[.int .i64 cb, .int .i64 cf, .int .i64 cu], .bool down, .bool last] w fun e w' => e = .returned (.bool true) ∧ Low w.heap.size w w' := by
  have HT : Hid (∀ W, Touch [] w W → Calls Tryz.prog 30 #[rv] W fun e w' => ∃ bk so sn sc, e = .returned (.agg #[.string nameT, .slice (some ⟨bk, 0, none⟩) 4 4, .slice so sn sc]) ∧ (∃ vs rows, Tabled W w' raw bk (.slice so sn sc) vs rows)) := fun W t => by
    refine (table_any W rv raw (h.quiet t)).mono ?_
    rintro e w' ⟨bk, sv, vs, rows, rfl, h⟩
    obtain ⟨so, sn, sc, rfl⟩ := h.list.slice
    exact ⟨bk, so, sn, sc, rfl, vs, rows, h⟩
  have HLV : Hid (∀ W, Calls Tryz.prog 31 #[] W fun e w' => e = .returned (.bool true) ∧ Kept W.heap.size W w') := lives_any
  have HW : Hid (∀ W ko kn kc, Calls Tryz.prog 33 #[nodeV (.slice ko kn kc)] W fun e w' => ∃ gp, e = .returned (.slice (some ⟨gp, 0, none⟩) 2 2) ∧ PlanAt w' gp nameT (.slice ko kn kc) ∧ Touch [] W w') := fun W ko kn kc => with_any W ko kn kc
  unfold nodeV at HW
  have HF : Hid (∀ W, Calls Tryz.prog 34 #[.agg #[.int .i64 cb, .int .i64 cf, .int .i64 cu]] W fun e w' => ∃ blk fan bud : Nat, e = .returned (.agg #[.int .i64 (blk : Int), .int .i64 (fan : Int), .int .i64 (bud : Int)]) ∧ ((64 ≤ blk ∧ blk ≤ 512) ∧ (2 ≤ fan ∧ fan ≤ 16) ∧ (4 * blk ≤ bud ∧ bud ≤ 100000)) ∧ Touch [] W w') := fun W => by
    refine (fit_any W cb cf cu hb hf hu).mono ?_
    rintro e w' ⟨blk, fan, bud, rfl, h1, h2, h3, h4⟩
    exact ⟨blk, fan, bud, rfl, ⟨h1, h2, h3⟩, h4⟩
  obtain ⟨hI, hlen, ao, cap, rfl, hx⟩ := h
  clear hI hlen hx
  go_enter Tryz.func5, Tryz.ntmps5
  go_wp2_with (first | (go_at_call 30; refine (HT.out _ ((Touch.refl [] _).alloc _)).mono ?_; rintro e w1 ⟨bk, so, sn, sc, rfl, hTab⟩; have HTAB : Hid (∃ vs rows, Tabled (w.alloc (.cells #[.int .i64 cb, .int .i64 cf, .int .i64 cu] 51)) w1 raw bk (.slice so sn sc) vs rows) := hTab; clear hTab) | (go_at_call 31; refine (HLV.out _).mono ?_; rintro e w2 ⟨rfl, hK⟩; have HS : Hid (∃ vs rows, SdSt w w2 w.heap.size w1.heap.size (w1.heap.size + 1) bk (.slice so sn sc) cb cf cu down last raw vs rows) := sdSt_start HTAB.out hK; clear hK))
  obtain ⟨vs, rows, hS⟩ := HS.out
  have hsn : sn = rows.length := by
    obtain ⟨o, cap, e, _⟩ := hS.list.at.1
    simp only [Value.slice.injEq] at e
    rw [e.2.1, hS.len]
  subst hsn
  clear HS HTAB HT HLV
  generalize hbC : w.heap.size = bC at *
  generalize hbT : w1.heap.size = bT at *
  generalize hbK : bT + 1 = bK at *
  have HS2 : Hid (SdSt w w2 bC bT bK bk (.slice so rows.length sc) cb cf cu down last raw vs rows) := hS
  have HC : Hid (∀ W, Touch [] w2 W → Sixs W bT bC bk (.slice so rows.length sc) cb cf cu) := fun W t => ⟨box3 (t.tag0 70 _ _ _ hS.tab), box3 (t.tag0 51 _ _ _ hS.cfg)⟩
  clear hS hbK
  have hltC : bC < w2.heap.size := lt_of_cell (HC.out w2 (Touch.refl [] _)).2.1
  obtain ⟨⟨c0, c1, c2⟩, ⟨c3, c4, c5⟩⟩ := HC.out w2 (Touch.refl [] _)
  go_region_held3 (fun w' => (w'.cell? ⟨bT, 0, none⟩ = some (.string nameT) ∧ w'.cell? ⟨bT, 1, none⟩ = some (.slice (some ⟨bk, 0, none⟩) 4 4) ∧ w'.cell? ⟨bT, 2, none⟩ = some (.slice so rows.length sc)) ∧ (w'.cell? ⟨bC, 0, none⟩ = some (.int .i64 cb) ∧ w'.cell? ⟨bC, 1, none⟩ = some (.int .i64 cf) ∧ w'.cell? ⟨bC, 2, none⟩ = some (.int .i64 cu))) (go_keep) (first | (go_at_call 33; refine (HW.out _ _ _ _).mono ?_; rintro e w3 ⟨gp, rfl, hP, hT⟩; have HU3 : Hid (Touch [] w2 w3) := ((Touch.refl [] w2).drew).trans hT; have HP3 : Hid (PlanAt w3 gp nameT (.slice (some ⟨bK, 0, none⟩) 2 2)) := hP; obtain ⟨⟨p0, p1, p2⟩, ⟨p3, p4, p5⟩⟩ := HC.out w3 HU3.out; clear hP hT) | (go_at_call 34; refine (HF.out _).mono ?_; rintro e w4 ⟨blk, fan, bud, rfl, hbf, hT⟩; have HU4 : Hid (Touch [] w3 w4) := hT; have HBF : Hid ((64 ≤ blk ∧ blk ≤ 512) ∧ (2 ≤ fan ∧ fan ≤ 16) ∧ (4 * blk ≤ bud ∧ bud ≤ 100000)) := hbf; obtain ⟨⟨q0, q1, q2⟩, ⟨q3, q4, q5⟩⟩ := HC.out w4 (HU3.out.trans HU4.out); clear hbf hT) | (go_at_call 32; refine ((HS2.out.quiet HU3.out).ask HP3.out HU4.out HBF.out.1 HBF.out.2.1 HBF.out.2.2).mono ?_; rintro e w5 ⟨lo, lc, rfl, hA⟩; have HA : Hid (∃ out, Answered w4.heap.size w4 w5 (.slice lo rows.length lc) out (keysL down last) rows ∧ SdSt w w5 bC bT bK bk (.slice so rows.length sc) cb cf cu down last raw vs rows) := hA; clear hA; obtain ⟨⟨r0, r1, r2⟩, ⟨r3, r4, r5⟩⟩ := (HA.out.elim fun _ h => (⟨box3 h.2.tab, box3 h.2.cfg⟩ : Sixs w5 bT bC bk (.slice so rows.length sc) cb cf cu))))
  obtain ⟨out, hA, hS5⟩ := HA.out
  have hfew := hS5.num
  obtain ⟨M, hM1, hM2, hM3⟩ := make_seen rows.length hfew
  have HAN : Hid (AnsAt w5 lo rows.length lc out) := hA.list
  have HPS : Hid (out.Perm (recsOf rows) ∧ Srt (keysL down last) out) := ⟨hA.perm, hA.sorted⟩
  have HS5 : Hid (SdSt w w5 bC bT bK bk (.slice so rows.length sc) cb cf cu down last raw vs rows) := hS5
  clear hA hS5 HA HS2 HC HW HF HU3 HP3 HU4 HBF c0 c1 c2 c3 c4 c5 p0 p1 p2 p3 p4 p5 q0 q1 q2 q3 q4 q5
  have HST : Hid (LpSt w (w5.alloc (.cells M 4)) bC bT bK bk w5.heap.size so sc cb cf cu down last raw vs rows lo lc out 0) := lpSt_start HS5.out HAN.out hM1 hM2
  go_wp2
  clear hM1 hM2 hM3 r0 r1 r2 r3 r4 r5 HS5 HAN
  generalize w5.heap.size = bS at *
  go_loopw [16] (fun i wr => ∃ k : Nat, k ≤ rows.length ∧ i = .int .i64 (k : Int) ∧ LpSt w wr bC bT bK bk bS so sc cb cf cu down last raw vs rows lo lc out k) (fun i _ => rows.length - (intOf i).toNat)
  case atStart => exact ⟨0, by omega, rfl, HST.out⟩
  case round =>
    clear HST
    obtain ⟨k, hk, rfl, hL⟩ := hrel
    by_cases hlt : k < rows.length
    · have hol : out.length = rows.length := out_len HPS.out.1
      obtain ⟨g, off, rfl⟩ := hL.ans.place (by omega)
      obtain ⟨rb, roff, rcap, j, hj, c0, ⟨hc1, hc2⟩, c1, hrow, hno, hrw⟩ := hL.ans.row HPS.out.1 hL.st.trow k (by omega)
      obtain ⟨_, hsc1, hsc2, tg, toff, hso, _⟩ := hL.st.row j hj
      subst hso
      have ct := (box3 hL.st.tab).2.2
      have HL : Hid (LpSt w wr bC bT bK bk bS (some ⟨tg, toff, none⟩) sc cb cf cu down last raw vs rows (some ⟨g, off, none⟩) lc out k) := hL
      have HROW : Hid (RowAt wr (.slice (some ⟨rb, roff, none⟩) 4 rcap) rows[j]) := hrow
      have HNO : Hid (out[k].no = (j : Int) ∧ out[k].row = rows[j]) := ⟨hno, hrw⟩
      clear hL hrow hno hrw
      go_wp2
      have HSM : Hid (∀ c2, Calls Tryz.prog 35 #[.slice (some ⟨wr.heap.size, 0, none⟩) 1 1, .slice (some ⟨tg, toff + j, none⟩) 1 c2] (wr.drew.alloc (.cells #[.slice (some ⟨rb, roff, none⟩) 4 rcap] 83)) fun e w' => e = .returned (.bool true) ∧ Touch [] wr w') := fun c2 => HL.out.same hj HROW.out rfl c2
      have HCC : Hid (∀ W, Touch [] wr W → W.cell? ⟨g, off + k, none⟩ = some (.slice (some ⟨rb, roff, none⟩) 4 rcap) ∧ W.cell? ⟨bT, 2, none⟩ = some (.slice (some ⟨tg, toff, none⟩) rows.length sc)) := fun W t => ⟨cell_touch c0 t, cell_touch ct t⟩
      have l0 := lt_of_cell c0
      have l1 := lt_of_cell ct
      have hwr : IntKind.i64.wrap ((j : Int) + 1) = (j : Int) + 1 := wrap_small _ (by omega) (by omega)
      have hsl1 := slice_one tg toff rows.length sc j (by omega)
      go_region_held3 (fun w' => w'.cell? ⟨g, off + k, none⟩ = some (.slice (some ⟨rb, roff, none⟩) 4 rcap) ∧ w'.cell? ⟨bT, 2, none⟩ = some (.slice (some ⟨tg, toff, none⟩) rows.length sc)) (go_keep) (first | (go_at_call 35; refine (HSM.out _).mono ?_; rintro e w6 ⟨rfl, hT⟩; have HT6 : Hid (Touch [] wr w6) := hT; obtain ⟨d0, d1⟩ := HCC.out w6 hT; clear hT))
      have hL6 := HL.out.quiet HT6.out
      obtain ⟨s0, sf⟩ := hL6.fresh HPS.out.1 (by omega : k < out.length) hj HNO.out.1
      have HM : Hid (LpSt w (w6.setCell ⟨bS, j, none⟩ (.bool true)) bC bT bK bk bS (some ⟨tg, toff, none⟩) sc cb cf cu down last raw vs rows (some ⟨g, off, none⟩) lc out (k + 1)) := hL6.mark (by omega) hj HNO.out.1
      clear hL6 HSM HCC HL HROW HT6 c0 c1 ct d0 d1 hsl1 hwr l0 l1
      rcases Nat.eq_zero_or_pos k with hk0 | hk0
      · subst hk0
        go_wp2
        go_roundw
        case rel => exact ⟨1, by omega, by go_num, HM.out⟩
        case measure => simp [intOf]; omega
      · obtain ⟨n, rfl⟩ : ∃ n, k = n + 1 := ⟨k - 1, by omega⟩
        go_wp2
        clear s0 sf
        generalize w6.setCell ⟨bS, j, none⟩ (.bool true) = w7 at *
        obtain ⟨pb, poff, pcap, i, hi, a0, ⟨pc1, pc2⟩, a1, hpr, hpn, hpw⟩ := HM.out.ans.row HPS.out.1 HM.out.st.trow n (by omega)
        obtain ⟨cb2, coff, ccap, j2, hj2, b0, _, _, hcr, hcn, hcw⟩ := HM.out.ans.row HPS.out.1 HM.out.st.trow (n + 1) (by omega)
        obtain rfl : j2 = j := by have := HNO.out.1; omega
        obtain ⟨r, ⟨hr0, hr1⟩, hcall⟩ := HM.out.ahead (n := n) HPS.out.2 (by omega) hi hj2 hpr hcr hpn hpw hcn hcw
        have HAH : Hid (Calls Tryz.prog 36 #[.slice (some ⟨pb, poff, none⟩) 4 pcap, .slice (some ⟨cb2, coff, none⟩) 4 ccap, .slice (some ⟨bK, 0, none⟩) 2 2] w7.drew fun e w' => e = .returned (.int .i64 r) ∧ Touch [] w7 w') := hcall
        have HCC : Hid (∀ W, Touch [] w7 W → W.cell? ⟨g, off + n, none⟩ = some (.slice (some ⟨pb, poff, none⟩) 4 pcap) ∧ W.cell? ⟨g, off + (n + 1), none⟩ = some (.slice (some ⟨cb2, coff, none⟩) 4 ccap) ∧ W.cell? ⟨pb, poff + 3 + 1, none⟩ = some (.int .i64 (i : Int))) := fun W t => ⟨cell_touch a0 t, cell_touch b0 t, cell_touch a1 t⟩
        clear hcall hpr hpn hpw hcr hcn hcw HNO
        have hw1 : IntKind.i64.wrap (n : Int) = (n : Int) := wrap_small _ (by omega) (by omega)
        have v1 : (n : Int) < (rows.length : Int) := by omega
        have v2 : (n : Int) + 1 < (rows.length : Int) := by omega
        have v3 : (0 : Int) ≤ (n : Int) + 1 := by omega
        have v4 : ((n : Int) + 1).toNat = n + 1 := by omega
        go_region_held3 (fun w' => w'.cell? ⟨g, off + n, none⟩ = some (.slice (some ⟨pb, poff, none⟩) 4 pcap) ∧ w'.cell? ⟨g, off + (n + 1), none⟩ = some (.slice (some ⟨cb2, coff, none⟩) 4 ccap)) (go_keep) (first | (go_at_call 36; refine HAH.out.mono ?_; rintro e w8 ⟨rfl, hT⟩; have HT8 : Hid (Touch [] w7 w8) := hT; obtain ⟨e0, e1, e2⟩ := HCC.out w8 hT; clear hT))
        have hx1 : ¬ r < 0 := by omega
        have hend : ¬ (rows.length : Int) < (n : Int) + 1 + 1 := by omega
        clear a0 b0 a1
        by_cases hz : r = 0
        · have hx2 : ¬ (j2 : Int) < (i : Int) := by have := hr1 hz; omega
          subst hz
          go_wp2
          go_roundw
          case rel => exact ⟨n + 1 + 1, by omega, by go_num, HM.out.quiet HT8.out⟩
          case measure => simp [intOf]; omega
        · go_wp2
          go_roundw
          case rel => exact ⟨n + 1 + 1, by omega, by go_num, HM.out.quiet HT8.out⟩
          case measure => simp [intOf]; omega
    · go_wp2
      go_ret
      exact ⟨rfl, hL.st.low⟩
end Go.Proofs.YtjoinhljdbljaaaGreat
