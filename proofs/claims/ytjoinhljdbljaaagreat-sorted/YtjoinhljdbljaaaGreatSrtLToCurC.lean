/- The making of a sorter. A heap of cursors as it lies in memory; its test. An item of a heap of cursors goes up to its place. The walk of siftDown over a heap of cursors. -/
import Derived.Test.YtjoinhljdbljaaaGreatSrtIToSrtK
import Derived.BigRegion
namespace Go.Proofs.YtjoinhljdbljaaaGreat
open Go.RowKit

set_option maxRecDepth 20000 in
set_option maxHeartbeats 2000000 in
theorem heapsNew_any (w : World) (bs : Nat) : Calls Tryz.prog 163 #[.func (.func 164) #[] #[.pointer (some ⟨bs, 0, none⟩)]] w fun e w' => e = .returned (.pointer (some ⟨w.heap.size, 0, none⟩)) ∧ HeadAt w' w.heap.size (.slice none 0 0) bs ∧ w.heap.size < w'.heap.size ∧ Touch [] w w' := by
  go_enter Tryz.func163, Tryz.ntmps163
  go_wp2
  go_ret
  exact ⟨rfl, heap_alloc_new w _, by simp, (Touch.refl _ _).alloc _⟩

/-- A sorter's cells as its making leaves them. -/
def SC.new (bx blk fan bud count : Nat) (kv : Value) (ph : Nat) : SC := ⟨bx, blk, kv, count, bud / 2, min fan (bud / 2 / blk), ph, 0, 0, 0, 0, 0, .slice none 0 0, .slice none 0 0, .pointer none, 0⟩

def rawSorter (bx : Nat) (blk fan bud count : Nat) (kv : Value) : Array Value := #[.pointer (some ⟨bx, 0, none⟩), .int .i64 (blk : Int), kv, .int .i64 (count : Int), .int .i64 ((bud : Int) / 2), .int .i64 (min (fan : Int) ((bud : Int) / 2 / (blk : Int))), .pointer none, .int .i64 0, .int .i64 0, .int .i64 0, .int .i64 0, .int .i64 0, .slice none 0 0, .slice none 0 0, .pointer none, .int .i64 0]

theorem raw_set {w : World} {ps bx blk fan bud count ph : Nat} {kv : Value} (h : w.heap[ps]? = some (.cells (rawSorter bx blk fan bud count kv) 260 (0, 0))) : SorterAt (w.setCell ⟨ps, 6, none⟩ (.pointer (some ⟨ph, 0, none⟩))) ps (SC.new bx blk fan bud count kv ph) := by
  unfold SorterAt
  rw [heap_setCell_same w ps 6 _ 260 _ h]
  have e1 : ((bud / 2 : Nat) : Int) = (bud : Int) / 2 := by omega
  have e2 : ((bud / 2 / blk : Nat) : Int) = (bud : Int) / 2 / (blk : Int) := by rw [Int.natCast_ediv, e1]
  have e3 : ((min fan (bud / 2 / blk) : Nat) : Int) = min (fan : Int) ((bud : Int) / 2 / (blk : Int)) := by rw [← e2]; omega
  simp only [rawSorter, SC.cells, SC.new, e1, e3]
  simp

theorem raw_cells {w : World} {ps bx blk fan bud count : Nat} {kv : Value} (h : w.heap[ps]? = some (.cells (rawSorter bx blk fan bud count kv) 260 (0, 0))) : w.cell? ⟨ps, 6, none⟩ = some (.pointer none) ∧ w.frozen? ⟨ps, 6, none⟩ = false := by
  constructor
  · simp [World.cell?, h, rawSorter]
  · simp [World.frozen?, h]

theorem alloc3 (w : World) (a b c : Obj) : (((w.alloc a).alloc b).alloc c).heap[w.heap.size + 1]? = some b ∧ (((w.alloc a).alloc b).alloc c).heap[w.heap.size + 1 + 1]? = some c := by
  have h1 : (w.alloc a).heap.size = w.heap.size + 1 := by simp
  have h2 : ((w.alloc a).alloc b).heap.size = w.heap.size + 1 + 1 := by simp
  constructor
  · rw [Below.heap_alloc _ _ _ (by rw [h2]; omega), ← h1]
    exact heap_alloc_new _ _
  · rw [← h2]
    exact heap_alloc_new _ _

set_option maxRecDepth 20000 in
set_option maxHeartbeats 2000000 in
theorem sorterNew_any (w : World) (bx blk fan bud count : Nat) (kv : Value) (hb : 1 ≤ blk) (hbud : bud ≤ 9223372036854775807) (hkv : ∃ o n c, kv = .slice o n c) :
    Calls Tryz.prog 133 #[.agg #[.int .i64 (blk : Int), .int .i64 (fan : Int), .int .i64 (bud : Int)], .pointer (some ⟨bx, 0, none⟩), kv, .int .i64 (count : Int)] w fun e w' => ∃ ps bs ph, e = .returned (.pointer (some ⟨ps, 0, none⟩)) ∧ w.heap.size ≤ ps ∧ w.heap.size ≤ bs ∧ w.heap.size ≤ ph ∧
      SorterAt w' ps (SC.new bx blk fan bud count kv ph) ∧ HeadAt w' ph (.slice none 0 0) bs ∧ w'.heap[bs]? = some (.cells #[.pointer (some ⟨ps, 0, none⟩)] 228 (0, 0)) ∧ Touch [] w w' := by
  obtain ⟨ko, kn, kc, rfl⟩ := hkv
  have HN : Hid (∀ W bs, Calls Tryz.prog 163 #[.func (.func 164) #[] #[.pointer (some ⟨bs, 0, none⟩)]] W fun e w' => e = .returned (.pointer (some ⟨W.heap.size, 0, none⟩)) ∧ HeadAt w' W.heap.size (.slice none 0 0) bs ∧ W.heap.size < w'.heap.size ∧ Touch [] W w') := heapsNew_any
  have hd1 : (0 : Int) ≤ (bud : Int) / 2 ∧ (bud : Int) / 2 ≤ 9223372036854775807 := by omega
  have hd2 : (0 : Int) ≤ (bud : Int) / 2 / (blk : Int) ∧ (bud : Int) / 2 / (blk : Int) ≤ 9223372036854775807 := by
    refine ⟨Int.ediv_nonneg hd1.1 (by omega), Int.le_trans (Int.ediv_le_self _ hd1.1) hd1.2⟩
  have w1 : wrap64 ((bud : Int) / 2) = (bud : Int) / 2 := by unfold wrap64; omega
  have w2 : wrap64 ((bud : Int) / 2 / (blk : Int)) = (bud : Int) / 2 / (blk : Int) := by generalize (bud : Int) / 2 / (blk : Int) = z at *; unfold wrap64; omega
  have hb0 : ¬ (blk : Int) = 0 := by omega
  have hb1 : ¬ blk = 0 := by omega
  go_enter Tryz.func133, Tryz.ntmps133
  go_wp2
  go_cut [10] from 11 (fun a wx => ∃ bs ps, a = .pointer (some ⟨bs, 0, none⟩) ∧ w.heap.size ≤ ps ∧ w.heap.size ≤ bs ∧ ps ≠ bs ∧ wx.heap[bs]? = some (.cells #[.pointer (some ⟨ps, 0, none⟩)] 228 (0, 0)) ∧ wx.heap[ps]? = some (.cells (rawSorter bx blk fan bud count (.slice ko kn kc)) 260 (0, 0)) ∧ Touch [] w wx)
  case first =>
    go_region
    all_goals
      go_wp2
      go_meet
      case rel => first | exact ⟨_, w.heap.size + 1, rfl, by omega, by omega, by omega, (alloc3 w _ _ _).2, (alloc3 w _ _ _).1, (((Touch.refl [] w).alloc _).alloc _).alloc _ |>.drew⟩ | exact ⟨_, w.heap.size + 1 + 1, rfl, by omega, by omega, by omega, (alloc3 w _ _ _).1, (alloc3 w _ _ _).2, (((Touch.refl [] w).alloc _).alloc _).alloc _ |>.drew⟩
  case rest =>
    obtain ⟨bs, ps, rfl, hps, hbs, hne, hB, hP, hT⟩ := hcut
    have hp1 := (Array.getElem?_eq_some_iff.1 hP).1
    have hb1 := (Array.getElem?_eq_some_iff.1 hB).1
    have e0 := boxOne hB
    have HH : Hid (wc.heap[bs]? = some (.cells #[.pointer (some ⟨ps, 0, none⟩)] 228 (0, 0)) ∧ wc.heap[ps]? = some (.cells (rawSorter bx blk fan bud count (.slice ko kn kc)) 260 (0, 0)) ∧ Touch [] w wc) := ⟨hB, hP, hT⟩
    have HAF : Hid (∀ W, Touch [] wc W → W.heap[bs]? = some (.cells #[.pointer (some ⟨ps, 0, none⟩)] 228 (0, 0)) ∧ W.heap[ps]? = some (.cells (rawSorter bx blk fan bud count (.slice ko kn kc)) 260 (0, 0))) := fun W hW => ⟨hW.u.keep hB (by decide) (by simp), hW.u.keep hP (by decide) (by simp)⟩
    clear hB hP hT
    go_wp2
    go_region_with (go_at_call 163; refine (HN.out _ _).mono ?_; rintro e w1 ⟨rfl, h1, h2, h3⟩; obtain ⟨a1, a2⟩ := HAF.out w1 (((Touch.refl [] _).drew).trans h3); have a0 := boxOne a1; obtain ⟨k6, kf⟩ := raw_cells a2; have HA1 : Hid _ := a1; have HA2 : Hid _ := a2; have H1 : Hid _ := h1; have HT3 : Hid (Touch [] wc w1) := (((Touch.refl [] _).drew).trans h3); clear a1 a2 h1 h3)
    all_goals
      go_wp2
      go_ret
      have t6 : Touch [ps] w1 (w1.setCell ⟨ps, 6, none⟩ (.pointer (some ⟨wc.heap.size, 0, none⟩))) := (Touch.refl [ps] w1).setCell (p := ⟨ps, 6, none⟩) (by simp) _
      exact ⟨ps, bs, wc.heap.size, rfl, hps, hbs, HH.out.2.2.size, raw_set HA2.out, t6.u.keep H1.out (by decide) (by simp; omega), t6.u.keep HA1.out (by decide) (by simp; omega), (HH.out.2.2.trans HT3.out).onto t6 (fun i hi => .inr (by rw [List.mem_singleton.1 hi]; exact hps))⟩

/-- A sorter that has just been made. -/
theorem spSt_new {w w' : World} {ps bs ph bx bm blk fan bud count cols : Nat} {kv : Value} {ks : List K} {d : DS} {M : List PF} (hS : SorterAt w' ps (SC.new bx blk fan bud count kv ph)) (hH : HeadAt w' ph (.slice none 0 0) bs) (hB : w'.heap[bs]? = some (.cells #[.pointer (some ⟨ps, 0, none⟩)] 228 (0, 0))) (t : Touch [] w w') (hk : KeysAt w kv ks) (hP : PD w bx bm d M) (ok : DiskOK d) (b1 : 16 ≤ blk) (b2 : blk ≤ 4096) (b3 : (blk : Int) ≤ d.block) (c2 : cols ≤ 1000) (lr : Rec) :
    SpSt w' ps bs (SC.new bx blk fan bud count kv ph) (.slice none 0 0) ks [] bm cols d M [] none [] lr := by
  have h0 : POwn w' (.slice none 0 0) [] := World.ownsRow_nil _ _ _ _
  refine ⟨⟨hS, ⟨hH, EOwn.nil w', ⟨hB, _, _, kv, hS, by simp [SC.cells, SC.new], hk.touch t⟩, by simp, HeapOK.nil⟩, rfl, by simp, ⟨hP.away t (by simp), ok, by simp, by simp, by simp, by simp, by simp, by simp, by simp, b3, b2, b1, c2⟩, h0⟩, Spill.start ks lr, by simp, by simp, by simp, by simp, by simp, ⟨Int.le_refl _, ok.last⟩, ok.last⟩
end Go.Proofs.YtjoinhljdbljaaaGreat

namespace Go.Proofs.YtjoinhljdbljaaaGreat
open Go.RowKit

/-- A cursor: its box, its reader's box, its run, the record that it stands at, and those behind it. -/
structure CU where
  ptr : Nat
  rd : Nat
  rv : Value
  run : RI
  first : Rec
  rest : List Rec
def CU.val (u : CU) : Value := .pointer (some ⟨u.ptr, 0, none⟩)
def CU.cur (u : CU) : Cur := ⟨u.ptr, u.first, u.rest⟩
def ltCU (ks : List K) (a b : CU) : Bool := aheadB ks a.first b.first
theorem ltCU_law (ks : List K) : Law (ltCU ks) := ((cmpRec_cmp ks).on CU.first).law

structure CBox (w : World) (ks : List K) (u : CU) : Prop where
  box : w.heap[u.ptr]? = some (.cells #[.pointer (some ⟨u.rd, 0, none⟩), .int .i64 u.first.no, u.rv] 307 (0, 0))
  row : RowAt w u.rv u.first.row
  able : Able ks u.first.row
theorem CBox.keep {w w' : World} {ks : List K} {u : CU} (h : CBox w ks u) (h1 : KeepTag 307 w w') (h2 : KeepTag 85 w w') : CBox w' ks u := ⟨h1 _ _ _ h.box, Sl3.keep h.row h2, h.able⟩

def CItemsIn (cur : Array Value) (cap : Nat) (L : List CU) : Prop := cur.size = cap ∧ L.length ≤ cap ∧ cap ≤ maxLen ∧ ∀ i (h : i < L.length), cur[i]? = some L[i].val
def CItemsAt (w : World) (g cap : Nat) (L : List CU) : Prop := ∃ cur, w.heap[g]? = some (.cells cur 305 (0, 0)) ∧ CItemsIn cur cap L
theorem CItemsAt.cell {w : World} {g cap : Nat} {L : List CU} (h : CItemsAt w g cap L) (i : Nat) (hi : i < L.length) : w.cell? ⟨g, i, none⟩ = some L[i].val := by
  obtain ⟨cur, hb, _, _, _, hx⟩ := h
  simp only [World.cell?, hb]
  exact hx i hi
theorem CItemsAt.frozen {w : World} {g cap : Nat} {L : List CU} (h : CItemsAt w g cap L) (o : Nat) : w.frozen? ⟨g, o, none⟩ = false := by
  obtain ⟨cur, hb, _⟩ := h
  simp [World.frozen?, hb]
theorem CItemsAt.touch {F : List Nat} {w w' : World} {g cap : Nat} {L : List CU} (h : CItemsAt w g cap L) (t : TouchU F w w') (hg : g ∉ F) : CItemsAt w' g cap L := by
  obtain ⟨cur, hb, hx⟩ := h
  exact ⟨cur, t.keep hb (by decide) hg, hx⟩
theorem CItemsAt.put {w : World} {g cap : Nat} {L : List CU} (h : CItemsAt w g cap L) (i : Nat) (hi : i < L.length) (x : CU) : CItemsAt (w.setCell ⟨g, i, none⟩ x.val) g cap (L.set i x) := by
  obtain ⟨cur, hb, h1, h2, h3, h4⟩ := h
  refine ⟨_, heap_setCell_same w g i _ 305 _ hb, by simpa using h1, by simpa using h2, h3, fun j hj => ?_⟩
  rw [List.length_set] at hj
  rw [get_set]
  by_cases e : i = j
  · subst e
    rw [if_pos rfl, if_pos (by omega)]
    simp
  · rw [if_neg e, List.getElem_set_ne e]
    exact h4 j hj

def cheadCells (v : Value) (bf : Nat) : Array Value := #[v, .func (.func 200) #[] #[.pointer (some ⟨bf, 0, none⟩)]]
def CHeadAt (w : World) (ph : Nat) (v : Value) (bf : Nat) : Prop := w.heap[ph]? = some (.cells (cheadCells v bf) 331 (0, 0))
theorem CHeadAt.cell {w : World} {ph : Nat} {v : Value} {bf : Nat} (h : CHeadAt w ph v bf) : w.cell? ⟨ph, 0, none⟩ = some v ∧ w.cell? ⟨ph, 1, none⟩ = some (.func (.func 200) #[] #[.pointer (some ⟨bf, 0, none⟩)]) := box2 h
theorem CHeadAt.frozen {w : World} {ph : Nat} {v : Value} {bf : Nat} (h : CHeadAt w ph v bf) (o : Nat) : w.frozen? ⟨ph, o, none⟩ = false := by simp [World.frozen?, show w.heap[ph]? = _ from h]
theorem CHeadAt.touch {F : List Nat} {w w' : World} {ph : Nat} {v : Value} {bf : Nat} (h : CHeadAt w ph v bf) (t : TouchU F w w') (hg : ph ∉ F) : CHeadAt w' ph v bf := t.keep h (by decide) hg

/-- What the cursors' test leans on. -/
structure CCtx (w : World) (bf ps : Nat) (ks : List K) : Prop where
  f : w.heap[bf]? = some (.cells #[.func (.func 165) #[.pointer (some ⟨ps, 0, none⟩)] #[]] 264 (0, 0))
  keys : ∃ cs f vk, w.heap[ps]? = some (.cells cs 260 f) ∧ cs[2]? = some vk ∧ KeysAt w vk ks
theorem CCtx.keep {w w' : World} {bf ps : Nat} {ks : List K} (h : CCtx w bf ps ks) (h1 : KeepTag 264 w w') (h2 : KeepTag 260 w w') (h3 : KeepTag 73 w w') : CCtx w' bf ps ks := by
  obtain ⟨cs, f, vk, a, b, c⟩ := h.keys
  exact ⟨h1 _ _ _ h.f, cs, f, vk, h2 _ _ _ a, b, Sl3.keep c h3⟩

set_option maxRecDepth 20000 in
set_option maxHeartbeats 2000000 in
theorem ctest_any {w : World} {bf ps : Nat} {ks : List K} (h : CCtx w bf ps ks) (a b : CU) (ha : CBox w ks a) (hb : CBox w ks b) :
    Calls Tryz.prog 200 #[a.val, b.val, .pointer (some ⟨bf, 0, none⟩)] w fun e w' => e = .returned (.bool (ltCU ks a b)) ∧ Touch [] w w' := by
  obtain ⟨cs, f, vk, h1, h2, h3⟩ := h.keys
  have HA : Hid (∀ W, Touch [] w W → Calls Tryz.prog 165 #[.pointer (some ⟨ps, 0, none⟩), .agg #[.int .i64 a.first.no, a.rv], .agg #[.int .i64 b.first.no, b.rv]] W fun e w' => e = .returned (.bool (aheadB ks a.first b.first)) ∧ Touch [] W w') := fun W hW =>
    ahead_any W ps a.rv b.rv vk a.first b.first ks (cell_touch (by simp [World.cell?, h1, h2]) hW) (ha.row.touch hW) (hb.row.touch hW) (h3.touch hW) ha.able hb.able
  obtain ⟨x0, x1, x2⟩ := box3 ha.box
  obtain ⟨y0, y1, y2⟩ := box3 hb.box
  have z0 := boxOne h.f
  have HK : Hid (∀ W, Touch [] w W → W.cell? ⟨a.ptr, 1, none⟩ = some (.int .i64 a.first.no) ∧ W.cell? ⟨a.ptr, 2, none⟩ = some a.rv ∧ W.cell? ⟨b.ptr, 1, none⟩ = some (.int .i64 b.first.no) ∧ W.cell? ⟨b.ptr, 2, none⟩ = some b.rv ∧ W.cell? ⟨bf, 0, none⟩ = some (.func (.func 165) #[.pointer (some ⟨ps, 0, none⟩)] #[])) := fun W hW => ⟨cell_touch x1 hW, cell_touch x2 hW, cell_touch y1 hW, cell_touch y2 hW, cell_touch z0 hW⟩
  unfold ltCU CU.val
  clear ha hb h h1 h2 h3
  generalize aheadB ks a.first b.first = r at *
  go_enter Tryz.func200, Tryz.ntmps200
  go_wp2
  go_region_held3 (fun w' => w'.cell? ⟨a.ptr, 1, none⟩ = some (.int .i64 a.first.no) ∧ w'.cell? ⟨a.ptr, 2, none⟩ = some a.rv ∧ w'.cell? ⟨b.ptr, 1, none⟩ = some (.int .i64 b.first.no) ∧ w'.cell? ⟨b.ptr, 2, none⟩ = some b.rv ∧ w'.cell? ⟨bf, 0, none⟩ = some (.func (.func 165) #[.pointer (some ⟨ps, 0, none⟩)] #[])) (go_keep) (first | (go_at_call 165; refine (HA.out _ ((Touch.refl [] _).drew)).mono ?_; rintro e w1 ⟨rfl, hT1⟩; obtain ⟨k1, k2, k3, k4, k5⟩ := HK.out w1 (((Touch.refl [] _).drew).trans hT1)))
  all_goals
    go_wp2
    go_ret
    exact ⟨rfl, ((Touch.refl [] _).drew).trans hT1⟩

structure CHeapAt (w : World) (ph g cap bf ps : Nat) (ks : List K) (L : List CU) : Prop where
  head : CHeadAt w ph (.slice (some ⟨g, 0, none⟩) L.length cap) bf
  items : CItemsAt w g cap L
  ctx : CCtx w bf ps ks
  rows : ∀ x ∈ L, CBox w ks x

theorem CHeapAt.ne {w : World} {ph g cap bf ps : Nat} {ks : List K} {L : List CU} (h : CHeapAt w ph g cap bf ps ks L) : ph ≠ g := by
  obtain ⟨cur, hb, _⟩ := h.items
  have := h.head
  unfold CHeadAt at this
  intro e
  subst e
  rw [hb] at this
  simp at this
theorem CHeapAt.quiet {w w' : World} {ph g cap bf ps : Nat} {ks : List K} {L : List CU} (h : CHeapAt w ph g cap bf ps ks L) (t : Touch [] w w') : CHeapAt w' ph g cap bf ps ks L :=
  ⟨h.head.touch t.u (by simp), h.items.touch t.u (by simp), h.ctx.keep (t.tag0 _) (t.tag0 _) (t.tag0 _), fun x hx => (h.rows x hx).keep (t.tag0 _) (t.tag0 _)⟩
/-- The items turn; all else stays. -/
theorem CHeapAt.turn {w w' : World} {ph g cap bf ps : Nat} {ks : List K} {L L' : List CU} (h : CHeapAt w ph g cap bf ps ks L) (t : Touch [g] w w') (hi : CItemsAt w' g cap L') (hl : L'.length = L.length) (hm : ∀ x ∈ L', x ∈ L) : CHeapAt w' ph g cap bf ps ks L' := by
  obtain ⟨cur, hb, _⟩ := h.items
  refine ⟨by rw [hl]; exact h.head.touch t.u (by simp [h.ne]), hi, h.ctx.keep (t.tag (notag_of hb (by decide))) (t.tag (notag_of hb (by decide))) (t.tag (notag_of hb (by decide))), fun x hx => (h.rows x (hm x hx)).keep (t.tag (notag_of hb (by decide))) (t.tag (notag_of hb (by decide)))⟩
theorem CHeapAt.bounds {w : World} {ph g cap bf ps : Nat} {ks : List K} {L : List CU} (h : CHeapAt w ph g cap bf ps ks L) : ph < w.heap.size ∧ g < w.heap.size ∧ ph ≠ g ∧ L.length ≤ cap ∧ cap ≤ 2 ^ 63 - 1 := by
  have h1 := (Array.getElem?_eq_some_iff.1 h.head).1
  have h2 := h.ne
  obtain ⟨cur, hb, _, h3, h4, _⟩ := h.items
  exact ⟨h1, (Array.getElem?_eq_some_iff.1 hb).1, h2, h3, h4⟩
/-- The test of two items, in all worlds that come of this one without a store. -/
theorem CHeapAt.test {w : World} {ph g cap bf ps : Nat} {ks : List K} {L : List CU} (h : CHeapAt w ph g cap bf ps ks L) (i j : Nat) (hi : i < L.length) (hj : j < L.length) {w' : World} (ht : Touch [] w w') :
    Calls Tryz.prog 200 #[.pointer (some ⟨L[i].ptr, 0, none⟩), .pointer (some ⟨L[j].ptr, 0, none⟩), .pointer (some ⟨bf, 0, none⟩)] w' fun e w'' => e = .returned (.bool (ltCU ks L[i] L[j])) ∧ Touch [] w' w'' :=
  ctest_any (h.quiet ht).ctx L[i] L[j] ((h.quiet ht).rows _ (List.getElem_mem _)) ((h.quiet ht).rows _ (List.getElem_mem _))
/-- Two items exchanged: what the stores leave. -/
theorem CHeapAt.swapped {w : World} {ph g cap bf ps : Nat} {ks : List K} {L : List CU} (h : CHeapAt w ph g cap bf ps ks L) (i j : Nat) (hi : i < L.length) (hj : j < L.length) {W : World} (ht : Touch [] w W) :
    CHeapAt ((W.setCell ⟨g, i, none⟩ (.pointer (some ⟨L[j].ptr, 0, none⟩))).setCell ⟨g, j, none⟩ (.pointer (some ⟨L[i].ptr, 0, none⟩))) ph g cap bf ps ks (swapL L i j hi hj) ∧ Touch [g] w ((W.setCell ⟨g, i, none⟩ (.pointer (some ⟨L[j].ptr, 0, none⟩))).setCell ⟨g, j, none⟩ (.pointer (some ⟨L[i].ptr, 0, none⟩))) := by
  have ht2 := (ht.mono (F' := [g]) (by simp)).trans (((Touch.refl [g] W).setCell (p := ⟨g, i, none⟩) (by simp) (.pointer (some ⟨L[j].ptr, 0, none⟩))).setCell (p := ⟨g, j, none⟩) (by simp) (.pointer (some ⟨L[i].ptr, 0, none⟩)))
  refine ⟨h.turn ht2 ?_ (swapL_len _ _ _ _ _) swapL_mem, ht2⟩
  exact ((h.items.touch ht.u (by simp)).put i hi L[j]).put j (by simpa using hj) L[i]
end Go.Proofs.YtjoinhljdbljaaaGreat

namespace Go.Proofs.YtjoinhljdbljaaaGreat
open Go.RowKit

def CUp (w : World) (ph g cap bf ps : Nat) (ks : List K) (L : List CU) (k : Nat) (wr : World) : Prop :=
  ∃ L', CHeapAt wr ph g cap bf ps ks L' ∧ L'.Perm L ∧ UpInv (ltCU ks) L' k ∧ Touch [g] w wr

theorem CUp.drew {w : World} {ph g cap bf ps : Nat} {ks : List K} {L : List CU} {k : Nat} {wr : World} (h : CUp w ph g cap bf ps ks L k wr) : CUp w ph g cap bf ps ks L k wr.drew := by
  obtain ⟨L', a, b, c, d⟩ := h
  exact ⟨L', a.quiet ((Touch.refl [] _).drew), b, c, d.drew⟩

set_option maxRecDepth 20000 in
set_option maxHeartbeats 4000000 in
theorem csiftUp_any (w : World) (ph g cap bf ps : Nat) (ks : List K) (L : List CU) (k0 : Nat) (h : CHeapAt w ph g cap bf ps ks L) (hu : UpInv (ltCU ks) L k0) (hsmall : L.length ≤ 1000000000) :
    Calls Tryz.prog 217 #[.pointer (some ⟨ph, 0, none⟩), .int .i64 k0] w fun e w' => e = .returned (.tuple #[]) ∧ ∃ L', CHeapAt w' ph g cap bf ps ks L' ∧ L'.Perm L ∧ HeapOK (ltCU ks) L' ∧ Touch [g] w w' := by
  have HS : Hid (CUp w ph g cap bf ps ks L k0 w) := ⟨L, h, List.Perm.refl _, hu, Touch.refl _ _⟩
  have hk0 := hu.here
  clear h hu
  go_enter Tryz.func217, Tryz.ntmps217
  go_wp2
  go_loopw [1] (fun i wr => ∃ k : Nat, k < L.length ∧ i = .int .i64 k ∧ CUp w ph g cap bf ps ks L k wr) (fun i _ => (intOf i).toNat)
  case atStart => exact ⟨k0, hk0, rfl, HS.out⟩
  case round =>
    obtain ⟨k, hk, rfl, L', hH, hP, hU, hT⟩ := hrel
    by_cases hk1 : 0 < k
    · have hkl := hU.here
      have hpl : (k - 1) / 2 < L'.length := by omega
      have hq : ((k : Int) - 1) / 2 = (((k - 1) / 2 : Nat) : Int) := by omega
      obtain ⟨hd0, hd1⟩ := hH.head.cell
      have c0 := hH.items.cell k hkl
      have d0 := hH.items.cell ((k - 1) / 2) hpl
      unfold CU.val at c0 d0
      obtain ⟨hphlt, hglt, hne, hc1, hc2⟩ := hH.bounds
      have HTEST : Hid (∀ w', Touch [] wr w' → Calls Tryz.prog 200 #[.pointer (some ⟨L'[k].ptr, 0, none⟩), .pointer (some ⟨L'[(k - 1) / 2].ptr, 0, none⟩), .pointer (some ⟨bf, 0, none⟩)] w' fun e w'' => e = .returned (.bool (ltCU ks L'[k] L'[(k - 1) / 2])) ∧ Touch [] w' w'') := fun w' ht => hH.test k ((k - 1) / 2) hkl hpl ht
      have HF : Hid (ltCU ks L'[k] L'[(k - 1) / 2] = false → HeapOK (ltCU ks) L') := fun hb => hU.done hk1 hb
      have HT : Hid (ltCU ks L'[k] L'[(k - 1) / 2] = true → ∀ W, Touch [] wr W → CUp w ph g cap bf ps ks L ((k - 1) / 2) ((W.setCell ⟨g, k, none⟩ (.pointer (some ⟨L'[(k - 1) / 2].ptr, 0, none⟩))).setCell ⟨g, (k - 1) / 2, none⟩ (.pointer (some ⟨L'[k].ptr, 0, none⟩)))) := fun hb W ht => by
        obtain ⟨s1, s2⟩ := hH.swapped k ((k - 1) / 2) hkl hpl ht
        exact ⟨_, s1, (swapL_perm L' k _ hkl hpl).trans hP, hU.step (ltCU_law ks) hk1 hb, hT.trans s2⟩
      have HQ : Hid (CHeapAt wr ph g cap bf ps ks L' ∧ L'.Perm L ∧ Touch [g] w wr) := ⟨hH, hP, hT⟩
      have hfz := hH.items.frozen
      have hlen := hP.length_eq
      clear hH hP hU hT
      generalize hr : ltCU ks L'[k] L'[(k - 1) / 2] = r at *
      generalize L'[k].ptr = pa at *
      generalize L'[(k - 1) / 2].ptr = pb at *
      clear hr
      have hpk : (k - 1) / 2 < k := by omega
      generalize hp : (k - 1) / 2 = p at *
      have hkc : k < cap := by omega
      have hpc : p < cap := by omega
      have HL : Hid (p < L.length ∧ L'.length = L.length) := ⟨by omega, hlen⟩
      clear hp hk0 HS hk hlen hsmall
      have HK : Hid (∀ w', Touch [] wr w' → w'.cell? ⟨ph, 0, none⟩ = some (.slice (some ⟨g, 0, none⟩) L'.length cap) ∧ w'.cell? ⟨ph, 1, none⟩ = some (.func (.func 200) #[] #[.pointer (some ⟨bf, 0, none⟩)]) ∧ w'.cell? ⟨g, k, none⟩ = some (.pointer (some ⟨pa, 0, none⟩)) ∧ w'.cell? ⟨g, p, none⟩ = some (.pointer (some ⟨pb, 0, none⟩))) := fun w' ht =>
        ⟨cell_touch hd0 ht, cell_touch hd1 ht, cell_touch c0 ht, cell_touch d0 ht⟩
      cases r with
      | false =>
        go_wp2
        go_region_held3 (fun w' => w'.cell? ⟨ph, 0, none⟩ = some (.slice (some ⟨g, 0, none⟩) L'.length cap) ∧ w'.cell? ⟨ph, 1, none⟩ = some (.func (.func 200) #[] #[.pointer (some ⟨bf, 0, none⟩)]) ∧ w'.cell? ⟨g, k, none⟩ = some (.pointer (some ⟨pa, 0, none⟩)) ∧ w'.cell? ⟨g, p, none⟩ = some (.pointer (some ⟨pb, 0, none⟩))) (go_keep) (first | (go_at_call 200; refine (HTEST.out _ ((Touch.refl [] _).drew)).mono ?_; rintro e w1 ⟨rfl, hT1⟩; obtain ⟨e0, e1, e2, e3⟩ := HK.out _ (((Touch.refl [] _).drew).trans hT1)))
        go_wp2
        refine bodyPost_ret (results_none rfl _ _ _) rfl ?_
        obtain ⟨q1, q2, q3⟩ := HQ.out
        exact ⟨rfl, L', q1.quiet (((Touch.refl [] _).drew).trans hT1), q2, HF.out trivial, q3.trans ((((Touch.refl [] _).drew).trans hT1).mono (by simp))⟩
      | true =>
        go_wp2
        go_region_held3 (fun w' => w'.cell? ⟨ph, 0, none⟩ = some (.slice (some ⟨g, 0, none⟩) L'.length cap) ∧ w'.cell? ⟨ph, 1, none⟩ = some (.func (.func 200) #[] #[.pointer (some ⟨bf, 0, none⟩)]) ∧ w'.cell? ⟨g, k, none⟩ = some (.pointer (some ⟨pa, 0, none⟩)) ∧ w'.cell? ⟨g, p, none⟩ = some (.pointer (some ⟨pb, 0, none⟩))) (go_keep) (first | (go_at_call 200; refine (HTEST.out _ ((Touch.refl [] _).drew)).mono ?_; rintro e w1 ⟨rfl, hT1⟩; obtain ⟨e0, e1, e2, e3⟩ := HK.out _ (((Touch.refl [] _).drew).trans hT1)))
        have hT2 : Touch [] wr w1 := ((Touch.refl [] _).drew).trans hT1
        have hfz1 : ∀ o, w1.frozen? ⟨g, o, none⟩ = false := fun o => (World.frozen?_of_block (w := wr) (hT2.block g hglt (by simp))).trans (hfz o)
        have HT2 : Hid (Touch [] wr w1) := hT2
        have f0 := hfz1 k
        have f4 := hfz1 p
        clear hd0 hd1 c0 d0 hT1 hT2 hfz hfz1
        go_wp2
        go_region
        go_wp2
        go_roundw
        case rel => exact ⟨p, HL.out.1, rfl, CUp.drew (HT.out trivial w1 HT2.out)⟩
        case measure => simp [intOf]; omega
    · obtain rfl : k = 0 := by omega
      have HF := hU.zero
      have HQ : Hid (CHeapAt wr ph g cap bf ps ks L' ∧ L'.Perm L ∧ Touch [g] w wr ∧ HeapOK (ltCU ks) L') := ⟨hH, hP, hT, HF⟩
      clear hH hP hU hT HF HS hk0
      go_wp2
      first | go_end0 | refine bodyPost_ret (results_none rfl _ _ _) rfl ?_
      obtain ⟨q1, q2, q3, q4⟩ := HQ.out
      exact ⟨rfl, L', q1, q2, q4, q3⟩
end Go.Proofs.YtjoinhljdbljaaaGreat

namespace Go.Proofs.YtjoinhljdbljaaaGreat
open Go.RowKit

def CDn (w : World) (ph g cap bf ps : Nat) (ks : List K) (L : List CU) (k : Nat) (wr : World) : Prop :=
  ∃ L', CHeapAt wr ph g cap bf ps ks L' ∧ L'.Perm L ∧ DownInv (ltCU ks) L' k ∧ Touch [g] w wr
theorem CDn.drew {w : World} {ph g cap bf ps : Nat} {ks : List K} {L : List CU} {k : Nat} {wr : World} (h : CDn w ph g cap bf ps ks L k wr) : CDn w ph g cap bf ps ks L k wr.drew := by
  obtain ⟨L', a, b, c, d⟩ := h
  exact ⟨L', a.quiet ((Touch.refl [] _).drew), b, c, d.drew⟩
theorem CHeapAt.cells {w : World} {ph g cap bf ps : Nat} {ks : List K} {L : List CU} (h : CHeapAt w ph g cap bf ps ks L) (k : Nat) (hk : k < L.length) {w' : World} (ht : Touch [] w w') : w'.cell? ⟨g, k, none⟩ = some (.pointer (some ⟨L[k].ptr, 0, none⟩)) := (h.quiet ht).items.cell k hk

/-- Between two items below k: so many of them looked at. -/
def CInDn (wr : World) (ks : List K) (L' : List CU) (k m n : Nat) (w2 : World) : Prop := LeastOf (ltCU ks) L' k m n ∧ 2 * k + 1 ≤ n ∧ n ≤ 2 * k + 3 ∧ Touch [] wr w2

set_option maxRecDepth 20000 in
set_option maxHeartbeats 4000000 in
theorem csiftDown_any (w : World) (ph g cap bf ps : Nat) (ks : List K) (L : List CU) (h : CHeapAt w ph g cap bf ps ks L) (hu : DownInv (ltCU ks) L 0) (hne : 0 < L.length) (hsmall : L.length ≤ 1000000000) :
    Calls Tryz.prog 218 #[.pointer (some ⟨ph, 0, none⟩), .int .i64 0] w fun e w' => e = .returned (.tuple #[]) ∧ ∃ L', CHeapAt w' ph g cap bf ps ks L' ∧ L'.Perm L ∧ HeapOK (ltCU ks) L' ∧ Touch [g] w w' := by
  have HS : Hid (CDn w ph g cap bf ps ks L 0 w) := ⟨L, h, List.Perm.refl _, hu, Touch.refl _ _⟩
  clear h hu
  go_enter Tryz.func218, Tryz.ntmps218
  go_wp2
  go_loopw [1] (fun i wr => ∃ k : Nat, k < L.length ∧ i = .int .i64 k ∧ CDn w ph g cap bf ps ks L k wr) (fun i _ => L.length - (intOf i).toNat)
  case atStart => exact ⟨0, hne, rfl, HS.out⟩
  case round =>
    obtain ⟨k, hk, rfl, L', hH, hP, hU, hT⟩ := hrel
    have hlen := hP.length_eq
    have hk9 : k ≤ 1000000000 := by omega
    have hkl : k < L'.length := by omega
    have hl9 : L'.length ≤ 1000000000 := by omega
    obtain ⟨hphlt, hglt, hpg, hc1, hc2⟩ := hH.bounds
    have HH : Hid (CHeapAt wr ph g cap bf ps ks L' ∧ L'.Perm L ∧ DownInv (ltCU ks) L' k ∧ Touch [g] w wr) := ⟨hH, hP, hU, hT⟩
    have HL : Hid (L'.length = L.length) := hlen
    clear hH hP hU hT HS hk hlen hsmall hne
    rename World => W0
    go_wp2
    go_loopw [4, 5] (fun a b w2 => ∃ m n : Nat, a = .int .i64 m ∧ b = .int .i64 n ∧ CInDn W0 ks L' k m n w2) (fun _ b _ => 2 * k + 3 - (intOf b).toNat)
    case atStart => exact ⟨k, 2 * k + 1, rfl, by go_num, LeastOf.start hkl, by omega, by omega, Touch.refl _ _⟩
    case round =>
      obtain ⟨m, n, rfl, rfl, hLe, hn1, hn2, hT2⟩ := hrel
      have hml := hLe.hm
      have hH := HH.out.1
      have hph2 : ph < wr.heap.size := by have := hT2.size; omega
      have hg2 : g < wr.heap.size := by have := hT2.size; omega
      obtain ⟨hd0, hd1⟩ := (hH.quiet hT2).head.cell
      by_cases hin : n ≤ 2 * k + 2 ∧ n < L'.length
      · obtain ⟨hin1, hin2⟩ := hin
        have HTEST : Hid (∀ w', Touch [] W0 w' → Calls Tryz.prog 200 #[.pointer (some ⟨L'[n].ptr, 0, none⟩), .pointer (some ⟨L'[m].ptr, 0, none⟩), .pointer (some ⟨bf, 0, none⟩)] w' fun e w'' => e = .returned (.bool (ltCU ks L'[n] L'[m])) ∧ Touch [] w' w'') := fun w' ht => hH.test n m hin2 hml ht
        have HKEEP : Hid (ltCU ks L'[n] L'[m] = false → ∀ W, Touch [] W0 W → CInDn W0 ks L' k m (n + 1) W) := fun hb W ht => ⟨hLe.keep hin2 hb, by omega, by omega, ht⟩
        have HTAKE : Hid (ltCU ks L'[n] L'[m] = true → ∀ W, Touch [] W0 W → CInDn W0 ks L' k n (n + 1) W) := fun hb W ht => ⟨hLe.take (ltCU_law ks) hin2 hn1 hin1 hb, by omega, by omega, ht⟩
        have HK : Hid (∀ w', Touch [] W0 w' → w'.cell? ⟨ph, 0, none⟩ = some (.slice (some ⟨g, 0, none⟩) L'.length cap) ∧ w'.cell? ⟨ph, 1, none⟩ = some (.func (.func 200) #[] #[.pointer (some ⟨bf, 0, none⟩)]) ∧ w'.cell? ⟨g, n, none⟩ = some (.pointer (some ⟨L'[n].ptr, 0, none⟩)) ∧ w'.cell? ⟨g, m, none⟩ = some (.pointer (some ⟨L'[m].ptr, 0, none⟩))) := fun w' ht => ⟨(hH.quiet ht).head.cell.1, (hH.quiet ht).head.cell.2, hH.cells n hin2 ht, hH.cells m hml ht⟩
        have c0 := hH.cells n hin2 hT2
        have d0 := hH.cells m hml hT2
        have HT2 : Hid (Touch [] W0 wr) := hT2
        clear hH hLe hT2
        generalize ltCU ks L'[n] L'[m] = r at *
        generalize L'[n].ptr = pa at *
        generalize L'[m].ptr = pb at *
        cases r with
        | false =>
          go_wp2
          go_region_held3 (fun w' => w'.cell? ⟨ph, 0, none⟩ = some (.slice (some ⟨g, 0, none⟩) L'.length cap) ∧ w'.cell? ⟨ph, 1, none⟩ = some (.func (.func 200) #[] #[.pointer (some ⟨bf, 0, none⟩)]) ∧ w'.cell? ⟨g, n, none⟩ = some (.pointer (some ⟨pa, 0, none⟩)) ∧ w'.cell? ⟨g, m, none⟩ = some (.pointer (some ⟨pb, 0, none⟩))) (go_keep) (first | (go_at_call 200; refine (HTEST.out _ (HT2.out.drew)).mono ?_; rintro e w1 ⟨rfl, hT1⟩; obtain ⟨e0, e1, e2, e3⟩ := HK.out _ ((HT2.out.drew).trans hT1)))
          go_wp2
          go_roundw
          case rel => exact ⟨m, n + 1, rfl, by go_num, HKEEP.out trivial _ ((HT2.out.drew).trans hT1)⟩
          case measure => simp [intOf]; omega
        | true =>
          go_wp2
          go_region_held3 (fun w' => w'.cell? ⟨ph, 0, none⟩ = some (.slice (some ⟨g, 0, none⟩) L'.length cap) ∧ w'.cell? ⟨ph, 1, none⟩ = some (.func (.func 200) #[] #[.pointer (some ⟨bf, 0, none⟩)]) ∧ w'.cell? ⟨g, n, none⟩ = some (.pointer (some ⟨pa, 0, none⟩)) ∧ w'.cell? ⟨g, m, none⟩ = some (.pointer (some ⟨pb, 0, none⟩))) (go_keep) (first | (go_at_call 200; refine (HTEST.out _ (HT2.out.drew)).mono ?_; rintro e w1 ⟨rfl, hT1⟩; obtain ⟨e0, e1, e2, e3⟩ := HK.out _ ((HT2.out.drew).trans hT1)))
          go_wp2
          go_roundw
          case rel => exact ⟨n, n + 1, rfl, by go_num, HTAKE.out trivial _ ((HT2.out.drew).trans hT1)⟩
          case measure => simp [intOf]; omega
      · have hend : n = 2 * k + 3 ∨ L'.length ≤ n := by omega
        have HT2 : Hid (Touch [] W0 wr) := hT2
        by_cases hmk : m = k
        · subst hmk
          have HD : Hid (m = m → HeapOK (ltCU ks) L') := fun _ => HH.out.2.2.1.done hLe hend
          clear hH hLe hT2 hend
          by_cases hlast : n ≤ 2 * m + 2
          · have hin2 : L'.length ≤ n := by omega
            clear hin
            go_wp2
            first | go_end0 | refine bodyPost_ret (results_none rfl _ _ _) rfl ?_
            obtain ⟨q1, q2, _, q4⟩ := HH.out
            exact ⟨rfl, L', q1.quiet HT2.out, q2, HD.out trivial, q4.trans (HT2.out.mono (by simp))⟩
          · have hin2 : 2 * m + 2 < n := by omega
            clear hin hlast
            go_wp2
            first | go_end0 | refine bodyPost_ret (results_none rfl _ _ _) rfl ?_
            obtain ⟨q1, q2, _, q4⟩ := HH.out
            exact ⟨rfl, L', q1.quiet HT2.out, q2, HD.out trivial, q4.trans (HT2.out.mono (by simp))⟩
        · have hmk2 : k < m := by have := hLe.who; omega
          have hmk3 : ((m : Int) == (k : Int)) = false := by simp; omega
          have HL2 : Hid (L'.length = L.length ∧ m < L.length) := ⟨HL.out, by have := HL.out; omega⟩
          have HSW : Hid (∀ W, Touch [] W0 W → CDn w ph g cap bf ps ks L m ((W.setCell ⟨g, k, none⟩ (.pointer (some ⟨L'[m].ptr, 0, none⟩))).setCell ⟨g, m, none⟩ (.pointer (some ⟨L'[k].ptr, 0, none⟩)))) := fun W ht => by
            obtain ⟨a, b⟩ := hH.swapped k m hkl hml ht
            exact ⟨_, a, (swapL_perm L' k m hkl hml).trans HH.out.2.1, HH.out.2.2.1.step (ltCU_law ks) hLe hmk hend, HH.out.2.2.2.trans b⟩
          have c0 := hH.cells k hkl hT2
          have d0 := hH.cells m hml hT2
          have f0 := (hH.quiet hT2).items.frozen k
          have f4 := (hH.quiet hT2).items.frozen m
          clear hH hLe hT2 hend
          generalize L'[m].ptr = pb at *
          generalize L'[k].ptr = pa at *
          by_cases hlast : n ≤ 2 * k + 2
          · have hin2 : L'.length ≤ n := by omega
            clear hin
            go_wp2
            go_region
            go_wp2
            go_roundw
            case rel => exact ⟨m, HL2.out.2, rfl, CDn.drew (HSW.out wr HT2.out)⟩
            case measure => have := HL2.out; simp [intOf]; omega
          · have hin2 : 2 * k + 2 < n := by omega
            clear hin hlast
            go_wp2
            go_region
            go_wp2
            go_roundw
            case rel => exact ⟨m, HL2.out.2, rfl, CDn.drew (HSW.out wr HT2.out)⟩
            case measure => have := HL2.out; simp [intOf]; omega
end Go.Proofs.YtjoinhljdbljaaaGreat
