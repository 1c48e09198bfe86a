/- A run that is being written: how it lies in memory and on the disk; the walk of write. The walk of write: a run's bytes become its file's next block. -/
import Derived.Test.YtjoinhljdbljaaaGreatRecIToRunB
namespace Go.Proofs.YtjoinhljdbljaaaGreat
open Go.RowKit

def encs (l : List Rec) : List UInt8 := l.flatMap encR
def textsOf (file : Nat) (cs : List (List Rec)) : List ByteArray := (List.range cs.length).map fun i => BA (sealB file i (encs (cs.getD i [])))
theorem textsOf_len (file : Nat) (cs : List (List Rec)) : (textsOf file cs).length = cs.length := by simp [textsOf]
theorem textsOf_snoc (file : Nat) (cs : List (List Rec)) (c : List Rec) : textsOf file (cs ++ [c]) = textsOf file cs ++ [BA (sealB file cs.length (encs c))] := by
  unfold textsOf
  rw [List.length_append, List.length_cons, List.length_nil, List.range_succ, List.map_append]
  congr 1
  · apply List.map_congr_left
    intro i hi
    have := List.mem_range.1 hi
    simp [List.getD, List.getElem?_append_left this]
  · simp [List.getD]
theorem textsOf_get (file : Nat) (cs : List (List Rec)) (i : Nat) (h : i < cs.length) : (textsOf file cs)[i]'(by rw [textsOf_len]; exact h) = BA (sealB file i (encs cs[i])) := by
  simp [textsOf, List.getD, h]

def runCells (bx blk file cols n : Nat) (v : Value) : Array Value := #[.pointer (some ⟨bx, 0, none⟩), .int .i64 (blk : Int), .int .i64 (file : Int), .int .i64 (cols : Int), .int .i64 (n : Int), v]

theorem box6 {w : World} {k : Nat} {a b c d e f : Value} {t : TypeId} (h : w.heap[k]? = some (.cells #[a, b, c, d, e, f] t (0, 0))) :
    w.cell? ⟨k, 0, none⟩ = some a ∧ w.cell? ⟨k, 1, none⟩ = some b ∧ w.cell? ⟨k, 2, none⟩ = some c ∧ w.cell? ⟨k, 3, none⟩ = some d ∧ w.cell? ⟨k, 4, none⟩ = some e ∧ w.cell? ⟨k, 5, none⟩ = some f ∧ ∀ o, w.frozen? ⟨k, o, none⟩ = false := by
  refine ⟨?_, ?_, ?_, ?_, ?_, ?_, ?_⟩
  all_goals first | (intro o; simp [World.frozen?, h]; done) | simp [World.cell?, h]

/-- The run's own cells, and what it has not written yet. -/
structure RunW (w : World) (r bx blk file cols : Nat) (v : Value) (n : Nat) (cur : List Rec) : Prop where
  cell : w.heap[r]? = some (.cells (runCells bx blk file cols n v) 223 (0, 0))
  text : Tx w r v (encs cur)

theorem PD.notag {w : World} {bx bm : Nat} {d : DS} {M : List PF} (h : PD w bx bm d M) {t : TypeId} (h1 : 117 ≠ t) (h2 : 9 ≠ t) : NoTag t w (diskF bx bm M) := by
  intro k hk cs f e
  simp only [diskF, List.mem_cons] at hk
  rcases hk with rfl | rfl | hk
  · rw [h.disk] at e
    simp only [Option.some.injEq, Obj.cells.injEq] at e
    exact h1 e.2.1
  · obtain ⟨es, c, hb, _⟩ := h.map
    rw [hb] at e
    cases e
  · obtain ⟨m, hm, hk⟩ := List.mem_flatMap.1 hk
    rcases (h.rows m hm).2 with ⟨e2, _⟩ | ⟨g, cap, cur, e2, _, hg, _⟩
    · rw [e2] at hk; simp [Value.ownBlock] at hk
    · rw [e2] at hk
      simp [Value.ownBlock] at hk
      subst hk
      rw [hg] at e
      simp only [Option.some.injEq, Obj.cells.injEq] at e
      exact h2 e.2.1
theorem NoTag.not_mem {t : TypeId} {w : World} {F : List Nat} (h : NoTag t w F) {k : Nat} {cs : Array Value} {f : Nat × Nat} (hk : w.heap[k]? = some (.cells cs t f)) : k ∉ F := fun e => h k e cs f hk
theorem NoTag.sub {t : TypeId} {w : World} {F G : List Nat} (h : NoTag t w F) (hG : ∀ k ∈ G, k ∈ F) : NoTag t w G := fun k hk => h k (hG k hk)
theorem NoTag.cons {t t' : TypeId} {w : World} {F : List Nat} (h : NoTag t w F) {g : Nat} {cs : Array Value} {f : Nat × Nat} (hg : w.heap[g]? = some (.cells cs t' f)) (hne : t' ≠ t) : NoTag t w (g :: F) := by
  intro k hk
  rcases List.mem_cons.1 hk with rfl | hk
  · exact notag_of' hg hne
  · exact h k hk
 where
  notag_of' {t t' : TypeId} {w : World} {g : Nat} {cs : Array Value} {f : Nat × Nat} (h : w.heap[g]? = some (.cells cs t' f)) (hne : t' ≠ t) : ∀ (cs : Array Value) (f : Nat × Nat), w.heap[g]? ≠ some (Obj.cells cs t f) := fun cs' f' e => by
    rw [h] at e
    simp only [Option.some.injEq, Obj.cells.injEq] at e
    exact hne e.2.1

theorem Tx.touch {F : List Nat} {w w' : World} {base : Nat} {v : Value} {bs : List UInt8} (h : Tx w base v bs) (t : Touch F w w') (hn : ∀ k, v.ownBlock = some k → k ∉ F) : Tx w' base v bs := by
  obtain ⟨h1, h2⟩ := h
  refine ⟨h1, ?_⟩
  rcases h2 with h2 | ⟨g, cap, cur, rfl, hg, hh, rest⟩
  · exact .inl h2
  · exact .inr ⟨g, cap, cur, rfl, hg, by rw [t.block g (Array.getElem?_eq_some_iff.1 hh).1 (hn g rfl)]; exact hh, rest⟩
end Go.Proofs.YtjoinhljdbljaaaGreat

namespace Go.Proofs.YtjoinhljdbljaaaGreat
open Go.RowKit

/-- What a call that writes one block leaves of the disk. -/
structure Wrote (w w' : World) (bx bm : Nat) (d : DS) (M : List PF) (file : Nat) (bs : List ByteArray) (d' : DS) (M' : List PF) (k : Nat) : Prop where
  pd : PD w' bx bm d' M'
  step : DStep d d' file (some bs)
  last : d'.last = d.last
  wrote : d'.wrote = d.wrote + k
  used : usedOf d'.files = usedOf d.files + k
  rows : ∀ x ∈ rowsOf M', x ∈ rowsOf M ∨ w.heap.size ≤ x

theorem Tx.cut {w : World} {base g n cap : Nat} {bs : List UInt8} (h : Tx w base (.slice (some ⟨g, 0, none⟩) n cap) bs) : Tx w base (.slice (some ⟨g, 0, none⟩) 0 cap) [] := by
  rcases h.2 with ⟨e, _⟩ | ⟨g', cap', cur, e, hbg, hh, hc, hm, hs, _⟩
  · cases e
  · simp only [Value.slice.injEq, Option.some.injEq, Addr.mk.injEq, and_true] at e
    obtain ⟨rfl, _, rfl⟩ := e
    exact ⟨by simp, .inr ⟨g, cap, cur, rfl, hbg, hh, Nat.zero_le _, hm, hs, by simp⟩⟩

theorem Tx.setCell {w : World} {base : Nat} {v : Value} {bs : List UInt8} (h : Tx w base v bs) {r : Nat} (hr : ∀ k, v.ownBlock = some k → k ≠ r) (o : Nat) (u : Value) : Tx (w.setCell ⟨r, o, none⟩ u) base v bs :=
  h.touch ((Touch.refl [r] w).setCell (p := ⟨r, o, none⟩) (by simp) u) (fun k hk => by simpa using hr k hk)

set_option maxRecDepth 20000 in
set_option maxHeartbeats 2000000 in
theorem write_any (w : World) (r bx bm blk file cols : Nat) (v : Value) (n : Nat) (cur : List Rec) (d : DS) (M : List PF) (bs : List ByteArray) (hR : RunW w r bx blk file cols v n cur) (hP : PD w bx bm d M) (ok : DiskOK d) (hg : getF d.files file = some bs)
    (h1 : 1 ≤ (encs cur).length) (hb : ((16 + (encs cur).length : Nat) : Int) ≤ d.block) (hl : (encs cur).length ≤ 1000000) (hf : file ≤ 1000000000) (hn : n ≤ 100000000) (hroom : (usedOf d.files : Int) < d.blocks) (hused : usedOf d.files ≤ 1000000000) (hw : d.wrote ≤ 1000000000) :
    Calls Tryz.prog 155 #[.pointer (some ⟨r, 0, none⟩)] w fun e w' => e = .returned (.tuple #[]) ∧ ∃ v' d' M', RunW w' r bx blk file cols v' (n + 1) [] ∧ Wrote w w' bx bm d M file (bs ++ [BA (sealB file n (encs cur))]) d' M' 1 ∧ v'.ownBlock = v.ownBlock ∧ Touch (r :: diskF bx bm M) w w' := by
  obtain ⟨g, cap, cu, hv, _⟩ := hR.text.shape h1
  have hrv : ∀ k, v.ownBlock = some k → k ≠ r := fun k hk e => by
    obtain ⟨c, f, hc⟩ := hR.text.bytes k hk
    rw [e, hR.cell] at hc
    simp at hc
  have HR : Hid (RunW w r bx blk file cols v n cur) := hR
  have HSEAL : Hid (∀ W, Touch [] w W → Calls Tryz.prog 188 #[.int .i64 (file : Int), .int .i64 (n : Int), v] W fun e w' => e = .returned (.string (BA (sealB file n (encs cur)))) ∧ Below W.heap.size W w') := fun W hW =>
    seal_any W r v (encs cur) file n (hR.text.touch hW (by simp)) h1 hl hf (by omega)
  have HAPP : Hid (∀ W, Touch [] w W → Calls Tryz.prog 187 #[.pointer (some ⟨bx, 0, none⟩), .int .i64 (file : Int), .string (BA (sealB file n (encs cur)))] W fun e w' => e = .returned (.int .i64 0) ∧ ∃ d' M', Wrote w w' bx bm d M file (bs ++ [BA (sealB file n (encs cur))]) d' M' 1 ∧ Touch (diskF bx bm M) w w') := fun W hW => by
    refine (disk_append W bx bm d M file bs (BA (sealB file n (encs cur))) (hP.away hW (by simp)) ok hg (by rw [BA_size, sealB_len]; exact hb) (by rw [BA_size, sealB_len]; omega) hroom hused hw).mono ?_
    rintro e w' ⟨rfl, d', M', p1, p2, p3, p4, p5, p6, p7⟩
    exact ⟨rfl, d', M', ⟨p1, p2, p3, p4, p5, fun x hx => (p6 x hx).imp id (fun h => Nat.le_trans hW.size h)⟩, (hW.mono (by simp)).trans p7⟩
  have HRD : Hid (r ∉ diskF bx bm M) := (hP.notag (t := 223) (by decide) (by decide)).not_mem hR.cell
  have HVD : Hid (∀ k, v.ownBlock = some k → k ∉ diskF bx bm M) := fun k hk => by
    obtain ⟨c, f, hc⟩ := hR.text.bytes k hk
    exact (hP.notag (t := 5) (by decide) (by decide)).not_mem hc
  have HRV : Hid (∀ k, v.ownBlock = some k → k ≠ r) := hrv
  have HCELL : Hid (∀ W F, Touch F w W → r ∉ F → W.heap[r]? = some (.cells (runCells bx blk file cols n v) 223 (0, 0))) := fun W F hW hF => by
    rw [hW.block r (Array.getElem?_eq_some_iff.1 hR.cell).1 hF]; exact hR.cell
  obtain ⟨c0, c1, c2, c3, c4, c5, cf⟩ := box6 hR.cell
  subst hv
  generalize BA (sealB file n (encs cur)) = s at *
  clear hR hP ok hg hb hroom hused hw hrv cf
  go_enter Tryz.func155, Tryz.ntmps155
  go_wp2
  go_region_held3 (fun w' => w'.cell? ⟨r, 0, none⟩ = some (.pointer (some ⟨bx, 0, none⟩)) ∧ w'.cell? ⟨r, 2, none⟩ = some (.int .i64 (file : Int)) ∧ w'.cell? ⟨r, 4, none⟩ = some (.int .i64 (n : Int)) ∧ w'.cell? ⟨r, 5, none⟩ = some (.slice (some ⟨g, 0, none⟩) (encs cur).length cap)) (go_keep) (first | (go_at_call 188; refine (HSEAL.out _ ((Touch.refl [] _).drew)).mono ?_; rintro e w1 ⟨rfl, hB1⟩; have hT1 : Touch [] w w1 := ((Touch.refl [] w).drew).trans (Below.t hB1); obtain ⟨a0, a1, a2, a3, a4, a5, _⟩ := box6 (HCELL.out w1 [] hT1 (by simp))) | (go_at_call 187; refine (HAPP.out _ hT1).mono ?_; rintro e w2 ⟨rfl, d', M', hW2, hT2⟩; obtain ⟨b0, b1, b2, b3, b4, b5, bf⟩ := box6 (HCELL.out w2 _ hT2 HRD.out); have f4 := bf 4; have f5 := bf 5; clear bf))
  clear a0 a1 a2 a3 a4 a5 c0 c1 c2 c3 c4 c5
  go_wp2
  go_end0
  have hcell := HCELL.out w2 _ hT2 HRD.out
  have hrd := HRD.out
  have t1 := (Touch.refl [r] w2).setCell (p := ⟨r, 4, none⟩) (by simp) (.int .i64 ((n : Int) + 1))
  have t2 := t1.setCell (p := ⟨r, 5, none⟩) (by simp) (.slice (some ⟨g, 0, none⟩) 0 cap)
  refine ⟨rfl, .slice (some ⟨g, 0, none⟩) 0 cap, d', M', ⟨?_, ?_⟩, ⟨hW2.pd.away t2 ?_, hW2.step, hW2.last, hW2.wrote, hW2.used, hW2.rows⟩, rfl, ?_⟩
  · have h1 := heap_setCell_same w2 r 4 _ 223 (.int .i64 ((n : Int) + 1)) hcell
    have h2 := heap_setCell_same _ r 5 _ 223 (.slice (some ⟨g, 0, none⟩) 0 cap) h1
    rw [h2]
    simp [runCells]
  · have h0 := HR.out.text.touch hT2 HVD.out
    exact (h0.cut.setCell (fun k hk => HRV.out k (by simpa [Value.ownBlock] using hk)) 4 _).setCell (fun k hk => HRV.out k (by simpa [Value.ownBlock] using hk)) 5 _
  · intro k hk e
    simp only [List.mem_cons, List.not_mem_nil, or_false] at e
    subst e
    exact (hW2.pd.notag (t := 223) (by decide) (by decide)).not_mem hcell hk
  · exact (hT2.mono (fun k hk => List.mem_cons_of_mem _ hk)).trans (t2.mono (fun k hk => by rw [List.mem_singleton.1 hk]; exact List.mem_cons_self))
end Go.Proofs.YtjoinhljdbljaaaGreat
