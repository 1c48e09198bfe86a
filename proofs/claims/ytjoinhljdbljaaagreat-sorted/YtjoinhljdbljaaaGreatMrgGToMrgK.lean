/- The walk of newMerge. What the steps of mergeFirst do: a run made, added to, ended, beside a merge. The steps of mergeFirst's loop, and its end. The end of mergeFirst, and its beginning. The walk of mergeFirst. -/
import Derived.Test.YtjoinhljdbljaaaGreatMrgBToMrgF
namespace Go.Proofs.YtjoinhljdbljaaaGreat
open Go.RowKit

set_option maxHeartbeats 400000 in
theorem cheapsNew_any (w : World) (bf : Nat) : Calls Tryz.prog 199 #[.func (.func 200) #[] #[.pointer (some ⟨bf, 0, none⟩)]] w fun e w' => e = .returned (.pointer (some ⟨w.heap.size, 0, none⟩)) ∧ w' = w.alloc (.cells (cheadCells (.slice none 0 0) bf) 331) := by
  go_enter Tryz.func199, Tryz.ntmps199
  go_wp2
  go_ret
  exact ⟨rfl, rfl⟩

theorem NmInv.start {w : World} {ps : Nat} {s : SC} {ks : List K} {bx bm blk cols : Nat} {d : DS} {M : List PF} {pre : List RI} {o : Option RI} {gv : Value} {G : List RI} (hS : SorterAt w ps s) (hK : KeysAt w s.kv ks) (hR : RunsSt w bx bm blk cols d M pre o) (hown : POff w gv G) (hable : ∀ x ∈ G, ∀ y ∈ x.recs, Able ks y.row) :
    NmInv w (w.heap.size + 2) (w.heap.size + 1) w.heap.size ps ks bx bm blk cols d M pre o gv G 0 (((w.alloc (.cells #[.func (.func 165) #[.pointer (some ⟨ps, 0, none⟩)] #[]] 264)).alloc (.cells (cheadCells (.slice none 0 0) w.heap.size) 331)).alloc (.cells #[.pointer (some ⟨w.heap.size + 1, 0, none⟩)] 310)) := by
  have t : Touch [] w (((w.alloc (.cells #[.func (.func 165) #[.pointer (some ⟨ps, 0, none⟩)] #[]] 264)).alloc (.cells (cheadCells (.slice none 0 0) w.heap.size) 331)).alloc (.cells #[.pointer (some ⟨w.heap.size + 1, 0, none⟩)] 310)) := (((Touch.refl [] w).alloc _).alloc _).alloc _
  have e2 : ((w.alloc (.cells #[.func (.func 165) #[.pointer (some ⟨ps, 0, none⟩)] #[]] 264)).alloc (.cells (cheadCells (.slice none 0 0) w.heap.size) 331)).heap.size = w.heap.size + 2 := by simp
  have e1 : (w.alloc (.cells #[.func (.func 165) #[.pointer (some ⟨ps, 0, none⟩)] #[]] 264)).heap.size = w.heap.size + 1 := by simp
  have b0 := heap_alloc_new w (.cells #[.func (.func 165) #[.pointer (some ⟨ps, 0, none⟩)] #[]] 264)
  have b1 := heap_alloc_new (w.alloc (.cells #[.func (.func 165) #[.pointer (some ⟨ps, 0, none⟩)] #[]] 264)) (.cells (cheadCells (.slice none 0 0) w.heap.size) 331)
  have b2 := heap_alloc_new ((w.alloc (.cells #[.func (.func 165) #[.pointer (some ⟨ps, 0, none⟩)] #[]] 264)).alloc (.cells (cheadCells (.slice none 0 0) w.heap.size) 331)) (.cells #[.pointer (some ⟨w.heap.size + 1, 0, none⟩)] 310)
  rw [e1] at b1
  rw [e2] at b2
  refine ⟨⟨.slice none 0 0, [], ⟨b2, ⟨?_, COwn.nil _, ⟨?_, s.cells, (0, 0), s.kv, t.tag0 _ _ _ _ hS, by simp [SC.cells], Sl3.keep hK (t.tag0 _)⟩, by simp, HeapOK.nil⟩, ⟨by simp, by simp, by simp, hable, by simp, by simp⟩, by omega, by simp [Value.ownBlock], by simp⟩, by simp, by simp⟩, hR.turned (hR.pd.away t (by simp)) t (by intro k hk; simp at hk) (by intro k hk; simp at hk), hown.keep (t.tag0 _), t.mono (by simp)⟩
  · exact (Below.heap_alloc _ _ _ (by simp)).trans b1
  · exact (Below.heap_alloc _ _ _ (by simp; omega)).trans ((Below.heap_alloc _ _ _ (by simp)).trans b0)

/-- A merge that stands ready. -/
structure MgReady (w w' : World) (ps : Nat) (ks : List K) (bx bm blk cols : Nat) (d : DS) (M : List PF) (pre : List RI) (o : Option RI) (G : List RI) (pm : Nat) : Prop where
  st : ∃ ph hv bf L, MgSt w' w.heap.size pm ph hv bf ps ks G L ∧ Merging ks (G.map RI.recs).flatten (L.map CU.cur) [] ∧ L.length ≤ G.length
  runs : RunsSt w' bx bm blk cols d M pre o
  touch : Touch [bx] w w'

theorem NmInv.ready {w wr : World} {pm ph bf ps : Nat} {ks : List K} {bx bm blk cols : Nat} {d : DS} {M : List PF} {pre : List RI} {o : Option RI} {gv : Value} {G : List RI} {i : Nat} (h : NmInv w pm ph bf ps ks bx bm blk cols d M pre o gv G i wr) (hi : i = G.length) (hs : ∀ x ∈ G, Srt ks x.recs) : MgReady w wr ps ks bx bm blk cols d M pre o G pm := by
  subst hi
  obtain ⟨hv, L, h1, h2, h3⟩ := h.st
  rw [List.take_length] at h2
  refine ⟨⟨ph, hv, bf, L, h1, (Merging.start (heap_cur h1.heap.ok) (fun c hc => ?_)).of_perm h2, h3⟩, h.runs, h.touch⟩
  obtain ⟨u, hu, rfl⟩ := List.mem_map.1 hc
  obtain ⟨dn, hd⟩ := h1.curs.part u hu
  have := hs u.run (h1.curs.mem u hu)
  rw [hd] at this
  exact (List.pairwise_append.1 this).2.1

set_option maxRecDepth 20000 in
set_option maxHeartbeats 4000000 in
theorem newMerge_any (w : World) (ps : Nat) (s : SC) (ks : List K) (bx bm blk cols : Nat) (d : DS) (M : List PF) (pre : List RI) (o : Option RI) (gv : Value) (G : List RI) (hS : SorterAt w ps s) (hK : KeysAt w s.kv ks) (hR : RunsSt w bx bm blk cols d M pre o) (hown : POff w gv G) (hable : ∀ x ∈ G, ∀ y ∈ x.recs, Able ks y.row) (hsub : ∀ x ∈ G, x ∈ pre) (hsm : G.length ≤ 10000000) (hc1 : 1 ≤ cols) (hlast : d.last ≤ 1000000000) (hs : ∀ x ∈ G, Srt ks x.recs) :
    Calls Tryz.prog 171 #[gv, .func (.func 165) #[.pointer (some ⟨ps, 0, none⟩)] #[]] w fun e w' => e = .returned (.pointer (some ⟨w.heap.size + 2, 0, none⟩)) ∧ MgReady w w' ps ks bx bm blk cols d M pre o G (w.heap.size + 2) := by
  have H0 := NmInv.start hS hK hR hown hable
  obtain ⟨g, of, cap, cur, rfl, _⟩ := hown
  obtain ⟨_, hp1, hp2, _⟩ := H0.own.cell
  unfold maxLen at hp2
  have hmf : ∀ (fn : Fn) (first cap : Array Value) (w : World), (Instr.makeFunc fn first cap).run Tryz.prog w = .ok (.func fn first cap) w := fun _ _ _ _ => rfl
  have HS : Hid (∀ x ∈ G, Srt ks x.recs) := hs
  have HSUB : Hid (∀ x ∈ G, x ∈ pre) := hsub
  clear hS hK hR hable hs hsub
  go_enter Tryz.func171, Tryz.ntmps171
  go_wp2_with (go_at_call 199; refine (cheapsNew_any _ w.heap.size).mono ?_; rintro e w1 ⟨rfl, rfl⟩)
  go_loopw [15] (fun i wr => ∃ k : Nat, k ≤ G.length ∧ i = .int .i64 k ∧ NmInv w (w.heap.size + 2) (w.heap.size + 1) w.heap.size ps ks bx bm blk cols d M pre o (.slice (some ⟨g, of, none⟩) G.length cap) G k wr) (fun i _ => G.length - (intOf i).toNat)
  case atStart => exact ⟨0, by omega, rfl, H0⟩
  case round =>
    clear H0
    obtain ⟨k, hk, rfl, hI⟩ := hrel
    by_cases hlt : k < G.length
    · have c0 := hI.own.cell.2.2.2 k hlt
      cases hr : G[k].recs with
      | nil =>
        have hst := nm_nil hI HSUB.out hlt hr
        unfold RI.ptr at c0 hst
        go_wp2_with (first | (go_at_call 116; refine hst.mono ?_; rintro e w1 ⟨rfl, hst1⟩) | (go_at_call 201; refine hst1.mono ?_; rintro e w2 ⟨rfl, hI2⟩))
        go_roundw
        case rel => exact ⟨k + 1, by omega, by go_num, hI2⟩
        case measure => simp [intOf]; omega
      | cons y l =>
        have hst := nm_cons hI HSUB.out hlt hsm hc1 hlast hr
        unfold RI.ptr at c0 hst
        go_wp2_with (first | (go_at_call 116; refine hst.mono ?_; rintro e w1 ⟨rfl, hst1⟩) | (go_at_call 201; refine hst1.mono ?_; rintro e w2 ⟨rfl, hb2, hst2⟩; have q0 := boxOne hb2) | (go_at_call 202; refine hst2.mono ?_; rintro e w3 ⟨rfl, hI3⟩))
        go_roundw
        case rel => exact ⟨k + 1, by omega, by go_num, hI3⟩
        case measure => simp [intOf]; omega
    · go_wp2
      go_ret
      exact ⟨rfl, hI.ready (by omega) HS.out⟩
end Go.Proofs.YtjoinhljdbljaaaGreat

namespace Go.Proofs.YtjoinhljdbljaaaGreat
open Go.RowKit

section
variable {w w' : World} {bx bm blk cols : Nat} {d : DS} {M : List PF} {pre : List RI} {o : Option RI}

theorem runsNew_any (m j : Nat) (h : RunsSt w bx bm blk cols d M pre none) (hl : Left d m (j + 1)) :
    Calls Tryz.prog 112 #[.agg #[.pointer (some ⟨bx, 0, none⟩), .int .i64 (blk : Int)]] w fun e w' => ∃ x : RI, e = .returned x.ptr ∧ w.heap.size ≤ x.r ∧ x.recs = [] ∧ ∃ d' M', RunsSt w' bx bm blk cols d' M' pre (some x) ∧ Left d' m j ∧ d'.last = d.last + 1 ∧ rowsOf M' = rowsOf M ∧ Touch [bx, bm] w w' := by
  have h1 := hl.last
  have h2 := h.ok.last
  obtain ⟨file, hf⟩ : ∃ file : Nat, (file : Int) = d.last + 1 := ⟨(d.last + 1).toNat, by omega⟩
  refine (shelfNew_any w bx bm blk file d M h.pd h.ok (by omega) hf h.b1).mono ?_
  rintro e w' ⟨r, rfl, hr, d', M', p1, p2, p3, p4, p5, p6, p7, p8, p9⟩
  refine ⟨⟨r, file, 0, .slice none 0 0, [], []⟩, rfl, hr, rfl, d', M', h.fresh p1 p2 p3 p4 hf p9, ?_, p4, p8, p9⟩
  obtain ⟨a, b, c, e⟩ := hl
  have := p3.blocks
  exact ⟨by omega, by omega, by omega, by omega⟩

theorem runsAdd_any (m j : Nat) {x : RI} (y : Rec) (rv : Value) (h : RunsSt w bx bm blk cols d M pre (some x)) (hy : RecOK blk cols y) (hrow : RowAt w rv y.row) (hn : x.recs.length < 1000000) (hl : Left d (m + 1) j) :
    Calls Tryz.prog 113 #[x.ptr, .agg #[.int .i64 y.no, rv]] w fun e w' => e = .returned (.tuple #[]) ∧ ∃ (x' : RI) (d' : DS) (M' : List PF), RunsSt w' bx bm blk cols d' M' pre (some x') ∧ x'.r = x.r ∧ x'.recs = x.recs ++ [y] ∧ Left d' m j ∧ d'.last = d.last ∧ Sub w (rowsOf M') (rowsOf M) ∧ TouchU (x.r :: diskF bx bm M) w w' := by
  have hxm : x ∈ pre ++ (some x).toList := by simp
  have h1 := hl.last
  have h2 := h.known x hxm
  have h3 := h.len x hxm
  refine (add_any w x.r bx bm blk x.file cols x.cols x.v rv x.cs x.cur y d M (h.opn x rfl) h.pd h.ok hrow hy (fun z hz => h.recs x hxm z hz) h.c2 h.block h.b2 (by omega) (by omega) (hl.mono (by omega) (Nat.le_refl _) : Left d 1 j).roomy).mono ?_
  rintro e w' ⟨rfl, v', cs', cur', d', M', k, hk, p1, p2, p3, p4, p5⟩
  refine ⟨rfl, ⟨x.r, x.file, cols, v', cs', cur'⟩, d', M', h.added hy hn p1 p2 p4 p5, rfl, ?_, (hl.mono (by omega) (Nat.le_refl _) : Left d (m + k) j).wrote p4, p4.last, p4.rows, p5⟩
  simp only [RI.recs]; exact p2

theorem runsEnd_any (m j : Nat) {x : RI} (h : RunsSt w bx bm blk cols d M pre (some x)) (hl : Left d (m + 1) j) :
    Calls Tryz.prog 114 #[x.ptr] w fun e w' => e = .returned (.tuple #[]) ∧ ∃ (x' : RI) (d' : DS) (M' : List PF), RunsSt w' bx bm blk cols d' M' (pre ++ [x']) none ∧ x'.r = x.r ∧ x'.recs = x.recs ∧ Left d' m j ∧ d'.last = d.last ∧ Sub w (rowsOf M') (rowsOf M) ∧ Touch (x.r :: diskF bx bm M) w w' := by
  have hxm : x ∈ pre ++ (some x).toList := by simp
  have hk := h.known x hxm
  have hll := hl.last
  have hlen := h.len x hxm
  refine (runEnd_any w x.r bx bm blk x.file x.cols x.v x.cs x.cur d M (h.opn x rfl) h.pd h.ok (fun y hy => (h.recs x hxm y (by simp [RI.recs, hy])).fair) h.block h.b2 (by omega) (by omega) (hl.mono (by omega) (Nat.le_refl _) : Left d 1 j).roomy).mono ?_
  rintro e w' ⟨rfl, cs', d', M', k, hk1, p1, p2, p3, p4, p5⟩
  exact ⟨rfl, ⟨x.r, x.file, x.cols, .slice none 0 0, cs', []⟩, d', M', h.ended p1 p2 p4 p5, rfl, by simp [RI.recs, p2], (hl.mono (by omega) (Nat.le_refl _) : Left d (m + k) j).wrote p4, p4.last, p4.rows, p5⟩

/-- What adding to a run, or ending one, leaves beside. -/
theorem RunsSt.runTag {x : RI} (h : RunsSt w bx bm blk cols d M pre (some x)) {t : TypeId} (h1 : 117 ≠ t) (h2 : 9 ≠ t) (h3 : 223 ≠ t) : NoTag t w (x.r :: diskF bx bm M) :=
  (h.notag h1 h2 h3).sub (fun k hk => by
    rcases List.mem_cons.1 hk with rfl | hk
    · simp [runsF]
    · simp only [runsF, List.mem_append]; exact .inr hk)
theorem RunsSt.mgKeepU {x : RI} (h : RunsSt w bx bm blk cols d M pre (some x)) (t : TouchU (x.r :: diskF bx bm M) w w') (ps : Nat) : MgKeep ps w w' := by
  have k : ∀ t', t' ≠ 5 → (117 : TypeId) ≠ t' → (9 : TypeId) ≠ t' → (223 : TypeId) ≠ t' → KeepTag t' w w' := fun t' h5 h1 h2 h3 => t.tag h5 (h.runTag h1 h2 h3)
  exact ⟨k _ (by decide) (by decide) (by decide) (by decide), k _ (by decide) (by decide) (by decide) (by decide), k _ (by decide) (by decide) (by decide) (by decide), k _ (by decide) (by decide) (by decide) (by decide), k _ (by decide) (by decide) (by decide) (by decide), k _ (by decide) (by decide) (by decide) (by decide), k _ (by decide) (by decide) (by decide) (by decide), k _ (by decide) (by decide) (by decide) (by decide), (k _ (by decide) (by decide) (by decide) (by decide)).key ps⟩
end

theorem POff.ptrs {w : World} {v : Value} {R R' : List RI} (h : POff w v R) (e : R'.map RI.ptr = R.map RI.ptr) : POff w v R' := by
  have hl : R'.length = R.length := by simpa using congrArg List.length e
  obtain ⟨g, o, cap, cur, h1, h2, h3, h4, h5, h6⟩ := h
  refine ⟨g, o, cap, cur, by rw [hl]; exact h1, h2, by omega, h4, h5, fun i hi => ?_⟩
  rw [h6 i (by omega)]
  have : (R'.map RI.ptr)[i]? = (R.map RI.ptr)[i]? := by rw [e]
  simp only [List.getElem?_map, List.getElem?_eq_getElem hi, List.getElem?_eq_getElem (show i < R.length by omega), Option.map_some, Option.some.injEq] at this
  rw [this]

/-- While runs are merged into a new one. -/
structure MfInv (w0 : World) (F : List Nat) (lo ps : Nat) (s : SC) (ks : List K) (bm cols pm ph bf : Nat) (pre G : List RI) (gv : Value) (rest : List RI) (r m j : Nat) (la : Int) (all : List Rec) (k : Nat) (wr : World) : Prop where
  st : ∃ hv L out x d M, MgSt wr lo pm ph hv bf ps ks G L ∧ Merging ks all (L.map CU.cur) out ∧ out.length = k ∧ L.length ≤ 1000000 ∧ RunsSt wr s.bx bm s.blk cols d M pre (some x) ∧ x.r = r ∧ x.recs = out ∧ Left d (all.length - k + (m + 1)) j ∧ d.last = la ∧ Sub w0 (diskF s.bx bm M) F ∧ (x.r ∈ F ∨ w0.heap.size ≤ x.r)
  sorter : SorterAt wr ps s
  keys : KeysAt wr s.kv ks
  own : ∃ x0 : RI, x0.r = r ∧ POff wr s.rv (rest ++ [x0])
  grp : POff wr gv G
  touch : TouchU F w0 wr
end Go.Proofs.YtjoinhljdbljaaaGreat

namespace Go.Proofs.YtjoinhljdbljaaaGreat
open Go.RowKit

theorem flat_len (L : List CU) : L.length ≤ ((L.map CU.cur).map Cur.left).flatten.length := by
  induction L with
  | nil => simp
  | cons u T ih => simp only [List.map_cons, List.flatten_cons, List.length_append, List.length_cons, Cur.left, CU.cur]; omega

section
variable {w0 wr : World} {F : List Nat} {lo ps : Nat} {s : SC} {ks : List K} {bm cols pm ph bf : Nat} {pre G : List RI} {gv : Value} {rest : List RI} {r m j : Nat} {la : Int} {all : List Rec} {k : Nat}

theorem MfInv.quiet {w' : World} (h : MfInv w0 F lo ps s ks bm cols pm ph bf pre G gv rest r m j la all k wr) (t : Touch [] wr w') : MfInv w0 F lo ps s ks bm cols pm ph bf pre G gv rest r m j la all k w' := by
  obtain ⟨hv, L, out, x, d, M, h1, h2, h3, h4, h5, h6⟩ := h.st
  obtain ⟨x0, e0, h0⟩ := h.own
  exact ⟨⟨hv, L, out, x, d, M, h1.quiet t, h2, h3, h4, h5.quiet t (by simp) (fun k hk => by simp at hk), h6⟩, h.sorter.u t.u (by simp), Sl3.keep h.keys (t.tag0 _), ⟨x0, e0, h0.keep (t.tag0 _)⟩, h.grp.keep (t.tag0 _), h.touch.more t.u (by simp)⟩

theorem Merging.full {out : List Rec} {L : List Cur} (h : Merging ks all L out) (hl : all.length ≤ out.length) : L = [] := by
  cases L with
  | nil => rfl
  | cons c t => have := h.count (by simp); omega

theorem mf_next (h : MfInv w0 F lo ps s ks bm cols pm ph bf pre G gv rest r m j la all k wr) (hsub : ∀ x ∈ G, x ∈ pre) (hc1 : 1 ≤ cols) (hsm : all.length ≤ 900000) (hlo : w0.heap.size ≤ lo) (hbx : s.bx ∈ F) (hlt : k < all.length) :
    Calls Tryz.prog 172 #[.pointer (some ⟨pm, 0, none⟩)] wr fun e w1 => ∃ (no : Int) (ao : Option Addr) (n cap : Nat), e = .returned (.tuple #[.agg #[.int .i64 no, .slice ao n cap], .bool true]) ∧
      ∀ W, Touch [] w1 W → Calls Tryz.prog 113 #[.pointer (some ⟨r, 0, none⟩), .agg #[.int .i64 no, .slice ao n cap]] W fun e w2 => e = .returned (.tuple #[]) ∧ MfInv w0 F lo ps s ks bm cols pm ph bf pre G gv rest r m j la all (k + 1) w2 := by
  obtain ⟨hv, L, out, x, d, M, h1, h2, h3, h4, h5, h6, h7, h8, h9, h10, h11⟩ := h.st
  obtain ⟨x0, e0, h0⟩ := h.own
  cases L with
  | nil =>
    have := h2.end.1.length_eq
    omega
  | cons u T =>
    have hl8 := h8.last
    have hd0 := h5.ok.last
    simp only [List.length_cons] at h4
    have hu := h1.curs.mem u (by simp)
    obtain ⟨dn, hdn⟩ := h1.curs.part u (by simp)
    have hrec : RecOK s.blk cols u.first := h5.recs u.run (by simp [hsub _ hu]) u.first (by rw [hdn]; simp)
    refine (mnext_cons wr lo pm ph hv bf ps ks G u T s.bx bm s.blk cols d M pre (some x) h1 h5 hsub (by omega) hc1 (by omega)).mono ?_
    rintro e w1 ⟨rfl, hrow, hN⟩
    obtain ⟨ao, cap, ea⟩ := hrow.shape
    refine ⟨u.first.no, ao, u.first.row.length, cap, by rw [ea], fun W hW => ?_⟩
    rw [← ea]
    obtain ⟨hv1, L1, a1, a2⟩ := hN.st
    have a3 := a2 all out h2
    obtain ⟨FF, t1, mt⟩ := hN.touch
    have k1 : ∀ t, t ∉ [117, 307, 331, 305, 241] → KeepTag t wr W := fun t ht => (t1.tag (mt.notag ht)).trans (hW.tag0 t)
    have b1 := a1.quiet hW
    have b2 := hN.runs.quiet hW (by simp) (fun k hk => by simp at hk)
    have hlen1 : L1.length ≤ 1000000 := by
      have e1 := a3.perm.length_eq
      have : L1.length ≤ ((L1.map CU.cur).map Cur.left).flatten.length := by
        have := flat_len L1
        exact this
      rw [List.length_append] at e1
      omega
    have hxl : x.recs.length < 1000000 := by rw [h7]; omega
    subst h6
    refine (runsAdd_any (m := all.length - (k + 1) + (m + 1)) (j := j) u.first u.rv b2 hrec (Sl3.keep hrow (hW.tag0 _)) hxl (h8.mono (by omega) (Nat.le_refl _))).mono ?_
    rintro e w2 ⟨rfl, x', d', M', q1, q2, q3, q4, q5, q6, t2⟩
    have k2 : ∀ t, t ≠ 5 → (117 : TypeId) ≠ t → (9 : TypeId) ≠ t → (223 : TypeId) ≠ t → KeepTag t W w2 := fun t e5 e1 e2 e3 => t2.tag e5 (b2.runTag e1 e2 e3)
    have t1' : TouchU F w0 W := (h.touch.more t1.u (fun i hi => by
      obtain ⟨_, _, _, _, _, e⟩ := mt i hi
      rcases e with rfl | e
      · exact .inl hbx
      · exact .inr (by omega))).more hW.u (by simp)
    have t2' : TouchU F w0 w2 := t1'.more t2 (fun i hi => by
      rcases List.mem_cons.1 hi with rfl | hi
      · exact h11
      · exact h10 i hi)
    refine ⟨rfl, ⟨hv1, L1, out ++ [u.first], x', d', M', b1.keep (b2.mgKeepU t2 ps), a3, by rw [List.length_append, h3]; rfl, hlen1, q1, q2, by rw [q3, h7], q4, q5.trans h9, fun i hi => ?_, by rw [q2]; exact h11⟩, ?_, ?_, ⟨x0, e0, ?_⟩, ?_, t2'⟩
    · simp only [diskF, List.mem_cons] at hi
      rcases hi with rfl | rfl | hi
      · exact .inl hbx
      · exact h10 _ (by simp [diskF])
      · rcases q6 i hi with hi | hi
        · exact h10 _ (by simp [diskF, hi])
        · exact .inr (Nat.le_trans t1'.size hi)
    · exact k2 260 (by decide) (by decide) (by decide) (by decide) _ _ _ (k1 260 (by decide) _ _ _ h.sorter)
    · exact Sl3.keep h.keys ((k1 73 (by decide)).trans (k2 73 (by decide) (by decide) (by decide) (by decide)))
    · exact h0.keep ((k1 194 (by decide)).trans (k2 194 (by decide) (by decide) (by decide) (by decide)))
    · exact h.grp.keep ((k1 194 (by decide)).trans (k2 194 (by decide) (by decide) (by decide) (by decide)))

/-- The last call of next says that there is none. -/
theorem mf_over (h : MfInv w0 F lo ps s ks bm cols pm ph bf pre G gv rest r m j la all k wr) (hlt : k = all.length) :
    Calls Tryz.prog 172 #[.pointer (some ⟨pm, 0, none⟩)] wr fun e w1 => e = .returned (.tuple #[.agg #[.int .i64 0, .slice none 0 0], .bool false]) ∧ MfInv w0 F lo ps s ks bm cols pm ph bf pre G gv rest r m j la all k w1 := by
  obtain ⟨hv, L, out, x, d, M, h1, h2, h3, _⟩ := h.st
  have hL := h2.full (by omega)
  rw [List.map_eq_nil_iff] at hL
  subst hL
  refine (mnext_nil wr lo pm ph hv bf ps ks G h1).mono ?_
  rintro e w1 ⟨rfl, t⟩
  exact ⟨rfl, h.quiet t⟩
end
end Go.Proofs.YtjoinhljdbljaaaGreat

namespace Go.Proofs.YtjoinhljdbljaaaGreat
open Go.RowKit

structure MfDone (w0 : World) (F : List Nat) (ps : Nat) (s : SC) (ks : List K) (bm cols : Nat) (rest : List RI) (r m j : Nat) (la : Int) (all : List Rec) (w' : World) : Prop where
  st : ∃ x d M, SM w' ps s ks bm cols d M (rest ++ [x]) none (rest ++ [x]) ∧ x.r = r ∧ x.recs.Perm all ∧ Srt ks x.recs ∧ Left d m j ∧ d.last = la ∧ Sub w0 (diskF s.bx bm M) F
  touch : TouchU F w0 w'

section
variable {w0 wr : World} {F : List Nat} {lo ps : Nat} {s : SC} {ks : List K} {bm cols pm ph bf : Nat} {pre G : List RI} {gv : Value} {rest : List RI} {r m j : Nat} {la : Int} {all : List Rec} {k : Nat}

theorem mf_end (h : MfInv w0 F lo ps s ks bm cols pm ph bf pre G gv rest r m j la all k wr) (hlt : k = all.length) (hpre : pre = G ++ rest) (hbx : s.bx ∈ F) (hbm : bm ∈ F) :
    Calls Tryz.prog 114 #[.pointer (some ⟨r, 0, none⟩)] wr fun e w1 => e = .returned (.tuple #[]) ∧
      CallsD Tryz.prog 166 #[gv] .returning w1 fun e u' w2 => u' = .returning ∧ e = .returned (.tuple #[]) ∧ MfDone w0 F ps s ks bm cols rest r m j la all w2 := by
  obtain ⟨hv, L, out, x, d, M, h1, h2, h3, h4, h5, h6, h7, h8, h9, h10, h11⟩ := h.st
  obtain ⟨x0, e0, h0⟩ := h.own
  have hL := h2.full (by omega)
  rw [hL] at h2
  obtain ⟨z1, z2⟩ := h2.end
  subst h6
  refine (runsEnd_any (m := m) (j := j) h5 (h8.mono (by omega) (Nat.le_refl _))).mono ?_
  rintro e w1 ⟨rfl, x', d', M', q1, q2, q3, q4, q5, q6, t1⟩
  refine ⟨rfl, ?_⟩
  have k1 : ∀ t, (117 : TypeId) ≠ t → (9 : TypeId) ≠ t → (223 : TypeId) ≠ t → KeepTag t wr w1 := fun t e1 e2 e3 => t1.tag (h5.runTag e1 e2 e3)
  have hR : RunsSt w1 s.bx bm s.blk cols d' M' (G ++ (rest ++ [x'])) none := by rw [← List.append_assoc, ← hpre]; exact q1
  have t1' : TouchU F w0 w1 := h.touch.more t1.u (fun i hi => by
    rcases List.mem_cons.1 hi with rfl | hi
    · exact h11
    · exact h10 i hi)
  have hS1 : Sub w0 (diskF s.bx bm M') F := fun i hi => by
    simp only [diskF, List.mem_cons] at hi
    rcases hi with rfl | rfl | hi
    · exact .inl hbx
    · exact .inl hbm
    · rcases q6 i hi with hi | hi
      · exact h10 _ (by simp [diskF, hi])
      · exact .inr (Nat.le_trans h.touch.size hi)
  refine (deleteAll_deferred w1 s.bx bm s.blk cols d' M' gv G (rest ++ [x']) m j .returning (h.grp.keep (k1 194 (by decide) (by decide) (by decide))) hR q4).mono ?_
  rintro e u' w2 ⟨rfl, rfl, hD⟩
  obtain ⟨d2, M2, r1, r2, r3, r4⟩ := hD.st
  have k2 : ∀ t, (117 : TypeId) ≠ t → (9 : TypeId) ≠ t → KeepTag t w1 w2 := fun t e1 e2 => hD.touch.tag ((q1.pd.notag e1 e2).sub (fun i hi => by
    simp only [List.mem_cons, List.not_mem_nil, or_false] at hi
    rcases hi with rfl | rfl <;> simp [diskF]))
  refine ⟨rfl, rfl, ⟨x', d2, M2, ⟨?_, ?_, r1, ?_⟩, q2, by rw [q3, h7]; exact z1, by rw [q3, h7]; exact z2, r2, r3.trans (q5.trans h9), fun i hi => ?_⟩, ?_⟩
  · exact k2 260 (by decide) (by decide) _ _ _ (k1 260 (by decide) (by decide) (by decide) _ _ _ h.sorter)
  · exact Sl3.keep h.keys ((k1 73 (by decide) (by decide) (by decide)).trans (k2 73 (by decide) (by decide)))
  · exact (h0.keep ((k1 194 (by decide) (by decide) (by decide)).trans (k2 194 (by decide) (by decide)))).ptrs (by simp [RI.ptr, q2, e0])
  · simp only [diskF, List.mem_cons] at hi
    rcases hi with rfl | rfl | hi
    · exact .inl hbx
    · exact .inl hbm
    · rcases r4 i hi with hi | hi
      · exact hS1 _ (by simp [diskF, hi])
      · exact .inr (Nat.le_trans t1'.size hi)
  · exact t1'.more hD.touch.u (fun i hi => by
      simp only [List.mem_cons, List.not_mem_nil, or_false] at hi
      rcases hi with rfl | rfl
      · exact .inl hbx
      · exact .inl hbm)

/-- The merge stands ready beside the new run. -/
theorem mf_start {w3 w4 : World} {x : RI} {d : DS} {M : List PF} (hG : MgReady w3 w4 ps ks s.bx bm s.blk cols d M pre (some x) G pm) (hR3 : RunsSt w3 s.bx bm s.blk cols d M pre (some x)) (hS : SorterAt w3 ps s) (hK : KeysAt w3 s.kv ks) (hown : POff w3 s.rv (rest ++ [x])) (hgrp : POff w3 gv G) (hx : x.recs = []) (hl : Left d (((G.map RI.recs).flatten).length + (m + 1)) j) (hla : d.last = la) (hsm : G.length ≤ 900000) (ht : TouchU F w0 w3) (hbx : s.bx ∈ F) (hdf : Sub w0 (diskF s.bx bm M) F) (hxr : x.r ∈ F ∨ w0.heap.size ≤ x.r) :
    ∃ ph bf, MfInv w0 F w3.heap.size ps s ks bm cols pm ph bf pre G gv rest x.r m j la (G.map RI.recs).flatten 0 w4 := by
  obtain ⟨ph, hv, bf, L, a1, a2, a3⟩ := hG.st
  have k1 : ∀ t, (117 : TypeId) ≠ t → KeepTag t w3 w4 := fun t e1 => hG.touch.tag (notag_of hR3.pd.disk e1)
  exact ⟨ph, bf, ⟨hv, L, [], x, d, M, a1, a2, rfl, by omega, hG.runs, rfl, hx, by simpa using hl, hla, hdf, hxr⟩, k1 260 (by decide) _ _ _ hS, Sl3.keep hK (k1 73 (by decide)), ⟨x, rfl, hown.keep (k1 194 (by decide))⟩, hgrp.keep (k1 194 (by decide)), ht.more hG.touch.u (fun i hi => by rw [List.mem_singleton.1 hi]; exact .inl hbx)⟩
end

theorem wpList_off {ops : Array Oper} {rest : List Oper} {o : Oper} {a : Act} {w : World} {Q : Exit → Act → World → Prop} (hgd : o.guard = none) (s x : Operand)
    (ho : o.op = .call { callee := .builtin .append, args := #[s, x], argTypes := #[160, 160] }) (g of len cap : Nat) (R : List RI) (hs : a.eval s = .slice (some ⟨g, of, none⟩) len cap) (hown : POff w (.slice (some ⟨g, of, none⟩) len cap) R)
    (ad : Addr) (y : RI) (c : Nat) (hx : a.eval x = .slice (some ad) 1 c) (hnews : w.cell? ad = some y.ptr) (hlen : R.length ≤ 1000000000)
    (h : ∀ g' o' cap' w', POff w' (.slice (some ⟨g', o', none⟩) (len + 1) cap') (R ++ [y]) → Touch [g] w w' → KeepRow g (of + len) w w' → (g' = g ∨ w.heap.size ≤ g') → wpList Tryz.prog ops Q rest (a.put o.dst (.slice (some ⟨g', o', none⟩) (len + 1) cap')) w') :
    wpList Tryz.prog ops Q (o :: rest) a w := by
  obtain rfl := hown.cell.1
  refine wpList_plain hgd fun K hK => ?_
  have hw : Region.wanted o (yielded ops a.tmps) = true := by simp [Region.wanted, hgd]
  have := step_off (E := True) (ops := ops) (K := K) (Q := Q) hgd s x ho g of R.length cap R hs hown ad y c hx hnews hlen (fun g' o' cap' w' h1 h2 h3 h4 => hK _ _ (h g' o' cap' w' h1 h2 h3 h4))
  rw [if_pos hw] at this
  exact this

/-- The new run laid behind those that are left. -/
theorem mf_laid {w w2 w4 : World} {ps : Nat} {s : SC} {ks : List K} {bm cols : Nat} {d d' : DS} {M M' : List PF} {pre : List RI} {x : RI} {g of cap n g' o' cap' : Nat} (h : SM w ps s ks bm cols d M pre none pre) (hrv : s.rv = .slice (some ⟨g, of, none⟩) pre.length cap) (hn : n ≤ pre.length) (hR2 : RunsSt w2 s.bx bm s.blk cols d' M' pre (some x)) (t2 : Touch [s.bx, bm] w w2)
    (hP : POff w4 (.slice (some ⟨g', o', none⟩) (pre.length - n + 1) cap') (pre.drop n ++ [x])) (t4 : Touch [g] (w2.alloc (.cells #[x.ptr] 194)) w4) (hk : KeepRow g (of + n + (pre.length - n)) (w2.alloc (.cells #[x.ptr] 194)) w4) :
    SorterAt w4 ps s ∧ SorterAt (w4.setCell ⟨ps, 13, none⟩ (.slice (some ⟨g', o', none⟩) (pre.length - n + 1) cap')) ps { s with rv := .slice (some ⟨g', o', none⟩) (pre.length - n + 1) cap' } ∧ KeysAt (w4.setCell ⟨ps, 13, none⟩ (.slice (some ⟨g', o', none⟩) (pre.length - n + 1) cap')) s.kv ks ∧ RunsSt (w4.setCell ⟨ps, 13, none⟩ (.slice (some ⟨g', o', none⟩) (pre.length - n + 1) cap')) s.bx bm s.blk cols d' M' pre (some x) ∧ POff (w4.setCell ⟨ps, 13, none⟩ (.slice (some ⟨g', o', none⟩) (pre.length - n + 1) cap')) (.slice (some ⟨g', o', none⟩) (pre.length - n + 1) cap') (pre.drop n ++ [x]) ∧ POff (w4.setCell ⟨ps, 13, none⟩ (.slice (some ⟨g', o', none⟩) (pre.length - n + 1) cap')) (.slice (some ⟨g, of, none⟩) n n) (pre.take n) ∧ Touch [ps, g, s.bx, bm] w (w4.setCell ⟨ps, 13, none⟩ (.slice (some ⟨g', o', none⟩) (pre.length - n + 1) cap')) := by
  have n2 : ∀ t, (117 : TypeId) ≠ t → (9 : TypeId) ≠ t → NoTag t w [s.bx, bm] := fun t h1 h2 => (h.runs.pd.notag h1 h2).sub (fun k hk => by
    simp only [List.mem_cons, List.not_mem_nil, or_false] at hk
    rcases hk with rfl | rfl <;> simp [diskF])
  have k2 : ∀ t, (117 : TypeId) ≠ t → (9 : TypeId) ≠ t → KeepTag t w (w2.alloc (.cells #[x.ptr] 194)) := fun t h1 h2 => (t2.tag (n2 t h1 h2)).trans (((Touch.refl [] w2).alloc _).tag0 t)
  have hown := h.own
  rw [hrv] at hown
  have hown2 := hown.keep (k2 194 (by decide) (by decide))
  obtain ⟨cs, hg2⟩ := hown2.block g rfl
  have k4 : ∀ t, (194 : TypeId) ≠ t → KeepTag t (w2.alloc (.cells #[x.ptr] 194)) w4 := fun t h1 => t4.tag (notag_of hg2 h1)
  have hS4 : SorterAt w4 ps s := k4 260 (by decide) _ _ _ (k2 260 (by decide) (by decide) _ _ _ h.sorter)
  have t5 : Touch [ps] w4 (w4.setCell ⟨ps, 13, none⟩ (.slice (some ⟨g', o', none⟩) (pre.length - n + 1) cap')) := (Touch.refl [ps] w4).setCell (p := ⟨ps, 13, none⟩) (by simp) _
  have k5 : ∀ t, (260 : TypeId) ≠ t → KeepTag t w4 (w4.setCell ⟨ps, 13, none⟩ (.slice (some ⟨g', o', none⟩) (pre.length - n + 1) cap')) := fun t h1 => t5.tag (notag_of hS4 h1)
  have hR2' := hR2.quiet ((Touch.refl [] w2).alloc (.cells #[x.ptr] 194)) (by simp) (fun k hk => by simp at hk)
  have hR4 := hR2'.turned (hR2'.pd.other t4 (fun k hk => by rw [List.mem_singleton.1 hk]; exact ⟨_, _, _, hg2, by decide, by decide⟩)) t4 (notag_of hg2 (by decide)) (notag_of hg2 (by decide))
  refine ⟨hS4, hS4.setRv _, ?_, hR4.turned (hR4.pd.other t5 (fun k hk => by rw [List.mem_singleton.1 hk]; exact ⟨_, _, _, hS4, by decide, by decide⟩)) t5 (notag_of hS4 (by decide)) (notag_of hS4 (by decide)), hP.keep (k5 194 (by decide)), ?_, ?_⟩
  · exact Sl3.keep h.keys (((k2 73 (by decide) (by decide)).trans (k4 73 (by decide))).trans (k5 73 (by decide)))
  · exact ((hown2.first n hn).row hk (by omega)).keep (k5 194 (by decide))
  · exact ((t2.mono (F' := [ps, g, s.bx, bm]) (by simp)).more ((Touch.refl [] w2).alloc (.cells #[x.ptr] 194)) (by simp)).trans ((t4.mono (by simp)).trans (t5.mono (by simp)))
end Go.Proofs.YtjoinhljdbljaaaGreat

namespace Go.Proofs.YtjoinhljdbljaaaGreat
open Go.RowKit

theorem smF_bx (ps : Nat) (s : SC) (bm : Nat) (M : List PF) (R : List RI) : s.bx ∈ smF ps s bm M R := by simp [smF, runsF, diskF]
theorem smF_bm (ps : Nat) (s : SC) (bm : Nat) (M : List PF) (R : List RI) : bm ∈ smF ps s bm M R := by simp [smF, runsF, diskF]
theorem smF_disk (ps : Nat) (s : SC) (bm : Nat) {M M' : List PF} (R : List RI) (e : rowsOf M' = rowsOf M) {i : Nat} (hi : i ∈ diskF s.bx bm M') : i ∈ smF ps s bm M R := by
  simp only [diskF, e] at hi
  simp only [smF, runsF, diskF, List.mem_cons, List.mem_append] at hi ⊢
  exact .inr (.inr (.inr hi))
theorem mf_front {ps : Nat} {s : SC} {bm : Nat} {M : List PF} {R : List RI} {g of len cap : Nat} (h : s.rv = .slice (some ⟨g, of, none⟩) len cap) : ∀ k ∈ [ps, g, s.bx, bm], k ∈ smF ps s bm M R := fun k hk => by
  simp only [List.mem_cons, List.not_mem_nil, or_false] at hk
  rcases hk with rfl | rfl | rfl | rfl <;> simp [smF, runsF, diskF, h, Value.ownBlock]

set_option maxRecDepth 20000 in
set_option maxHeartbeats 4000000 in
theorem mergeFirst_any (w : World) (ps : Nat) (s : SC) (ks : List K) (bm cols : Nat) (d : DS) (M : List PF) (pre : List RI) (n m j : Nat) (all : List Rec) (hal : ((pre.take n).map RI.recs).flatten = all) (h : SM w ps s ks bm cols d M pre none pre) (hn : n < pre.length) (hable : ∀ x ∈ pre, ∀ y ∈ x.recs, Able ks y.row) (hs : ∀ x ∈ pre, Srt ks x.recs) (hc1 : 1 ≤ cols) (hl : Left d (all.length + (m + 1)) (j + 1)) (hall : all.length ≤ 900000) (hcount : all.length ≤ s.count) (hpl : pre.length ≤ 900000) :
    Calls Tryz.prog 182 #[.pointer (some ⟨ps, 0, none⟩), .int .i64 (n : Int)] w fun e w' => e = .returned (.tuple #[]) ∧ ∃ g' o' cap' r, MfDone w (smF ps s bm M pre) ps { s with rv := .slice (some ⟨g', o', none⟩) (pre.length - n + 1) cap' } ks bm cols (pre.drop n) r m j (d.last + 1) all w' ∧ (s.rv.ownBlock = some g' ∨ w.heap.size ≤ g') ∧ w.heap.size ≤ r := by
  have HH := h
  obtain ⟨g, of, cap, cur, hrv, hcur, hp1, hp2, hp3, hp4⟩ := h.own
  unfold maxLen at hp3
  have hnc : n < cap := by omega
  obtain ⟨c0, c1, c2, c3, c4, c5, c6, c7, c8, c9, c10, c11, c12, c13, c14, c15, cf⟩ := h.sorter.cell
  rw [hrv] at c13
  have HNEW : Hid (Calls Tryz.prog 112 #[.agg #[.pointer (some ⟨s.bx, 0, none⟩), .int .i64 (s.blk : Int)]] w fun e w' => ∃ x : RI, e = .returned (.pointer (some ⟨x.r, 0, none⟩)) ∧ w'.cell? ⟨ps, 13, none⟩ = some (.slice (some ⟨g, of, none⟩) pre.length cap) ∧ POff (w'.alloc (.cells #[.pointer (some ⟨x.r, 0, none⟩)] 194)) (.slice (some ⟨g, of + n, none⟩) (pre.length - n) (cap - n)) (pre.drop n) ∧ Hid (w.heap.size ≤ x.r ∧ x.recs = [] ∧ ∃ d' M', RunsSt w' s.bx bm s.blk cols d' M' pre (some x) ∧ Left d' (all.length + (m + 1)) j ∧ d'.last = d.last + 1 ∧ rowsOf M' = rowsOf M ∧ Touch [s.bx, bm] w w')) := by
    refine (runsNew_any _ _ h.runs hl).mono ?_
    rintro e w' ⟨x, rfl, p1, p2, d', M', p3, p4, p5, p6, p7⟩
    have n2 : ∀ t, (117 : TypeId) ≠ t → (9 : TypeId) ≠ t → NoTag t w [s.bx, bm] := fun t h1 h2 => (h.runs.pd.notag h1 h2).sub (fun k hk => by
      simp only [List.mem_cons, List.not_mem_nil, or_false] at hk
      rcases hk with rfl | rfl <;> simp [diskF])
    have ho := h.own
    rw [hrv] at ho
    exact ⟨x, rfl, cell_touchF c13 p7 ((n2 260 (by decide) (by decide)).not_mem h.sorter), (((ho.keep (p7.tag (n2 194 (by decide) (by decide)))).keep (((Touch.refl [] w').alloc (.cells #[.pointer (some ⟨x.r, 0, none⟩)] 194)).tag0 _)).rest n (by omega)), p1, p2, d', M', p3, p4, p5, p6, p7⟩
  have hmf : ∀ (fn : Fn) (first cap : Array Value) (w : World), (Instr.makeFunc fn first cap).run Tryz.prog w = .ok (.func fn first cap) w := fun _ _ _ _ => rfl
  have HAL : Hid (((pre.take n).map RI.recs).flatten = all) := hal
  have HAB : Hid (∀ x ∈ pre, ∀ y ∈ x.recs, Able ks y.row) := hable
  have HS : Hid (∀ x ∈ pre, Srt ks x.recs) := hs
  have HHH : Hid (SM w ps s ks bm cols d M pre none pre) := HH
  have HRV : Hid (s.rv = .slice (some ⟨g, of, none⟩) pre.length cap) := hrv
  clear hal h HH hable hs hl hcur hp2 hp4 hrv cf
  go_enter_defers Tryz.func182, Tryz.ntmps182
  go_wp2_with (first | (go_at_call 112; refine HNEW.out.mono ?_; rintro e w2 ⟨x, rfl, y13, hO2, HX⟩) | (at_builtin; refine wpList_off rfl (.tmp 28) (.tmp 30) rfl g (of + n) (pre.length - n) (cap - n) (pre.drop n) rfl hO2 ⟨w2.heap.size, 0, none⟩ x 1 rfl (by simp [RI.ptr]) (by simp; omega) ?_; intro g' o' cap' w4 q1 q2 q3 q4; have HZ := HX.out; obtain ⟨hx1, hx2, d', M', hR2, hl2, hla2, hM2, t2⟩ := HZ; have HL := mf_laid HHH.out HRV.out (by omega) hR2 t2 q1 q2 q3; obtain ⟨z1, HL2⟩ := HL; obtain ⟨_, _, _, v3, _, _, _, _, _, _, _, _, _, v13, _, _, vf⟩ := z1.cell; have f13 := vf 13; have HQ : Hid (g' = g ∨ (w2.alloc (.cells #[.pointer (some ⟨x.r, 0, none⟩)] 194)).heap.size ≤ g') := q4; clear q1 q2 q3 q4 vf z1 hO2 y13) | (go_at_call 171; obtain ⟨z2, z3, z4, z5, z6, z7⟩ := HL2; refine (newMerge_any _ ps { s with rv := .slice (some ⟨g', o', none⟩) (pre.length - n + 1) cap' } ks s.bx bm s.blk cols d' M' pre (some x) (.slice (some ⟨g, of, none⟩) n n) (pre.take n) z2 z3 z4 z6 (fun y hy => HAB.out y (List.mem_of_mem_take hy)) (fun y hy => List.mem_of_mem_take hy) (by simp; omega) hc1 (by have := hl2.last; omega) (fun y hy => HS.out y (List.mem_of_mem_take hy))).mono ?_; rintro e w6 ⟨rfl, hG⟩; obtain ⟨ph, bf, hI⟩ := mf_start (s := { s with rv := .slice (some ⟨g', o', none⟩) (pre.length - n + 1) cap' }) (w0 := w) (F := smF ps s bm M pre) (rest := pre.drop n) (m := m) (j := j) (la := d.last + 1) hG z4 z2 z3 z5 z6 hx2 (by rw [HAL.out]; exact hl2) hla2 (by simp; omega) (z7.u.mono (mf_front HRV.out)) (smF_bx ps s bm M pre) (fun i hi => .inl (smF_disk ps s bm pre hM2 hi)) (.inr hx1); rw [HAL.out] at hI; obtain ⟨_, _, _, u3, _⟩ := hI.sorter.cell; clear hG z2 z3 z4 z5 z6 hl2 v3 v13 f13 hR2 t2))
  have HGG : Hid (s.rv.ownBlock = some g' ∨ w.heap.size ≤ g') := by
    rcases HQ.out with e | e
    · exact .inl (by rw [HRV.out, e]; rfl)
    · obtain ⟨_, _, _, _, _, _, _, _, tt⟩ := HX.out
      have := tt.size
      rw [World.size_alloc] at e
      exact .inr (by omega)
  have HRD : Hid (pre = pre.take n ++ pre.drop n) := (List.take_append_drop n pre).symm
  have hsz : (w4.setCell ⟨ps, 13, none⟩ (.slice (some ⟨g', o', none⟩) (pre.length - n + 1) cap')).heap.size = w4.heap.size := by simp
  rw [hsz] at hI
  have HLO : Hid (w.heap.size ≤ w4.heap.size) := by have := z7.size; rw [hsz] at this; exact this
  clear hsz
  clear z7 hx2 hla2 hM2
  go_loopw [42] (fun i wr => ∃ k : Nat, k ≤ all.length ∧ i = .int .i64 k ∧ MfInv w (smF ps s bm M pre) w4.heap.size ps { s with rv := .slice (some ⟨g', o', none⟩) (pre.length - n + 1) cap' } ks bm cols (w4.heap.size + 2) ph bf pre (pre.take n) (.slice (some ⟨g, of, none⟩) n n) (pre.drop n) x.r m j (d.last + 1) all k wr) (fun i _ => all.length - (intOf i).toNat)
  case atStart => exact ⟨0, by omega, rfl, hI⟩
  case round =>
    clear hI u3
    obtain ⟨k, hk, rfl, hI⟩ := hrel
    have HB : Hid (s.bx ∈ smF ps s bm M pre ∧ bm ∈ smF ps s bm M pre) := ⟨smF_bx ps s bm M pre, smF_bm ps s bm M pre⟩
    by_cases hlt : k < all.length
    · have hst := mf_next hI (fun y hy => List.mem_of_mem_take hy) hc1 hall HLO.out HB.out.1 hlt
      have hkc : (k : Int) < (s.count : Int) := by omega
      have hks : k ≤ 900000 := by omega
      go_wp2_with (first | (go_at_call 172; refine hst.mono ?_; rintro e w7 ⟨no, ao, an, acap, rfl, hst2⟩) | (go_at_call 113; refine (hst2 _ ((Touch.refl [] _).alloc _)).mono ?_; rintro e w8 ⟨rfl, hI8⟩))
      go_roundw
      case rel => exact ⟨k + 1, by omega, by go_num, hI8⟩
      case measure => simp [intOf]; omega
    · have hke : k = all.length := by omega
      by_cases hkc : (k : Int) < (s.count : Int)
      · have hst := mf_over hI hke
        have HKE : Hid (k = all.length) := hke
        clear hke
        go_wp2_with (first | (go_at_call 172; refine hst.mono ?_; rintro e w7 ⟨rfl, hI7⟩; have hst2 := mf_end (hI7.quiet ((Touch.refl [] _).alloc (.cells #[.int .i64 0, .slice none 0 0] 205))) HKE.out HRD.out HB.out.1 HB.out.2) | (go_at_call 114; refine hst2.mono ?_; rintro e w8 ⟨rfl, hD8⟩))
        refine leaves_cons (f := 166) (args := #[.slice (some ⟨g, of, none⟩) n n]) (by simp) (by simp [go_sem]) ?_
        refine hD8.mono ?_
        rintro e u' w9 ⟨rfl, rfl, hD9⟩
        exact ⟨_, results_none rfl _ _ _, rfl, g', o', cap', x.r, hD9, HGG.out, hx1⟩
      · have hst2 := mf_end hI hke HRD.out HB.out.1 HB.out.2
        have HKE : Hid (k = all.length) := hke
        clear hke
        go_wp2_with (go_at_call 114; refine hst2.mono ?_; rintro e w8 ⟨rfl, hD8⟩)
        refine leaves_cons (f := 166) (args := #[.slice (some ⟨g, of, none⟩) n n]) (by simp) (by simp [go_sem]) ?_
        refine hD8.mono ?_
        rintro e u' w9 ⟨rfl, rfl, hD9⟩
        exact ⟨_, results_none rfl _ _ _, rfl, g', o', cap', x.r, hD9, HGG.out, hx1⟩
end Go.Proofs.YtjoinhljdbljaaaGreat
