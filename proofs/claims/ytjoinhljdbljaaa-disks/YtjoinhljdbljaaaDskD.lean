/- The walks of the given disk's New, Create and Delete. -/
import Derived.Test.YtjoinhljdbljaaaDskC
namespace Go.Proofs.Ytjoinhljdbljaaa
open Go.RowKit
open Go.ChangeMaps (setBlock)

def createS (d : DS) : DS := { d with last := d.last + 1, files := d.files ++ [(d.last + 1, [])] }

theorem used_snoc (l : List FL) (k : Int) : usedOf (l ++ [(k, [])]) = usedOf l := by simp [usedOf]

theorem heap_setBlock (w : World) (b : Nat) (o : Obj) (hb : b < w.heap.size) : (setBlock w b o).heap[b]? = some o := by
  simp [setBlock, hb]
theorem heap_setBlock_ne (w : World) (b k : Nat) (o : Obj) (h : k ≠ b) : (setBlock w b o).heap[k]? = w.heap[k]? := by
  simp only [setBlock]
  rw [Array.getElem?_setIfInBounds, if_neg (fun e => h e.symm)]

theorem PD.put_new {w w' : World} {bx bm : Nat} {d d' : DS} {M : List PF} {k : Int} (h : PD w bx bm d M) (hd : w'.heap[bx]? = some (.cells (DC d' bm) 69 (0, 0))) (ht : Touch [bx, bm] w w')
    (hm : ∃ es clock, w'.heap[bm]? = some (.map es clock) ∧ Ents es (entsOf (M ++ [(k, .slice none 0 0, [])]))) (hf : d'.files = d.files ++ [(k, [])]) : PD w' bx bm d' (M ++ [(k, .slice none 0 0, [])]) := by
  have hn := h.nodup
  have hr : rowsOf (M ++ [(k, .slice none 0 0, [])]) = rowsOf M := by simp [rowsOf, Value.ownBlock]
  refine ⟨hd, hm, by rw [hf, h.files]; simp [filesOf], fun m hm => ?_, by rw [hr]; exact hn⟩
  rcases List.mem_append.1 hm with hm | hm
  · refine (h.rows m hm).touch ht (fun j hj => ?_)
    simp only [List.nodup_cons, List.mem_cons, not_or] at hn
    have := mem_rows hm hj
    simp only [List.mem_cons, List.not_mem_nil, or_false, not_or]
    exact ⟨fun e => hn.1.2 (e ▸ this), fun e => hn.2.1 (e ▸ this)⟩
  · simp only [List.mem_cons, List.not_mem_nil, or_false] at hm
    subst hm
    exact World.ownsRow_nil _ _ _ _

set_option maxHeartbeats 1000000 in
theorem pcreate (w : World) (bx bm : Nat) (d : DS) (M : List PF) (h : PD w bx bm d M) (h0 : 0 ≤ d.last) (h1 : d.last ≤ 3000000000000) (hnew : ∀ f ∈ d.files, f.1 ≤ d.last) :
    Calls Try.prog 25 #[.pointer (some ⟨bx, 0, none⟩)] w fun e w' => e = .returned (.int .i64 (d.last + 1)) ∧ PD w' bx bm (createS d) (M ++ [(d.last + 1, .slice none 0 0, [])]) ∧ Touch [bx, bm] w w' := by
  obtain ⟨_, _, c2, c3, _, _, _, _, _, _, fz⟩ := DCells h.disk
  have ff := fz 2
  obtain ⟨es, clock, hb, he⟩ := h.map
  have hn := h.nodup
  simp only [List.nodup_cons, List.mem_cons, not_or] at hn
  have hne : bm ≠ bx := fun e => hn.1.1 e.symm
  have hb1 : (w.setCell ⟨bx, 2, none⟩ (.int .i64 (d.last + 1))).drew.heap[bm]? = some (.map es clock) := by
    show (w.setCell ⟨bx, 2, none⟩ (.int .i64 (d.last + 1))).heap[bm]? = _
    rw [Below.heap_setCell _ _ _ _ hne]; exact hb
  have hup := run_update_none hb1 he (d.last + 1) (.slice none 0 0) (by
    intro p hp
    unfold entsOf at hp
    obtain ⟨m, hm, rfl⟩ := List.mem_map.1 hp
    have := hnew (m.1, m.2.2) (by rw [h.files]; unfold filesOf; exact List.mem_map.2 ⟨m, hm, rfl⟩)
    simp only at this ⊢
    omega)
  have hfin : (setBlock (w.setCell ⟨bx, 2, none⟩ (.int .i64 (d.last + 1))).drew bm (.map (es.push ⟨.int .i64 (d.last + 1), .slice none 0 0, clock⟩) (clock + 1))).heap[bx]? = some (.cells (DC (createS d) bm) 69 (0, 0)) := by
    rw [heap_setBlock_ne _ _ _ _ (fun e => hne e.symm)]
    show (w.setCell ⟨bx, 2, none⟩ (.int .i64 (d.last + 1))).heap[bx]? = _
    rw [heap_setCell_same _ _ _ _ _ _ h.disk]
    simp only [DC, createS, used_snoc]
    rfl
  have hc2 := (DCells hfin).2.2.1
  have HFIN : Hid _ := hfin
  have HP : Hid (PD w bx bm d M) := h
  have HE : Hid (Ents es (entsOf M)) := he
  have HB : Hid (w.heap[bm]? = some (.map es clock)) := hb
  have HH : Hid ((setBlock (w.setCell ⟨bx, 2, none⟩ (.int .i64 (d.last + 1))).drew bm (.map (es.push ⟨.int .i64 (d.last + 1), .slice none 0 0, clock⟩) (clock + 1))).heap[bm]? = some (.map (es.push ⟨.int .i64 (d.last + 1), .slice none 0 0, clock⟩) (clock + 1))) :=
    heap_setBlock _ _ _ (by have := h.lt bm (by simp); simpa using this)
  have HTT : Hid (Touch [bx, bm] w (setBlock (w.setCell ⟨bx, 2, none⟩ (.int .i64 (d.last + 1))).drew bm (.map (es.push ⟨.int .i64 (d.last + 1), .slice none 0 0, clock⟩) (clock + 1)))) :=
    ((((Touch.refl _ _).setCell (by simp) _).drew).setBlock (by simp) _)
  have hcr : (createS d).last = d.last + 1 := rfl
  rw [hcr] at hc2
  clear h fz hb he hb1 hn hnew hfin hcr
  go_enter Try.func25, Try.ntmps25
  go_wp2
  go_region
  all_goals
    go_wp2
    go_ret
    refine ⟨rfl, ?_, HTT.out⟩
    exact HP.out.put_new HFIN.out HTT.out ⟨_, _, HH.out, by simpa [entsOf] using HE.out.push _ _ _⟩ rfl

def deleteS (d : DS) (file : Int) : Int × DS :=
  match posOf d.files file with
  | none => (8, d)
  | some (i, _) => (0, { d with files := d.files.eraseIdx i })

theorem used_erase : ∀ (l : List FL) (i : Nat) (f : FL), l[i]? = some f → usedOf l = usedOf (l.eraseIdx i) + f.2.length
  | [], _, _, h => by simp at h
  | a :: l, 0, f, h => by
    simp only [List.getElem?_cons_zero, Option.some.injEq] at h
    subst h
    simp [usedOf]; omega
  | a :: l, i + 1, f, h => by
    have := used_erase l i f (by simpa using h)
    simp only [usedOf, List.eraseIdx_cons_succ, List.map_cons, List.sum_cons] at *
    omega

theorem mem_erase {M : List PF} {i : Nat} {m : PF} (h : m ∈ M.eraseIdx i) : m ∈ M := List.mem_of_mem_eraseIdx h

theorem rows_erase : ∀ (M : List PF) (i : Nat), List.Sublist (rowsOf (M.eraseIdx i)) (rowsOf M)
  | [], _ => List.Sublist.refl _
  | m :: M, 0 => by simp only [List.eraseIdx_cons_zero, rowsOf, List.flatMap_cons]; exact List.sublist_append_right _ _
  | m :: M, i + 1 => by
    have := rows_erase M i
    simp only [List.eraseIdx_cons_succ, rowsOf, List.flatMap_cons] at *
    exact List.Sublist.append (List.Sublist.refl _) this

theorem PD.strike {w w' : World} {bx bm : Nat} {d d' : DS} {M : List PF} {i : Nat} (h : PD w bx bm d M) (hd : w'.heap[bx]? = some (.cells (DC d' bm) 69 (0, 0))) (ht : Touch [bx, bm] w w')
    (hm : ∃ es clock, w'.heap[bm]? = some (.map es clock) ∧ Ents es (entsOf (M.eraseIdx i))) (hf : d'.files = d.files.eraseIdx i) : PD w' bx bm d' (M.eraseIdx i) := by
  have hn := h.nodup
  refine ⟨hd, hm, by rw [hf, h.files]; unfold filesOf; rw [map_erase], fun m hm => ?_, ?_⟩
  · refine (h.rows m (mem_erase hm)).touch ht (fun j hj => ?_)
    simp only [List.nodup_cons, List.mem_cons, not_or] at hn
    have := mem_rows (mem_erase hm) hj
    simp only [List.mem_cons, List.not_mem_nil, or_false, not_or]
    exact ⟨fun e => hn.1.2 (e ▸ this), fun e => hn.2.1 (e ▸ this)⟩
  · exact List.Sublist.nodup (((rows_erase M i).cons_cons bm).cons_cons bx) hn

set_option maxRecDepth 20000 in
set_option maxHeartbeats 1000000 in
theorem pdelete (w : World) (bx bm : Nat) (d : DS) (M : List PF) (file : Int) (h : PD w bx bm d M) (hu : Nums d.files) (hused : usedOf d.files ≤ 3000000000000) :
    Calls Try.prog 31 #[.pointer (some ⟨bx, 0, none⟩), .int .i64 file] w fun e w' => e = .returned (.int .i64 (deleteS d file).1) ∧ (∃ M', PD w' bx bm (deleteS d file).2 M' ∧ List.Sublist (rowsOf M') (rowsOf M)) ∧ Touch [bx, bm] w w' := by
  obtain ⟨_, _, _, c3, c4, _, _, _, _, _, fz⟩ := DCells h.disk
  have ff := fz 4
  obtain ⟨es, clock, hb, he⟩ := h.map
  have hfil := h.files
  have hn := h.nodup
  simp only [List.nodup_cons, List.mem_cons, not_or] at hn
  have hne : bm ≠ bx := fun e => hn.1.1 e.symm
  have hu' := hu
  rw [hfil] at hu'
  have HP : Hid (PD w bx bm d M) := h
  rcases pos_cases M file with ⟨hp, hno⟩ | ⟨i, m, hm, rfl, hp⟩
  · have hrun := run_look_none hb he file (by intro p hp; unfold entsOf at hp; obtain ⟨m, hm, rfl⟩ := List.mem_map.1 hp; exact hno m hm) true
    simp only [if_true] at hrun
    have E : Hid (deleteS d file = (8, d)) := by
      show deleteS d file = _
      unfold deleteS
      rw [hfil, hp]
    generalize deleteS d file = r at *
    clear hfil hu hu' hno hp h hb he hn hne fz
    go_enter Try.func31, Try.ntmps31
    go_wp2
    go_ret
    exact ⟨by rw [E.out]; rfl, ⟨M, by rw [E.out]; exact HP.out, List.Sublist.refl _⟩, Touch.refl _ _⟩
  · have hent : (entsOf M)[i]? = some (m.1, m.2.1) := by unfold entsOf; rw [List.getElem?_map, hm]; rfl
    have hrun := run_look_some hb he (uniq_of hu') i (m.1, m.2.1) hent true
    simp only [if_true] at hrun
    have hrow := h.rows m (List.mem_of_getElem? hm)
    have hue := used_erase d.files i (m.1, m.2.2) (by rw [hfil]; unfold filesOf; rw [List.getElem?_map, hm]; rfl)
    obtain ⟨num, v, bs⟩ := m
    simp only at hp hrun hrow hue hent
    obtain ⟨ao, cap, rfl, _⟩ := hrow.shape
    have E : Hid (deleteS d num = (0, { d with files := d.files.eraseIdx i })) := by
      show deleteS d num = _
      unfold deleteS
      rw [hfil, hp]
    generalize deleteS d num = r at *
    have hb1 : (w.setCell ⟨bx, 4, none⟩ (.int .i64 ((usedOf d.files : Int) - (bs.length : Int)))).heap[bm]? = some (.map es clock) := by
      rw [Below.heap_setCell _ _ _ _ hne]; exact hb
    have hdel := fun ty => run_delete_some hb1 he (uniq_of hu') i (num, .slice ao bs.length cap) hent ty
    have hd1 : (setBlock (w.setCell ⟨bx, 4, none⟩ (.int .i64 ((usedOf d.files : Int) - (bs.length : Int)))) bm (.map (es.eraseIdxIfInBounds i) clock)).heap[bx]? = some (.cells (DC { d with files := d.files.eraseIdx i } bm) 69 (0, 0)) := by
      rw [heap_setBlock_ne _ _ _ _ (fun e => hne e.symm), heap_setCell_same _ _ _ _ _ _ h.disk]
      have : ((usedOf d.files : Int) - (bs.length : Int)) = (usedOf (d.files.eraseIdx i) : Int) := by omega
      rw [this]
      rfl
    have HT : Hid (Touch [bx, bm] w (setBlock (w.setCell ⟨bx, 4, none⟩ (.int .i64 ((usedOf d.files : Int) - (bs.length : Int)))) bm (.map (es.eraseIdxIfInBounds i) clock))) :=
      ((Touch.refl _ _).setCell (by simp) _).setBlock (by simp) _
    have HPD : Hid (PD (setBlock (w.setCell ⟨bx, 4, none⟩ (.int .i64 ((usedOf d.files : Int) - (bs.length : Int)))) bm (.map (es.eraseIdxIfInBounds i) clock)) bx bm { d with files := d.files.eraseIdx i } (M.eraseIdx i)) :=
      h.strike hd1 HT.out ⟨_, _, heap_setBlock _ _ _ (by have := h.lt bm (by simp); simpa using this), by unfold entsOf; rw [map_erase]; exact he.erase i⟩ rfl
    have HS : Hid (List.Sublist (rowsOf (M.eraseIdx i)) (rowsOf M)) := rows_erase M i
    have hle : (bs.length : Int) ≤ (usedOf d.files : Int) := by omega
    have hle2 : (usedOf d.files : Int) ≤ 3000000000000 := by omega
    clear hfil hu hu' hp h hb he hn hne fz hm hent hrow hue hb1 hd1 hused
    go_enter Try.func31, Try.ntmps31
    go_wp2
    go_ret
    exact ⟨by rw [E.out]; rfl, ⟨M.eraseIdx i, by rw [E.out]; exact HPD.out, HS.out⟩, HT.out⟩

def newS (b n : Int) : DS := { block := max b 1, blocks := max n 0, last := 0, wrote := 0, files := [], f1 := 0, f2 := 0, f3 := 0, bit := 0 }

theorem PD.fresh (w' : World) (bx bm : Nat) (d : DS) (hx : w'.heap[bx]? = some (.cells (DC d bm) 69 (0, 0))) (hm : w'.heap[bm]? = some (.map #[] 0)) (hf : d.files = []) (hne : bx ≠ bm) : PD w' bx bm d [] :=
  ⟨hx, ⟨_, _, hm, rfl⟩, hf, fun _ h => by simp at h, by simp [rowsOf, hne]⟩

set_option maxHeartbeats 1000000 in
theorem pnew (b n : Int) (w : World) : Calls Try.prog 6 #[.int .i64 b, .int .i64 n] w fun e w' => e = .returned (.pointer (some ⟨w.heap.size + 1, 0, none⟩)) ∧ PD w' (w.heap.size + 1) w.heap.size (newS b n) [] ∧ Touch [] w w' := by
  have hmm := @run_makeMap Try.prog
  have HF : Hid (∀ d : DS, d.files = [] → PD ((w.alloc (.map #[] 0)).alloc (.cells (DC d w.heap.size) 69)) (w.heap.size + 1) w.heap.size d []) := fun d hf => by
    refine PD.fresh _ _ _ d ?_ ?_ hf (by omega)
    · have := heap_alloc_new (w.alloc (.map #[] 0)) (.cells (DC d w.heap.size) 69)
      simpa using this
    · rw [Below.heap_alloc _ _ _ (by simp)]
      exact heap_alloc_new w _
  have H2 : Hid (∀ a c, max b 1 = a → max n 0 = c → newS b n = { block := a, blocks := c, last := 0, wrote := 0, files := [], f1 := 0, f2 := 0, f3 := 0, bit := 0 }) := fun a c h1 h2 => by unfold newS; rw [h1, h2]
  go_enter Try.func6, Try.ntmps6
  go_wp2
  all_goals go_ret
  all_goals refine ⟨rfl, ?_, ((Touch.refl _ _).alloc _).alloc _⟩
  all_goals
    first
      | (rw [H2.out 1 0 (by omega) (by omega)]; exact HF.out ⟨1, 0, 0, 0, [], 0, 0, 0, 0⟩ rfl)
      | (rw [H2.out 1 n (by omega) (by omega)]; exact HF.out ⟨1, n, 0, 0, [], 0, 0, 0, 0⟩ rfl)
      | (rw [H2.out b 0 (by omega) (by omega)]; exact HF.out ⟨b, 0, 0, 0, [], 0, 0, 0, 0⟩ rfl)
      | (rw [H2.out b n (by omega) (by omega)]; exact HF.out ⟨b, n, 0, 0, [], 0, 0, 0, 0⟩ rfl)
end Go.Proofs.Ytjoinhljdbljaaa
