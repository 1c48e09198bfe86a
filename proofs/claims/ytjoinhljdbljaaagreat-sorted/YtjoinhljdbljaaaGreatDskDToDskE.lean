/- The walks of the given disk's New, Create and Delete. One bit of a text turned: the walk of turned. -/
import Derived.Test.YtjoinhljdbljaaaGreatDskAToDskC
namespace Go.Proofs.YtjoinhljdbljaaaGreat
open Go.RowKit
open Go.ChangeMaps (setBlock)

def createS (d : DS) : DS := { d with last := d.last + 1, files := d.files ++ [(d.last + 1, [])] }

theorem used_snoc (l : List FL) (k : Int) : usedOf (l ++ [(k, [])]) = usedOf l := by simp [usedOf]

theorem heap_setBlock (w : World) (b : Nat) (o : Obj) (hb : b < w.heap.size) : (setBlock w b o).heap[b]? = some o := by
  simp [setBlock, hb]
theorem heap_setBlock_ne (w : World) (b k : Nat) (o : Obj) (h : k ≠ b) : (setBlock w b o).heap[k]? = w.heap[k]? := by
  simp only [setBlock]
  rw [Array.getElem?_setIfInBounds, if_neg (fun e => h e.symm)]

theorem PD.put_new {w w' : World} {bx bm : Nat} {d d' : DS} {M : List PF} {k : Int} (h : PD w bx bm d M) (hd : w'.heap[bx]? = some (.cells (DC d' bm) 117 (0, 0))) (ht : Touch [bx, bm] w w')
    (hm : ∃ es clock, w'.heap[bm]? = some (.map es clock) ∧ Ents es (entsOf (M ++ [(k, .slice none 0 0, [])]))) (hf : d'.files = d.files ++ [(k, [])]) : PD w' bx bm d' (M ++ [(k, .slice none 0 0, [])]) := by
  have hn := h.nodup
  have hr : rowsOf (M ++ [(k, .slice none 0 0, [])]) = rowsOf M := by simp [rowsOf, Value.ownBlock]
  refine ⟨hd, hm, by rw [hf, h.files]; simp [filesOf], fun m hm => ?_, by rw [hr]; exact hn⟩
  rcases List.mem_append.1 hm with hm | hm
  · refine (h.rows m hm).touch ht (fun j hj => ?_)
    simp only [List.nodup_cons, List.mem_cons, not_or] at hn
    have := mem_rows hm hj
    simp only [List.mem_cons, List.not_mem_nil, or_false, not_or]
    exact ⟨fun e => hn.1.2 (e ▸ this), fun e => hn.2.1 (e ▸ this)⟩
  · simp only [List.mem_cons, List.not_mem_nil, or_false] at hm
    subst hm
    exact World.ownsRow_nil _ _ _ _

set_option maxHeartbeats 1000000 in
theorem pcreate (w : World) (bx bm : Nat) (d : DS) (M : List PF) (h : PD w bx bm d M) (h0 : 0 ≤ d.last) (h1 : d.last ≤ 1000000000) (hnew : ∀ f ∈ d.files, f.1 ≤ d.last) :
    Calls Tryz.prog 154 #[.pointer (some ⟨bx, 0, none⟩)] w fun e w' => e = .returned (.int .i64 (d.last + 1)) ∧ PD w' bx bm (createS d) (M ++ [(d.last + 1, .slice none 0 0, [])]) ∧ Touch [bx, bm] w w' := by
  obtain ⟨_, _, c2, c3, _, _, _, _, _, _, fz⟩ := DCells h.disk
  have ff := fz 2
  obtain ⟨es, clock, hb, he⟩ := h.map
  have hn := h.nodup
  simp only [List.nodup_cons, List.mem_cons, not_or] at hn
  have hne : bm ≠ bx := fun e => hn.1.1 e.symm
  have hb1 : (w.setCell ⟨bx, 2, none⟩ (.int .i64 (d.last + 1))).drew.heap[bm]? = some (.map es clock) := by
    show (w.setCell ⟨bx, 2, none⟩ (.int .i64 (d.last + 1))).heap[bm]? = _
    rw [Below.heap_setCell _ _ _ _ hne]; exact hb
  have hup := run_update_none hb1 he (d.last + 1) (.slice none 0 0) (by
    intro p hp
    unfold entsOf at hp
    obtain ⟨m, hm, rfl⟩ := List.mem_map.1 hp
    have := hnew (m.1, m.2.2) (by rw [h.files]; unfold filesOf; exact List.mem_map.2 ⟨m, hm, rfl⟩)
    simp only at this ⊢
    omega)
  have hfin : (setBlock (w.setCell ⟨bx, 2, none⟩ (.int .i64 (d.last + 1))).drew bm (.map (es.push ⟨.int .i64 (d.last + 1), .slice none 0 0, clock⟩) (clock + 1))).heap[bx]? = some (.cells (DC (createS d) bm) 117 (0, 0)) := by
    rw [heap_setBlock_ne _ _ _ _ (fun e => hne e.symm)]
    show (w.setCell ⟨bx, 2, none⟩ (.int .i64 (d.last + 1))).heap[bx]? = _
    rw [heap_setCell_same _ _ _ _ _ _ h.disk]
    simp only [DC, createS, used_snoc]
    rfl
  have hc2 := (DCells hfin).2.2.1
  have HFIN : Hid _ := hfin
  have HP : Hid (PD w bx bm d M) := h
  have HE : Hid (Ents es (entsOf M)) := he
  have HB : Hid (w.heap[bm]? = some (.map es clock)) := hb
  have HH : Hid ((setBlock (w.setCell ⟨bx, 2, none⟩ (.int .i64 (d.last + 1))).drew bm (.map (es.push ⟨.int .i64 (d.last + 1), .slice none 0 0, clock⟩) (clock + 1))).heap[bm]? = some (.map (es.push ⟨.int .i64 (d.last + 1), .slice none 0 0, clock⟩) (clock + 1))) :=
    heap_setBlock _ _ _ (by have := h.lt bm (by simp); simpa using this)
  have HTT : Hid (Touch [bx, bm] w (setBlock (w.setCell ⟨bx, 2, none⟩ (.int .i64 (d.last + 1))).drew bm (.map (es.push ⟨.int .i64 (d.last + 1), .slice none 0 0, clock⟩) (clock + 1)))) :=
    ((((Touch.refl _ _).setCell (by simp) _).drew).setBlock (by simp) _)
  have hcr : (createS d).last = d.last + 1 := rfl
  rw [hcr] at hc2
  clear h fz hb he hb1 hn hnew hfin hcr
  go_enter Tryz.func154, Tryz.ntmps154
  go_wp2
  go_region
  all_goals
    go_wp2
    go_ret
    refine ⟨rfl, ?_, HTT.out⟩
    exact HP.out.put_new HFIN.out HTT.out ⟨_, _, HH.out, by simpa [entsOf] using HE.out.push _ _ _⟩ rfl

def deleteS (d : DS) (file : Int) : Int × DS :=
  match posOf d.files file with
  | none => (8, d)
  | some (i, _) => (0, { d with files := d.files.eraseIdx i })

theorem used_erase : ∀ (l : List FL) (i : Nat) (f : FL), l[i]? = some f → usedOf l = usedOf (l.eraseIdx i) + f.2.length
  | [], _, _, h => by simp at h
  | a :: l, 0, f, h => by
    simp only [List.getElem?_cons_zero, Option.some.injEq] at h
    subst h
    simp [usedOf]; omega
  | a :: l, i + 1, f, h => by
    have := used_erase l i f (by simpa using h)
    simp only [usedOf, List.eraseIdx_cons_succ, List.map_cons, List.sum_cons] at *
    omega

theorem mem_erase {M : List PF} {i : Nat} {m : PF} (h : m ∈ M.eraseIdx i) : m ∈ M := List.mem_of_mem_eraseIdx h

theorem rows_erase : ∀ (M : List PF) (i : Nat), List.Sublist (rowsOf (M.eraseIdx i)) (rowsOf M)
  | [], _ => List.Sublist.refl _
  | m :: M, 0 => by simp only [List.eraseIdx_cons_zero, rowsOf, List.flatMap_cons]; exact List.sublist_append_right _ _
  | m :: M, i + 1 => by
    have := rows_erase M i
    simp only [List.eraseIdx_cons_succ, rowsOf, List.flatMap_cons] at *
    exact List.Sublist.append (List.Sublist.refl _) this

theorem PD.strike {w w' : World} {bx bm : Nat} {d d' : DS} {M : List PF} {i : Nat} (h : PD w bx bm d M) (hd : w'.heap[bx]? = some (.cells (DC d' bm) 117 (0, 0))) (ht : Touch [bx, bm] w w')
    (hm : ∃ es clock, w'.heap[bm]? = some (.map es clock) ∧ Ents es (entsOf (M.eraseIdx i))) (hf : d'.files = d.files.eraseIdx i) : PD w' bx bm d' (M.eraseIdx i) := by
  have hn := h.nodup
  refine ⟨hd, hm, by rw [hf, h.files]; unfold filesOf; rw [map_erase], fun m hm => ?_, ?_⟩
  · refine (h.rows m (mem_erase hm)).touch ht (fun j hj => ?_)
    simp only [List.nodup_cons, List.mem_cons, not_or] at hn
    have := mem_rows (mem_erase hm) hj
    simp only [List.mem_cons, List.not_mem_nil, or_false, not_or]
    exact ⟨fun e => hn.1.2 (e ▸ this), fun e => hn.2.1 (e ▸ this)⟩
  · exact List.Sublist.nodup (((rows_erase M i).cons_cons bm).cons_cons bx) hn

set_option maxRecDepth 20000 in
set_option maxHeartbeats 1000000 in
theorem pdelete (w : World) (bx bm : Nat) (d : DS) (M : List PF) (file : Int) (h : PD w bx bm d M) (hu : Nums d.files) (hused : usedOf d.files ≤ 1000000000) :
    Calls Tryz.prog 128 #[.pointer (some ⟨bx, 0, none⟩), .int .i64 file] w fun e w' => e = .returned (.int .i64 (deleteS d file).1) ∧ (∃ M', PD w' bx bm (deleteS d file).2 M' ∧ List.Sublist (rowsOf M') (rowsOf M)) ∧ Touch [bx, bm] w w' := by
  obtain ⟨_, _, _, c3, c4, _, _, _, _, _, fz⟩ := DCells h.disk
  have ff := fz 4
  obtain ⟨es, clock, hb, he⟩ := h.map
  have hfil := h.files
  have hn := h.nodup
  simp only [List.nodup_cons, List.mem_cons, not_or] at hn
  have hne : bm ≠ bx := fun e => hn.1.1 e.symm
  have hu' := hu
  rw [hfil] at hu'
  have HP : Hid (PD w bx bm d M) := h
  rcases pos_cases M file with ⟨hp, hno⟩ | ⟨i, m, hm, rfl, hp⟩
  · have hrun := run_look_none hb he file (by intro p hp; unfold entsOf at hp; obtain ⟨m, hm, rfl⟩ := List.mem_map.1 hp; exact hno m hm) true
    simp only [if_true] at hrun
    have E : Hid (deleteS d file = (8, d)) := by
      show deleteS d file = _
      unfold deleteS
      rw [hfil, hp]
    generalize deleteS d file = r at *
    clear hfil hu hu' hno hp h hb he hn hne fz
    go_enter Tryz.func128, Tryz.ntmps128
    go_wp2
    go_ret
    exact ⟨by rw [E.out]; rfl, ⟨M, by rw [E.out]; exact HP.out, List.Sublist.refl _⟩, Touch.refl _ _⟩
  · have hent : (entsOf M)[i]? = some (m.1, m.2.1) := by unfold entsOf; rw [List.getElem?_map, hm]; rfl
    have hrun := run_look_some hb he (uniq_of hu') i (m.1, m.2.1) hent true
    simp only [if_true] at hrun
    have hrow := h.rows m (List.mem_of_getElem? hm)
    have hue := used_erase d.files i (m.1, m.2.2) (by rw [hfil]; unfold filesOf; rw [List.getElem?_map, hm]; rfl)
    obtain ⟨num, v, bs⟩ := m
    simp only at hp hrun hrow hue hent
    obtain ⟨ao, cap, rfl, _⟩ := hrow.shape
    have E : Hid (deleteS d num = (0, { d with files := d.files.eraseIdx i })) := by
      show deleteS d num = _
      unfold deleteS
      rw [hfil, hp]
    generalize deleteS d num = r at *
    have hb1 : (w.setCell ⟨bx, 4, none⟩ (.int .i64 ((usedOf d.files : Int) - (bs.length : Int)))).heap[bm]? = some (.map es clock) := by
      rw [Below.heap_setCell _ _ _ _ hne]; exact hb
    have hdel := fun ty => run_delete_some hb1 he (uniq_of hu') i (num, .slice ao bs.length cap) hent ty
    have hd1 : (setBlock (w.setCell ⟨bx, 4, none⟩ (.int .i64 ((usedOf d.files : Int) - (bs.length : Int)))) bm (.map (es.eraseIdxIfInBounds i) clock)).heap[bx]? = some (.cells (DC { d with files := d.files.eraseIdx i } bm) 117 (0, 0)) := by
      rw [heap_setBlock_ne _ _ _ _ (fun e => hne e.symm), heap_setCell_same _ _ _ _ _ _ h.disk]
      have : ((usedOf d.files : Int) - (bs.length : Int)) = (usedOf (d.files.eraseIdx i) : Int) := by omega
      rw [this]
      rfl
    have HT : Hid (Touch [bx, bm] w (setBlock (w.setCell ⟨bx, 4, none⟩ (.int .i64 ((usedOf d.files : Int) - (bs.length : Int)))) bm (.map (es.eraseIdxIfInBounds i) clock))) :=
      ((Touch.refl _ _).setCell (by simp) _).setBlock (by simp) _
    have HPD : Hid (PD (setBlock (w.setCell ⟨bx, 4, none⟩ (.int .i64 ((usedOf d.files : Int) - (bs.length : Int)))) bm (.map (es.eraseIdxIfInBounds i) clock)) bx bm { d with files := d.files.eraseIdx i } (M.eraseIdx i)) :=
      h.strike hd1 HT.out ⟨_, _, heap_setBlock _ _ _ (by have := h.lt bm (by simp); simpa using this), by unfold entsOf; rw [map_erase]; exact he.erase i⟩ rfl
    have HS : Hid (List.Sublist (rowsOf (M.eraseIdx i)) (rowsOf M)) := rows_erase M i
    have hle : (bs.length : Int) ≤ (usedOf d.files : Int) := by omega
    have hle2 : (usedOf d.files : Int) ≤ 1000000000 := by omega
    clear hfil hu hu' hp h hb he hn hne fz hm hent hrow hue hb1 hd1 hused
    go_enter Tryz.func128, Tryz.ntmps128
    go_wp2
    go_ret
    exact ⟨by rw [E.out]; rfl, ⟨M.eraseIdx i, by rw [E.out]; exact HPD.out, HS.out⟩, HT.out⟩

def newS (b n : Int) : DS := { block := max b 1, blocks := max n 0, last := 0, wrote := 0, files := [], f1 := 0, f2 := 0, f3 := 0, bit := 0 }

theorem PD.fresh (w' : World) (bx bm : Nat) (d : DS) (hx : w'.heap[bx]? = some (.cells (DC d bm) 117 (0, 0))) (hm : w'.heap[bm]? = some (.map #[] 0)) (hf : d.files = []) (hne : bx ≠ bm) : PD w' bx bm d [] :=
  ⟨hx, ⟨_, _, hm, rfl⟩, hf, fun _ h => by simp at h, by simp [rowsOf, hne]⟩

set_option maxHeartbeats 1000000 in
theorem pnew (b n : Int) (w : World) : Calls Tryz.prog 15 #[.int .i64 b, .int .i64 n] w fun e w' => e = .returned (.pointer (some ⟨w.heap.size + 1, 0, none⟩)) ∧ PD w' (w.heap.size + 1) w.heap.size (newS b n) [] ∧ Touch [] w w' := by
  have hmm := @run_makeMap Tryz.prog
  have HF : Hid (∀ d : DS, d.files = [] → PD ((w.alloc (.map #[] 0)).alloc (.cells (DC d w.heap.size) 117)) (w.heap.size + 1) w.heap.size d []) := fun d hf => by
    refine PD.fresh _ _ _ d ?_ ?_ hf (by omega)
    · have := heap_alloc_new (w.alloc (.map #[] 0)) (.cells (DC d w.heap.size) 117)
      simpa using this
    · rw [Below.heap_alloc _ _ _ (by simp)]
      exact heap_alloc_new w _
  have H2 : Hid (∀ a c, max b 1 = a → max n 0 = c → newS b n = { block := a, blocks := c, last := 0, wrote := 0, files := [], f1 := 0, f2 := 0, f3 := 0, bit := 0 }) := fun a c h1 h2 => by unfold newS; rw [h1, h2]
  go_enter Tryz.func15, Tryz.ntmps15
  go_wp2
  all_goals go_ret
  all_goals refine ⟨rfl, ?_, ((Touch.refl _ _).alloc _).alloc _⟩
  all_goals
    first
      | (rw [H2.out 1 0 (by omega) (by omega)]; exact HF.out ⟨1, 0, 0, 0, [], 0, 0, 0, 0⟩ rfl)
      | (rw [H2.out 1 n (by omega) (by omega)]; exact HF.out ⟨1, n, 0, 0, [], 0, 0, 0, 0⟩ rfl)
      | (rw [H2.out b 0 (by omega) (by omega)]; exact HF.out ⟨b, 0, 0, 0, [], 0, 0, 0, 0⟩ rfl)
      | (rw [H2.out b n (by omega) (by omega)]; exact HF.out ⟨b, n, 0, 0, [], 0, 0, 0, 0⟩ rfl)
end Go.Proofs.YtjoinhljdbljaaaGreat

namespace Go.Proofs.YtjoinhljdbljaaaGreat
open Go.RowKit

theorem tmod_two (a n : Int) (hn : 0 < n) : a.tmod n = a % n ∨ a.tmod n = a % n - n := by
  rw [Int.tmod_eq_emod]
  split
  · left; omega
  · right; omega

theorem bit_eq (bit n : Int) (hn : 0 < n) (hn2 : n ≤ 8388608) : (wrap64 (bit.tmod n + n)).tmod n = bit % n := by
  have h0 := Int.emod_nonneg bit (show n ≠ 0 by omega)
  have h1 := Int.emod_lt_of_pos bit hn
  rcases tmod_two bit n hn with h | h
  · rw [h, IntWalk.wrap64_in _ (by omega), Int.tmod_eq_emod_of_nonneg (by omega), Int.add_emod_right, Int.emod_emod_of_dvd _ (Int.dvd_refl _)]
  · rw [h, IntWalk.wrap64_in _ (by omega), Int.tmod_eq_emod_of_nonneg (by omega), Int.sub_add_cancel, Int.emod_emod_of_dvd _ (Int.dvd_refl _)]

theorem row_string (W : World) (g : Nat) (l : List UInt8) (cap : Nat) (cur : Array Value) (f : Nat × Nat) (hh : W.heap[g]? = some (.cells cur 5 f)) (hx : ∀ i (h : i < l.length), cur[i]? = some (c8 l[i])) :
    (convert 172 9 (.slice (some ⟨g, 0, none⟩) l.length cap)).run Tryz.prog W = .ok (.string ⟨l.toArray⟩) W := by
  rw [run_convert_bytes_string W 172 9 5 _ _ _ Tryz.underlying172 Tryz.underlying5 Tryz.underlying9]
  have hl : (loadCells (⟨g, 0, none⟩ : Addr) l.length).run Tryz.prog W = .ok ((l.map fun b => (b.toNat : Int)).map (Value.int .u8)).toArray W := by
    have := run_loadCells_list (P := Tryz.prog) (w := W) ⟨g, 0, none⟩ (l.map c8) (fun j u hu => by
      obtain ⟨hj, rfl⟩ := List.getElem?_eq_some_iff.1 hu
      simp only [List.length_map] at hj
      have hadd : (⟨g, 0, none⟩ : Addr).add j = ⟨g, j, none⟩ := by unfold Addr.add; split <;> simp_all
      rw [hadd]
      simp [World.cell?, hh, hx j hj])
    simp only [List.length_map] at this
    rw [List.map_map]
    exact this
  rw [run_bytesToString W ⟨g, 0, none⟩ l.length cap _ hl, foldl_push]
  congr 2
  congr 1
  show #[] ++ l.toArray = l.toArray
  simp

def fb (x : UInt8) (k : Nat) : UInt8 := UInt8.ofNat (x.toNat ^^^ 2 ^ k % 256)
theorem fb_eq (x : UInt8) (k : Nat) (_hk : k < 8) : Value.int .u8 (bits .xor .u8 (x.toNat : Int) (2 ^ k % 256)) = c8 (fb x k) := by
  have h2 : ((2 : Int) ^ k % 256) = ((2 ^ k % 256 : Nat) : Int) := by simp
  have hx : x.toNat ^^^ 2 ^ k % 256 < 2 ^ 8 := Nat.xor_lt_two_pow x.toNat_lt (Nat.mod_lt _ (by decide))
  rw [h2, u8_xor_nat _ _ x.toNat_lt (Nat.mod_lt _ (by decide)), c8, fb, UInt8.toNat_ofNat', Nat.mod_eq_of_lt hx]

def flipS (s : ByteArray) (b : Nat) : ByteArray := ⟨(s.data.toList.set (b / 8) (fb (s.data.toList.getD (b / 8) 0) (b % 8))).toArray⟩
def turnS (s : ByteArray) (bit : Int) : ByteArray := if s.size = 0 then s else flipS s (bit % (8 * (s.size : Int))).toNat

theorem heap_set_new (w : World) (c : Array Value) (t : TypeId) (f : Nat × Nat) (i : Nat) (v : Value) : ((w.alloc (.cells c t f)).setCell ⟨w.heap.size, i, none⟩ v).heap[w.heap.size]? = some (.cells (c.setIfInBounds i v) t f) := by
  have := heap_alloc_new w (.cells c t f)
  simp only [World.setCell, Array.getElem?_modify, if_true, this, Option.map_some]
  simp

theorem flipped (s : ByteArray) (b C : Nat) (hb : b / 8 < s.size) (x : UInt8) (hx : x = s[b / 8]) : ∀ i (h : i < (s.data.toList.set (b / 8) (fb (s.data.toList.getD (b / 8) 0) (b % 8))).length), ((bytesRow s C).setIfInBounds (b / 8) (c8 (fb x (b % 8))))[i]? = some (c8 (s.data.toList.set (b / 8) (fb (s.data.toList.getD (b / 8) 0) (b % 8)))[i]) := by
  intro i hi
  have hsz : s.data.size = s.size := rfl
  simp only [List.length_set, Array.length_toList] at hi
  have hrow := bytesRow_at s C i hi
  have hlen : i < (bytesRow s C).size := (Array.getElem?_eq_some_iff.1 hrow).1
  rw [Array.getElem?_setIfInBounds]
  by_cases e : b / 8 = i
  · subst e
    rw [if_pos rfl, if_pos hlen]
    have : s.data.toList.getD (b / 8) 0 = x := by
      rw [hx]
      simp only [List.getD, Array.getElem?_toList]
      rw [Array.getElem?_eq_getElem (by omega)]
      rfl
    rw [List.getElem_set_self, this]
  · rw [if_neg e, hrow]
    simp [e, c8]

set_option maxRecDepth 20000 in
set_option maxHeartbeats 1000000 in
theorem turned_any (s : ByteArray) (bit : Int) (w : World) (hs : s.size ≤ 1048576) :
    Calls Tryz.prog 213 #[.string s, .int .i64 bit] w fun e w' => e = .returned (.string (turnS s bit)) ∧ Touch [] w w' := by
  by_cases h1 : s.size = 0
  · have hs0 : s = ⟨#[]⟩ := by
      have h : s.data.size = 0 := h1
      have : s.data = #[] := Array.eq_empty_of_size_eq_zero h
      cases s
      simp only at this
      rw [this]
    subst hs0
    have E : Hid (turnS ⟨#[]⟩ bit = ⟨#[]⟩) := rfl
    go_enter Tryz.func213, Tryz.ntmps213
    go_wp2
    go_ret
    exact ⟨by rw [E.out]; rfl, Touch.refl _ _⟩
  · have he2 : ¬ s.toList = [] := by
      rw [ByteArray.toList_eq]
      intro e
      apply h1
      have := congrArg List.length e
      simpa using this
    have he : s.toList.isEmpty = false := by simp [he2]
    have hcv := run_bytes_of_string (P := Tryz.prog) w 9 172 5 s Tryz.underlying9 Tryz.underlying172 Tryz.underlying5
    have HBIT := bit_eq bit (8 * (s.size : Int)) (by omega) (by omega)
    have hb0 := Int.emod_nonneg bit (show 8 * (s.size : Int) ≠ 0 by omega)
    have hb3 := Int.emod_lt_of_pos bit (show 0 < 8 * (s.size : Int) by omega)
    have E0 : turnS s bit = flipS s (bit % (8 * (s.size : Int))).toNat := by unfold turnS; rw [if_neg h1]
    obtain ⟨b, hb⟩ : ∃ b : Nat, bit % (8 * (s.size : Int)) = (b : Int) := ⟨(bit % (8 * (s.size : Int))).toNat, by omega⟩
    rw [hb] at HBIT E0 hb3
    rw [Int.toNat_natCast] at E0
    have hblt : b < 8 * s.size := by omega
    have hb8 : b / 8 < s.size := by omega
    generalize grownCap w s.size 0 5 = C at *
    generalize turnS s bit = r at *
    have E : Hid (r = flipS s b) := E0
    have HB : Hid ((wrap64 (bit.tmod (8 * (s.size : Int)) + 8 * (s.size : Int))).tmod (8 * (s.size : Int)) = (b : Int)) := HBIT
    have hrow := bytesRow_at s C (b / 8) (by exact hb8)
    have hcell : (w.alloc (.cells (bytesRow s C) 5 ((bytesRow s C).size, (bytesRow s C).size + 1))).cell? ⟨w.heap.size, b / 8, none⟩ = some (.int .u8 (s[b / 8].toNat : Int)) := by
      simp only [World.cell?, heap_alloc_new]
      simp only [Option.isSome_none, Bool.false_eq_true, if_false, hrow]
      rfl
    have hlen : b / 8 < (bytesRow s C).size := (Array.getElem?_eq_some_iff.1 hrow).1
    have hfr : (w.alloc (.cells (bytesRow s C) 5 ((bytesRow s C).size, (bytesRow s C).size + 1))).frozen? ⟨w.heap.size, b / 8, none⟩ = false := by
      simp only [World.frozen?, heap_alloc_new]
      simp
      omega
    have hst : (convert 172 9 (.slice (some ⟨w.heap.size, 0, none⟩) s.size C)).run Tryz.prog (((w.alloc (.cells (bytesRow s C) 5 ((bytesRow s C).size, (bytesRow s C).size + 1))).setCell ⟨w.heap.size, b / 8, none⟩ (.int .u8 (bits .xor .u8 (s[b / 8].toNat : Int) (2 ^ (b % 8) % 256)))).drew.drew) =
        .ok (.string (flipS s b)) (((w.alloc (.cells (bytesRow s C) 5 ((bytesRow s C).size, (bytesRow s C).size + 1))).setCell ⟨w.heap.size, b / 8, none⟩ (.int .u8 (bits .xor .u8 (s[b / 8].toNat : Int) (2 ^ (b % 8) % 256)))).drew.drew) := by
      rw [fb_eq _ _ (Nat.mod_lt _ (by decide))]
      have hl : s.size = (s.data.toList.set (b / 8) (fb (s.data.toList.getD (b / 8) 0) (b % 8))).length := by simp
      have := row_string (((w.alloc (.cells (bytesRow s C) 5 ((bytesRow s C).size, (bytesRow s C).size + 1))).setCell ⟨w.heap.size, b / 8, none⟩ (c8 (fb s[b / 8] (b % 8)))).drew.drew) w.heap.size _ C _ _ (heap_set_new w _ _ _ _ _) (flipped s b C hb8 _ rfl)
      rw [← hl] at this
      exact this
    have HST : Hid _ := hst
    clear hb E0 HBIT hb0 hb3 hrow hlen hst
    go_enter Tryz.func213, Tryz.ntmps213
    go_wp2
    rw [HB.out]
    clear HB
    go_region
    all_goals
      have hst := HST.out
      clear hcell hfr hcv
      go_wp2
      go_ret
      refine ⟨by rw [E.out]; rfl, ?_⟩
      refine Touch.drew (Touch.drew ?_)
      refine ⟨rfl, rfl, rfl, by simp, fun k hk _ => ?_⟩
      rw [Below.heap_setCell _ _ _ _ (by simp; omega), Below.heap_alloc _ _ _ hk]
end Go.Proofs.YtjoinhljdbljaaaGreat
