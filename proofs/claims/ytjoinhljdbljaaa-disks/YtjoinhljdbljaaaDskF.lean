/- The walk of the given disk's Append. -/
import Derived.Test.YtjoinhljdbljaaaDskE
namespace Go.Proofs.Ytjoinhljdbljaaa
open Go.RowKit
open Go.ChangeMaps (setBlock)

theorem info9 : (Try.prog.info? 9).map (fun i => (i.zero, i.size, i.bytes)) = some (some (.string ⟨#[]⟩), 1, 16) := by kernel_rfl

theorem step_srow {ops : Array Oper} {o : Oper} {a : Act} {w : World} {K : Act → World → Prop} {Q : Exit → Act → World → Prop} {E : Prop} (hgd : o.guard = none) (s x : Operand)
    (ho : o.op = .call { callee := .builtin .append, args := #[s, x], argTypes := #[129, 129] }) (v : Value) (bs : List ByteArray) (hs : a.eval s = v) (hown : SRow w v bs)
    (ad : Addr) (t : ByteArray) (c : Nat) (hx : a.eval x = .slice (some ad) 1 c) (hnews : ∀ j u, [Value.string t][j]? = some u → w.cell? (ad.add j) = some u) (hlen : bs.length ≤ 3000000000000)
    (h : ∀ g cap w', SRow w' (.slice (some ⟨g, 0, none⟩) (bs.length + 1) cap) (bs ++ [t]) → w.grownBy w' v.ownBlock → (v.ownBlock = some g ∨ g = w.heap.size) → g < w'.heap.size → K (a.put o.dst (.slice (some ⟨g, 0, none⟩) (bs.length + 1) cap)) w') :
    if Region.wanted o (yielded ops a.tmps) = true then Oper.wp Try.prog o a w K Q else E := by
  obtain ⟨i0, hi, hz0, hz1, hz2⟩ := info_parts info9
  refine step_append_lies w hgd s x 129 ho 0 9 i0 (.string ⟨#[]⟩) 1 16 Try.underlying129 hi hz0 hz1 hz2 rfl (by decide) v _ _ hs hown ad 1 c [.string t] hx (by simp) hnews ?_ (by decide) ?_ ?_ (Nat.zero_le _) _ rfl ?_
  · intro u hu
    simp only [List.mem_cons, List.not_mem_nil, or_false] at hu
    subst hu
    rfl
  · unfold maxLen; omega
  · omega
  · intro g cap w' h1 h2 h3 h4
    refine h g cap w' ?_ h2 h3 h4
    unfold SRow
    rw [List.length_append, List.map_append]
    exact h1

theorem rows_set : ∀ (M : List PF) (i : Nat) (m m' : PF) (g : Nat), M[i]? = some m → m'.2.1.ownBlock = some g → (rowsOf M).Nodup → (m.2.1.ownBlock = some g ∨ g ∉ rowsOf M) →
    (rowsOf (M.set i m')).Nodup ∧ ∀ k ∈ rowsOf (M.set i m'), k ∈ rowsOf M ∨ k = g
  | [], _, _, _, _, h, _, _, _ => by simp at h
  | a :: M, 0, m, m', g, h, hg, hn, ho => by
    simp only [List.getElem?_cons_zero, Option.some.injEq] at h
    subst h
    simp only [rowsOf, List.set_cons_zero, List.flatMap_cons, hg, Option.toList_some, List.singleton_append, List.nodup_cons, List.mem_append, List.mem_cons] at *
    have hn2 : (List.flatMap (fun m : PF => m.2.1.ownBlock.toList) M).Nodup := (List.nodup_append.1 hn).2.1
    refine ⟨⟨?_, hn2⟩, fun k hk => ?_⟩
    · rcases ho with ho | ho
      · rw [ho] at hn
        simp only [Option.toList_some, List.singleton_append, List.nodup_cons] at hn
        exact hn.1
      · exact fun e => ho (Or.inr e)
    · rcases hk with rfl | hk
      · exact Or.inr rfl
      · exact Or.inl (Or.inr hk)
  | a :: M, i + 1, m, m', g, h, hg, hn, ho => by
    have hn' := hn
    simp only [rowsOf, List.flatMap_cons] at hn'
    have hn2 := (List.nodup_append.1 hn')
    have ih := rows_set M i m m' g (by simpa using h) hg hn2.2.1 (by
      rcases ho with ho | ho
      · exact Or.inl ho
      · refine Or.inr (fun e => ho ?_)
        simp only [rowsOf, List.flatMap_cons, List.mem_append]
        exact Or.inr e)
    have hmg : ∀ k ∈ a.2.1.ownBlock.toList, k ≠ g := by
      intro k hk e
      subst e
      rcases ho with ho | ho
      · have : k ∈ rowsOf M := mem_rows (List.mem_of_getElem? (show M[i]? = some m by simpa using h)) ho
        exact hn2.2.2 k hk k this rfl
      · exact ho (by simp only [rowsOf, List.flatMap_cons, List.mem_append]; exact Or.inl hk)
    simp only [List.set_cons_succ]
    constructor
    · simp only [rowsOf, List.flatMap_cons]
      refine List.nodup_append.2 ⟨hn2.1, ih.1, fun x hx y hy e => ?_⟩
      subst e
      rcases ih.2 x hy with h1 | h1
      · exact hn2.2.2 x hx x h1 rfl
      · exact hmg x hx h1
    · intro k hk
      simp only [rowsOf, List.flatMap_cons, List.mem_append] at hk ⊢
      rcases hk with hk | hk
      · exact Or.inl (Or.inl hk)
      · rcases ih.2 k hk with h1 | h1
        · exact Or.inl (Or.inr h1)
        · exact Or.inr h1

theorem used_set : ∀ (l : List FL) (i : Nat) (f : FL) (k : Int) (t : ByteArray), l[i]? = some f → usedOf (l.set i (k, f.2 ++ [t])) = usedOf l + 1
  | [], _, _, _, _, h => by simp at h
  | a :: l, 0, f, k, t, h => by
    simp only [List.getElem?_cons_zero, Option.some.injEq] at h
    subst h
    simp [usedOf]; omega
  | a :: l, i + 1, f, k, t, h => by
    have := used_set l i f k t (by simpa using h)
    simp only [usedOf, List.set_cons_succ, List.map_cons, List.sum_cons] at *
    omega

theorem rows_apart : ∀ (M : List PF) (i j : Nat) (m m' : PF), M[i]? = some m → M[j]? = some m' → i ≠ j → ∀ k, m.2.1.ownBlock = some k → m'.2.1.ownBlock = some k → (rowsOf M).Nodup → False
  | [], _, _, _, _, h, _, _, _, _, _, _ => by simp at h
  | a :: M, 0, 0, _, _, _, _, h, _, _, _, _ => absurd rfl h
  | a :: M, 0, j + 1, m, m', h1, h2, _, k, k1, k2, hn => by
    simp only [List.getElem?_cons_zero, Option.some.injEq] at h1
    subst h1
    simp only [rowsOf, List.flatMap_cons] at hn
    exact (List.nodup_append.1 hn).2.2 k (by simp [k1]) k (mem_rows (List.mem_of_getElem? (show M[j]? = some m' by simpa using h2)) k2) rfl
  | a :: M, i + 1, 0, m, m', h1, h2, _, k, k1, k2, hn => by
    simp only [List.getElem?_cons_zero, Option.some.injEq] at h2
    subst h2
    simp only [rowsOf, List.flatMap_cons] at hn
    exact (List.nodup_append.1 hn).2.2 k (by simp [k2]) k (mem_rows (List.mem_of_getElem? (show M[i]? = some m by simpa using h1)) k1) rfl
  | a :: M, i + 1, j + 1, m, m', h1, h2, hne, k, k1, k2, hn => by
    simp only [rowsOf, List.flatMap_cons] at hn
    exact rows_apart M i j m m' (by simpa using h1) (by simpa using h2) (by omega) k k1 k2 (List.nodup_append.1 hn).2.1

theorem PD.extend {W w4 F : World} {bx bm : Nat} {d1 d2 : DS} {M : List PF} {i : Nat} {file : Int} {v newv : Value} {bs : List ByteArray} {t : ByteArray} {g : Nat} (h : PD W bx bm d1 M) (hm : M[i]? = some (file, v, bs))
    (hT4 : Touch v.ownBlock.toList W w4) (hS : SRow w4 newv (bs ++ [t])) (hg : newv.ownBlock = some g) (hat : v.ownBlock = some g ∨ W.heap.size ≤ g) (hTF : Touch [bx, bm] w4 F)
    (hd : F.heap[bx]? = some (.cells (DC d2 bm) 69 (0, 0))) (hmap : ∃ es clock, F.heap[bm]? = some (.map es clock) ∧ Ents es (entsOf (M.set i (file, newv, bs ++ [t])))) (hf : d2.files = d1.files.set i (file, bs ++ [t])) :
    PD F bx bm d2 (M.set i (file, newv, bs ++ [t])) ∧ (∀ k ∈ rowsOf (M.set i (file, newv, bs ++ [t])), k ∈ rowsOf M ∨ W.heap.size ≤ k) ∧ Touch (bx :: bm :: rowsOf M) W F := by
  have hn := h.nodup
  have hlt := h.lt
  simp only [List.nodup_cons, List.mem_cons, not_or] at hn
  have hmem : (file, v, bs) ∈ M := List.mem_of_getElem? hm
  have hgn : v.ownBlock = some g ∨ g ∉ rowsOf M := by
    rcases hat with e | e
    · exact Or.inl e
    · refine Or.inr (fun e2 => ?_)
      have := hlt g (by simp [e2])
      omega
  obtain ⟨r1, r2⟩ := rows_set M i _ (file, newv, bs ++ [t]) g hm hg hn.2.2 hgn
  have hgx : g ≠ bx ∧ g ≠ bm := by
    rcases hat with e | e
    · have := mem_rows hmem e
      exact ⟨fun e2 => hn.1.2 (e2 ▸ this), fun e2 => hn.2.1 (e2 ▸ this)⟩
    · have q1 := hlt bx (by simp)
      have q2 := hlt bm (by simp)
      omega
  have hvF : ∀ k ∈ v.ownBlock.toList, k ∈ bx :: bm :: rowsOf M := fun k hk => by simp [mem_rows hmem (show (file, v, bs).2.1.ownBlock = some k by simpa using hk)]
  refine ⟨⟨hd, hmap, by rw [hf, h.files]; unfold filesOf; rw [List.map_set], fun m hmm => ?_, ?_⟩, fun k hk => ?_, ?_⟩
  · by_cases e : m = (file, newv, bs ++ [t])
    · subst e
      refine hS.touch hTF (fun k hk => ?_)
      have hk' : newv.ownBlock = some k := hk
      rw [hg] at hk'
      cases hk'
      simp [hgx.1, hgx.2]
    · obtain ⟨j, hj, hjm⟩ := List.getElem_of_mem hmm
      rw [List.getElem_set] at hjm
      split at hjm
      · exact absurd hjm.symm e
      · rename_i hij
        have hjl : j < M.length := by simpa using hj
        have hmM : m ∈ M := hjm ▸ List.getElem_mem hjl
        have hown : ∀ k, m.2.1.ownBlock = some k → k ∉ v.ownBlock.toList := by
          intro k hk e2
          have e3 : v.ownBlock = some k := by simpa using e2
          exact rows_apart M i j (file, v, bs) m hm (by rw [← hjm]; simp [hjl]) hij k e3 hk hn.2.2
        refine ((h.rows m hmM).touch hT4 hown).touch hTF (fun k hk => ?_)
        have := mem_rows hmM hk
        simp only [List.mem_cons, List.not_mem_nil, or_false, not_or]
        exact ⟨fun e2 => hn.1.2 (e2 ▸ this), fun e2 => hn.2.1 (e2 ▸ this)⟩
  · simp only [List.nodup_cons, List.mem_cons, not_or]
    refine ⟨⟨hn.1.1, fun e => ?_⟩, fun e => ?_, r1⟩
    · rcases r2 _ e with q | q
      · exact hn.1.2 q
      · exact hgx.1 q.symm
    · rcases r2 _ e with q | q
      · exact hn.2.1 q
      · exact hgx.2 q.symm
  · rcases r2 k hk with q | q
    · exact Or.inl q
    · subst q
      rcases hat with e | e
      · exact Or.inl (mem_rows hmem e)
      · exact Or.inr e
  · exact (hT4.mono hvF).trans (hTF.mono (by intro k hk; simp only [List.mem_cons, List.not_mem_nil, or_false] at hk; rcases hk with rfl | rfl <;> simp))

theorem after_append {w2 W w4 : World} {bx bm : Nat} {d : DS} {M : List PF} {num : Int} {v : Value} {bs : List ByteArray} (h : PD w2 bx bm d M) (hm : (num, v, bs) ∈ M) {es : Array MapEntry} {clock : Nat} (hb : w2.heap[bm]? = some (.map es clock))
    (hW : Touch [] w2 W) (hG : W.grownBy w4 v.ownBlock) : w4.heap[bm]? = some (.map es clock) ∧ w4.heap[bx]? = some (.cells (DC d bm) 69 (0, 0)) ∧ Touch v.ownBlock.toList w2 w4 := by
  have hn := h.nodup
  simp only [List.nodup_cons, List.mem_cons, not_or] at hn
  have q1 := h.lt bx (by simp)
  have q2 := h.lt bm (by simp)
  have hv : ∀ k, v.ownBlock = some k → k ≠ bx ∧ k ≠ bm := fun k hk => by
    have := mem_rows hm hk
    exact ⟨fun e => hn.1.2 (e ▸ this), fun e => hn.2.1 (e ▸ this)⟩
  have hk : ∀ k, k < w2.heap.size → some k ≠ v.ownBlock → w4.heap[k]? = w2.heap[k]? := fun k hk hne => by
    rw [hG.block k (Nat.lt_of_lt_of_le hk hW.size) hne]
    exact hW.block k hk (by simp)
  refine ⟨?_, ?_, ⟨hG.os.trans hW.os, hG.tape.trans hW.tape, hG.output.trans hW.output, Nat.le_trans hW.size hG.size, fun k hk1 hk2 => hk k hk1 (fun e => hk2 (by rw [← e]; simp))⟩⟩
  · rw [hk bm q2 (fun e => (hv bm e.symm).2 rfl)]; exact hb
  · rw [hk bx q1 (fun e => (hv bx e.symm).1 rfl)]; exact h.disk

/-- the last steps of an append: the map's entry, two counts -/
theorem append_end {w2 w4 : World} {bx bm : Nat} {d : DS} {M : List PF} {i : Nat} {num : Int} {v : Value} {bs : List ByteArray} {t : ByteArray} {g cp : Nat} {es : Array MapEntry} {clock : Nat} (h : PD w2 bx bm d M) (hm : M[i]? = some (num, v, bs))
    (he : Ents es (entsOf M)) (hS : SRow w4 (.slice (some ⟨g, 0, none⟩) (bs.length + 1) cp) (bs ++ [t])) (hT4 : Touch v.ownBlock.toList w2 w4) (hat : v.ownBlock = some g ∨ w2.heap.size ≤ g)
    (hd5 : (setBlock w4 bm (.map (es.modify i fun e => { e with key := .int .i64 num, val := .slice (some ⟨g, 0, none⟩) (bs.length + 1) cp }) clock)).heap[bx]? = some (.cells (DC d bm) 69 (0, 0)))
    (hue : usedOf (d.files.set i (num, bs ++ [t])) = usedOf d.files + 1) :
    PD (((setBlock w4 bm (.map (es.modify i fun e => { e with key := .int .i64 num, val := .slice (some ⟨g, 0, none⟩) (bs.length + 1) cp }) clock)).setCell ⟨bx, 4, none⟩ (.int .i64 ((usedOf d.files : Int) + 1))).setCell ⟨bx, 5, none⟩ (.int .i64 (d.wrote + 1))) bx bm
      { d with wrote := d.wrote + 1, files := d.files.set i (num, bs ++ [t]) } (M.set i (num, .slice (some ⟨g, 0, none⟩) (bs.length + 1) cp, bs ++ [t])) ∧
    (∀ k ∈ rowsOf (M.set i (num, .slice (some ⟨g, 0, none⟩) (bs.length + 1) cp, bs ++ [t])), k ∈ rowsOf M ∨ w2.heap.size ≤ k) ∧
    Touch (bx :: bm :: rowsOf M) w2 (((setBlock w4 bm (.map (es.modify i fun e => { e with key := .int .i64 num, val := .slice (some ⟨g, 0, none⟩) (bs.length + 1) cp }) clock)).setCell ⟨bx, 4, none⟩ (.int .i64 ((usedOf d.files : Int) + 1))).setCell ⟨bx, 5, none⟩ (.int .i64 (d.wrote + 1))) := by
  have hn := h.nodup
  simp only [List.nodup_cons, List.mem_cons, not_or] at hn
  refine PD.extend (g := g) h hm hT4 hS rfl hat ((((Touch.refl _ _).setBlock (by simp) _).setCell (by simp) _).setCell (by simp) _) ?_ ?_ rfl
  · rw [heap_setCell_same _ _ _ _ _ _ (heap_setCell_same _ _ _ _ _ _ hd5)]
    simp only [DC, hue]
    rfl
  · refine ⟨es.modify i fun e => { e with key := .int .i64 num, val := .slice (some ⟨g, 0, none⟩) (bs.length + 1) cp }, clock, ?_, ?_⟩
    · rw [Below.heap_setCell _ _ _ _ (fun e => hn.1.1 e.symm), Below.heap_setCell _ _ _ _ (fun e => hn.1.1 e.symm)]
      exact heap_setBlock _ _ _ (by have := h.lt bm (by simp); have := hT4.size; omega)
    · unfold entsOf
      rw [List.map_set]
      exact he.set i num _

def appendS (d : DS) (file : Int) (text : ByteArray) : Int × DS :=
  if d.f1 = 1 then (6, { d with f1 := dec d.f1, f3 := dec d.f3 }) else
  match posOf d.files file with
  | none => (8, { d with f1 := dec d.f1, f3 := dec d.f3 })
  | some (i, bs) =>
    if d.block < (text.size : Int) then (8, { d with f1 := dec d.f1, f3 := dec d.f3 })
    else if (usedOf d.files : Int) = d.blocks then (5, { d with f1 := dec d.f1, f3 := dec d.f3 })
    else (0, { d with f1 := dec d.f1, f3 := dec d.f3, wrote := d.wrote + 1, files := d.files.set i (file, bs ++ [if d.f3 = 1 then turnS text d.bit else text]) })

set_option maxRecDepth 20000 in
set_option maxHeartbeats 2000000 in
theorem pappend (w : World) (bx bm : Nat) (d : DS) (M : List PF) (file : Int) (text : ByteArray) (h : PD w bx bm d M) (hu : Nums d.files) (h0 : 0 ≤ d.f1) (h1 : d.f1 ≤ 9223372036854775807) (h2 : 0 ≤ d.f3) (h3 : d.f3 ≤ 9223372036854775807)
    (hused : usedOf d.files ≤ 3000000000000) (hw0 : 0 ≤ d.wrote) (hw1 : d.wrote ≤ 3000000000000) (ht : text.size ≤ 140737488355328) :
    Calls Try.prog 27 #[.pointer (some ⟨bx, 0, none⟩), .int .i64 file, .string text] w fun e w' => e = .returned (.int .i64 (appendS d file text).1) ∧
      (∃ M', PD w' bx bm (appendS d file text).2 M' ∧ ∀ k ∈ rowsOf M', k ∈ rowsOf M ∨ w.heap.size ≤ k) ∧ Touch (bx :: bm :: rowsOf M) w w' := by
  have HC1 : Hid (Calls Try.prog 58 #[.pointer (some ⟨bx, 0, none⟩), .int .i64 1] w fun e w' => e = .returned (.bool (d.f1 == 1)) ∧ PD w' bx bm { d with f1 := dec d.f1 } M ∧ Touch [bx] w w') :=
    (comes1 w bx bm d h.disk h0 h1).mono fun e w' ⟨a, b, c⟩ => ⟨a, h.turn b c rfl, c⟩
  have HC3 : Hid (∀ w1, PD w1 bx bm { d with f1 := dec d.f1 } M → Calls Try.prog 58 #[.pointer (some ⟨bx, 0, none⟩), .int .i64 3] w1 fun e w' => e = .returned (.bool (d.f3 == 1)) ∧ PD w' bx bm { d with f1 := dec d.f1, f3 := dec d.f3 } M ∧ Touch [bx] w1 w') :=
    fun w1 hp => (comes3 w1 bx bm _ hp.disk h2 h3).mono fun e w' ⟨a, b, c⟩ => ⟨a, hp.turn b c rfl, c⟩
  have hfil := h.files
  have hu' := hu
  rw [hfil] at hu'
  have HU : Hid (Uniq (entsOf M)) := uniq_of hu'
  have hsub : ∀ k ∈ [bx], k ∈ bx :: bm :: rowsOf M := by simp
  have HSUB : Hid _ := hsub
  clear h hu hu' hsub
  -- the two calls come first on every way
  rcases pos_cases M file with ⟨hp, hno⟩ | ⟨i, m, hm, rfl, hp⟩
  · have HNO : Hid (∀ p ∈ entsOf M, p.1 ≠ file) := by
      intro p hp
      unfold entsOf at hp
      obtain ⟨m, hm, rfl⟩ := List.mem_map.1 hp
      exact hno m hm
    have E : Hid (appendS d file text = (if d.f1 = 1 then 6 else 8, { d with f1 := dec d.f1, f3 := dec d.f3 })) := by
      show appendS d file text = _
      unfold appendS
      rw [hfil, hp]
      split <;> rfl
    generalize appendS d file text = r at *
    clear hfil hno hp
    by_cases hf : d.f1 = 1
    · have hfb : (d.f1 == 1) = true := by simp [hf]
      rw [if_pos hf] at E
      rw [hfb] at HC1
      clear hf
      go_enter Try.func27, Try.ntmps27
      go_wp2_with fail
      refine HC1.out.mono ?_
      rintro e w1 ⟨rfl, hP1, hT1⟩
      go_wp2_with fail
      refine (HC3.out w1 hP1).mono ?_
      rintro e w2 ⟨rfl, hP2, hT2⟩
      obtain ⟨es, clock, hb, he⟩ := hP2.map
      have hrun := run_look_none hb he file HNO.out true
      simp only [if_true] at hrun
      obtain ⟨_, _, _, c3, _⟩ := DCells hP2.disk
      clear hb he
      go_wp2
      go_ret
      exact ⟨by rw [E.out]; rfl, ⟨M, by rw [E.out]; exact hP2, fun k hk => Or.inl hk⟩, (hT1.trans hT2).mono HSUB.out⟩
    · have hfb : (d.f1 == 1) = false := by simp [hf]
      rw [if_neg hf] at E
      rw [hfb] at HC1
      clear hf
      go_enter Try.func27, Try.ntmps27
      go_wp2_with fail
      refine HC1.out.mono ?_
      rintro e w1 ⟨rfl, hP1, hT1⟩
      go_wp2_with fail
      refine (HC3.out w1 hP1).mono ?_
      rintro e w2 ⟨rfl, hP2, hT2⟩
      obtain ⟨es, clock, hb, he⟩ := hP2.map
      have hrun := run_look_none hb he file HNO.out true
      simp only [if_true] at hrun
      obtain ⟨c0, _, _, c3, _⟩ := DCells hP2.disk
      clear hb he
      go_wp2
      go_ret
      exact ⟨by rw [E.out]; rfl, ⟨M, by rw [E.out]; exact hP2, fun k hk => Or.inl hk⟩, (hT1.trans hT2).mono HSUB.out⟩
  · have HENT : Hid ((entsOf M)[i]? = some (m.1, m.2.1)) := by show _ = _; unfold entsOf; rw [List.getElem?_map, hm]; rfl
    have hue := fun (k : Int) (t : ByteArray) => used_set d.files i (m.1, m.2.2) k t (by rw [hfil]; unfold filesOf; rw [List.getElem?_map, hm]; rfl)
    obtain ⟨num, v, bs⟩ := m
    simp only at hp HENT hue
    have HUE : Hid _ := hue
    have HM : Hid (M[i]? = some (num, v, bs)) := hm
    have HMEM : Hid ((num, v, bs) ∈ M) := List.mem_of_getElem? hm
    have HBL : Hid (bs.length ≤ 3000000000000) := by
      have := used_erase d.files i (num, bs) (by rw [hfil]; unfold filesOf; rw [List.getElem?_map, hm]; rfl)
      simp only at this
      show bs.length ≤ _
      omega
    have E0 : appendS d num text = if d.f1 = 1 then (6, { d with f1 := dec d.f1, f3 := dec d.f3 }) else
        if d.block < (text.size : Int) then (8, { d with f1 := dec d.f1, f3 := dec d.f3 })
        else if (usedOf d.files : Int) = d.blocks then (5, { d with f1 := dec d.f1, f3 := dec d.f3 })
        else (0, { d with f1 := dec d.f1, f3 := dec d.f3, wrote := d.wrote + 1, files := d.files.set i (num, bs ++ [if d.f3 = 1 then turnS text d.bit else text]) }) := by
      unfold appendS
      rw [hfil, hp]
    generalize appendS d num text = r at *
    clear hfil hp hm hue
    by_cases hf : d.f1 = 1
    · have hfb : (d.f1 == 1) = true := by simp [hf]
      have E : Hid (r = (6, { d with f1 := dec d.f1, f3 := dec d.f3 })) := by show r = _; rw [E0, if_pos hf]
      rw [hfb] at HC1
      clear hf E0
      go_enter Try.func27, Try.ntmps27
      go_wp2_with fail
      refine HC1.out.mono ?_
      rintro e w1 ⟨rfl, hP1, hT1⟩
      go_wp2_with fail
      refine (HC3.out w1 hP1).mono ?_
      rintro e w2 ⟨rfl, hP2, hT2⟩
      obtain ⟨es, clock, hb, he⟩ := hP2.map
      have hrun := run_look_some hb he HU.out i (num, v) HENT.out true
      simp only [if_true] at hrun
      obtain ⟨c0, c1, _, c3, c4, _⟩ := DCells hP2.disk
      clear hb he
      go_wp2
      go_ret
      exact ⟨by rw [E.out]; rfl, ⟨M, by rw [E.out]; exact hP2, fun k hk => Or.inl hk⟩, (hT1.trans hT2).mono HSUB.out⟩
    · have hfb : (d.f1 == 1) = false := by simp [hf]
      rw [if_neg hf] at E0
      rw [hfb] at HC1
      clear hf
      by_cases hbl : d.block < (text.size : Int)
      · have E : Hid (r = (8, { d with f1 := dec d.f1, f3 := dec d.f3 })) := by show r = _; rw [E0, if_pos hbl]
        clear E0
        go_enter Try.func27, Try.ntmps27
        go_wp2_with fail
        refine HC1.out.mono ?_
        rintro e w1 ⟨rfl, hP1, hT1⟩
        go_wp2_with fail
        refine (HC3.out w1 hP1).mono ?_
        rintro e w2 ⟨rfl, hP2, hT2⟩
        obtain ⟨es, clock, hb, he⟩ := hP2.map
        have hrun := run_look_some hb he HU.out i (num, v) HENT.out true
        simp only [if_true] at hrun
        obtain ⟨c0, c1, _, c3, c4, _⟩ := DCells hP2.disk
        clear hb he
        go_wp2
        go_ret
        exact ⟨by rw [E.out]; rfl, ⟨M, by rw [E.out]; exact hP2, fun k hk => Or.inl hk⟩, (hT1.trans hT2).mono HSUB.out⟩
      · rw [if_neg hbl] at E0
        by_cases hfull : (usedOf d.files : Int) = d.blocks
        · have E : Hid (r = (5, { d with f1 := dec d.f1, f3 := dec d.f3 })) := by show r = _; rw [E0, if_pos hfull]
          have hfl : ((usedOf d.files : Int) == d.blocks) = true := by simp [hfull]
          clear E0 hfull
          go_enter Try.func27, Try.ntmps27
          go_wp2_with fail
          refine HC1.out.mono ?_
          rintro e w1 ⟨rfl, hP1, hT1⟩
          go_wp2_with fail
          refine (HC3.out w1 hP1).mono ?_
          rintro e w2 ⟨rfl, hP2, hT2⟩
          obtain ⟨es, clock, hb, he⟩ := hP2.map
          have hrun := run_look_some hb he HU.out i (num, v) HENT.out true
          simp only [if_true] at hrun
          obtain ⟨c0, c1, _, c3, c4, _⟩ := DCells hP2.disk
          clear hb he
          go_wp2
          go_region
          all_goals
            go_wp2
            go_ret
            exact ⟨by rw [E.out]; rfl, ⟨M, by rw [E.out]; exact hP2.away (F := []) ((Touch.refl _ _).drew) (by simp), fun k hk => Or.inl hk⟩, ((hT1.trans hT2).mono HSUB.out).drew⟩
        · have hfl : ((usedOf d.files : Int) == d.blocks) = false := by simp [hfull]
          rw [if_neg hfull] at E0
          clear hfull
          by_cases h3 : d.f3 = 1
          · have h3b : (d.f3 == 1) = true := by simp [h3]
            rw [if_pos h3] at E0
            rw [h3b] at HC3
            have E : Hid _ := E0
            clear h3 E0
            go_enter Try.func27, Try.ntmps27
            go_wp2_with fail
            refine HC1.out.mono ?_
            rintro e w1 ⟨rfl, hP1, hT1⟩
            go_wp2_with fail
            refine (HC3.out w1 hP1).mono ?_
            rintro e w2 ⟨rfl, hP2, hT2⟩
            obtain ⟨es, clock, hb, he⟩ := hP2.map
            have hrun := run_look_some hb he HU.out i (num, v) HENT.out true
            simp only [if_true] at hrun
            obtain ⟨c0, c1, _, c3, c4, _, _, _, _, c10, _⟩ := DCells hP2.disk
            have hbxlt : bx < w2.heap.size := hP2.lt bx (by simp)
            have HB : Hid (w2.heap[bm]? = some (.map es clock)) := hb
            have HE : Hid (Ents es (entsOf M)) := he
            have HNE : Hid (bx ≠ bm) := by have := hP2.nodup; simp only [List.nodup_cons, List.mem_cons, not_or] at this; exact this.1.1
            clear hb he
            go_wp2
            go_region
            all_goals go_wp2_with fail
            refine (turned_any text d.bit _ ht).mono ?_
            rintro e w3 ⟨rfl, hT3⟩
            have hT3' : Touch [] w2 w3 := ((Touch.refl [] w2).drew).trans hT3
            have hP3 : PD w3 bx bm { d with f1 := dec d.f1, f3 := dec d.f3 } M := hP2.away hT3' (by simp)
            have hbx3 : bx < w3.heap.size := hP3.lt bx (by simp)
            have HB3 : Hid (w3.heap[bm]? = some (.map es clock)) := by
              show w3.heap[bm]? = _
              rw [hT3'.block bm (hP2.lt bm (by simp)) (by simp)]; exact HB.out
            obtain ⟨_, _, _, c33, _⟩ := DCells hP3.disk
            clear HB
            generalize turnS text d.bit = tx at *
            go_wp2
            go_region_law (refine step_srow rfl (.tmp 60) (.tmp 62) rfl v bs (by simp [Act.eval]) (by exact World.ownsRow.alloc (hP3.rows (num, v, bs) HMEM.out) _) ⟨w3.heap.size, 0, none⟩ tx 1 (by simp [Act.eval]) (by exact cell_one_new w3 _ _) HBL.out ?_; intro g cp w4 hS4 hG4 hat4 hlt4; have hTW := ((Touch.refl [] w3).alloc (.cells #[.string tx] 9)).drew; obtain ⟨hb4, hd4, hT4⟩ := after_append hP3 HMEM.out HB3.out hTW hG4; have hat5 : v.ownBlock = some g ∨ w3.heap.size ≤ g := hat4.imp id (fun e => by rw [e]; exact hTW.size); have hup := run_update_some hb4 HE.out HU.out i (num, v) HENT.out (.slice (some ⟨g, 0, none⟩) (bs.length + 1) cp); have hd5 := (heap_setBlock_ne w4 bm bx (.map (es.modify i fun e => { e with key := .int .i64 num, val := .slice (some ⟨g, 0, none⟩) (bs.length + 1) cp }) clock) HNE.out).trans hd4; have HD5 : Hid _ := hd5; obtain ⟨_, _, _, c34, _⟩ := DCells hd4; obtain ⟨_, _, _, _, c45, c55, _, _, _, _, fz5⟩ := DCells hd5; have ff4 := fz5 4; have ff5 := fz5 5; clear hb4 hd4 hd5 fz5 hat4 hTW)
            all_goals
              go_wp2
              go_ret
              have hx := append_end hP3 HM.out HE.out hS4 hT4 hat5 HD5.out (HUE.out num (tx))
              refine ⟨by rw [E.out]; rfl, ⟨_, by rw [E.out]; exact hx.1, fun k hk => (hx.2.1 k hk).imp id (fun q => Nat.le_trans ((hT1.trans hT2).trans (hT3'.mono (by simp))).size q)⟩, (((hT1.trans hT2).trans (hT3'.mono (by simp))).mono HSUB.out).trans ?_⟩
              exact hx.2.2
          · have h3b : (d.f3 == 1) = false := by simp [h3]
            rw [if_neg h3] at E0
            rw [h3b] at HC3
            have E : Hid _ := E0
            clear h3 E0
            go_enter Try.func27, Try.ntmps27
            go_wp2_with fail
            refine HC1.out.mono ?_
            rintro e w1 ⟨rfl, hP1, hT1⟩
            go_wp2_with fail
            refine (HC3.out w1 hP1).mono ?_
            rintro e w2 ⟨rfl, hP2, hT2⟩
            obtain ⟨es, clock, hb, he⟩ := hP2.map
            have hrun := run_look_some hb he HU.out i (num, v) HENT.out true
            simp only [if_true] at hrun
            obtain ⟨c0, c1, _, c3, c4, _⟩ := DCells hP2.disk
            have hbxlt : bx < w2.heap.size := hP2.lt bx (by simp)
            have HB : Hid (w2.heap[bm]? = some (.map es clock)) := hb
            have HE : Hid (Ents es (entsOf M)) := he
            have HNE : Hid (bx ≠ bm) := by have := hP2.nodup; simp only [List.nodup_cons, List.mem_cons, not_or] at this; exact this.1.1
            clear hb he
            go_wp2
            go_region
            all_goals go_wp2
            go_region_law (refine step_srow rfl (.tmp 60) (.tmp 62) rfl v bs (by simp [Act.eval]) (by exact World.ownsRow.alloc (hP2.rows (num, v, bs) HMEM.out) _) ⟨w2.heap.size, 0, none⟩ text 1 (by simp [Act.eval]) (by exact cell_one_new w2 _ _) HBL.out ?_; intro g cp w4 hS4 hG4 hat4 hlt4; have hTW := (((Touch.refl [] w2).alloc (.cells #[.string text] 9)).drew).drew; obtain ⟨hb4, hd4, hT4⟩ := after_append hP2 HMEM.out HB.out hTW hG4; have hat5 : v.ownBlock = some g ∨ w2.heap.size ≤ g := hat4.imp id (fun e => by rw [e]; exact hTW.size); have hup := run_update_some hb4 HE.out HU.out i (num, v) HENT.out (.slice (some ⟨g, 0, none⟩) (bs.length + 1) cp); have hd5 := (heap_setBlock_ne w4 bm bx (.map (es.modify i fun e => { e with key := .int .i64 num, val := .slice (some ⟨g, 0, none⟩) (bs.length + 1) cp }) clock) HNE.out).trans hd4; have HD5 : Hid _ := hd5; obtain ⟨_, _, _, c34, _⟩ := DCells hd4; obtain ⟨_, _, _, _, c45, c55, _, _, _, _, fz5⟩ := DCells hd5; have ff4 := fz5 4; have ff5 := fz5 5; clear hb4 hd4 hd5 fz5 hat4 hTW)
            all_goals
              go_wp2
              go_ret
              have hx := append_end hP2 HM.out HE.out hS4 hT4 hat5 HD5.out (HUE.out num (text))
              refine ⟨by rw [E.out]; rfl, ⟨_, by rw [E.out]; exact hx.1, fun k hk => (hx.2.1 k hk).imp id (fun q => Nat.le_trans (hT1.trans hT2).size q)⟩, ((hT1.trans hT2).mono HSUB.out).trans ?_⟩
              exact hx.2.2
end Go.Proofs.Ytjoinhljdbljaaa
