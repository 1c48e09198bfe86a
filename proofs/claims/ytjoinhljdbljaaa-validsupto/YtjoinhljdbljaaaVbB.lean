/- What is lent: five lists of lists, each with spare room. A list of numbers with marks behind. -/
import Derived.Test.YtjoinhljdbljaaaValN
import Derived.Deep.AppendLies
import Derived.Deep.RegionLaw
namespace Go.Proofs.Ytjoinhljdbljaaa
open Go.RowKit

def fT : Nat → TypeId
  | 0 => 33
  | 1 => 84
  | 2 => 70
  | 3 => 36
  | _ => 100
def SlRow (w : World) (t : TypeId) (v : Value) (xs : List Value) : Prop := w.ownsRow 0 t 1 v xs.length xs
theorem fT_info : ∀ f, (Try.prog.info? (fT f)).map (fun i => (i.zero, i.size, i.bytes)) = some (some (.slice none 0 0), 1, 24)
  | 0 => by kernel_rfl
  | 1 => by kernel_rfl
  | 2 => by kernel_rfl
  | 3 => by kernel_rfl
  | _ + 4 => by
    show (Try.prog.info? 100).map (fun i => (i.zero, i.size, i.bytes)) = _
    kernel_rfl
theorem step_slrow {ops : Array Oper} {o : Oper} {a : Act} {w : World} {K : Act → World → Prop} {Q : Exit → Act → World → Prop} {E : Prop} (hgd : o.guard = none) (s x : Operand) (sT : TypeId) (f : Nat) (hu : Try.prog.underlying sT = some (.slice (fT f)))
    (ho : o.op = .call { callee := .builtin .append, args := #[s, x], argTypes := #[sT, sT] }) (v : Value) (xs : List Value) (hs : a.eval s = v) (hown : SlRow w (fT f) v xs)
    (ad : Addr) (u : Value) (c : Nat) (hx : a.eval x = .slice (some ad) 1 c) (hnews : ∀ j q, [u][j]? = some q → w.cell? (ad.add j) = some q) (h1 : u.oneCell' = true) (hlen : xs.length ≤ 1000000000)
    (h : ∀ g cap w', SlRow w' (fT f) (.slice (some ⟨g, 0, none⟩) (xs.length + 1) cap) (xs ++ [u]) → w.grownBy w' v.ownBlock → (v.ownBlock = some g ∨ g = w.heap.size) → g < w'.heap.size → K (a.put o.dst (.slice (some ⟨g, 0, none⟩) (xs.length + 1) cap)) w') :
    if Region.wanted o (yielded ops a.tmps) = true then Oper.wp Try.prog o a w K Q else E := by
  obtain ⟨i0, hi, hz0, hz1, hz2⟩ := info_parts (fT_info f)
  refine step_append_lies w hgd s x sT ho 0 (fT f) i0 (.slice none 0 0) 1 24 hu hi hz0 hz1 hz2 rfl (by decide) v _ _ hs hown ad 1 c [u] hx (by simp) hnews ?_ (by decide) ?_ ?_ (Nat.zero_le _) _ rfl ?_
  · intro q hq
    simp only [List.mem_cons, List.not_mem_nil, or_false] at hq
    subst hq
    exact h1
  · unfold maxLen; omega
  · omega
  · intro g cap w' h1 h2 h3 h4
    refine h g cap w' ?_ h2 h3 h4
    unfold SlRow
    rw [List.length_append]
    exact h1

def upd {α : Type} (V : Nat → α) (f : Nat) (v : α) : Nat → α := fun g => if g = f then v else V g
def cells5 (V : Nat → Value) : List Value := [V 0, V 1, V 2, V 3, V 4]
theorem cells5_get (V : Nat → Value) (f : Nat) (hf : f < 5) : (cells5 V)[f]? = some (V f) := by
  obtain rfl | rfl | rfl | rfl | rfl : f = 0 ∨ f = 1 ∨ f = 2 ∨ f = 3 ∨ f = 4 := by omega
  all_goals rfl
theorem cells5_upd (V : Nat → Value) (f : Nat) (hf : f < 5) (v : Value) : (cells5 V).set f v = cells5 (upd V f v) := by
  obtain rfl | rfl | rfl | rfl | rfl : f = 0 ∨ f = 1 ∨ f = 2 ∨ f = 3 ∨ f = 4 := by omega
  all_goals rfl
def LF (bx : Nat) (V : Nat → Value) : List Nat := bx :: (List.range 5).flatMap fun f => (V f).ownBlock.toList
theorem LF_mem {bx : Nat} {V : Nat → Value} {k : Nat} : k ∈ LF bx V ↔ k = bx ∨ ∃ f, f < 5 ∧ (V f).ownBlock = some k := by
  simp [LF, List.mem_flatMap]
def Lent (w : World) (bx : Nat) (V : Nat → Value) (X : Nat → List Value) : Prop :=
  PA w bx 90 5 (cells5 V) ∧ (∀ f, f < 5 → SlRow w (fT f) (V f) (X f)) ∧ (∀ f, f < 5 → (V f).ownBlock ≠ some bx) ∧ (∀ f g b, f < 5 → g < 5 → f ≠ g → (V f).ownBlock = some b → (V g).ownBlock ≠ some b)
theorem SlRow.lt {w : World} {t : TypeId} {v : Value} {xs : List Value} (h : SlRow w t v xs) {k : Nat} (hk : v.ownBlock = some k) : k < w.heap.size := (World.ownsRow.lt h k hk).2
theorem SlRow.touch {F : List Nat} {w w' : World} {t : TypeId} {v : Value} {xs : List Value} (h : SlRow w t v xs) (ht : Touch F w w') (hv : ∀ k, v.ownBlock = some k → k ∉ F) : SlRow w' t v xs := by
  obtain ⟨h1, h2⟩ := h
  refine ⟨h1, ?_⟩
  rcases h2 with h2 | ⟨g, cap, cur, rfl, hbg, hg, r⟩
  · exact Or.inl h2
  · refine Or.inr ⟨g, cap, cur, rfl, hbg, ?_, r⟩
    rw [ht.block g (Array.getElem?_eq_some_iff.1 hg).1 (hv g rfl)]
    exact hg
theorem Lent.lt {w : World} {bx : Nat} {V : Nat → Value} {X : Nat → List Value} (h : Lent w bx V X) {k : Nat} (hk : k ∈ LF bx V) : k < w.heap.size := by
  rcases LF_mem.1 hk with rfl | ⟨f, hf, hk⟩
  · exact h.1.lt
  · exact (h.2.1 f hf).lt hk
theorem Lent.b {w w' : World} {bx : Nat} {V : Nat → Value} {X : Nat → List Value} (h : Lent w bx V X) (hb : Below w.heap.size w w') : Lent w' bx V X :=
  ⟨h.1.b hb, fun f hf => (h.2.1 f hf).touch (Below.t hb) (fun _ _ => by simp), h.2.2⟩
theorem Lent.touch {F : List Nat} {w w' : World} {bx : Nat} {V : Nat → Value} {X : Nat → List Value} (h : Lent w bx V X) (ht : Touch F w w') (hF : ∀ k ∈ LF bx V, k ∉ F) : Lent w' bx V X :=
  ⟨h.1.touch ht (hF bx (LF_mem.2 (Or.inl rfl))), fun f hf => (h.2.1 f hf).touch ht (fun k hk => hF k (LF_mem.2 (Or.inr ⟨f, hf, hk⟩))), h.2.2⟩

/-- one list more in a field -/
theorem Lent.push {w w4 : World} {bx : Nat} {V : Nat → Value} {X : Nat → List Value} (h : Lent w bx V X) {f : Nat} (hf : f < 5) {g cap : Nat} {u : Value}
    (hS : SlRow w4 (fT f) (.slice (some ⟨g, 0, none⟩) ((X f).length + 1) cap) (X f ++ [u])) (hT : Touch (V f).ownBlock.toList w w4) (hat : (V f).ownBlock = some g ∨ w.heap.size ≤ g) :
    Lent (w4.setCell ⟨bx, f, none⟩ (.slice (some ⟨g, 0, none⟩) ((X f).length + 1) cap)) bx (upd V f (.slice (some ⟨g, 0, none⟩) ((X f).length + 1) cap)) (upd X f (X f ++ [u])) ∧
    Step (LF bx V) (LF bx (upd V f (.slice (some ⟨g, 0, none⟩) ((X f).length + 1) cap))) w (w4.setCell ⟨bx, f, none⟩ (.slice (some ⟨g, 0, none⟩) ((X f).length + 1) cap)) := by
  have hbx := h.1.lt
  generalize hv : (Value.slice (some ⟨g, 0, none⟩) ((X f).length + 1) cap) = v' at *
  have hvb : v'.ownBlock = some g := by rw [← hv]; rfl
  have hgn : ∀ k, k < 5 → k ≠ f → (V k).ownBlock ≠ some g := by
    intro k hk hkf e
    rcases hat with hat | hat
    · exact h.2.2.2 k f g hk hf hkf e hat
    · have := (h.2.1 k hk).lt e; omega
  have hgbx : g ≠ bx := by
    rintro rfl
    rcases hat with hat | hat
    · exact h.2.2.1 f hf hat
    · omega
  have hbxf : bx ∉ (V f).ownBlock.toList := fun e => h.2.2.1 f hf (by simpa using e)
  have hT2 : Touch (bx :: (V f).ownBlock.toList) w (w4.setCell ⟨bx, f, none⟩ v') := (hT.mono (by intro k hk; simp at hk ⊢; exact Or.inr hk)).setCell (by simp) _
  refine ⟨⟨?_, fun k hk => ?_, fun k hk => ?_, fun k l b hk hl hne => ?_⟩, hT2.mono (fun k hk => ?_), fun k hk => ?_⟩
  · have := (h.1.touch hT hbxf).set f (by simp [cells5]; omega) v'
    rw [cells5_upd V f hf] at this
    exact this
  · unfold upd
    by_cases e : k = f
    · subst e
      simp only [if_true]
      exact hS.touch ((Touch.refl [bx] w4).setCell (by simp) _) (fun b hb => by rw [hvb] at hb; cases hb; simpa using hgbx)
    · simp only [e, if_false]
      refine (h.2.1 k hk).touch hT2 (fun b hb hm => ?_)
      rcases List.mem_cons.1 hm with rfl | hm
      · exact h.2.2.1 k hk hb
      · exact h.2.2.2 k f b hk hf e hb (by simpa using hm)
  · unfold upd
    by_cases e : k = f
    · simp only [e, if_true]; rw [hvb]; simpa using hgbx
    · simp only [e, if_false]; exact h.2.2.1 k hk
  · unfold upd
    by_cases e : k = f
    · by_cases e2 : l = f
      · exact absurd (e.trans e2.symm) hne
      · simp only [e, e2, if_true, if_false]
        intro hb hb2
        rw [hvb] at hb; cases hb
        exact hgn l hl e2 hb2
    · by_cases e2 : l = f
      · simp only [e, e2, if_true, if_false]
        intro hb hb2
        rw [hvb] at hb2; cases hb2
        exact hgn k hk e hb
      · simp only [e, e2, if_false]
        exact h.2.2.2 k l b hk hl hne
  · rw [LF_mem]
    rcases List.mem_cons.1 hk with rfl | hk
    · exact Or.inl rfl
    · exact Or.inr ⟨f, hf, by simpa using hk⟩
  · rcases LF_mem.1 hk with rfl | ⟨l, hl, hk⟩
    · exact Or.inl (LF_mem.2 (Or.inl rfl))
    · unfold upd at hk
      by_cases e : l = f
      · simp only [e, if_true] at hk
        rw [hvb] at hk; cases hk
        rcases hat with hat | hat
        · exact Or.inl (LF_mem.2 (Or.inr ⟨f, hf, hat⟩))
        · exact Or.inr hat
      · simp only [e, if_false] at hk
        exact Or.inl (LF_mem.2 (Or.inr ⟨l, hl, hk⟩))

/-- an array of its own: n elements, and what stands in the room behind -/
def Full (w : World) (F : List Nat) (e : TypeId) (sz : Nat) (r : Value) (cs : List Value) (n : Nat) : Prop := ∃ g, r = .slice (some ⟨g, 0, none⟩) n (n + 8) ∧ g ∉ F ∧ PA w g e ((n + 8) * sz) cs ∧ n + 8 ≤ maxLen
theorem Full.step {F F' : List Nat} {w w' : World} {e : TypeId} {sz : Nat} {r : Value} {cs : List Value} {n : Nat} (h : Full w F e sz r cs n) (hs : Step F F' w w') : Full w' F' e sz r cs n := by
  obtain ⟨g, rfl, h1, h2, h3⟩ := h
  refine ⟨g, rfl, fun hm => ?_, h2.touch hs.1 h1, h3⟩
  rcases hs.2 g hm with hm | hm
  · exact h1 hm
  · have := h2.lt; omega
theorem Full.lies {F : List Nat} {w : World} {e : TypeId} {sz : Nat} {r : Value} {cs ds : List Value} {n : Nat} (h : Full w F e sz r cs n) (hl : ds.length = n * sz) (hp : ∀ (i : Nat) (u : Value), ds[i]? = some u → cs[i]? = some u) : LiesC w F r sz n ds := by
  obtain ⟨g, rfl, h1, h2, h3⟩ := h
  exact h2.lies h1 sz n (n + 8) (by omega) h3 ds hl hp
theorem pre_get {α : Type} {a b : List α} : ∀ (i : Nat) (u : α), a[i]? = some u → (a ++ b)[i]? = some u := fun i u h => by
  rw [List.getElem?_append_left (List.getElem?_eq_some_iff.1 h).1]; exact h
def spareI : List Int := List.replicate 8 (-77)
def FullI (w : World) (F : List Nat) (r : Value) (l : List Int) : Prop := Full w F 3 1 r (ints (l ++ spareI)) l.length
theorem FullI.in {w : World} {F : List Nat} {r : Value} {l : List Int} (h : FullI w F r l) : IntsIn w F r l := Full.lies h (by simp [ints]) (by rw [ints_app]; exact pre_get)
end Go.Proofs.Ytjoinhljdbljaaa

namespace Go.Proofs.Ytjoinhljdbljaaa
open Go.RowKit

theorem fill1 {w : World} {g : Nat} {e : TypeId} {n : Nat} {A : List Value} {k : Nat} {u : Value} (h : PA w g e n (A.take k)) (hn : A.length = n) (hu : A[k]? = some u) : PA (w.setCell ⟨g, k, none⟩ u) g e n (A.take (k + 1)) := by
  obtain ⟨hk, rfl⟩ := List.getElem?_eq_some_iff.1 hu
  rw [take_snoc' A k hk]
  exact h.put (by simp; omega) (by omega) _
theorem fill1x {w : World} {g : Nat} {e : TypeId} {n : Nat} {A : List Value} {k : Nat} {u : Value} (h : PA w g e n (A.take k)) (hn : A.length = n) (hu : A[k]? = some u) (x : Value) : PA ((w.setCell ⟨g, k, none⟩ x).setCell ⟨g, k, none⟩ u) g e n (A.take (k + 1)) := by
  obtain ⟨hk, _⟩ := List.getElem?_eq_some_iff.1 hu
  exact fill1 (PA.pre (b := [x]) (h.put (by simp; omega) (by omega) x)) hn hu
theorem spareI_len (l : List Int) : (ints (l ++ spareI)).length = (l.length + 8) * 1 := by simp [ints, spareI]
theorem spareI_val {l : List Int} {k : Nat} (h : k < l.length) : (ints (l ++ spareI))[k]? = some (.int .i64 l[k]) := by rw [ints_app]; exact pre_get _ _ (ints_get h)
theorem spareI_mark {l : List Int} {k : Nat} (h : l.length ≤ k) (h2 : k < l.length + 8) : (ints (l ++ spareI))[k]? = some (.int .i64 (-77)) := by
  have : (l ++ spareI)[k]? = some (-77) := by
    rw [List.getElem?_append_right h]
    unfold spareI
    rw [List.getElem?_replicate, if_pos (by omega)]
  simp only [ints, List.getElem?_map, this]; rfl
/-- what is left of what is lent, behind the append -/
theorem Lent.after {w W w4 : World} {bx : Nat} {V : Nat → Value} {X : Nat → List Value} (h : Lent w bx V X) {f : Nat} (hf : f < 5) (hW : Touch [] w W) (hG : W.grownBy w4 (V f).ownBlock) :
    Touch (V f).ownBlock.toList w w4 ∧ PA w4 bx 90 5 (cells5 V) := by
  have hT : Touch (V f).ownBlock.toList w w4 := (hW.mono (by simp)).grown hG (fun k hk => by simpa using hk)
  exact ⟨hT, h.1.touch hT (fun e => h.2.2.1 f hf (by simpa using e))⟩
/-- a lent list comes back: full, and kept in the field -/
def LendPost (w : World) (bx : Nat) (V : Nat → Value) (X : Nat → List Value) (f : Nat) (Φ : World → List Nat → Value → Prop) : Ending → World → Prop := fun e w' =>
  ∃ r V', e = .returned r ∧ Φ w' (LF bx V') r ∧ Lent w' bx V' (upd X f (X f ++ [r])) ∧ Step (LF bx V) (LF bx V') w w'

set_option maxRecDepth 20000 in
set_option maxHeartbeats 8000000 in
theorem number_any (w : World) (bx : Nat) (V : Nat → Value) (X : Nat → List Value) (hL : Lent w bx V X) (v : Value) (l : List Int) (hv : IntsIn w (LF bx V) v l) (hl : l.length ≤ 1048576) (hX : (X 2).length ≤ 100000000) :
    Calls Try.prog 42 #[.pointer (some ⟨bx, 0, none⟩), v] w (LendPost w bx V X 2 fun w' F r => FullI w' F r l) := by
  obtain ⟨i0, hi0, hz0, hz1, hz2⟩ := info_parts info3
  have HI0 : Hid (Try.prog.info? 3 = some i0 ∧ i0.zero = some (.int .i64 0) ∧ i0.size = 1 ∧ i0.bytes = 8) := ⟨hi0, hz0, hz1, hz2⟩
  clear hi0 hz0 hz1 hz2
  obtain ⟨ao, cap, rfl, hc, hm, g1⟩ := hv.open
  clear g1
  have HV : Hid (IntsIn w (LF bx V) (.slice ao l.length cap) l) := hv
  have HL : Hid (Lent w bx V X) := hL
  have hbx := hL.1.lt
  clear hv hL
  go_enter Try.func42, Try.ntmps42
  go_wp2_with (at_make; refine wpList_make_full _ rfl (.tmp 9) (.tmp 9) 70 rfl w.heap.size 3 i0 (.int .i64 0) 1 Try.underlying70 HI0.out.1 HI0.out.2.1 HI0.out.2.2.1 .i64 .i64 _ _ (l.length + 8) rfl rfl (by omega) (by omega) (by rw [HI0.out.2.2.2]; omega) (by unfold maxLen; omega) (Nat.le_refl _) ?_; intro w1 ho1 hg1; have hp1 := (PA.made ho1 rfl).nil; have hB1 := (Below.refl w.heap.size w).grown hg1 (Nat.le_refl _) (fun k hk => by simp at hk); clear ho1 hg1)
  have HP1 : Hid (PA w1 w.heap.size 3 ((l.length + 8) * 1) []) := hp1
  clear hp1
  go_loopw [6] (fun j wr => ∃ k : Nat, k ≤ l.length + 8 ∧ j = .int .i64 k ∧ PA wr w.heap.size 3 ((l.length + 8) * 1) ((ints (l ++ spareI)).take k) ∧ Below w.heap.size w wr) (fun j _ => l.length + 8 - (intOf j).toNat)
  case atStart => exact ⟨0, by omega, rfl, HP1.out, hB1⟩
  case round =>
    obtain ⟨k, hk, rfl, hP, hB⟩ := hrel
    clear HP1 hB1 w1
    have hsz := hB.size
    by_cases hlt : k < l.length + 8
    · obtain ⟨⟨v6, hv6⟩, hf6⟩ := hP.place k (by omega)
      by_cases hln : k < l.length
      · obtain ⟨b, off, hao, hcell⟩ := HV.out.cells (by omega)
        subst hao
        have hbw : b < w.heap.size := World.block_lt_of_cell? w _ (hcell k hln)
        have c0 := (hB.cell (p := ⟨b, off + k, none⟩) hbw).trans (hcell k hln)
        have hne : b ≠ w.heap.size := by omega
        have HP3 : Hid (PA ((wr.setCell ⟨w.heap.size, k, none⟩ (.int .i64 (-77))).setCell ⟨w.heap.size, k, none⟩ (.int .i64 l[k])) w.heap.size 3 ((l.length + 8) * 1) ((ints (l ++ spareI)).take (k + 1))) := fill1x hP (spareI_len l) (spareI_val hln) _
        generalize l[k] = q at *
        clear hcell hP
        go_wp2
        go_roundw
        case rel => exact ⟨k + 1, by omega, by go_num, HP3.out, (hB.setCell (Nat.le_refl _) _).setCell (Nat.le_refl _) _⟩
        case measure => simp [intOf]; omega
      · have HP3 : Hid (PA (wr.setCell ⟨w.heap.size, k, none⟩ (.int .i64 (-77))) w.heap.size 3 ((l.length + 8) * 1) ((ints (l ++ spareI)).take (k + 1))) := fill1 hP (spareI_len l) (spareI_mark (by omega) hlt)
        clear hP
        go_wp2
        go_roundw
        case rel => exact ⟨k + 1, by omega, by go_num, HP3.out, hB.setCell (Nat.le_refl _) _⟩
        case measure => simp [intOf]; omega
    · rw [List.take_of_length_le (by rw [spareI_len]; omega)] at hP
      have HL2 : Hid (Lent wr bx V X) := HL.out.b hB
      have x2 := HL2.out.1.cell (cells5_get V 2 (by omega))
      have hfz := (HL2.out.1.place 2 (by omega)).2
      have HP : Hid (PA wr w.heap.size 3 ((l.length + 8) * 1) (ints (l ++ spareI))) := hP
      clear hP
      have HX : Hid ((X 2).length ≤ 1000000000) := by show _ ≤ _; omega
      have hle8 : (l.length : Int) ≤ (l.length : Int) + 8 := by omega
      have hbxw : bx < wr.heap.size := by omega
      go_wp2_with fail
      go_region_law (refine step_slrow rfl (.tmp 35) (.tmp 40) 86 2 Try.underlying86 rfl (V 2) (X 2) (by simp [Act.eval]) (by exact World.ownsRow.alloc (HL2.out.2.1 2 (by omega)) _) ⟨wr.heap.size, 0, none⟩ (.slice (some ⟨w.heap.size, 0, none⟩) l.length (l.length + 8)) 1 (by simp [Act.eval]) (by exact cell_one_new wr _ _) rfl HX.out ?_; intro g cp w4 hS4 hG4 hat4 hlt4; have hTW := ((Touch.refl [] wr).alloc (.cells #[.slice (some ⟨w.heap.size, 0, none⟩) l.length (l.length + 8)] 70)).drew; obtain ⟨hT4, hp4⟩ := HL2.out.after (by omega) hTW hG4; have y2 := hp4.cell (cells5_get V 2 (by omega)); have fz4 := (hp4.place 2 (by omega)).2; have HP4 : Hid _ := hp4; clear hp4 hTW)
      all_goals
        go_wp2
        go_ret
        obtain ⟨hLL, hST⟩ := HL2.out.push (f := 2) (by omega) hS4 hT4 (hat4.imp id (fun e => by rw [e]; show _ ≤ (wr.alloc _).heap.size; simp))
        refine ⟨_, _, rfl, ?_, hLL, (stepB hB).trans hST⟩
        exact Full.step (F := LF bx V) ⟨w.heap.size, rfl, fun hm => by have := HL.out.lt hm; omega, HP.out, by unfold maxLen; omega⟩ hST
end Go.Proofs.Ytjoinhljdbljaaa
