/- A block of structs of three cells each: made, copied into, stored into. -/
import Derived.Test.YtjoinhljdbljaaaKeyI
import Derived.Deep.QuietTactic
import Derived.BigQuiet
namespace Go.Proofs.Ytjoinhljdbljaaa
open Go.RowKit

theorem info35 : (Try.prog.info? 35).map (fun i => (i.zero, i.size, i.bytes)) = some (some (.agg #[.int .i64 0, .bool false, .bool false]), 3, 16) := by kernel_rfl

/-- Block g has room for N structs; the first ones are those of l. -/
def Blk (w : World) (g : Nat) (e : TypeId) (N : Nat) (l : List T3) : Prop :=
  ∃ cur : Array Value, w.heap[g]? = some (.cells cur e (0, 0)) ∧ cur.size = N * 3 ∧ ∀ i (h : i < l.length), cur[i * 3]? = some l[i].1 ∧ cur[i * 3 + 1]? = some l[i].2.1 ∧ cur[i * 3 + 1 + 1]? = some l[i].2.2

theorem Blk.made {w : World} {base g : Nat} {e : TypeId} {N cap : Nat} {xs : List Value} (h : w.ownsRow base e 3 (.slice (some ⟨g, 0, none⟩) N cap) N xs) (hc : cap = N) : Blk w g e N [] := by
  subst hc
  rcases h.2 with ⟨h, _⟩ | ⟨g', cap', cur, h, _, hg, _, _, hs, _⟩
  · simp at h
  · simp only [Value.slice.injEq, Option.some.injEq, Addr.mk.injEq, and_true, true_and] at h
    obtain ⟨rfl, rfl⟩ := h
    exact ⟨cur, hg, hs, fun i hi => by simp at hi⟩

theorem Blk.below {w w' : World} {g : Nat} {e : TypeId} {N : Nat} {l : List T3} {B : Nat} (h : Blk w g e N l) (hb : Below B w w') (hg : g < B) : Blk w' g e N l := by
  obtain ⟨cur, hh, r⟩ := h
  exact ⟨cur, by rw [hb.block g hg]; exact hh, r⟩

theorem Blk.lt {w : World} {g : Nat} {e : TypeId} {N : Nat} {l : List T3} (h : Blk w g e N l) : g < w.heap.size := by
  obtain ⟨cur, hh, r⟩ := h
  exact (Array.getElem?_eq_some_iff.1 hh).1

theorem Blk.cells {w : World} {g : Nat} {e : TypeId} {N : Nat} {l : List T3} (h : Blk w g e N l) (i : Nat) (hi : i < l.length) :
    w.cell? ⟨g, i * 3, none⟩ = some l[i].1 ∧ w.cell? ⟨g, i * 3 + 1, none⟩ = some l[i].2.1 ∧ w.cell? ⟨g, i * 3 + 1 + 1, none⟩ = some l[i].2.2 := by
  obtain ⟨cur, hh, _, r⟩ := h
  obtain ⟨r0, r1, r2⟩ := r i hi
  exact ⟨by simp [World.cell?, hh, r0], by simp [World.cell?, hh, r1], by simp [World.cell?, hh, r2]⟩

/-- a place that may be written: it is there, and it is not frozen -/
theorem Blk.place {w : World} {g : Nat} {e : TypeId} {N : Nat} {l : List T3} (h : Blk w g e N l) (o : Nat) (ho : o < N * 3) : (∃ v, w.cell? ⟨g, o, none⟩ = some v) ∧ w.frozen? ⟨g, o, none⟩ = false := by
  obtain ⟨cur, hh, hs, r⟩ := h
  have : o < cur.size := by omega
  exact ⟨⟨cur[o], by simp [World.cell?, hh, this]⟩, by simp [World.frozen?, hh]⟩

theorem Blk.lies {w : World} {g : Nat} {e : TypeId} {N : Nat} {l : List T3} (h : Blk w g e N l) (n cap : Nat) (hn : n ≤ l.length) (hc : n ≤ cap) (hm : cap ≤ maxLen) {B : Nat} (hB : g < B) : Lies w B (.slice (some ⟨g, 0, none⟩) n cap) (l.take n) := by
  have e : (l.take n).length = n := List.length_take_of_le hn
  refine ⟨_, cap, by rw [e], by omega, hm, fun _ => ⟨g, 0, rfl, hB, fun i hi => ?_⟩⟩
  have := h.cells i (by omega)
  simpa using this

theorem Blk.put {w : World} {g : Nat} {e : TypeId} {N : Nat} {l : List T3} (h : Blk w g e N l) (k : Nat) (hk : k = l.length) (hN : k < N) (a b c : Value) :
    Blk (((w.setCell ⟨g, k * 3, none⟩ a).setCell ⟨g, k * 3 + 1, none⟩ b).setCell ⟨g, k * 3 + 1 + 1, none⟩ c) g e N (l ++ [(a, b, c)]) := by
  subst hk
  obtain ⟨cur, hh, hs, r⟩ := h
  refine ⟨_, heap_setCell_same _ _ _ _ _ _ (heap_setCell_same _ _ _ _ _ _ (heap_setCell_same _ _ _ _ _ _ hh)), by simpa using hs, fun i hi => ?_⟩
  simp only [List.length_append, List.length_cons, List.length_nil] at hi
  simp only [Array.getElem?_setIfInBounds, Array.size_setIfInBounds]
  by_cases h1 : i < l.length
  · obtain ⟨r0, r1, r2⟩ := r i h1
    rw [List.getElem_append_left h1]
    refine ⟨?_, ?_, ?_⟩
    · rw [if_neg (by omega), if_neg (by omega), if_neg (by omega)]; exact r0
    · rw [if_neg (by omega), if_neg (by omega), if_neg (by omega)]; exact r1
    · rw [if_neg (by omega), if_neg (by omega), if_neg (by omega)]; exact r2
  · obtain rfl : i = l.length := by omega
    rw [List.getElem_append_right (by omega)]
    simp only [Nat.sub_self, List.getElem_cons_zero]
    have q : l.length * 3 + 1 + 1 < cur.size := by omega
    refine ⟨?_, ?_, ?_⟩
    · rw [if_neg (by omega), if_neg (by omega), if_pos trivial, if_pos (by omega)]
    · rw [if_neg (by omega), if_pos trivial, if_pos (by omega)]
    · rw [if_pos trivial, if_pos (by omega)]

theorem t3s_len (l : List T3) : (t3s l).length = l.length * 3 := by
  induction l with
  | nil => rfl
  | cons t l ih => simp only [t3s, List.flatMap_cons, List.length_append, List.length_cons, List.length_nil] at *; omega

theorem t3s_get (l : List T3) : ∀ i (h : i < l.length), (t3s l)[i * 3]? = some l[i].1 ∧ (t3s l)[i * 3 + 1]? = some l[i].2.1 ∧ (t3s l)[i * 3 + 1 + 1]? = some l[i].2.2 := by
  induction l with
  | nil => intro i hi; simp at hi
  | cons t l ih =>
    intro i hi
    cases i with
    | zero => simp [t3s]
    | succ i =>
      obtain ⟨a, b, c⟩ := ih i (by simpa using hi)
      have e : t3s (t :: l) = t.1 :: t.2.1 :: t.2.2 :: t3s l := by simp [t3s]
      rw [e, show (i + 1) * 3 = i * 3 + 1 + 1 + 1 from by omega]
      simp only [List.getElem?_cons_succ, List.getElem_cons_succ]
      exact ⟨a, b, c⟩

/-- the cells of a slice of structs, one behind the other -/
theorem Lies.all {w : World} {B b off : Nat} {l : List T3} (hx : ∀ i (h : i < l.length), w.cell? ⟨b, off + i * 3, none⟩ = some l[i].1 ∧ w.cell? ⟨b, off + i * 3 + 1, none⟩ = some l[i].2.1 ∧ w.cell? ⟨b, off + i * 3 + 1 + 1, none⟩ = some l[i].2.2) (_hB : b < B) :
    ∀ j u, (t3s l)[j]? = some u → w.cell? ((⟨b, off, none⟩ : Addr).add j) = some u := by
  intro j u hj
  have hlt : j < l.length * 3 := by rw [← t3s_len]; exact (List.getElem?_eq_some_iff.1 hj).1
  have hadd : (⟨b, off, none⟩ : Addr).add j = ⟨b, off + j, none⟩ := by unfold Addr.add; split <;> simp_all
  rw [hadd]
  obtain ⟨i, hi, e⟩ : ∃ i, i < l.length ∧ (j = i * 3 ∨ j = i * 3 + 1 ∨ j = i * 3 + 1 + 1) := ⟨j / 3, by omega, by omega⟩
  obtain ⟨a0, a1, a2⟩ := t3s_get l i hi
  obtain ⟨b0, b1, b2⟩ := hx i hi
  rcases e with rfl | rfl | rfl
  · rw [b0, ← a0, hj]
  · rw [← Nat.add_assoc, b1, ← a1, hj]
  · rw [← Nat.add_assoc, ← Nat.add_assoc, b2, ← a2, hj]

theorem run_copy3 (w : World) (dT ty elem : TypeId) (g dCap : Nat) (N : Nat) (v : Value) (B : Nat) (l : List T3) (hu : Try.prog.underlying dT = some (.slice elem)) (hs : (Try.prog.info? elem).map (·.size) = some 3)
    (hb : Blk w g elem N []) (hl : Lies w B v l) (hN : l.length ≤ N) (h1 : ∀ t ∈ l, t.1.oneCell' = true ∧ t.2.1.oneCell' = true ∧ t.2.2.oneCell' = true) :
    ∃ w', (Builtin.copy_ #[dT, dT] ty #[.slice (some ⟨g, 0, none⟩) N dCap, v]).run Try.prog w = .ok (goInt l.length) w' ∧ Blk w' g elem N l ∧ w.grownBy w' (some g) := by
  obtain ⟨cur, hh, hcs, _⟩ := hb
  obtain ⟨ao, cap, rfl, hc, hm, hx⟩ := hl
  cases hq : Try.prog.info? elem with
  | none => simp [hq] at hs
  | some i =>
    have hi : i.size = 3 := by simpa [hq] using hs
    have hn : Nat.min l.length N = l.length := Nat.min_eq_left hN
    by_cases hne : 1 ≤ l.length
    · obtain ⟨b, off, rfl, hB, hx⟩ := hx hne
      have hst := run_storeCells_at Try.prog g 0 elem (t3s l) 0 cur w hh (by rw [t3s_len]; omega) (by
        intro u hu
        simp only [t3s, List.mem_flatMap] at hu
        obtain ⟨t, ht, hu⟩ := hu
        obtain ⟨q0, q1, q2⟩ := h1 t ht
        simp only [List.mem_cons, List.not_mem_nil, or_false] at hu
        rcases hu with rfl | rfl | rfl
        · exact q0
        · exact q1
        · exact q2)
      have hlc := run_loadCells_list (P := Try.prog) w ⟨b, off, none⟩ (t3s l) (Lies.all hx hB)
      rw [t3s_len] at hlc
      simp only [Nat.add_zero, List.take_zero, List.nil_append, Nat.zero_add, t3s_len] at hst
      refine ⟨w.setRow g (t3s l ++ cur.toList.drop (l.length * 3)).toArray, ?_, ⟨_, setRow_heap w g cur _ elem _ hh, ?_, ?_⟩, ⟨rfl, rfl, rfl, by simp [World.setRow], fun k _ hk => setRow_other w g k _ (fun e => hk (by rw [e]))⟩⟩
      · simp [Builtin.copy_, run_underlying hu, Builtin.lenOf, Builtin.firstCells, sizeOf, typeInfo, hq, hi, hn, hlc, hst]
      · simp [t3s_len]; omega
      · intro i hi
        obtain ⟨a0, a1, a2⟩ := t3s_get l i hi
        have hlt := t3s_len l
        simp only [List.getElem?_toArray]
        refine ⟨?_, ?_, ?_⟩
        · rw [List.getElem?_append_left (by omega)]; exact a0
        · rw [List.getElem?_append_left (by omega)]; exact a1
        · rw [List.getElem?_append_left (by omega)]; exact a2
    · have hl0 : l = [] := by cases l <;> simp_all
      subst hl0
      refine ⟨w, ?_, ⟨cur, hh, hcs, fun i hi => by simp at hi⟩, ⟨rfl, rfl, rfl, Nat.le_refl _, fun _ _ _ => rfl⟩⟩
      cases ao with
      | none => simp [Builtin.copy_, run_underlying hu, Builtin.lenOf, Builtin.firstCells, sizeOf, typeInfo, hq, storeCells]
      | some a => simp [Builtin.copy_, run_underlying hu, Builtin.lenOf, Builtin.firstCells, sizeOf, typeInfo, hq, storeCells, loadCells, loadCellsFrom]

theorem wpList_copy3 {ops : Array Oper} {rest : List Oper} {o : Oper} {a : Act} {Q : Exit → Act → World → Prop} {w : World} (hgd : o.guard = none) (d s : Operand) (dT elem : TypeId)
    (ho : o.op = .call { callee := .builtin .copy, args := #[d, s], argTypes := #[dT, dT] }) (hu : Try.prog.underlying dT = some (.slice elem)) (hs : (Try.prog.info? elem).map (·.size) = some 3)
    (g dCap N : Nat) (v : Value) (B : Nat) (l : List T3) (hd : a.eval d = .slice (some ⟨g, 0, none⟩) N dCap) (hv : a.eval s = v)
    (hb : Blk w g elem N []) (hl : Lies w B v l) (hN : l.length ≤ N) (h1 : ∀ t ∈ l, t.1.oneCell' = true ∧ t.2.1.oneCell' = true ∧ t.2.2.oneCell' = true)
    (h : ∀ w', Blk w' g elem N l → w.grownBy w' (some g) → wpList Try.prog ops Q rest (a.put o.dst (goInt l.length)) w') : wpList Try.prog ops Q (o :: rest) a w := by
  refine wpList_plain hgd fun K hK => ?_
  obtain ⟨w', hrun, h2, h3⟩ := run_copy3 w dT o.type elem g dCap N v B l hu hs hb hl hN h1
  unfold Oper.wp
  simp [execOp, ho, resolve, invoke, builtin, hd, hv, hrun, Result.andThen]
  exact hK _ _ (h w' h2 h3)
end Go.Proofs.Ytjoinhljdbljaaa
