/- A block whose first cells are known: made, written, read. -/
import Derived.Test.YtjoinhljdbljaaaValP
namespace Go.Proofs.Ytjoinhljdbljaaa
open Go.RowKit

/-- Block g has n cells; the first ones are those of cs. -/
def PA (w : World) (g : Nat) (e : TypeId) (n : Nat) (cs : List Value) : Prop :=
  ∃ cur : Array Value, w.heap[g]? = some (.cells cur e (0, 0)) ∧ cur.size = n ∧ ∀ (i : Nat) (u : Value), cs[i]? = some u → cur[i]? = some u
theorem PA.made {w : World} {base g : Nat} {e : TypeId} {N cap sz : Nat} {xs : List Value} (h : w.ownsRow base e sz (.slice (some ⟨g, 0, none⟩) N cap) N xs) (hc : cap = N) : PA w g e (N * sz) xs := by
  subst hc
  rcases h.2 with ⟨h, _⟩ | ⟨g', cap', cur, h, _, hg, _, _, hs, ht⟩
  · simp at h
  · simp only [Value.slice.injEq, Option.some.injEq, Addr.mk.injEq, and_true, true_and] at h
    obtain ⟨rfl, rfl⟩ := h
    refine ⟨cur, hg, hs, fun i u hi => ?_⟩
    rw [← ht, List.getElem?_take] at hi
    split at hi
    · simpa using hi
    · cases hi
theorem PA.pre {w : World} {g : Nat} {e : TypeId} {n : Nat} {a b : List Value} (h : PA w g e n (a ++ b)) : PA w g e n a := by
  obtain ⟨cur, h1, h2, h3⟩ := h
  refine ⟨cur, h1, h2, fun i u hi => h3 i u ?_⟩
  rw [List.getElem?_append_left (List.getElem?_eq_some_iff.1 hi).1]; exact hi
theorem PA.nil {w : World} {g : Nat} {e : TypeId} {n : Nat} {a : List Value} (h : PA w g e n a) : PA w g e n [] := PA.pre (a := []) (b := a) h
theorem PA.lt {w : World} {g : Nat} {e : TypeId} {n : Nat} {cs : List Value} (h : PA w g e n cs) : g < w.heap.size := by
  obtain ⟨cur, hh, r⟩ := h
  exact (Array.getElem?_eq_some_iff.1 hh).1
theorem PA.cell {w : World} {g : Nat} {e : TypeId} {n : Nat} {cs : List Value} (h : PA w g e n cs) {i : Nat} {u : Value} (hi : cs[i]? = some u) : w.cell? ⟨g, i, none⟩ = some u := by
  obtain ⟨cur, hh, _, r⟩ := h
  simp [World.cell?, hh, r i u hi]
theorem PA.place {w : World} {g : Nat} {e : TypeId} {n : Nat} {cs : List Value} (h : PA w g e n cs) (o : Nat) (ho : o < n) : (∃ v, w.cell? ⟨g, o, none⟩ = some v) ∧ w.frozen? ⟨g, o, none⟩ = false := by
  obtain ⟨cur, hh, hs, r⟩ := h
  have : o < cur.size := by omega
  exact ⟨⟨cur[o], by simp [World.cell?, hh, this]⟩, by simp [World.frozen?, hh]⟩
theorem PA.below {w w' : World} {g : Nat} {e : TypeId} {n : Nat} {cs : List Value} {B : Nat} (h : PA w g e n cs) (hb : Below B w w') (hg : g < B) : PA w' g e n cs := by
  obtain ⟨cur, hh, r⟩ := h
  exact ⟨cur, by rw [hb.block g hg]; exact hh, r⟩
theorem PA.b {w w' : World} {g : Nat} {e : TypeId} {n : Nat} {cs : List Value} (h : PA w g e n cs) (hb : Below w.heap.size w w') : PA w' g e n cs := h.below hb h.lt
theorem PA.touch {w w' : World} {g : Nat} {e : TypeId} {n : Nat} {cs : List Value} {F : List Nat} (h : PA w g e n cs) (ht : Touch F w w') (hg : g ∉ F) : PA w' g e n cs := by
  have hl := h.lt
  obtain ⟨cur, hh, r⟩ := h
  exact ⟨cur, by rw [ht.block g hl hg]; exact hh, r⟩
theorem PA.other {w : World} {g : Nat} {e : TypeId} {n : Nat} {cs : List Value} (h : PA w g e n cs) (g' o : Nat) (v : Value) (hne : g ≠ g') : PA (w.setCell ⟨g', o, none⟩ v) g e n cs := by
  obtain ⟨cur, hh, r⟩ := h
  exact ⟨cur, by rw [Below.heap_setCell _ _ _ _ hne]; exact hh, r⟩
theorem PA.alloc {w : World} {g : Nat} {e : TypeId} {n : Nat} {cs : List Value} (h : PA w g e n cs) (o : Obj) : PA (w.alloc o) g e n cs := by
  have hl := h.lt
  obtain ⟨cur, hh, r⟩ := h
  exact ⟨cur, by rw [Below.heap_alloc _ _ _ hl]; exact hh, r⟩
theorem PA.drew {w : World} {g : Nat} {e : TypeId} {n : Nat} {cs : List Value} (h : PA w g e n cs) : PA w.drew g e n cs := h
theorem PA.set {w : World} {g : Nat} {e : TypeId} {n : Nat} {cs : List Value} (h : PA w g e n cs) (i : Nat) (hi : i < cs.length) (v : Value) : PA (w.setCell ⟨g, i, none⟩ v) g e n (cs.set i v) := by
  obtain ⟨cur, hh, hs, r⟩ := h
  refine ⟨_, heap_setCell_same _ _ _ _ _ _ hh, by simpa using hs, fun j u hj => ?_⟩
  have hi2 : i < cur.size := by
    have := r i _ (List.getElem?_eq_getElem hi)
    exact (Array.getElem?_eq_some_iff.1 this).1
  rw [List.getElem?_set] at hj
  rw [Array.getElem?_setIfInBounds]
  split
  · subst_vars; simp_all
  · rename_i hne
    rw [if_neg hne] at hj
    exact r j u hj
theorem PA.put {w : World} {g : Nat} {e : TypeId} {n : Nat} {cs : List Value} (h : PA w g e n cs) {k : Nat} (hk : k = cs.length) (hn : k < n) (v : Value) : PA (w.setCell ⟨g, k, none⟩ v) g e n (cs ++ [v]) := by
  subst hk
  obtain ⟨cur, hh, hs, r⟩ := h
  refine ⟨_, heap_setCell_same _ _ _ _ _ _ hh, by simpa using hs, fun j u hj => ?_⟩
  rw [Array.getElem?_setIfInBounds]
  by_cases e : cs.length = j
  · subst e
    rw [List.getElem?_append_right (Nat.le_refl _)] at hj
    simp at hj
    simp [hs, hn, hj]
  · rw [if_neg e]
    have hj2 := (List.getElem?_eq_some_iff.1 hj).1
    simp at hj2
    rw [List.getElem?_append_left (by omega)] at hj
    exact r j u hj
/-- the numbers of a block -/
theorem ints_get {l : List Int} {i : Nat} (h : i < l.length) : (ints l)[i]? = some (.int .i64 l[i]) := by simp [ints, h]
theorem ints_set (l : List Int) (i : Nat) (q : Int) : ints (l.set i q) = (ints l).set i (.int .i64 q) := by simp [ints, List.map_set]
/-- a slice at the head of a block -/
theorem PA.lies {w : World} {g : Nat} {e : TypeId} {n : Nat} {cs : List Value} (h : PA w g e n cs) {F : List Nat} (hF : g ∉ F) (sz k cap : Nat) (hk : k ≤ cap) (hm : cap ≤ maxLen) (ds : List Value) (hl : ds.length = k * sz) (hp : ∀ (i : Nat) (u : Value), ds[i]? = some u → cs[i]? = some u) : LiesC w F (.slice (some ⟨g, 0, none⟩) k cap) sz k ds :=
  ⟨_, cap, rfl, hk, hm, hl, fun _ => ⟨g, 0, rfl, hF, fun j u hj => by rw [Nat.zero_add]; exact h.cell (hp j u hj)⟩⟩
/-- numbers are not where slices are -/
theorem IntsIn.apart {w : World} {F : List Nat} {v : Value} {l : List Int} {g : Nat} (h : IntsIn w F v l) (hg : ∀ o u, w.cell? ⟨g, o, none⟩ = some u → ∀ k q, u ≠ .int k q) : IntsIn w (g :: F) v l := by
  obtain ⟨ao, cap, rfl, hc, hm, hl, hx⟩ := h
  refine ⟨ao, cap, rfl, hc, hm, hl, fun hn => ?_⟩
  obtain ⟨b, off, rfl, hb, hx⟩ := hx hn
  refine ⟨b, off, rfl, fun e => ?_, hx⟩
  rcases List.mem_cons.1 e with e | e
  · subst e
    exact hg _ _ (hx 0 _ (ints_get (l := l) (i := 0) (by omega))) _ _ rfl
  · exact hb e
theorem IntsIn.less {w : World} {F F' : List Nat} {v : Value} {l : List Int} (h : IntsIn w F v l) (hF : ∀ k ∈ F', k ∈ F) : IntsIn w F' v l := by
  obtain ⟨ao, cap, rfl, hc, hm, hl, hx⟩ := h
  refine ⟨ao, cap, rfl, hc, hm, hl, fun hn => ?_⟩
  obtain ⟨b, off, rfl, hb, hx⟩ := hx hn
  exact ⟨b, off, rfl, fun e => hb (hF _ e), hx⟩
end Go.Proofs.Ytjoinhljdbljaaa
