/- What is asked of a plan, in lists alone. The inputs of a node. -/
import Derived.Test.YtjoinhljdbljaaaGreatOValDToOValG
namespace Go.Proofs.YtjoinhljdbljaaaGreat.Old
open Go.RowKit

/-- each element is made from those ahead of it -/
def grow {α β : Type} (f : List β → α → β) (l : List α) : List β := l.foldl (fun acc a => acc ++ [f acc a]) []
theorem grow_ext {α β : Type} (f : List β → α → β) : ∀ (l : List α) (acc : List β), ∃ t, l.foldl (fun acc a => acc ++ [f acc a]) acc = acc ++ t ∧ t.length = l.length
  | [], acc => ⟨[], by simp⟩
  | a :: l, acc => by
    obtain ⟨t, ht, hl⟩ := grow_ext f l (acc ++ [f acc a])
    exact ⟨f acc a :: t, by simp [ht], by simp [hl]⟩
theorem grow_length {α β : Type} (f : List β → α → β) (l : List α) : (grow f l).length = l.length := by
  obtain ⟨t, ht, hl⟩ := grow_ext f l []
  unfold grow
  rw [ht]; simpa using hl
theorem grow_take {α β : Type} (f : List β → α → β) (l : List α) (k : Nat) (hk : k ≤ l.length) : (grow f l).take k = grow f (l.take k) := by
  obtain ⟨t, ht, hl⟩ := grow_ext f (l.drop k) (grow f (l.take k))
  have e : grow f l = grow f (l.take k) ++ t := by
    conv => lhs; unfold grow; rw [← List.take_append_drop k l, List.foldl_append]
    exact ht
  rw [e, List.take_left']
  rw [grow_length]; simp; omega
theorem grow_snoc {α β : Type} (f : List β → α → β) (l : List α) (k : Nat) (hk : k < l.length) : grow f (l.take (k + 1)) = grow f (l.take k) ++ [f (grow f (l.take k)) l[k]] := by
  rw [take_snoc' l k hk]
  unfold grow
  rw [List.foldl_append]; rfl
theorem grow_get {α β : Type} (f : List β → α → β) (l : List α) (k : Nat) (hk : k < l.length) : (grow f l)[k]? = some (f (grow f (l.take k)) l[k]) := by
  have e := grow_take f l (k + 1) (by omega)
  have : ((grow f l).take (k + 1))[k]? = (grow f l)[k]? := by rw [List.getElem?_take]; simp
  rw [← this, e, grow_snoc f l k hk, List.getElem?_append_right (by rw [grow_length]; simp; omega)]
  have : k - (grow f (l.take k)).length = 0 := by rw [grow_length]; simp; omega
  rw [this]; rfl
theorem grow_getD {α β : Type} (f : List β → α → β) (l : List α) (k x : Nat) (d : β) (hk : k ≤ l.length) (hx : x < k) : (grow f (l.take k)).getD x d = (grow f l).getD x d := by
  rw [← grow_take f l k hk]
  simp [List.getD, hx]

def ins (n : VN) : List Int := if n.op = 1 then [] else if n.op = 4 ∨ n.op = 5 then [n.left, n.right] else [n.left]
def Ahead (n : VN) (i : Nat) : Prop := ∀ x ∈ ins n, 0 ≤ x ∧ x < (i : Int)
def AheadAll (N : List VN) : Prop := ∀ i (h : i < N.length), Ahead N[i] i
def asks (N : List VN) : List Int := N.flatMap ins
def Once (N : List VN) : Prop := ∀ j : Nat, j + 1 < N.length → (asks N).count (j : Int) = 1

theorem asks_mem {N : List VN} {x : Int} : x ∈ asks N ↔ ∃ q, ∃ h : q < N.length, x ∈ ins N[q] := by
  simp only [asks, List.mem_flatMap]
  constructor
  · rintro ⟨n, hn, hx⟩
    obtain ⟨q, hq, rfl⟩ := List.mem_iff_getElem.1 hn
    exact ⟨q, hq, hx⟩
  · rintro ⟨q, hq, hx⟩
    exact ⟨N[q], List.getElem_mem hq, hx⟩
theorem asks_two {N : List VN} {x : Int} {i j : Nat} (hi : i < N.length) (hj : j < N.length) (hij : i < j) (h1 : x ∈ ins N[i]) (h2 : x ∈ ins N[j]) : 2 ≤ (asks N).count x := by
  have e : asks N = asks (N.take j) ++ asks (N.drop j) := by
    unfold asks; rw [← List.flatMap_append, List.take_append_drop]
  rw [e, List.count_append]
  have m1 : x ∈ asks (N.take j) := asks_mem.2 ⟨i, by simp; omega, by simpa using h1⟩
  have m2 : x ∈ asks (N.drop j) := asks_mem.2 ⟨0, by simp; omega, by simpa using h2⟩
  have := List.count_pos_iff.2 m1
  have := List.count_pos_iff.2 m2
  omega
theorem asks_one {N : List VN} (ha : AheadAll N) (ho : Once N) {x : Int} {i j : Nat} (hi : i < N.length) (hj : j < N.length) (h1 : x ∈ ins N[i]) (h2 : x ∈ ins N[j]) : i = j := by
  have hx := ha i hi x h1
  have hy := ha j hj x h2
  have hc := ho x.toNat (by omega)
  rw [show ((x.toNat : Nat) : Int) = x from by omega] at hc
  rcases Nat.lt_trichotomy i j with h | h | h
  · have := asks_two hi hj h h1 h2; omega
  · exact h
  · have := asks_two hj hi h h2 h1; omega
theorem asker {N : List VN} (ha : AheadAll N) (ho : Once N) {j : Nat} (hj : j + 1 < N.length) : ∃ q, ∃ h : q < N.length, j < q ∧ (j : Int) ∈ ins N[q] := by
  have hc := ho j hj
  have hm : (j : Int) ∈ asks N := List.count_pos_iff.1 (by omega)
  obtain ⟨q, hq, hx⟩ := asks_mem.1 hm
  have := ha q hq _ hx
  exact ⟨q, hq, by omega, hx⟩

def hOf (hs : List Nat) (n : VN) : Nat := if n.op = 1 then 1 else if n.op = 4 ∨ n.op = 5 then 1 + max (hs.getD n.left.toNat 0) (hs.getD n.right.toNat 0) else 1 + hs.getD n.left.toNat 0
def hts (N : List VN) : List Nat := grow hOf N
def hF (N : List VN) (i : Nat) : Nat := (hts N).getD i 0
theorem hF_eq {N : List VN} {i : Nat} (hi : i < N.length) : hF N i = hOf (hts (N.take i)) N[i] := by
  unfold hF hts
  rw [List.getD_eq_getElem?_getD, grow_get hOf N i hi]; rfl
theorem hF_take {N : List VN} {i x : Nat} (hi : i ≤ N.length) (hx : x < i) : (hts (N.take i)).getD x 0 = hF N x := grow_getD hOf N i x 0 hi hx

theorem hF_rel {N : List VN} (ha : AheadAll N) {i : Nat} (hi : i < N.length) :
    (∀ x ∈ ins N[i], 1 + hF N x.toNat ≤ hF N i) ∧ (hF N i = 1 ∨ ∃ x ∈ ins N[i], hF N i = 1 + hF N x.toNat) ∧ 1 ≤ hF N i := by
  have hA := ha i hi
  rw [hF_eq hi]
  generalize N[i] = n at *
  unfold Ahead at hA
  unfold hOf
  unfold ins at *
  by_cases h1 : n.op = 1
  · simp [h1]
  · by_cases h4 : n.op = 4 ∨ n.op = 5
    · simp only [h1, h4, if_true, if_false] at *
      have a1 := hA n.left (by simp)
      have a2 := hA n.right (by simp)
      rw [hF_take (by omega) (by omega), hF_take (by omega) (by omega)]
      refine ⟨fun x hx => ?_, ?_, by omega⟩
      · simp at hx
        rcases hx with rfl | rfl <;> omega
      · right
        by_cases hm : hF N n.left.toNat ≤ hF N n.right.toNat
        · exact ⟨n.right, by simp, by omega⟩
        · exact ⟨n.left, by simp, by omega⟩
    · simp only [h1, h4, if_false] at *
      have a1 := hA n.left (by simp)
      rw [hF_take (by omega) (by omega)]
      refine ⟨fun x hx => ?_, ?_, by omega⟩
      · simp at hx
        subst hx; omega
      · exact Or.inr ⟨n.left, by simp, rfl⟩

/-- how deep each stands: the root 1, what a node takes one more -/
def DeepRel (N : List VN) (d : Nat → Int) (m : Int) : Prop := d (N.length - 1) = 1 ∧ (∀ q (h : q < N.length), ∀ x ∈ ins N[q], d x.toNat = d q + 1) ∧ (∀ q, q < N.length → d q ≤ m) ∧ (m = 1 ∨ ∃ q, q < N.length ∧ d q = m)
def HighOK (N : List VN) : Prop := ∀ i, i < N.length → hF N i ≤ 8

theorem deep_down {N : List VN} (ha : AheadAll N) (ho : Once N) {d : Nat → Int} {m : Int} (hd : DeepRel N d m) : ∀ (k p : Nat), p + k + 1 = N.length → 1 ≤ d p ∧ d p + (hF N p : Int) ≤ (hF N (N.length - 1) : Int) + 1 := by
  intro k
  induction k using Nat.strongRecOn with
  | _ k ih =>
    intro p hp
    by_cases hr : k = 0
    · subst hr
      rw [show p = N.length - 1 from by omega, hd.1]
      omega
    · obtain ⟨q, hq, hpq, hx⟩ := asker ha ho (j := p) (by omega)
      have h1 := hd.2.1 q hq _ hx
      have h2 := (hF_rel ha hq).1 _ hx
      have h3 := ih (N.length - 1 - q) (by omega) q (by omega)
      simp only [Int.toNat_natCast] at h1 h2
      omega
theorem deep_up {N : List VN} (ha : AheadAll N) {d : Nat → Int} {m : Int} (hd : DeepRel N d m) : ∀ (i : Nat), i < N.length → ∃ j, j < N.length ∧ d i + (hF N i : Int) ≤ d j + 1 := by
  intro i
  induction i using Nat.strongRecOn with
  | _ i ih =>
    intro hi
    obtain ⟨_, h2, _⟩ := hF_rel ha hi
    rcases h2 with h2 | ⟨x, hx, h2⟩
    · exact ⟨i, hi, by omega⟩
    · have hb := ha i hi x hx
      have h1 := hd.2.1 i hi x hx
      obtain ⟨j, hj, h3⟩ := ih x.toNat (by omega) (by omega)
      exact ⟨j, hj, by omega⟩
theorem deep_iff {N : List VN} (ha : AheadAll N) (ho : Once N) (hl : 1 ≤ N.length) {d : Nat → Int} {m : Int} (hd : DeepRel N d m) : m ≤ 8 ↔ HighOK N := by
  have hroot := hd.1
  constructor
  · intro hm i hi
    obtain ⟨j, hj, h1⟩ := deep_up ha hd (N.length - 1) (by omega)
    have h2 := hd.2.2.1 j hj
    have h3 := deep_down ha ho hd (N.length - 1 - i) i (by omega)
    omega
  · intro hh
    rcases hd.2.2.2 with h | ⟨q, hq, h⟩
    · omega
    · have h3 := deep_down ha ho hd (N.length - 1 - q) q (by omega)
      have h4 := hh (N.length - 1) (by omega)
      have h5 := (hF_rel ha hq).2.2
      omega

def JoinOK (cols others left right : List Int) : Prop := 1 ≤ cols.length ∧ cols.length ≤ 4 ∧ others.length = cols.length ∧ ∀ i (h : i < cols.length) (h2 : i < others.length), InCol cols[i] left ∧ InCol others[i] right ∧ colAt left cols[i] = colAt right others[i]
def HasTab (T : List VT) (name : ByteArray) : Prop := ∃ i, ∃ h : i < T.length, T[i].name = name
def tabK (T : List VT) (name : ByteArray) : List Int := ((T.find? fun t => decide (t.name = name)).map VT.kinds).getD []
def colsLeft (cs : List (List Int)) (n : VN) : List Int := cs.getD n.left.toNat []
def colsRight (cs : List (List Int)) (n : VN) : List Int := cs.getD n.right.toNat []
def NodeOK (T : List VT) (cs : List (List Int)) (n : VN) : Prop :=
  if n.op = 1 then HasTab T n.table else if n.op = 2 then ColsOK (colsOf n.keys) (colsLeft cs n).length 1 else if n.op = 3 then ColsOK (colsOf n.keys) (colsLeft cs n).length 1 ∧ 0 ≤ n.count ∧ n.count ≤ 1000
  else if n.op = 4 ∨ n.op = 5 then JoinOK n.cols n.others (colsLeft cs n) (colsRight cs n) else if n.op = 6 then True else GroupOK n.cols n.sums (colsLeft cs n)
def nodeL (T : List VT) (cs : List (List Int)) (n : VN) : List Int :=
  if n.op = 1 then tabK T n.table else if n.op = 4 ∨ n.op = 5 then colsLeft cs n ++ colsRight cs n else if n.op = 7 then groupL n.cols n.sums (colsLeft cs n) else colsLeft cs n
def colsL (T : List VT) (N : List VN) : List (List Int) := grow (nodeL T) N
def StepOK (T : List VT) (N : List VN) (i : Nat) : Prop := ∀ h : i < N.length, NodeOK T (colsL T (N.take i)) N[i] ∧ 1 ≤ (nodeL T (colsL T (N.take i)) N[i]).length ∧ (nodeL T (colsL T (N.take i)) N[i]).length ≤ 12
def ColumnsOK (T : List VT) (N : List VN) : Prop := ∀ i, i < N.length → StepOK T N i
/-- nothing but what its operation may have -/
def BareR (op left right : Int) (tb : ByteArray) (keys : Nat) (count : Int) (cols others sums : Nat) : Prop := (op ≠ 1 → nilB tb = true) ∧ (op ≠ 2 → op ≠ 3 → keys = 0) ∧ (op ≠ 3 → count = 0) ∧ (op ≠ 4 → op ≠ 5 → op ≠ 7 → cols = 0) ∧ (op ≠ 4 → op ≠ 5 → others = 0) ∧ (op ≠ 7 → sums = 0) ∧ (op = 1 → left = 0) ∧ (op ≠ 4 → op ≠ 5 → right = 0)
def BareN (n : VN) : Prop := BareR n.op n.left n.right n.table n.keys.length n.count n.cols.length n.others.length n.sums.length
def BareOK (n : VN) : Prop := (1 ≤ n.op ∧ n.op ≤ 7) ∧ BareN n
def PairOK (v : V) (k : Int) : Prop := (v.k = 0 ∨ v.k = k) ∧ gvalB v = true
def RowOK (r : List V) (ks : List Int) : Prop := r.length = ks.length ∧ ∀ i (h : i < r.length) (h2 : i < ks.length), PairOK r[i] ks[i]
def RowsOK (rows : List (List V)) (ks : List Int) : Prop := ∀ i (h : i < rows.length), RowOK rows[i] ks
def TableOK (t : VT) : Prop := KindsOK t.kinds ∧ RowsOK t.rows t.kinds
def TablesOK (T : List VT) : Prop := ∀ i (h : i < T.length), TableOK T[i]
def NamesOK (T : List VT) : Prop := ∀ i j (hi : i < T.length) (hj : j < T.length), i < j → T[i].name ≠ T[j].name
def NodesOK (N : List VN) : Prop := ∀ i (h : i < N.length), BareOK N[i] ∧ Ahead N[i] i
def TreeOK (N : List VN) : Prop := NodesOK N ∧ Once N ∧ HighOK N
def ValidOK (T : List VT) (N : List VN) : Prop := (1 ≤ N.length ∧ N.length ≤ 12) ∧ NamesOK T ∧ TablesOK T ∧ TreeOK N ∧ ColumnsOK T N
theorem NodesOK.ahead {N : List VN} (h : NodesOK N) : AheadAll N := fun i hi => (h i hi).2
end Go.Proofs.YtjoinhljdbljaaaGreat.Old

namespace Go.Proofs.YtjoinhljdbljaaaGreat.Old
open Go.RowKit
/-- a new list of numbers comes back -/
def ListPost (l : List Int) (w : World) : Ending → World → Prop := fun e w' => ∃ ao cap, e = .returned (.slice ao l.length cap) ∧ (∀ F : List Nat, (∀ k ∈ F, k < w.heap.size) → IntsIn w' F (.slice ao l.length cap) l) ∧ Below w.heap.size w w'

theorem IntsIn.fresh (W : World) (H : Nat) (hH : W.heap.size = H) (l : List Int) (hl : l.length ≤ maxLen) (e : TypeId) (F : List Nat) (hF : ∀ k ∈ F, k < H) : IntsIn (W.alloc (.cells (ints l).toArray e)) F (.slice (some ⟨H, 0, none⟩) l.length l.length) l := by
  subst hH
  refine ⟨_, _, rfl, Nat.le_refl _, hl, by simp [ints], fun _ => ⟨W.heap.size, 0, rfl, fun hm => by have := hF _ hm; omega, fun j u hj => ?_⟩⟩
  have e : (W.alloc (.cells (ints l).toArray e)).heap[W.heap.size]? = some (.cells (ints l).toArray e) := by rw [← World.alloc_eq]; simp
  simp only [World.cell?, e, Nat.zero_add]
  simpa using hj

set_option maxHeartbeats 2000000 in
theorem inputs_any (w : World) (n : VN) (p : NP) : Calls Tryz.prog 124 #[nodeV n p] w (ListPost (ins n) w) := by
  obtain ⟨op, lf, rt, tb, ks, ct, cols, ots, sums⟩ := n
  obtain ⟨kv, cv, ov, sv⟩ := p
  unfold nodeV ins
  simp only
  go_enter Tryz.func124, Tryz.ntmps124
  by_cases h1 : op = 1
  · subst h1
    go_wp2
    go_ret
    exact ⟨none, 0, rfl, fun F _ => ⟨none, 0, rfl, by simp, by simp [maxLen], by simp [ints], fun h => by simp at h⟩, (Below.refl _ _).alloc (Nat.le_refl _) _⟩
  · by_cases h4 : op = 4 ∨ op = 5
    · simp only [h1, h4, if_true, if_false]
      obtain rfl | rfl := h4
      all_goals
        go_wp2
        go_ret
        exact ⟨_, _, rfl, fun F hF => IntsIn.fresh _ (w.heap.size + 1) (by simp) [lf, rt] (by simp [maxLen]) 3 F (fun k hk => by have := hF k hk; omega), ((Below.refl _ _).alloc (Nat.le_refl _) _).alloc (by simp) _⟩
    · simp only [h1, h4, if_false]
      have h4a : (op == 4) = false := by simp; omega
      have h4b : (op == 5) = false := by simp; omega
      have h1a : (op == 1) = false := by simp; omega
      clear h4
      go_wp2
      go_ret
      exact ⟨_, _, rfl, fun F hF => IntsIn.fresh _ (w.heap.size + 1) (by simp) [lf] (by simp [maxLen]) 3 F (fun k hk => by have := hF k hk; omega), ((Below.refl _ _).alloc (Nat.le_refl _) _).alloc (by simp) _⟩
end Go.Proofs.YtjoinhljdbljaaaGreat.Old
