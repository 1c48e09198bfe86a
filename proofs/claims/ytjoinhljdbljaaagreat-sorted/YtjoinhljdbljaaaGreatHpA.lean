/- Heaps as lists: what siftUp and siftDown keep, and that the first item is the least. -/

namespace Go.Proofs.YtjoinhljdbljaaaGreat

/-- A test 'comes ahead' by which things can be ordered: nothing is ahead of what is ahead of it, and 'not ahead' goes on. -/
structure Law {α : Type} (lt : α → α → Bool) : Prop where
  asymm : ∀ a b, lt a b = true → lt b a = false
  trans : ∀ a b c, lt a b = false → lt b c = false → lt a c = false

theorem Law.irrefl {α : Type} {lt : α → α → Bool} (h : Law lt) (a : α) : lt a a = false := by
  cases e : lt a a with
  | false => rfl
  | true => have := h.asymm a a e; rw [e] at this; exact this

def swapL {α : Type} (l : List α) (i j : Nat) (hi : i < l.length) (hj : j < l.length) : List α := (l.set i l[j]).set j l[i]

theorem swapL_len {α : Type} (l : List α) (i j : Nat) (hi : i < l.length) (hj : j < l.length) : (swapL l i j hi hj).length = l.length := by simp [swapL]

theorem swapL_get {α : Type} (l : List α) (i j : Nat) (hi : i < l.length) (hj : j < l.length) (k : Nat) (hk : k < l.length) :
    (swapL l i j hi hj)[k]'(by rw [swapL_len]; exact hk) = if k = j then l[i] else if k = i then l[j] else l[k] := by
  simp only [swapL, List.getElem_set]
  by_cases h1 : j = k
  · simp [h1]
  · by_cases h2 : i = k
    · simp [h1, h2]
      try (intro h; exact absurd h.symm h1)
    · rw [if_neg h1, if_neg h2, if_neg (fun h => h1 h.symm), if_neg (fun h => h2 h.symm)]

theorem set_perm {α : Type} (l : List α) (i : Nat) (hi : i < l.length) (x : α) : (l[i] :: l.set i x).Perm (x :: l) := by
  induction l generalizing i with
  | nil => simp at hi
  | cons a l ih =>
    cases i with
    | zero => simpa using List.Perm.swap x a l
    | succ i =>
      simp only [List.getElem_cons_succ, List.set_cons_succ]
      refine (List.Perm.swap a _ _).trans ?_
      exact ((ih i (by simpa using hi)).cons a).trans (List.Perm.swap x a l)

theorem swapL_perm {α : Type} (l : List α) (i j : Nat) (hi : i < l.length) (hj : j < l.length) : (swapL l i j hi hj).Perm l := by
  by_cases e : i = j
  · subst e
    have : swapL l i i hi hj = l := by simp [swapL]
    rw [this]
  · have h1 := set_perm l i hi l[j]
    have h2 := set_perm (l.set i l[j]) j (by simpa using hj) l[i]
    rw [List.getElem_set_ne e] at h2
    exact ((h2.trans h1).cons_inv)

variable {α : Type} {lt : α → α → Bool}

def HeapOK (lt : α → α → Bool) (l : List α) : Prop := ∀ i (h : i < l.length), 0 < i → lt l[i] (l[(i - 1) / 2]'(by omega)) = false

/-- All is in order but 'at', which may be ahead of the one above it. -/
structure UpInv (lt : α → α → Bool) (l : List α) (at' : Nat) : Prop where
  here : at' < l.length
  ok : ∀ i (h : i < l.length), 0 < i → i ≠ at' → lt l[i] (l[(i - 1) / 2]'(by omega)) = false
  kids : ∀ i (h : i < l.length), 0 < i → (i - 1) / 2 = at' → 0 < at' → lt l[i] (l[(at' - 1) / 2]'(by omega)) = false

theorem UpInv.zero {l : List α} (h : UpInv lt l 0) : HeapOK lt l := fun i hi h0 => h.ok i hi h0 (by omega)
theorem UpInv.done {l : List α} {k : Nat} (h : UpInv lt l k) (hk : 0 < k) (hn : lt (l[k]'h.here) (l[(k - 1) / 2]'(by have := h.here; omega)) = false) : HeapOK lt l := by
  intro i hi h0
  by_cases e : i = k
  · subst e; exact hn
  · exact h.ok i hi h0 e

theorem UpInv.push {l : List α} (h : HeapOK lt l) (x : α) : UpInv lt (l ++ [x]) l.length := by
  refine ⟨by simp, fun i hi h0 hne => ?_, fun i hi h0 he _ => ?_⟩
  · have hl : i < l.length := by simp at hi; omega
    rw [List.getElem_append_left hl, List.getElem_append_left (by omega)]
    exact h i hl h0
  · simp at hi; omega

theorem UpInv.step (L : Law lt) {l : List α} {k : Nat} (h : UpInv lt l k) (hk : 0 < k) (hn : lt (l[k]'h.here) (l[(k - 1) / 2]'(by have := h.here; omega)) = true) :
    UpInv lt (swapL l k ((k - 1) / 2) h.here (by have := h.here; omega)) ((k - 1) / 2) := by
  have hh := h.here
  have hp : (k - 1) / 2 < l.length := by omega
  refine ⟨by rw [swapL_len]; omega, fun i hi h0 hne => ?_, fun i hi h0 he hp0 => ?_⟩
  · rw [swapL_len] at hi
    rw [swapL_get l k _ hh hp i hi, swapL_get l k _ hh hp _ (by omega)]
    rw [if_neg hne]
    by_cases e : i = k
    · subst e
      rw [if_pos rfl, if_pos rfl]
      exact L.asymm _ _ hn
    · rw [if_neg e]
      by_cases e2 : (i - 1) / 2 = (k - 1) / 2
      · rw [if_pos e2]
        refine L.trans _ _ _ ?_ (L.asymm _ _ hn)
        have := h.ok i hi h0 e
        simp only [e2] at this
        exact this
      · rw [if_neg e2]
        by_cases e3 : (i - 1) / 2 = k
        · rw [if_pos e3]
          exact h.kids i hi h0 e3 hk
        · rw [if_neg e3]
          exact h.ok i hi h0 e
  · rw [swapL_len] at hi
    rw [swapL_get l k _ hh hp i hi, swapL_get l k _ hh hp _ (by omega)]
    rw [if_neg (by omega : ¬ i = (k - 1) / 2), if_neg (by omega : ¬ ((k - 1) / 2 - 1) / 2 = (k - 1) / 2), if_neg (by omega : ¬ ((k - 1) / 2 - 1) / 2 = k)]
    have hup := h.ok ((k - 1) / 2) hp hp0 (by omega)
    by_cases e : i = k
    · subst e; rw [if_pos rfl]; exact hup
    · rw [if_neg e]
      refine L.trans _ _ _ ?_ hup
      have := h.ok i hi h0 e
      simp only [he] at this
      exact this

/-- All is in order but 'at', of which those below may be ahead. -/
structure DownInv (lt : α → α → Bool) (l : List α) (at' : Nat) : Prop where
  ok : ∀ i (h : i < l.length), 0 < i → (i - 1) / 2 ≠ at' → lt l[i] (l[(i - 1) / 2]'(by omega)) = false
  kids : ∀ i (h : i < l.length), 0 < i → (i - 1) / 2 = at' → 0 < at' → lt l[i] (l[((i - 1) / 2 - 1) / 2]'(by omega)) = false

/-- m is the least of 'at' and those below it. -/
structure LeastOf (lt : α → α → Bool) (l : List α) (k m n : Nat) : Prop where
  hk : k < l.length
  hm : m < l.length
  who : m = k ∨ (m = 2 * k + 1 ∨ m = 2 * k + 2)
  ahead : m ≠ k → lt l[m] l[k] = true
  le : ∀ j (h : j < l.length), 2 * k + 1 ≤ j → j < n → j ≤ 2 * k + 2 → lt l[j] l[m] = false

theorem LeastOf.start {l : List α} {k : Nat} (h : k < l.length) : LeastOf lt l k k (2 * k + 1) := ⟨h, h, .inl rfl, fun h => absurd rfl h, fun j _ h1 h2 _ => by omega⟩
theorem LeastOf.keep {l : List α} {k m n : Nat} (h : LeastOf lt l k m n) (hn : n < l.length) (hf : lt l[n] (l[m]'h.hm) = false) : LeastOf lt l k m (n + 1) := by
  refine ⟨h.hk, h.hm, h.who, h.ahead, fun j hj h1 h2 h3 => ?_⟩
  by_cases e : j = n
  · subst e; exact hf
  · exact h.le j hj h1 (by omega) h3
theorem LeastOf.take (L : Law lt) {l : List α} {k m n : Nat} (h : LeastOf lt l k m n) (hn : n < l.length) (h1 : 2 * k + 1 ≤ n) (h2 : n ≤ 2 * k + 2) (ht : lt l[n] (l[m]'h.hm) = true) : LeastOf lt l k n (n + 1) := by
  refine ⟨h.hk, hn, .inr (by omega), fun _ => ?_, fun j hj h3 h4 h5 => ?_⟩
  · by_cases e : m = k
    · subst e; exact ht
    · have ha := h.ahead e
      cases e2 : lt l[n] (l[k]'h.hk) with
      | true => rfl
      | false =>
        have := L.trans _ _ _ e2 (L.asymm _ _ ha)
        rw [ht] at this; cases this
  · by_cases e : j = n
    · subst e; exact L.irrefl _
    · exact L.trans _ _ _ (h.le j hj h3 (by omega) h5) (L.asymm _ _ ht)

theorem DownInv.done {l : List α} {k n : Nat} (h : DownInv lt l k) (hl : LeastOf lt l k k n) (hn : n = 2 * k + 3 ∨ l.length ≤ n) : HeapOK lt l := by
  intro i hi h0
  by_cases e : (i - 1) / 2 = k
  · have := hl.le i hi (by omega) (by omega) (by omega)
    simp only [e]
    exact this
  · exact h.ok i hi h0 e

theorem DownInv.none {l : List α} {k : Nat} (h : DownInv lt l k) (hk : l.length ≤ 2 * k + 1) : HeapOK lt l := fun i hi h0 => h.ok i hi h0 (by omega)

theorem DownInv.step (L : Law lt) {l : List α} {k m n : Nat} (h : DownInv lt l k) (hl : LeastOf lt l k m n) (hmk : m ≠ k) (hn : n = 2 * k + 3 ∨ l.length ≤ n) :
    DownInv lt (swapL l k m hl.hk hl.hm) m := by
  have hk := hl.hk
  have hm := hl.hm
  have hw : (m - 1) / 2 = k := by have := hl.who; omega
  have hm0 : k < m := by have := hl.who; omega
  refine ⟨fun i hi h0 hne => ?_, fun i hi h0 he _ => ?_⟩
  · rw [swapL_len] at hi
    rw [swapL_get l k m hk hm i hi, swapL_get l k m hk hm _ (by omega)]
    rw [if_neg hne]
    by_cases e : i = m
    · subst e
      rw [if_pos rfl, if_pos hw]
      exact L.asymm _ _ (hl.ahead hmk)
    · rw [if_neg e]
      by_cases e2 : i = k
      · subst e2
        rw [if_pos rfl, if_neg (by omega)]
        have := h.kids m hm (by omega) hw h0
        simp only [hw] at this
        exact this
      · rw [if_neg e2]
        by_cases e3 : (i - 1) / 2 = k
        · rw [if_pos e3]
          exact hl.le i hi (by omega) (by omega) (by omega)
        · rw [if_neg e3]
          exact h.ok i hi h0 e3
  · rw [swapL_len] at hi
    rw [swapL_get l k m hk hm i hi, swapL_get l k m hk hm _ (by omega)]
    rw [if_neg (by omega : ¬ i = m), if_neg (by omega : ¬ i = k), if_neg (by omega : ¬ ((i - 1) / 2 - 1) / 2 = m), if_pos (by omega : ((i - 1) / 2 - 1) / 2 = k)]
    have := h.ok i hi h0 (by omega)
    simp only [he] at this
    exact this

/-- An item is put in the place of the first one. -/
theorem DownInv.first {l : List α} (h : HeapOK lt l) (x : α) : DownInv lt (l.set 0 x) 0 := by
  refine ⟨fun i hi h0 hne => ?_, fun i hi h0 he h1 => by omega⟩
  simp at hi
  rw [List.getElem_set_ne (by omega), List.getElem_set_ne (by omega)]
  exact h i hi h0

theorem HeapOK.take {l : List α} (h : HeapOK lt l) (n : Nat) : HeapOK lt (l.take n) := by
  intro i hi h0
  simp at hi
  simp only [List.getElem_take]
  exact h i (by omega) h0

theorem HeapOK.least (L : Law lt) {l : List α} (h : HeapOK lt l) (i : Nat) (hi : i < l.length) : lt l[i] (l[0]'(by omega)) = false := by
  induction i using Nat.strongRecOn with
  | _ i ih =>
    by_cases e : i = 0
    · subst e; exact L.irrefl _
    · exact L.trans _ _ _ (h i hi (by omega)) (ih ((i - 1) / 2) (by omega) (by omega))

theorem HeapOK.nil : HeapOK lt ([] : List α) := fun i h => by simp at h

/-- What Pop leaves behind, ahead of siftDown: the last item in the first one's place, one item fewer. -/
theorem pop_perm {l : List α} {x : α} (hl : 0 < l.length) (hx : l[l.length - 1]? = some x) : (l[0] :: (l.set 0 x).take (l.length - 1)).Perm l := by
  obtain ⟨a, t, rfl⟩ : ∃ a t, l = a :: t := by cases l with | nil => simp at hl | cons a t => exact ⟨a, t, rfl⟩
  simp only [List.getElem_cons_zero, List.set_cons_zero, List.length_cons, Nat.add_sub_cancel] at *
  rcases Nat.eq_zero_or_pos t.length with h0 | h0
  · have : t = [] := List.length_eq_zero_iff.1 h0
    subst this; simp
  · obtain ⟨n, hn⟩ : ∃ n, t.length = n + 1 := ⟨t.length - 1, by omega⟩
    rw [hn, List.take_succ_cons]
    rw [hn, List.getElem?_cons_succ] at hx
    have : t = t.take n ++ [x] := by
      have h1 := List.take_append_drop n t
      have h2 : t.drop n = [x] := by
        rw [List.drop_eq_getElem_cons (by omega), List.drop_of_length_le (by omega)]
        obtain ⟨_, h⟩ := List.getElem?_eq_some_iff.1 hx
        rw [h]
      rw [h2] at h1
      exact h1.symm
    refine List.Perm.cons a ?_
    have h3 : (x :: t.take n).Perm (t.take n ++ [x]) := (List.perm_append_comm (l₁ := [x]) (l₂ := t.take n))
    rwa [← this] at h3
end Go.Proofs.YtjoinhljdbljaaaGreat
