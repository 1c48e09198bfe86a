/- The order of the encoded texts, without the program: the plain functions of the walks are ordered as the rows are, and none is a beginning of another. -/
import Derived.Test.YtjoinhljdbljaaaKeyH
namespace Go.Proofs.Ytjoinhljdbljaaa

/-- the one is less than the other at a place that both have -/
def SLt (a b : List UInt8) : Prop := ∃ p c d a' b', a = p ++ c :: a' ∧ b = p ++ d :: b' ∧ c < d

theorem SLt.head {c d : UInt8} (a b : List UInt8) (h : c < d) : SLt (c :: a) (d :: b) := ⟨[], c, d, a, b, rfl, rfl, h⟩
theorem SLt.cons {a b : List UInt8} (h : SLt a b) (x : UInt8) : SLt (x :: a) (x :: b) := by
  obtain ⟨p, c, d, a', b', rfl, rfl, hc⟩ := h
  exact ⟨x :: p, c, d, a', b', rfl, rfl, hc⟩
theorem SLt.pre {a b : List UInt8} (h : SLt a b) (p : List UInt8) : SLt (p ++ a) (p ++ b) := by
  induction p with
  | nil => exact h
  | cons x p ih => exact ih.cons x
theorem SLt.app {a b : List UInt8} (h : SLt a b) (u v : List UInt8) : SLt (a ++ u) (b ++ v) := by
  obtain ⟨p, c, d, a', b', rfl, rfl, hc⟩ := h
  exact ⟨p, c, d, a' ++ u, b' ++ v, by simp, by simp, hc⟩
theorem inv_lt {c d : UInt8} (h : c < d) : inv d < inv c := by
  rw [UInt8.lt_iff_toNat_lt] at *
  rw [inv_toNat, inv_toNat]
  have := d.toNat_lt
  omega
theorem SLt.inv {a b : List UInt8} (h : SLt a b) : SLt (b.map inv) (a.map inv) := by
  obtain ⟨p, c, d, a', b', rfl, rfl, hc⟩ := h
  exact ⟨p.map Ytjoinhljdbljaaa.inv, Ytjoinhljdbljaaa.inv d, Ytjoinhljdbljaaa.inv c, _, _, by simp; rfl, by simp; rfl, inv_lt hc⟩

/-! what it gives -/
theorem SLt.not_prefix {a b : List UInt8} (h : SLt a b) : b.take a.length ≠ a ∧ a.take b.length ≠ b := by
  obtain ⟨p, c, d, a', b', rfl, rfl, hc⟩ := h
  have hne : c ≠ d := fun e => by subst e; exact UInt8.lt_irrefl _ hc
  constructor
  · intro e
    have := congrArg (fun l => l[p.length]?) e
    simp at this
    exact hne this.symm
  · intro e
    have := congrArg (fun l => l[p.length]?) e
    simp at this
    exact hne this
theorem SLt.ne {a b : List UInt8} (h : SLt a b) : a ≠ b := fun e => by
  subst e
  exact h.not_prefix.1 (List.take_length)

theorem less_cons (a b : UInt8) (l m : List UInt8) : Op.bytesLess (a :: l) (b :: m) = if a < b then true else if b < a then false else Op.bytesLess l m := by
  rw [Op.bytesLess]
  by_cases h1 : a < b
  · simp [h1]
  · by_cases h2 : b < a
    · have : a ≠ b := fun e => by subst e; exact h1 h2
      simp [h1, h2, this]
    · have : a = b := UInt8.le_antisymm (UInt8.not_lt.1 h2) (UInt8.not_lt.1 h1)
      subst this
      simp [h1]
theorem SLt.less {a b : List UInt8} (h : SLt a b) : Op.bytesLess a b = true ∧ Op.bytesLess b a = false := by
  obtain ⟨p, c, d, a', b', rfl, rfl, hc⟩ := h
  induction p with
  | nil =>
    simp only [List.nil_append]
    rw [less_cons, less_cons]
    have : ¬ d < c := fun e => UInt8.lt_irrefl _ (UInt8.lt_trans hc e)
    simp [hc, this]
  | cons x p ih =>
    simp only [List.cons_append]
    rw [less_cons, less_cons]
    simpa using ih

/-! texts -/
theorem esc_less : ∀ (l m : List UInt8), Op.bytesLess l m = true → SLt (esc l ++ [0, 0]) (esc m ++ [0, 0])
  | _, [], h => by simp [Op.bytesLess] at h
  | [], b :: m, _ => by
    rw [esc_cons]
    by_cases hb : b = 0
    · subst hb
      exact (SLt.head [] _ (show (0 : UInt8) < 255 by decide)).cons 0
    · rw [if_neg hb]
      exact SLt.head _ _ (by rw [UInt8.lt_iff_toNat_lt]; have : b.toNat ≠ 0 := fun e => hb (UInt8.toNat_inj.1 e); show 0 < _; omega)
  | a :: l, b :: m, h => by
    rw [esc_cons, esc_cons]
    rw [less_cons] at h
    by_cases h1 : a < b
    · have hb : b ≠ 0 := fun e => by subst e; rw [UInt8.lt_iff_toNat_lt] at h1; exact absurd h1 (Nat.not_lt_zero _)
      rw [if_neg hb]
      by_cases ha : a = 0
      · subst ha
        exact SLt.head _ _ h1
      · rw [if_neg ha]
        exact SLt.head _ _ h1
    · rw [if_neg h1] at h
      by_cases h2 : b < a
      · simp [h2] at h
      · rw [if_neg h2] at h
        have : a = b := UInt8.le_antisymm (UInt8.not_lt.1 h2) (UInt8.not_lt.1 h1)
        subst this
        have ih := esc_less l m h
        rw [List.append_assoc, List.append_assoc]
        exact ih.pre _

theorem less_total : ∀ (l m : List UInt8), l ≠ m → Op.bytesLess l m = false → Op.bytesLess m l = true
  | [], [], h, _ => absurd rfl h
  | a :: l, [], _, _ => by simp [Op.bytesLess]
  | [], b :: m, _, h => by simp [Op.bytesLess] at h
  | a :: l, b :: m, h, h' => by
    rw [less_cons] at *
    by_cases h1 : a < b
    · simp [h1] at h'
    · by_cases h2 : b < a
      · simp [h2]
      · have : a = b := UInt8.le_antisymm (UInt8.not_lt.1 h2) (UInt8.not_lt.1 h1)
        subst this
        rw [if_neg h1, if_neg h1] at *
        exact less_total l m (fun e => h (by rw [e])) h'

theorem encText_order (s t : ByteArray) (h : s ≠ t) : if Op.bytesLess s.toList t.toList then SLt (encText s) (encText t) else SLt (encText t) (encText s) := by
  rw [ByteArray.toList_eq, ByteArray.toList_eq]
  have hne : s.data.toList ≠ t.data.toList := fun e => h (Go.WideShapes.bytes_inj e)
  cases hb : Op.bytesLess s.data.toList t.data.toList with
  | true => exact esc_less _ _ hb
  | false => exact esc_less _ _ (less_total _ _ hne hb)

/-! numbers -/
def encN : Nat → Nat → List UInt8
  | 0, _ => []
  | k + 1, u => UInt8.ofNat (u / 256 ^ k % 256) :: encN k u

theorem encN_mod (k u m : Nat) (h : k ≤ m) : encN k (u % 256 ^ m) = encN k u := by
  induction k with
  | zero => rfl
  | succ k ih =>
    rw [encN, encN, ih (by omega)]
    congr 2
    have e : 256 ^ m = 256 ^ (k + 1) * 256 ^ (m - (k + 1)) := by rw [← Nat.pow_add]; congr 1; omega
    have e2 : (256 : Nat) ^ (k + 1) = 256 ^ k * 256 := rfl
    rw [e, e2]
    have := Nat.mod_mul_right_mod u (256 ^ k * 256) (256 ^ (m - (k + 1)))
    calc u % (256 ^ k * 256 * 256 ^ (m - (k + 1))) / 256 ^ k % 256
        = u % (256 ^ k * 256 * 256 ^ (m - (k + 1))) % (256 ^ k * 256) / 256 ^ k := by rw [Nat.mod_mul_right_div_self]
      _ = u % (256 ^ k * 256) / 256 ^ k := by rw [this]
      _ = u / 256 ^ k % 256 := by rw [Nat.mod_mul_right_div_self]

theorem encN_order : ∀ (k u v : Nat), u < 256 ^ k → v < 256 ^ k → u < v → SLt (encN k u) (encN k v)
  | 0, u, v, h1, h2, h => by simp at h1 h2; omega
  | k + 1, u, v, h1, h2, h => by
    have hp : 0 < 256 ^ k := Nat.pow_pos (by decide)
    have q1 : u / 256 ^ k < 256 := by rw [Nat.div_lt_iff_lt_mul hp, Nat.mul_comm]; exact h1
    have q2 : v / 256 ^ k < 256 := by rw [Nat.div_lt_iff_lt_mul hp, Nat.mul_comm]; exact h2
    have hle : u / 256 ^ k ≤ v / 256 ^ k := Nat.div_le_div_right (Nat.le_of_lt h)
    rw [encN, encN, Nat.mod_eq_of_lt q1, Nat.mod_eq_of_lt q2]
    rcases Nat.lt_or_eq_of_le hle with hlt | heq
    · exact SLt.head _ _ (by rw [UInt8.lt_iff_toNat_lt, UInt8.toNat_ofNat', UInt8.toNat_ofNat', Nat.mod_eq_of_lt q1, Nat.mod_eq_of_lt q2]; exact hlt)
    · rw [heq]
      refine SLt.cons ?_ _
      rw [← encN_mod k u k (Nat.le_refl _), ← encN_mod k v k (Nat.le_refl _)]
      refine encN_order k _ _ (Nat.mod_lt _ hp) (Nat.mod_lt _ hp) ?_
      have e1 := Nat.div_add_mod u (256 ^ k)
      have e2 := Nat.div_add_mod v (256 ^ k)
      rw [heq] at e1
      omega

theorem encNat_eq (u : Nat) : encNat u = encN 8 u := by
  simp [encNat, encN, by8, List.range, List.range.loop]

theorem encInt_order (n m : Int) (hn : I64 n) (hm : I64 m) (h : n < m) : SLt (encInt n) (encInt m) := by
  unfold encInt
  rw [encNat_eq, encNat_eq]
  have e : (256 : Nat) ^ 8 = 18446744073709551616 := by decide
  unfold I64 at hn hm
  refine encN_order 8 _ _ ?_ ?_ ?_
  · rw [e]; unfold up; omega
  · rw [e]; unfold up; omega
  · unfold up; omega

/-! values -/
theorem present_order (x y : V) (hx : Solid x) (hy : Solid y) (hk : x.k = y.k) (hne : ¬ (x.n = y.n ∧ x.s = y.s)) : if lessV x y then SLt (encPresent x) (encPresent y) else SLt (encPresent y) (encPresent x) := by
  obtain ⟨k, n, s⟩ := x
  obtain ⟨k', n', s'⟩ := y
  simp only at hk hne
  subst hk
  rcases hx with ⟨h, hn, hs⟩ | ⟨h, hn, _⟩ | ⟨h, hn, hs⟩
  · simp only at h hn hs
    subst h hs
    rcases hy with ⟨_, hn', hs'⟩ | ⟨h', _⟩ | ⟨h', _⟩
    · simp only at hn' hs'
      subst hs'
      simp only [lessV, encPresent, if_true, Op.bytesLess, ByteArray.toList_eq]
      have hnn : n ≠ n' := fun e => hne ⟨e, rfl⟩
      by_cases hlt : n < n'
      · simp [hlt, encInt_order n n' hn hn' hlt]
      · simp [hlt, encInt_order n' n hn' hn (by omega)]
    · simp at h'
    · simp at h'
  · simp only at h hn
    subst h hn
    rcases hy with ⟨h', _⟩ | ⟨_, hn', _⟩ | ⟨h', _⟩
    · simp at h'
    · simp only at hn'
      subst hn'
      have hss : s ≠ s' := fun e => hne ⟨rfl, e⟩
      have := encText_order s s' hss
      simpa [lessV, encPresent] using this
    · simp at h'
  · simp only at h hn hs
    subst h hs
    rcases hy with ⟨h', _⟩ | ⟨h', _⟩ | ⟨_, hn', hs'⟩
    · simp at h'
    · simp at h'
    · simp only at hn' hs'
      subst hs'
      rcases hn with rfl | rfl <;> rcases hn' with rfl | rfl
      · exact absurd ⟨rfl, rfl⟩ hne
      · simp [lessV, encPresent, Op.bytesLess, ByteArray.toList_eq]
        exact SLt.head _ _ (by decide)
      · simp [lessV, encPresent, Op.bytesLess, ByteArray.toList_eq]
        exact SLt.head _ _ (by decide)
      · exact absurd ⟨rfl, rfl⟩ hne

/-- how two texts stand, by a number -/
def Stand (r : Int) (a b : List UInt8) : Prop := (r = 0 ∧ a = b) ∨ (r = 1 ∧ SLt a b) ∨ (r = -1 ∧ SLt b a)

theorem value_order (x y : V) (q : K) (h : Pair x y) : Stand (aheadV x y q) (encValue x q) (encValue y q) := by
  obtain ⟨hx, hy, hk⟩ := h
  unfold aheadV encValue
  rcases hx with hx | hx
  · rw [if_pos hx.1, if_pos hx.1]
    rcases hy with hy | hy
    · rw [if_pos hy.1, if_pos hy.1]; exact Or.inl ⟨rfl, rfl⟩
    · rw [if_neg hy.pos, if_neg hy.pos]
      cases hl : q.l with
      | true => exact Or.inr (Or.inr ⟨by simp, SLt.head _ _ (by decide)⟩)
      | false => exact Or.inr (Or.inl ⟨by simp, SLt.head _ _ (by decide)⟩)
  · rw [if_neg hx.pos, if_neg hx.pos]
    rcases hy with hy | hy
    · rw [if_pos hy.1, if_pos hy.1]
      cases hl : q.l with
      | true => exact Or.inr (Or.inl ⟨by simp, SLt.head _ _ (by decide)⟩)
      | false => exact Or.inr (Or.inr ⟨by simp, SLt.head _ _ (by decide)⟩)
    · rw [if_neg hy.pos, if_neg hy.pos]
      have hkk : x.k = y.k := by
        rcases hk with h | h | h
        · exact absurd h hx.pos
        · exact absurd h hy.pos
        · exact h
      by_cases hs : x.n = y.n ∧ x.s = y.s
      · rw [if_pos hs]
        have : x = y := by
          obtain ⟨k, n, s⟩ := x
          obtain ⟨k', n', s'⟩ := y
          simp only at hkk hs
          rw [hkk, hs.1, hs.2]
        exact Or.inl ⟨rfl, by rw [this]⟩
      · rw [if_neg hs]
        have ho := present_order x y hx hy hkk hs
        cases hl : lessV x y with
        | true =>
          rw [hl] at ho
          simp only [if_true] at ho
          cases hd : q.d with
          | true => exact Or.inr (Or.inr ⟨by simp, (by simpa using ho.inv : SLt ((encPresent y).map inv) ((encPresent x).map inv)).cons 1⟩)
          | false => exact Or.inr (Or.inl ⟨by simp, ho.cons 1⟩)
        | false =>
          rw [hl] at ho
          simp only [Bool.false_eq_true, if_false] at ho
          cases hd : q.d with
          | true => exact Or.inr (Or.inl ⟨by simp, (ho.inv).cons 1⟩)
          | false => exact Or.inr (Or.inr ⟨by simp, ho.cons 1⟩)

theorem nul_pair : Pair nul nul := ⟨Or.inl ⟨rfl, rfl, rfl⟩, Or.inl ⟨rfl, rfl, rfl⟩, Or.inl rfl⟩

theorem keys_order (xs ys : List V) (hl : ys.length = xs.length) (hp : ∀ i (h : i < xs.length), Pair xs[i] ys[i]) (ks : List K) : Stand (aheadL xs ys ks) (encKeys xs ks) (encKeys ys ks) := by
  induction ks with
  | nil => exact Or.inl ⟨rfl, rfl⟩
  | cons q ks ih =>
    have hpr : Pair (xs.getD q.c.toNat nul) (ys.getD q.c.toNat nul) := by
      by_cases h : q.c.toNat < xs.length
      · have := hp _ h
        simpa [List.getD, h, hl] using this
      · simp only [List.getD, List.getElem?_eq_none (Nat.le_of_not_lt h), List.getElem?_eq_none (show ys.length ≤ q.c.toNat by omega)]
        exact nul_pair
    have hv := value_order _ _ q hpr
    rw [encKeys_cons, encKeys_cons]
    show Stand _ (encValue (xs.getD q.c.toNat nul) q ++ _) (encValue (ys.getD q.c.toNat nul) q ++ _)
    rcases hv with ⟨h0, he⟩ | ⟨h1, hs⟩ | ⟨h1, hs⟩
    · rw [aheadL_zero h0, he]
      rcases ih with ⟨a, b⟩ | ⟨a, b⟩ | ⟨a, b⟩
      · exact Or.inl ⟨a, by rw [b]⟩
      · exact Or.inr (Or.inl ⟨a, b.pre _⟩)
      · exact Or.inr (Or.inr ⟨a, b.pre _⟩)
    · rw [aheadL_one h1 (by decide)]
      exact Or.inr (Or.inl ⟨rfl, hs.app _ _⟩)
    · rw [aheadL_one h1 (by decide)]
      exact Or.inr (Or.inr ⟨rfl, hs.app _ _⟩)
end Go.Proofs.Ytjoinhljdbljaaa
