/- Lists in memory that are only read: numbers, values, keys, sums, rows, tables, nodes. -/
import Derived.Test.YtjoinhljdbljaaaDskB
import Derived.Test.YtjoinhljdbljaaaKeyJ
namespace Go.Proofs.Ytjoinhljdbljaaa
open Go.RowKit
open Go.ChangeMaps (setBlock)

/-- what stands outside F stays; F' has what F had, or new blocks -/
def Step (F F' : List Nat) (w w' : World) : Prop := Touch F w w' ∧ ∀ k ∈ F', k ∈ F ∨ w.heap.size ≤ k
theorem Step.refl (F : List Nat) (w : World) : Step F F w w := ⟨Touch.refl _ _, fun _ h => Or.inl h⟩
theorem Step.trans {F F' F'' : List Nat} {w w' w'' : World} (h : Step F F' w w') (k : Step F' F'' w' w'') : Step F F'' w w'' := by
  have hs := h.1.size
  refine ⟨⟨k.1.os.trans h.1.os, k.1.tape.trans h.1.tape, k.1.output.trans h.1.output, Nat.le_trans hs k.1.size, fun i hi hn => ?_⟩, fun i hi => ?_⟩
  · rw [k.1.block i (by omega) (fun e => ?_)]
    · exact h.1.block i hi hn
    · rcases h.2 i e with e | e
      · exact hn e
      · omega
  · rcases k.2 i hi with e | e
    · exact h.2 i e
    · exact Or.inr (by omega)
theorem Step.of {F : List Nat} {w w' : World} (h : Touch [] w w') : Step F F w w' := ⟨h.mono (by simp), fun _ h => Or.inl h⟩

theorem cell_step {F F' : List Nat} {w w' : World} {p : Addr} {u : Value} (hs : Step F F' w w') (hF : p.block ∉ F) (h : w.cell? p = some u) : w'.cell? p = some u ∧ p.block ∉ F' := by
  have hl := World.block_lt_of_cell? w p h
  have hb : w'.heap[p.block]? = w.heap[p.block]? := hs.1.block _ hl hF
  refine ⟨by rw [World.cell?_of_block (w := w) hb]; exact h, fun e => ?_⟩
  rcases hs.2 _ e with e | e
  · exact hF e
  · omega

/-- n elements of sz cells each, in a slice -/
def LiesC (w : World) (F : List Nat) (v : Value) (sz n : Nat) (cs : List Value) : Prop :=
  ∃ ao cap, v = .slice ao n cap ∧ n ≤ cap ∧ cap ≤ maxLen ∧ cs.length = n * sz ∧ (1 ≤ n → ∃ b off, ao = some ⟨b, off, none⟩ ∧ b ∉ F ∧ ∀ j u, cs[j]? = some u → w.cell? ⟨b, off + j, none⟩ = some u)

theorem LiesC.step {F F' : List Nat} {w w' : World} {v : Value} {sz n : Nat} {cs : List Value} (h : LiesC w F v sz n cs) (hsz : 1 ≤ sz) (hs : Step F F' w w') : LiesC w' F' v sz n cs := by
  obtain ⟨ao, cap, rfl, hc, hm, hl, hx⟩ := h
  refine ⟨ao, cap, rfl, hc, hm, hl, fun hn => ?_⟩
  obtain ⟨b, off, rfl, hb, hx⟩ := hx hn
  have h0 : 0 < cs.length := by rw [hl]; exact Nat.mul_pos (by omega) (by omega)
  refine ⟨b, off, rfl, (cell_step (p := ⟨b, off + 0, none⟩) hs hb (hx 0 _ (List.getElem?_eq_getElem h0))).2, fun j u hj => (cell_step (p := ⟨b, off + j, none⟩) hs hb (hx j u hj)).1⟩

def ints (l : List Int) : List Value := l.map (Value.int .i64)
def IntsIn (w : World) (F : List Nat) (v : Value) (l : List Int) : Prop := LiesC w F v 1 l.length (ints l)
def ValsIn (w : World) (F : List Nat) (v : Value) (l : List V) : Prop := LiesC w F v 3 l.length (t3s (l.map V.t))
def KeysIn (w : World) (F : List Nat) (v : Value) (l : List K) : Prop := LiesC w F v 3 l.length (t3s (l.map K.t))
structure VS where
  op : Int
  col : Int
def sums2 (l : List VS) : List Value := l.flatMap fun s => [.int .i64 s.op, .int .i64 s.col]
def SumsIn (w : World) (F : List Nat) (v : Value) (l : List VS) : Prop := LiesC w F v 2 l.length (sums2 l)
def RowsIn (w : World) (F : List Nat) (v : Value) (rows : List (List V)) : Prop :=
  ∃ vs : List Value, vs.length = rows.length ∧ LiesC w F v 1 rows.length vs ∧ ∀ (i : Nat) r u, rows[i]? = some r → vs[i]? = some u → ValsIn w F u r
structure VT where
  name : ByteArray
  kinds : List Int
  rows : List (List V)
abbrev TP := ByteArray × Value × Value
def tabs3 (l : List TP) : List Value := l.flatMap fun p => [.string p.1, p.2.1, p.2.2]
def TabIn (w : World) (F : List Nat) (p : TP) (t : VT) : Prop := p.1 = t.name ∧ IntsIn w F p.2.1 t.kinds ∧ RowsIn w F p.2.2 t.rows
def TabsIn (w : World) (F : List Nat) (v : Value) (T : List VT) : Prop :=
  ∃ ps : List TP, ps.length = T.length ∧ LiesC w F v 3 T.length (tabs3 ps) ∧ ∀ (i : Nat) t p, T[i]? = some t → ps[i]? = some p → TabIn w F p t
structure VN where
  op : Int
  left : Int
  right : Int
  table : ByteArray
  keys : List K
  count : Int
  cols : List Int
  others : List Int
  sums : List VS
abbrev NP := Value × Value × Value × Value
def nodeCells (n : VN) (p : NP) : List Value := [.int .i64 n.op, .int .i64 n.left, .int .i64 n.right, .string n.table, p.1, .int .i64 n.count, p.2.1, p.2.2.1, p.2.2.2]
def nodeV (n : VN) (p : NP) : Value := .agg #[.int .i64 n.op, .int .i64 n.left, .int .i64 n.right, .string n.table, p.1, .int .i64 n.count, p.2.1, p.2.2.1, p.2.2.2]
def NodeIn (w : World) (F : List Nat) (p : NP) (n : VN) : Prop := KeysIn w F p.1 n.keys ∧ IntsIn w F p.2.1 n.cols ∧ IntsIn w F p.2.2.1 n.others ∧ SumsIn w F p.2.2.2 n.sums
def nodes9 (l : List (VN × NP)) : List Value := l.flatMap fun x => nodeCells x.1 x.2
def NodesIn (w : World) (F : List Nat) (v : Value) (N : List VN) : Prop :=
  ∃ ps : List NP, ps.length = N.length ∧ LiesC w F v 9 N.length (nodes9 (N.zip ps)) ∧ ∀ (i : Nat) n p, N[i]? = some n → ps[i]? = some p → NodeIn w F p n

theorem IntsIn.step {F F' : List Nat} {w w' : World} {v : Value} {l : List Int} (h : IntsIn w F v l) (hs : Step F F' w w') : IntsIn w' F' v l := LiesC.step h (by omega) hs
theorem ValsIn.step {F F' : List Nat} {w w' : World} {v : Value} {l : List V} (h : ValsIn w F v l) (hs : Step F F' w w') : ValsIn w' F' v l := LiesC.step h (by omega) hs
theorem KeysIn.step {F F' : List Nat} {w w' : World} {v : Value} {l : List K} (h : KeysIn w F v l) (hs : Step F F' w w') : KeysIn w' F' v l := LiesC.step h (by omega) hs
theorem SumsIn.step {F F' : List Nat} {w w' : World} {v : Value} {l : List VS} (h : SumsIn w F v l) (hs : Step F F' w w') : SumsIn w' F' v l := LiesC.step h (by omega) hs
theorem RowsIn.step {F F' : List Nat} {w w' : World} {v : Value} {l : List (List V)} (h : RowsIn w F v l) (hs : Step F F' w w') : RowsIn w' F' v l := by
  obtain ⟨vs, hl, hv, hx⟩ := h
  exact ⟨vs, hl, hv.step (by omega) hs, fun i r u hr hu => (hx i r u hr hu).step hs⟩
theorem TabIn.step {F F' : List Nat} {w w' : World} {p : TP} {t : VT} (h : TabIn w F p t) (hs : Step F F' w w') : TabIn w' F' p t := ⟨h.1, h.2.1.step hs, h.2.2.step hs⟩
theorem TabsIn.step {F F' : List Nat} {w w' : World} {v : Value} {T : List VT} (h : TabsIn w F v T) (hs : Step F F' w w') : TabsIn w' F' v T := by
  obtain ⟨ps, hl, hv, hx⟩ := h
  exact ⟨ps, hl, hv.step (by omega) hs, fun i r u hr hu => (hx i r u hr hu).step hs⟩
theorem NodeIn.step {F F' : List Nat} {w w' : World} {p : NP} {n : VN} (h : NodeIn w F p n) (hs : Step F F' w w') : NodeIn w' F' p n := ⟨h.1.step hs, h.2.1.step hs, h.2.2.1.step hs, h.2.2.2.step hs⟩
theorem NodesIn.step {F F' : List Nat} {w w' : World} {v : Value} {N : List VN} (h : NodesIn w F v N) (hs : Step F F' w w') : NodesIn w' F' v N := by
  obtain ⟨ps, hl, hv, hx⟩ := h
  exact ⟨ps, hl, hv.step (by omega) hs, fun i r u hr hu => (hx i r u hr hu).step hs⟩

/-- a list of numbers: its cells -/
theorem IntsIn.open {F : List Nat} {w : World} {v : Value} {l : List Int} (h : IntsIn w F v l) : ∃ ao cap, v = .slice ao l.length cap ∧ l.length ≤ cap ∧ cap ≤ maxLen ∧ (1 ≤ l.length → ∃ b off, ao = some ⟨b, off, none⟩ ∧ ∀ i (h : i < l.length), w.cell? ⟨b, off + i, none⟩ = some (.int .i64 l[i])) := by
  obtain ⟨ao, cap, rfl, hc, hm, hl, hx⟩ := h
  refine ⟨ao, cap, rfl, hc, hm, fun hn => ?_⟩
  obtain ⟨b, off, rfl, _, hx⟩ := hx hn
  exact ⟨b, off, rfl, fun i hi => hx i _ (by simp [ints, hi])⟩
theorem t3_open {F : List Nat} {w : World} {v : Value} {l : List T3} (h : LiesC w F v 3 l.length (t3s l)) : ∃ ao cap, v = .slice ao l.length cap ∧ l.length ≤ cap ∧ cap ≤ maxLen ∧ (1 ≤ l.length → ∃ b off, ao = some ⟨b, off, none⟩ ∧
    ∀ i (h : i < l.length), w.cell? ⟨b, off + i * 3, none⟩ = some l[i].1 ∧ w.cell? ⟨b, off + i * 3 + 1, none⟩ = some l[i].2.1 ∧ w.cell? ⟨b, off + i * 3 + 1 + 1, none⟩ = some l[i].2.2) := by
  obtain ⟨ao, cap, rfl, hc, hm, hl, hx⟩ := h
  refine ⟨ao, cap, rfl, hc, hm, fun hn => ?_⟩
  obtain ⟨b, off, rfl, _, hx⟩ := hx hn
  refine ⟨b, off, rfl, fun i hi => ?_⟩
  obtain ⟨h0, h1, h2⟩ := t3s_get l i hi
  exact ⟨hx _ _ h0, hx _ _ h1, hx _ _ h2⟩
theorem ValsIn.open {F : List Nat} {w : World} {v : Value} {l : List V} (h : ValsIn w F v l) : ∃ ao cap, v = .slice ao l.length cap ∧ l.length ≤ cap ∧ cap ≤ maxLen ∧ (1 ≤ l.length → ∃ b off, ao = some ⟨b, off, none⟩ ∧
    ∀ i (h : i < l.length), w.cell? ⟨b, off + i * 3, none⟩ = some (.int .i64 l[i].k) ∧ w.cell? ⟨b, off + i * 3 + 1, none⟩ = some (.int .i64 l[i].n) ∧ w.cell? ⟨b, off + i * 3 + 1 + 1, none⟩ = some (.string l[i].s)) := by
  have := t3_open (l := l.map V.t) (by simpa [ValsIn] using h)
  simpa [V.t] using this
theorem KeysIn.open {F : List Nat} {w : World} {v : Value} {l : List K} (h : KeysIn w F v l) : ∃ ao cap, v = .slice ao l.length cap ∧ l.length ≤ cap ∧ cap ≤ maxLen ∧ (1 ≤ l.length → ∃ b off, ao = some ⟨b, off, none⟩ ∧
    ∀ i (h : i < l.length), w.cell? ⟨b, off + i * 3, none⟩ = some (.int .i64 l[i].c) ∧ w.cell? ⟨b, off + i * 3 + 1, none⟩ = some (.bool l[i].d) ∧ w.cell? ⟨b, off + i * 3 + 1 + 1, none⟩ = some (.bool l[i].l)) := by
  have := t3_open (l := l.map K.t) (by simpa [KeysIn] using h)
  simpa [K.t] using this
theorem sums2_get : ∀ (l : List VS) (i : Nat) (h : i < l.length), (sums2 l)[i * 2]? = some (.int .i64 l[i].op) ∧ (sums2 l)[i * 2 + 1]? = some (.int .i64 l[i].col)
  | [], _, h => by simp at h
  | a :: l, 0, _ => by simp [sums2]
  | a :: l, i + 1, h => by
    have := sums2_get l i (by simpa using h)
    have e : sums2 (a :: l) = .int .i64 a.op :: .int .i64 a.col :: sums2 l := by simp [sums2]
    rw [e, show (i + 1) * 2 = i * 2 + 1 + 1 from by omega]
    simpa using this
theorem SumsIn.open {F : List Nat} {w : World} {v : Value} {l : List VS} (h : SumsIn w F v l) : ∃ ao cap, v = .slice ao l.length cap ∧ l.length ≤ cap ∧ cap ≤ maxLen ∧ (1 ≤ l.length → ∃ b off, ao = some ⟨b, off, none⟩ ∧
    ∀ i (h : i < l.length), w.cell? ⟨b, off + i * 2, none⟩ = some (.int .i64 l[i].op) ∧ w.cell? ⟨b, off + i * 2 + 1, none⟩ = some (.int .i64 l[i].col)) := by
  obtain ⟨ao, cap, rfl, hc, hm, hl, hx⟩ := h
  refine ⟨ao, cap, rfl, hc, hm, fun hn => ?_⟩
  obtain ⟨b, off, rfl, _, hx⟩ := hx hn
  refine ⟨b, off, rfl, fun i hi => ?_⟩
  obtain ⟨h0, h1⟩ := sums2_get l i hi
  exact ⟨hx _ _ h0, hx _ _ h1⟩
theorem RowsIn.open {F : List Nat} {w : World} {v : Value} {l : List (List V)} (h : RowsIn w F v l) : ∃ ao cap, v = .slice ao l.length cap ∧ l.length ≤ cap ∧ cap ≤ maxLen ∧ (1 ≤ l.length → ∃ b off, ao = some ⟨b, off, none⟩ ∧
    ∀ i (h : i < l.length), ∃ u, w.cell? ⟨b, off + i, none⟩ = some u ∧ ValsIn w F u l[i]) := by
  obtain ⟨vs, hl, ⟨ao, cap, rfl, hc, hm, hll, hx⟩, hv⟩ := h
  refine ⟨ao, cap, rfl, hc, hm, fun hn => ?_⟩
  obtain ⟨b, off, rfl, _, hx⟩ := hx hn
  refine ⟨b, off, rfl, fun i hi => ?_⟩
  have hi2 : i < vs.length := by omega
  exact ⟨vs[i], hx i _ (List.getElem?_eq_getElem hi2), hv i _ _ (List.getElem?_eq_getElem hi) (List.getElem?_eq_getElem hi2)⟩
theorem tabs3_get (l : List TP) (i : Nat) (h : i < l.length) : (tabs3 l)[i * 3]? = some (.string l[i].1) ∧ (tabs3 l)[i * 3 + 1]? = some l[i].2.1 ∧ (tabs3 l)[i * 3 + 1 + 1]? = some l[i].2.2 := by
  have e : tabs3 l = t3s (l.map fun p => (Value.string p.1, p.2.1, p.2.2)) := by simp [tabs3, t3s, List.flatMap_map]
  rw [e]
  have := t3s_get (l.map fun p => (Value.string p.1, p.2.1, p.2.2)) i (by simpa using h)
  simpa using this
theorem TabsIn.open {F : List Nat} {w : World} {v : Value} {l : List VT} (h : TabsIn w F v l) : ∃ ao cap, v = .slice ao l.length cap ∧ l.length ≤ cap ∧ cap ≤ maxLen ∧ (1 ≤ l.length → ∃ b off, ao = some ⟨b, off, none⟩ ∧
    ∀ i (h : i < l.length), ∃ kv rv, w.cell? ⟨b, off + i * 3, none⟩ = some (.string l[i].name) ∧ w.cell? ⟨b, off + i * 3 + 1, none⟩ = some kv ∧ w.cell? ⟨b, off + i * 3 + 1 + 1, none⟩ = some rv ∧ IntsIn w F kv l[i].kinds ∧ RowsIn w F rv l[i].rows) := by
  obtain ⟨ps, hl, ⟨ao, cap, rfl, hc, hm, hll, hx⟩, hv⟩ := h
  refine ⟨ao, cap, rfl, hc, hm, fun hn => ?_⟩
  obtain ⟨b, off, rfl, _, hx⟩ := hx hn
  refine ⟨b, off, rfl, fun i hi => ?_⟩
  have hi2 : i < ps.length := by omega
  obtain ⟨h0, h1, h2⟩ := tabs3_get ps i hi2
  obtain ⟨hv0, hv1, hv2⟩ := hv i _ _ (List.getElem?_eq_getElem hi) (List.getElem?_eq_getElem hi2)
  rw [hv0] at h0
  exact ⟨_, _, hx _ _ h0, hx _ _ h1, hx _ _ h2, hv1, hv2⟩
theorem nodes9_get : ∀ (l : List (VN × NP)) (i r : Nat) (h : i < l.length), r < 9 → (nodes9 l)[i * 9 + r]? = (nodeCells l[i].1 l[i].2)[r]?
  | [], _, _, h, _ => by simp at h
  | a :: l, 0, r, _, hr => by
    have e : nodes9 (a :: l) = nodeCells a.1 a.2 ++ nodes9 l := by simp [nodes9]
    rw [e, List.getElem?_append_left (by simp [nodeCells]; omega)]
    simp
  | a :: l, i + 1, r, h, hr => by
    have := nodes9_get l i r (by simpa using h) hr
    have e : nodes9 (a :: l) = nodeCells a.1 a.2 ++ nodes9 l := by simp [nodes9]
    rw [e, List.getElem?_append_right (by simp [nodeCells]; omega), show (i + 1) * 9 + r - (nodeCells a.1 a.2).length = i * 9 + r from by simp [nodeCells]; omega]
    simpa using this
theorem NodesIn.open {F : List Nat} {w : World} {v : Value} {l : List VN} (h : NodesIn w F v l) : ∃ ao cap, v = .slice ao l.length cap ∧ l.length ≤ cap ∧ cap ≤ maxLen ∧ (1 ≤ l.length → ∃ b off, ao = some ⟨b, off, none⟩ ∧
    ∀ i (h : i < l.length), ∃ p : NP, NodeIn w F p l[i] ∧ ∀ r u, (nodeCells l[i] p)[r]? = some u → w.cell? ⟨b, off + i * 9 + r, none⟩ = some u) := by
  obtain ⟨ps, hl, ⟨ao, cap, rfl, hc, hm, hll, hx⟩, hv⟩ := h
  refine ⟨ao, cap, rfl, hc, hm, fun hn => ?_⟩
  obtain ⟨b, off, rfl, _, hx⟩ := hx hn
  refine ⟨b, off, rfl, fun i hi => ?_⟩
  have hi2 : i < ps.length := by omega
  refine ⟨ps[i], hv i _ _ (List.getElem?_eq_getElem hi) (List.getElem?_eq_getElem hi2), fun r u hr => ?_⟩
  have hr9 : r < 9 := by have := (List.getElem?_eq_some_iff.1 hr).1; simpa [nodeCells] using this
  have := hx (i * 9 + r) u (by rw [nodes9_get _ i r (by simp; omega) hr9]; simpa using hr)
  rw [Nat.add_assoc]
  exact this
end Go.Proofs.Ytjoinhljdbljaaa
