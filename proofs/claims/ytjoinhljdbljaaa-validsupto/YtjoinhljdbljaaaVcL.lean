/- For all tables and plans whose parts and letters are together at most 1048576, Valids returns true and leaves its arguments as they were. -/
import Derived.Test.YtjoinhljdbljaaaVcH
import Derived.ProofKit
import Derived.OpenShut
import Derived.JoinedCond
import Derived.ChangeOld
import Derived.Below
import Derived.Deep.Slices
import Derived.Deep.Strs
import Derived.Test.YtjoinhljdbljaaaVcG
namespace Go.Proofs.Ytjoinhljdbljaaa.validsDone
open Go.ChangeShapes Go.WideShapes Go.ChangeAt Go.RowKit Go.Deep

theorem cells3 : Try.prog.cellsOf 3 = 1 := by kernel_rfl
theorem cells4 : Try.prog.cellsOf 4 = 1 := by kernel_rfl
theorem cells9 : Try.prog.cellsOf 9 = 1 := by kernel_rfl
theorem cells70 : Try.prog.cellsOf 70 = 1 := by kernel_rfl
theorem cells93 : Try.prog.cellsOf 93 = 1 := by kernel_rfl
theorem cells97 : Try.prog.cellsOf 97 = 1 := by kernel_rfl
theorem cells103 : Try.prog.cellsOf 103 = 1 := by kernel_rfl
theorem cells104 : Try.prog.cellsOf 104 = 1 := by kernel_rfl
theorem cells99 : Try.prog.cellsOf 99 = 3 := by kernel_rfl
theorem cells136 : Try.prog.cellsOf 136 = 3 := by kernel_rfl
theorem cells110 : Try.prog.cellsOf 110 = 2 := by kernel_rfl
theorem cells95 : Try.prog.cellsOf 95 = 3 := by kernel_rfl
theorem cells106 : Try.prog.cellsOf 106 = 9 := by kernel_rfl
theorem bulk_pos {H : Type} (d : DataW H) : 0 < Rows.uptoBulk d := by
  cases d with
  | lit x => cases x <;> simp only [Rows.uptoBulk] <;> omega
  | _ => simp only [Rows.uptoBulk] <;> omega
theorem bulk_all {H : Type} : ∀ l : List (DataW H), l.length ≤ Rows.uptoBulkAll l
  | [] => Nat.zero_le _
  | d :: l => by
    have h1 := bulk_pos d
    have h2 := bulk_all l
    simp only [Rows.uptoBulkAll, List.length_cons]
    omega
theorem bulk_mem {H : Type} : ∀ (l : List (DataW H)) (d : DataW H), d ∈ l → Rows.uptoBulk d ≤ Rows.uptoBulkAll l
  | [], _, h => by simp at h
  | e :: l, d, h => by
    simp only [Rows.uptoBulkAll]
    rcases List.mem_cons.1 h with rfl | h
    · omega
    · have := bulk_mem l d h; omega
theorem flat_get {α : Type} (cells : α → List Value) (sz : Nat) (hl : ∀ y, (cells y).length = sz) : ∀ (L : List α) (i r : Nat) (h : i < L.length), r < sz → (L.flatMap cells)[i * sz + r]? = (cells L[i])[r]?
  | [], _, _, h, _ => by simp at h
  | a :: L, 0, r, _, hr => by
    simp only [List.flatMap_cons, Nat.zero_mul, Nat.zero_add, List.getElem_cons_zero]
    rw [List.getElem?_append_left (by rw [hl]; exact hr)]
  | a :: L, i + 1, r, h, hr => by
    have := flat_get cells sz hl L i r (by simpa using h) hr
    simp only [List.flatMap_cons, List.getElem_cons_succ]
    rw [List.getElem?_append_right (by rw [hl, Nat.succ_mul]; omega), hl, show (i + 1) * sz + r - sz = i * sz + r from by rw [Nat.succ_mul]; omega]
    exact this
theorem flat_len {α : Type} (cells : α → List Value) (sz : Nat) (hl : ∀ y, (cells y).length = sz) : ∀ (L : List α), (L.flatMap cells).length = L.length * sz
  | [] => by simp
  | a :: L => by
    simp only [List.flatMap_cons, List.length_append, List.length_cons]
    rw [flat_len cells sz hl L, hl, Nat.succ_mul]; omega

theorem flat1b {α β : Type} (f : α → β) : ∀ L : List α, L.flatMap (fun n => [f n]) = L.map f
  | [] => rfl
  | a :: L => by simp [flat1b f L]
theorem flat1 (L : List Int) : L.flatMap (fun n => [Value.int .i64 n]) = ints L := flat1b _ L
theorem zip_back {α β : Type} : ∀ L : List (α × β), (L.map Prod.fst).zip (L.map Prod.snd) = L
  | [] => rfl
  | a :: L => by
    simp only [List.map_cons, List.zip_cons_cons, zip_back L]
section
variable {H : Type} {enc : TypeId × Value → H} {w : World}
abbrev Tr (enc : TypeId × Value → H) (w : World) (n : Nat) (t : TypeId) (cs : List Value) (x : DataW H × List MemPlace) : Prop := DataW.trod enc Try.prog w 0 (fun _ => true) true n t cs = some x

theorem cells_at {a : Addr} {k n : Nat} {cs : List Value} (hs : a.spot = none) (h : w.cells? 0 (a.add k) n = some cs) : ∀ r, r < n → w.cell? ⟨a.block, a.off + k + r, none⟩ = cs[r]? := by
  obtain ⟨_, _, hx⟩ := World.cells?_some h
  obtain ⟨b, off, spot⟩ := a
  simp only at hs
  subst hs
  intro r hr
  have e : ((⟨b, off, none⟩ : Addr).add k).add r = ⟨b, off + k + r, none⟩ := by
    rw [Go.Deep.add_add]
    unfold Addr.add
    split
    · rename_i h0
      have h1 : k = 0 := by omega
      have h2 : r = 0 := by omega
      rw [h1, h2]
      rfl
    · simp [Nat.add_assoc]
  have h0 := hx r hr
  rw [e] at h0
  exact h0
theorem spot_of {a : Addr} {n : Nat} {cs : List Value} (hn : 1 ≤ n) (h : w.cells? 0 (a.add 0) n = some cs) : a.spot = none := by
  obtain ⟨_, hl, hx⟩ := World.cells?_some h
  have h0 := hx 0 (by omega)
  match cs, hl with
  | c :: _, _ =>
    have : w.cell? a = some c := by simpa [Addr.add] using h0
    exact World.cell?_spot this
  | [], hl => simp at hl; omega

theorem open_gen {α : Type} (dflt : α) (cells : α → List Value) (Φ : α → DataW H → Prop) {t e : TypeId} {sz : Nat} {fuel : Nat} {v : Value} {x : DataW H × List MemPlace} (ht : Try.prog.underlying t = some (.slice e)) (hc : Try.prog.cellsOf e = sz) (hs1 : 1 ≤ sz) (hlen : ∀ y, (cells y).length = sz)
    (hopen : ∀ (n : Nat) (cs : List Value) (x : DataW H × List MemPlace), cs.length = sz → Tr enc w n e cs x → ∃ y : α, cs = cells y ∧ Φ y x.1)
    (h : Tr enc w fuel t [v] x) : ∃ (L : List α) (Ds : List (DataW H)), Ds.length = L.length ∧ LiesC w [] v sz L.length (L.flatMap cells) ∧ (∀ (i : Nat) (y : α) (q : DataW H), L[i]? = some y → Ds[i]? = some q → Φ y q) ∧ Rows.uptoBulkAll Ds ≤ Rows.uptoBulk x.1 := by
  obtain ⟨d, ps⟩ := x
  rcases open_slice ht h with ⟨hcs, hx⟩ | ⟨a, len, cap, m, n, D, Pl, hcs, _, hl, hm, hmm, hx, hel⟩
  · simp only [List.cons.injEq, and_true] at hcs
    subst hcs
    exact ⟨[], [], rfl, ⟨none, 0, rfl, Nat.le_refl _, by unfold maxLen; omega, by simp, fun h => by simp at h⟩, fun i y q h => by simp at h, Nat.zero_le _⟩
  · simp only [List.cons.injEq, and_true] at hcs
    subst hcs
    simp only [if_true] at hmm
    subst hmm
    simp only [Prod.mk.injEq] at hx
    have hd := hx.1
    have each : ∀ i, i < m → ∃ y : α, Φ y (D i) ∧ (a.spot = none → ∀ r, r < sz → w.cell? ⟨a.block, a.off + i * sz + r, none⟩ = (cells y)[r]?) ∧ (i = 0 → a.spot = none) := by
      intro i hi
      obtain ⟨cs', h1, h2⟩ := hel i hi
      rw [hc] at h1
      obtain ⟨_, hcl, _⟩ := World.cells?_some h1
      obtain ⟨y, rfl, hy⟩ := hopen n cs' _ (by omega) h2
      exact ⟨y, hy, fun hs => cells_at hs h1, fun h0 => by subst h0; rw [Nat.zero_mul] at h1; exact spot_of hs1 h1⟩
    obtain ⟨F, hF⟩ := @choose_lt α ⟨dflt⟩ _ _ each
    refine ⟨(List.range len).map F, (List.range len).map D, by simp, ⟨some a, m, by simp, by simpa using hl, hm, by rw [flat_len cells sz hlen], fun h1 => ?_⟩, ?_, ?_⟩
    · simp only [List.length_map, List.length_range] at h1
      have hs := (hF 0 (by omega)).2.2 rfl
      refine ⟨a.block, a.off, by obtain ⟨b, off, spot⟩ := a; simp only at hs; rw [hs], by simp, fun j u hj => ?_⟩
      have hjl := (List.getElem?_eq_some_iff.1 hj).1
      rw [flat_len cells sz hlen, List.length_map, List.length_range] at hjl
      have hi : j / sz < len := (Nat.div_lt_iff_lt_mul (by omega)).2 hjl
      have hr : j % sz < sz := Nat.mod_lt _ (by omega)
      have hjj : j = j / sz * sz + j % sz := by rw [Nat.mul_comm]; exact (Nat.div_add_mod j sz).symm
      rw [hjj, flat_get cells sz hlen _ _ _ (by simpa using hi) hr] at hj
      have := (hF (j / sz) (by omega)).2.1 hs _ hr
      rw [Nat.add_assoc, ← hjj] at this
      rw [this]
      simpa using hj
    · intro i y q hy hq
      have hi : i < len := by have := (List.getElem?_eq_some_iff.1 hy).1; simpa using this
      simp [hi] at hy hq
      subst hy hq
      exact (hF i (by omega)).1
    · rw [hd]
      simp only [Rows.uptoBulk]
      omega

theorem open_ints {fuel : Nat} {v : Value} {x : DataW H × List MemPlace} (h : Tr enc w fuel 70 [v] x) : ∃ l : List Int, IntsIn w [] v l ∧ l.length ≤ Rows.uptoBulk x.1 := by
  obtain ⟨L, Ds, hl, hL, _, hb⟩ := open_gen (0 : Int) (fun n => [Value.int .i64 n]) (fun _ _ => True) Try.underlying70 cells3 (by omega) (fun _ => rfl) (fun n cs x hc h => by
    obtain ⟨k, e0, _, _⟩ := DataW.trod_int Try.underlying3 h
    exact ⟨k, e0, trivial⟩) h
  refine ⟨L, ?_, by have := bulk_all Ds; omega⟩
  unfold IntsIn
  rw [flat1] at hL
  exact hL
theorem three_of {α : Type} {l : List α} (h : l.length = 3) : ∃ a b c, l = [a, b, c] := by
  match l, h with
  | [a, b, c], _ => exact ⟨a, b, c, rfl⟩
theorem two_of {α : Type} {l : List α} (h : l.length = 2) : ∃ a b, l = [a, b] := by
  match l, h with
  | [a, b], _ => exact ⟨a, b, rfl⟩
theorem nine_of {α : Type} {l : List α} (h : l.length = 9) : ∃ a b c d e f g i j, l = [a, b, c, d, e, f, g, i, j] := by
  match l, h with
  | [a, b, c, d, e, f, g, i, j], _ => exact ⟨a, b, c, d, e, f, g, i, j, rfl⟩
theorem open_vals {fuel : Nat} {v : Value} {x : DataW H × List MemPlace} (h : Tr enc w fuel 97 [v] x) : ∃ l : List V, ValsIn w [] v l ∧ l.length ≤ Rows.uptoBulk x.1 := by
  obtain ⟨L, Ds, hl, hL, _, hb⟩ := open_gen (⟨0, 0, ⟨#[]⟩⟩ : V) (fun v => [v.t.1, v.t.2.1, v.t.2.2]) (fun _ _ => True) Try.underlying97 cells99 (by omega) (fun _ => rfl) (fun n cs x hc h => by
    obtain ⟨xs, m, _, _, hl, hlen, hf⟩ := DataW.trod_struct Try.underlying99 h
    obtain ⟨c0, c1, c2, rfl⟩ := three_of hc
    obtain ⟨y0, y1, y2, rfl⟩ := three_of (show xs.length = 3 from hlen)
    have h0 : Tr enc w m 3 [c0] y0 := by simpa [cells3] using hf 0 _ rfl
    have h1 : Tr enc w m 3 [c1] y1 := by simpa [cells3] using hf 1 _ rfl
    have h2 : Tr enc w m 9 [c2] y2 := by simpa [cells9] using hf 2 _ rfl
    obtain ⟨k, e0, _, _⟩ := DataW.trod_int Try.underlying3 h0
    obtain ⟨q, e1, _, _⟩ := DataW.trod_int Try.underlying3 h1
    obtain ⟨s, e2, _, _⟩ := DataW.trod_string Try.underlying9 h2
    simp only [List.cons.injEq, and_true] at e0 e1 e2
    subst e0 e1 e2
    exact ⟨⟨k, q, s⟩, rfl, trivial⟩) h
  refine ⟨L, ?_, by have := bulk_all Ds; omega⟩
  have e : L.flatMap (fun v : V => [v.t.1, v.t.2.1, v.t.2.2]) = t3s (L.map V.t) := by simp [t3s, List.flatMap_map]
  rw [e] at hL
  exact hL
theorem open_keys {fuel : Nat} {v : Value} {x : DataW H × List MemPlace} (h : Tr enc w fuel 103 [v] x) : ∃ l : List K, KeysIn w [] v l ∧ l.length ≤ Rows.uptoBulk x.1 := by
  obtain ⟨L, Ds, hl, hL, _, hb⟩ := open_gen (⟨0, false, false⟩ : K) (fun v => [v.t.1, v.t.2.1, v.t.2.2]) (fun _ _ => True) Try.underlying103 cells136 (by omega) (fun _ => rfl) (fun n cs x hc h => by
    obtain ⟨xs, m, _, _, hl, hlen, hf⟩ := DataW.trod_struct Try.underlying136 h
    obtain ⟨c0, c1, c2, rfl⟩ := three_of hc
    obtain ⟨y0, y1, y2, rfl⟩ := three_of (show xs.length = 3 from hlen)
    have h0 : Tr enc w m 3 [c0] y0 := by simpa [cells3] using hf 0 _ rfl
    have h1 : Tr enc w m 4 [c1] y1 := by simpa [cells4] using hf 1 _ rfl
    have h2 : Tr enc w m 4 [c2] y2 := by simpa [cells4] using hf 2 _ rfl
    obtain ⟨k, e0, _, _⟩ := DataW.trod_int Try.underlying3 h0
    obtain ⟨q, e1, _⟩ := DataW.trod_bool Try.underlying4 h1
    obtain ⟨s, e2, _⟩ := DataW.trod_bool Try.underlying4 h2
    simp only [List.cons.injEq, and_true] at e0 e1 e2
    subst e0 e1 e2
    exact ⟨⟨k, q, s⟩, rfl, trivial⟩) h
  refine ⟨L, ?_, by have := bulk_all Ds; omega⟩
  have e : L.flatMap (fun v : K => [v.t.1, v.t.2.1, v.t.2.2]) = t3s (L.map K.t) := by simp [t3s, List.flatMap_map]
  rw [e] at hL
  exact hL
theorem open_sums {fuel : Nat} {v : Value} {x : DataW H × List MemPlace} (h : Tr enc w fuel 104 [v] x) : ∃ l : List VS, SumsIn w [] v l ∧ l.length ≤ Rows.uptoBulk x.1 := by
  obtain ⟨L, Ds, hl, hL, _, hb⟩ := open_gen (⟨0, 0⟩ : VS) (fun s => [.int .i64 s.op, .int .i64 s.col]) (fun _ _ => True) Try.underlying104 cells110 (by omega) (fun _ => rfl) (fun n cs x hc h => by
    obtain ⟨xs, m, _, _, hl, hlen, hf⟩ := DataW.trod_struct Try.underlying110 h
    obtain ⟨c0, c1, rfl⟩ := two_of hc
    obtain ⟨y0, y1, rfl⟩ := two_of (show xs.length = 2 from hlen)
    have h0 : Tr enc w m 3 [c0] y0 := by simpa [cells3] using hf 0 _ rfl
    have h1 : Tr enc w m 3 [c1] y1 := by simpa [cells3] using hf 1 _ rfl
    obtain ⟨k, e0, _, _⟩ := DataW.trod_int Try.underlying3 h0
    obtain ⟨q, e1, _, _⟩ := DataW.trod_int Try.underlying3 h1
    simp only [List.cons.injEq, and_true] at e0 e1
    subst e0 e1
    exact ⟨⟨k, q⟩, rfl, trivial⟩) h
  exact ⟨L, hL, by have := bulk_all Ds; omega⟩
theorem open_rows {fuel : Nat} {v : Value} {x : DataW H × List MemPlace} (h : Tr enc w fuel 93 [v] x) : ∃ rows : List (List V), RowsIn w [] v rows ∧ rows.length ≤ Rows.uptoBulk x.1 ∧ ∀ j (h : j < rows.length), rows[j].length ≤ Rows.uptoBulk x.1 := by
  obtain ⟨L, Ds, hl, hL, hP, hb⟩ := open_gen ((.slice none 0 0, []) : Value × List V) (fun y => [y.1]) (fun y q => ValsIn w [] y.1 y.2 ∧ y.2.length ≤ Rows.uptoBulk q) Try.underlying93 cells97 (by omega) (fun _ => rfl) (fun n cs x hc h => by
    match cs, hc with
    | [u], _ =>
      obtain ⟨l, h1, h2⟩ := open_vals h
      exact ⟨(u, l), rfl, h1, h2⟩) h
  have hba := bulk_all Ds
  have hel : ∀ j (h : j < L.length), ValsIn w [] L[j].1 L[j].2 ∧ L[j].2.length ≤ Rows.uptoBulk x.1 := by
    intro j hj
    have hj2 : j < Ds.length := by omega
    obtain ⟨q1, q2⟩ := hP j _ _ (List.getElem?_eq_getElem hj) (List.getElem?_eq_getElem hj2)
    have := bulk_mem Ds _ (List.getElem_mem hj2)
    exact ⟨q1, by omega⟩
  refine ⟨L.map Prod.snd, ⟨L.map Prod.fst, by simp, ?_, ?_⟩, by simp; omega, fun j hj => by simp at hj ⊢; exact (hel j hj).2⟩
  · have e : L.flatMap (fun y : Value × List V => [y.1]) = L.map Prod.fst := flat1b _ _
    rw [e] at hL
    simpa using hL
  · intro i r u hr hu
    have hi : i < L.length := by have := (List.getElem?_eq_some_iff.1 hr).1; simpa using this
    simp [hi] at hr hu
    subst hr hu
    exact (hel i hi).1
theorem open_tabs {fuel : Nat} {v : Value} {x : DataW H × List MemPlace} (h : Tr enc w fuel 42 [v] x) : ∃ T : List VT, TabsIn w [] v T ∧ T.length ≤ Rows.uptoBulk x.1 ∧ (∀ i (h : i < T.length), T[i].kinds.length ≤ Rows.uptoBulk x.1 ∧ T[i].rows.length ≤ Rows.uptoBulk x.1 ∧ ∀ j (h2 : j < T[i].rows.length), T[i].rows[j].length ≤ Rows.uptoBulk x.1) ∧ rowsSum T ≤ Rows.uptoBulk x.1 := by
  obtain ⟨L, Ds, hl, hL, hP, hb⟩ := open_gen (((⟨#[]⟩, .slice none 0 0, .slice none 0 0), ⟨⟨#[]⟩, [], []⟩) : TP × VT) (fun y => [.string y.1.1, y.1.2.1, y.1.2.2]) (fun y q => TabIn w [] y.1 y.2 ∧ y.2.kinds.length ≤ Rows.uptoBulk q ∧ y.2.rows.length ≤ Rows.uptoBulk q ∧ ∀ j (h2 : j < y.2.rows.length), y.2.rows[j].length ≤ Rows.uptoBulk q) Try.underlying42 cells95 (by omega) (fun _ => rfl) (fun n cs x hc h => by
    obtain ⟨xs, m, _, hx, hl, hlen, hf⟩ := DataW.trod_struct Try.underlying95 h
    obtain ⟨c0, c1, c2, rfl⟩ := three_of hc
    obtain ⟨y0, y1, y2, rfl⟩ := three_of (show xs.length = 3 from hlen)
    have h0 : Tr enc w m 9 [c0] y0 := by simpa [cells9] using hf 0 _ rfl
    have h1 : Tr enc w m 70 [c1] y1 := by simpa [cells70] using hf 1 _ rfl
    have h2 : Tr enc w m 93 [c2] y2 := by simpa [cells93] using hf 2 _ rfl
    obtain ⟨s, e0, _, _⟩ := DataW.trod_string Try.underlying9 h0
    obtain ⟨kinds, k1, k2⟩ := open_ints h1
    obtain ⟨rows, r1, r2, r3⟩ := open_rows h2
    simp only [List.cons.injEq, and_true] at e0
    subst e0
    have hq1 : Rows.uptoBulk y1.1 ≤ Rows.uptoBulk x.1 := by rw [hx]; simp only [Rows.uptoBulk, List.map_cons, List.map_nil, Rows.uptoBulkAll]; omega
    have hq2 : Rows.uptoBulk y2.1 ≤ Rows.uptoBulk x.1 := by rw [hx]; simp only [Rows.uptoBulk, List.map_cons, List.map_nil, Rows.uptoBulkAll]; omega
    exact ⟨((s, c1, c2), ⟨s, kinds, rows⟩), rfl, ⟨rfl, k1, r1⟩, by simp only; omega, by simp only; omega, fun j hj => by have := r3 j hj; simp only; omega⟩) h
  have hba := bulk_all Ds
  have hel : ∀ j (h : j < L.length) (h2 : j < Ds.length), TabIn w [] L[j].1 L[j].2 ∧ L[j].2.kinds.length ≤ Rows.uptoBulk Ds[j] ∧ L[j].2.rows.length ≤ Rows.uptoBulk Ds[j] ∧ ∀ i (h2 : i < L[j].2.rows.length), L[j].2.rows[i].length ≤ Rows.uptoBulk Ds[j] := fun j hj hj2 => hP j _ _ (List.getElem?_eq_getElem hj) (List.getElem?_eq_getElem hj2)
  refine ⟨L.map Prod.snd, ⟨L.map Prod.fst, by simp, ?_, ?_⟩, by simp; omega, fun i hi => ?_, ?_⟩
  · have e : L.flatMap (fun y : TP × VT => [Value.string y.1.1, y.1.2.1, y.1.2.2]) = tabs3 (L.map Prod.fst) := by simp [tabs3, List.flatMap_map]
    rw [e] at hL
    simpa using hL
  · intro i r u hr hu
    have hi : i < L.length := by have := (List.getElem?_eq_some_iff.1 hr).1; simpa using this
    simp [hi] at hr hu
    subst hr hu
    exact (hel i hi (by omega)).1
  · simp at hi
    have hi2 : i < Ds.length := by omega
    have h3 := hel i hi hi2
    have h4 := bulk_mem Ds _ (List.getElem_mem hi2)
    simp only [List.getElem_map]
    exact ⟨by omega, by omega, fun j hj => by have := h3.2.2.2 j hj; omega⟩
  · refine Nat.le_trans ?_ hb
    clear hL hP hba hb h
    induction L generalizing Ds with
    | nil => simp [rowsSum]
    | cons a L ih =>
      match Ds, hl with
      | d :: Ds, hl =>
        have h0 := (hel 0 (by simp) (by simp)).2.2.1
        have := ih Ds (by simpa using hl) (fun j h1 h2 => by have := hel (j + 1) (by simpa using h1) (by simpa using h2); simpa using this)
        simp only [rowsSum, List.map_cons, List.sum_cons, Rows.uptoBulkAll] at *
        simp at h0
        omega
theorem open_nodes {fuel : Nat} {v : Value} {x : DataW H × List MemPlace} (h : Tr enc w fuel 43 [v] x) : ∃ N : List VN, NodesIn w [] v N ∧ N.length ≤ Rows.uptoBulk x.1 ∧ (∀ i (h : i < N.length), N[i].keys.length ≤ Rows.uptoBulk x.1 ∧ N[i].cols.length ≤ Rows.uptoBulk x.1 ∧ N[i].others.length ≤ Rows.uptoBulk x.1 ∧ N[i].sums.length ≤ Rows.uptoBulk x.1) := by
  obtain ⟨L, Ds, hl, hL, hP, hb⟩ := open_gen ((blankN, nil4) : VN × NP) (fun y => nodeCells y.1 y.2) (fun y q => NodeIn w [] y.2 y.1 ∧ y.1.keys.length ≤ Rows.uptoBulk q ∧ y.1.cols.length ≤ Rows.uptoBulk q ∧ y.1.others.length ≤ Rows.uptoBulk q ∧ y.1.sums.length ≤ Rows.uptoBulk q) Try.underlying43 cells106 (by omega) (fun _ => rfl) (fun n cs x hc h => by
    obtain ⟨xs, m, _, hx, hl, hlen, hf⟩ := DataW.trod_struct Try.underlying106 h
    obtain ⟨c0, c1, c2, c3, c4, c5, c6, c7, c8, rfl⟩ := nine_of hc
    obtain ⟨y0, y1, y2, y3, y4, y5, y6, y7, y8, rfl⟩ := nine_of (show xs.length = 9 from hlen)
    have h0 : Tr enc w m 3 [c0] y0 := by simpa [cells3] using hf 0 _ rfl
    have h1 : Tr enc w m 3 [c1] y1 := by simpa [cells3] using hf 1 _ rfl
    have h2 : Tr enc w m 3 [c2] y2 := by simpa [cells3] using hf 2 _ rfl
    have h3 : Tr enc w m 9 [c3] y3 := by simpa [cells9] using hf 3 _ rfl
    have h4 : Tr enc w m 103 [c4] y4 := by simpa [cells103] using hf 4 _ rfl
    have h5 : Tr enc w m 3 [c5] y5 := by simpa [cells3] using hf 5 _ rfl
    have h6 : Tr enc w m 70 [c6] y6 := by simpa [cells70] using hf 6 _ rfl
    have h7 : Tr enc w m 70 [c7] y7 := by simpa [cells70] using hf 7 _ rfl
    have h8 : Tr enc w m 104 [c8] y8 := by simpa [cells104] using hf 8 _ rfl
    obtain ⟨op, e0, _, _⟩ := DataW.trod_int Try.underlying3 h0
    obtain ⟨lf, e1, _, _⟩ := DataW.trod_int Try.underlying3 h1
    obtain ⟨rt, e2, _, _⟩ := DataW.trod_int Try.underlying3 h2
    obtain ⟨tb, e3, _, _⟩ := DataW.trod_string Try.underlying9 h3
    obtain ⟨ks, k1, k2⟩ := open_keys h4
    obtain ⟨ct, e5, _, _⟩ := DataW.trod_int Try.underlying3 h5
    obtain ⟨cols, l1, l2⟩ := open_ints h6
    obtain ⟨ots, o1, o2⟩ := open_ints h7
    obtain ⟨sums, s1, s2⟩ := open_sums h8
    simp only [List.cons.injEq, and_true] at e0 e1 e2 e3 e5
    subst e0 e1 e2 e3 e5
    have hq4 : Rows.uptoBulk y4.1 ≤ Rows.uptoBulk x.1 := by rw [hx]; simp only [Rows.uptoBulk, List.map_cons, List.map_nil, Rows.uptoBulkAll]; omega
    have hq6 : Rows.uptoBulk y6.1 ≤ Rows.uptoBulk x.1 := by rw [hx]; simp only [Rows.uptoBulk, List.map_cons, List.map_nil, Rows.uptoBulkAll]; omega
    have hq7 : Rows.uptoBulk y7.1 ≤ Rows.uptoBulk x.1 := by rw [hx]; simp only [Rows.uptoBulk, List.map_cons, List.map_nil, Rows.uptoBulkAll]; omega
    have hq8 : Rows.uptoBulk y8.1 ≤ Rows.uptoBulk x.1 := by rw [hx]; simp only [Rows.uptoBulk, List.map_cons, List.map_nil, Rows.uptoBulkAll]; omega
    exact ⟨(⟨op, lf, rt, tb, ks, ct, cols, ots, sums⟩, (c4, c6, c7, c8)), rfl, ⟨k1, l1, o1, s1⟩, by simp only; omega, by simp only; omega, by simp only; omega, by simp only; omega⟩) h
  have hba := bulk_all Ds
  have hel : ∀ j (h : j < L.length), NodeIn w [] L[j].2 L[j].1 ∧ L[j].1.keys.length ≤ Rows.uptoBulk x.1 ∧ L[j].1.cols.length ≤ Rows.uptoBulk x.1 ∧ L[j].1.others.length ≤ Rows.uptoBulk x.1 ∧ L[j].1.sums.length ≤ Rows.uptoBulk x.1 := by
    intro j hj
    have hj2 : j < Ds.length := by omega
    obtain ⟨q1, q2, q3, q4, q5⟩ := hP j _ _ (List.getElem?_eq_getElem hj) (List.getElem?_eq_getElem hj2)
    have := bulk_mem Ds _ (List.getElem_mem hj2)
    exact ⟨q1, by omega, by omega, by omega, by omega⟩
  refine ⟨L.map Prod.fst, ⟨L.map Prod.snd, by simp, ?_, ?_⟩, by simp; omega, fun i hi => by simp at hi ⊢; exact (hel i hi).2⟩
  · have e : nodes9 ((L.map Prod.fst).zip (L.map Prod.snd)) = L.flatMap (fun y => nodeCells y.1 y.2) := by
      rw [zip_back]
      rfl
    rw [e]
    simpa using hL
  · intro i r u hr hu
    have hi : i < L.length := by have := (List.getElem?_eq_some_iff.1 hr).1; simpa using this
    simp [hi] at hr hu
    subst hr hu
    exact (hel i hi).1
end
end Go.Proofs.Ytjoinhljdbljaaa.validsDone

namespace Go.Proofs.Ytjoinhljdbljaaa
open Go.RowKit

theorem tabs3_take (ps : List TP) (n : Nat) : tabs3 ps = tabs3 (ps.take n) ++ tabs3 (ps.drop n) := by rw [← tabs3_app, List.take_append_drop]
theorem nodes9_take (ps : List (VN × NP)) (n : Nat) : nodes9 ps = nodes9 (ps.take n) ++ nodes9 (ps.drop n) := by rw [← nodes9_app, List.take_append_drop]
theorem TabSt.in {bx go : Nat} {w : World} {T : List VT} {Vf : Nat → Value} {X : Nat → List Value} {ps : List TP} (h : TabSt bx go w T (T.length + 8) Vf X ps) (hT : T.length ≤ 1048576) : TabsIn w [] (.slice (some ⟨go, 0, none⟩) T.length (T.length + 8)) T := by
  obtain ⟨h1, h2, h3, h4, h5, h6, h7, h8⟩ := h
  have hl : (ps.take T.length).length = T.length := by simp; omega
  refine ⟨ps.take T.length, hl, h3.lies (by simp) 3 _ _ (by omega) (by unfold maxLen; omega) _ (by rw [tabs3_len, hl]) (by rw [tabs3_take ps T.length]; exact pre_get), fun i t p ht hp => ?_⟩
  obtain ⟨hi, rfl⟩ := List.getElem?_eq_some_iff.1 ht
  have hp2 : ps[i]? = some p := by rw [List.getElem?_take] at hp; simpa [hi] using hp
  obtain ⟨a, b, c, _⟩ := (h5 i p hp2).1 hi
  exact ⟨a, (FullI.in b).less (by simp), FullL.in (c.less (by simp))⟩
theorem NodSt.b {bx go : Nat} {w w' : World} {N : List VN} {k : Nat} {Vf : Nat → Value} {X : Nat → List Value} {qs : List (VN × NP)} (h : NodSt bx go w N k Vf X qs) (hb : Below w.heap.size w w') : NodSt bx go w' N k Vf X qs := by
  obtain ⟨h1, h2, h3, h4, h5, h6, h7, h8⟩ := h
  exact ⟨h1.b hb, h2.step (stepB hb), h3.b hb, h4, h5.step (stepB hb), h6, h7, h8⟩
theorem NodSt.in {bx go : Nat} {w : World} {N : List VN} {Vf : Nat → Value} {X : Nat → List Value} {qs : List (VN × NP)} (h : NodSt bx go w N (N.length + 8) Vf X qs) (hN : N.length ≤ 1048576) : NodesIn w [] (.slice (some ⟨go, 0, none⟩) N.length (N.length + 8)) N := by
  obtain ⟨h1, h2, h3, h4, h5, h6, h7, h8⟩ := h
  have hl : (qs.take N.length).length = N.length := by simp; omega
  have hz : N.zip ((qs.take N.length).map Prod.snd) = qs.take N.length := by
    have e : (qs.take N.length).map Prod.fst = N := by
      refine List.ext_getElem (by simp; omega) (fun i hi hi2 => ?_)
      simp only [List.getElem_map, List.getElem_take]
      have hiq : i < qs.length := by omega
      exact ((h5 i qs[i] (List.getElem?_eq_getElem hiq)).1 hi2).1
    conv => lhs; rw [← e]
    rw [show (List.map Prod.fst (qs.take N.length)).length = N.length from by simp; omega]
    exact validsDone.zip_back _
  refine ⟨(qs.take N.length).map Prod.snd, by simp; omega, h3.lies (by simp) 9 _ _ (by omega) (by unfold maxLen; omega) _ (by rw [hz, nodes9_len, hl]) (by rw [hz, nodes9_take qs N.length]; exact pre_get), fun i n p hn hp => ?_⟩
  obtain ⟨hi, rfl⟩ := List.getElem?_eq_some_iff.1 hn
  have hiq : i < qs.length := by omega
  obtain ⟨_, b, c, d, e⟩ := (h5 i qs[i] (List.getElem?_eq_getElem hiq)).1 hi
  have hp2 : p = qs[i].2 := by
    simp [hi, hiq] at hp
    exact hp.symm
  subst hp2
  exact ⟨(FullK.in b).less0, (FullI.in c).less (by simp), (FullI.in d).less (by simp), (FullS.in e).less0⟩
theorem Lent.short {w : World} {bx : Nat} {V : Nat → Value} {X : Nat → List Value} (h : Lent w bx V X) (f : Nat) (hf : f < 5) : (X f).length ≤ 9223372036854775807 := by
  obtain ⟨_, h2⟩ := h.2.1 f hf
  rcases h2 with ⟨_, h2⟩ | ⟨g, cap, cur, _, _, _, h3, h4, _⟩
  · omega
  · unfold maxLen at h4; omega

theorem ex_tabs : TabBulk exT := by
  refine ⟨by decide, fun i hi => ?_, fun i hi j hj => ?_, by decide⟩
  · have : i < 1 := hi
    obtain rfl : i = 0 := by omega
    exact ⟨by simp [exT], by simp [exT]⟩
  · have : i < 1 := hi
    obtain rfl : i = 0 := by omega
    have : j < 4 := hj
    obtain rfl | rfl | rfl | rfl : j = 0 ∨ j = 1 ∨ j = 2 ∨ j = 3 := by omega
    all_goals simp [exT]
theorem ex_nods : NodBulk exN := by
  refine ⟨by decide, fun i hi => ?_⟩
  have : i < 2 := hi
  obtain rfl | rfl : i = 0 ∨ i = 1 := by omega
  all_goals exact ⟨by simp [exN], by simp [exN], by simp [exN], by simp [exN]⟩
theorem small_of {T : List VT} {N : List VN} (h1 : TabBulk T) (h2 : NodBulk N) : Small T N := ⟨h1.1, h2.1, h1.2.1, h2.2⟩
theorem ex_get {i : Nat} (h : i < exN.length) : i = 0 ∨ i = 1 := by
  have : i < 2 := h
  omega
theorem ex_nil : nilB bE = true := by
  unfold nilB
  rw [ByteArray.toList_eq]
  rfl
theorem ex_kinds : KindsOK [1, 2] := ⟨by decide, by decide, fun i hi => by
  have : i < 2 := hi
  obtain rfl | rfl : i = 0 ∨ i = 1 := by omega
  · exact Or.inl rfl
  · exact Or.inr (Or.inl rfl)⟩
theorem ex_row (v u : V) (hv : PairOK v 1) (hu : PairOK u 2) : RowOK [v, u] [1, 2] := ⟨rfl, fun i hi _ => by
  have : i < 2 := hi
  obtain rfl | rfl : i = 0 ∨ i = 1 := by omega
  · exact hv
  · exact hu⟩
theorem ex_int (n : Int) : PairOK ⟨1, n, bE⟩ 1 := ⟨Or.inr rfl, by simp [gvalB, ex_nil]⟩
theorem ex_str (s : ByteArray) (h : s.size ≤ 200) : PairOK ⟨2, 0, s⟩ 2 := ⟨Or.inr rfl, by simp [gvalB, h]⟩
theorem ex_null : PairOK ⟨0, 0, bE⟩ 1 := ⟨Or.inl rfl, by simp [gvalB, ex_nil]⟩
theorem ex_valid : ValidOK exT exN := by
  refine ⟨⟨by decide, by decide⟩, fun i j hi hj hij => ?_, fun i hi => ?_, ⟨fun i hi => ?_, fun j hj => ?_, fun i hi => ?_⟩, fun i hi => ?_⟩
  · have : j < 1 := hj
    omega
  · have : i < 1 := hi
    obtain rfl : i = 0 := by omega
    refine ⟨ex_kinds, fun j hj => ?_⟩
    have : j < 4 := hj
    obtain rfl | rfl | rfl | rfl : j = 0 ∨ j = 1 ∨ j = 2 ∨ j = 3 := by omega
    · exact ex_row _ _ (ex_int _) (ex_str _ (by decide))
    · exact ex_row _ _ (ex_int _) (ex_str _ (by decide))
    · exact ex_row _ _ ex_null (ex_str _ (by decide))
    · exact ex_row _ _ (ex_int _) (ex_str _ (by decide))
  · rcases ex_get hi with rfl | rfl
    · exact ⟨⟨by simp [exN], by simp [BareN, BareR, exN]⟩, by simp [Ahead, ins, exN]⟩
    · exact ⟨⟨by simp [exN], by simp [BareN, BareR, exN, ex_nil]⟩, by simp [Ahead, ins, exN]⟩
  · have : j + 1 < 2 := hj
    obtain rfl : j = 0 := by omega
    decide
  · rcases ex_get hi with rfl | rfl
    · decide
    · decide
  · have hk : tabK exT bT = [1, 2] := by simp [tabK, exT]
    rcases ex_get hi with rfl | rfl
    · refine fun _ => ⟨⟨0, by decide, rfl⟩, ?_⟩
      have e : nodeL exT (colsL exT (exN.take 0)) exN[0] = [1, 2] := hk
      rw [e]
      decide
    · intro _
      have e : colsLeft (colsL exT (exN.take 1)) exN[1] = [1, 2] := hk
      have e2 : nodeL exT (colsL exT (exN.take 1)) exN[1] = groupL [0] [⟨1, 0⟩, ⟨3, 1⟩] (colsLeft (colsL exT (exN.take 1)) exN[1]) := rfl
      have e3 : NodeOK exT (colsL exT (exN.take 1)) exN[1] ↔ GroupOK [0] [⟨1, 0⟩, ⟨3, 1⟩] (colsLeft (colsL exT (exN.take 1)) exN[1]) := by simp [NodeOK, exN]
      rw [e2, e3, e]
      refine ⟨⟨by decide, by decide, fun i hi => ?_, fun i hi => ?_⟩, by decide, by decide⟩
      · have : i < 1 := hi
        obtain rfl : i = 0 := by omega
        exact ⟨by simp, by simp⟩
      · have : i < 2 := hi
        obtain rfl | rfl : i = 0 ∨ i = 1 := by omega
        · exact ⟨⟨by simp, by simp⟩, Or.inl ⟨rfl, rfl⟩⟩
        · exact ⟨⟨by simp, by simp⟩, Or.inr (Or.inr (Or.inl rfl))⟩
end Go.Proofs.Ytjoinhljdbljaaa

namespace Go.Proofs.Ytjoinhljdbljaaa
open Go.RowKit

set_option maxHeartbeats 400000 in
theorem num19_any (n : Int) (w : World) : Calls Try.prog 19 #[.int .i64 n] w fun e w' => e = .returned (.int .i64 n) ∧ w' = w := by
  go_enter Try.func19, Try.ntmps19
  go_wp2
  go_ret
  exact ⟨rfl, rfl⟩
set_option maxRecDepth 20000 in
set_option maxHeartbeats 8000000 in
theorem valids_walk (w : World) (tv pv : Value) (T : List VT) (N : List VN) (ht : TabsIn w [] tv T) (hp : NodesIn w [] pv N) (hbt : TabBulk T) (hbn : NodBulk N) :
    Calls Try.prog 4 #[tv, pv] w fun e w' => e = .returned (.bool true) ∧ Below w.heap.size w w' := by
  have HT : Hid (∀ W, Below w.heap.size w W → TabsIn W [] tv T) := fun W h => ht.step (stepB h)
  have HP : Hid (∀ W, Below w.heap.size w W → NodesIn W [] pv N) := fun W h => hp.step (stepB h)
  have HBT : Hid (TabBulk T) := hbt
  have HBN : Hid (NodBulk N) := hbn
  have HVE : Hid (∃ (q : Int) (b : Bool), ((q = 0 ∧ b = true) ∨ (q = 1 ∧ b = false)) ∧ (∀ q' : Int, (ValidOK T N → q' = 0) → (¬ ValidOK T N → q' = 1) → q' = q) ∧ ∀ b', (b' = true ↔ ValidOK T N) → b' = b) := by
    by_cases h : ValidOK T N
    · exact ⟨0, true, Or.inl ⟨rfl, rfl⟩, fun q' h1 _ => h1 h, fun b' hb => hb.2 h⟩
    · exact ⟨1, false, Or.inr ⟨rfl, rfl⟩, fun q' _ h1 => h1 h, fun b' hb => by rw [← Bool.not_eq_true, hb]; exact h⟩
  clear ht hp hbt hbn
  go_enter Try.func4, Try.ntmps4
  go_wp2_with fail
  refine (example_any w).mono ?_
  rintro e w1 ⟨v1, rfl, h1, B1⟩
  go_wp2_with fail
  refine (tables_any w1 v1 exT h1 ex_tabs).mono ?_
  rintro e w2 ⟨Vf2, X2, ps2, rfl, S2, B2⟩
  have T2 : Hid (TabsIn w2 [] (.slice (some ⟨w1.heap.size + 1, 0, none⟩) exT.length (exT.length + 8)) exT) := S2.in ex_tabs.1
  have C2 : Below w.heap.size w w2 := bthen B1 B2
  clear S2 h1 B1 B2
  go_wp2_with fail
  refine (grouped14_any w2).mono ?_
  rintro e w3 ⟨v3, rfl, h3, B3⟩
  go_wp2_with fail
  refine (nodes_any w3 v3 exN h3 ex_nods).mono ?_
  rintro e w4 ⟨Vf4, X4, qs4, rfl, S4, B4⟩
  have N4 : Hid (NodesIn w4 [] (.slice (some ⟨w3.heap.size + 1, 0, none⟩) exN.length (exN.length + 8)) exN) := S4.in ex_nods.1
  have T4 : Hid (TabsIn w4 [] (.slice (some ⟨w1.heap.size + 1, 0, none⟩) exT.length (exT.length + 8)) exT) := T2.out.step (stepB (bthen B3 B4))
  have C4 : Below w.heap.size w w4 := bthen C2 (bthen B3 B4)
  clear S4 h3 B3 B4 C2 T2
  go_wp2_with fail
  refine (valid_any w4 _ _ exT exN T4.out N4.out (small_of ex_tabs ex_nods)).mono ?_
  rintro e w5 ⟨q, rfl, hq, _, B5⟩
  obtain rfl : q = 0 := hq ex_valid
  have C5 : Below w.heap.size w w5 := bthen C4 B5
  clear hq B5 C4 T4 N4
  go_wp2_with fail
  refine (tables_any w5 tv T (HT.out _ C5) HBT.out).mono ?_
  rintro e w6 ⟨Vf6, X6, ps6, rfl, S6, B6⟩
  have S6 : Hid (TabSt w5.heap.size (w5.heap.size + 1) w6 T (T.length + 8) Vf6 X6 ps6) := S6
  have C6 : Below w.heap.size w w6 := bthen C5 B6
  clear B6 C5
  go_wp2_with fail
  refine (nodes_any w6 pv N (HP.out _ C6) HBN.out).mono ?_
  rintro e w7 ⟨Vf7, X7, qs7, rfl, S7, B7⟩
  have S7 : Hid (NodSt w6.heap.size (w6.heap.size + 1) w7 N (N.length + 8) Vf7 X7 qs7) := S7
  have S6 : Hid (TabSt w5.heap.size (w5.heap.size + 1) w7 T (T.length + 8) Vf6 X6 ps6) := S6.out.b B7
  have C7 : Below w.heap.size w w7 := bthen C6 B7
  clear B7 C6
  go_wp2_with fail
  refine (valid_any w7 _ _ T N (S6.out.in HBT.out.1) (S7.out.in HBN.out.1) (small_of HBT.out HBN.out)).mono ?_
  rintro e w8 ⟨q8, rfl, hq, hq', B8⟩
  obtain ⟨q, b, hqb, hqq, hbb⟩ := HVE.out
  obtain rfl := hqq q8 hq hq'
  have S7 : Hid (NodSt w6.heap.size (w6.heap.size + 1) w8 N (N.length + 8) Vf7 X7 qs7) := S7.out.b B8
  have S6 : Hid (TabSt w5.heap.size (w5.heap.size + 1) w8 T (T.length + 8) Vf6 X6 ps6) := S6.out.b B8
  have C8 : Below w.heap.size w w8 := bthen C7 B8
  have hbb : Hid (∀ b', (b' = true ↔ ValidOK T N) → b' = b) := hbb
  clear hq hq' hqq B8 C7
  go_wp2_with fail
  refine (rvalid_any w8 tv pv T N (HT.out _ C8) (HP.out _ C8) (small_of HBT.out HBN.out)).mono ?_
  rintro e w9 ⟨b9, rfl, hb9, B9⟩
  obtain rfl := hbb.out b9 hb9
  have S7 : Hid (NodSt w6.heap.size (w6.heap.size + 1) w9 N (N.length + 8) Vf7 X7 qs7) := S7.out.b B9
  have S6 : Hid (TabSt w5.heap.size (w5.heap.size + 1) w9 T (T.length + 8) Vf6 X6 ps6) := S6.out.b B9
  have C9 : Below w.heap.size w w9 := bthen C8 B9
  clear hb9 hbb B9 C8
  rcases hqb with ⟨rfl, rfl⟩ | ⟨rfl, rfl⟩
  all_goals
    go_wp2_with fail
    refine (tablesStill_any w9 _ _ tv T Vf6 X6 ps6 S6.out (HT.out _ C9) HBT.out (S6.out.1.short 3 (by decide)) (S6.out.1.short 4 (by decide))).mono ?_
    rintro e w10 ⟨rfl, B10⟩
    have S7 : Hid (NodSt w6.heap.size (w6.heap.size + 1) w10 N (N.length + 8) Vf7 X7 qs7) := S7.out.b B10
    have C10 : Below w.heap.size w w10 := bthen C9 B10
    clear B10 C9 S6
    go_wp2_with fail
    refine (nodesStill_any w10 _ _ pv N Vf7 X7 qs7 S7.out (HP.out _ C10) HBN.out (S7.out.1.short 0 (by decide)) (S7.out.1.short 1 (by decide))).mono ?_
    rintro e w11 ⟨rfl, B11⟩
    have C11 : Below w.heap.size w w11 := bthen C10 B11
    clear B11 C10 S7
    go_wp2_with fail
    refine (num19_any _ w11).mono ?_
    rintro e w12 ⟨rfl, rfl⟩
    go_wp2
    go_ret
    exact ⟨rfl, C11⟩
end Go.Proofs.Ytjoinhljdbljaaa

namespace Go.Proofs.Ytjoinhljdbljaaa.validsDone
open Go.ChangeShapes Go.WideShapes Go.ChangeAt Go.RowKit Go.Deep

theorem own : ownKnob Try.prog.godebug = none := by kernel_rfl
theorem laidOut : laidOutB Try.prog = true := by kernel_rfl
theorem bound_of {H : Type} {l : List (DataW H)} (hk : Rows.uptoSmall H l = true) : Rows.uptoBulkAll l ≤ 1048576 := by
  unfold Rows.uptoSmall at hk
  exact of_decide_eq_true hk

set_option maxRecDepth 100000 in
theorem contract (H : Type) (enc : TypeId × Value → H) (W : World) (base : Nat) (args : Array Value) (ds gs : List (DataW H)) (before : List MemPlace)
    (hval : ∀ (j : Nat) t v, Try.f4.params[j]? = some t → args[j]? = some v → Value.okWide Try.prog W .any base t v)
    (hW : DataW.Whole enc Try.prog Try.f4.params.toList Rows.validsSpec.vars false W args.toList ds gs before) (hk : Rows.uptoSmall H (ds ++ gs) = true) :
    Calls Try.prog 4 args W fun e W' => ∃ v, e = .returned v ∧ Rows.validsSpec.post enc Try.prog Try.f4 false true false false W args v W' := by
  have hW' := hW
  obtain ⟨p, q, hA0, hV, rfl, hfz, hnd⟩ := hW
  have hA : DataW.TrodAll enc Try.prog W 0 (fun _ => true) true Try.f4.params.toList args.toList ds p := hA0
  rw [Try.params4] at hA hval
  obtain ⟨v0, vs0, d0, ds0, p0, q0, hargs, rfl, rfl, h0, r0⟩ := trodAll_cons hA
  obtain ⟨v1, vs1, d1, ds1, p1, q1, rfl, rfl, rfl, h1, r1⟩ := trodAll_cons r0
  obtain ⟨rfl, rfl, rfl⟩ := trodAll_nil r1
  obtain rfl : args = #[v0, v1] := by cases args; simp_all
  obtain ⟨rfl, rfl⟩ := trodVars_none hV
  obtain ⟨a0, len0, cap0, rfl⟩ := okWide_slice Try.underlying42 (hval 0 42 v0 rfl rfl)
  obtain ⟨a1, len1, cap1, rfl⟩ := okWide_slice Try.underlying43 (hval 1 43 v1 rfl rfl)
  have k0 := h0
  have k1 := h1
  have lt0 : ∀ x ∈ p0, x.block < W.heap.size := by obtain ⟨m, hm⟩ := k0; exact DataW.trod_lt m _ _ _ hm
  have lt1 : ∀ x ∈ p1, x.block < W.heap.size := by obtain ⟨m, hm⟩ := k1; exact DataW.trod_lt m _ _ _ hm
  have hbound : Rows.uptoBulkAll [d0, d1] ≤ 1048576 := by
    simp only [List.append_nil] at hk
    exact bound_of hk
  simp only [Rows.uptoBulkAll] at hbound
  obtain ⟨T, hT, t1, t2, t3⟩ : ∃ T : List VT, TabsIn W [] (.slice a0 len0 cap0) T ∧ T.length ≤ Rows.uptoBulk d0 ∧ (∀ i (h : i < T.length), T[i].kinds.length ≤ Rows.uptoBulk d0 ∧ T[i].rows.length ≤ Rows.uptoBulk d0 ∧ ∀ j (h2 : j < T[i].rows.length), T[i].rows[j].length ≤ Rows.uptoBulk d0) ∧ rowsSum T ≤ Rows.uptoBulk d0 := by
    obtain ⟨fuel, hf⟩ := h0
    have hf2 : Tr enc W fuel 42 [.slice a0 len0 cap0] (d0, p0) := by simpa [Value.cells] using hf
    exact open_tabs hf2
  obtain ⟨N, hN, n1, n2⟩ : ∃ N : List VN, NodesIn W [] (.slice a1 len1 cap1) N ∧ N.length ≤ Rows.uptoBulk d1 ∧ (∀ i (h : i < N.length), N[i].keys.length ≤ Rows.uptoBulk d1 ∧ N[i].cols.length ≤ Rows.uptoBulk d1 ∧ N[i].others.length ≤ Rows.uptoBulk d1 ∧ N[i].sums.length ≤ Rows.uptoBulk d1) := by
    obtain ⟨fuel, hf⟩ := h1
    have hf2 : Tr enc W fuel 43 [.slice a1 len1 cap1] (d1, p1) := by simpa [Value.cells] using hf
    exact open_nodes hf2
  clear hA0
  have hbt : TabBulk T := ⟨by omega, fun i h => ⟨by have := (t2 i h).1; omega, by have := (t2 i h).2.1; omega⟩, fun i h j h2 => by have := (t2 i h).2.2 j h2; omega, by omega⟩
  have hbn : NodBulk N := ⟨by omega, fun i h => by have := n2 i h; exact ⟨by omega, by omega, by omega, by omega⟩⟩
  refine (valids_walk W _ _ T N hT hN hbt hbn).mono fun e W' ⟨he, bel⟩ => ?_
  subst he
  exact ⟨_, rfl, _, _, _, [], _, [], hW', trodAll_mk1 (shut_bool Try.underlying4 _), (trodAll_cons_mk (Below.trod laidOut (by kernel_rfl) (of_decide_eq_true (by kernel_rfl)) k0 bel lt0) (trodAll_cons_mk (Below.trod laidOut (by kernel_rfl) (of_decide_eq_true (by kernel_rfl)) k1 bel lt1) trodAll_mk0)), rfl, bel.frame _, fun h => by cases h⟩

set_option maxRecDepth 100000 in
theorem lifted (os : Os) (started : os.Started) (H : Type) (enc : TypeId × Value → H) (F : Stop.Interp) :
    ReturnsInHanded {} Try.checked os 4 .any ((Rows.OpenSpec.upto Rows.validsSpec).pre6 enc Try.prog Try.f4 Rows.validsUptoRow.domain false) (((Rows.OpenSpec.upto Rows.validsSpec).at F).post enc Try.prog Try.f4 false true false false) := by
  refine returnsInHanded_of_cond (C := Try.checked) (s := Rows.OpenSpec.upto Rows.validsSpec) (k := Rows.uptoSmall) rfl own started (by kernel_rfl) Try.func4
    (OpenSpec.witness (enc := enc) (C := Try.checked) (s := Rows.OpenSpec.upto Rows.validsSpec) (k := Rows.uptoSmall) rfl false ⟨#[], #[.slice none 0 0, .slice none 0 0], []⟩ 8 (by kernel_rfl) (by kernel_rfl) (by kernel_rfl)
      (x := ([.nil, .nil], [], [])) (by kernel_rfl) rfl (by kernel_rfl)) ?_
  intro W base args ds gs before hval hW _ hk _
  exact contract H enc W base args ds gs before hval hW hk

theorem valids_holds : Rows.ValidsUptoSaid :=
  OpenClaim.holds_of_cond 4 Try.f4 rfl rfl rfl rfl rfl rfl rfl ⟨rfl, rfl, rfl, rfl, rfl⟩ rfl rfl rfl rfl rfl (by kernel_rfl) Try.func4 (by kernel_rfl)
    (of_decide_eq_true (by kernel_rfl)) (by unfold Func.isWrapper; first | (rw [if_pos (by decide +kernel)]; kernel_rfl) | (rw [if_neg (by decide +kernel)]; exact ⟨rfl, rfl⟩))
    (fun os started H enc _ F => lifted os started H enc F)
end Go.Proofs.Ytjoinhljdbljaaa.validsDone

namespace Go.Proofs.Ytjoinhljdbljaaa
theorem valids_holds : Rows.ValidsUptoSaid := validsDone.valids_holds
end Go.Proofs.Ytjoinhljdbljaaa
