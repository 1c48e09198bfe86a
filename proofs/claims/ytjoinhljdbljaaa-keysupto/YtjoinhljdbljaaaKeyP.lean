/- For every two rows and every list of keys whose values and letters are together at most 1048576, Keys returns true and leaves its arguments as they were. -/
import Derived.Test.YtjoinhljdbljaaaKeyO
import Derived.ProofKit
import Derived.OpenShut
import Derived.JoinedCond
import Derived.ChangeOld
import Derived.Below
import Derived.Deep.Slices
import Derived.Deep.Strs
namespace Go.Proofs.Ytjoinhljdbljaaa.keysDone
open Go.ChangeShapes Go.WideShapes Go.ChangeAt Go.RowKit Go.Deep

theorem own : ownKnob Try.prog.godebug = none := by kernel_rfl
theorem laidOut : laidOutB Try.prog = true := by kernel_rfl
theorem cells31 : Try.prog.cellsOf 31 = 3 := by kernel_rfl
theorem cells35 : Try.prog.cellsOf 35 = 3 := by kernel_rfl
theorem cells3 : Try.prog.cellsOf 3 = 1 := by kernel_rfl
theorem cells9 : Try.prog.cellsOf 9 = 1 := by kernel_rfl
theorem cells4 : Try.prog.cellsOf 4 = 1 := by kernel_rfl

theorem wf64 {n : Int} (h : (Lit.int .i64 n).wf = true) : I64 n := by
  have : -9223372036854775808 ≤ n ∧ n ≤ 9223372036854775807 := by simpa [Lit.wf, IntKind.min, IntKind.max, IntKind.signed, IntKind.bits] using h
  exact this

section
variable {H : Type} {enc : TypeId × Value → H} {w : World} {base : Nat} {spare : Nat → Bool} {held : Bool}

theorem three_of {α : Type} {l : List α} (h : l.length = 3) : ∃ a b c, l = [a, b, c] := by
  rcases l with _ | ⟨a, _ | ⟨b, _ | ⟨c, _ | ⟨d, l⟩⟩⟩⟩
  · simp at h
  · simp at h
  · simp at h
  · exact ⟨a, b, c, rfl⟩
  · simp at h

theorem open_V {n : Nat} {cs : List Value} {x : DataW H × List MemPlace} (h : DataW.trod enc Try.prog w base spare held n 31 cs = some x) : ∃ v : V, cs = [v.t.1, v.t.2.1, v.t.2.2] ∧ I64 v.k ∧ I64 v.n := by
  obtain ⟨y0, y1, y2, m, _, hl, h0, h1, h2⟩ := trod_struct3 Try.underlying31 h
  rw [cells31] at hl
  obtain ⟨c0, c1, c2, rfl⟩ := three_of hl
  · simp only [cells3, cells9, List.drop_zero, List.drop_succ_cons, List.take_succ_cons, List.take_zero] at h0 h1 h2
    obtain ⟨k, e0, _, w0⟩ := DataW.trod_int Try.underlying3 h0
    obtain ⟨n, e1, _, w1⟩ := DataW.trod_int Try.underlying3 h1
    obtain ⟨s, e2, _, _⟩ := DataW.trod_string Try.underlying9 h2
    simp only [List.cons.injEq, and_true] at e0 e1 e2
    subst e0 e1 e2
    exact ⟨⟨k, n, s⟩, rfl, wf64 w0, wf64 w1⟩

theorem open_K {n : Nat} {cs : List Value} {x : DataW H × List MemPlace} (h : DataW.trod enc Try.prog w base spare held n 35 cs = some x) : ∃ v : K, cs = [v.t.1, v.t.2.1, v.t.2.2] := by
  obtain ⟨y0, y1, y2, m, _, hl, h0, h1, h2⟩ := trod_struct3 Try.underlying35 h
  rw [cells35] at hl
  obtain ⟨c0, c1, c2, rfl⟩ := three_of hl
  · simp only [cells3, cells4, List.drop_zero, List.drop_succ_cons, List.take_succ_cons, List.take_zero] at h0 h1 h2
    obtain ⟨k, e0, _, w0⟩ := DataW.trod_int Try.underlying3 h0
    obtain ⟨d, e1, _⟩ := DataW.trod_bool Try.underlying4 h1
    obtain ⟨l, e2, _⟩ := DataW.trod_bool Try.underlying4 h2
    simp only [List.cons.injEq, and_true] at e0 e1 e2
    subst e0 e1 e2
    exact ⟨⟨k, d, l⟩, rfl⟩

/-- three cells in a row, as the walk asks for them -/
theorem cells_of3 {a : Addr} {i : Nat} {t : T3} (hs : a.spot = none) (h : w.cells? base (a.add (i * 3)) 3 = some [t.1, t.2.1, t.2.2]) :
    w.cell? ⟨a.block, a.off + i * 3, none⟩ = some t.1 ∧ w.cell? ⟨a.block, a.off + i * 3 + 1, none⟩ = some t.2.1 ∧ w.cell? ⟨a.block, a.off + i * 3 + 1 + 1, none⟩ = some t.2.2 := by
  obtain ⟨_, _, hx⟩ := World.cells?_some h
  obtain ⟨b, off, spot⟩ := a
  simp only at hs
  subst hs
  have e : ∀ j, ((⟨b, off, none⟩ : Addr).add (i * 3)).add j = ⟨b, off + i * 3 + j, none⟩ := by
    intro j
    rw [Go.Deep.add_add]
    unfold Addr.add
    split
    · rename_i h0
      have h1 : i * 3 = 0 := by omega
      have h2 : j = 0 := by omega
      rw [h1, h2]
      rfl
    · simp [Nat.add_assoc]
  have h0 := hx 0 (by omega)
  have h1 := hx 1 (by omega)
  have h2 := hx 2 (by omega)
  rw [e] at h0 h1 h2
  exact ⟨by simpa using h0, by simpa using h1, by simpa using h2⟩

theorem spot_of {a : Addr} {cs : List Value} (h : w.cells? base (a.add (0 * 3)) 3 = some cs) : a.spot = none := by
  obtain ⟨_, hl, hx⟩ := World.cells?_some h
  have h0 := hx 0 (by omega)
  match cs, hl with
  | c :: _, _ =>
    have : w.cell? a = some c := by simpa [Addr.add] using h0
    exact World.cell?_spot this

theorem bulk_pos {H : Type} (d : DataW H) : 0 < Rows.uptoBulk d := by
  cases d with
  | lit x => cases x <;> simp only [Rows.uptoBulk] <;> omega
  | _ => simp only [Rows.uptoBulk] <;> omega
theorem bulk_all {H : Type} : ∀ l : List (DataW H), l.length ≤ Rows.uptoBulkAll l
  | [] => Nat.zero_le _
  | d :: l => by
    have h1 := bulk_pos d
    have h2 := bulk_all l
    simp only [Rows.uptoBulkAll, List.length_cons]
    omega

theorem open_row {α : Type} (dflt : α) (f : α → T3) (Ok : α → Prop) {t e : TypeId} {fuel : Nat} {v : Value} {d : DataW H} {ps : List MemPlace} (ht : Try.prog.underlying t = some (.slice e)) (hc : Try.prog.cellsOf e = 3)
    (hopen : ∀ (n : Nat) (cs : List Value) (x : DataW H × List MemPlace), DataW.trod enc Try.prog w 0 (fun _ => true) true n e cs = some x → ∃ y : α, cs = [(f y).1, (f y).2.1, (f y).2.2] ∧ Ok y)
    (h : DataW.trod enc Try.prog w 0 (fun _ => true) true fuel t [v] = some (d, ps)) : ∃ l : List α, Lies w w.heap.size v (l.map f) ∧ (∀ y ∈ l, Ok y) ∧ l.length ≤ Rows.uptoBulk d := by
  rcases open_slice ht h with ⟨hcs, hx⟩ | ⟨a, len, cap, m, n, D, Pl, hcs, _, hl, hm, hmm, hx, hel⟩
  · simp only [List.cons.injEq, and_true] at hcs
    subst hcs
    exact ⟨[], ⟨none, 0, rfl, Nat.le_refl _, by unfold maxLen; omega, fun h => by simp at h⟩, fun _ h => by simp at h, Nat.zero_le _⟩
  · simp only [List.cons.injEq, and_true] at hcs
    subst hcs
    simp only [if_true] at hmm
    subst hmm
    have each : ∀ i, i < m → ∃ y : α, Ok y ∧ (a.spot = none → w.cell? ⟨a.block, a.off + i * 3, none⟩ = some (f y).1 ∧ w.cell? ⟨a.block, a.off + i * 3 + 1, none⟩ = some (f y).2.1 ∧ w.cell? ⟨a.block, a.off + i * 3 + 1 + 1, none⟩ = some (f y).2.2) ∧ (i = 0 → a.spot = none) := by
      intro i hi
      obtain ⟨cs', h1, h2⟩ := hel i hi
      obtain ⟨y, rfl, hy⟩ := hopen n cs' _ h2
      rw [hc] at h1
      exact ⟨y, hy, fun hs => cells_of3 hs h1, fun h0 => by subst h0; exact spot_of h1⟩
    obtain ⟨F, hF⟩ := @choose_lt α ⟨dflt⟩ _ _ each
    refine ⟨(List.range len).map F, ⟨some a, m, by simp, by simpa using hl, hm, fun h1 => ?_⟩, ?_, ?_⟩
    · simp only [List.length_map, List.length_range] at h1
      have hs := (hF 0 (by omega)).2.2 rfl
      have h0 := (hF 0 (by omega)).2.1 hs
      refine ⟨a.block, a.off, by obtain ⟨b, off, spot⟩ := a; simp only at hs; rw [hs], World.block_lt_of_cell? w ⟨a.block, a.off + 0 * 3, none⟩ h0.1, fun i hi => ?_⟩
      simp only [List.length_map, List.length_range] at hi
      have := (hF i (by omega)).2.1 hs
      simpa using this
    · intro y hy
      obtain ⟨i, hi, rfl⟩ := List.mem_map.1 hy
      exact (hF i (by have := List.mem_range.1 hi; omega)).1
    · simp only [Prod.mk.injEq] at hx
      rw [hx.1]
      have := bulk_all ((List.range len).map D)
      simp only [Rows.uptoBulk, List.length_map, List.length_range] at this ⊢
      omega
end

theorem bound_of {H : Type} {l : List (DataW H)} (hk : Rows.uptoSmall H l = true) : Rows.uptoBulkAll l ≤ 1048576 := by
  unfold Rows.uptoSmall at hk
  exact of_decide_eq_true hk

set_option maxRecDepth 100000 in
theorem contract (H : Type) (enc : TypeId × Value → H) (W : World) (base : Nat) (args : Array Value) (ds gs : List (DataW H)) (before : List MemPlace)
    (hval : ∀ (j : Nat) t v, Try.f5.params[j]? = some t → args[j]? = some v → Value.okWide Try.prog W .any base t v)
    (hW : DataW.Whole enc Try.prog Try.f5.params.toList Rows.keysSpec.vars false W args.toList ds gs before) (hk : Rows.uptoSmall H (ds ++ gs) = true) :
    Calls Try.prog 5 args W fun e W' => ∃ v, e = .returned v ∧ Rows.keysSpec.post enc Try.prog Try.f5 false true false false W args v W' := by
  have hW' := hW
  obtain ⟨p, q, hA0, hV, rfl, hfz, hnd⟩ := hW
  have hA : DataW.TrodAll enc Try.prog W 0 (fun _ => true) true Try.f5.params.toList args.toList ds p := hA0
  rw [Try.params5] at hA hval
  obtain ⟨v0, vs0, d0, ds0, p0, q0, hargs, rfl, rfl, h0, r0⟩ := trodAll_cons hA
  obtain ⟨v1, vs1, d1, ds1, p1, q1, rfl, rfl, rfl, h1, r1⟩ := trodAll_cons r0
  obtain ⟨v2, vs2, d2, ds2, p2, q2, rfl, rfl, rfl, h2, r2⟩ := trodAll_cons r1
  obtain ⟨rfl, rfl, rfl⟩ := trodAll_nil r2
  obtain rfl : args = #[v0, v1, v2] := by cases args; simp_all
  obtain ⟨rfl, rfl⟩ := trodVars_none hV
  obtain ⟨a0, len0, cap0, rfl⟩ := okWide_slice Try.underlying33 (hval 0 33 v0 rfl rfl)
  obtain ⟨a1, len1, cap1, rfl⟩ := okWide_slice Try.underlying33 (hval 1 33 v1 rfl rfl)
  obtain ⟨a2, len2, cap2, rfl⟩ := okWide_slice Try.underlying36 (hval 2 36 v2 rfl rfl)
  have k0 := h0
  have k1 := h1
  have k2 := h2
  have lt0 : ∀ x ∈ p0, x.block < W.heap.size := by obtain ⟨m, hm⟩ := k0; exact DataW.trod_lt m _ _ _ hm
  have lt1 : ∀ x ∈ p1, x.block < W.heap.size := by obtain ⟨m, hm⟩ := k1; exact DataW.trod_lt m _ _ _ hm
  have lt2 : ∀ x ∈ p2, x.block < W.heap.size := by obtain ⟨m, hm⟩ := k2; exact DataW.trod_lt m _ _ _ hm
  have hbound : Rows.uptoBulkAll [d0, d1, d2] ≤ 1048576 := by
    simp only [List.append_nil] at hk
    exact bound_of hk
  simp only [Rows.uptoBulkAll] at hbound
  obtain ⟨us, L0, ok0, b0⟩ : ∃ l : List V, Lies W W.heap.size (.slice a0 len0 cap0) (l.map V.t) ∧ (∀ y ∈ l, I64 y.k ∧ I64 y.n) ∧ l.length ≤ Rows.uptoBulk d0 := by
    obtain ⟨fuel, hf⟩ := h0
    exact open_row ⟨0, 0, ⟨#[]⟩⟩ V.t (fun y => I64 y.k ∧ I64 y.n) Try.underlying33 cells31 (fun n cs x hx => by obtain ⟨v, e, o1, o2⟩ := open_V hx; exact ⟨v, e, o1, o2⟩) (by simpa [Value.cells] using hf)
  obtain ⟨vs, L1, ok1, b1⟩ : ∃ l : List V, Lies W W.heap.size (.slice a1 len1 cap1) (l.map V.t) ∧ (∀ y ∈ l, I64 y.k ∧ I64 y.n) ∧ l.length ≤ Rows.uptoBulk d1 := by
    obtain ⟨fuel, hf⟩ := h1
    exact open_row ⟨0, 0, ⟨#[]⟩⟩ V.t (fun y => I64 y.k ∧ I64 y.n) Try.underlying33 cells31 (fun n cs x hx => by obtain ⟨v, e, o1, o2⟩ := open_V hx; exact ⟨v, e, o1, o2⟩) (by simpa [Value.cells] using hf)
  obtain ⟨ks, L2, _, b2⟩ : ∃ l : List K, Lies W W.heap.size (.slice a2 len2 cap2) (l.map K.t) ∧ (∀ y ∈ l, True) ∧ l.length ≤ Rows.uptoBulk d2 := by
    obtain ⟨fuel, hf⟩ := h2
    exact open_row ⟨0, false, false⟩ K.t (fun _ => True) Try.underlying36 cells35 (fun n cs x hx => by obtain ⟨v, e⟩ := open_K hx; exact ⟨v, e, trivial⟩) (by simpa [Value.cells] using hf)
  clear hA0
  refine (keys_walk W _ _ _ us vs ks L0 L1 L2 (by omega) (by omega) (by omega) ok0 ok1).mono fun e W' ⟨he, bel⟩ => ?_
  subst he
  exact ⟨_, rfl, _, _, _, [], _, [], hW', trodAll_mk1 (shut_bool Try.underlying4 _), (trodAll_cons_mk (Below.trod laidOut (by kernel_rfl) (of_decide_eq_true (by kernel_rfl)) k0 bel lt0) (trodAll_cons_mk (Below.trod laidOut (by kernel_rfl) (of_decide_eq_true (by kernel_rfl)) k1 bel lt1) (trodAll_cons_mk (Below.trod laidOut (by kernel_rfl) (of_decide_eq_true (by kernel_rfl)) k2 bel lt2) trodAll_mk0))), rfl, bel.frame _, fun h => by cases h⟩

set_option maxRecDepth 100000 in
theorem lifted (os : Os) (started : os.Started) (H : Type) (enc : TypeId × Value → H) (F : Stop.Interp) :
    ReturnsInHanded {} Try.checked os 5 .any ((Rows.OpenSpec.upto Rows.keysSpec).pre6 enc Try.prog Try.f5 Rows.keysUptoRow.domain false) (((Rows.OpenSpec.upto Rows.keysSpec).at F).post enc Try.prog Try.f5 false true false false) := by
  refine returnsInHanded_of_cond (C := Try.checked) (s := Rows.OpenSpec.upto Rows.keysSpec) (k := Rows.uptoSmall) rfl own started (by kernel_rfl) Try.func5
    (OpenSpec.witness (enc := enc) (C := Try.checked) (s := Rows.OpenSpec.upto Rows.keysSpec) (k := Rows.uptoSmall) rfl false ⟨#[], #[.slice none 0 0, .slice none 0 0, .slice none 0 0], []⟩ 8 (by kernel_rfl) (by kernel_rfl) (by kernel_rfl)
      (x := ([.nil, .nil, .nil], [], [])) (by kernel_rfl) rfl (by kernel_rfl)) ?_
  intro W base args ds gs before hval hW _ hk _
  exact contract H enc W base args ds gs before hval hW hk

theorem keys_holds : Rows.KeysUptoSaid :=
  OpenClaim.holds_of_cond 5 Try.f5 rfl rfl rfl rfl rfl rfl rfl ⟨rfl, rfl, rfl, rfl, rfl⟩ rfl rfl rfl rfl rfl (by kernel_rfl) Try.func5 (by kernel_rfl)
    (of_decide_eq_true (by kernel_rfl)) (by unfold Func.isWrapper; first | (rw [if_pos (by decide +kernel)]; kernel_rfl) | (rw [if_neg (by decide +kernel)]; exact ⟨rfl, rfl⟩))
    (fun os started H enc _ F => lifted os started H enc F)
end Go.Proofs.Ytjoinhljdbljaaa.keysDone

namespace Go.Proofs.Ytjoinhljdbljaaa
theorem keys_holds : Rows.KeysUptoSaid := keysDone.keys_holds
end Go.Proofs.Ytjoinhljdbljaaa
