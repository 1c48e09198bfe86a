/- The document's columns of a node: the walk. -/
import Derived.Test.YtjoinhljdbljaaaVcA
namespace Go.Proofs.Ytjoinhljdbljaaa
open Go.RowKit

theorem LiesC.lessN {w : World} {F : List Nat} {v : Value} {sz n : Nat} {cs : List Value} (h : LiesC w F v sz n cs) : LiesC w [] v sz n cs := by
  obtain ⟨ao, cap, rfl, hc, hm, hl, hx⟩ := h
  refine ⟨ao, cap, rfl, hc, hm, hl, fun hn => ?_⟩
  obtain ⟨b, off, rfl, hb, hx⟩ := hx hn
  exact ⟨b, off, rfl, by simp, hx⟩
theorem RowsIn.lessN {w : World} {F : List Nat} {v : Value} {l : List (List V)} (h : RowsIn w F v l) : RowsIn w [] v l := by
  obtain ⟨vs, hl, hv, hx⟩ := h
  exact ⟨vs, hl, hv.lessN, fun i r u hr hu => LiesC.lessN (hx i r u hr hu)⟩
theorem TabsIn.lessN {w : World} {F : List Nat} {v : Value} {T : List VT} (h : TabsIn w F v T) : TabsIn w [] v T := by
  obtain ⟨ps, hl, hv, hx⟩ := h
  exact ⟨ps, hl, hv.lessN, fun i r u hr hu => ⟨(hx i r u hr hu).1, LiesC.lessN (hx i r u hr hu).2.1, (hx i r u hr hu).2.2.lessN⟩⟩
theorem NodeIn.lessN {w : World} {F : List Nat} {p : NP} {n : VN} (h : NodeIn w F p n) : NodeIn w [] p n := ⟨LiesC.lessN h.1, LiesC.lessN h.2.1, LiesC.lessN h.2.2.1, LiesC.lessN h.2.2.2⟩
theorem tabs_cell {w : World} {F : List Nat} {ao : Option Addr} {cap : Nat} {T : List VT} (h : TabsIn w F (.slice ao T.length cap) T) {t : Nat} (ht : t < T.length) : ∃ b off ko kcap, ao = some ⟨b, off, none⟩ ∧ w.cell? ⟨b, off + t * 3 + 1, none⟩ = some (.slice ko T[t].kinds.length kcap) ∧ IntsIn w F (.slice ko T[t].kinds.length kcap) T[t].kinds := by
  obtain ⟨b, off, e, hx⟩ := h.cells (by omega)
  obtain ⟨kv, rv, _, c1, _, hk, _⟩ := hx t ht
  obtain ⟨ko, kcap, rfl, _⟩ := hk.open
  exact ⟨b, off, ko, kcap, e, c1, hk⟩
theorem set_self {D : List Int} {i : Nat} (h : i < D.length) (hd : D[i] = 1) : D.set i 1 = D := by
  apply List.ext_getElem
  · simp
  · intro j h1 h2
    rw [List.getElem_set]
    split
    · rename_i e; subst e; exact hd.symm
    · rfl

set_option maxRecDepth 20000 in
set_option maxHeartbeats 8000000 in
theorem node_scan (w : World) (F : List Nat) (bk gd gu : Nat) (cv : Value) (cs : List (List Int)) (n : Nat) (D A : List Int) (tv : Value) (T : List VT) (nd : VN) (p : NP) (i : Nat) (hK : KSt w F bk gd gu cv cs n D (cntL n A)) (hT : TabsIn w F tv T) (hTl : T.length ≤ 1048576) (hp : NodeIn w F p nd) (hop : nd.op = 1) (hi : i < n) (hDi : D.getD i 0 = 1) :
    Calls Try.prog 50 #[.pointer (some ⟨bk, 0, none⟩), tv, nodeV nd p, .int .i64 (i : Int)] w (NodePost T cs nd i w F gd gu n D A) := by
  obtain ⟨tao, tcap, rfl, htc, htm, g1⟩ := hT.open
  clear g1
  have HT : Hid (TabsIn w F (.slice tao T.length tcap) T) := hT
  have HFI : Hid (∀ W, Below w.heap.size w W → Calls Try.prog 47 #[.slice tao T.length tcap, .string nd.table] W (FindPost T nd.table W)) := fun W hW => find_any W _ T nd.table (hT.step (stepB hW)).lessN hTl
  have hA : Ahead nd i := by intro x hx; simp [ins, hop] at hx
  have e1 : NodeOK T cs nd = HasTab T nd.table := by simp [NodeOK, hop]
  have e2 : nodeL T cs nd = tabK T nd.table := by simp [nodeL, hop]
  have e3 : ins nd = [] := by simp [ins, hop]
  have HP : Hid (∀ ao m cap b w', (b = true ↔ HasTab T nd.table) → (b = true → IntsIn w' F (.slice ao m cap) (tabK T nd.table)) → Below w.heap.size w w' → NodePost T cs nd i w F gd gu n D A (.returned (.tuple #[.slice ao m cap, .bool b])) w') := by
    intro ao m cap b w' h1 h2 h3
    refine ⟨ao, m, cap, b, rfl, by rw [e1]; exact ⟨fun h => ⟨hA, h1.1 h⟩, fun h => h1.2 h.2⟩, fun hb => ⟨by rw [e2]; exact h2 hb, ?_, ?_⟩, (Below.t h3).mono (by simp)⟩
    · rw [if_pos hop, set_self (by have := hK.dl; omega) (by have := hK.dl; simpa [show i < D.length from by omega] using hDi)]
      exact hK.d.b h3
    · rw [e3, List.append_nil]; exact hK.u.b h3
  clear hT hK hA e1 e2 e3 hDi
  obtain ⟨op, lf, rt, tb, ks, ct, cols, ots, sums⟩ := nd
  obtain ⟨kv, cv2, ov, sv⟩ := p
  obtain ⟨hp1, hp2, hp3, hp4⟩ := hp
  simp only at *
  subst hop
  obtain ⟨ko, kcap, rfl, _, _, g1⟩ := hp1.open
  obtain ⟨co, ccap, rfl, _, _, g2⟩ := hp2.open
  obtain ⟨oo, ocap, rfl, _, _, g3⟩ := hp3.open
  obtain ⟨so, scap, rfl, _, _, g4⟩ := hp4.open
  clear g1 g2 g3 g4 hp1 hp2 hp3 hp4
  unfold nodeV
  simp only
  go_enter Try.func50, Try.ntmps50
  go_wp2_with fail
  refine calls_at (fun W => Below w.heap.size w W) ((Below.refl _ _).alloc (Nat.le_refl _) _) ?_
  intro W hBW
  refine (HFI.out W hBW).mono ?_
  rintro e w1 ⟨t, rfl, hf, rfl⟩
  rcases hf with ⟨rfl, hno⟩ | ⟨j, hj, rfl, hnm, hfirst⟩
  · have HN : Hid (¬ HasTab T tb) := fun ⟨j, hj, h⟩ => hno j hj h
    clear hno
    go_wp2
    go_ret2
    exact HP.out _ _ _ _ _ (by simp [HN.out]) (by simp) hBW
  · obtain ⟨b, off, ko3, kcap3, hao, c1, hk3⟩ := tabs_cell (HT.out.step (stepB hBW)) hj
    subst hao
    have HY : Hid (HasTab T tb) := ⟨j, hj, hnm⟩
    have HI : Hid (IntsIn w1 F (.slice ko3 T[j].kinds.length kcap3) (tabK T tb)) := by
      show IntsIn _ _ _ _
      rw [tabK_first hj hnm hfirst]; exact hk3
    clear hfirst hk3 hnm
    generalize T[j].kinds.length = kl at *
    go_wp2
    go_ret2
    exact HP.out _ _ _ _ _ (by simp [HY.out]) (fun _ => HI.out) hBW
end Go.Proofs.Ytjoinhljdbljaaa
