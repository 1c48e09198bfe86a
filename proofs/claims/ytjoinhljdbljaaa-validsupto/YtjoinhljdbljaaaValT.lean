/- The document's test of a table. -/
import Derived.Test.YtjoinhljdbljaaaValR
namespace Go.Proofs.Ytjoinhljdbljaaa
open Go.RowKit

theorem rv_iff {v : V} {k : Int} (hk : Kind3 k) : rvalB v k = true ↔ PairOK v k := by
  obtain ⟨vk, vn, vs⟩ := v
  unfold PairOK rvalB gvalB inB
  simp only
  rcases hk with rfl | rfl | rfl
  all_goals
    by_cases h0 : vk = 0
    · simp [h0]
    · by_cases h1 : vk = 1
      · simp [h1]
      · by_cases h2 : vk = 2
        · simp [h2]
        · by_cases h3 : vk = 3
          · simp [h3]
            try exact ⟨fun ⟨a, b, c⟩ => ⟨by omega, a⟩, fun ⟨a, b⟩ => ⟨b, by omega⟩⟩
          · simp [h0, h1, h2, h3]
theorem wp_at {P : Program} {c : Code} {Q : Exit → Act → World → Prop} {a : Act} {w : World} (Φ : World → Prop) (h0 : Φ w) (h : ∀ W, Φ W → Code.wp P c Q a W) : Code.wp P c Q a w := h w h0
def CellR (r : List V) (ks : List Int) (c : Nat) : Prop := r.length = ks.length ∧ ∀ (h : c < r.length) (h2 : c < ks.length), PairOK r[c] ks[c]
def ColR (rows : List (List V)) (ks : List Int) (c : Nat) : Prop := (∀ h : c < ks.length, Kind3 ks[c]) ∧ ∀ i (h : i < rows.length), CellR rows[i] ks c
theorem table_iff (t : VT) : TableOK t ↔ (1 ≤ t.kinds.length ∧ t.kinds.length ≤ 12) ∧ ∀ c, c < t.kinds.length → ColR t.rows t.kinds c := by
  constructor
  · rintro ⟨⟨h1, h2, h3⟩, h4⟩
    exact ⟨⟨h1, h2⟩, fun c hc => ⟨fun h => h3 c h, fun i hi => ⟨(h4 i hi).1, fun h h2 => (h4 i hi).2 c h h2⟩⟩⟩
  · rintro ⟨⟨h1, h2⟩, h3⟩
    exact ⟨⟨h1, h2, fun i hi => (h3 i hi).1 hi⟩, fun i hi => ⟨((h3 0 (by omega)).2 i hi).1, fun c h h2 => ((h3 c h2).2 i hi).2 h h2⟩⟩

set_option maxRecDepth 20000 in
set_option maxHeartbeats 4000000 in
theorem table_any (w : World) (t : VT) (kv rv : Value) (h1 : IntsIn w [] kv t.kinds) (h2 : RowsIn w [] rv t.rows) (hs : TabSmall t) :
    Calls Try.prog 46 #[.agg #[.string t.name, kv, rv]] w (BoolPost (TableOK t) w) := by
  have HTI : Hid (TableOK t ↔ (1 ≤ t.kinds.length ∧ t.kinds.length ≤ 12) ∧ ∀ c, c < t.kinds.length → ColR t.rows t.kinds c) := table_iff t
  generalize TableOK t = TO at *
  obtain ⟨nm, ks, rows⟩ := t
  obtain ⟨hs1, hs2⟩ := hs
  simp only at *
  obtain ⟨ao, cap, rfl, hc, hm, g1⟩ := h1.open
  clear g1
  obtain ⟨ao2, cap2, rfl, hc2, hm2, g2⟩ := h2.open
  clear g2
  have HK : Hid (IntsIn w [] (.slice ao ks.length cap) ks) := h1
  have HR : Hid (RowsIn w [] (.slice ao2 rows.length cap2) rows) := h2
  clear h1 h2
  have HI : Hid (∀ n lo hi w, Calls Try.prog 48 #[.int .i64 n, .int .i64 lo, .int .i64 hi] w fun e w' => e = .returned (.bool (inB n lo hi)) ∧ w' = w) := in_any
  have HRV : Hid (∀ (v : V) q w, Calls Try.prog 67 #[.agg #[.int .i64 v.k, .int .i64 v.n, .string v.s], .int .i64 q] w fun e w' => e = .returned (.bool (rvalB v q)) ∧ Below w.heap.size w w') := rvalue_any
  go_enter Try.func46, Try.ntmps46
  by_cases hlen : 1 ≤ ks.length ∧ ks.length ≤ 12
  · have i1 : inB (ks.length : Int) 1 12 = true := inB_t (by omega)
    go_wp2_with (go_at_call 48; refine (HI.out _ _ _ _).mono ?_; rintro e w' ⟨rfl, rfl⟩)
    go_loopw [3] (fun j wr => ∃ k : Nat, k ≤ ks.length ∧ j = .int .i64 k ∧ (∀ c, c < k → ColR rows ks c) ∧ Below w.heap.size w wr ∧ w.heap.size < wr.heap.size ∧ wr.cell? ⟨w.heap.size, 1, none⟩ = some (.slice ao ks.length cap) ∧ wr.cell? ⟨w.heap.size, 2, none⟩ = some (.slice ao2 rows.length cap2)) (fun j _ => ks.length - (intOf j).toNat)
    case atStart => exact ⟨0, by omega, rfl, fun c h => by omega, (Below.refl _ _).alloc (Nat.le_refl _) _, by simp, by simp, by simp⟩
    case round =>
      obtain ⟨k, hk, rfl, hall, hB, hsz, x1, x2⟩ := hrel
      by_cases hlt : k < ks.length
      · obtain ⟨b, off, hao, hcell⟩ := (HK.out.step (stepB hB)).cells (by omega)
        subst hao
        have c0 := hcell k hlt
        by_cases hkk : Kind3 ks[k]
        · have i2 : inB ks[k] 1 3 = true := inB_t (by unfold Kind3 at hkk; omega)
          have HKK : Hid (Kind3 ks[k]) := hkk
          have HFC : Hid (∀ i (h : i < rows.length), ¬ CellR rows[i] ks k → ¬ TO) := fun i h hq hto => hq (((HTI.out.1 hto).2 k hlt).2 i h)
          have HNC : Hid ((∀ i (h : i < rows.length), CellR rows[i] ks k) → ∀ c, c < k + 1 → ColR rows ks c) := by
            intro hq c hc
            by_cases e : c = k
            · subst e; exact ⟨fun _ => hkk, hq⟩
            · exact hall c (by omega)
          have HCR : Hid (∀ r : List V, (h : k < r.length) → r.length = ks.length → rvalB r[k] ks[k] = true → CellR r ks k) := fun r h hl hp => ⟨hl, fun _ _ => (rv_iff hkk).1 hp⟩
          have HCN : Hid (∀ r : List V, (h : k < r.length) → rvalB r[k] ks[k] = false → ¬ CellR r ks k) := fun r h hp hq => by have := (rv_iff hkk).2 (hq.2 h hlt); rw [hp] at this; cases this
          clear hall hkk
          go_wp2_with (go_at_call 48; refine (HI.out _ _ _ _).mono ?_; rintro e w1 ⟨rfl, rfl⟩)
          clear c0 hcell
          go_loopw [4] (fun j wz => ∃ k2 : Nat, k2 ≤ rows.length ∧ j = .int .i64 k2 ∧ (∀ i (h : i < rows.length), i < k2 → CellR rows[i] ks k) ∧ Below w1.heap.size w1 wz) (fun j _ => rows.length - (intOf j).toNat)
          case atStart => exact ⟨0, by omega, rfl, fun i _ h => by omega, Below.refl _ _⟩
          case round =>
            obtain ⟨k2, hk2, rfl, hall2, hB2⟩ := hrel
            have hB3 := bthen hB hB2
            have hsz3 := Nat.lt_of_lt_of_le hsz hB2.size
            have y1 := (hB2.cell (p := ⟨w.heap.size, 1, none⟩) hsz).trans x1
            have y2 := (hB2.cell (p := ⟨w.heap.size, 2, none⟩) hsz).trans x2
            by_cases hlt2 : k2 < rows.length
            · obtain ⟨b2, off2, hao2, hcell2⟩ := (HR.out.step (stepB hB3)).cells (by omega)
              subst hao2
              obtain ⟨uv, d0, huv⟩ := hcell2 k2 hlt2
              obtain ⟨ao3, cap3, rfl, hc3, hm3, _⟩ := huv.open
              have HUV : Hid (ValsIn wr [] (.slice ao3 rows[k2].length cap3) rows[k2]) := huv
              have HN : Hid (CellR rows[k2] ks k → ∀ i (h : i < rows.length), i < k2 + 1 → CellR rows[i] ks k) := fun hq => snoc_all (P := fun q => CellR q ks k) hlt2 hall2 hq
              have HF : Hid (¬ CellR rows[k2] ks k → ¬ TO) := HFC.out k2 hlt2
              generalize rows[k2] = r at *
              clear hcell2 huv hall2
              by_cases hrl : r.length = ks.length
              · have hd : ((r.length : Int) != (ks.length : Int)) = false := by simp [hrl]
                obtain ⟨b3, off3, hao3, hcell3⟩ := HUV.out.cells (by omega)
                subst hao3
                obtain ⟨e0, e1, e2⟩ := hcell3 k (by omega)
                obtain ⟨b4, off4, hao4, hcell4⟩ := (HK.out.step (stepB hB3)).cells (by omega)
                obtain ⟨rfl, rfl⟩ : b = b4 ∧ off = off4 := by simpa using hao4
                have e4 := hcell4 k hlt
                have HY : Hid (rvalB (r[k]'(by omega)) ks[k] = true → CellR r ks k) := fun hp => HCR.out r (by omega) hrl hp
                have HNo : Hid (rvalB (r[k]'(by omega)) ks[k] = false → ¬ CellR r ks k) := fun hp => HCN.out r (by omega) hp
                generalize r[k]'_ = q at *
                generalize ks[k] = kd at *
                obtain ⟨vk, vn, vs⟩ := q
                simp only at e0 e1 e2
                clear hcell3 hcell4 hao4
                go_wp2_with fail
                go_big_quiet (fail)
                go_wp2_with fail
                refine wp_at (fun W => Below wr.heap.size wr W ∧ ∀ p, W.cell? p = wr.cell? p) ⟨⟨rfl, rfl, rfl, Nat.le_refl _, fun _ _ => rfl⟩, fun _ => rfl⟩ ?_
                rintro W ⟨hBW, hcW⟩
                rw [← hcW] at y1 y2 d0 e0 e1 e2 e4
                have hB4 := bthen hB2 hBW
                have hB5 := bthen hB3 hBW
                clear hcW hBW hB2 hB3 hB
                cases hg : rvalB ⟨vk, vn, vs⟩ kd
                · have HFF := HF.out (HNo.out hg)
                  have HF2 : Hid (¬ TO) := HFF
                  have HG : Hid (rvalB ⟨vk, vn, vs⟩ kd = false) := hg
                  clear HFF hg HY HNo
                  go_region_with (go_at_call 67; refine (HRV.out ⟨vk, vn, vs⟩ kd _).mono ?_; rintro e w5 ⟨rfl, hB6⟩; rw [HG.out])
                  all_goals
                    have hB7 : Below W.heap.size W w5 := ((Below.refl W.heap.size W).drew).trans hB6
                    go_wp2
                    go_ret
                    exact BoolPost.no HF2.out (bthen hB5 hB7)
                · have HNN := HN.out (HY.out hg)
                  have HN2 : Hid (∀ i (h : i < rows.length), i < k2 + 1 → CellR rows[i] ks k) := HNN
                  have HG : Hid (rvalB ⟨vk, vn, vs⟩ kd = true) := hg
                  clear HNN hg HY HNo
                  go_region_with (go_at_call 67; refine (HRV.out ⟨vk, vn, vs⟩ kd _).mono ?_; rintro e w5 ⟨rfl, hB6⟩; rw [HG.out])
                  all_goals
                    have hB7 : Below W.heap.size W w5 := ((Below.refl W.heap.size W).drew).trans hB6
                    go_wp2
                    go_roundw
                    case rel => exact ⟨k2 + 1, by omega, by go_num, HN2.out, bthen hB4 hB7⟩
                    case measure => simp [intOf]; omega
              · have hd : ((r.length : Int) != (ks.length : Int)) = true := by rw [bne_iff_ne]; omega
                have HFF := HF.out (fun h => hrl h.1)
                have HF2 : Hid (¬ TO) := HFF
                clear HFF
                go_wp2_with fail
                go_big_quiet (fail)
                go_wp2
                go_ret
                exact BoolPost.no HF2.out ⟨hB3.os, hB3.tape, hB3.output, hB3.size, hB3.block⟩
            · have HNN := HNC.out (fun i hi => hall2 i hi (by omega))
              have HN4 : Hid (∀ c, c < k + 1 → ColR rows ks c) := HNN
              clear HNN hall2
              go_wp2
              go_roundw
              case rel => exact ⟨k + 1, by omega, by go_num, HN4.out, hB3, hsz3, y1, y2⟩
              case measure => simp [intOf]; omega
        · have i2 : inB ks[k] 1 3 = false := inB_f (by unfold Kind3 at hkk; omega)
          have HF : Hid (¬ TO) := fun h => hkk (((HTI.out.1 h).2 k hlt).1 hlt)
          clear hall
          go_wp2_with (go_at_call 48; refine (HI.out _ _ _ _).mono ?_; rintro e w' ⟨rfl, rfl⟩)
          go_ret
          exact BoolPost.no HF.out hB
      · have HT : Hid TO := HTI.out.2 ⟨hlen, fun c hc => hall c (by omega)⟩
        clear hall
        go_wp2
        go_ret
        exact BoolPost.yes HT.out hB
  · have i1 : inB (ks.length : Int) 1 12 = false := inB_f (by omega)
    have HF : Hid (¬ TO) := fun h => hlen (HTI.out.1 h).1
    go_wp2_with (go_at_call 48; refine (HI.out _ _ _ _).mono ?_; rintro e w' ⟨rfl, rfl⟩)
    go_ret
    exact BoolPost.no HF.out ((Below.refl _ _).alloc (Nat.le_refl _) _)
end Go.Proofs.Ytjoinhljdbljaaa
