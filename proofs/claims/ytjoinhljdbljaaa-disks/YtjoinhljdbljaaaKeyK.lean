/- The walk of encoded: a row and keys with marks in their spare room are encoded, and stay as they are. -/
import Derived.Test.YtjoinhljdbljaaaKeyJ
import Derived.Deep.RegionWith
namespace Go.Proofs.Ytjoinhljdbljaaa
open Go.RowKit

theorem one_V (xs : List V) : ∀ t ∈ xs.map V.t, t.1.oneCell' = true ∧ t.2.1.oneCell' = true ∧ t.2.2.oneCell' = true := by
  intro t ht
  obtain ⟨v, _, rfl⟩ := List.mem_map.1 ht
  exact ⟨rfl, rfl, rfl⟩
theorem one_K (xs : List K) : ∀ t ∈ xs.map K.t, t.1.oneCell' = true ∧ t.2.1.oneCell' = true ∧ t.2.2.oneCell' = true := by
  intro t ht
  obtain ⟨v, _, rfl⟩ := List.mem_map.1 ht
  exact ⟨rfl, rfl, rfl⟩

theorem Blk.grown {w w' : World} {g g' : Nat} {e : TypeId} {N : Nat} {l : List T3} (h : Blk w g e N l) (hg : w.grownBy w' (some g')) (hne : g ≠ g') : Blk w' g e N l := by
  have hlt := h.lt
  obtain ⟨cur, hh, r⟩ := h
  exact ⟨cur, by rw [hg.block g hlt (by simpa using hne)]; exact hh, r⟩

theorem Blk.grown0 {w w' : World} {g : Nat} {e : TypeId} {N : Nat} {l : List T3} (h : Blk w g e N l) (hg : w.grownBy w' none) : Blk w' g e N l := by
  have hlt := h.lt
  obtain ⟨cur, hh, r⟩ := h
  exact ⟨cur, by rw [hg.block g hlt (by simp)]; exact hh, r⟩

theorem below_grown {B g : Nat} {w0 w w' : World} (h : Below B w0 w) (hg : w.grownBy w' (some g)) (hB : B ≤ w.heap.size) (hgB : B ≤ g) : Below B w0 w' := h.grown hg hB (fun k hk => by simp at hk; omega)

theorem Blk.other {w : World} {g : Nat} {e : TypeId} {N : Nat} {l : List T3} (h : Blk w g e N l) (g' o : Nat) (v : Value) (hne : g ≠ g') : Blk (w.setCell ⟨g', o, none⟩ v) g e N l := by
  obtain ⟨cur, hh, r⟩ := h
  exact ⟨cur, by rw [Below.heap_setCell _ _ _ _ hne]; exact hh, r⟩

def mV : T3 := (.int .i64 9, .int .i64 0, .string ⟨#[]⟩)
def mK : T3 := (.int .i64 (-77), .bool false, .bool false)

set_option maxRecDepth 20000 in
set_option maxHeartbeats 2000000 in
theorem encoded_any (w : World) (rv kv : Value) (xs : List V) (ks : List K) (hr : Lies w w.heap.size rv (xs.map V.t)) (hk : Lies w w.heap.size kv (ks.map K.t))
    (hl : ks.length ≤ 1048576) (hx : xs.length ≤ 1048576) (hf : ∀ v ∈ xs, Fair v) (hin : ∀ y ∈ ks, good xs y) :
    Calls Try.prog 22 #[rv, kv] w fun e w' => e = .returned (.tuple #[.string ⟨(encKeys xs ks).toArray⟩, .bool true]) ∧ Below w.heap.size w w' := by
  obtain ⟨i1, hi1, hz10, hz11, hz12⟩ := info_parts info31
  obtain ⟨i2, hi2, hz20, hz21, hz22⟩ := info_parts info35
  have HR : Hid (Lies w w.heap.size rv (xs.map V.t)) := hr
  have HK : Hid (Lies w w.heap.size kv (ks.map K.t)) := hk
  obtain ⟨ao, cap, rfl, hrc, hrm, hrx0⟩ := hr
  obtain ⟨ko, kcap, rfl, hkc, hkm, hkx0⟩ := hk
  simp only [List.length_map] at *
  have HRX : Hid _ := hrx0
  have HKX : Hid _ := hkx0
  have HF : Hid _ := hf
  have HIN : Hid _ := hin
  clear hrx0 hkx0 hf hin
  have hs3 : (Try.prog.info? 31).map (·.size) = some 3 := by rw [hi1]; simp [hz11]
  have hs4 : (Try.prog.info? 35).map (·.size) = some 3 := by rw [hi2]; simp [hz21]
  have HS3 : Hid _ := hs3
  have HS4 : Hid _ := hs4
  have HI1 : Hid _ := And.intro hi1 (And.intro hz10 (And.intro hz11 hz12))
  have HI2 : Hid _ := And.intro hi2 (And.intro hz20 (And.intro hz21 hz22))
  clear hs3 hs4 hi1 hz10 hz11 hz12 hi2 hz20 hz21 hz22
  go_enter Try.func22, Try.ntmps22
  go_wp2_with (first | (at_make; refine wpList_make_full _ rfl (.tmp 14) (.tmp 14) 33 rfl w.heap.size 31 i1 (.agg #[.int .i64 0, .int .i64 0, .string ⟨#[]⟩]) 3 Try.underlying33 HI1.out.1 HI1.out.2.1 HI1.out.2.2.1 .i64 .i64 _ _ (xs.length + 8) rfl rfl (by omega) (by omega) (by rw [HI1.out.2.2.2]; omega) (by unfold maxLen; omega) (Nat.le_refl _) ?_; intro w1 ho1 hg1; have hb1 := Blk.made ho1 rfl; have hB1 := (Below.refl w.heap.size w).grown hg1 (Nat.le_refl _) (fun k hk => by simp at hk); clear ho1 hg1; have hz1 := hb1.lt) | (at_make; refine wpList_make_full _ rfl (.tmp 18) (.tmp 18) 36 rfl w.heap.size 35 i2 (.agg #[.int .i64 0, .bool false, .bool false]) 3 Try.underlying36 HI2.out.1 HI2.out.2.1 HI2.out.2.2.1 .i64 .i64 _ _ (ks.length + 8) rfl rfl (by omega) (by omega) (by rw [HI2.out.2.2.2]; omega) (by unfold maxLen; omega) (by exact hB1.size) ?_; intro w2 ho2 hg2; have hb2 := Blk.made ho2 rfl; have hb1' := hb1.grown0 hg2; have hB2 := hB1.grown hg2 hB1.size (fun k hk => by simp at hk); clear ho2 hg2 hb1) | (refine wpList_copy3 rfl (.tmp 20) (.tmp 21) 33 31 rfl Try.underlying33 HS3.out w.heap.size _ _ _ w.heap.size (xs.map V.t) rfl rfl hb1' (HR.out.below hB2) (by simp) (one_V xs) ?_; intro w3 hb3 hg3; have hc2 := hb2.grown hg3 (by omega); have hB3 := below_grown hB2 hg3 hB2.size (Nat.le_refl _); clear hb1' hb2 hg3) | (refine wpList_copy3 rfl (.tmp 23) (.tmp 24) 36 35 rfl Try.underlying36 HS4.out w1.heap.size _ _ _ w.heap.size (ks.map K.t) rfl rfl hc2 (HK.out.below hB3) (by simp) (one_K ks) ?_; intro w4 hb4 hg4; have hb3' := hb3.grown hg4 (by omega); have hB4 := below_grown hB3 hg4 hB3.size (by omega); clear hb3 hc2 hg4))
  clear hB1
  have hlt4 := hb4.lt
  generalize w1.heap.size = g2 at *
  clear HI1 HI2 HS3 HS4
  go_loopw [8] (fun i wr => ∃ k : Nat, k ≤ 8 ∧ i = .int .i64 k ∧ Blk wr w.heap.size 31 (xs.length + 8) (xs.map V.t ++ List.replicate k mV) ∧ Blk wr g2 35 (ks.length + 8) (ks.map K.t ++ List.replicate k mK) ∧ Below w.heap.size w wr) (fun i _ => 8 - (intOf i).toNat)
  case atStart => exact ⟨0, by omega, rfl, by simpa using hb3', by simpa using hb4, hB4⟩
  case round =>
    obtain ⟨k, hk, rfl, hR, hL, hB⟩ := hrel
    clear hb3' hb4 hB4 hB2 hB3 hlt4
    by_cases hlt : k < 8
    · obtain ⟨⟨v0, hc0⟩, hf0⟩ := hR.place ((xs.length + k) * 3) (by omega)
      obtain ⟨⟨v1, hc1⟩, hf1⟩ := hR.place ((xs.length + k) * 3 + 1) (by omega)
      obtain ⟨⟨v2, hc2⟩, hf2⟩ := hR.place ((xs.length + k) * 3 + 1 + 1) (by omega)
      obtain ⟨⟨v3, hc3⟩, hf3⟩ := hL.place ((ks.length + k) * 3) (by omega)
      obtain ⟨⟨v4, hc4⟩, hf4⟩ := hL.place ((ks.length + k) * 3 + 1) (by omega)
      obtain ⟨⟨v5, hc5⟩, hf5⟩ := hL.place ((ks.length + k) * 3 + 1 + 1) (by omega)
      go_wp2
      go_roundw
      case rel =>
        have e1 : List.replicate (k + 1) mV = List.replicate k mV ++ [mV] := List.replicate_succ'
        have e2 : List.replicate (k + 1) mK = List.replicate k mK ++ [mK] := List.replicate_succ'
        refine ⟨k + 1, by omega, by go_num, ?_, ?_, ?_⟩
        · rw [e1, ← List.append_assoc]
          exact ((((hR.put (xs.length + k) (by simp) (by omega) _ _ _).other _ _ _ (by omega)).other _ _ _ (by omega)).other _ _ _ (by omega))
        · rw [e2, ← List.append_assoc]
          exact (((hL.other _ _ _ (by omega)).other _ _ _ (by omega)).other _ _ _ (by omega)).put (ks.length + k) (by simp) (by omega) _ _ _
        · exact (((((hB.setCell (by simp) _).setCell (by simp) _).setCell (by simp) _).setCell (by simp; omega) _).setCell (by simp; omega) _).setCell (by simp; omega) _
      case measure => simp [intOf]; omega
    · obtain rfl : k = 8 := by omega
      have hsz := hB.size
      have hg2 := hL.lt
      have hlR : Lies wr wr.heap.size (.slice (some ⟨w.heap.size, 0, none⟩) xs.length (xs.length + 8)) (xs.map V.t) := by
        have := hR.lies xs.length (xs.length + 8) (by simp) (by omega) (by unfold maxLen; omega) hR.lt
        simpa using this
      have hlL : Lies wr wr.heap.size (.slice (some ⟨g2, 0, none⟩) ks.length (ks.length + 8)) (ks.map K.t) := by
        have := hL.lies ks.length (ks.length + 8) (by simp) (by omega) (by unfold maxLen; omega) hL.lt
        simpa using this
      have HLR : Hid (Lies wr wr.heap.size (.slice (some ⟨w.heap.size, 0, none⟩) xs.length (xs.length + 8)) (xs.map V.t)) := hlR
      have HLL : Hid (Lies wr wr.heap.size (.slice (some ⟨g2, 0, none⟩) ks.length (ks.length + 8)) (ks.map K.t)) := hlL
      clear hlR hlL
      go_wp2
      go_region_with (go_at_call 8; refine (Encode_any _ _ _ xs ks ks.length (by exact HLR.out) (by exact HLL.out) hl hx HF.out ⟨Nat.le_refl _, fun i hi _ => HIN.out _ (List.getElem_mem _), fun h => absurd h (Nat.lt_irrefl _)⟩).mono ?_; rintro e w5 ⟨rfl, hB5⟩)
      all_goals
        have hR5 := Blk.below (w := wr.drew) hR hB5 hR.lt
        have hL5 := Blk.below (w := wr.drew) hL hB5 hL.lt
        have hBw : Below w.heap.size w w5 := hB.drew.trans (hB5.mono hsz)
        have HA : Hid (encAns xs ks ks.length = encKeys xs ks) := by simp [Hid, encAns]
        clear hR hL hB HLR HLL HF HIN hB5 hg2 hsz
        go_wp2
        go_loopw [10] (fun i wz => ∃ k : Nat, k ≤ xs.length + 8 ∧ i = .int .i64 k ∧ Blk wz w.heap.size 31 (xs.length + 8) (xs.map V.t ++ List.replicate 8 mV) ∧ Blk wz g2 35 (ks.length + 8) (ks.map K.t ++ List.replicate 8 mK) ∧ Below w.heap.size w wz) (fun i _ => xs.length + 8 - (intOf i).toNat)
        case atStart => exact ⟨0, by omega, rfl, hR5, hL5, hBw⟩
        case round =>
          obtain ⟨k, hk, rfl, hR, hL, hB⟩ := hrel
          clear hR5 hL5 hBw
          by_cases hlt : k < xs.length + 8
          · by_cases hin : k < xs.length
            · obtain ⟨rb, roff, rfl, hrB, hrx⟩ := HRX.out (by omega)
              obtain ⟨a0, a1, a2⟩ := hR.cells k (by simp; omega)
              obtain ⟨b0, b1, b2⟩ := hrx k hin
              rw [← hB.cell (by exact hrB)] at b0 b1 b2
              rw [List.getElem_append_left (by simpa using hin)] at a0 a1 a2
              simp only [List.getElem_map, V.t] at a0 a1 a2 b0 b1 b2
              clear hrx HRX
              generalize xs[k] = x at *
              have hd0 : decide ((k : Int) < (xs.length : Int)) = true := by simp; omega
              have hd1 : decide ((xs.length : Int) ≤ (k : Int)) = false := by simp; omega
              have hd2 : decide (xs.length ≤ k) = false := by simp; omega
              have hd3 : decide (k < xs.length) = true := by simp; omega
              go_wp2
              go_big_quiet (fail)
              go_wp2
              go_roundw
              case rel => exact ⟨k + 1, by omega, by go_num, hR.below (below_drewN (Below.refl wr.heap.size wr) _) hR.lt, hL.below (below_drewN (Below.refl wr.heap.size wr) _) hL.lt, below_drewN hB _⟩
              case measure => simp [intOf]; omega
            · have hq := hR.cells k (by simp; omega)
              rw [List.getElem_append_right (by simp; omega), List.getElem_replicate] at hq
              simp only [mV] at hq
              obtain ⟨a0, a1, a2⟩ := hq
              clear HRX
              have hd0 : decide ((k : Int) < (xs.length : Int)) = false := by simp; omega
              have hd1 : decide ((xs.length : Int) ≤ (k : Int)) = true := by simp; omega
              have hd2 : decide (xs.length ≤ k) = true := by simp; omega
              have hd3 : decide (k < xs.length) = false := by simp; omega
              go_wp2
              go_big_quiet (fail)
              go_wp2
              go_roundw
              case rel => exact ⟨k + 1, by omega, by go_num, hR.below (below_drewN (Below.refl wr.heap.size wr) _) hR.lt, hL.below (below_drewN (Below.refl wr.heap.size wr) _) hL.lt, below_drewN hB _⟩
              case measure => simp [intOf]; omega
          · clear HRX
            go_wp2
            go_loopw [11] (fun i wz => ∃ k : Nat, k ≤ ks.length + 8 ∧ i = .int .i64 k ∧ Blk wz w.heap.size 31 (xs.length + 8) (xs.map V.t ++ List.replicate 8 mV) ∧ Blk wz g2 35 (ks.length + 8) (ks.map K.t ++ List.replicate 8 mK) ∧ Below w.heap.size w wz) (fun i _ => ks.length + 8 - (intOf i).toNat)
            case atStart => exact ⟨0, by omega, rfl, hR, hL, hB⟩
            case round =>
              have hB0 := hB
              clear hB0 hR hL hB hlt hk
              obtain ⟨k, hk, rfl, hR, hL, hB⟩ := hrel
              by_cases hlt : k < ks.length + 8
              · by_cases hin : k < ks.length
                · obtain ⟨rb, roff, rfl, hrB, hrx⟩ := HKX.out (by omega)
                  obtain ⟨a0, a1, a2⟩ := hL.cells k (by simp; omega)
                  obtain ⟨b0, b1, b2⟩ := hrx k hin
                  rw [← hB.cell (by exact hrB)] at b0 b1 b2
                  rw [List.getElem_append_left (by simpa using hin)] at a0 a1 a2
                  simp only [List.getElem_map, K.t] at a0 a1 a2 b0 b1 b2
                  clear hrx HKX
                  generalize ks[k] = x at *
                  have hd0 : decide ((k : Int) < (ks.length : Int)) = true := by simp; omega
                  have hd1 : decide ((ks.length : Int) ≤ (k : Int)) = false := by simp; omega
                  have hd2 : decide (ks.length ≤ k) = false := by simp; omega
                  have hd3 : decide (k < ks.length) = true := by simp; omega
                  go_wp2
                  go_big_quiet (fail)
                  go_wp2
                  go_roundw
                  case rel => exact ⟨k + 1, by omega, by go_num, hR.below (below_drewN (Below.refl wr.heap.size wr) _) hR.lt, hL.below (below_drewN (Below.refl wr.heap.size wr) _) hL.lt, below_drewN hB _⟩
                  case measure => simp [intOf]; omega
                · have hq := hL.cells k (by simp; omega)
                  rw [List.getElem_append_right (by simp; omega), List.getElem_replicate] at hq
                  simp only [mK] at hq
                  obtain ⟨a0, a1, a2⟩ := hq
                  clear HKX
                  have hd0 : decide ((k : Int) < (ks.length : Int)) = false := by simp; omega
                  have hd1 : decide ((ks.length : Int) ≤ (k : Int)) = true := by simp; omega
                  have hd2 : decide (ks.length ≤ k) = true := by simp; omega
                  have hd3 : decide (k < ks.length) = false := by simp; omega
                  go_wp2
                  go_big_quiet (fail)
                  go_wp2
                  go_roundw
                  case rel => exact ⟨k + 1, by omega, by go_num, hR.below (below_drewN (Below.refl wr.heap.size wr) _) hR.lt, hL.below (below_drewN (Below.refl wr.heap.size wr) _) hL.lt, below_drewN hB _⟩
                  case measure => simp [intOf]; omega
              · clear HKX
                go_wp2
                go_ret2
                exact ⟨by rw [HA.out]; rfl, hB⟩
end Go.Proofs.Ytjoinhljdbljaaa
