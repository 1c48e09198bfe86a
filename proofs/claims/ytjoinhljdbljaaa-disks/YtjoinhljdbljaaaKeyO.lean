/- The walk of Keys: true, whatever comes in. -/
import Derived.Test.YtjoinhljdbljaaaKeyN
namespace Go.Proofs.Ytjoinhljdbljaaa
open Go.RowKit

theorem lies_one (w : World) (B : Nat) (hB : w.heap.size < B) (t : T3) (ty : TypeId) : Lies (w.alloc (.cells #[t.1, t.2.1, t.2.2] ty)) B (.slice (some ⟨w.heap.size, 0, none⟩) 1 1) [t] := by
  refine ⟨_, 1, rfl, Nat.le_refl _, by unfold maxLen; omega, fun _ => ⟨w.heap.size, 0, rfl, hB, fun i hi => ?_⟩⟩
  obtain rfl : i = 0 := by simpa using hi
  simp

def sOne (n : Int) : ByteArray := ⟨(encAns [⟨1, n, ⟨#[]⟩⟩] [⟨0, false, false⟩] 1).toArray⟩
def s1 : ByteArray := sOne 1
def s2 : ByteArray := sOne 2

theorem encode_one (n : Int) (hn : I64 n) (w : World) (o : Obj) : Calls Try.prog 8 #[.slice (some ⟨w.heap.size + 1, 0, none⟩) 1 1, .slice (some ⟨w.heap.size + 1 + 1, 0, none⟩) 1 1]
    (((w.alloc o).alloc (.cells #[.int .i64 1, .int .i64 n, .string ⟨#[]⟩] 31)).alloc (.cells #[.int .i64 0, .bool false, .bool false] 35)) fun e w' => e = .returned (.string (sOne n)) ∧
      Below w.heap.size w w' := by
  have h1 := lies_one (w.alloc o) (w.heap.size + 2) (by simp) (.int .i64 1, .int .i64 n, .string ⟨#[]⟩) 31
  have h2 := h1.below ((Below.refl (w.heap.size + 2) _).alloc (by simp) (.cells #[.int .i64 0, .bool false, .bool false] 35))
  have h3 := lies_one ((w.alloc o).alloc (.cells #[.int .i64 1, .int .i64 n, .string ⟨#[]⟩] 31)) (w.heap.size + 3) (by simp) (.int .i64 0, .bool false, .bool false) 35
  simp only [World.size_alloc] at h1 h2 h3
  refine (Encode_any _ _ _ [⟨1, n, ⟨#[]⟩⟩] [⟨0, false, false⟩] 1 ?_ ?_ (by decide) (by simp) ?_ ?_).mono ?_
  · exact h2.mono (by simp)
  · exact h3.mono (by simp)
  · intro v hv
    simp only [List.mem_cons, List.not_mem_nil, or_false] at hv
    subst hv
    exact Or.inr (Or.inl ⟨rfl, hn, rfl⟩)
  · refine ⟨by decide, fun i hi _ => ?_, fun h => absurd h (by decide)⟩
    obtain rfl : i = 0 := by simpa using hi
    exact ⟨Int.le_refl _, by simp⟩
  · rintro e w' ⟨rfl, hB⟩
    refine ⟨rfl, ?_⟩
    exact ((((Below.refl _ _).alloc (Nat.le_refl _) _).alloc (by simp) _).alloc (by simp; omega) _).trans (hB.mono (by simp; omega))

theorem less_self : ∀ l : List UInt8, Op.bytesLess l l = false
  | [] => rfl
  | a :: l => by rw [less_cons, if_neg (UInt8.lt_irrefl _), if_neg (UInt8.lt_irrefl _)]; exact less_self l

theorem stand_facts {r : Int} {a b : List UInt8} (h : Stand r a b) :
    (r = 0 ∧ (⟨a.toArray⟩ : ByteArray) = ⟨b.toArray⟩) ∨
    (r = 1 ∧ Op.bytesLess (⟨a.toArray⟩ : ByteArray).toList (⟨b.toArray⟩ : ByteArray).toList = true ∧ ¬ ((⟨b.toArray⟩ : ByteArray).extract 0 (⟨a.toArray⟩ : ByteArray).size).toList = (⟨a.toArray⟩ : ByteArray).toList ∧ ¬ ((⟨a.toArray⟩ : ByteArray).extract 0 (⟨b.toArray⟩ : ByteArray).size).toList = (⟨b.toArray⟩ : ByteArray).toList) ∨
    (r = -1 ∧ Op.bytesLess (⟨a.toArray⟩ : ByteArray).toList (⟨b.toArray⟩ : ByteArray).toList = false ∧ ¬ (⟨a.toArray⟩ : ByteArray).toList = (⟨b.toArray⟩ : ByteArray).toList ∧ ¬ ((⟨b.toArray⟩ : ByteArray).extract 0 (⟨a.toArray⟩ : ByteArray).size).toList = (⟨a.toArray⟩ : ByteArray).toList ∧ ¬ ((⟨a.toArray⟩ : ByteArray).extract 0 (⟨b.toArray⟩ : ByteArray).size).toList = (⟨b.toArray⟩ : ByteArray).toList) := by
  have hx : ∀ c d : List UInt8, ((⟨c.toArray⟩ : ByteArray).extract 0 (⟨d.toArray⟩ : ByteArray).size).toList = c.take d.length := by
    intro c d
    rw [ByteArray.toList_eq, ByteArray.data_extract]
    show ((c.toArray).extract 0 d.toArray.size).toList = _
    simp
  have ht : ∀ c : List UInt8, (⟨c.toArray⟩ : ByteArray).toList = c := by
    intro c
    rw [ByteArray.toList_eq]
  simp only [hx, ht]
  rcases h with ⟨h1, h2⟩ | ⟨h1, h2⟩ | ⟨h1, h2⟩
  · exact Or.inl ⟨h1, by rw [h2]⟩
  · exact Or.inr (Or.inl ⟨h1, h2.less.1, h2.not_prefix.1, h2.not_prefix.2⟩)
  · exact Or.inr (Or.inr ⟨h1, h2.less.2, fun e => h2.ne e.symm, h2.not_prefix.2, h2.not_prefix.1⟩)

theorem ones : (sOne 1).toList.isEmpty = false ∧ Op.bytesLess (sOne 1).toList (sOne 2).toList = true := by
  rw [ByteArray.toList_eq, ByteArray.toList_eq]
  constructor <;> decide +kernel

set_option maxRecDepth 20000 in
set_option maxHeartbeats 2000000 in
theorem keys_walk (w : World) (av bv kv : Value) (us vs : List V) (ks : List K) (ha : Lies w w.heap.size av (us.map V.t)) (hb : Lies w w.heap.size bv (vs.map V.t)) (hk : Lies w w.heap.size kv (ks.map K.t))
    (hus : us.length ≤ 1048576) (hvs : vs.length ≤ 1048576) (hks : ks.length ≤ 1048576) (hiu : ∀ v ∈ us, I64 v.k ∧ I64 v.n) (hiv : ∀ v ∈ vs, I64 v.k ∧ I64 v.n) :
    Calls Try.prog 5 #[av, bv, kv] w fun e w' => e = .returned (.bool true) ∧ Below w.heap.size w w' := by
  have HA : Hid (Lies w w.heap.size av (us.map V.t)) := ha
  have HB : Hid (Lies w w.heap.size bv (vs.map V.t)) := hb
  have HK : Hid (Lies w w.heap.size kv (ks.map K.t)) := hk
  have HIU : Hid _ := hiu
  have HIV : Hid _ := hiv
  clear ha hb hk hiu hiv
  go_enter Try.func5, Try.ntmps5
  go_wp2_with (first | (go_at_call 20; refine (whole_any _ _).mono ?_; rintro e w' ⟨rfl, rfl⟩))
  refine (encode_one 1 ⟨by decide, by decide⟩ _ _).mono ?_
  rintro e w1 ⟨rfl, hB1⟩
  go_wp2_with (first | (go_at_call 20; refine (whole_any _ _).mono ?_; rintro e w' ⟨rfl, rfl⟩))
  refine (encode_one 2 ⟨by decide, by decide⟩ _ _).mono ?_
  rintro e w2 ⟨rfl, hB2⟩
  obtain ⟨h1, h2⟩ := ones
  have h3 : ¬ (sOne 1).toList = [] := fun e => by rw [e] at h1; simp at h1
  generalize sOne 1 = t1 at *
  generalize sOne 2 = t2 at *
  have hBw : Below w.heap.size w w2 := hB1.trans (hB2.mono hB1.size)
  have hsz2 := hBw.size
  clear hB1 hB2
  go_wp2_with fail
  refine (alike_any w2 av bv us vs ((HA.out.below hBw).mono hsz2) ((HB.out.below hBw).mono hsz2) hus hvs HIU.out HIV.out).mono ?_
  rintro e w3 ⟨x, y, rfl, hX, hY, hB3⟩
  have hBw3 : Below w.heap.size w w3 := hBw.trans (hB3.mono hsz2)
  have hsz3 := hBw3.size
  have hlx := (alike_lens us vs).1
  have hly := (alike_lens us vs).2
  have hfx := alikeX_fair us vs HIU.out HIV.out
  have hfy := alikeY_fair us vs HIU.out HIV.out
  have hpr : ∀ i (h : i < (alikeX us vs).length) (h' : i < (alikeY us vs).length), Pair (alikeX us vs)[i] (alikeY us vs)[i] := fun i h _ => alike_pair us vs HIU.out HIV.out i h
  have hLX := hX.lies
  have hLY := hY.lies
  have hLK := (HK.out.below hBw3).mono hsz3
  clear hX hY hBw hB3 h1 h2 h3 HA HB HIU HIV HK
  have hxl : (alikeX us vs).length ≤ 1048576 := by omega
  have hyx : (alikeY us vs).length = (alikeX us vs).length := by omega
  clear hlx hly hus hvs
  generalize alikeX us vs = xs at *
  generalize alikeY us vs = ys at *
  have HX : Hid (Lies w3 w3.heap.size x (xs.map V.t)) := hLX
  have HY : Hid (Lies w3 w3.heap.size y (ys.map V.t)) := hLY
  have HK : Hid (Lies w3 w3.heap.size kv (ks.map K.t)) := hLK
  have HFX : Hid (∀ v ∈ xs, Fair v) := hfx
  have HFY : Hid (∀ v ∈ ys, Fair v) := hfy
  have HPR : Hid (∀ i (h : i < xs.length) (h' : i < ys.length), Pair xs[i] ys[i]) := hpr
  have HYX : Hid (ys.length = xs.length) := hyx
  obtain ⟨xo, xcap, rfl, _, _, _⟩ := hLX
  obtain ⟨ko, kcap, rfl, _, _, hkx0⟩ := hLK
  have HKX : Hid _ := hkx0
  simp only [List.length_map] at *
  clear hLY hfx hfy hpr hyx hkx0
  have HE0 : Hid (∀ k, k < ks.length → Upto xs ks k → Calls Try.prog 8 #[.slice xo xs.length xcap, .slice ko ks.length kcap] w3 fun e w' => e = .returned (.string ⟨#[]⟩) ∧ Below w3.heap.size w3 w') := fun k hk hu => by
    refine (Encode_any w3 _ _ xs ks k HX.out HK.out hks hxl HFX.out hu).mono ?_
    rintro e w' ⟨rfl, hB⟩
    exact ⟨by simp [encAns, hk], hB⟩
  have HE1 : Hid ((∀ y ∈ ks, good xs y) → Calls Try.prog 22 #[.slice xo xs.length xcap, .slice ko ks.length kcap] w3 fun e w' => e = .returned (.tuple #[.string ⟨(encKeys xs ks).toArray⟩, .bool true]) ∧ Below w3.heap.size w3 w') := fun h =>
    encoded_any w3 _ _ xs ks HX.out HK.out hks hxl HFX.out h
  have HE2 : Hid ((∀ y ∈ ks, good xs y) → ∀ w4, Below w3.heap.size w3 w4 → Calls Try.prog 22 #[y, .slice ko ks.length kcap] w4 fun e w' => e = .returned (.tuple #[.string ⟨(encKeys ys ks).toArray⟩, .bool true]) ∧ Below w4.heap.size w4 w') := fun h w4 hB =>
    encoded_any w4 _ _ ys ks ((HY.out.below hB).mono hB.size) ((HK.out.below hB).mono hB.size) hks (by have := HYX.out; omega) HFY.out (fun q hq => by have := h q hq; unfold good at *; rw [HYX.out]; exact this)
  have HE3 : Hid ((∀ y ∈ ks, good xs y) → ∀ w5, Below w3.heap.size w3 w5 → Calls Try.prog 23 #[.slice xo xs.length xcap, y, .slice ko ks.length kcap] w5 fun e w' => e = .returned (.int .i64 (aheadL xs ys ks)) ∧ Below w5.heap.size w5 w') := fun h w5 hB =>
    ahead_any w5 _ _ _ xs ys ks ((HX.out.below hB).mono hB.size) ((HY.out.below hB).mono hB.size) ((HK.out.below hB).mono hB.size) hks hxl HYX.out h (fun i hi => HPR.out i hi (by have := HYX.out; omega))
  have HST : Hid (Stand (aheadL xs ys ks) (encKeys xs ks) (encKeys ys ks)) := keys_order xs ys HYX.out (fun i hi => HPR.out i hi (by have := HYX.out; omega)) ks
  clear HX HY HK HFX HFY HPR HYX
  go_wp2_with fail
  go_loopw [11] (fun i wr => ∃ k : Nat, k ≤ ks.length ∧ i = .int .i64 k ∧ (∀ j (h : j < ks.length), j < k → good xs ks[j]) ∧ wr = w3) (fun i _ => ks.length - (intOf i).toNat)
  case atStart => exact ⟨0, by omega, rfl, fun j _ h => by omega, rfl⟩
  case round =>
    obtain ⟨k, hk, rfl, hgood, hw⟩ := hrel
    subst hw
    by_cases hlt : k < ks.length
    · obtain ⟨kb, koff, rfl, hkB, hkx⟩ := HKX.out (by omega)
      obtain ⟨hk0, _, _⟩ := hkx k hlt
      simp only [List.getElem_map, K.t] at hk0
      clear hkx
      by_cases hg : good xs ks[k]
      · have hgood' : ∀ j (h : j < ks.length), j < k + 1 → good xs ks[j] := fun j h hj => by
          by_cases e : j = k
          · subst e; exact hg
          · exact hgood j h (by omega)
        have HG : Hid _ := hgood'
        clear hgood hgood'
        unfold good at hg
        obtain ⟨hg0, hg1⟩ := hg
        generalize ks[k].c = c at *
        obtain ⟨m, rfl⟩ : ∃ m : Nat, c = (m : Int) := ⟨c.toNat, by omega⟩
        have hm : m < xs.length := by omega
        go_wp2
        go_roundw
        case rel => exact ⟨k + 1, by omega, by go_num, HG.out, trivial⟩
        case measure => simp [intOf]; omega
      · have HU : Hid (Upto xs ks k) := ⟨by omega, hgood, fun _ => hg⟩
        clear hgood
        unfold good at hg
        generalize ks[k].c = c at *
        by_cases hc : c < 0
        · clear hg
          go_wp2_with fail
          refine (HE0.out k hlt HU.out).mono ?_
          rintro e w4 ⟨rfl, hB4⟩
          go_wp2
          go_ret
          exact ⟨rfl, hBw3.trans (hB4.mono hsz3)⟩
        · have hc2 : (xs.length : Int) ≤ c := by omega
          clear hg
          go_wp2_with fail
          refine (HE0.out k hlt HU.out).mono ?_
          rintro e w4 ⟨rfl, hB4⟩
          go_wp2
          go_ret
          exact ⟨rfl, hBw3.trans (hB4.mono hsz3)⟩
    · have HGOOD : Hid (∀ y ∈ ks, good xs y) := fun q hq => by
        obtain ⟨j, hj, rfl⟩ := List.getElem_of_mem hq
        exact hgood j hj (by omega)
      clear hgood HE0 HKX
      have hst := stand_facts HST.out
      clear HST
      generalize (⟨(encKeys xs ks).toArray⟩ : ByteArray) = S at *
      generalize (⟨(encKeys ys ks).toArray⟩ : ByteArray) = T at *
      generalize aheadL xs ys ks = r at *
      rcases hst with ⟨rfl, rfl⟩ | ⟨rfl, hless, hp1, hp2⟩ | ⟨rfl, hless, hne, hp1, hp2⟩
      · have hself : Op.bytesLess S.toList S.toList = false := less_self _
        go_wp2_with fail
        refine (HE1.out HGOOD.out).mono ?_
        rintro e w4 ⟨rfl, hB4⟩
        go_wp2_with fail
        refine (HE2.out HGOOD.out w4 hB4).mono ?_
        rintro e w5 ⟨rfl, hB5⟩
        go_wp2_with fail
        refine (HE3.out HGOOD.out w5 (hB4.trans (hB5.mono hB4.size))).mono ?_
        rintro e w6 ⟨rfl, hB6⟩
        go_wp2
        go_ret
        exact ⟨rfl, (hBw3.trans (hB4.mono hsz3)).trans ((hB5.mono (by have := hB4.size; omega)).trans (hB6.mono (by have := hB4.size; have := hB5.size; omega)))⟩
      · have hq1 : ((T.extract 0 S.size).toList == S.toList) = false := beq_eq_false_iff_ne.2 hp1
        have hq2 : ((S.extract 0 T.size).toList == T.toList) = false := beq_eq_false_iff_ne.2 hp2
        rcases (show S.size < T.size ∨ T.size < S.size ∨ S.size = T.size from by omega) with hz | hz | hz
        · have hz' : ¬ T.size < S.size := by omega
          go_wp2_with fail
          refine (HE1.out HGOOD.out).mono ?_
          rintro e w4 ⟨rfl, hB4⟩
          go_wp2_with fail
          refine (HE2.out HGOOD.out w4 hB4).mono ?_
          rintro e w5 ⟨rfl, hB5⟩
          go_wp2_with fail
          refine (HE3.out HGOOD.out w5 (hB4.trans (hB5.mono hB4.size))).mono ?_
          rintro e w6 ⟨rfl, hB6⟩
          go_wp2
          go_ret
          exact ⟨rfl, (hBw3.trans (hB4.mono hsz3)).trans ((hB5.mono (by have := hB4.size; omega)).trans (hB6.mono (by have := hB4.size; have := hB5.size; omega)))⟩
        · have hz' : ¬ S.size < T.size := by omega
          go_wp2_with fail
          refine (HE1.out HGOOD.out).mono ?_
          rintro e w4 ⟨rfl, hB4⟩
          go_wp2_with fail
          refine (HE2.out HGOOD.out w4 hB4).mono ?_
          rintro e w5 ⟨rfl, hB5⟩
          go_wp2_with fail
          refine (HE3.out HGOOD.out w5 (hB4.trans (hB5.mono hB4.size))).mono ?_
          rintro e w6 ⟨rfl, hB6⟩
          go_wp2
          go_ret
          exact ⟨rfl, (hBw3.trans (hB4.mono hsz3)).trans ((hB5.mono (by have := hB4.size; omega)).trans (hB6.mono (by have := hB4.size; have := hB5.size; omega)))⟩
        · have hz1 : ¬ S.size < T.size := by omega
          have hz2 : ¬ T.size < S.size := by omega
          clear hz
          go_wp2_with fail
          refine (HE1.out HGOOD.out).mono ?_
          rintro e w4 ⟨rfl, hB4⟩
          go_wp2_with fail
          refine (HE2.out HGOOD.out w4 hB4).mono ?_
          rintro e w5 ⟨rfl, hB5⟩
          go_wp2_with fail
          refine (HE3.out HGOOD.out w5 (hB4.trans (hB5.mono hB4.size))).mono ?_
          rintro e w6 ⟨rfl, hB6⟩
          go_wp2
          go_ret
          exact ⟨rfl, (hBw3.trans (hB4.mono hsz3)).trans ((hB5.mono (by have := hB4.size; omega)).trans (hB6.mono (by have := hB4.size; have := hB5.size; omega)))⟩
      · have hneb : (S.toList == T.toList) = false := beq_eq_false_iff_ne.2 hne
        have hq1 : ((T.extract 0 S.size).toList == S.toList) = false := beq_eq_false_iff_ne.2 hp1
        have hq2 : ((S.extract 0 T.size).toList == T.toList) = false := beq_eq_false_iff_ne.2 hp2
        rcases (show S.size < T.size ∨ T.size < S.size ∨ S.size = T.size from by omega) with hz | hz | hz
        · have hz' : ¬ T.size < S.size := by omega
          go_wp2_with fail
          refine (HE1.out HGOOD.out).mono ?_
          rintro e w4 ⟨rfl, hB4⟩
          go_wp2_with fail
          refine (HE2.out HGOOD.out w4 hB4).mono ?_
          rintro e w5 ⟨rfl, hB5⟩
          go_wp2_with fail
          refine (HE3.out HGOOD.out w5 (hB4.trans (hB5.mono hB4.size))).mono ?_
          rintro e w6 ⟨rfl, hB6⟩
          go_wp2
          go_ret
          exact ⟨rfl, (hBw3.trans (hB4.mono hsz3)).trans ((hB5.mono (by have := hB4.size; omega)).trans (hB6.mono (by have := hB4.size; have := hB5.size; omega)))⟩
        · have hz' : ¬ S.size < T.size := by omega
          go_wp2_with fail
          refine (HE1.out HGOOD.out).mono ?_
          rintro e w4 ⟨rfl, hB4⟩
          go_wp2_with fail
          refine (HE2.out HGOOD.out w4 hB4).mono ?_
          rintro e w5 ⟨rfl, hB5⟩
          go_wp2_with fail
          refine (HE3.out HGOOD.out w5 (hB4.trans (hB5.mono hB4.size))).mono ?_
          rintro e w6 ⟨rfl, hB6⟩
          go_wp2
          go_ret
          exact ⟨rfl, (hBw3.trans (hB4.mono hsz3)).trans ((hB5.mono (by have := hB4.size; omega)).trans (hB6.mono (by have := hB4.size; have := hB5.size; omega)))⟩
        · have hz1 : ¬ S.size < T.size := by omega
          have hz2 : ¬ T.size < S.size := by omega
          clear hz
          go_wp2_with fail
          refine (HE1.out HGOOD.out).mono ?_
          rintro e w4 ⟨rfl, hB4⟩
          go_wp2_with fail
          refine (HE2.out HGOOD.out w4 hB4).mono ?_
          rintro e w5 ⟨rfl, hB5⟩
          go_wp2_with fail
          refine (HE3.out HGOOD.out w5 (hB4.trans (hB5.mono hB4.size))).mono ?_
          rintro e w6 ⟨rfl, hB6⟩
          go_wp2
          go_ret
          exact ⟨rfl, (hBw3.trans (hB4.mono hsz3)).trans ((hB5.mono (by have := hB4.size; omega)).trans (hB6.mono (by have := hB4.size; have := hB5.size; omega)))⟩
end Go.Proofs.Ytjoinhljdbljaaa
