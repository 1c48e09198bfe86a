/- The walk of ahead: which of two rows comes first by the keys. -/
import Derived.Test.YtjoinhljdbljaaaKeyG
namespace Go.Proofs.Ytjoinhljdbljaaa
open Go.RowKit

def Pair (x y : V) : Prop := Fair x ∧ Fair y ∧ (x.k = 0 ∨ y.k = 0 ∨ x.k = y.k)

def aheadV (x y : V) (q : K) : Int :=
  if x.k = 0 then (if y.k = 0 then 0 else if q.l then -1 else 1)
  else if y.k = 0 then (if q.l then 1 else -1)
  else if x.n = y.n ∧ x.s = y.s then 0
  else if lessV x y = q.d then -1 else 1

def nul : V := ⟨0, 0, ⟨#[]⟩⟩

def aheadL (xs ys : List V) : List K → Int
  | [] => 0
  | q :: ks => if aheadV (xs.getD q.c.toNat nul) (ys.getD q.c.toNat nul) q = 0 then aheadL xs ys ks else aheadV (xs.getD q.c.toNat nul) (ys.getD q.c.toNat nul) q

theorem aheadL_zero {xs ys : List V} {q : K} {ks : List K} (h : aheadV (xs.getD q.c.toNat nul) (ys.getD q.c.toNat nul) q = 0) : aheadL xs ys (q :: ks) = aheadL xs ys ks := by
  rw [aheadL, if_pos h]
theorem aheadL_one {xs ys : List V} {q : K} {ks : List K} {r : Int} (h : aheadV (xs.getD q.c.toNat nul) (ys.getD q.c.toNat nul) q = r) (hr : r ≠ 0) : aheadL xs ys (q :: ks) = r := by
  rw [aheadL, if_neg (by rw [h]; exact hr), h]

theorem bytes_ext {a b : ByteArray} (h : a.toList = b.toList) : a = b := Go.WideShapes.bytes_inj (by rw [← ByteArray.toList_eq, ← ByteArray.toList_eq]; exact h)

theorem Solid.ge {v : V} (h : Solid v) : 1 ≤ v.k := by rcases h with h | h | h <;> omega

set_option maxHeartbeats 4000000 in
theorem ahead_any (w : World) (rv sv kv : Value) (xs ys : List V) (ks : List K) (hr : Lies w w.heap.size rv (xs.map V.t)) (hs : Lies w w.heap.size sv (ys.map V.t)) (hk : Lies w w.heap.size kv (ks.map K.t))
    (hl : ks.length ≤ 1048576) (hx : xs.length ≤ 1048576) (hxy : ys.length = xs.length) (hin : ∀ y ∈ ks, good xs y) (hp : ∀ i (h : i < xs.length), Pair xs[i] ys[i]) :
    Calls Try.prog 23 #[rv, sv, kv] w fun e w' => e = .returned (.int .i64 (aheadL xs ys ks)) ∧ Below w.heap.size w w' := by
  obtain ⟨ao, cap, rfl, hrc, hrm, hrx0⟩ := hr
  obtain ⟨so, scap, rfl, hsc, hsm, hsx0⟩ := hs
  obtain ⟨ko, kcap, rfl, hkc, hkm, hkx0⟩ := hk
  simp only [List.length_map] at *
  by_cases hks : 1 ≤ ks.length
  · obtain ⟨kb, koff, rfl, hkB, hkx⟩ := hkx0 hks
    have hxs : 1 ≤ xs.length := by
      have := hin ks[0] (List.getElem_mem _)
      unfold good at this
      omega
    obtain ⟨rb, roff, rfl, hrB, hrx⟩ := hrx0 hxs
    obtain ⟨sb, soff, rfl, hsB, hsx⟩ := hsx0 (by omega)
    clear hkx0 hrx0 hsx0
    go_enter Try.func23, Try.ntmps23
    go_wp2
    go_loopw [7] (fun i wr => ∃ k : Nat, k ≤ ks.length ∧ i = .int .i64 k ∧ aheadL xs ys ks = aheadL xs ys (ks.drop k) ∧ Below w.heap.size w wr) (fun i _ => ks.length - (intOf i).toNat)
    case atStart => exact ⟨0, Nat.zero_le _, rfl, rfl, Below.refl _ _⟩
    case round =>
      obtain ⟨k, hk, rfl, hL, hB⟩ := hrel
      by_cases hlt : k < ks.length
      · have hy := hin ks[k] (List.getElem_mem _)
        unfold good at hy
        have hdr : ks.drop k = ks[k] :: ks.drop (k + 1) := List.drop_eq_getElem_cons hlt
        rw [hdr] at hL
        obtain ⟨hk0, hk1, hk2⟩ := hkx k hlt
        rw [← hB.cell (by exact hkB)] at hk0 hk1 hk2
        simp only [List.getElem_map, K.t] at hk0 hk1 hk2
        clear hkx hin hdr
        generalize ks[k] = q at *
        obtain ⟨c, d, l⟩ := q
        simp only at hy hk0 hk1 hk2
        obtain ⟨j, rfl⟩ : ∃ j : Nat, c = (j : Int) := ⟨c.toNat, by omega⟩
        have hj : j < xs.length := by omega
        obtain ⟨hr0, hr1, hr2⟩ := hrx j hj
        obtain ⟨hs0, hs1, hs2⟩ := hsx j (by omega)
        rw [← hB.cell (by exact hrB)] at hr0 hr1 hr2
        rw [← hB.cell (by exact hsB)] at hs0 hs1 hs2
        simp only [List.getElem_map, V.t] at hr0 hr1 hr2 hs0 hs1 hs2
        have hpj := hp j hj
        have e1 : xs.getD j nul = xs[j] := by simp [List.getD, hj]
        have e2 : ys.getD j nul = ys[j]'(by omega) := by simp [List.getD, hxy, hj]
        have hz : aheadV xs[j] (ys[j]'(by omega)) ⟨j, d, l⟩ = 0 → aheadL xs ys ks = aheadL xs ys (ks.drop (k + 1)) := fun h => by
          rw [hL]; exact aheadL_zero (by simpa only [Int.toNat_natCast, e1, e2] using h)
        have ho : ∀ r, aheadV xs[j] (ys[j]'(by omega)) ⟨j, d, l⟩ = r → r ≠ 0 → aheadL xs ys ks = r := fun r h hr => by
          rw [hL]; exact aheadL_one (by simpa only [Int.toNat_natCast, e1, e2] using h) hr
        clear hrx hsx hp e1 e2 hL
        generalize xs[j] = x at *
        generalize (ys[j]'(by omega)) = y at *
        have HZ : Hid _ := hz
        have HO : Hid _ := ho
        clear hz ho
        have hsz := hB.size
        have hrb : rb < wr.heap.size := by omega
        have hsb : sb < wr.heap.size := by omega
        have hkb : kb < wr.heap.size := by omega
        obtain ⟨hfx, hfy, hsame⟩ := hpj
        obtain ⟨xk, xn, xt⟩ := x
        obtain ⟨yk, yn, yt⟩ := y
        simp only at *
        rcases hfx with ⟨h1, h2, h3⟩ | hfx
        · simp only at h1 h2 h3
          subst h1 h2 h3
          rcases hfy with ⟨h1, h2, h3⟩ | hfy
          · simp only at h1 h2 h3
            subst h1 h2 h3
            clear hsame
            have HQ : Hid (aheadV ⟨0, 0, ⟨#[]⟩⟩ ⟨0, 0, ⟨#[]⟩⟩ ⟨j, d, l⟩ = 0) := by simp [Hid, aheadV]
            go_wp2
            go_roundw
            case rel => exact ⟨k + 1, by omega, by go_num, HZ.out HQ.out, by repeat (first | exact hB | refine Below.alloc ?_ (by first | exact hsz | (simp; omega)) _)⟩
            case measure => simp [intOf]; omega
          · have hge : 1 ≤ yk := hfy.ge
            have hne : ¬ yk = 0 := by omega
            have hb0 : (yk == 0) = false := beq_eq_false_iff_ne.2 hne
            clear hsame hfy
            cases l
            · have HQ : Hid _ := HO.out 1 (by simp [aheadV, hne]) (by decide)
              go_wp2
              go_ret
              exact ⟨by rw [HQ.out]; rfl, by repeat (first | exact hB | refine Below.alloc ?_ (by first | exact hsz | (simp; omega)) _)⟩
            · have HQ : Hid _ := HO.out (-1) (by simp [aheadV, hne]) (by decide)
              go_wp2
              go_ret
              exact ⟨by rw [HQ.out]; rfl, by repeat (first | exact hB | refine Below.alloc ?_ (by first | exact hsz | (simp; omega)) _)⟩
        · have hge : 1 ≤ xk := hfx.ge
          have hne : ¬ xk = 0 := by omega
          rcases hfy with ⟨h1, h2, h3⟩ | hfy
          · simp only at h1 h2 h3
            subst h1 h2 h3
            clear hsame hfx
            cases l
            · have HQ : Hid _ := HO.out (-1) (by simp [aheadV, hne]) (by decide)
              go_wp2
              go_ret
              exact ⟨by rw [HQ.out]; rfl, by repeat (first | exact hB | refine Below.alloc ?_ (by first | exact hsz | (simp; omega)) _)⟩
            · have HQ : Hid _ := HO.out 1 (by simp [aheadV, hne]) (by decide)
              go_wp2
              go_ret
              exact ⟨by rw [HQ.out]; rfl, by repeat (first | exact hB | refine Below.alloc ?_ (by first | exact hsz | (simp; omega)) _)⟩
          · have hge2 : 1 ≤ yk := hfy.ge
            obtain rfl : xk = yk := by omega
            clear hsame hfx hfy hge2
            by_cases hn : xn = yn
            · subst hn
              by_cases ht : xt = yt
              · subst ht
                have HQ : Hid (aheadV ⟨xk, xn, xt⟩ ⟨xk, xn, xt⟩ ⟨j, d, l⟩ = 0) := by simp [Hid, aheadV, hne]
                go_wp2
                go_roundw
                case rel => exact ⟨k + 1, by omega, by go_num, HZ.out HQ.out, by repeat (first | exact hB | refine Below.alloc ?_ (by first | exact hsz | (simp; omega)) _)⟩
                case measure => simp [intOf]; omega
              · have htl : ¬ xt.toList = yt.toList := fun h => ht (bytes_ext h)
                
                have HA : Hid (∀ r, r = (if lessV ⟨xk, xn, xt⟩ ⟨xk, xn, yt⟩ = d then -1 else 1) → aheadL xs ys ks = r) := fun r hr => by
                  subst hr
                  refine HO.out _ (by simp [aheadV, hne, ht]) (by split <;> decide)
                have HL : Hid (∀ w : World, Calls Try.prog 56 #[.agg #[.int .i64 xk, .int .i64 xn, .string xt], .agg #[.int .i64 xk, .int .i64 xn, .string yt]] w fun e w' => e = .returned (.bool (lessV ⟨xk, xn, xt⟩ ⟨xk, xn, yt⟩)) ∧ Below w.heap.size w w') := fun w => less_any ⟨xk, xn, xt⟩ ⟨xk, xn, yt⟩ w
                generalize lessV ⟨xk, xn, xt⟩ ⟨xk, xn, yt⟩ = q at *
                clear HO HZ
                go_wp2_with fail
                refine (HL.out _).mono ?_
                rintro e w1 ⟨rfl, hB1⟩
                have hsz1 := hB1.size
                have hd1 := hB1.cell (p := ⟨wr.heap.size, 1, none⟩) (by simp; omega)
                simp at hd1 hsz1
                cases q <;> cases d
                all_goals
                  go_wp2
                  go_ret
                  refine ⟨by rw [HA.out _ rfl]; rfl, Below.trans ?_ (hB1.mono (by simp; omega))⟩
                  repeat (first | exact hB | refine Below.alloc ?_ (by first | exact hsz | (simp; omega)) _)
            · have hnl : ¬ xn = yn := hn
              
              have HA : Hid (∀ r, r = (if lessV ⟨xk, xn, xt⟩ ⟨xk, yn, yt⟩ = d then -1 else 1) → aheadL xs ys ks = r) := fun r hr => by
                subst hr
                refine HO.out _ (by simp [aheadV, hne, hn]) (by split <;> decide)
              have HL : Hid (∀ w : World, Calls Try.prog 56 #[.agg #[.int .i64 xk, .int .i64 xn, .string xt], .agg #[.int .i64 xk, .int .i64 yn, .string yt]] w fun e w' => e = .returned (.bool (lessV ⟨xk, xn, xt⟩ ⟨xk, yn, yt⟩)) ∧ Below w.heap.size w w') := fun w => less_any ⟨xk, xn, xt⟩ ⟨xk, yn, yt⟩ w
              generalize lessV ⟨xk, xn, xt⟩ ⟨xk, yn, yt⟩ = q at *
              clear HO HZ
              go_wp2_with fail
              refine (HL.out _).mono ?_
              rintro e w1 ⟨rfl, hB1⟩
              have hsz1 := hB1.size
              have hd1 := hB1.cell (p := ⟨wr.heap.size, 1, none⟩) (by simp; omega)
              simp at hd1 hsz1
              cases q <;> cases d
              all_goals
                go_wp2
                go_ret
                refine ⟨by rw [HA.out _ rfl]; rfl, Below.trans ?_ (hB1.mono (by simp; omega))⟩
                repeat (first | exact hB | refine Below.alloc ?_ (by first | exact hsz | (simp; omega)) _)
      · have HE : Hid (aheadL xs ys ks = 0) := by
          rw [List.drop_of_length_le (by omega)] at hL
          exact hL
        clear hkx hrx hsx hin hp hL
        go_wp2
        go_ret
        exact ⟨by rw [HE.out]; rfl, hB⟩
  · have hks0 : ks = [] := by cases ks <;> simp_all
    subst hks0
    clear hkx0 hrx0 hsx0 hin hp
    have HE : Hid (aheadL xs ys [] = 0) := rfl
    go_enter Try.func23, Try.ntmps23
    go_wp2
    refine wp_loop_rounds 1 ?_
    rw [rounds_succ]
    go_wp2
    go_ret
    exact ⟨by rw [HE.out]; rfl, Below.refl _ _⟩
end Go.Proofs.Ytjoinhljdbljaaa
