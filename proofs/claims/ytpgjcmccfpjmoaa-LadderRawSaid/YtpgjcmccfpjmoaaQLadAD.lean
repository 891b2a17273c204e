/-
  Texts that belong together, merged: FieldF, FieldG, FieldH, FieldI, OctMath, WordMath, B. Conditions: as each theorem names them.
-/
import Derived.Test.YtpgjcmccfpjmoaaQLadAC
import Derived.IntWalk
import Derived.Laws.BitsAllLaws
import Derived.Test.YtpgjcmccfpjmoaaChecked
import Derived.Test.YtpgjcmccfpjmoaaQLadAA
import Derived.WalkKit
import Derived.LoopTactic
import Derived.RegionTactic
import Derived.Deep.QuietTactic
import Derived.BigQuiet
import Derived.Outline
import Derived.WalkSpells
import Derived.WalkLawsBesides
section
namespace Go.Proofs.Ytpgjcmccfpjmoaa
open Go.RowKit
set_option linter.unusedVariables false
set_option maxRecDepth 20000

/-- The sums behind the first t products: i is t / 5, j is t % 5. -/
def mulStep (x y l : List Nat) (i j : Nat) : List Nat := l.set ((i + j) % 5) (l.getD ((i + j) % 5) 0 + x.getD i 0 * (if i + j < 5 then y.getD j 0 else 19 * y.getD j 0))
def mulS (x y : List Nat) : Nat → List Nat
  | 0 => [0, 0, 0, 0, 0]
  | t + 1 => mulStep x y (mulS x y t) (t / 5) (t % 5)
theorem mulS_length (x y : List Nat) (t : Nat) : (mulS x y t).length = 5 := by
  induction t with
  | zero => rfl
  | succ t ih => simp [mulS, mulStep, ih]
def bigB : Nat := 2251799813685248 * 42784196460019712
theorem mulS_lt (x y : List Nat) (hx : ∀ k, x.getD k 0 < 2251799813685248) (hy : ∀ k, y.getD k 0 < 2251799813685248) (t : Nat) : ∀ z ∈ mulS x y t, z ≤ t * bigB := by
  induction t with
  | zero => intro z hz; simp [mulS] at hz; omega
  | succ t ih =>
    intro z hz
    unfold mulS mulStep at hz
    have h2 : x.getD (t / 5) 0 * (if t / 5 + t % 5 < 5 then y.getD (t % 5) 0 else 19 * y.getD (t % 5) 0) ≤ bigB := by
      unfold bigB
      refine Nat.mul_le_mul (Nat.le_of_lt (hx _)) ?_
      have := hy (t % 5)
      split <;> omega
    generalize x.getD (t / 5) 0 * (if t / 5 + t % 5 < 5 then y.getD (t % 5) 0 else 19 * y.getD (t % 5) 0) = m at h2 hz
    have hi : (t / 5 + t % 5) % 5 < 5 := by omega
    generalize (t / 5 + t % 5) % 5 = i at hi hz
    rw [Nat.succ_mul]
    rcases List.mem_or_eq_of_mem_set hz with hz | rfl
    · have := ih z hz
      omega
    · have hlt : i < (mulS x y t).length := by rw [mulS_length]; omega
      have h1 := ih ((mulS x y t)[i]) (List.getElem_mem hlt)
      have e : (mulS x y t).getD i 0 = (mulS x y t)[i] := by simp [List.getD_eq_getElem?_getD, hlt]
      rw [e]
      omega

/-- The twenty-five products put together are the product modulo p. -/
theorem mulS_all (a b c d e a' b' c' d' e' : Nat) : mulS [a, b, c, d, e] [a', b', c', d', e'] 25 =
    [a * a' + b * (19 * e') + c * (19 * d') + d * (19 * c') + e * (19 * b'),
     a * b' + b * a' + c * (19 * e') + d * (19 * d') + e * (19 * c'),
     a * c' + b * b' + c * a' + d * (19 * e') + e * (19 * d'),
     a * d' + b * c' + c * b' + d * a' + e * (19 * e'),
     a * e' + b * d' + c * c' + d * b' + e * a'] := by
  simp [mulS, mulStep]
theorem list5 {x : List Nat} (h : x.length = 5) : ∃ a b c d e, x = [a, b, c, d, e] := by
  match x, h with
  | [a, b, c, d, e], _ => exact ⟨a, b, c, d, e, rfl⟩
theorem mul_val (a b c d e a' b' c' d' e' : Nat) : ∃ q, valL [a, b, c, d, e] * valL [a', b', c', d', e'] = valL (mulS [a, b, c, d, e] [a', b', c', d', e'] 25) + pF * q := by
  refine ⟨b * e' + c * d' + d * c' + e * b' + Mx * (c * e' + d * d' + e * c' + Mx * (d * e' + e * d' + Mx * (e * e'))), ?_⟩
  rw [mulS_all]
  simp only [valL, Mx, pF]
  grind

theorem mul_val2 {x y z : List Nat} (hxl : x.length = 5) (hyl : y.length = 5) (hz : z = mulS x y 25) : ∃ q, valL x * valL y = valL z + pF * q := by
  obtain ⟨a, b, c, d, e, hxe⟩ := list5 hxl
  obtain ⟨a', b', c', d', e', hye⟩ := list5 hyl
  rw [hz, hxe, hye]
  exact mul_val a b c d e a' b' c' d' e'
theorem mulS_get (x y : List Nat) (hx : ∀ k, x.getD k 0 < 2251799813685248) (hy : ∀ k, y.getD k 0 < 2251799813685248) (t : Nat) (ht : t ≤ 25) (k : Nat) : (mulS x y t).getD k 0 < 2535301200456458802993406410752000 := by
  refine getD_lt (fun z hz => ?_) (by omega) k
  have h := mulS_lt x y hx hy t z hz
  have h2 : t * bigB ≤ 25 * bigB := Nat.mul_le_mul_right _ ht
  unfold bigB at h h2
  omega

theorem carriedL_below {z : List Nat} (hz : z.length = 5) (h5 : cyC z 5 < 288230376151711744) : ∀ v ∈ carriedL z, v < 9223372036854775808 := by
  have e : cyC z 5 = valL z / Mx ^ 5 := by unfold cyC; rw [List.take_of_length_le (by omega)]
  rw [e] at h5
  intro v hv
  have h2 := Nat.mod_lt (valL z) Mx_pos
  have hM : Mx = 2251799813685248 := rfl
  rcases List.mem_or_eq_of_mem_set hv with hv | rfl
  · have := digL_lt 5 _ v hv
    omega
  · omega
theorem mulS_top {x y z : List Nat} (hxl : x.length = 5) (hyl : y.length = 5) (hx : ∀ k, x.getD k 0 < 2251799813685248) (hy : ∀ k, y.getD k 0 < 2251799813685248) (hz : z = mulS x y 25) : cyC z 5 < 288230376151711744 := by
  have hzl : z.length = 5 := by rw [hz, mulS_length]
  have hB : ∀ v ∈ z, v < 2535301200456458802993406410752000 := getD_of_mem hzl fun k _ => by rw [hz]; exact mulS_get x y hx hy 25 (by omega) k
  have h4 := cyC_lt z _ hB (by omega) 4 (by omega)
  have hs : cyC z 5 = (z.getD 4 0 + cyC z 4) / Mx := cyC_succ z 4 (by omega)
  have hg : z.getD 4 0 ≤ 25353012004564588029934064107520 := by
    rw [hz]
    obtain ⟨a, b, c, d, e, hxe⟩ := list5 hxl
    obtain ⟨a', b', c', d', e', hye⟩ := list5 hyl
    rw [hxe] at hx
    rw [hye] at hy
    rw [hxe, hye, mulS_all]
    · have m : ∀ u v : Nat, u < 2251799813685248 → v < 2251799813685248 → u * v ≤ 5070602400912917605986812821504 := fun u v hu hv => Nat.mul_le_mul (Nat.le_of_lt hu) (Nat.le_of_lt hv)
      have h1 := m a e' (hx 0) (hy 4)
      have h2 := m b d' (hx 1) (hy 3)
      have h3 := m c c' (hx 2) (hy 2)
      have h4 := m d b' (hx 3) (hy 1)
      have h5 := m e a' (hx 4) (hy 0)
      simp only [List.getD_cons_zero, List.getD_cons_succ]
      omega
  unfold Mx at h4 hs
  omega

theorem mulS_step (x y : List Nat) (i j : Nat) (hj : j < 5) : mulS x y (5 * i + (j + 1)) = (mulS x y (5 * i + j)).set ((i + j) % 5) ((mulS x y (5 * i + j)).getD ((i + j) % 5) 0 + x.getD i 0 * (if i + j < 5 then y.getD j 0 else 19 * y.getD j 0)) := by
  have e1 : (5 * i + j) / 5 = i := by omega
  have e2 : (5 * i + j) % 5 = j := by omega
  show mulStep x y (mulS x y (5 * i + j)) ((5 * i + j) / 5) ((5 * i + j) % 5) = _
  rw [e1, e2]
  rfl

set_option maxHeartbeats 4000000 in
theorem Mul_any (a b : Nat) (ha : a < pF) (hb : b < pF) (w : World) :
    Calls Try.prog 42 #[.agg (natsC (elemL a)), .agg (natsC (elemL b))] w (RetV w (.agg (natsC (elemL (a * b % pF))))) := by
  obtain ⟨x, hx⟩ : ∃ x, x = elemL a := ⟨_, rfl⟩
  obtain ⟨y, hy⟩ : ∃ y, y = elemL b := ⟨_, rfl⟩
  have hxl : x.length = 5 := by rw [hx, elemL_length]
  have hyl : y.length = 5 := by rw [hy, elemL_length]
  have hxb : ∀ k, x.getD k 0 < 2251799813685248 := fun k => getD_lt (by rw [hx]; exact elemL_lt a) Mx_pos k
  have hyb : ∀ k, y.getD k 0 < 2251799813685248 := fun k => getD_lt (by rw [hy]; exact elemL_lt b) Mx_pos k
  obtain ⟨z, hz⟩ : ∃ z, z = mulS x y 25 := ⟨_, rfl⟩
  have hzl : z.length = 5 := by rw [hz, mulS_length]
  have hzb : ∀ v ∈ z, v < 5192296858534827628530496329220096 := getD_of_mem hzl fun k _ => by have := mulS_get x y hxb hyb 25 (by omega) k; rw [← hz] at this; omega
  have hz5 : cyC z 5 < 288230376151711744 := mulS_top hxl hyl hxb hyb hz
  have hval : valL z % pF = a * b % pF := by
    have e : valL x * valL y % pF = valL z % pF := by
      obtain ⟨q, hq⟩ := mul_val2 hxl hyl hz
      rw [hq, Nat.add_mul_mod_self_left]
    rw [← e, hx, hy, elemL_val a ha, elemL_val b hb]
  have N := Lib.hid (fun w => narrowed_any z hzl hzb hz5 w)
  have R := Lib.hid (fun w => reduced_any w (carriedL z) (carriedL_length z) (carriedL_below hzl hz5))
  rw [carriedL_val, foldN_mod, hval] at R
  rw [← hx, ← hy]
  have HXL := Lib.hid hxl
  have HYL := Lib.hid hyl
  have HXB := Lib.hid hxb
  have HYB := Lib.hid hyb
  have HZ := Lib.hid hz
  have HWL : Hid (∀ t, (widesL (mulS x y t)).length = 10) := fun t => by rw [widesL_length, mulS_length]
  have PL : Hid (∀ n a b : Nat, a < 2251799813685248 → b < 42784196460019712 → n < 2535301200456458802993406410752000 → ∀ w, Calls Try.prog 57 #[.agg (natsC (wideL n)), .int .u64 (a : Int), .int .u64 (b : Int)] w (RetV w (.agg (natsC (wideL (n + a * b)))))) := fun n a b ha hb hn w => plus_any n a b (by omega) (by omega) (by
    have h : a * b ≤ 2251799813685248 * 42784196460019712 := Nat.mul_le_mul (Nat.le_of_lt ha) (Nat.le_of_lt hb)
    omega) w
  clear hx hy hz hxl hyl hzl hxb hyb hzb hz5 hval
  have E0 := Env.start w
  go_enter Try.func42, Try.ntmps42
  go_wp2_with (first
    | ((with_reducible refine wpE_box (o := ⟨some 2, _, _, _, _, _⟩) rfl 45 (.tmp 0) rfl (natsC x) (by with_unfolding_all rfl) E0 ?_); intro g1 w1 E1)
    | ((with_reducible refine wpE_box (o := ⟨some 3, _, _, _, _, _⟩) rfl 45 (.tmp 1) rfl (natsC y) (by with_unfolding_all rfl) E1 ?_); intro g2 w2 E2)
    | ((with_reducible refine wpE_alloc (o := ⟨some 4, _, _, _, _, _⟩) rfl 45 rfl (natsC zero5) Try.zero5e E2 ?_); intro g3 w3 E3)
    | ((with_reducible refine wpE_alloc (o := ⟨some 5, _, _, _, _, _⟩) rfl 97 rfl (natsC zero10) Try.zero10 E3 ?_); intro g4 w4 E4)
    | (with_reducible refine wpE_load (o := ⟨some 11, _, _, _, _, _⟩) rfl 43 (.tmp 10) rfl 3 g1 45 (natsC x) (.array 5 39) (by with_unfolding_all rfl) (by with_unfolding_all rfl) Try.underlying43 rfl (sizeN Try.sz5p _ HXL.out) E4 ?_))
  have E5 := Lib.hid E4
  clear E0 E1 E2 E3 E4
  go_loopw [12] (fun i wr => ∃ k : Nat, k ≤ 5 ∧ i = .int .i64 k ∧ Env w [(g4, 97, natsC (widesL (mulS x y (5 * k)))), (g3, 45, natsC zero5), (g2, 45, natsC y), (g1, 45, natsC x)] wr) (fun i _ => 5 - (intOf i).toNat)
  case atStart => exact ⟨0, by omega, rfl, E5.out⟩
  case round =>
    clear E5
    obtain ⟨i, hi, rfl, hE⟩ := hrel
    have E := Lib.hid hE
    clear hE
    by_cases hlt : i < 5
    · have hix := fun W => run_indexN (P := Try.prog) W 43 39 5 x i Try.underlying43 Try.underlying39 Try.szU64 HXL.out hlt
      have hxi := HXB.out i
      obtain ⟨xi, hxi2⟩ : ∃ v, v = x.getD i 0 := ⟨_, rfl⟩
      rw [← hxi2] at hix hxi
      have HXI := Lib.hid hxi2
      clear hxi2
      have hi5 : (i : Int) < 5 := by omega
      go_wp2_with (with_reducible refine wpE_load (o := ⟨some 17, _, _, _, _, _⟩) rfl 43 (.tmp 16) rfl 2 g2 45 (natsC y) (.array 5 39) (by with_unfolding_all rfl) (by with_unfolding_all rfl) Try.underlying43 rfl (sizeN Try.sz5p _ HYL.out) E.out ?_)
      go_loopw [18] (fun v wr => ∃ k : Nat, k ≤ 5 ∧ v = .int .i64 k ∧ Env w [(g4, 97, natsC (widesL (mulS x y (5 * i + k)))), (g3, 45, natsC zero5), (g2, 45, natsC y), (g1, 45, natsC x)] wr) (fun v _ => 5 - (intOf v).toNat)
      case atStart => exact ⟨0, by omega, rfl, E.out⟩
      case round =>
        clear E hix
        rename_i wr0 _ _ _
        obtain ⟨j, hj, rfl, hE⟩ := hrel
        have E := Lib.hid hE
        clear hE
        by_cases hltj : j < 5
        · have hiy := fun W => run_indexN (P := Try.prog) W 43 39 5 y j Try.underlying43 Try.underlying39 Try.szU64 HYL.out hltj
          have hyj := HYB.out j
          have hstep := mulS_step x y i j hltj
          rw [← HXI.out] at hstep
          generalize y.getD j 0 = yj at hiy hyj hstep
          have hnb := mulS_get x y HXB.out HYB.out (5 * i + j) (by omega) ((i + j) % 5)
          have hpart := widesL_part (mulS x y (5 * i + j)) ((i + j) % 5) (by rw [mulS_length]; omega)
          have hset := widesL_set (mulS x y (5 * i + j)) ((i + j) % 5) ((mulS x y (5 * i + j)).getD ((i + j) % 5) 0 + xi * (if i + j < 5 then yj else 19 * yj)) (by rw [mulS_length]; omega)
          rw [← hstep] at hset
          have hj5 : (j : Int) < 5 := by omega
          have hwl := HWL.out (5 * i + j)
          have HST := Lib.hid hstep
          generalize (mulS x y (5 * i + j)).getD ((i + j) % 5) 0 = n at hnb hpart hset
          by_cases hs : i + j < 5
          · rw [if_pos hs, Nat.mod_eq_of_lt hs] at hset
            rw [Nat.mod_eq_of_lt hs] at hpart
            have PC := Lib.hid (PL.out n xi yj hxi (by omega) hnb)
            have hw : IntKind.i64.wrap ((i : Int) + (j : Int)) = (i : Int) + (j : Int) := IntWalk.i64_in _ (by omega)
            have hsb : (i : Int) + (j : Int) < 5 := by omega
            obtain ⟨s, hs2⟩ : ∃ s, s = i + j := ⟨_, rfl⟩
            have hsum : (i : Int) + (j : Int) = (s : Int) := by omega
            rw [← hs2] at hset hpart hs
            rw [Nat.mul_comm 2 s] at hset hpart
            have HPART := Lib.hid hpart
            have HSET := Lib.hid hset
            have HW2 := Lib.hid hwl
            have hs5 : (s : Int) < 5 := by omega
            have hsn : s < 5 := by omega
            clear hpart hset hwl hs2 hstep
            go_wp2_with (first
              | (with_reducible refine wpE_loadN (o := ⟨some 33, _, _, _, _, _⟩) rfl 96 (.tmp 32) rfl 0 g4 (s * 2) 97 (widesL (mulS x y (5 * i + j))) (wideL n) _ (by with_unfolding_all rfl) (by with_unfolding_all rfl) (by with_unfolding_all exact HPART.out) Try.underlying96 rfl (by with_unfolding_all exact Try.sz2) E.out ?_)
              | ((with_reducible refine (PC.out _).mono ?_); rintro e w6 ⟨rfl, b6⟩; have E7 := Lib.hid (E.out.call b6); clear b6)
              | ((with_reducible refine wpE_storeN (o := ⟨none, _, _, _, _, _⟩) rfl 96 (.tmp 37) (.tmp 36) rfl 0 g4 (s * 2) 97 (widesL (mulS x y (5 * i + j))) (wideL (n + xi * yj)) (widesL (mulS x y (5 * i + (j + 1)))) (by with_unfolding_all rfl) (by with_unfolding_all rfl) (by with_unfolding_all rfl) (by rw [HW2.out, wideL_length]; omega) (by with_unfolding_all exact HSET.out) (by with_unfolding_all exact Try.sz2) E7.out ?_); intro w9 E9; have HE9 := Lib.hid E9; clear E9 E7))
            go_roundw
            case rel => exact ⟨j + 1, by omega, by go_num, HE9.out⟩
            case measure => simp [intOf]; omega
          · rw [if_neg hs] at hset
            have PC := Lib.hid (PL.out n xi (19 * yj) hxi (by omega) hnb)
            obtain ⟨s, hs2⟩ : ∃ s, s = (i + j) % 5 := ⟨_, rfl⟩
            have hge : ¬ (i : Int) + (j : Int) < 5 := by omega
            have hw : IntKind.i64.wrap ((i : Int) + (j : Int) - 5) = (s : Int) := by rw [IntWalk.i64_in _ (by omega)]; omega
            have hsum : (i : Int) + (j : Int) - 5 = (s : Int) := by omega
            obtain ⟨zj, hzj⟩ : ∃ v, v = 19 * yj := ⟨_, rfl⟩
            have hmul : 19 * (yj : Int) = (zj : Int) := by omega
            have hzl : zj < 18446744073709551616 := by omega
            rw [← hzj] at hset PC
            clear hzj
            rw [← hs2] at hset hpart
            rw [Nat.mul_comm 2 s] at hset hpart
            have HPART := Lib.hid hpart
            have HSET := Lib.hid hset
            have HW2 := Lib.hid hwl
            have hs5 : (s : Int) < 5 := by omega
            have hsn : s < 5 := by omega
            clear hpart hset hwl hs2 hstep
            go_wp2_with (first
              | (with_reducible refine wpE_loadN (o := ⟨some 47, _, _, _, _, _⟩) rfl 96 (.tmp 46) rfl 0 g4 (s * 2) 97 (widesL (mulS x y (5 * i + j))) (wideL n) _ (by with_unfolding_all rfl) (by with_unfolding_all rfl) (by with_unfolding_all exact HPART.out) Try.underlying96 rfl (by with_unfolding_all exact Try.sz2) E.out ?_)
              | ((with_reducible refine (PC.out _).mono ?_); rintro e w6 ⟨rfl, b6⟩; have E7 := Lib.hid (E.out.call b6); clear b6)
              | ((with_reducible refine wpE_storeN (o := ⟨none, _, _, _, _, _⟩) rfl 96 (.tmp 52) (.tmp 51) rfl 0 g4 (s * 2) 97 (widesL (mulS x y (5 * i + j))) (wideL (n + xi * zj)) (widesL (mulS x y (5 * i + (j + 1)))) (by with_unfolding_all rfl) (by with_unfolding_all rfl) (by with_unfolding_all rfl) (by rw [HW2.out, wideL_length]; omega) (by with_unfolding_all exact HSET.out) (by with_unfolding_all exact Try.sz2) E7.out ?_); intro w9 E9; have HE9 := Lib.hid E9; clear E9 E7))
            go_roundw
            case rel => exact ⟨j + 1, by omega, by go_num, HE9.out⟩
            case measure => simp [intOf]; omega
        · have hj5 : j = 5 := by omega
          have E5 := E.out
          rw [hj5, show 5 * i + 5 = 5 * (i + 1) by omega] at E5
          have E6 := Lib.hid E5
          clear E5 E hj5
          go_wp2
          go_roundw
          case rel => exact ⟨i + 1, by omega, by go_num, E6.out⟩
          case measure => simp [intOf]; omega
    · have hi5 : i = 5 := by omega
      have E5 := E.out
      rw [hi5, show 5 * 5 = 25 from rfl, ← HZ.out] at E5
      have E6 := Lib.hid E5
      have HWZ : Hid ((widesL z).length = 10) := by show _ = _; rw [HZ.out]; exact HWL.out 25
      clear E5 E hi5
      go_wp2_with (first
        | (with_reducible refine wpE_load (o := ⟨some 55, _, _, _, _, _⟩) rfl 97 (.tmp 5) rfl 0 g4 97 (natsC (widesL z)) _ (by with_unfolding_all rfl) (by with_unfolding_all rfl) Try.underlying97 rfl (sizeN Try.sz10 _ HWZ.out) E6.out ?_)
        | ((with_reducible refine (N.out _).mono ?_); rintro e w6 ⟨rfl, b6⟩; have E7 := E6.out.call b6)
        | ((with_reducible refine (R.out _).mono ?_); rintro e w7 ⟨rfl, b7⟩; have E8 := E7.call b7)
        | ((with_reducible refine wpE_store (o := ⟨none, _, _, _, _, _⟩) rfl 45 (.tmp 4) (.tmp 57) rfl 1 g3 45 (natsC zero5) (natsC (elemL (a * b % pF))) (by with_unfolding_all rfl) (by with_unfolding_all rfl) (by with_unfolding_all rfl) (natsC_same zero5_length (elemL_length _)) (sizeN Try.sz5e _ (elemL_length _)) (natsC_one _) E8 ?_); intro w9 E9))
      exact bodyPost_ret (results_cell_row rfl _ _ g3 45 (natsC (elemL (a * b % pF))) (0, 0) _ rfl (E9.row 1 rfl) Try.underlying45 rfl (sizeN Try.sz5e _ (elemL_length _))) rfl (E9.ret _)
end Go.Proofs.Ytpgjcmccfpjmoaa
end
section
namespace Go.Proofs.Ytpgjcmccfpjmoaa
open Go.RowKit
set_option linter.unusedVariables false
set_option maxRecDepth 20000

theorem small_elem (n : Nat) (hn : n < 18446744073709551616) : [n % 2251799813685248, n / 2251799813685248, 0, 0, 0] = elemL n := by
  unfold elemL
  rw [digL5]
  simp only [List.cons.injEq, and_true]
  unfold Mx
  omega
theorem smallV (a b : Nat) : Value.agg #[.int .u64 (a : Int), .int .u64 (b : Int), .int .u64 0, .int .u64 0, .int .u64 0] = .agg (natsC [a, b, 0, 0, 0]) := rfl
theorem small_length (a b : Nat) : [a, b, 0, 0, 0].length = 5 := rfl

set_option maxHeartbeats 1000000 in
theorem Small_any (n : Nat) (hn : n < 18446744073709551616) (w : World) :
    Calls Try.prog 38 #[.int .u64 (n : Int)] w (RetV w (.agg (natsC (elemL n)))) := by
  have he := small_elem n hn
  have hand := and51 n hn
  obtain ⟨a, ha⟩ : ∃ a, a = n % 2251799813685248 := ⟨_, rfl⟩
  obtain ⟨b, hb⟩ : ∃ b, b = n / 2251799813685248 := ⟨_, rfl⟩
  have hdiv : (n : Int) / 2251799813685248 = (b : Int) := by omega
  rw [← ha, ← hb] at he
  rw [← ha] at hand
  rw [← he]
  clear ha hb he
  have E0 := Env.start w
  go_enter Try.func38, Try.ntmps38
  go_wp2_with (first
    | ((with_reducible refine wpE_alloc (o := ⟨some 2, _, _, _, _, _⟩) rfl 45 rfl (natsC zero5) Try.zero5e E0 ?_); intro g1 w1 E1)
    | ((with_reducible refine wpE_store (o := ⟨none, _, _, _, _, _⟩) rfl 45 (.tmp 2) (.tmp 8) rfl 0 g1 45 (natsC zero5) (natsC [a, b, 0, 0, 0]) (by with_unfolding_all rfl) (by with_unfolding_all rfl) (by with_unfolding_all exact smallV a b) (natsC_same zero5_length (small_length a b)) (sizeN Try.sz5e _ (small_length a b)) (natsC_one _) E1 ?_); intro w9 E9))
  exact bodyPost_ret (results_cell_row rfl _ _ g1 45 (natsC [a, b, 0, 0, 0]) (0, 0) _ rfl (E9.row 0 rfl) Try.underlying45 rfl (sizeN Try.sz5e _ (small_length a b))) rfl (E9.ret _)
end Go.Proofs.Ytpgjcmccfpjmoaa
end
section
namespace Go.Proofs.Ytpgjcmccfpjmoaa
open Go.RowKit
set_option linter.unusedVariables false
set_option maxRecDepth 20000

theorem modF_lt (a : Nat) : a % pF < pF := Nat.mod_lt _ (by decide)
/-- A power modulo p. -/
def powF (a n : Nat) : Nat := a ^ n % pF
theorem powF_lt (a n : Nat) : powF a n < pF := modF_lt _
theorem powF_one (a : Nat) (h : a < pF) : powF a 1 = a := by unfold powF; rw [Nat.pow_one, Nat.mod_eq_of_lt h]
theorem powF_mul (a m n : Nat) : powF a m * powF a n % pF = powF a (m + n) := by unfold powF; rw [← Nat.mul_mod, Nat.pow_add]
theorem powF_pow (a m n : Nat) : powF (powF a m) n = powF a (m * n) := by unfold powF; rw [← Nat.pow_mod, Nat.pow_mul]

set_option maxHeartbeats 1000000 in
theorem squared_any (a : Nat) (ha : a < pF) (n : Nat) (hn : n ≤ 1000) (w : World) :
    Calls Try.prog 60 #[.agg (natsC (elemL a)), .int .i64 (n : Int)] w (RetV w (.agg (natsC (elemL (powF a (2 ^ n)))))) := by
  have HM : Hid (∀ k w, Calls Try.prog 42 #[.agg (natsC (elemL (powF a (2 ^ k)))), .agg (natsC (elemL (powF a (2 ^ k))))] w (RetV w (.agg (natsC (elemL (powF a (2 ^ (k + 1)))))))) := fun k w => by
    have := Mul_any (powF a (2 ^ k)) (powF a (2 ^ k)) (powF_lt _ _) (powF_lt _ _) w
    rwa [powF_mul, show 2 ^ k + 2 ^ k = 2 ^ (k + 1) by rw [Nat.pow_succ]; omega] at this
  have H0 : Hid (elemL (powF a (2 ^ 0)) = elemL a) := by show _ = _; rw [Nat.pow_zero, powF_one a ha]
  have E0 := Env.start w
  go_enter Try.func60, Try.ntmps60
  go_wp2_with (first
    | ((with_reducible refine wpE_box (o := ⟨some 2, _, _, _, _, _⟩) rfl 45 (.tmp 0) rfl (natsC (elemL a)) (by with_unfolding_all rfl) E0 ?_); intro g1 w1 E1)
    | ((with_reducible refine wpE_alloc (o := ⟨some 4, _, _, _, _, _⟩) rfl 45 rfl (natsC zero5) Try.zero5e E1 ?_); intro g2 w2 E2))
  rw [← H0.out] at E2
  have E3 := Lib.hid E2
  clear E0 E1 E2
  go_loopw [6] (fun i wr => ∃ k : Nat, k ≤ n ∧ i = .int .i64 k ∧ Env w [(g2, 45, natsC zero5), (g1, 45, natsC (elemL (powF a (2 ^ k))))] wr) (fun i _ => n - (intOf i).toNat)
  case atStart => exact ⟨0, by omega, rfl, E3.out⟩
  case round =>
    clear E3
    obtain ⟨k, hk, rfl, hE⟩ := hrel
    have E := Lib.hid hE
    clear hE
    by_cases hlt : k < n
    · go_wp2_with (first
        | (with_reducible refine wpE_load (o := ⟨some 8, _, _, _, _, _⟩) rfl 45 (.tmp 2) rfl 1 g1 45 (natsC (elemL (powF a (2 ^ k)))) _ (by with_unfolding_all rfl) (by with_unfolding_all rfl) Try.underlying45 rfl (sizeN Try.sz5e _ (elemL_length _)) E.out ?_)
        | (with_reducible refine wpE_load (o := ⟨some 9, _, _, _, _, _⟩) rfl 45 (.tmp 2) rfl 1 g1 45 (natsC (elemL (powF a (2 ^ k)))) _ (by with_unfolding_all rfl) (by with_unfolding_all rfl) Try.underlying45 rfl (sizeN Try.sz5e _ (elemL_length _)) E.out ?_)
        | ((with_reducible refine (HM.out k _).mono ?_); rintro e w6 ⟨rfl, b6⟩; have E7 := Lib.hid (E.out.call b6); clear b6)
        | ((with_reducible refine wpE_store (o := ⟨none, _, _, _, _, _⟩) rfl 45 (.tmp 2) (.tmp 10) rfl 1 g1 45 (natsC (elemL (powF a (2 ^ k)))) (natsC (elemL (powF a (2 ^ (k + 1))))) (by with_unfolding_all rfl) (by with_unfolding_all rfl) (by with_unfolding_all rfl) (natsC_same (elemL_length _) (elemL_length _)) (sizeN Try.sz5e _ (elemL_length _)) (natsC_one _) E7.out ?_); intro w9 E9; have HE9 := Lib.hid E9; clear E9 E7))
      go_roundw
      case rel => exact ⟨k + 1, by omega, by go_num, HE9.out⟩
      case measure => simp [intOf]; omega
    · have hkn : k = n := by omega
      have E5 := E.out
      rw [hkn] at E5
      have E6 := Lib.hid E5
      clear E5 E hkn
      go_wp2_with (first
        | (with_reducible refine wpE_load (o := ⟨some 12, _, _, _, _, _⟩) rfl 45 (.tmp 2) rfl 1 g1 45 (natsC (elemL (powF a (2 ^ n)))) _ (by with_unfolding_all rfl) (by with_unfolding_all rfl) Try.underlying45 rfl (sizeN Try.sz5e _ (elemL_length _)) E6.out ?_)
        | ((with_reducible refine wpE_store (o := ⟨none, _, _, _, _, _⟩) rfl 45 (.tmp 4) (.tmp 12) rfl 0 g2 45 (natsC zero5) (natsC (elemL (powF a (2 ^ n)))) (by with_unfolding_all rfl) (by with_unfolding_all rfl) (by with_unfolding_all rfl) (natsC_same zero5_length (elemL_length _)) (sizeN Try.sz5e _ (elemL_length _)) (natsC_one _) E6.out ?_); intro w9 E9))
      exact bodyPost_ret (results_cell_row rfl _ _ g2 45 (natsC (elemL (powF a (2 ^ n)))) (0, 0) _ rfl (E9.row 0 rfl) Try.underlying45 rfl (sizeN Try.sz5e _ (elemL_length _))) rfl (E9.ret _)

/-- The power that ones makes: bits one, so far apart, once more than t. -/
def onesE (s : Nat) : Nat → Nat
  | 0 => 1
  | t + 1 => onesE s t * 2 ^ s + 1

set_option maxHeartbeats 1000000 in
theorem ones_any (a : Nat) (ha : a < pF) (s n : Nat) (hs : s ≤ 1000) (hn : n ≤ 1000) (w : World) :
    Calls Try.prog 59 #[.agg (natsC (elemL a)), .int .i64 (s : Int), .int .i64 ((n + 1 : Nat) : Int)] w (RetV w (.agg (natsC (elemL (powF a (onesE s n)))))) := by
  have HS : Hid (∀ k w, Calls Try.prog 60 #[.agg (natsC (elemL (powF a (onesE s k)))), .int .i64 (s : Int)] w (RetV w (.agg (natsC (elemL (powF a (onesE s k * 2 ^ s))))))) := fun k w => by
    have := squared_any (powF a (onesE s k)) (powF_lt _ _) s hs w
    rwa [powF_pow] at this
  have HM : Hid (∀ k w, Calls Try.prog 42 #[.agg (natsC (elemL (powF a (onesE s k * 2 ^ s)))), .agg (natsC (elemL a))] w (RetV w (.agg (natsC (elemL (powF a (onesE s (k + 1)))))))) := fun k w => by
    have := Mul_any (powF a (onesE s k * 2 ^ s)) (powF a 1) (powF_lt _ _) (powF_lt _ _) w
    rwa [powF_mul, powF_one a ha] at this
  have H0 : Hid (elemL a = elemL (powF a (onesE s 0))) := by show _ = _; rw [onesE, powF_one a ha]
  have E0 := Env.start w
  go_enter Try.func59, Try.ntmps59
  go_wp2_with (first
    | ((with_reducible refine wpE_box (o := ⟨some 3, _, _, _, _, _⟩) rfl 45 (.tmp 0) rfl (natsC (elemL a)) (by with_unfolding_all rfl) E0 ?_); intro g1 w1 E1)
    | ((with_reducible refine wpE_alloc (o := ⟨some 6, _, _, _, _, _⟩) rfl 45 rfl (natsC zero5) Try.zero5e E1 ?_); intro g2 w2 E2)
    | (with_reducible refine wpE_load (o := ⟨some 8, _, _, _, _, _⟩) rfl 45 (.tmp 3) rfl 1 g1 45 (natsC (elemL a)) _ (by with_unfolding_all rfl) (by with_unfolding_all rfl) Try.underlying45 rfl (sizeN Try.sz5e _ (elemL_length _)) E2 ?_)
    | ((with_reducible refine wpE_alloc (o := ⟨some 7, _, _, _, _, _⟩) rfl 45 rfl (natsC zero5) Try.zero5e E2 ?_); intro g3 w3 E3)
    | ((with_reducible refine wpE_store (o := ⟨none, _, _, _, _, _⟩) rfl 45 (.tmp 7) (.tmp 8) rfl 0 g3 45 (natsC zero5) (natsC (elemL a)) (by with_unfolding_all rfl) (by with_unfolding_all rfl) (by with_unfolding_all rfl) (natsC_same zero5_length (elemL_length _)) (sizeN Try.sz5e _ (elemL_length _)) (natsC_one _) E3 ?_); intro w4 E4))
  simp only [List.set_cons_zero] at E4
  have E5 : Hid (Env w [(g3, 45, natsC (elemL (powF a (onesE s 0)))), (g2, 45, natsC zero5), (g1, 45, natsC (elemL a))] w4) := by rw [← H0.out]; exact E4
  clear E0 E1 E2 E3 E4
  go_loopw [11] (fun i wr => ∃ k : Nat, k ≤ n ∧ i = .int .i64 k ∧ Env w [(g3, 45, natsC (elemL (powF a (onesE s k)))), (g2, 45, natsC zero5), (g1, 45, natsC (elemL a))] wr) (fun i _ => n - (intOf i).toNat)
  case atStart => exact ⟨0, by omega, rfl, E5.out⟩
  case round =>
    clear E5
    obtain ⟨k, hk, rfl, hE⟩ := hrel
    have E := Lib.hid hE
    clear hE
    by_cases hlt : k < n
    · go_wp2_with fail
      refine region_class_tail 5 _ E.out.drew (by kernel_rfl) (by kernel_rfl) ?_
      simp only [List.take_succ_cons, List.take_zero, List.drop_succ_cons, List.drop_zero]
      refine qE_load (by rfl) _ (.tmp 7) rfl 0 g3 45 (natsC (elemL (powF a (onesE s k)))) _ rfl rfl Try.underlying45 rfl (sizeN Try.sz5e _ (elemL_length _)) ?_
      simp only [Act.put, List.setIfInBounds_toArray, List.set_cons_zero, List.set_cons_succ]
      refine q_run (by rfl) (v := .int .i64 (s : Int)) (fun W _ => by go_simp) ?_
      simp only [Act.put, List.setIfInBounds_toArray, List.set_cons_zero, List.set_cons_succ]
      refine q_call (by rfl) 60 _ (fun W => by go_simp) (fun W hW => hW.calls (HS.out k W)) ?_
      simp only [Act.put, List.setIfInBounds_toArray, List.set_cons_zero, List.set_cons_succ]
      refine qE_load (by rfl) _ (.tmp 3) rfl 2 g1 45 (natsC (elemL a)) _ rfl rfl Try.underlying45 rfl (sizeN Try.sz5e _ (elemL_length _)) ?_
      simp only [Act.put, List.setIfInBounds_toArray, List.set_cons_zero, List.set_cons_succ]
      refine q_call (by rfl) 42 _ (fun W => by go_simp) (fun W hW => hW.calls (HM.out k W)) ?_
      simp only [Act.put, List.setIfInBounds_toArray, List.set_cons_zero, List.set_cons_succ]
      refine wpQuiet_nil ?_
      intro w6 E6
      go_wp2_with (((with_reducible refine wpE_store (o := ⟨none, _, _, _, _, _⟩) rfl 45 (.tmp 7) (.tmp 17) rfl 0 g3 45 (natsC (elemL (powF a (onesE s k)))) (natsC (elemL (powF a (onesE s (k + 1))))) (by with_unfolding_all rfl) (by with_unfolding_all rfl) (by with_unfolding_all rfl) (natsC_same (elemL_length _) (elemL_length _)) (sizeN Try.sz5e _ (elemL_length _)) (natsC_one _) E6 ?_); intro w7 E7); have HE9 := Lib.hid E7; clear E7 E6)
      go_roundw
      case rel => exact ⟨k + 1, by omega, by go_num, HE9.out⟩
      case measure => simp [intOf]; omega
    · have hkn : k = n := by omega
      have E5 := E.out
      rw [hkn] at E5
      have E6 := Lib.hid E5
      clear E5 E hkn
      go_wp2_with (first
        | (with_reducible refine wpE_load (o := ⟨some 19, _, _, _, _, _⟩) rfl 45 (.tmp 7) rfl 0 g3 45 (natsC (elemL (powF a (onesE s n)))) _ (by with_unfolding_all rfl) (by with_unfolding_all rfl) Try.underlying45 rfl (sizeN Try.sz5e _ (elemL_length _)) E6.out ?_)
        | ((with_reducible refine wpE_store (o := ⟨none, _, _, _, _, _⟩) rfl 45 (.tmp 6) (.tmp 19) rfl 1 g2 45 (natsC zero5) (natsC (elemL (powF a (onesE s n)))) (by with_unfolding_all rfl) (by with_unfolding_all rfl) (by with_unfolding_all rfl) (natsC_same zero5_length (elemL_length _)) (sizeN Try.sz5e _ (elemL_length _)) (natsC_one _) E6.out ?_); intro w9 E9))
      exact bodyPost_ret (results_cell_row rfl _ _ g2 45 (natsC (elemL (powF a (onesE s n)))) (0, 0) _ rfl (E9.row 1 rfl) Try.underlying45 rfl (sizeN Try.sz5e _ (elemL_length _))) rfl (E9.ret _)

/-- Whether the last bit is set. -/
theorem powF_odd (a n : Nat) (h : n % 2 = 1) (q : Nat) : powF a q * powF (powF a q) (n - 1) % pF = powF (powF a q) n := by
  have := powF_mul (powF a q) 1 (n - 1)
  rw [powF_one _ (powF_lt _ _)] at this
  rw [this, show 1 + (n - 1) = n by omega]

set_option maxHeartbeats 2000000 in
theorem Power_any (a : Nat) (ha : a < pF) (n : Nat) (hn : n < 18446744073709551616) (w : World) :
    Calls Try.prog 61 #[.agg (natsC (elemL a)), .int .u64 (n : Int)] w (RetV w (.agg (natsC (elemL (powF a n))))) := by
  have HO : Hid (∀ w, Calls Try.prog 38 #[.int .u64 1] w (RetV w (.agg (natsC (elemL 1))))) := fun w => Small_any 1 (by omega) w
  have HM : Hid (∀ u v, u < pF → v < pF → ∀ w, Calls Try.prog 42 #[.agg (natsC (elemL u)), .agg (natsC (elemL v))] w (RetV w (.agg (natsC (elemL (u * v % pF)))))) := fun u v hu hv w => Mul_any u v hu hv w
  have HP : Hid (∀ u, u < pF → u % pF = u) := fun u hu => Nat.mod_eq_of_lt hu
  have HA := Lib.hid ha
  have H1 : Hid (1 < pF) := by show _ < _; decide
  clear ha
  have E0 := Env.start w
  go_enter Try.func61, Try.ntmps61
  go_wp2_with (first
    | ((with_reducible refine wpE_box (o := ⟨some 2, _, _, _, _, _⟩) rfl 45 (.tmp 0) rfl (natsC (elemL a)) (by with_unfolding_all rfl) E0 ?_); intro g1 w1 E1)
    | ((with_reducible refine wpE_alloc (o := ⟨some 4, _, _, _, _, _⟩) rfl 45 rfl (natsC (zero5)) Try.zero5e E1 ?_); intro g2 w2 E2)
    | ((with_reducible refine (HO.out _).mono ?_); rintro e w3 ⟨rfl, b_w3⟩; have E3 := E2.call b_w3; clear b_w3)
    | ((with_reducible refine wpE_alloc (o := ⟨some 5, _, _, _, _, _⟩) rfl 45 rfl (natsC (zero5)) Try.zero5e E3 ?_); intro g3 w4 E4)
    | ((with_reducible refine wpE_store (o := ⟨none, _, _, _, _, _⟩) rfl 45 (.tmp 5) (.tmp 6) rfl 0 g3 45 (natsC (zero5)) (natsC (elemL 1)) (by with_unfolding_all rfl) (by with_unfolding_all rfl) (by with_unfolding_all rfl) (natsC_same zero5_length (elemL_length _)) (sizeN Try.sz5e _ (elemL_length _)) (natsC_one _) E4 ?_); intro w5 E5; simp only [List.set_cons_zero] at E5))
  have E6 := Lib.hid E5
  clear E0 E1 E2 E3 E4 E5
  try simp only [Act.put, List.setIfInBounds_toArray, List.set_cons_zero, List.set_cons_succ]
  go_loopw [1] (fun m wr => ∃ r u v : Nat, r ≤ n ∧ m = .int .u64 (r : Int) ∧ u < pF ∧ v < pF ∧ u * powF v r % pF = powF a n ∧ Env w [(g3, 45, natsC (elemL u)), (g2, 45, natsC zero5), (g1, 45, natsC (elemL v))] wr) (fun m _ => (intOf m).toNat)
  case atStart => exact ⟨n, 1, a, Nat.le_refl _, rfl, H1.out, HA.out, by rw [Nat.one_mul, HP.out _ (powF_lt _ _)], E6.out⟩
  case round =>
    clear E6
    obtain ⟨r, u, v, hr, rfl, hu, hv, hval, hE⟩ := hrel
    have E := Lib.hid hE
    have HU := Lib.hid hu
    have HV := Lib.hid hv
    have HVAL := Lib.hid hval
    clear hE hu hv hval
    by_cases hlt : 0 < r
    · have hr2 : r < 18446744073709551616 := by omega
      by_cases hodd : r % 2 = 1
      · have hod : ((r : Int) % 2) = 1 := by omega
        have hn1 : u * v % pF * powF (v * v % pF) (r / 2) % pF = powF a n := by
          rw [← HVAL.out]
          have e : powF v r = v * powF (v * v % pF) (r / 2) % pF := by
            have e2 : powF (v * v % pF) (r / 2) = powF v (2 * (r / 2)) := by
              rw [← powF_pow]
              unfold powF
              rw [Nat.pow_two]
            have e3 := powF_mul v 1 (2 * (r / 2))
            rw [powF_one v HV.out] at e3
            rw [e2, e3, show 1 + 2 * (r / 2) = r by omega]
          rw [e, Nat.mul_mod_mod, Nat.mod_mul_mod, Nat.mul_assoc]
        have HN := Lib.hid hn1
        clear hn1
        go_wp2_with (first
          | (with_reducible refine wpE_load (o := ⟨some 14, _, _, _, _, _⟩) rfl 45 (.tmp 5) rfl 0 g3 45 (natsC (elemL u)) _ (by with_unfolding_all rfl) (by with_unfolding_all rfl) Try.underlying45 rfl (sizeN Try.sz5e _ (elemL_length _)) E.out ?_)
          | (with_reducible refine wpE_load (o := ⟨some 15, _, _, _, _, _⟩) rfl 45 (.tmp 2) rfl 2 g1 45 (natsC (elemL v)) _ (by with_unfolding_all rfl) (by with_unfolding_all rfl) Try.underlying45 rfl (sizeN Try.sz5e _ (elemL_length _)) E.out ?_)
          | ((with_reducible refine (HM.out u v HU.out HV.out _).mono ?_); rintro e w6 ⟨rfl, b6⟩; have E7 := Lib.hid (E.out.call b6); clear b6)
          | ((with_reducible refine wpE_store (o := ⟨none, _, _, _, _, _⟩) rfl 45 (.tmp 5) (.tmp 16) rfl 0 g3 45 (natsC (elemL u)) (natsC (elemL (u * v % pF))) (by with_unfolding_all rfl) (by with_unfolding_all rfl) (by with_unfolding_all rfl) (natsC_same (elemL_length _) (elemL_length _)) (sizeN Try.sz5e _ (elemL_length _)) (natsC_one _) E7.out ?_); intro w8 E8; simp only [List.set_cons_zero] at E8)
          | (with_reducible refine wpE_load (o := ⟨some 17, _, _, _, _, _⟩) rfl 45 (.tmp 2) rfl 2 g1 45 (natsC (elemL v)) _ (by with_unfolding_all rfl) (by with_unfolding_all rfl) Try.underlying45 rfl (sizeN Try.sz5e _ (elemL_length _)) E8 ?_)
          | (with_reducible refine wpE_load (o := ⟨some 18, _, _, _, _, _⟩) rfl 45 (.tmp 2) rfl 2 g1 45 (natsC (elemL v)) _ (by with_unfolding_all rfl) (by with_unfolding_all rfl) Try.underlying45 rfl (sizeN Try.sz5e _ (elemL_length _)) E8 ?_)
          | ((with_reducible refine (HM.out v v HV.out HV.out _).mono ?_); rintro e w9 ⟨rfl, b9⟩; have E9 := Lib.hid (E8.call b9); clear b9 E8)
          | ((with_reducible refine wpE_store (o := ⟨none, _, _, _, _, _⟩) rfl 45 (.tmp 2) (.tmp 19) rfl 2 g1 45 (natsC (elemL v)) (natsC (elemL (v * v % pF))) (by with_unfolding_all rfl) (by with_unfolding_all rfl) (by with_unfolding_all rfl) (natsC_same (elemL_length _) (elemL_length _)) (sizeN Try.sz5e _ (elemL_length _)) (natsC_one _) E9.out ?_); intro w10 E10; simp only [List.set_cons_zero, List.set_cons_succ] at E10))
        have HE := Lib.hid E10
        clear E10
        go_roundw
        case rel => exact ⟨r / 2, u * v % pF, v * v % pF, by omega, by go_num, modF_lt _, modF_lt _, HN.out, HE.out⟩
        case measure => simp [intOf]; omega
      · have hod : ((r : Int) % 2) = 0 := by omega
        have hn1 : u * powF (v * v % pF) (r / 2) % pF = powF a n := by
          rw [← HVAL.out]
          have e2 : powF (v * v % pF) (r / 2) = powF v (2 * (r / 2)) := by
            rw [← powF_pow]
            unfold powF
            rw [Nat.pow_two]
          rw [e2, show 2 * (r / 2) = r by omega]
        have HN := Lib.hid hn1
        clear hn1
        go_wp2_with (first
          | (with_reducible refine wpE_load (o := ⟨some 17, _, _, _, _, _⟩) rfl 45 (.tmp 2) rfl 2 g1 45 (natsC (elemL v)) _ (by with_unfolding_all rfl) (by with_unfolding_all rfl) Try.underlying45 rfl (sizeN Try.sz5e _ (elemL_length _)) E.out ?_)
          | (with_reducible refine wpE_load (o := ⟨some 18, _, _, _, _, _⟩) rfl 45 (.tmp 2) rfl 2 g1 45 (natsC (elemL v)) _ (by with_unfolding_all rfl) (by with_unfolding_all rfl) Try.underlying45 rfl (sizeN Try.sz5e _ (elemL_length _)) E.out ?_)
          | ((with_reducible refine (HM.out v v HV.out HV.out _).mono ?_); rintro e w9 ⟨rfl, b9⟩; have E9 := Lib.hid (E.out.call b9); clear b9)
          | ((with_reducible refine wpE_store (o := ⟨none, _, _, _, _, _⟩) rfl 45 (.tmp 2) (.tmp 19) rfl 2 g1 45 (natsC (elemL v)) (natsC (elemL (v * v % pF))) (by with_unfolding_all rfl) (by with_unfolding_all rfl) (by with_unfolding_all rfl) (natsC_same (elemL_length _) (elemL_length _)) (sizeN Try.sz5e _ (elemL_length _)) (natsC_one _) E9.out ?_); intro w10 E10; simp only [List.set_cons_zero, List.set_cons_succ] at E10))
        have HE := Lib.hid E10
        clear E10
        go_roundw
        case rel => exact ⟨r / 2, u, v * v % pF, by omega, by go_num, HU.out, modF_lt _, HN.out, HE.out⟩
        case measure => simp [intOf]; omega
    · have hr0 : r = 0 := by omega
      have hval := HVAL.out
      rw [hr0, show powF v 0 = 1 by unfold powF; rw [Nat.pow_zero]; exact HP.out _ H1.out, Nat.mul_one, HP.out _ HU.out] at hval
      have HV2 := Lib.hid hval
      clear hval hr0
      go_wp2_with (first
        | (with_reducible refine wpE_load (o := ⟨some 20, _, _, _, _, _⟩) rfl 45 (.tmp 5) rfl 0 g3 45 (natsC (elemL u)) _ (by with_unfolding_all rfl) (by with_unfolding_all rfl) Try.underlying45 rfl (sizeN Try.sz5e _ (elemL_length _)) E.out ?_)
        | ((with_reducible refine wpE_store (o := ⟨none, _, _, _, _, _⟩) rfl 45 (.tmp 4) (.tmp 20) rfl 1 g2 45 (natsC (zero5)) (natsC (elemL u)) (by with_unfolding_all rfl) (by with_unfolding_all rfl) (by with_unfolding_all rfl) (natsC_same zero5_length (elemL_length _)) (sizeN Try.sz5e _ (elemL_length _)) (natsC_one _) E.out ?_); intro w9 E9; simp only [List.set_cons_zero, List.set_cons_succ] at E9))
      rw [← HV2.out]
      exact bodyPost_ret (results_cell_row rfl _ _ g2 45 (natsC (elemL u)) (0, 0) _ rfl (E9.row 1 rfl) Try.underlying45 rfl (sizeN Try.sz5e _ (elemL_length _))) rfl (E9.ret _)
end Go.Proofs.Ytpgjcmccfpjmoaa
end
section
namespace Go.Proofs.Ytpgjcmccfpjmoaa
open Go.RowKit
set_option linter.unusedVariables false
set_option maxRecDepth 20000

def invF (a : Nat) : Nat := powF a (pF - 2)
theorem invF_lt (a : Nat) : invF a < pF := powF_lt _ _
theorem expo1 : onesE 1 4 = 31 := by decide
theorem expo2 : onesE 5 4 = 1082401 := by decide
theorem expo3 : 31 * onesE 5 4 * onesE 25 9 * 2 ^ 5 + 11 = pF - 2 := by decide +kernel

set_option maxHeartbeats 1000000 in
theorem Invert_any (a : Nat) (ha : a < pF) (w : World) :
    Calls Try.prog 43 #[.agg (natsC (elemL a))] w (RetV w (.agg (natsC (elemL (invF a))))) := by
  have H1 : Hid (∀ w, Calls Try.prog 59 #[.agg (natsC (elemL a)), .int .i64 1, .int .i64 5] w (RetV w (.agg (natsC (elemL (powF a (onesE 1 4))))))) := fun w => ones_any a ha 1 4 (by omega) (by omega) w
  have H2 : Hid (∀ w, Calls Try.prog 59 #[.agg (natsC (elemL (powF a (onesE 1 4)))), .int .i64 5, .int .i64 5] w (RetV w (.agg (natsC (elemL (powF a (onesE 1 4 * onesE 5 4))))))) := fun w => by
    have := ones_any (powF a (onesE 1 4)) (powF_lt _ _) 5 4 (by omega) (by omega) w
    rwa [powF_pow] at this
  have H3 : Hid (∀ w, Calls Try.prog 59 #[.agg (natsC (elemL (powF a (onesE 1 4 * onesE 5 4)))), .int .i64 25, .int .i64 10] w (RetV w (.agg (natsC (elemL (powF a (onesE 1 4 * onesE 5 4 * onesE 25 9))))))) := fun w => by
    have := ones_any (powF a (onesE 1 4 * onesE 5 4)) (powF_lt _ _) 25 9 (by omega) (by omega) w
    rwa [powF_pow] at this
  have H4 : Hid (∀ w, Calls Try.prog 60 #[.agg (natsC (elemL (powF a (onesE 1 4 * onesE 5 4 * onesE 25 9)))), .int .i64 5] w (RetV w (.agg (natsC (elemL (powF a (onesE 1 4 * onesE 5 4 * onesE 25 9 * 2 ^ 5))))))) := fun w => by
    have := squared_any (powF a (onesE 1 4 * onesE 5 4 * onesE 25 9)) (powF_lt _ _) 5 (by omega) w
    rwa [powF_pow] at this
  have H5 : Hid (∀ w, Calls Try.prog 61 #[.agg (natsC (elemL a)), .int .u64 11] w (RetV w (.agg (natsC (elemL (powF a 11)))))) := fun w => Power_any a ha 11 (by omega) w
  have H6 : Hid (∀ w, Calls Try.prog 42 #[.agg (natsC (elemL (powF a (onesE 1 4 * onesE 5 4 * onesE 25 9 * 2 ^ 5)))), .agg (natsC (elemL (powF a 11)))] w (RetV w (.agg (natsC (elemL (invF a)))))) := fun w => by
    have := Mul_any (powF a (onesE 1 4 * onesE 5 4 * onesE 25 9 * 2 ^ 5)) (powF a 11) (powF_lt _ _) (powF_lt _ _) w
    rwa [powF_mul, expo1, expo3] at this
  generalize powF a (onesE 1 4 * onesE 5 4 * onesE 25 9 * 2 ^ 5) = x4 at H4 H6
  generalize powF a (onesE 1 4 * onesE 5 4 * onesE 25 9) = x3 at H3 H4
  generalize powF a (onesE 1 4 * onesE 5 4) = x2 at H2 H3
  generalize powF a (onesE 1 4) = x1 at H1 H2
  generalize powF a 11 = x5 at H5 H6
  generalize invF a = x6 at H6 ⊢
  have E0 := Env.start w
  go_enter Try.func43, Try.ntmps43
  go_wp2_with (first
    | ((with_reducible refine wpE_box (o := ⟨some 1, _, _, _, _, _⟩) rfl 45 (.tmp 0) rfl (natsC (elemL a)) (by with_unfolding_all rfl) E0 ?_); intro g1 w1 E1)
    | ((with_reducible refine wpE_alloc (o := ⟨some 2, _, _, _, _, _⟩) rfl 45 rfl (natsC (zero5)) Try.zero5e E1 ?_); intro g2 w2 E2)
    | (with_reducible refine wpE_load (o := ⟨some 4, _, _, _, _, _⟩) rfl 45 (.tmp 1) rfl 1 g1 45 (natsC (elemL a)) _ (by with_unfolding_all rfl) (by with_unfolding_all rfl) Try.underlying45 rfl (sizeN Try.sz5e _ (elemL_length _)) E2 ?_)
    | ((with_reducible refine (H1.out _).mono ?_); rintro e w3 ⟨rfl, b_w3⟩; have E3 := E2.call b_w3; clear b_w3)
    | ((with_reducible refine (H2.out _).mono ?_); rintro e w4 ⟨rfl, b_w4⟩; have E4 := E3.call b_w4; clear b_w4)
    | ((with_reducible refine (H3.out _).mono ?_); rintro e w5 ⟨rfl, b_w5⟩; have E5 := E4.call b_w5; clear b_w5)
    | ((with_reducible refine wpE_alloc (o := ⟨some 3, _, _, _, _, _⟩) rfl 45 rfl (natsC (zero5)) Try.zero5e E5 ?_); intro g3 w6 E6)
    | ((with_reducible refine wpE_store (o := ⟨none, _, _, _, _, _⟩) rfl 45 (.tmp 3) (.tmp 7) rfl 0 g3 45 (natsC (zero5)) (natsC (elemL x3)) (by with_unfolding_all rfl) (by with_unfolding_all rfl) (by with_unfolding_all rfl) (natsC_same zero5_length (elemL_length _)) (sizeN Try.sz5e _ (elemL_length _)) (natsC_one _) E6 ?_); intro w7 E7; simp only [List.set_cons_zero] at E7))
  refine region_class_tail 5 _ E7.drew (by kernel_rfl) (by kernel_rfl) ?_
  simp only [List.take_succ_cons, List.take_zero, List.drop_succ_cons, List.drop_zero]
  refine qE_load (by rfl) _ (.tmp 3) rfl 0 g3 45 (natsC (elemL x3)) _ rfl rfl Try.underlying45 rfl (sizeN Try.sz5e _ (elemL_length _)) ?_
  simp only [Act.put, List.setIfInBounds_toArray, List.set_cons_zero, List.set_cons_succ]
  refine q_call (by rfl) 60 _ (fun W => by go_simp) (fun W hW => hW.calls (H4.out W)) ?_
  simp only [Act.put, List.setIfInBounds_toArray, List.set_cons_zero, List.set_cons_succ]
  refine qE_load (by rfl) _ (.tmp 1) rfl 2 g1 45 (natsC (elemL a)) _ rfl rfl Try.underlying45 rfl (sizeN Try.sz5e _ (elemL_length _)) ?_
  simp only [Act.put, List.setIfInBounds_toArray, List.set_cons_zero, List.set_cons_succ]
  refine q_call (by rfl) 61 _ (fun W => by go_simp) (fun W hW => hW.calls (H5.out W)) ?_
  simp only [Act.put, List.setIfInBounds_toArray, List.set_cons_zero, List.set_cons_succ]
  refine q_call (by rfl) 42 _ (fun W => by go_simp) (fun W hW => hW.calls (H6.out W)) ?_
  simp only [Act.put, List.setIfInBounds_toArray, List.set_cons_zero, List.set_cons_succ]
  refine wpQuiet_nil ?_
  intro w8 E8
  go_wp2_with (first
    | ((with_reducible refine wpE_store (o := ⟨none, _, _, _, _, _⟩) rfl 45 (.tmp 2) (.tmp 12) rfl 1 g2 45 (natsC (zero5)) (natsC (elemL x6)) (by with_unfolding_all rfl) (by with_unfolding_all rfl) (by with_unfolding_all rfl) (natsC_same zero5_length (elemL_length _)) (sizeN Try.sz5e _ (elemL_length _)) (natsC_one _) E8 ?_); intro w9 E9; simp only [List.set_cons_zero, List.set_cons_succ] at E9))
  exact bodyPost_ret (results_cell_row rfl _ _ g2 45 (natsC (elemL x6)) (0, 0) _ rfl (E9.row 1 rfl) Try.underlying45 rfl (sizeN Try.sz5e _ (elemL_length _))) rfl (E9.ret _)
end Go.Proofs.Ytpgjcmccfpjmoaa
end
section
namespace Go.Proofs.Ytpgjcmccfpjmoaa

/-- The byte at place i of a number. -/
def byteN (n i : Nat) : UInt8 := UInt8.ofNat (n / 256 ^ i)
theorem byteN_toNat (n i : Nat) : (byteN n i).toNat = n / 256 ^ i % 256 := by
  simp [byteN, UInt8.toNat_ofNat']

/-- A number's lowest s bytes, the lowest one first. -/
def lowB (n s : Nat) : List UInt8 := (List.range s).map (byteN n)
theorem lowB_length (n s : Nat) : (lowB n s).length = s := by simp [lowB]
theorem lowB_succ (n s : Nat) : lowB n (s + 1) = lowB n s ++ [byteN n s] := by simp [lowB, List.range_succ]
theorem lowB_zero (n : Nat) : lowB n 0 = [] := rfl
theorem byteN_div (n i : Nat) : byteN (n / 256) i = byteN n (i + 1) := by
  simp [byteN, Nat.div_div_eq_div_mul, Nat.pow_succ, Nat.mul_comm]
theorem lowB_cons (n s : Nat) : lowB n (s + 1) = byteN n 0 :: lowB (n / 256) s := by
  simp only [lowB, List.range_succ_eq_map, List.map_cons, List.map_map]
  congr 1
  apply List.map_congr_left
  intro i _
  exact (byteN_div n i).symm

/-- As the call has it: none, if the size is not 1 to 8. -/
def lowI (n : Nat) (s : Int) : List UInt8 := if 1 ≤ s ∧ s ≤ 8 then lowB n s.toNat else []
def highI (n : Nat) (s : Int) : List UInt8 := (lowI n s).reverse
theorem lowI_in (n s : Nat) (h1 : 1 ≤ s) (h2 : s ≤ 8) : lowI n s = lowB n s := by
  unfold lowI
  rw [if_pos ⟨by omega, by omega⟩, Int.toNat_natCast]
theorem lowI_out (n : Nat) (s : Int) (h : s < 1 ∨ 8 < s) : lowI n s = [] := by
  unfold lowI
  rw [if_neg (by omega)]
theorem lowI_length (n : Nat) (s : Int) : (lowI n s).length ≤ 8 := by
  unfold lowI
  split
  · rw [lowB_length]; omega
  · simp

/-- The number of bytes, the lowest one first. -/
def ofLowB : List UInt8 → Nat
  | [] => 0
  | b :: l => b.toNat + 256 * ofLowB l
/-- The number of bytes, the lowest one last. -/
def ofHighB (l : List UInt8) : Nat := ofLowB l.reverse

theorem ofLowB_lt (l : List UInt8) : ofLowB l < 256 ^ l.length := by
  induction l with
  | nil => simp [ofLowB]
  | cons b l ih =>
    have := b.toNat_lt
    simp only [ofLowB, List.length_cons, Nat.pow_succ]
    omega
theorem ofLowB_append (a b : List UInt8) : ofLowB (a ++ b) = ofLowB a + 256 ^ a.length * ofLowB b := by
  induction a with
  | nil => simp [ofLowB]
  | cons x a ih =>
    simp only [List.cons_append, ofLowB, ih, List.length_cons, Nat.pow_succ]
    rw [Nat.mul_add, ← Nat.mul_assoc, Nat.mul_comm 256 (256 ^ a.length), Nat.add_assoc]
theorem ofHighB_snoc (l : List UInt8) (b : UInt8) : ofHighB (l ++ [b]) = ofHighB l * 256 + b.toNat := by
  simp [ofHighB, ofLowB]
  omega
theorem ofHighB_nil : ofHighB [] = 0 := rfl
theorem ofHighB_lt (l : List UInt8) : ofHighB l < 256 ^ l.length := by
  have := ofLowB_lt l.reverse
  rwa [List.length_reverse] at this
theorem ofLowB_snoc (l : List UInt8) (b : UInt8) : ofLowB (l ++ [b]) = ofLowB l + 256 ^ l.length * b.toNat := by
  simp [ofLowB_append, ofLowB]

theorem ofLowB_lowB (n s : Nat) : ofLowB (lowB n s) = n % 256 ^ s := by
  induction s generalizing n with
  | zero => simp [lowB, ofLowB, Nat.mod_one]
  | succ s ih =>
    rw [lowB_cons, ofLowB, ih, byteN_toNat, Nat.pow_succ, Nat.mul_comm (256 ^ s), Nat.mod_mul]
    simp

theorem pow256_le (k : Nat) (h : k ≤ 8) : 256 ^ k ≤ 18446744073709551616 := by
  have : (256 : Nat) ^ k ≤ 256 ^ 8 := Nat.pow_le_pow_right (by omega) h
  simpa using this
theorem ofLowB_u64 (l : List UInt8) (h : l.length ≤ 8) : ofLowB l < 18446744073709551616 :=
  Nat.lt_of_lt_of_le (ofLowB_lt l) (pow256_le _ h)
theorem ofHighB_u64 (l : List UInt8) (h : l.length ≤ 8) : ofHighB l < 18446744073709551616 :=
  Nat.lt_of_lt_of_le (ofHighB_lt l) (pow256_le _ h)

/-- Bytes mixed, as many as the shorter list has. -/
def xorB (a b : List UInt8) : List UInt8 := List.zipWith (· ^^^ ·) a b
theorem xorB_length (a b : List UInt8) : (xorB a b).length = min a.length b.length := by simp [xorB]
theorem xorB_get (a b : List UInt8) (k : Nat) (h : k < (xorB a b).length) (ha : k < a.length) (hb : k < b.length) : (xorB a b)[k] = a[k] ^^^ b[k] := by
  simp [xorB]

/-- The first k of l, and zeros behind them. -/
def partly (l : List UInt8) (k : Nat) : List UInt8 := l.take k ++ List.replicate (l.length - k) 0
theorem partly_length (l : List UInt8) (k : Nat) (h : k ≤ l.length) : (partly l k).length = l.length := by simp [partly]; omega
theorem partly_zero (l : List UInt8) : partly l 0 = List.replicate l.length 0 := by simp [partly]
theorem partly_all (l : List UInt8) : partly l l.length = l := by simp [partly]
theorem partly_step (l : List UInt8) (k : Nat) (h : k < l.length) : (partly l k).set k l[k] = partly l (k + 1) := by
  unfold partly
  rw [List.set_append_right _ _ (by simp; omega), List.take_succ_eq_append_getElem h, List.append_assoc]
  congr 1
  have e1 : k - (l.take k).length = 0 := by simp; omega
  have e2 : l.length - k = (l.length - (k + 1)) + 1 := by omega
  rw [e1, e2, List.replicate_succ]
  simp

/-- Zeros, and behind them the last k of l. -/
def partlyR (l : List UInt8) (k : Nat) : List UInt8 := List.replicate (l.length - k) 0 ++ l.drop (l.length - k)
theorem partlyR_zero (l : List UInt8) : partlyR l 0 = List.replicate l.length 0 := by simp [partlyR]
theorem partlyR_all (l : List UInt8) : partlyR l l.length = l := by simp [partlyR]
theorem partlyR_step (l : List UInt8) (k : Nat) (h : k < l.length) : (partlyR l k).set (l.length - 1 - k) (l[l.length - 1 - k]'(by omega)) = partlyR l (k + 1) := by
  unfold partlyR
  have e : l.length - k = (l.length - (k + 1)) + 1 := by omega
  rw [e, List.replicate_succ', List.append_assoc, List.set_append_right _ _ (by simp; omega)]
  congr 1
  have e1 : l.length - 1 - k - (List.replicate (l.length - (k + 1)) (0 : UInt8)).length = 0 := by simp; omega
  rw [e1]
  have e2 : l.length - (k + 1) = l.length - 1 - k := by omega
  rw [List.drop_eq_getElem_cons (i := l.length - (k + 1)) (by omega)]
  simp [e2]
end Go.Proofs.Ytpgjcmccfpjmoaa
end
section
namespace Go.Proofs.Ytpgjcmccfpjmoaa

/-- A word turned right by n (1 to 31). -/
def rotr (x : UInt32) (n : Nat) : UInt32 := UInt32.ofNat (x.toNat * 2 ^ (32 - n) % 4294967296 ||| x.toNat / 2 ^ n)
/-- A word moved right by n. -/
def movr (x : UInt32) (n : Nat) : UInt32 := UInt32.ofNat (x.toNat / 2 ^ n)

theorem or_lt32 {a b : Nat} (ha : a < 4294967296) (hb : b < 4294967296) : a ||| b < 4294967296 := Nat.or_lt_two_pow (n := 32) ha hb
theorem div_lt32 (x : UInt32) (n : Nat) : x.toNat / 2 ^ n < 4294967296 := Nat.lt_of_le_of_lt (Nat.div_le_self _ _) x.toNat_lt
theorem rotr_toNat (x : UInt32) (n : Nat) : (rotr x n).toNat = (x.toNat * 2 ^ (32 - n) % 4294967296 ||| x.toNat / 2 ^ n) := by
  unfold rotr
  rw [UInt32.toNat_ofNat_of_lt']
  exact or_lt32 (Nat.mod_lt _ (by omega)) (div_lt32 x n)
theorem movr_toNat (x : UInt32) (n : Nat) : (movr x n).toNat = x.toNat / 2 ^ n := by
  unfold movr
  rw [UInt32.toNat_ofNat_of_lt']
  exact div_lt32 x n

theorem add32 (a b : UInt32) : IntKind.u32.wrap ((a.toNat : Int) + (b.toNat : Int)) = ((a + b).toNat : Int) := by
  rw [IntKind.wrap_u32, UInt32.toNat_add]
  omega
theorem xor32 (a b : UInt32) : bits .xor .u32 (a.toNat : Int) (b.toNat : Int) = ((a ^^^ b).toNat : Int) := by
  rw [u32_xor_nat _ _ a.toNat_lt b.toNat_lt, UInt32.toNat_xor]
theorem and32 (a b : UInt32) : bits .and .u32 (a.toNat : Int) (b.toNat : Int) = ((a &&& b).toNat : Int) := by
  rw [u32_and_nat _ _ a.toNat_lt b.toNat_lt, UInt32.toNat_and]
theorem or32 (a b : UInt32) : bits .or .u32 (a.toNat : Int) (b.toNat : Int) = ((a ||| b).toNat : Int) := by
  rw [u32_or_nat _ _ a.toNat_lt b.toNat_lt, UInt32.toNat_or]

/-- A word turned left by n (1 to 31). -/
def rotl (x : UInt32) (n : Nat) : UInt32 := UInt32.ofNat (x.toNat * 2 ^ n % 4294967296 ||| x.toNat / 2 ^ (32 - n))
theorem rotl_toNat (x : UInt32) (n : Nat) : (rotl x n).toNat = (x.toNat * 2 ^ n % 4294967296 ||| x.toNat / 2 ^ (32 - n)) := by
  unfold rotl
  rw [UInt32.toNat_ofNat_of_lt']
  exact or_lt32 (Nat.mod_lt _ (by omega)) (div_lt32 x (32 - n))

/-- Words, the lowest byte of each first. -/
def wordLow (l : List UInt8) (i : Nat) : UInt32 := UInt32.ofNat (ofLowB ((l.drop (4 * i)).take 4))
def bytesLow (l : List UInt32) : List UInt8 := l.flatMap fun x => lowB x.toNat 4
theorem bytesLow_length (l : List UInt32) : (bytesLow l).length = 4 * l.length := by
  induction l with
  | nil => rfl
  | cons x l ih => simp only [bytesLow, List.flatMap_cons, List.length_append, lowB_length, List.length_cons] at *; omega
end Go.Proofs.Ytpgjcmccfpjmoaa
end
section
namespace Go.Proofs.Ytpgjcmccfpjmoaa
open Go.RowKit
set_option linter.unusedVariables false

theorem fits_yes (w : World) (n : Int) (h1 : 1 ≤ n) (h2 : n ≤ 8) :
    Calls Try.prog 62 #[.int .i64 n] w fun e w' => e = .returned (.bool true) ∧ w = w' := by
  go_enter Try.func62, Try.ntmps62
  go_wp2
  go_ret
  exact ⟨rfl, rfl⟩

theorem fits_no (w : World) (n : Int) (h : n < 1 ∨ 8 < n) :
    Calls Try.prog 62 #[.int .i64 n] w fun e w' => e = .returned (.bool false) ∧ w = w' := by
  rcases h with h | h
  · have h1 : decide ((1 : Int) ≤ n) = false := by simp; omega
    go_enter Try.func62, Try.ntmps62
    go_wp2
    go_ret
    exact ⟨rfl, rfl⟩
  · have h0 : (1 : Int) ≤ n := by omega
    have h1 : decide (n ≤ (8 : Int)) = false := by simp; omega
    go_enter Try.func62, Try.ntmps62
    go_wp2
    go_ret
    exact ⟨rfl, rfl⟩

theorem byteN_int (n i : Nat) : (n : Int) / 2 ^ (8 * i) % 256 = ((byteN n i).toNat : Int) := by
  have h : (2 : Int) ^ (8 * i) = ((256 ^ i : Nat) : Int) := by
    rw [show (256 : Nat) = 2 ^ 8 from rfl, ← Nat.pow_mul]
    simp
  rw [byteN_toNat, h]
  omega

theorem byteAt_any (w : World) (n i : Nat) (hn : n < 18446744073709551616) (hi : i ≤ 7) :
    Calls Try.prog 63 #[.int .u64 (n : Int), .int .i64 (i : Int)] w fun e w' => e = .returned (.int .u8 ((byteN n i).toNat : Int)) ∧ w = w' := by
  go_enter Try.func63, Try.ntmps63
  go_wp2
  go_ret
  exact ⟨ret_int (byteN_int n i), rfl⟩

theorem at_in (w : World) (va : Value) (a : List UInt8) (ha : Bs w va a) (i : Nat) (hi : i < a.length) :
    Calls Try.prog 46 #[va, .int .i64 (i : Int)] w fun e w' => e = .returned (.int .u8 (a[i].toNat : Int)) ∧ w = w' := by
  obtain ⟨A, ca, rfl, ha1, ha2, ha3⟩ := ha
  unfold maxLen at ha2
  obtain ⟨b0, o0, rfl, hca⟩ := ha3 (by omega)
  have h0 := hca i hi
  clear hca ha3
  go_enter Try.func46, Try.ntmps46
  go_wp2
  go_ret
  exact ⟨rfl, rfl⟩

theorem at_out (w : World) (va : Value) (a : List UInt8) (ha : Bs w va a) (i : Nat) (hi : a.length ≤ i) (hm : i ≤ maxLen) :
    Calls Try.prog 46 #[va, .int .i64 (i : Int)] w fun e w' => e = .returned (.int .u8 0) ∧ w = w' := by
  obtain ⟨A, ca, rfl, ha1, ha2, ha3⟩ := ha
  unfold maxLen at ha2 hm
  clear ha3
  go_enter Try.func46, Try.ntmps46
  go_wp2
  go_ret
  exact ⟨rfl, rfl⟩

theorem Try.infoB : (Try.prog.info? 5).map (fun i => (i.zero, i.size, i.bytes)) = some (some (.int .u8 0), 1, 1) := by kernel_rfl

set_option maxHeartbeats 400000 in
theorem Low_in (w : World) (n s : Nat) (hn : n < 18446744073709551616) (hs1 : 1 ≤ s) (hs2 : s ≤ 8) :
    Calls Try.prog 45 #[.int .u64 (n : Int), .int .i64 (s : Int)] w (RetBs w (lowB n s)) := by
  obtain ⟨i0, hi, hz0, hz1, hz2⟩ := info_parts Try.infoB
  have hlen := lowB_length n s
  have HL := Lib.hid hlen
  clear hlen
  go_enter Try.func45, Try.ntmps45
  go_wp2_with (first
    | (go_at_call 62; refine (fits_yes _ _ (by omega) (by omega)).mono ?_; rintro e w' ⟨rfl, rfl⟩)
    | (refine wpList_make_full _ rfl (.tmp 10) (.tmp 10) 41 rfl w.heap.size 5 i0 (.int .u8 0) 1 Try.underlying41 hi hz0 hz1 .i64 .i64 _ _ s rfl rfl rfl rfl (by rw [hz2]; omega) (by unfold maxLen; omega) (Nat.le_refl _) ?_; intro w1 hown hgrow))
  rw [made_zeros] at hown
  have hown0 : w1.ownsRow w.heap.size 5 1 (.slice (some ⟨w.heap.size, 0, none⟩) s s) s (cellsB (partly (lowB n s) 0)) := by
    rw [partly_zero, HL.out]; exact hown
  have hbel : Below w.heap.size w w1 := (Below.refl _ _).grown hgrow (Nat.le_refl _) (fun k h => by cases h)
  clear hown hgrow
  go_loopw [13] (fun i wr => ∃ k : Nat, k ≤ s ∧ i = .int .i64 k ∧ wr.ownsRow w.heap.size 5 1 (.slice (some ⟨w.heap.size, 0, none⟩) s s) s (cellsB (partly (lowB n s) k)) ∧ Below w.heap.size w wr) (fun i _ => s - (intOf i).toNat)
  case atStart => exact ⟨0, Nat.zero_le _, rfl, hown0, hbel⟩
  case round =>
    obtain ⟨k, hk, rfl, hown, hb⟩ := hrel
    clear hown0 hbel
    by_cases hlt : k < s
    · obtain ⟨old, hcell⟩ := own_some hown k hlt
      have hfz := hown.frozenAt k
      have hput := own_put hown k (byteN n k)
      have hget : (lowB n s)[k]'(by rw [HL.out]; omega) = byteN n k := by simp [lowB]
      rw [← hget, partly_step _ _ (by rw [HL.out]; omega), hget] at hput
      have HP := Lib.hid hput
      have HG := Lib.hid hown
      have HB := Lib.hid hb
      clear hput hown hget hb
      go_wp2_with (go_at_call 63; refine (byteAt_any _ n k hn (by omega)).mono ?_; rintro e w' ⟨rfl, rfl⟩)
      go_roundw
      case rel => exact ⟨k + 1, by omega, by go_num, HP.out, HB.out.setCell (by simp) _⟩
      case measure => simp [intOf]; omega
    · have hks : k = s := by omega
      subst hks
      have hown2 : wr.ownsRow w.heap.size 5 1 (.slice (some ⟨w.heap.size, 0, none⟩) k k) k (cellsB (lowB n k)) := by
        have := partly_all (lowB n k); rw [HL.out] at this; rwa [this] at hown
      have HO := Lib.hid hown2
      have HB := Lib.hid hb
      clear hown2 hown hb
      go_wp2
      go_ret
      exact ⟨_, rfl, Bs.of_own HO.out, HB.out⟩
end Go.Proofs.Ytpgjcmccfpjmoaa
end
