/-
  Contract of the field's Mul. Conditions: both numbers are below p.
-/
import Derived.Test.YtpgjcmccfpjmoaaFieldE
namespace Go.Proofs.Ytpgjcmccfpjmoaa
open Go.RowKit
set_option linter.unusedVariables false
set_option maxRecDepth 20000

/-- The sums behind the first t products: i is t / 5, j is t % 5. -/
def mulStep (x y l : List Nat) (i j : Nat) : List Nat := l.set ((i + j) % 5) (l.getD ((i + j) % 5) 0 + x.getD i 0 * (if i + j < 5 then y.getD j 0 else 19 * y.getD j 0))
def mulS (x y : List Nat) : Nat → List Nat
  | 0 => [0, 0, 0, 0, 0]
  | t + 1 => mulStep x y (mulS x y t) (t / 5) (t % 5)
theorem mulS_length (x y : List Nat) (t : Nat) : (mulS x y t).length = 5 := by
  induction t with
  | zero => rfl
  | succ t ih => simp [mulS, mulStep, ih]
def bigB : Nat := 2251799813685248 * 42784196460019712
theorem mulS_lt (x y : List Nat) (hx : ∀ k, x.getD k 0 < 2251799813685248) (hy : ∀ k, y.getD k 0 < 2251799813685248) (t : Nat) : ∀ z ∈ mulS x y t, z ≤ t * bigB := by
  induction t with
  | zero => intro z hz; simp [mulS] at hz; omega
  | succ t ih =>
    intro z hz
    unfold mulS mulStep at hz
    have h2 : x.getD (t / 5) 0 * (if t / 5 + t % 5 < 5 then y.getD (t % 5) 0 else 19 * y.getD (t % 5) 0) ≤ bigB := by
      unfold bigB
      refine Nat.mul_le_mul (Nat.le_of_lt (hx _)) ?_
      have := hy (t % 5)
      split <;> omega
    generalize x.getD (t / 5) 0 * (if t / 5 + t % 5 < 5 then y.getD (t % 5) 0 else 19 * y.getD (t % 5) 0) = m at h2 hz
    have hi : (t / 5 + t % 5) % 5 < 5 := by omega
    generalize (t / 5 + t % 5) % 5 = i at hi hz
    rw [Nat.succ_mul]
    rcases List.mem_or_eq_of_mem_set hz with hz | rfl
    · have := ih z hz
      omega
    · have hlt : i < (mulS x y t).length := by rw [mulS_length]; omega
      have h1 := ih ((mulS x y t)[i]) (List.getElem_mem hlt)
      have e : (mulS x y t).getD i 0 = (mulS x y t)[i] := by simp [List.getD_eq_getElem?_getD, hlt]
      rw [e]
      omega

/-- The twenty-five products put together are the product modulo p. -/
theorem mulS_all (a b c d e a' b' c' d' e' : Nat) : mulS [a, b, c, d, e] [a', b', c', d', e'] 25 =
    [a * a' + b * (19 * e') + c * (19 * d') + d * (19 * c') + e * (19 * b'),
     a * b' + b * a' + c * (19 * e') + d * (19 * d') + e * (19 * c'),
     a * c' + b * b' + c * a' + d * (19 * e') + e * (19 * d'),
     a * d' + b * c' + c * b' + d * a' + e * (19 * e'),
     a * e' + b * d' + c * c' + d * b' + e * a'] := by
  simp [mulS, mulStep]
theorem list5 {x : List Nat} (h : x.length = 5) : ∃ a b c d e, x = [a, b, c, d, e] := by
  match x, h with
  | [a, b, c, d, e], _ => exact ⟨a, b, c, d, e, rfl⟩
theorem mul_val (a b c d e a' b' c' d' e' : Nat) : ∃ q, valL [a, b, c, d, e] * valL [a', b', c', d', e'] = valL (mulS [a, b, c, d, e] [a', b', c', d', e'] 25) + pF * q := by
  refine ⟨b * e' + c * d' + d * c' + e * b' + Mx * (c * e' + d * d' + e * c' + Mx * (d * e' + e * d' + Mx * (e * e'))), ?_⟩
  rw [mulS_all]
  simp only [valL, Mx, pF]
  grind

theorem mul_val2 {x y z : List Nat} (hxl : x.length = 5) (hyl : y.length = 5) (hz : z = mulS x y 25) : ∃ q, valL x * valL y = valL z + pF * q := by
  obtain ⟨a, b, c, d, e, hxe⟩ := list5 hxl
  obtain ⟨a', b', c', d', e', hye⟩ := list5 hyl
  rw [hz, hxe, hye]
  exact mul_val a b c d e a' b' c' d' e'
theorem mulS_get (x y : List Nat) (hx : ∀ k, x.getD k 0 < 2251799813685248) (hy : ∀ k, y.getD k 0 < 2251799813685248) (t : Nat) (ht : t ≤ 25) (k : Nat) : (mulS x y t).getD k 0 < 2535301200456458802993406410752000 := by
  refine getD_lt (fun z hz => ?_) (by omega) k
  have h := mulS_lt x y hx hy t z hz
  have h2 : t * bigB ≤ 25 * bigB := Nat.mul_le_mul_right _ ht
  unfold bigB at h h2
  omega

theorem carriedL_below {z : List Nat} (hz : z.length = 5) (h5 : cyC z 5 < 288230376151711744) : ∀ v ∈ carriedL z, v < 9223372036854775808 := by
  have e : cyC z 5 = valL z / Mx ^ 5 := by unfold cyC; rw [List.take_of_length_le (by omega)]
  rw [e] at h5
  intro v hv
  have h2 := Nat.mod_lt (valL z) Mx_pos
  have hM : Mx = 2251799813685248 := rfl
  rcases List.mem_or_eq_of_mem_set hv with hv | rfl
  · have := digL_lt 5 _ v hv
    omega
  · omega
theorem mulS_top {x y z : List Nat} (hxl : x.length = 5) (hyl : y.length = 5) (hx : ∀ k, x.getD k 0 < 2251799813685248) (hy : ∀ k, y.getD k 0 < 2251799813685248) (hz : z = mulS x y 25) : cyC z 5 < 288230376151711744 := by
  have hzl : z.length = 5 := by rw [hz, mulS_length]
  have hB : ∀ v ∈ z, v < 2535301200456458802993406410752000 := getD_of_mem hzl fun k _ => by rw [hz]; exact mulS_get x y hx hy 25 (by omega) k
  have h4 := cyC_lt z _ hB (by omega) 4 (by omega)
  have hs : cyC z 5 = (z.getD 4 0 + cyC z 4) / Mx := cyC_succ z 4 (by omega)
  have hg : z.getD 4 0 ≤ 25353012004564588029934064107520 := by
    rw [hz]
    obtain ⟨a, b, c, d, e, hxe⟩ := list5 hxl
    obtain ⟨a', b', c', d', e', hye⟩ := list5 hyl
    rw [hxe] at hx
    rw [hye] at hy
    rw [hxe, hye, mulS_all]
    · have m : ∀ u v : Nat, u < 2251799813685248 → v < 2251799813685248 → u * v ≤ 5070602400912917605986812821504 := fun u v hu hv => Nat.mul_le_mul (Nat.le_of_lt hu) (Nat.le_of_lt hv)
      have h1 := m a e' (hx 0) (hy 4)
      have h2 := m b d' (hx 1) (hy 3)
      have h3 := m c c' (hx 2) (hy 2)
      have h4 := m d b' (hx 3) (hy 1)
      have h5 := m e a' (hx 4) (hy 0)
      simp only [List.getD_cons_zero, List.getD_cons_succ]
      omega
  unfold Mx at h4 hs
  omega

theorem mulS_step (x y : List Nat) (i j : Nat) (hj : j < 5) : mulS x y (5 * i + (j + 1)) = (mulS x y (5 * i + j)).set ((i + j) % 5) ((mulS x y (5 * i + j)).getD ((i + j) % 5) 0 + x.getD i 0 * (if i + j < 5 then y.getD j 0 else 19 * y.getD j 0)) := by
  have e1 : (5 * i + j) / 5 = i := by omega
  have e2 : (5 * i + j) % 5 = j := by omega
  show mulStep x y (mulS x y (5 * i + j)) ((5 * i + j) / 5) ((5 * i + j) % 5) = _
  rw [e1, e2]
  rfl

set_option maxHeartbeats 4000000 in
theorem Mul_any (a b : Nat) (ha : a < pF) (hb : b < pF) (w : World) :
    Calls Try.prog 42 #[.agg (natsC (elemL a)), .agg (natsC (elemL b))] w (RetV w (.agg (natsC (elemL (a * b % pF))))) := by
  obtain ⟨x, hx⟩ : ∃ x, x = elemL a := ⟨_, rfl⟩
  obtain ⟨y, hy⟩ : ∃ y, y = elemL b := ⟨_, rfl⟩
  have hxl : x.length = 5 := by rw [hx, elemL_length]
  have hyl : y.length = 5 := by rw [hy, elemL_length]
  have hxb : ∀ k, x.getD k 0 < 2251799813685248 := fun k => getD_lt (by rw [hx]; exact elemL_lt a) Mx_pos k
  have hyb : ∀ k, y.getD k 0 < 2251799813685248 := fun k => getD_lt (by rw [hy]; exact elemL_lt b) Mx_pos k
  obtain ⟨z, hz⟩ : ∃ z, z = mulS x y 25 := ⟨_, rfl⟩
  have hzl : z.length = 5 := by rw [hz, mulS_length]
  have hzb : ∀ v ∈ z, v < 5192296858534827628530496329220096 := getD_of_mem hzl fun k _ => by have := mulS_get x y hxb hyb 25 (by omega) k; rw [← hz] at this; omega
  have hz5 : cyC z 5 < 288230376151711744 := mulS_top hxl hyl hxb hyb hz
  have hval : valL z % pF = a * b % pF := by
    have e : valL x * valL y % pF = valL z % pF := by
      obtain ⟨q, hq⟩ := mul_val2 hxl hyl hz
      rw [hq, Nat.add_mul_mod_self_left]
    rw [← e, hx, hy, elemL_val a ha, elemL_val b hb]
  have N := Lib.hid (fun w => narrowed_any z hzl hzb hz5 w)
  have R := Lib.hid (fun w => reduced_any w (carriedL z) (carriedL_length z) (carriedL_below hzl hz5))
  rw [carriedL_val, foldN_mod, hval] at R
  rw [← hx, ← hy]
  have HXL := Lib.hid hxl
  have HYL := Lib.hid hyl
  have HXB := Lib.hid hxb
  have HYB := Lib.hid hyb
  have HZ := Lib.hid hz
  have HWL : Hid (∀ t, (widesL (mulS x y t)).length = 10) := fun t => by rw [widesL_length, mulS_length]
  have PL : Hid (∀ n a b : Nat, a < 2251799813685248 → b < 42784196460019712 → n < 2535301200456458802993406410752000 → ∀ w, Calls Try.prog 57 #[.agg (natsC (wideL n)), .int .u64 (a : Int), .int .u64 (b : Int)] w (RetV w (.agg (natsC (wideL (n + a * b)))))) := fun n a b ha hb hn w => plus_any n a b (by omega) (by omega) (by
    have h : a * b ≤ 2251799813685248 * 42784196460019712 := Nat.mul_le_mul (Nat.le_of_lt ha) (Nat.le_of_lt hb)
    omega) w
  clear hx hy hz hxl hyl hzl hxb hyb hzb hz5 hval
  have E0 := Env.start w
  go_enter Try.func42, Try.ntmps42
  go_wp2_with (first
    | ((with_reducible refine wpE_box (o := ⟨some 2, _, _, _, _, _⟩) rfl 45 (.tmp 0) rfl (natsC x) (by with_unfolding_all rfl) E0 ?_); intro g1 w1 E1)
    | ((with_reducible refine wpE_box (o := ⟨some 3, _, _, _, _, _⟩) rfl 45 (.tmp 1) rfl (natsC y) (by with_unfolding_all rfl) E1 ?_); intro g2 w2 E2)
    | ((with_reducible refine wpE_alloc (o := ⟨some 4, _, _, _, _, _⟩) rfl 45 rfl (natsC zero5) Try.zero5e E2 ?_); intro g3 w3 E3)
    | ((with_reducible refine wpE_alloc (o := ⟨some 5, _, _, _, _, _⟩) rfl 97 rfl (natsC zero10) Try.zero10 E3 ?_); intro g4 w4 E4)
    | (with_reducible refine wpE_load (o := ⟨some 11, _, _, _, _, _⟩) rfl 43 (.tmp 10) rfl 3 g1 45 (natsC x) (.array 5 39) (by with_unfolding_all rfl) (by with_unfolding_all rfl) Try.underlying43 rfl (sizeN Try.sz5p _ HXL.out) E4 ?_))
  have E5 := Lib.hid E4
  clear E0 E1 E2 E3 E4
  go_loopw [12] (fun i wr => ∃ k : Nat, k ≤ 5 ∧ i = .int .i64 k ∧ Env w [(g4, 97, natsC (widesL (mulS x y (5 * k)))), (g3, 45, natsC zero5), (g2, 45, natsC y), (g1, 45, natsC x)] wr) (fun i _ => 5 - (intOf i).toNat)
  case atStart => exact ⟨0, by omega, rfl, E5.out⟩
  case round =>
    clear E5
    obtain ⟨i, hi, rfl, hE⟩ := hrel
    have E := Lib.hid hE
    clear hE
    by_cases hlt : i < 5
    · have hix := fun W => run_indexN (P := Try.prog) W 43 39 5 x i Try.underlying43 Try.underlying39 Try.szU64 HXL.out hlt
      have hxi := HXB.out i
      obtain ⟨xi, hxi2⟩ : ∃ v, v = x.getD i 0 := ⟨_, rfl⟩
      rw [← hxi2] at hix hxi
      have HXI := Lib.hid hxi2
      clear hxi2
      have hi5 : (i : Int) < 5 := by omega
      go_wp2_with (with_reducible refine wpE_load (o := ⟨some 17, _, _, _, _, _⟩) rfl 43 (.tmp 16) rfl 2 g2 45 (natsC y) (.array 5 39) (by with_unfolding_all rfl) (by with_unfolding_all rfl) Try.underlying43 rfl (sizeN Try.sz5p _ HYL.out) E.out ?_)
      go_loopw [18] (fun v wr => ∃ k : Nat, k ≤ 5 ∧ v = .int .i64 k ∧ Env w [(g4, 97, natsC (widesL (mulS x y (5 * i + k)))), (g3, 45, natsC zero5), (g2, 45, natsC y), (g1, 45, natsC x)] wr) (fun v _ => 5 - (intOf v).toNat)
      case atStart => exact ⟨0, by omega, rfl, E.out⟩
      case round =>
        clear E hix
        rename_i wr0 _ _ _
        obtain ⟨j, hj, rfl, hE⟩ := hrel
        have E := Lib.hid hE
        clear hE
        by_cases hltj : j < 5
        · have hiy := fun W => run_indexN (P := Try.prog) W 43 39 5 y j Try.underlying43 Try.underlying39 Try.szU64 HYL.out hltj
          have hyj := HYB.out j
          have hstep := mulS_step x y i j hltj
          rw [← HXI.out] at hstep
          generalize y.getD j 0 = yj at hiy hyj hstep
          have hnb := mulS_get x y HXB.out HYB.out (5 * i + j) (by omega) ((i + j) % 5)
          have hpart := widesL_part (mulS x y (5 * i + j)) ((i + j) % 5) (by rw [mulS_length]; omega)
          have hset := widesL_set (mulS x y (5 * i + j)) ((i + j) % 5) ((mulS x y (5 * i + j)).getD ((i + j) % 5) 0 + xi * (if i + j < 5 then yj else 19 * yj)) (by rw [mulS_length]; omega)
          rw [← hstep] at hset
          have hj5 : (j : Int) < 5 := by omega
          have hwl := HWL.out (5 * i + j)
          have HST := Lib.hid hstep
          generalize (mulS x y (5 * i + j)).getD ((i + j) % 5) 0 = n at hnb hpart hset
          by_cases hs : i + j < 5
          · rw [if_pos hs, Nat.mod_eq_of_lt hs] at hset
            rw [Nat.mod_eq_of_lt hs] at hpart
            have PC := Lib.hid (PL.out n xi yj hxi (by omega) hnb)
            have hw : IntKind.i64.wrap ((i : Int) + (j : Int)) = (i : Int) + (j : Int) := IntWalk.i64_in _ (by omega)
            have hsb : (i : Int) + (j : Int) < 5 := by omega
            obtain ⟨s, hs2⟩ : ∃ s, s = i + j := ⟨_, rfl⟩
            have hsum : (i : Int) + (j : Int) = (s : Int) := by omega
            rw [← hs2] at hset hpart hs
            rw [Nat.mul_comm 2 s] at hset hpart
            have HPART := Lib.hid hpart
            have HSET := Lib.hid hset
            have HW2 := Lib.hid hwl
            have hs5 : (s : Int) < 5 := by omega
            have hsn : s < 5 := by omega
            clear hpart hset hwl hs2 hstep
            go_wp2_with (first
              | (with_reducible refine wpE_loadN (o := ⟨some 33, _, _, _, _, _⟩) rfl 96 (.tmp 32) rfl 0 g4 (s * 2) 97 (widesL (mulS x y (5 * i + j))) (wideL n) _ (by with_unfolding_all rfl) (by with_unfolding_all rfl) (by with_unfolding_all exact HPART.out) Try.underlying96 rfl (by with_unfolding_all exact Try.sz2) E.out ?_)
              | ((with_reducible refine (PC.out _).mono ?_); rintro e w6 ⟨rfl, b6⟩; have E7 := Lib.hid (E.out.call b6); clear b6)
              | ((with_reducible refine wpE_storeN (o := ⟨none, _, _, _, _, _⟩) rfl 96 (.tmp 37) (.tmp 36) rfl 0 g4 (s * 2) 97 (widesL (mulS x y (5 * i + j))) (wideL (n + xi * yj)) (widesL (mulS x y (5 * i + (j + 1)))) (by with_unfolding_all rfl) (by with_unfolding_all rfl) (by with_unfolding_all rfl) (by rw [HW2.out, wideL_length]; omega) (by with_unfolding_all exact HSET.out) (by with_unfolding_all exact Try.sz2) E7.out ?_); intro w9 E9; have HE9 := Lib.hid E9; clear E9 E7))
            go_roundw
            case rel => exact ⟨j + 1, by omega, by go_num, HE9.out⟩
            case measure => simp [intOf]; omega
          · rw [if_neg hs] at hset
            have PC := Lib.hid (PL.out n xi (19 * yj) hxi (by omega) hnb)
            obtain ⟨s, hs2⟩ : ∃ s, s = (i + j) % 5 := ⟨_, rfl⟩
            have hge : ¬ (i : Int) + (j : Int) < 5 := by omega
            have hw : IntKind.i64.wrap ((i : Int) + (j : Int) - 5) = (s : Int) := by rw [IntWalk.i64_in _ (by omega)]; omega
            have hsum : (i : Int) + (j : Int) - 5 = (s : Int) := by omega
            obtain ⟨zj, hzj⟩ : ∃ v, v = 19 * yj := ⟨_, rfl⟩
            have hmul : 19 * (yj : Int) = (zj : Int) := by omega
            have hzl : zj < 18446744073709551616 := by omega
            rw [← hzj] at hset PC
            clear hzj
            rw [← hs2] at hset hpart
            rw [Nat.mul_comm 2 s] at hset hpart
            have HPART := Lib.hid hpart
            have HSET := Lib.hid hset
            have HW2 := Lib.hid hwl
            have hs5 : (s : Int) < 5 := by omega
            have hsn : s < 5 := by omega
            clear hpart hset hwl hs2 hstep
            go_wp2_with (first
              | (with_reducible refine wpE_loadN (o := ⟨some 47, _, _, _, _, _⟩) rfl 96 (.tmp 46) rfl 0 g4 (s * 2) 97 (widesL (mulS x y (5 * i + j))) (wideL n) _ (by with_unfolding_all rfl) (by with_unfolding_all rfl) (by with_unfolding_all exact HPART.out) Try.underlying96 rfl (by with_unfolding_all exact Try.sz2) E.out ?_)
              | ((with_reducible refine (PC.out _).mono ?_); rintro e w6 ⟨rfl, b6⟩; have E7 := Lib.hid (E.out.call b6); clear b6)
              | ((with_reducible refine wpE_storeN (o := ⟨none, _, _, _, _, _⟩) rfl 96 (.tmp 52) (.tmp 51) rfl 0 g4 (s * 2) 97 (widesL (mulS x y (5 * i + j))) (wideL (n + xi * zj)) (widesL (mulS x y (5 * i + (j + 1)))) (by with_unfolding_all rfl) (by with_unfolding_all rfl) (by with_unfolding_all rfl) (by rw [HW2.out, wideL_length]; omega) (by with_unfolding_all exact HSET.out) (by with_unfolding_all exact Try.sz2) E7.out ?_); intro w9 E9; have HE9 := Lib.hid E9; clear E9 E7))
            go_roundw
            case rel => exact ⟨j + 1, by omega, by go_num, HE9.out⟩
            case measure => simp [intOf]; omega
        · have hj5 : j = 5 := by omega
          have E5 := E.out
          rw [hj5, show 5 * i + 5 = 5 * (i + 1) by omega] at E5
          have E6 := Lib.hid E5
          clear E5 E hj5
          go_wp2
          go_roundw
          case rel => exact ⟨i + 1, by omega, by go_num, E6.out⟩
          case measure => simp [intOf]; omega
    · have hi5 : i = 5 := by omega
      have E5 := E.out
      rw [hi5, show 5 * 5 = 25 from rfl, ← HZ.out] at E5
      have E6 := Lib.hid E5
      have HWZ : Hid ((widesL z).length = 10) := by show _ = _; rw [HZ.out]; exact HWL.out 25
      clear E5 E hi5
      go_wp2_with (first
        | (with_reducible refine wpE_load (o := ⟨some 55, _, _, _, _, _⟩) rfl 97 (.tmp 5) rfl 0 g4 97 (natsC (widesL z)) _ (by with_unfolding_all rfl) (by with_unfolding_all rfl) Try.underlying97 rfl (sizeN Try.sz10 _ HWZ.out) E6.out ?_)
        | ((with_reducible refine (N.out _).mono ?_); rintro e w6 ⟨rfl, b6⟩; have E7 := E6.out.call b6)
        | ((with_reducible refine (R.out _).mono ?_); rintro e w7 ⟨rfl, b7⟩; have E8 := E7.call b7)
        | ((with_reducible refine wpE_store (o := ⟨none, _, _, _, _, _⟩) rfl 45 (.tmp 4) (.tmp 57) rfl 1 g3 45 (natsC zero5) (natsC (elemL (a * b % pF))) (by with_unfolding_all rfl) (by with_unfolding_all rfl) (by with_unfolding_all rfl) (natsC_same zero5_length (elemL_length _)) (sizeN Try.sz5e _ (elemL_length _)) (natsC_one _) E8 ?_); intro w9 E9))
      exact bodyPost_ret (results_cell_row rfl _ _ g3 45 (natsC (elemL (a * b % pF))) (0, 0) _ rfl (E9.row 1 rfl) Try.underlying45 rfl (sizeN Try.sz5e _ (elemL_length _))) rfl (E9.ret _)
end Go.Proofs.Ytpgjcmccfpjmoaa
