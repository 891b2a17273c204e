/-
  OtsParts: for every input the call returns true, and each argument reads as it read before. Conditions: none beyond the given statement's own (the package-level tables that its row lists hold what the program's text lays: the card ties that).
-/
import Derived.Test.YtfnmglicfgkmjaaDoorQOtsAM
import Derived.Test.YtfnmglicfgkmjaaDoorQOtsAB
import Derived.ProofKit
import Derived.OpenShut
import Derived.ShutString
import Derived.ChangeOld
import Derived.Deep.DeepHandedRow
section
namespace Go.Proofs.YtfnmglicfgkmjaaDoor
open Go.RowKit
set_option linter.unusedVariables false
set_option maxRecDepth 20000

theorem count_env (w0 w : World) (rs : List (Nat × TypeId × Array Value)) (m g n : Nat) (hE : Env w0 rs w) (hm : rs[m]? = some (g, 66, mC n)) :
    Calls Tryd.prog 22 #[.pointer (some ⟨g, 0, none⟩)] w fun e w' => e = .returned (.int .i64 (n : Int)) ∧ Env w0 rs w' := by
  have hl := run_call_load (P := Tryd.prog) Tryd.func44 (by kernel_rfl) (by kernel_rfl) (by kernel_rfl) .i64 (by kernel_rfl) (hE.cellV m hm 1 _ rfl)
  have E0 := Lib.hid hE
  clear hE
  go_enter Tryd.func22, Tryd.ntmps22
  go_wp2
  go_ret
  exact ⟨rfl, E0.out⟩

theorem share1 {P : Program} {md : Region.Mode} {ops : Array Oper} {Q : Exit → Act → World → Prop} {fin : Nat → Bool} {SS : World → Prop} {w : World} {m m' : Nat} {listed L' : Array Bool} {a : Act} {A : Nat → Act} (Φ : Nat → World → Prop)
    (hgo : ∀ g x, Φ g x → walkS P md ops Q SS fin m' L' (A g) x) (h : (∀ g x, Φ g x → walkS P md ops Q SS fin m' L' (A g) x) → walkS P md ops Q SS fin m listed a w) : walkS P md ops Q SS fin m listed a w := h hgo

set_option maxHeartbeats 8000000 in
theorem otsParts_walk (w : World) (hq : Tabs w) (tag : List UInt8) (ht : tag.length = 32) (c : Int) (hc : -9223372036854775808 ≤ c ∧ c ≤ 9223372036854775807) (i : Int) (hi : -9223372036854775808 ≤ i ∧ i ≤ 9223372036854775807)
    (j : Int) (hj : -9223372036854775808 ≤ j ∧ j ≤ 9223372036854775807) (n : Int) (hn : -9223372036854775808 ≤ n ∧ n ≤ 9223372036854775807) (v : List UInt8) (hv : v.length = 32) :
    Calls Tryd.prog 7 #[keyV tag, .int .i64 c, .int .i64 i, .int .i64 j, .int .i64 n, keyV v] w (RetV w (.bool true)) := by
  have HQ := Lib.hid hq
  have LT := Lib.hid ht
  have LV := Lib.hid hv
  have E0 := Lib.hid (Env.start w)
  clear hq ht hv
  by_cases h1 : i < 0
  · have d1 : decide (i < 0) = true := by simp [h1]
    go_enter Tryd.func7, Tryd.ntmps7
    go_wp2_with (first
      | ((with_reducible refine wpE_box (o := ⟨some 6, _, _, _, _, _⟩) rfl 23 (.tmp 0) rfl (keyC tag) (by with_unfolding_all rfl) E0.out ?_); intro g1 w1 T1; have E1 := Lib.hid T1; clear T1)
      | ((with_reducible refine wpE_box (o := ⟨some 11, _, _, _, _, _⟩) rfl 23 (.tmp 5) rfl (keyC v) (by with_unfolding_all rfl) E1.out ?_); intro g2 w2 T2; have E2 := Lib.hid T2; clear T2))
    refine (otsAwake_any _ (HQ.out.below E2.out.below)).mono ?_
    rintro e w3 ⟨rfl, b3⟩
    have E3 := Lib.hid (E2.out.call b3)
    clear b3 E2 E1
    go_wp2_with fail
    go_ret
    exact E3.out.ret _
  by_cases h2 : j < i
  · have d1 : decide (i < 0) = false := by simp; omega
    have d2 : decide (j < i) = true := by simp [h2]
    go_enter Tryd.func7, Tryd.ntmps7
    go_wp2_with (first
      | ((with_reducible refine wpE_box (o := ⟨some 6, _, _, _, _, _⟩) rfl 23 (.tmp 0) rfl (keyC tag) (by with_unfolding_all rfl) E0.out ?_); intro g1 w1 T1; have E1 := Lib.hid T1; clear T1)
      | ((with_reducible refine wpE_box (o := ⟨some 11, _, _, _, _, _⟩) rfl 23 (.tmp 5) rfl (keyC v) (by with_unfolding_all rfl) E1.out ?_); intro g2 w2 T2; have E2 := Lib.hid T2; clear T2))
    refine (otsAwake_any _ (HQ.out.below E2.out.below)).mono ?_
    rintro e w3 ⟨rfl, b3⟩
    have E3 := Lib.hid (E2.out.call b3)
    clear b3 E2 E1
    go_wp2_with fail
    go_ret
    exact E3.out.ret _
  by_cases h3 : n < j
  · have d1 : decide (i < 0) = false := by simp; omega
    have d2 : decide (j < i) = false := by simp; omega
    have d3 : decide (n < j) = true := by simp [h3]
    go_enter Tryd.func7, Tryd.ntmps7
    go_wp2_with (first
      | ((with_reducible refine wpE_box (o := ⟨some 6, _, _, _, _, _⟩) rfl 23 (.tmp 0) rfl (keyC tag) (by with_unfolding_all rfl) E0.out ?_); intro g1 w1 T1; have E1 := Lib.hid T1; clear T1)
      | ((with_reducible refine wpE_box (o := ⟨some 11, _, _, _, _, _⟩) rfl 23 (.tmp 5) rfl (keyC v) (by with_unfolding_all rfl) E1.out ?_); intro g2 w2 T2; have E2 := Lib.hid T2; clear T2))
    refine (otsAwake_any _ (HQ.out.below E2.out.below)).mono ?_
    rintro e w3 ⟨rfl, b3⟩
    have E3 := Lib.hid (E2.out.call b3)
    clear b3 E2 E1
    go_wp2_with fail
    go_ret
    exact E3.out.ret _
  by_cases h4 : 40 < n
  · have d1 : decide (i < 0) = false := by simp; omega
    have d2 : decide (j < i) = false := by simp; omega
    have d3 : decide (n < j) = false := by simp; omega
    have d4 : decide (40 < n) = true := by simp [h4]
    go_enter Tryd.func7, Tryd.ntmps7
    go_wp2_with (first
      | ((with_reducible refine wpE_box (o := ⟨some 6, _, _, _, _, _⟩) rfl 23 (.tmp 0) rfl (keyC tag) (by with_unfolding_all rfl) E0.out ?_); intro g1 w1 T1; have E1 := Lib.hid T1; clear T1)
      | ((with_reducible refine wpE_box (o := ⟨some 11, _, _, _, _, _⟩) rfl 23 (.tmp 5) rfl (keyC v) (by with_unfolding_all rfl) E1.out ?_); intro g2 w2 T2; have E2 := Lib.hid T2; clear T2))
    refine (otsAwake_any _ (HQ.out.below E2.out.below)).mono ?_
    rintro e w3 ⟨rfl, b3⟩
    have E3 := Lib.hid (E2.out.call b3)
    clear b3 E2 E1
    go_wp2_with fail
    go_ret
    exact E3.out.ret _
  obtain ⟨k, hk⟩ : ∃ k, k = (n - i).toNat := ⟨_, rfl⟩
  obtain ⟨k1, hk1⟩ : ∃ k, k = (j - i).toNat := ⟨_, rfl⟩
  obtain ⟨k2, hk2⟩ : ∃ k, k = (n - j).toNat := ⟨_, rfl⟩
  have hkk : k = k1 + k2 := by omega
  have hk40 : k ≤ 40 := by omega
  obtain ⟨a, ha⟩ : ∃ a, a = alongB tag c i v k := ⟨_, rfl⟩
  obtain ⟨x, hx⟩ : ∃ x, x = alongB tag c i v k1 := ⟨_, rfl⟩
  have LA : Hid (a.length = 32) := by show _ = _; rw [ha]; exact alongB_length _ _ _ _ LV.out _
  have LX : Hid (x.length = 32) := by show _ = _; rw [hx]; exact alongB_length _ _ _ _ LV.out _
  have hax : alongB tag c j x k2 = a := by
    rw [ha, hx, hkk, alongB_add]
    rw [show i + (k1 : Int) = j by omega]
  have C1 : Hid (∀ W rs' m' g n', n' ≤ 1000 → Env w rs' W → rs'[m']? = some (g, 66, mC n') → Calls Tryd.prog 12 #[.pointer (some ⟨g, 0, none⟩), .agg (keyC tag), .int .i64 c, .int .i64 i, .int .i64 n, .agg (keyC v)] W fun e w' => e = .returned (.agg (keyC a)) ∧ Env w (rs'.set m' (g, 66, mC (n' + k))) w') := fun W rs' m' g n' h1 h2 h3 => by
    rw [ha]
    exact along_env w W HQ.out rs' m' g n' h2 h3 tag v LT.out LV.out c i n hc hi hn k hk (by omega) (by omega)
  have C2 : Hid (∀ W rs' m' g n', n' ≤ 1000 → Env w rs' W → rs'[m']? = some (g, 66, mC n') → Calls Tryd.prog 12 #[.pointer (some ⟨g, 0, none⟩), .agg (keyC tag), .int .i64 c, .int .i64 i, .int .i64 j, .agg (keyC v)] W fun e w' => e = .returned (.agg (keyC x)) ∧ Env w (rs'.set m' (g, 66, mC (n' + k1))) w') := fun W rs' m' g n' h1 h2 h3 => by
    rw [hx]
    exact along_env w W HQ.out rs' m' g n' h2 h3 tag v LT.out LV.out c i j hc hi hj k1 hk1 (by omega) (by omega)
  have C3 : Hid (∀ W rs' m' g n', n' ≤ 1000 → Env w rs' W → rs'[m']? = some (g, 66, mC n') → Calls Tryd.prog 12 #[.pointer (some ⟨g, 0, none⟩), .agg (keyC tag), .int .i64 c, .int .i64 j, .int .i64 n, .agg (keyC x)] W fun e w' => e = .returned (.agg (keyC a)) ∧ Env w (rs'.set m' (g, 66, mC (n' + k2))) w') := fun W rs' m' g n' h1 h2 h3 => by
    rw [← hax]
    exact along_env w W HQ.out rs' m' g n' h2 h3 tag x LT.out LX.out c j n hc hj hn k2 hk2 (by omega) (by omega)
  have C4 : Hid (∀ W rs' m' g n', n' ≤ 1000 → Env w rs' W → rs'[m']? = some (g, 66, mC n') → Calls Tryd.prog 12 #[.pointer (some ⟨g, 0, none⟩), .agg (keyC tag), .int .i64 c, .int .i64 n, .int .i64 i, .agg (keyC v)] W fun e w' => e = .returned (.agg (keyC v)) ∧ Env w (rs'.set m' (g, 66, mC (n' + 0))) w') := fun W rs' m' g n' h1 h2 h3 =>
    along_env w W HQ.out rs' m' g n' h2 h3 tag v LT.out LV.out c n i hc hn hi 0 (by omega) (by omega) (by omega)
  have heqa := fun W => Tryd.eqKeyIn a a LA.out LA.out W
  have heqv := fun W => Tryd.eqKeyIn v v LV.out LV.out W
  rw [beq_self_eq_true] at heqa heqv
  have HQA := Lib.hid heqa
  have HQV := Lib.hid heqv
  obtain ⟨q, hq⟩ : ∃ q : Int, q = n - i := ⟨_, rfl⟩
  have wq : IntKind.i64.wrap (n - i) = q := by rw [hq]; exact IntWalk.i64_in _ (by omega)
  have wq2 : IntKind.i64.wrap (2 * q) = 2 * q := IntWalk.i64_in _ (by omega)
  have hcnt : ((0 + k + k1 + k2 + 0 : Nat) : Int) = 2 * q := by omega
  have d5 : decide (n < i) = false := by simp; omega
  have WQ := Lib.hid wq
  have WQ2 := Lib.hid wq2
  have HCN := Lib.hid hcnt
  have D5 := Lib.hid d5
  clear ha hx hax heqa heqv hk hk1 hk2 hq wq wq2 hcnt d5 hi hj hn
  have d1 : decide (i < 0) = false := by simp; omega
  have d2 : decide (j < i) = false := by simp; omega
  have d3 : decide (n < j) = false := by simp; omega
  have d4 : decide (40 < n) = false := by simp; omega
  go_enter Tryd.func7, Tryd.ntmps7
  go_wp2_with (first
    | ((with_reducible refine wpE_box (o := ⟨some 6, _, _, _, _, _⟩) rfl 23 (.tmp 0) rfl (keyC tag) (by with_unfolding_all rfl) E0.out ?_); intro g1 w1 T1; have E1 := Lib.hid T1; clear T1)
    | ((with_reducible refine wpE_box (o := ⟨some 11, _, _, _, _, _⟩) rfl 23 (.tmp 5) rfl (keyC v) (by with_unfolding_all rfl) E1.out ?_); intro g2 w2 T2; have E2 := Lib.hid T2; clear T2))
  refine (otsAwake_any _ (HQ.out.below E2.out.below)).mono ?_
  rintro e w3 ⟨rfl, b3⟩
  have E3 := Lib.hid (E2.out.call b3)
  clear b3 E2 E1
  go_wp2_with fail
  refine (New_any _ false).mono ?_
  intro e w5 h
  obtain ⟨g, he, n5⟩ := h
  subst he
  have E5 : Hid (Env w ((g, 66, mC 0) :: (g2, 23, keyC v) :: [(g1, 23, keyC tag)]) w5) := E3.out.new n5
  clear n5 E3 d1 d2 d3 d4 h1 h2 h3 h4
  go_wp2_with (first
    | (with_reducible refine wpE_load (o := ⟨some 39, _, _, _, _, _⟩) rfl 23 (.tmp 6) rfl 2 g1 23 (keyC tag) _ (by with_unfolding_all rfl) (by with_unfolding_all rfl) Tryd.underlying23 rfl (Tryd.sizeKey _ LT.out) E5.out ?_)
    | (with_reducible refine wpE_load (o := ⟨some 43, _, _, _, _, _⟩) rfl 23 (.tmp 11) rfl 1 g2 23 (keyC v) _ (by with_unfolding_all rfl) (by with_unfolding_all rfl) Tryd.underlying23 rfl (Tryd.sizeKey _ LV.out) E5.out ?_))
  refine (C1.out _ _ 0 g 0 (by omega) E5.out rfl).mono ?_
  intro e w6 h
  obtain ⟨he, h6⟩ := h
  subst he
  simp only [List.set_cons_zero] at h6
  have E6 := Lib.hid h6
  clear h6 E5
  go_wp2_with (first
    | ((with_reducible refine wpE_alloc (o := ⟨some 15, _, _, _, _, _⟩) rfl 23 rfl (keyC zeroKey) Tryd.zeroK E6.out ?_); intro g15 w7 T7; have E7 := Lib.hid T7; clear T7)
    | ((with_reducible refine wpE_store (o := ⟨none, _, _, _, _, _⟩) rfl 23 (.tmp 15) (.tmp 44) rfl 0 g15 23 (keyC zeroKey) (keyC a) (by with_unfolding_all rfl) (by with_unfolding_all rfl) (by with_unfolding_all rfl) (keyC_same zeroKey_length LA.out) (Tryd.sizeKey _ LA.out) (keyC_one _) E7.out ?_); intro w8 T8; simp only [List.set_cons_zero] at T8; have E8 := Lib.hid T8; clear T8))
  clear E6 E7
  refine plain_region (S := fun y => Env w [(g2, 23, keyC v), (g1, 23, keyC tag)] y) (fin := fun _ => false) (by kernel_rfl) ?_
  have hS : Env w [(g2, 23, keyC v), (g1, 23, keyC tag)] w8.drew := E8.out.drew.tl.tl
  change walkS _ _ _ _ _ _ 15 _ _ _
  refine walkS_take (i := 0) (oi := ⟨some 45, _, _, _, _, _⟩) (v := .pointer (some ⟨g, 0, none⟩)) rfl (by kernel_rfl) (by kernel_rfl) (fun _ _ _ h => h) _ _ _ _ (by kernel_rfl) (by kernel_rfl) (Or.inl ⟨by rfl, fun w' hS' => (by first | rfl | (clear hS hS'; go_simp))⟩) hS ?_
  try simp only [Act.put, List.setIfInBounds_toArray, List.set_cons_zero, List.set_cons_succ]
  refine walkS_take (i := 1) (oi := ⟨some 46, _, _, _, _, _⟩) (v := .agg (keyC tag)) rfl (by kernel_rfl) (by kernel_rfl) (fun _ _ _ h => h) _ _ _ _ (by kernel_rfl) (by kernel_rfl) (Or.inl ⟨by rfl, fun w' hS' => (run_load_row 23 (.tmp 6) rfl g1 rfl 23 (keyC tag) (0, 0) _ (hS'.row 1 rfl) Tryd.underlying23 rfl (Tryd.sizeKey tag LT.out))⟩) hS ?_
  try simp only [Act.put, List.setIfInBounds_toArray, List.set_cons_zero, List.set_cons_succ]
  refine walkS_take (i := 2) (oi := ⟨some 47, _, _, _, _, _⟩) (v := .int .i64 c) rfl (by kernel_rfl) (by kernel_rfl) (fun _ _ _ h => h) _ _ _ _ (by kernel_rfl) (by kernel_rfl) (Or.inl ⟨by rfl, fun w' hS' => (by first | rfl | (clear hS hS'; go_simp))⟩) hS ?_
  try simp only [Act.put, List.setIfInBounds_toArray, List.set_cons_zero, List.set_cons_succ]
  refine walkS_take (i := 3) (oi := ⟨some 48, _, _, _, _, _⟩) (v := .int .i64 j) rfl (by kernel_rfl) (by kernel_rfl) (fun _ _ _ h => h) _ _ _ _ (by kernel_rfl) (by kernel_rfl) (Or.inl ⟨by rfl, fun w' hS' => (by first | rfl | (clear hS hS'; go_simp))⟩) hS ?_
  try simp only [Act.put, List.setIfInBounds_toArray, List.set_cons_zero, List.set_cons_succ]
  refine walkS_take (i := 4) (oi := ⟨some 49, _, _, _, _, _⟩) (v := .int .i64 n) rfl (by kernel_rfl) (by kernel_rfl) (fun _ _ _ h => h) _ _ _ _ (by kernel_rfl) (by kernel_rfl) (Or.inl ⟨by rfl, fun w' hS' => (by first | rfl | (clear hS hS'; go_simp))⟩) hS ?_
  try simp only [Act.put, List.setIfInBounds_toArray, List.set_cons_zero, List.set_cons_succ]
  refine walkS_take (i := 5) (oi := ⟨some 50, _, _, _, _, _⟩) (v := .pointer (some ⟨g, 0, none⟩)) rfl (by kernel_rfl) (by kernel_rfl) (fun _ _ _ h => h) _ _ _ _ (by kernel_rfl) (by kernel_rfl) (Or.inl ⟨by rfl, fun w' hS' => (by first | rfl | (clear hS hS'; go_simp))⟩) hS ?_
  try simp only [Act.put, List.setIfInBounds_toArray, List.set_cons_zero, List.set_cons_succ]
  refine walkS_take (i := 6) (oi := ⟨some 51, _, _, _, _, _⟩) (v := .agg (keyC tag)) rfl (by kernel_rfl) (by kernel_rfl) (fun _ _ _ h => h) _ _ _ _ (by kernel_rfl) (by kernel_rfl) (Or.inl ⟨by rfl, fun w' hS' => (run_load_row 23 (.tmp 6) rfl g1 rfl 23 (keyC tag) (0, 0) _ (hS'.row 1 rfl) Tryd.underlying23 rfl (Tryd.sizeKey tag LT.out))⟩) hS ?_
  try simp only [Act.put, List.setIfInBounds_toArray, List.set_cons_zero, List.set_cons_succ]
  refine walkS_take (i := 7) (oi := ⟨some 52, _, _, _, _, _⟩) (v := .int .i64 c) rfl (by kernel_rfl) (by kernel_rfl) (fun _ _ _ h => h) _ _ _ _ (by kernel_rfl) (by kernel_rfl) (Or.inl ⟨by rfl, fun w' hS' => (by first | rfl | (clear hS hS'; go_simp))⟩) hS ?_
  try simp only [Act.put, List.setIfInBounds_toArray, List.set_cons_zero, List.set_cons_succ]
  refine walkS_take (i := 8) (oi := ⟨some 53, _, _, _, _, _⟩) (v := .int .i64 i) rfl (by kernel_rfl) (by kernel_rfl) (fun _ _ _ h => h) _ _ _ _ (by kernel_rfl) (by kernel_rfl) (Or.inl ⟨by rfl, fun w' hS' => (by first | rfl | (clear hS hS'; go_simp))⟩) hS ?_
  try simp only [Act.put, List.setIfInBounds_toArray, List.set_cons_zero, List.set_cons_succ]
  refine walkS_take (i := 9) (oi := ⟨some 54, _, _, _, _, _⟩) (v := .int .i64 j) rfl (by kernel_rfl) (by kernel_rfl) (fun _ _ _ h => h) _ _ _ _ (by kernel_rfl) (by kernel_rfl) (Or.inl ⟨by rfl, fun w' hS' => (by first | rfl | (clear hS hS'; go_simp))⟩) hS ?_
  try simp only [Act.put, List.setIfInBounds_toArray, List.set_cons_zero, List.set_cons_succ]
  refine walkS_take (i := 10) (oi := ⟨some 55, _, _, _, _, _⟩) (v := .agg (keyC v)) rfl (by kernel_rfl) (by kernel_rfl) (fun _ _ _ h => h) _ _ _ _ (by kernel_rfl) (by kernel_rfl) (Or.inl ⟨by rfl, fun w' hS' => (run_load_row 23 (.tmp 11) rfl g2 rfl 23 (keyC v) (0, 0) _ (hS'.row 0 rfl) Tryd.underlying23 rfl (Tryd.sizeKey v LV.out))⟩) hS ?_
  try simp only [Act.put, List.setIfInBounds_toArray, List.set_cons_zero, List.set_cons_succ]
  clear hS
  apply share1 (L' := #[true, true, true, true, true, true, true, true, true, true, true, true, true, true, false]) (m' := 1) (fun g16 y => Env w ((g16, 23, keyC zeroKey) :: (g15, 23, keyC a) :: (g, 66, mC (0 + k + k1 + k2)) :: (g2, 23, keyC v) :: [(g1, 23, keyC tag)]) y)
  case h =>
    intro HGO0
    have HGO := Lib.hid HGO0
    clear HGO0
    refine walkS_two (i := 11) (j := 13) (oi := ⟨some 56, _, _, _, _, _⟩) (oj := ⟨some 16, _, _, _, _, _⟩) (by kernel_rfl) rfl rfl rfl rfl (fun KK hKK => ?_) (fun KK hKK => ?_)
    · go_simp
      refine (C2.out _ _ 1 g (0 + k) (by omega) E8.out.drew rfl).mono ?_
      intro e yF11 h
      obtain ⟨he, h9⟩ := h
      subst he
      simp only [List.set_cons_zero, List.set_cons_succ] at h9
      have F11 := Lib.hid h9
      clear h9
      refine hKK _ _ (.inr F11.out.tl.tl) ?_
      clear hKK KK
      try simp only [Act.put, List.setIfInBounds_toArray, List.set_cons_zero, List.set_cons_succ]
      refine walkS_two (i := 12) (j := 13) (oi := ⟨some 57, _, _, _, _, _⟩) (oj := ⟨some 16, _, _, _, _, _⟩) (by kernel_rfl) rfl rfl rfl rfl (fun KK hKK => ?_) (fun KK hKK => ?_)
      · go_simp
        refine (C3.out _ _ 1 g (0 + k + k1) (by omega) F11.out rfl).mono ?_
        intro e yF12 h
        obtain ⟨he, h9⟩ := h
        subst he
        simp only [List.set_cons_zero, List.set_cons_succ] at h9
        have F12 := Lib.hid h9
        clear h9
        refine hKK _ _ (.inr F12.out.tl.tl) ?_
        clear hKK KK
        try simp only [Act.put, List.setIfInBounds_toArray, List.set_cons_zero, List.set_cons_succ]
        refine walkS_only (i := 13) (o := ⟨some 16, _, _, _, _, _⟩) (by kernel_rfl) rfl rfl fun KK hKK => ?_
        refine wp_alloc_row 23 rfl (keyC zeroKey) Tryd.zeroK fun g16F12 yg16F12 ng16F12 => ?_
        have Ag16F12 := Lib.hid (F12.out.new ng16F12)
        refine hKK _ _ (.inr Ag16F12.out.tl.tl.tl) ?_
        clear hKK KK
        try simp only [Act.put, List.setIfInBounds_toArray, List.set_cons_zero, List.set_cons_succ]
        exact walkS_listed (by kernel_rfl) (HGO.out _ _ Ag16F12.out)
      · refine wp_alloc_row 23 rfl (keyC zeroKey) Tryd.zeroK fun g16F11 yg16F11 ng16F11 => ?_
        have Ag16F11 := Lib.hid (F11.out.new ng16F11)
        refine hKK _ _ (.inr Ag16F11.out.tl.tl.tl) ?_
        clear hKK KK
        try simp only [Act.put, List.setIfInBounds_toArray, List.set_cons_zero, List.set_cons_succ]
        refine walkS_only (i := 12) (o := ⟨some 57, _, _, _, _, _⟩) (by kernel_rfl) rfl rfl fun KK hKK => ?_
        go_simp
        refine (C3.out _ _ 2 g (0 + k + k1) (by omega) Ag16F11.out rfl).mono ?_
        intro e yF12g16F11 h
        obtain ⟨he, h9⟩ := h
        subst he
        simp only [List.set_cons_zero, List.set_cons_succ] at h9
        have F12g16F11 := Lib.hid h9
        clear h9
        refine hKK _ _ (.inr F12g16F11.out.tl.tl.tl) ?_
        clear hKK KK
        try simp only [Act.put, List.setIfInBounds_toArray, List.set_cons_zero, List.set_cons_succ]
        exact walkS_listed (by kernel_rfl) (HGO.out _ _ F12g16F11.out)
    · refine wp_alloc_row 23 rfl (keyC zeroKey) Tryd.zeroK fun g16x yg16x ng16x => ?_
      have Ag16x := Lib.hid (E8.out.drew.new ng16x)
      refine hKK _ _ (.inr Ag16x.out.tl.tl.tl) ?_
      clear hKK KK
      try simp only [Act.put, List.setIfInBounds_toArray, List.set_cons_zero, List.set_cons_succ]
      refine walkS_only (i := 11) (o := ⟨some 56, _, _, _, _, _⟩) (by kernel_rfl) rfl rfl fun KK hKK => ?_
      go_simp
      refine (C2.out _ _ 2 g (0 + k) (by omega) Ag16x.out rfl).mono ?_
      intro e yF11g16x h
      obtain ⟨he, h9⟩ := h
      subst he
      simp only [List.set_cons_zero, List.set_cons_succ] at h9
      have F11g16x := Lib.hid h9
      clear h9
      refine hKK _ _ (.inr F11g16x.out.tl.tl.tl) ?_
      clear hKK KK
      try simp only [Act.put, List.setIfInBounds_toArray, List.set_cons_zero, List.set_cons_succ]
      refine walkS_only (i := 12) (o := ⟨some 57, _, _, _, _, _⟩) (by kernel_rfl) rfl rfl fun KK hKK => ?_
      go_simp
      refine (C3.out _ _ 2 g (0 + k + k1) (by omega) F11g16x.out rfl).mono ?_
      intro e yF12g16x h
      obtain ⟨he, h9⟩ := h
      subst he
      simp only [List.set_cons_zero, List.set_cons_succ] at h9
      have F12g16x := Lib.hid h9
      clear h9
      refine hKK _ _ (.inr F12g16x.out.tl.tl.tl) ?_
      clear hKK KK
      try simp only [Act.put, List.setIfInBounds_toArray, List.set_cons_zero, List.set_cons_succ]
      exact walkS_listed (by kernel_rfl) (HGO.out _ _ F12g16x.out)
  case hgo =>
    intro g16 y9 hE9
    have E9 := Lib.hid hE9
    clear hE9 E8
    refine walkS_only (i := 14) (o := ⟨none, _, _, _, _, _⟩) (by kernel_rfl) rfl rfl fun KK hKK => ?_
    refine wp_store_row 23 (.tmp 16) (.tmp 57) rfl g16 23 (keyC zeroKey) (keyC a) rfl rfl (E9.out.row 0 rfl) (keyC_same zeroKey_length LA.out) (Tryd.sizeKey a LA.out) (keyC_one a) fun w10 p10 => ?_
    have E10 := Lib.hid (E9.out.put 0 rfl p10)
    simp only [List.set_cons_zero] at E10
    refine hKK _ _ (.inr E10.out.tl.tl.tl) (walkS_done (by kernel_rfl) ?_ _)
    clear hKK KK p10 E9
    try simp only [Act.put]
    go_wp2_with (first
      | (with_reducible refine wpE_load (o := ⟨some 59, _, _, _, _, _⟩) rfl 23 (.tmp 6) rfl 4 g1 23 (keyC tag) _ (by with_unfolding_all rfl) (by with_unfolding_all rfl) Tryd.underlying23 rfl (Tryd.sizeKey _ LT.out) E10.out ?_)
      | (with_reducible refine wpE_load (o := ⟨some 63, _, _, _, _, _⟩) rfl 23 (.tmp 11) rfl 3 g2 23 (keyC v) _ (by with_unfolding_all rfl) (by with_unfolding_all rfl) Tryd.underlying23 rfl (Tryd.sizeKey _ LV.out) E10.out ?_))
    refine (C4.out _ _ 2 g _ (by omega) E10.out rfl).mono ?_
    intro e w11 h
    obtain ⟨he, h11⟩ := h
    subst he
    simp only [List.set_cons_zero, List.set_cons_succ] at h11
    have E11 := Lib.hid h11
    clear h11 E10
    go_wp2_with (first
      | ((with_reducible refine wpE_alloc (o := ⟨some 17, _, _, _, _, _⟩) rfl 23 rfl (keyC zeroKey) Tryd.zeroK E11.out ?_); intro g17 w12 T12; have E12 := Lib.hid T12; clear T12)
      | ((with_reducible refine wpE_store (o := ⟨none, _, _, _, _, _⟩) rfl 23 (.tmp 17) (.tmp 64) rfl 0 g17 23 (keyC zeroKey) (keyC v) (by with_unfolding_all rfl) (by with_unfolding_all rfl) (by with_unfolding_all rfl) (keyC_same zeroKey_length LV.out) (Tryd.sizeKey _ LV.out) (keyC_one _) E12.out ?_); intro w13 T13; simp only [List.set_cons_zero] at T13; have E13 := Lib.hid T13; clear T13))
    refine (count_env w _ _ 3 g _ E13.out rfl).mono ?_
    intro e w14 h
    obtain ⟨he, h14⟩ := h
    subst he
    have E14 := Lib.hid h14
    clear h14 E13 E12 E11
    rw [HCN.out]
    have hgd := Tryd.eqGuardKey
    have hqa := HQA.out
    have hqv := HQV.out
    have wq := WQ.out
    have wq2 := WQ2.out
    have d5 := D5.out
    go_wp2_with (first
      | (with_reducible refine wpListG_load_row (o := ⟨some 69, _, _, _, _, _⟩) 23 (.tmp 15) rfl (by with_unfolding_all rfl) g15 (by with_unfolding_all rfl) 23 (keyC a) (.array 32 5) (by with_unfolding_all exact E14.out.row 2 rfl) Tryd.underlying23 rfl (Tryd.sizeKey _ LA.out) ?_)
      | (with_reducible refine wpListG_load_row (o := ⟨some 70, _, _, _, _, _⟩) 23 (.tmp 16) rfl (by with_unfolding_all rfl) g16 (by with_unfolding_all rfl) 23 (keyC a) (.array 32 5) (by with_unfolding_all exact E14.out.row 1 rfl) Tryd.underlying23 rfl (Tryd.sizeKey _ LA.out) ?_)
      | (with_reducible refine wpListG_load_row (o := ⟨some 74, _, _, _, _, _⟩) 23 (.tmp 17) rfl (by with_unfolding_all rfl) g17 (by with_unfolding_all rfl) 23 (keyC v) (.array 32 5) (by with_unfolding_all exact E14.out.row 0 rfl) Tryd.underlying23 rfl (Tryd.sizeKey _ LV.out) ?_)
      | (with_reducible refine wpListG_load_row (o := ⟨some 75, _, _, _, _, _⟩) 23 (.tmp 11) rfl (by with_unfolding_all rfl) g2 (by with_unfolding_all rfl) 23 (keyC v) (.array 32 5) (by with_unfolding_all exact E14.out.row 4 rfl) Tryd.underlying23 rfl (Tryd.sizeKey _ LV.out) ?_))
    go_ret
    exact E14.out.ret _
end Go.Proofs.YtfnmglicfgkmjaaDoor
end
section
namespace Go.Proofs.YtfnmglicfgkmjaaDoor.otsParts
open Go.ChangeShapes Go.WideShapes Go.ChangeAt Go.RowKit
open Go.ChangeMaps (open_string shut_string)
set_option linter.unusedVariables false

theorem own : ownKnob Tryd.prog.godebug = none := by kernel_rfl
theorem laidOut : laidOutB Tryd.prog = true := by kernel_rfl

theorem laid_met (os : Os) : laidMet Tryd.prog Rows.otsPartsRow.laid ((laidWorld os).forCall (fun _ _ => 0) ⟨#[], #[.agg (List.replicate 32 (Value.int .u8 0)).toArray, .int .i64 0, .int .i64 0, .int .i64 0, .int .i64 0, .agg (List.replicate 32 (Value.int .u8 0)).toArray], []⟩).memory :=
  laidMet_of_run' 8 (by kernel_rfl) (by kernel_rfl)
theorem reads (os : Os) {H : Type} (enc : TypeId × Value → H) : ∃ places, DataW.whole enc Tryd.prog ((laidWorld os).forCall (fun _ _ => 0) ⟨#[], #[.agg (List.replicate 32 (Value.int .u8 0)).toArray, .int .i64 0, .int .i64 0, .int .i64 0, .int .i64 0, .agg (List.replicate 32 (Value.int .u8 0)).toArray], []⟩).memory Tryd.f7.params.toList Rows.otsPartsSpec.vars false #[.agg (List.replicate 32 (Value.int .u8 0)).toArray, .int .i64 0, .int .i64 0, .int .i64 0, .int .i64 0, .agg (List.replicate 32 (Value.int .u8 0)).toArray].toList 8 = some ([.agg (List.replicate 32 (.lit (.int .u8 0))), .lit (.int .i64 0), .lit (.int .i64 0), .lit (.int .i64 0), .lit (.int .i64 0), .agg (List.replicate 32 (.lit (.int .u8 0)))], [], places) :=
  ⟨[], by kernel_rfl⟩

set_option maxRecDepth 100000 in
theorem contract (H : Type) (enc : TypeId × Value → H) (W : World) (base : Nat) (args : Array Value) (ds gs : List (DataW H)) (before : List MemPlace)
    (hval0 : ∀ (j : Nat) t v, Tryd.f7.params[j]? = some t → args[j]? = some v → Value.okWide Tryd.prog W .any base t v)
    (hW : DataW.Whole enc Tryd.prog Tryd.f7.params.toList Rows.otsPartsSpec.vars false W args.toList ds gs before) (hL : laidMetH Tryd.prog Rows.otsPartsRow.laid W) :
    Calls Tryd.prog 7 args W fun e W' => ∃ v, e = .returned v ∧ Rows.otsPartsSpec.post enc Tryd.prog Tryd.f7 false true false false W args v W' := by
  have hq := tables hL
  have hval : ∀ (j : Nat) t v, Tryd.f7.params[j]? = some t → args[j]? = some v → Value.okWide Tryd.prog W .any base t v := hval0
  have hW' := hW
  obtain ⟨p, q, hA0, hV, rfl, hfz, hnd⟩ := hW
  have hA : DataW.TrodAll enc Tryd.prog W 0 (fun _ => true) true Tryd.f7.params.toList args.toList ds p := hA0
  rw [Tryd.params7] at hA hval
  obtain ⟨v0, vs0, d0, ds0, p0, q0, hargs, rfl, rfl, h0, r0⟩ := trodAll_cons hA
  obtain ⟨v1, vs1, d1, ds1, p1, q1, rfl, rfl, rfl, h1, r1⟩ := trodAll_cons r0
  obtain ⟨v2, vs2, d2, ds2, p2, q2, rfl, rfl, rfl, h2, r2⟩ := trodAll_cons r1
  obtain ⟨v3, vs3, d3, ds3, p3, q3, rfl, rfl, rfl, h3, r3⟩ := trodAll_cons r2
  obtain ⟨v4, vs4, d4, ds4, p4, q4, rfl, rfl, rfl, h4, r4⟩ := trodAll_cons r3
  obtain ⟨v5, vs5, d5, ds5, p5, q5, rfl, rfl, rfl, h5, r5⟩ := trodAll_cons r4
  obtain ⟨rfl, rfl, rfl⟩ := trodAll_nil r5
  obtain rfl : args = #[v0, v1, v2, v3, v4, v5] := by cases args; simp_all
  obtain ⟨rfl, rfl⟩ := trodVars_none hV
  have k0 := h0
  have lt0 : ∀ x ∈ p0, x.block < W.heap.size := by obtain ⟨m, hm⟩ := k0; exact DataW.trod_lt m _ _ _ hm
  obtain ⟨l0, rfl, w0⟩ := open_key Tryd.underlying23 Tryd.underlying5 (by kernel_rfl) (by kernel_rfl) (hval 0 23 v0 rfl rfl) h0
  obtain ⟨a1, rfl, rfl, rfl, w1⟩ := open_int Tryd.underlying3 (hval 1 3 v1 rfl rfl) h1
  obtain ⟨a2, rfl, rfl, rfl, w2⟩ := open_int Tryd.underlying3 (hval 2 3 v2 rfl rfl) h2
  obtain ⟨a3, rfl, rfl, rfl, w3⟩ := open_int Tryd.underlying3 (hval 3 3 v3 rfl rfl) h3
  obtain ⟨a4, rfl, rfl, rfl, w4⟩ := open_int Tryd.underlying3 (hval 4 3 v4 rfl rfl) h4
  have k5 := h5
  have lt5 : ∀ x ∈ p5, x.block < W.heap.size := by obtain ⟨m, hm⟩ := k5; exact DataW.trod_lt m _ _ _ hm
  obtain ⟨l5, rfl, w5⟩ := open_key Tryd.underlying23 Tryd.underlying5 (by kernel_rfl) (by kernel_rfl) (hval 5 23 v5 rfl rfl) h5
  clear hA0 hval0
  refine (otsParts_walk W hq l0 w0 a1 (i64_of_wf w1) a2 (i64_of_wf w2) a3 (i64_of_wf w3) a4 (i64_of_wf w4) l5 w5).mono fun e W' ⟨he, bel⟩ => ?_
  subst he
  exact ⟨_, rfl, _, _, _, [], _, [], hW', trodAll_mk1 (shut_bool Tryd.underlying4 _), (trodAll_cons_mk (Below.trod laidOut (by kernel_rfl) (of_decide_eq_true (by kernel_rfl)) k0 bel lt0) (trodAll_cons_mk (shut_int Tryd.underlying3 w1) (trodAll_cons_mk (shut_int Tryd.underlying3 w2) (trodAll_cons_mk (shut_int Tryd.underlying3 w3) (trodAll_cons_mk (shut_int Tryd.underlying3 w4) (trodAll_cons_mk (Below.trod laidOut (by kernel_rfl) (of_decide_eq_true (by kernel_rfl)) k5 bel lt5) trodAll_mk0)))))), rfl, bel.frame _, fun h => by cases h⟩

set_option maxRecDepth 100000 in
theorem lifted (os : Os) (started : os.Started) (H : Type) (enc : TypeId × Value → H) (F : Stop.Interp) :
    ReturnsInHanded {} Tryd.checked os 7 .any ((OpenSpec.ofChange Rows.otsPartsSpec).preRow enc Tryd.prog Tryd.f7 Rows.otsPartsRow.domain false Rows.otsPartsRow.laid) (((OpenSpec.ofChange Rows.otsPartsSpec).at F).post enc Tryd.prog Tryd.f7 false true false false) := by
  obtain ⟨places, hx⟩ := reads os enc
  refine returnsInHanded_of_row (C := Tryd.checked) (s := OpenSpec.ofChange Rows.otsPartsSpec) own started (by kernel_rfl) Tryd.func7
    (witness_row_at (enc := enc) (C := Tryd.checked) false (laidWorld os) #[.agg (List.replicate 32 (Value.int .u8 0)).toArray, .int .i64 0, .int .i64 0, .int .i64 0, .int .i64 0, .agg (List.replicate 32 (Value.int .u8 0)).toArray] rfl (by kernel_rfl) (by kernel_rfl) (by kernel_rfl)
      (OpenSpec.preRow_of_cond 8 hx (by kernel_rfl) (fun k hk => by cases hk) (by kernel_rfl) (laid_met os))) ?_
  intro W base args ds gs before hval hW _ _ _ hL _ _
  exact contract H enc W base args ds gs before hval hW hL

theorem said : Rows.OtsPartsSaid :=
  OpenClaim.holds_of_cond 7 Tryd.f7 rfl rfl rfl rfl rfl rfl rfl ⟨rfl, rfl, rfl, rfl, rfl⟩ rfl rfl rfl rfl rfl (by kernel_rfl) Tryd.func7 (by kernel_rfl)
    (of_decide_eq_true (by kernel_rfl)) (by unfold Func.isWrapper; first | (rw [if_pos (by decide +kernel)]; kernel_rfl) | (rw [if_neg (by decide +kernel)]; exact ⟨rfl, rfl⟩))
    (fun os started H enc _ F => by rw [OpenClaim.pre_eq_preRow]; exact lifted os started H enc F)

theorem noStand : (Tryd.f7.params.toList.all fun t => Tryd.prog.wantsStandIn t == false) = true := by kernel_rfl
theorem plain (f : FuncId) (fn : Func) (hf : Tryd.pinned.checked.prog.funcNamed "cablegram/cablegramlaw08.OtsParts" = some f) (hfn : Tryd.pinned.checked.prog.funcs[f]? = some fn) :
    false = Tryd.pinned.checked.prog.looks [] ∧ ∀ (j : Nat) t, fn.params[j]? = some t → Tryd.pinned.checked.prog.wantsStandIn t = false := by
  obtain rfl : f = 7 := Option.some.inj ((show Tryd.prog.funcNamed "cablegram/cablegramlaw08.OtsParts" = some 7 by kernel_rfl).symm.trans hf) |>.symm
  obtain rfl : fn = Tryd.f7 := (Option.some.inj (Tryd.func7.symm.trans hfn)).symm
  refine ⟨by kernel_rfl, fun j t ht => ?_⟩
  have hm : t ∈ Tryd.f7.params.toList := by simpa using Array.mem_of_getElem? ht
  exact beq_iff_eq.1 (List.all_eq_true.1 noStand t hm)

theorem proved : Rows.OtsPartsCardSaid :=
  Claim7.holds_tied_plain_at .later [] _ _ _ _ said (fun _ h => by cases h) (by kernel_rfl) (fun _ h => by cases h) otsParts_row_tie rfl ⟨rfl, rfl⟩ (by kernel_rfl) rfl plain (by kernel_rfl)
#print axioms proved
end Go.Proofs.YtfnmglicfgkmjaaDoor.otsParts
end
