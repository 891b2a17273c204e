/-
  OtsDigits: for every input the call returns true, and each argument reads as it read before. Conditions: none beyond the given statement's own (the package-level tables that its row lists hold what the program's text lays: the card ties that).
-/
import Derived.Test.YtfnmglicfgkmjaaDoorQOtsAM
import Derived.Test.YtfnmglicfgkmjaaDoorQOtsAN
import Derived.Test.YtfnmglicfgkmjaaDoorQOtsAB
import Derived.ProofKit
import Derived.OpenShut
import Derived.ShutString
import Derived.ChangeOld
import Derived.Deep.DeepHandedRow
section
namespace Go.Proofs.YtfnmglicfgkmjaaDoor
open Go.RowKit
set_option linter.unusedVariables false
set_option maxRecDepth 20000

theorem walkS_onlyG {P : Program} {md : Region.Mode} {ops : Array Oper} {Q : Exit → Act → World → Prop} {S : World → Prop} {fin : Nat → Bool} {i : Nat} {o : Oper} {m : Nat} {listed : Array Bool} {a : Act} {w : World} (hr : Region.ready md ops listed = [i]) (ho : ops[i]? = some o) (hw : Region.wanted o (yielded ops a.tmps) = true)
    (h : ∀ K : Act → World → Prop, (∀ a' w', (fin i = true ∨ S w') → walkS P md ops Q S fin m (listed.setIfInBounds i true) a' w' → K a' w') → o.wp P a w K Q) : walkS P md ops Q S fin (m + 1) listed a w := by
  refine ⟨fun h0 => by simp [hr] at h0, fun j hj => ?_⟩
  rw [hr] at hj
  obtain rfl : j = i := by simpa using hj
  unfold wpOp
  rw [ho]
  simp only [hw, if_true]
  exact .inl (h _ (fun a' w' h1 h2 => ⟨h1, h2⟩))

theorem take_cell {w : World} {b : Nat} {t : TypeId} {cur : Array Value} {D : List Nat} (hr : RowAt w b t cur) (ht : cur.toList.take 67 = cellsI D) (j : Nat) (hj : j < D.length) : w.cell? ⟨b, j, none⟩ = some (.int .i64 ((D.getD j 0 : Nat) : Int)) := by
  rw [hr.cell]
  have h1 : (cellsI D)[j]? = some (.int .i64 ((D.getD j 0 : Nat) : Int)) := by
    have := intC_get D j hj
    simpa [intC] using this
  rw [← ht, List.getElem?_take] at h1
  split at h1
  · simpa using h1
  · cases h1

set_option maxHeartbeats 8000000 in
theorem otsDigits_walk (w : World) (hq : Tabs w) (d : List UInt8) (hd : d.length = 32) (tag : List UInt8) (ht : tag.length = 32) (c : Int) (hc : -9223372036854775808 ≤ c ∧ c ≤ 9223372036854775807) (i : Int) (hi : -9223372036854775808 ≤ i ∧ i ≤ 9223372036854775807)
    (j : Int) (hj : -9223372036854775808 ≤ j ∧ j ≤ 9223372036854775807) (v : List UInt8) (hv : v.length = 32) :
    Calls Tryd.prog 3 #[keyV d, keyV tag, .int .i64 c, .int .i64 i, .int .i64 j, keyV v] w (RetV w (.bool true)) := by
  have HQ := Lib.hid hq
  have LDG := Lib.hid hd
  have LT := Lib.hid ht
  have LV := Lib.hid hv
  have E0 := Lib.hid (Env.start w)
  clear hq hd ht hv
  by_cases h1 : i < -1000
  · have d1 : decide (i < -1000) = true := by simp [h1]
    go_enter Tryd.func3, Tryd.ntmps3
    go_wp2_with (first
      | ((with_reducible refine wpE_box (o := ⟨some 6, _, _, _, _, _⟩) rfl 23 (.tmp 0) rfl (keyC d) (by with_unfolding_all rfl) E0.out ?_); intro g6 w1 T1; have E1 := Lib.hid T1; clear T1)
      | ((with_reducible refine wpE_box (o := ⟨some 7, _, _, _, _, _⟩) rfl 23 (.tmp 1) rfl (keyC tag) (by with_unfolding_all rfl) E1.out ?_); intro g7 w2 T2; have E2 := Lib.hid T2; clear T2)
      | ((with_reducible refine wpE_box (o := ⟨some 11, _, _, _, _, _⟩) rfl 23 (.tmp 5) rfl (keyC v) (by with_unfolding_all rfl) E2.out ?_); intro g11 w3 T3; have E3 := Lib.hid T3; clear T3))
    refine (otsAwake_any _ (HQ.out.below E3.out.below)).mono ?_
    rintro e w4 ⟨rfl, b4⟩
    have E4 := Lib.hid (E3.out.call b4)
    clear b4 E3 E2 E1
    go_wp2_with fail
    go_ret
    exact E4.out.ret _
  by_cases h2 : 100000 < i
  · have d1 : decide (i < -1000) = false := by simp; omega
    have d2 : decide (100000 < i) = true := by simp [h2]
    go_enter Tryd.func3, Tryd.ntmps3
    go_wp2_with (first
      | ((with_reducible refine wpE_box (o := ⟨some 6, _, _, _, _, _⟩) rfl 23 (.tmp 0) rfl (keyC d) (by with_unfolding_all rfl) E0.out ?_); intro g6 w1 T1; have E1 := Lib.hid T1; clear T1)
      | ((with_reducible refine wpE_box (o := ⟨some 7, _, _, _, _, _⟩) rfl 23 (.tmp 1) rfl (keyC tag) (by with_unfolding_all rfl) E1.out ?_); intro g7 w2 T2; have E2 := Lib.hid T2; clear T2)
      | ((with_reducible refine wpE_box (o := ⟨some 11, _, _, _, _, _⟩) rfl 23 (.tmp 5) rfl (keyC v) (by with_unfolding_all rfl) E2.out ?_); intro g11 w3 T3; have E3 := Lib.hid T3; clear T3))
    refine (otsAwake_any _ (HQ.out.below E3.out.below)).mono ?_
    rintro e w4 ⟨rfl, b4⟩
    have E4 := Lib.hid (E3.out.call b4)
    clear b4 E3 E2 E1
    go_wp2_with fail
    go_ret
    exact E4.out.ret _
  have wi : IntKind.i64.wrap (i + 20) = i + 20 := IntWalk.i64_in _ (by omega)
  by_cases h3 : i + 20 < j
  · have d1 : decide (i < -1000) = false := by simp; omega
    have d2 : decide (100000 < i) = false := by simp; omega
    have d3 : decide (i + 20 < j) = true := by simp [h3]
    go_enter Tryd.func3, Tryd.ntmps3
    go_wp2_with (first
      | ((with_reducible refine wpE_box (o := ⟨some 6, _, _, _, _, _⟩) rfl 23 (.tmp 0) rfl (keyC d) (by with_unfolding_all rfl) E0.out ?_); intro g6 w1 T1; have E1 := Lib.hid T1; clear T1)
      | ((with_reducible refine wpE_box (o := ⟨some 7, _, _, _, _, _⟩) rfl 23 (.tmp 1) rfl (keyC tag) (by with_unfolding_all rfl) E1.out ?_); intro g7 w2 T2; have E2 := Lib.hid T2; clear T2)
      | ((with_reducible refine wpE_box (o := ⟨some 11, _, _, _, _, _⟩) rfl 23 (.tmp 5) rfl (keyC v) (by with_unfolding_all rfl) E2.out ?_); intro g11 w3 T3; have E3 := Lib.hid T3; clear T3))
    refine (otsAwake_any _ (HQ.out.below E3.out.below)).mono ?_
    rintro e w4 ⟨rfl, b4⟩
    have E4 := Lib.hid (E3.out.call b4)
    clear b4 E3 E2 E1
    go_wp2_with fail
    go_ret
    exact E4.out.ret _
  obtain ⟨k, hk⟩ : ∃ k, k = (j - i).toNat := ⟨_, rfl⟩
  obtain ⟨a, ha⟩ : ∃ a, a = alongB tag c i v k := ⟨_, rfl⟩
  have LA : Hid (a.length = 32) := by show _ = _; rw [ha]; exact alongB_length _ _ _ _ LV.out _
  obtain ⟨D, hD⟩ : ∃ D, D = digitsL d := ⟨_, rfl⟩
  have DL : Hid (D.length = 67) := by show _ = _; rw [hD]; exact digitsL_length _ LDG.out
  have CD : Hid (∀ x rs', Env w rs' x → Calls Tryd.prog 9 #[.agg (keyC d)] x fun e w' => ∃ b, e = .returned (.slice (some ⟨b, 0, none⟩) 67 67) ∧ Env w ((b, 3, intC D) :: rs') w') := fun x rs' h => by rw [hD]; exact digits_env w x rs' h _ LDG.out
  have CE : Hid (∀ x rs', Env w rs' x → Calls Tryd.prog 10 #[.agg (keyC d)] x fun e w' => ∃ b c cur, e = .returned (.slice (some ⟨b, 0, none⟩) 67 c) ∧ Env w ((b, 3, cur) :: rs') w' ∧ cur.toList.take 67 = cellsI D) := fun x rs' h => by rw [hD]; exact refDigits_env w x rs' h _ LDG.out
  have C1 : Hid (∀ W rs' m' g n', n' ≤ 1000 → Env w rs' W → rs'[m']? = some (g, 66, mC n') → Calls Tryd.prog 12 #[.pointer (some ⟨g, 0, none⟩), .agg (keyC tag), .int .i64 c, .int .i64 i, .int .i64 j, .agg (keyC v)] W fun e w' => e = .returned (.agg (keyC a)) ∧ Env w (rs'.set m' (g, 66, mC (n' + k))) w') := fun W rs' m' g n' h1 h2 h3 => by
    rw [ha]
    exact along_env w W HQ.out rs' m' g n' h2 h3 tag v LT.out LV.out c i j hc hi hj k hk (by omega) (by omega)
  have C2 : Hid (∀ W rs' m' g n', n' ≤ 1000 → Env w rs' W → rs'[m']? = some (g, 32, logC n') → Calls Tryd.prog 13 #[.pointer (some ⟨g, 0, none⟩), .agg (keyC tag), .int .i64 c, .int .i64 i, .int .i64 j, .agg (keyC v)] W fun e w' => e = .returned (.agg (keyC a)) ∧ Env w (rs'.set m' (g, 32, logC (n' + k))) w') := fun W rs' m' g n' h1 h2 h3 => by
    rw [ha]
    exact refAlong_env w W rs' m' g n' h2 h3 tag v LT.out LV.out c i j hc hi hj k hk (by omega) (by omega)
  have heqa := fun W => Tryd.eqKeyIn a a LA.out LA.out W
  rw [beq_self_eq_true] at heqa
  have HQA := Lib.hid heqa
  clear ha hD heqa hk hj
  have d1 : decide (i < -1000) = false := by simp; omega
  have d2 : decide (100000 < i) = false := by simp; omega
  have d3 : decide (i + 20 < j) = false := by simp; omega
  go_enter Tryd.func3, Tryd.ntmps3
  go_wp2_with (first
    | ((with_reducible refine wpE_box (o := ⟨some 6, _, _, _, _, _⟩) rfl 23 (.tmp 0) rfl (keyC d) (by with_unfolding_all rfl) E0.out ?_); intro g6 w1 T1; have E1 := Lib.hid T1; clear T1)
    | ((with_reducible refine wpE_box (o := ⟨some 7, _, _, _, _, _⟩) rfl 23 (.tmp 1) rfl (keyC tag) (by with_unfolding_all rfl) E1.out ?_); intro g7 w2 T2; have E2 := Lib.hid T2; clear T2)
    | ((with_reducible refine wpE_box (o := ⟨some 11, _, _, _, _, _⟩) rfl 23 (.tmp 5) rfl (keyC v) (by with_unfolding_all rfl) E2.out ?_); intro g11 w3 T3; have E3 := Lib.hid T3; clear T3))
  refine (otsAwake_any _ (HQ.out.below E3.out.below)).mono ?_
  rintro e w4 ⟨rfl, b4⟩
  have E4 := Lib.hid (E3.out.call b4)
  clear b4 E3 E2 E1
  go_wp2_with (with_reducible refine wpE_load (o := ⟨some 34, _, _, _, _, _⟩) rfl 23 (.tmp 6) rfl 2 g6 23 (keyC d) _ (by with_unfolding_all rfl) (by with_unfolding_all rfl) Tryd.underlying23 rfl (Tryd.sizeKey _ LDG.out) E4.out ?_)
  refine (CD.out _ _ E4.out).mono ?_
  intro e w5 h
  obtain ⟨ga, he, h5⟩ := h
  subst he
  have E5 := Lib.hid h5
  clear h5 E4 d1 d2 d3 wi h1 h2 h3 hi hc
  go_wp2_with (with_reducible refine wpE_load (o := ⟨some 36, _, _, _, _, _⟩) rfl 23 (.tmp 6) rfl 3 g6 23 (keyC d) _ (by with_unfolding_all rfl) (by with_unfolding_all rfl) Tryd.underlying23 rfl (Tryd.sizeKey _ LDG.out) E5.out ?_)
  refine (CE.out _ _ E5.out).mono ?_
  intro e w6 h
  obtain ⟨gb, cp, cur, he, h6, htake⟩ := h
  subst he
  have E6 := Lib.hid h6
  have HTAKE := Lib.hid htake
  clear h6 htake E5 CD CE
  go_wp2_with fail
  go_loopw [16] (fun u wr => ∃ k : Nat, k ≤ 67 ∧ u = .int .i64 (k : Int) ∧ Env w [(gb, 3, cur), (ga, 3, intC D), (g11, 23, keyC v), (g7, 23, keyC tag), (g6, 23, keyC d)] wr) (fun u _ => 67 - (intOf u).toNat)
  case atStart => exact ⟨0, by omega, rfl, E6.out⟩
  case round =>
    clear E6
    obtain ⟨kk, hkk, rfl, hE⟩ := hrel
    have E := Lib.hid hE
    clear hE
    by_cases hlt : kk < 67
    · have hlt2 : (kk : Int) < 67 := by omega
      have hw1 : IntKind.i64.wrap ((kk : Int) + 1) = (kk : Int) + 1 := IntWalk.i64_in _ (by omega)
      have hq0 : ¬ ((kk : Int) < 0) := by omega
      have CAX : Hid (∀ W, Env w [(gb, 3, cur), (ga, 3, intC D), (g11, 23, keyC v), (g7, 23, keyC tag), (g6, 23, keyC d)] W → W.cell? ⟨ga, kk, none⟩ = some (.int .i64 ((D.getD kk 0 : Nat) : Int))) := fun W h => h.cellV 1 rfl kk _ (intC_get D kk (by rw [DL.out]; exact hlt))
      have CBX : Hid (∀ W, Env w [(gb, 3, cur), (ga, 3, intC D), (g11, 23, keyC v), (g7, 23, keyC tag), (g6, 23, keyC d)] W → W.cell? ⟨gb, kk, none⟩ = some (.int .i64 ((D.getD kk 0 : Nat) : Int))) := fun W h => take_cell (h.row 0 rfl) HTAKE.out kk (by rw [DL.out]; exact hlt)
      generalize D.getD kk 0 = x at CAX CBX
      go_wp2_with fail
      refine region_class (Env w [(gb, 3, cur), (ga, 3, intC D), (g11, 23, keyC v), (g7, 23, keyC tag), (g6, 23, keyC d)]) E.out.drew (by kernel_rfl) (by kernel_rfl) ?_
      clear E
      refine q_run (by rfl) (v := .slice (some ⟨ga, 0, none⟩) 67 67) (fun W hW => by first | rfl | (clear hW; go_simp)) ?_
      try simp only [Act.put, List.setIfInBounds_toArray, List.set_cons_zero, List.set_cons_succ]
      refine q_run (by rfl) (v := .int .i64 (kk : Int)) (fun W hW => by first | rfl | (clear hW; go_simp)) ?_
      try simp only [Act.put, List.setIfInBounds_toArray, List.set_cons_zero, List.set_cons_succ]
      refine q_run (by rfl) (v := .pointer (some ⟨ga, kk, none⟩)) (fun W hW => by first | rfl | (clear hW; go_simp)) ?_
      try simp only [Act.put, List.setIfInBounds_toArray, List.set_cons_zero, List.set_cons_succ]
      refine q_run (by rfl) (v := .int .i64 (x : Int)) (fun W hW => by have c := CAX.out W hW; clear hW; go_simp) ?_
      try simp only [Act.put, List.setIfInBounds_toArray, List.set_cons_zero, List.set_cons_succ]
      refine q_run (by rfl) (v := .slice (some ⟨gb, 0, none⟩) 67 cp) (fun W hW => by first | rfl | (clear hW; go_simp)) ?_
      try simp only [Act.put, List.setIfInBounds_toArray, List.set_cons_zero, List.set_cons_succ]
      refine q_run (by rfl) (v := .int .i64 (kk : Int)) (fun W hW => by first | rfl | (clear hW; go_simp)) ?_
      try simp only [Act.put, List.setIfInBounds_toArray, List.set_cons_zero, List.set_cons_succ]
      refine q_run (by rfl) (v := .pointer (some ⟨gb, kk, none⟩)) (fun W hW => by first | rfl | (clear hW; go_simp)) ?_
      try simp only [Act.put, List.setIfInBounds_toArray, List.set_cons_zero, List.set_cons_succ]
      refine q_run (by rfl) (v := .int .i64 (x : Int)) (fun W hW => by have c := CBX.out W hW; clear hW; go_simp) ?_
      try simp only [Act.put, List.setIfInBounds_toArray, List.set_cons_zero, List.set_cons_succ]
      refine q_run (by rfl) (v := .bool false) (fun W hW => by clear hW; go_simp) ?_
      try simp only [Act.put, List.setIfInBounds_toArray, List.set_cons_zero, List.set_cons_succ]
      refine wpQuiet_nil ?_
      intro w7 hw7
      have E7 := Lib.hid hw7
      clear hw7
      go_wp2_with fail
      refine ⟨⟨kk + 1, by omega, by congr 1, E7.out⟩, ?_⟩
      show 67 - ((kk : Int) + 1).toNat < 67 - (kk : Int).toNat
      omega
    · have hk2 : kk = 67 := by omega
      clear hlt
      subst hk2
      go_wp2_with fail
      refine (New_any _ false).mono ?_
      intro e w8 h
      obtain ⟨g, he, n8⟩ := h
      subst he
      have E8 : Hid (Env w ((g, 66, mC 0) :: [(gb, 3, cur), (ga, 3, intC D), (g11, 23, keyC v), (g7, 23, keyC tag), (g6, 23, keyC d)]) w8) := E.out.new n8
      clear n8 E
      go_wp2_with (first
        | ((with_reducible refine wpE_box (o := ⟨some 60, _, _, _, _, _⟩) rfl 32 (.tmp 59) rfl (logC 0) (by with_unfolding_all rfl) E8.out ?_); intro gl w9 T9; have E9 := Lib.hid T9; clear T9)
        | (with_reducible refine wpE_load (o := ⟨some 62, _, _, _, _, _⟩) rfl 23 (.tmp 7) rfl 5 g7 23 (keyC tag) _ (by with_unfolding_all rfl) (by with_unfolding_all rfl) Tryd.underlying23 rfl (Tryd.sizeKey _ LT.out) E9.out ?_)
        | (with_reducible refine wpE_load (o := ⟨some 66, _, _, _, _, _⟩) rfl 23 (.tmp 11) rfl 4 g11 23 (keyC v) _ (by with_unfolding_all rfl) (by with_unfolding_all rfl) Tryd.underlying23 rfl (Tryd.sizeKey _ LV.out) E9.out ?_))
      refine (C1.out _ _ 1 g 0 (by omega) E9.out rfl).mono ?_
      intro e w10 h
      obtain ⟨he, h10⟩ := h
      subst he
      simp only [List.set_cons_zero, List.set_cons_succ] at h10
      have E10 := Lib.hid h10
      clear h10 E9 E8
      go_wp2_with (first
        | ((with_reducible refine wpE_alloc (o := ⟨some 19, _, _, _, _, _⟩) rfl 23 rfl (keyC zeroKey) Tryd.zeroK E10.out ?_); intro g19 w11 T11; have E11 := Lib.hid T11; clear T11)
        | ((with_reducible refine wpE_store (o := ⟨none, _, _, _, _, _⟩) rfl 23 (.tmp 19) (.tmp 67) rfl 0 g19 23 (keyC zeroKey) (keyC a) (by with_unfolding_all rfl) (by with_unfolding_all rfl) (by with_unfolding_all rfl) (keyC_same zeroKey_length LA.out) (Tryd.sizeKey _ LA.out) (keyC_one _) E11.out ?_); intro w12 T12; simp only [List.set_cons_zero] at T12; have E12 := Lib.hid T12; clear T12))
      clear E10 E11
      have SUB : ∀ y n', Env w ((g19, 23, keyC a) :: (gl, 32, logC n') :: (g, 66, mC (0 + k)) :: [(gb, 3, cur), (ga, 3, intC D), (g11, 23, keyC v), (g7, 23, keyC tag), (g6, 23, keyC d)]) y → Env w [(g19, 23, keyC a), (g11, 23, keyC v), (g7, 23, keyC tag)] y := fun y n' h => h.less (.cons_cons _ (.cons _ (.cons _ (.cons _ (.cons _ (.cons_cons _ (.cons_cons _ (.cons _ .slnil))))))))
      have HSUB := Lib.hid SUB
      clear SUB
      refine plain_region (S := fun y => Env w [(g19, 23, keyC a), (g11, 23, keyC v), (g7, 23, keyC tag)] y) (fin := fun _ => false) (by kernel_rfl) ?_
      have hS := HSUB.out _ _ E12.out.drew
      change walkS _ _ _ _ _ _ 13 _ _ _
      refine walkS_take (i := 0) (oi := ⟨some 68, _, _, _, _, _⟩) (v := .bool true) rfl (by kernel_rfl) (by kernel_rfl) (fun _ _ _ h => h) _ _ _ _ (by kernel_rfl) (by kernel_rfl) (Or.inl ⟨by rfl, fun w' hS' => (by first | rfl | (clear hS hS'; go_simp))⟩) hS ?_
      try simp only [Act.put, List.setIfInBounds_toArray, List.set_cons_zero, List.set_cons_succ]
      refine walkS_take (i := 1) (oi := ⟨some 69, _, _, _, _, _⟩) (v := .bool true) rfl (by kernel_rfl) (by kernel_rfl) (fun _ _ _ h => h) _ _ _ _ (by kernel_rfl) (by kernel_rfl) (Or.inl ⟨by rfl, fun w' hS' => (by first | rfl | (clear hS hS'; go_simp))⟩) hS ?_
      try simp only [Act.put, List.setIfInBounds_toArray, List.set_cons_zero, List.set_cons_succ]
      refine walkS_take (i := 2) (oi := ⟨some 70, _, _, _, _, _⟩) (v := .agg (keyC a)) rfl (by kernel_rfl) (by kernel_rfl) (fun _ _ _ h => h) _ _ _ _ (by kernel_rfl) (by kernel_rfl) (Or.inl ⟨by rfl, fun w' hS' => (run_load_row 23 (.tmp 19) rfl g19 rfl 23 (keyC a) (0, 0) _ (hS'.row 0 rfl) Tryd.underlying23 rfl (Tryd.sizeKey a LA.out))⟩) hS ?_
      try simp only [Act.put, List.setIfInBounds_toArray, List.set_cons_zero, List.set_cons_succ]
      refine walkS_take (i := 3) (oi := ⟨some 71, _, _, _, _, _⟩) (v := .pointer (some ⟨gl, 0, none⟩)) rfl (by kernel_rfl) (by kernel_rfl) (fun _ _ _ h => h) _ _ _ _ (by kernel_rfl) (by kernel_rfl) (Or.inl ⟨by rfl, fun w' hS' => (by first | rfl | (clear hS hS'; go_simp))⟩) hS ?_
      try simp only [Act.put, List.setIfInBounds_toArray, List.set_cons_zero, List.set_cons_succ]
      refine walkS_take (i := 4) (oi := ⟨some 72, _, _, _, _, _⟩) (v := .agg (keyC tag)) rfl (by kernel_rfl) (by kernel_rfl) (fun _ _ _ h => h) _ _ _ _ (by kernel_rfl) (by kernel_rfl) (Or.inl ⟨by rfl, fun w' hS' => (run_load_row 23 (.tmp 7) rfl g7 rfl 23 (keyC tag) (0, 0) _ (hS'.row 2 rfl) Tryd.underlying23 rfl (Tryd.sizeKey tag LT.out))⟩) hS ?_
      try simp only [Act.put, List.setIfInBounds_toArray, List.set_cons_zero, List.set_cons_succ]
      refine walkS_take (i := 5) (oi := ⟨some 73, _, _, _, _, _⟩) (v := .int .i64 c) rfl (by kernel_rfl) (by kernel_rfl) (fun _ _ _ h => h) _ _ _ _ (by kernel_rfl) (by kernel_rfl) (Or.inl ⟨by rfl, fun w' hS' => (by first | rfl | (clear hS hS'; go_simp))⟩) hS ?_
      try simp only [Act.put, List.setIfInBounds_toArray, List.set_cons_zero, List.set_cons_succ]
      refine walkS_take (i := 6) (oi := ⟨some 74, _, _, _, _, _⟩) (v := .int .i64 i) rfl (by kernel_rfl) (by kernel_rfl) (fun _ _ _ h => h) _ _ _ _ (by kernel_rfl) (by kernel_rfl) (Or.inl ⟨by rfl, fun w' hS' => (by first | rfl | (clear hS hS'; go_simp))⟩) hS ?_
      try simp only [Act.put, List.setIfInBounds_toArray, List.set_cons_zero, List.set_cons_succ]
      refine walkS_take (i := 7) (oi := ⟨some 75, _, _, _, _, _⟩) (v := .int .i64 j) rfl (by kernel_rfl) (by kernel_rfl) (fun _ _ _ h => h) _ _ _ _ (by kernel_rfl) (by kernel_rfl) (Or.inl ⟨by rfl, fun w' hS' => (by first | rfl | (clear hS hS'; go_simp))⟩) hS ?_
      try simp only [Act.put, List.setIfInBounds_toArray, List.set_cons_zero, List.set_cons_succ]
      refine walkS_take (i := 8) (oi := ⟨some 76, _, _, _, _, _⟩) (v := .agg (keyC v)) rfl (by kernel_rfl) (by kernel_rfl) (fun _ _ _ h => h) _ _ _ _ (by kernel_rfl) (by kernel_rfl) (Or.inl ⟨by rfl, fun w' hS' => (run_load_row 23 (.tmp 11) rfl g11 rfl 23 (keyC v) (0, 0) _ (hS'.row 1 rfl) Tryd.underlying23 rfl (Tryd.sizeKey v LV.out))⟩) hS ?_
      try simp only [Act.put, List.setIfInBounds_toArray, List.set_cons_zero, List.set_cons_succ]
      clear hS
      refine walkS_onlyG (i := 9) (o := ⟨some 77, _, _, _, _, _⟩) (by kernel_rfl) rfl (by go_simp) fun KK hKK => ?_
      go_simp
      refine (C2.out _ _ 1 gl 0 (by omega) E12.out.drew rfl).mono ?_
      intro e w13 h
      obtain ⟨he, h13⟩ := h
      subst he
      simp only [List.set_cons_zero, List.set_cons_succ] at h13
      have E13 := Lib.hid h13
      clear h13 E12
      have hS := HSUB.out _ _ E13.out
      refine hKK _ _ (.inr hS) ?_
      clear hKK KK
      try simp only [Act.put, List.setIfInBounds_toArray, List.set_cons_zero, List.set_cons_succ]
      refine walkS_take (i := 10) (oi := ⟨some 78, _, _, _, _, _⟩) (v := .bool true) rfl (by kernel_rfl) (by kernel_rfl) (fun _ _ _ h => h) _ _ _ _ (by kernel_rfl) (by kernel_rfl) (Or.inl ⟨by go_simp, fun w' hS' => (by have he := HQA.out; have hgd := Tryd.eqGuardKey; clear hS hS'; go_simp)⟩) hS ?_
      try simp only [Act.put, List.setIfInBounds_toArray, List.set_cons_zero, List.set_cons_succ]
      refine walkS_take (i := 11) (oi := ⟨some 79, _, _, _, _, _⟩) (v := .bool true) rfl (by kernel_rfl) (by kernel_rfl) (fun _ _ _ h => h) _ _ _ _ (by kernel_rfl) (by kernel_rfl) (Or.inl ⟨by rfl, fun w' hS' => (by clear hS hS'; go_simp)⟩) hS ?_
      try simp only [Act.put, List.setIfInBounds_toArray, List.set_cons_zero, List.set_cons_succ]
      refine walkS_take (i := 12) (oi := ⟨some 12, _, _, _, _, _⟩) (v := .bool true) rfl (by kernel_rfl) (by kernel_rfl) (fun _ _ _ h => h) _ _ _ _ (by kernel_rfl) (by kernel_rfl) (Or.inl ⟨by rfl, fun w' hS' => (by clear hS hS'; go_simp)⟩) hS ?_
      try simp only [Act.put, List.setIfInBounds_toArray, List.set_cons_zero, List.set_cons_succ]
      refine walkS_done (by kernel_rfl) ?_ _
      clear hS
      go_wp2_with fail
      go_ret
      exact E13.out.ret _
end Go.Proofs.YtfnmglicfgkmjaaDoor
end
section
namespace Go.Proofs.YtfnmglicfgkmjaaDoor.otsDigits
open Go.ChangeShapes Go.WideShapes Go.ChangeAt Go.RowKit
open Go.ChangeMaps (open_string shut_string)
set_option linter.unusedVariables false

theorem own : ownKnob Tryd.prog.godebug = none := by kernel_rfl
theorem laidOut : laidOutB Tryd.prog = true := by kernel_rfl

theorem laid_met (os : Os) : laidMet Tryd.prog Rows.otsDigitsRow.laid ((laidWorld os).forCall (fun _ _ => 0) ⟨#[], #[.agg (List.replicate 32 (Value.int .u8 0)).toArray, .agg (List.replicate 32 (Value.int .u8 0)).toArray, .int .i64 0, .int .i64 0, .int .i64 0, .agg (List.replicate 32 (Value.int .u8 0)).toArray], []⟩).memory :=
  laidMet_of_run' 8 (by kernel_rfl) (by kernel_rfl)
theorem reads (os : Os) {H : Type} (enc : TypeId × Value → H) : ∃ places, DataW.whole enc Tryd.prog ((laidWorld os).forCall (fun _ _ => 0) ⟨#[], #[.agg (List.replicate 32 (Value.int .u8 0)).toArray, .agg (List.replicate 32 (Value.int .u8 0)).toArray, .int .i64 0, .int .i64 0, .int .i64 0, .agg (List.replicate 32 (Value.int .u8 0)).toArray], []⟩).memory Tryd.f3.params.toList Rows.otsDigitsSpec.vars false #[.agg (List.replicate 32 (Value.int .u8 0)).toArray, .agg (List.replicate 32 (Value.int .u8 0)).toArray, .int .i64 0, .int .i64 0, .int .i64 0, .agg (List.replicate 32 (Value.int .u8 0)).toArray].toList 8 = some ([.agg (List.replicate 32 (.lit (.int .u8 0))), .agg (List.replicate 32 (.lit (.int .u8 0))), .lit (.int .i64 0), .lit (.int .i64 0), .lit (.int .i64 0), .agg (List.replicate 32 (.lit (.int .u8 0)))], [], places) :=
  ⟨[], by kernel_rfl⟩

set_option maxRecDepth 100000 in
theorem contract (H : Type) (enc : TypeId × Value → H) (W : World) (base : Nat) (args : Array Value) (ds gs : List (DataW H)) (before : List MemPlace)
    (hval0 : ∀ (j : Nat) t v, Tryd.f3.params[j]? = some t → args[j]? = some v → Value.okWide Tryd.prog W .any base t v)
    (hW : DataW.Whole enc Tryd.prog Tryd.f3.params.toList Rows.otsDigitsSpec.vars false W args.toList ds gs before) (hL : laidMetH Tryd.prog Rows.otsDigitsRow.laid W) :
    Calls Tryd.prog 3 args W fun e W' => ∃ v, e = .returned v ∧ Rows.otsDigitsSpec.post enc Tryd.prog Tryd.f3 false true false false W args v W' := by
  have hq := tables hL
  have hval : ∀ (j : Nat) t v, Tryd.f3.params[j]? = some t → args[j]? = some v → Value.okWide Tryd.prog W .any base t v := hval0
  have hW' := hW
  obtain ⟨p, q, hA0, hV, rfl, hfz, hnd⟩ := hW
  have hA : DataW.TrodAll enc Tryd.prog W 0 (fun _ => true) true Tryd.f3.params.toList args.toList ds p := hA0
  rw [Tryd.params3] at hA hval
  obtain ⟨v0, vs0, d0, ds0, p0, q0, hargs, rfl, rfl, h0, r0⟩ := trodAll_cons hA
  obtain ⟨v1, vs1, d1, ds1, p1, q1, rfl, rfl, rfl, h1, r1⟩ := trodAll_cons r0
  obtain ⟨v2, vs2, d2, ds2, p2, q2, rfl, rfl, rfl, h2, r2⟩ := trodAll_cons r1
  obtain ⟨v3, vs3, d3, ds3, p3, q3, rfl, rfl, rfl, h3, r3⟩ := trodAll_cons r2
  obtain ⟨v4, vs4, d4, ds4, p4, q4, rfl, rfl, rfl, h4, r4⟩ := trodAll_cons r3
  obtain ⟨v5, vs5, d5, ds5, p5, q5, rfl, rfl, rfl, h5, r5⟩ := trodAll_cons r4
  obtain ⟨rfl, rfl, rfl⟩ := trodAll_nil r5
  obtain rfl : args = #[v0, v1, v2, v3, v4, v5] := by cases args; simp_all
  obtain ⟨rfl, rfl⟩ := trodVars_none hV
  have k0 := h0
  have lt0 : ∀ x ∈ p0, x.block < W.heap.size := by obtain ⟨m, hm⟩ := k0; exact DataW.trod_lt m _ _ _ hm
  obtain ⟨l0, rfl, w0⟩ := open_key Tryd.underlying23 Tryd.underlying5 (by kernel_rfl) (by kernel_rfl) (hval 0 23 v0 rfl rfl) h0
  have k1 := h1
  have lt1 : ∀ x ∈ p1, x.block < W.heap.size := by obtain ⟨m, hm⟩ := k1; exact DataW.trod_lt m _ _ _ hm
  obtain ⟨l1, rfl, w1⟩ := open_key Tryd.underlying23 Tryd.underlying5 (by kernel_rfl) (by kernel_rfl) (hval 1 23 v1 rfl rfl) h1
  obtain ⟨a2, rfl, rfl, rfl, w2⟩ := open_int Tryd.underlying3 (hval 2 3 v2 rfl rfl) h2
  obtain ⟨a3, rfl, rfl, rfl, w3⟩ := open_int Tryd.underlying3 (hval 3 3 v3 rfl rfl) h3
  obtain ⟨a4, rfl, rfl, rfl, w4⟩ := open_int Tryd.underlying3 (hval 4 3 v4 rfl rfl) h4
  have k5 := h5
  have lt5 : ∀ x ∈ p5, x.block < W.heap.size := by obtain ⟨m, hm⟩ := k5; exact DataW.trod_lt m _ _ _ hm
  obtain ⟨l5, rfl, w5⟩ := open_key Tryd.underlying23 Tryd.underlying5 (by kernel_rfl) (by kernel_rfl) (hval 5 23 v5 rfl rfl) h5
  clear hA0 hval0
  refine (otsDigits_walk W hq l0 w0 l1 w1 a2 (i64_of_wf w2) a3 (i64_of_wf w3) a4 (i64_of_wf w4) l5 w5).mono fun e W' ⟨he, bel⟩ => ?_
  subst he
  exact ⟨_, rfl, _, _, _, [], _, [], hW', trodAll_mk1 (shut_bool Tryd.underlying4 _), (trodAll_cons_mk (Below.trod laidOut (by kernel_rfl) (of_decide_eq_true (by kernel_rfl)) k0 bel lt0) (trodAll_cons_mk (Below.trod laidOut (by kernel_rfl) (of_decide_eq_true (by kernel_rfl)) k1 bel lt1) (trodAll_cons_mk (shut_int Tryd.underlying3 w2) (trodAll_cons_mk (shut_int Tryd.underlying3 w3) (trodAll_cons_mk (shut_int Tryd.underlying3 w4) (trodAll_cons_mk (Below.trod laidOut (by kernel_rfl) (of_decide_eq_true (by kernel_rfl)) k5 bel lt5) trodAll_mk0)))))), rfl, bel.frame _, fun h => by cases h⟩

set_option maxRecDepth 100000 in
theorem lifted (os : Os) (started : os.Started) (H : Type) (enc : TypeId × Value → H) (F : Stop.Interp) :
    ReturnsInHanded {} Tryd.checked os 3 .any ((OpenSpec.ofChange Rows.otsDigitsSpec).preRow enc Tryd.prog Tryd.f3 Rows.otsDigitsRow.domain false Rows.otsDigitsRow.laid) (((OpenSpec.ofChange Rows.otsDigitsSpec).at F).post enc Tryd.prog Tryd.f3 false true false false) := by
  obtain ⟨places, hx⟩ := reads os enc
  refine returnsInHanded_of_row (C := Tryd.checked) (s := OpenSpec.ofChange Rows.otsDigitsSpec) own started (by kernel_rfl) Tryd.func3
    (witness_row_at (enc := enc) (C := Tryd.checked) false (laidWorld os) #[.agg (List.replicate 32 (Value.int .u8 0)).toArray, .agg (List.replicate 32 (Value.int .u8 0)).toArray, .int .i64 0, .int .i64 0, .int .i64 0, .agg (List.replicate 32 (Value.int .u8 0)).toArray] rfl (by kernel_rfl) (by kernel_rfl) (by kernel_rfl)
      (OpenSpec.preRow_of_cond 8 hx (by kernel_rfl) (fun k hk => by cases hk) (by kernel_rfl) (laid_met os))) ?_
  intro W base args ds gs before hval hW _ _ _ hL _ _
  exact contract H enc W base args ds gs before hval hW hL

theorem said : Rows.OtsDigitsSaid :=
  OpenClaim.holds_of_cond 3 Tryd.f3 rfl rfl rfl rfl rfl rfl rfl ⟨rfl, rfl, rfl, rfl, rfl⟩ rfl rfl rfl rfl rfl (by kernel_rfl) Tryd.func3 (by kernel_rfl)
    (of_decide_eq_true (by kernel_rfl)) (by unfold Func.isWrapper; first | (rw [if_pos (by decide +kernel)]; kernel_rfl) | (rw [if_neg (by decide +kernel)]; exact ⟨rfl, rfl⟩))
    (fun os started H enc _ F => by rw [OpenClaim.pre_eq_preRow]; exact lifted os started H enc F)

theorem noStand : (Tryd.f3.params.toList.all fun t => Tryd.prog.wantsStandIn t == false) = true := by kernel_rfl
theorem plain (f : FuncId) (fn : Func) (hf : Tryd.pinned.checked.prog.funcNamed "cablegram/cablegramlaw08.OtsDigits" = some f) (hfn : Tryd.pinned.checked.prog.funcs[f]? = some fn) :
    false = Tryd.pinned.checked.prog.looks [] ∧ ∀ (j : Nat) t, fn.params[j]? = some t → Tryd.pinned.checked.prog.wantsStandIn t = false := by
  obtain rfl : f = 3 := Option.some.inj ((show Tryd.prog.funcNamed "cablegram/cablegramlaw08.OtsDigits" = some 3 by kernel_rfl).symm.trans hf) |>.symm
  obtain rfl : fn = Tryd.f3 := (Option.some.inj (Tryd.func3.symm.trans hfn)).symm
  refine ⟨by kernel_rfl, fun j t ht => ?_⟩
  have hm : t ∈ Tryd.f3.params.toList := by simpa using Array.mem_of_getElem? ht
  exact beq_iff_eq.1 (List.all_eq_true.1 noStand t hm)

theorem proved : Rows.OtsDigitsCardSaid :=
  Claim7.holds_tied_plain_at .later [] _ _ _ _ said (fun _ h => by cases h) (by kernel_rfl) (fun _ h => by cases h) otsDigits_row_tie rfl ⟨rfl, rfl⟩ (by kernel_rfl) rfl plain (by kernel_rfl)
#print axioms proved
end Go.Proofs.YtfnmglicfgkmjaaDoor.otsDigits
end
