/-
  DrawsAgain: for every input the call returns true, and each argument reads as it read before. Conditions: none beyond the given statement's own (the package-level tables that its row lists hold what the program's text lays: the card ties that).
-/
import Derived.Test.YtjlhmcnajgafgaaDoorQDrwAL
import Derived.Test.YtjlhmcnajgafgaaDoorQDrwAB
import Derived.ProofKit
import Derived.OpenShut
import Derived.ShutString
import Derived.ChangeOld
import Derived.Deep.DeepHandedRow
section
namespace Go.Proofs.YtjlhmcnajgafgaaDoor
open Go.RowKit
set_option linter.unusedVariables false
set_option maxRecDepth 20000

set_option maxHeartbeats 8000000 in
theorem drawsAgain_walk (w : World) (hq : Tabs w) (s : List UInt8) (hs : s.length = 32) (n : Nat) (hn : n < 18446744073709551616) (one : ByteArray) (h1 : one.size ≤ maxLen) (two3 : ByteArray) (h2 : two3.size ≤ maxLen) (thr : ByteArray) (h3 : thr.size ≤ maxLen) :
    Calls Tryd.prog 4 #[.agg (keyC s), .int .u64 (n : Int), .string one, .string two3, .string thr] w (RetV w (.bool true)) := by
  have HQ := Lib.hid hq
  have E0 := Lib.hid (Env.start w)
  have LS := Lib.hid hs
  have CW : Hid (∀ x, Below w.heap.size w x → Calls Tryd.prog 5 #[] x (RetV x (.bool true))) := fun x hx => drawsAwake_any x (HQ.out.below hx)
  clear hq hs
  by_cases hA : 1152921504606846976 < n
  · have dhA : decide (1152921504606846976 < n) = true := by simpa using hA
    go_enter Tryd.func4, Tryd.ntmps4
    go_wp2_with ((with_reducible refine wpE_box (o := ⟨some 5, _, _, _, _, _⟩) rfl 23 (.tmp 0) rfl (keyC s) (by with_unfolding_all rfl) E0.out ?_); intro g5 w1 T1; have E1 := Lib.hid T1; clear T1)
    refine (CW.out _ E1.out.below).mono ?_
    rintro e w4 ⟨rfl, b4⟩
    have E4 := Lib.hid (E1.out.call b4)
    clear b4 E1
    go_wp2_with fail
    go_ret
    exact E4.out.ret _
  have dhA : decide (1152921504606846976 < n) = false := by simpa using hA
  by_cases hB : 50 < one.size
  · have dhB : decide (50 < one.size) = true := by simpa using hB
    go_enter Tryd.func4, Tryd.ntmps4
    go_wp2_with ((with_reducible refine wpE_box (o := ⟨some 5, _, _, _, _, _⟩) rfl 23 (.tmp 0) rfl (keyC s) (by with_unfolding_all rfl) E0.out ?_); intro g5 w1 T1; have E1 := Lib.hid T1; clear T1)
    refine (CW.out _ E1.out.below).mono ?_
    rintro e w4 ⟨rfl, b4⟩
    have E4 := Lib.hid (E1.out.call b4)
    clear b4 E1
    go_wp2_with fail
    go_ret
    exact E4.out.ret _
  have dhB : decide (50 < one.size) = false := by simpa using hB
  by_cases hC : 50 < two3.size
  · have dhC : decide (50 < two3.size) = true := by simpa using hC
    go_enter Tryd.func4, Tryd.ntmps4
    go_wp2_with ((with_reducible refine wpE_box (o := ⟨some 5, _, _, _, _, _⟩) rfl 23 (.tmp 0) rfl (keyC s) (by with_unfolding_all rfl) E0.out ?_); intro g5 w1 T1; have E1 := Lib.hid T1; clear T1)
    refine (CW.out _ E1.out.below).mono ?_
    rintro e w4 ⟨rfl, b4⟩
    have E4 := Lib.hid (E1.out.call b4)
    clear b4 E1
    go_wp2_with fail
    go_ret
    exact E4.out.ret _
  have dhC : decide (50 < two3.size) = false := by simpa using hC
  by_cases hD : 50 < thr.size
  · have dhD : decide (50 < thr.size) = true := by simpa using hD
    go_enter Tryd.func4, Tryd.ntmps4
    go_wp2_with ((with_reducible refine wpE_box (o := ⟨some 5, _, _, _, _, _⟩) rfl 23 (.tmp 0) rfl (keyC s) (by with_unfolding_all rfl) E0.out ?_); intro g5 w1 T1; have E1 := Lib.hid T1; clear T1)
    refine (CW.out _ E1.out.below).mono ?_
    rintro e w4 ⟨rfl, b4⟩
    have E4 := Lib.hid (E1.out.call b4)
    clear b4 E1
    go_wp2_with fail
    go_ret
    exact E4.out.ret _
  have dhD : decide (50 < thr.size) = false := by simpa using hD
  have HN : Hid (n ≤ 1152921504606846976) := by show _ ≤ _; omega
  have HL : Hid (∀ l ∈ [one, two3, thr], l.size ≤ 1000) := fun l hl => by
    simp only [List.mem_cons, List.not_mem_nil, or_false] at hl
    rcases hl with rfl | rfl | rfl <;> omega
  have L1 : Hid (one.size ≤ 1000) := HL.out one (by simp)
  have L2 : Hid (two3.size ≤ 1000) := HL.out two3 (by simp)
  have L3 : Hid (thr.size ≤ 1000) := HL.out thr (by simp)
  obtain ⟨a, ha⟩ : ∃ a, a = drawB s (n + 0) one := ⟨_, rfl⟩
  obtain ⟨b, hb⟩ : ∃ b, b = drawB s (n + 1) two3 := ⟨_, rfl⟩
  obtain ⟨c, hc⟩ : ∃ c, c = drawB s (n + 2) thr := ⟨_, rfl⟩
  have LA : Hid (a.length = 32) := by show _ = _; rw [ha]; exact drawB_length _ _ _
  have LB : Hid (b.length = 32) := by show _ = _; rw [hb]; exact drawB_length _ _ _
  have LC : Hid (c.length = 32) := by show _ = _; rw [hc]; exact drawB_length _ _ _
  have HD : Hid (drawsB s n [one, two3, thr] 3 = [a, b, c]) := by show _ = _; rw [ha, hb, hc]; rfl
  have LALL : Hid (∀ l ∈ [a, b, c], l.length = 32) := fun l hl => by
    simp only [List.mem_cons, List.not_mem_nil, or_false] at hl
    rcases hl with rfl | rfl | rfl
    · exact LA.out
    · exact LB.out
    · exact LC.out
  obtain ⟨n3, hn3⟩ : ∃ n3, n3 = n + 3 := ⟨_, rfl⟩
  have hw3 : IntKind.u64.wrap ((n : Int) + 3) = (n3 : Int) := by rw [IntKind.wrap_u64]; omega
  have HN3 := Lib.hid hn3
  have N0 : Hid (∀ x rs m i gm gs k, Env w rs x → rs[m]? = some (gm, 65, mC k) → k ≤ 100 → rs[i]? = some (gs, 35, srcC s (n + 0)) → Calls Tryd.prog 7 #[.pointer (some ⟨gs, 0, none⟩), .pointer (some ⟨gm, 0, none⟩), .string one] x fun e w' => ∃ k', k' ≤ k + 3 ∧ e = .returned (.tuple #[.agg (keyC a), .int .i64 0]) ∧ Env w ((rs.set m (gm, 65, mC k')).set i (gs, 35, srcC s (n + 1))) w') := fun x rs m i gm gs k h1 h2 h3 h4 => by
    rw [ha]
    exact next_env w x (HQ.out) rs m gm k i gs h1 h2 (by omega) s (n + 0) LS.out h4 (by have := HN.out; omega) one L1.out
  have N1 : Hid (∀ x rs m i gm gs k, Env w rs x → rs[m]? = some (gm, 65, mC k) → k ≤ 100 → rs[i]? = some (gs, 35, srcC s (n + 1)) → Calls Tryd.prog 7 #[.pointer (some ⟨gs, 0, none⟩), .pointer (some ⟨gm, 0, none⟩), .string two3] x fun e w' => ∃ k', k' ≤ k + 3 ∧ e = .returned (.tuple #[.agg (keyC b), .int .i64 0]) ∧ Env w ((rs.set m (gm, 65, mC k')).set i (gs, 35, srcC s (n + 2))) w') := fun x rs m i gm gs k h1 h2 h3 h4 => by
    rw [hb]
    exact next_env w x (HQ.out) rs m gm k i gs h1 h2 (by omega) s (n + 1) LS.out h4 (by have := HN.out; omega) two3 L2.out
  have N2 : Hid (∀ x rs m i gm gs k, Env w rs x → rs[m]? = some (gm, 65, mC k) → k ≤ 100 → rs[i]? = some (gs, 35, srcC s (n + 2)) → Calls Tryd.prog 7 #[.pointer (some ⟨gs, 0, none⟩), .pointer (some ⟨gm, 0, none⟩), .string thr] x fun e w' => ∃ k', k' ≤ k + 3 ∧ e = .returned (.tuple #[.agg (keyC c), .int .i64 0]) ∧ Env w ((rs.set m (gm, 65, mC k')).set i (gs, 35, srcC s n3)) w') := fun x rs m i gm gs k h1 h2 h3 h4 => by
    rw [hc, hn3]
    exact next_env w x (HQ.out) rs m gm k i gs h1 h2 (by omega) s (n + 2) LS.out h4 (by have := HN.out; omega) thr L3.out
  have CS : Hid (∀ x rs m i j gm gs lb k, Env w rs x → rs[m]? = some (gm, 65, mC k) → k ≤ 100 → rs[i]? = some (gs, 35, srcC s n) → rs[j]? = some (lb, 9, labC [one, two3, thr]) → Calls Tryd.prog 9 #[.pointer (some ⟨gs, 0, none⟩), .pointer (some ⟨gm, 0, none⟩), .slice (some ⟨lb, 0, none⟩) 3 3] x fun e w' => ∃ v k' ex, k' ≤ k + 9 ∧ e = .returned (.tuple #[v, .int .i64 0]) ∧ exRow v [a, b, c] (topOf rs) ex ∧ Env w ((rs.set m (gm, 65, mC k')).set i (gs, 35, srcC s n3) ++ ex) w') := fun x rs m i j gm gs lb k h1 h2 h3 h4 h5 => by
    refine (some_env w x HQ.out rs m gm k i gs h1 h2 (by omega) s n LS.out h4 j lb [one, two3, thr] h5 (by simp) HL.out (by have := HN.out; simp; omega)).mono fun e w' h => ?_
    obtain ⟨v, k', ex, q1, q2, q3, q4⟩ := h
    rw [HN3.out, ← HD.out]
    exact ⟨v, k', ex, q1, q2, q3, q4⟩
  have CK : Hid (∀ x va vb, Kl x va [a, b, c] → Kl x vb [a, b, c] → Calls Tryd.prog 13 #[va, vb] x fun e w' => e = .returned (.bool true) ∧ Below x.heap.size x w') := fun x va vb h1 h2 => by
    have h := refKeys_eq x va vb _ _ h1 h2 (by simp)
    rwa [beq_self_eq_true] at h
  clear ha hb hc hn3 HD h1 h2 h3 hn
  go_enter Tryd.func4, Tryd.ntmps4
  go_wp2_with ((with_reducible refine wpE_box (o := ⟨some 5, _, _, _, _, _⟩) rfl 23 (.tmp 0) rfl (keyC s) (by with_unfolding_all rfl) E0.out ?_); intro g5 w1 T1; have E1 := Lib.hid T1; clear T1)
  refine (CW.out _ E1.out.below).mono ?_
  rintro e w2 ⟨rfl, b2⟩
  have E2 := Lib.hid (E1.out.call b2)
  clear b2 E1 E0 CW
  go_wp2_with fail
  refine (New_any _ false).mono ?_
  intro e w3 h
  obtain ⟨g, he, n1⟩ := h
  subst he
  have E3 : Hid (Env w [(g, 65, mC 0), (g5, 23, keyC s)] w3) := E2.out.new n1
  clear n1 E2
  go_wp2_with (first
    | (with_reducible refine wpE_load (o := ⟨some 44, _, _, _, _, _⟩) rfl 23 (.tmp 5) rfl 1 g5 23 (keyC s) _ (by with_unfolding_all rfl) (by with_unfolding_all rfl) Tryd.underlying23 rfl (Tryd.sizeKey _ LS.out) E3.out ?_)
    | (with_reducible refine wpList_bSrc (o := ⟨some 46, _, _, _, _, _⟩) rfl (.tmp 44) (.tmp 45) rfl s n (by with_unfolding_all rfl) (by with_unfolding_all rfl) LS.out ?_)
    | ((with_reducible refine wpE_box (o := ⟨some 47, _, _, _, _, _⟩) rfl 35 (.tmp 46) rfl (srcC s n) (by with_unfolding_all rfl) E3.out ?_); intro gs w4 T4; have E4 := Lib.hid T4; clear T4)
    | (with_reducible refine wpE_load (o := ⟨some 48, _, _, _, _, _⟩) rfl 23 (.tmp 5) rfl 2 g5 23 (keyC s) _ (by with_unfolding_all rfl) (by with_unfolding_all rfl) Tryd.underlying23 rfl (Tryd.sizeKey _ LS.out) E4.out ?_)
    | (with_reducible refine wpList_bSrc0 (o := ⟨some 49, _, _, _, _, _⟩) rfl (.tmp 48) rfl s (by with_unfolding_all rfl) LS.out ?_)
    | ((with_reducible refine wpE_box (o := ⟨some 50, _, _, _, _, _⟩) rfl 35 (.tmp 49) rfl (srcC s 0) (by with_unfolding_all rfl) E4.out ?_); intro gt w5 T5; have E5 := Lib.hid T5; clear T5))
  refine (jump_env w _ _ 0 gt E5.out s 0 LS.out rfl n (by omega)).mono ?_
  intro e w6 h
  obtain ⟨he, h6⟩ := h
  subst he
  simp only [List.set_cons_zero] at h6
  have E6 := Lib.hid h6
  clear h6 E5 E4 E3
  go_wp2_with fail
  have E7 : Hid (Env w [(w6.heap.size, 9, labC [one, two3, thr]), (gt, 35, srcC s n), (gs, 35, srcC s n), (g, 65, mC 0), (g5, 23, keyC s)] (w6.alloc (.cells #[.string one, .string two3, .string thr] 9))) := E6.out.new (NewRow.mk_ w6 9 #[.string one, .string two3, .string thr])
  refine (CS.out _ _ 3 2 0 g gs w6.heap.size 0 E7.out rfl (by omega) rfl rfl).mono ?_
  intro e w8 h
  obtain ⟨v, k8, ex, hk8, he, hX, h8⟩ := h
  subst he
  simp only [List.set_cons_zero, List.set_cons_succ, List.cons_append, List.nil_append] at h8
  have X := Lib.hid hX
  have E8 := Lib.hid h8
  clear hX h8 E7 E6 CS
  generalize w6.heap.size = lb at E8 ⊢
  generalize topOf _ = base at X
  go_wp2_with fail
  refine (N0.out _ _ 3 1 g gt k8 E8.out rfl (by omega) rfl).mono ?_
  intro e v0 h
  obtain ⟨k0, hk0, he, h9⟩ := h
  subst he
  simp only [List.set_cons_zero, List.set_cons_succ] at h9
  have F0 := Lib.hid h9
  clear h9 E8
  go_wp2_with (first
    | ((with_reducible refine wpE_alloc (o := ⟨some 18, _, _, _, _, _⟩) rfl 23 rfl (keyC zeroKey) Tryd.zeroK F0.out ?_); intro g18 x0 T; have G0 := Lib.hid T; clear T)
    | ((with_reducible refine wpE_store (o := ⟨none, _, _, _, _, _⟩) rfl 23 (.tmp 18) (.tmp 69) rfl 0 g18 23 (keyC zeroKey) (keyC a) (by with_unfolding_all rfl) (by with_unfolding_all rfl) (by with_unfolding_all rfl) (keyC_same zeroKey_length LA.out) (Tryd.sizeKey _ LA.out) (keyC_one _) G0.out ?_); intro y0 T; simp only [List.set_cons_zero] at T; have H0 := Lib.hid T; clear T G0))
  go_wp2_with fail
  refine (N1.out _ _ 4 2 g gt k0 H0.out rfl (by omega) rfl).mono ?_
  intro e v1 h
  obtain ⟨k1, hk1, he, h9⟩ := h
  subst he
  simp only [List.set_cons_zero, List.set_cons_succ] at h9
  have F1 := Lib.hid h9
  clear h9 H0
  go_wp2_with (first
    | ((with_reducible refine wpE_alloc (o := ⟨some 20, _, _, _, _, _⟩) rfl 23 rfl (keyC zeroKey) Tryd.zeroK F1.out ?_); intro g20 x1 T; have G1 := Lib.hid T; clear T)
    | ((with_reducible refine wpE_store (o := ⟨none, _, _, _, _, _⟩) rfl 23 (.tmp 20) (.tmp 76) rfl 0 g20 23 (keyC zeroKey) (keyC b) (by with_unfolding_all rfl) (by with_unfolding_all rfl) (by with_unfolding_all rfl) (keyC_same zeroKey_length LB.out) (Tryd.sizeKey _ LB.out) (keyC_one _) G1.out ?_); intro y1 T; simp only [List.set_cons_zero] at T; have H1 := Lib.hid T; clear T G1))
  go_wp2_with fail
  refine (N2.out _ _ 5 3 g gt k1 H1.out rfl (by omega) rfl).mono ?_
  intro e v2 h
  obtain ⟨k2, hk2, he, h9⟩ := h
  subst he
  simp only [List.set_cons_zero, List.set_cons_succ] at h9
  have F2 := Lib.hid h9
  clear h9 H1
  go_wp2_with (first
    | ((with_reducible refine wpE_alloc (o := ⟨some 22, _, _, _, _, _⟩) rfl 23 rfl (keyC zeroKey) Tryd.zeroK F2.out ?_); intro g22 x2 T; have G2 := Lib.hid T; clear T)
    | ((with_reducible refine wpE_store (o := ⟨none, _, _, _, _, _⟩) rfl 23 (.tmp 22) (.tmp 83) rfl 0 g22 23 (keyC zeroKey) (keyC c) (by with_unfolding_all rfl) (by with_unfolding_all rfl) (by with_unfolding_all rfl) (keyC_same zeroKey_length LC.out) (Tryd.sizeKey _ LC.out) (keyC_one _) G2.out ?_); intro y2 T; simp only [List.set_cons_zero] at T; have H2 := Lib.hid T; clear T G2))
  refine plain_region (S := fun x => Env w ((g22, 23, keyC c) :: (g20, 23, keyC b) :: (g18, 23, keyC a) :: (lb, 9, labC [one, two3, thr]) :: (gt, 35, srcC s n3) :: (gs, 35, srcC s n3) :: (g, 65, mC k2) :: (g5, 23, keyC s) :: ex) x) (fin := fun _ => false) (by kernel_rfl) ?_
  have hS : Env w ((g22, 23, keyC c) :: (g20, 23, keyC b) :: (g18, 23, keyC a) :: (lb, 9, labC [one, two3, thr]) :: (gt, 35, srcC s n3) :: (gs, 35, srcC s n3) :: (g, 65, mC k2) :: (g5, 23, keyC s) :: ex) y2.drew := H2.out.drew
  clear H2 F0 F1 F2 N0 N1 N2
  change walkS _ _ _ _ _ _ 38 _ _ _
  refine walkS_take (i := 0) (oi := ⟨some 85, _, _, _, _, _⟩) (v := .bool true) rfl (by kernel_rfl) (by kernel_rfl) (fun _ _ _ h => h) _ _ _ _ (by kernel_rfl) (by kernel_rfl) (Or.inl ⟨by rfl, fun w' hS' => (by first | rfl | (clear hS hS'; go_simp))⟩) hS ?_
  try simp only [Act.put, List.setIfInBounds_toArray, List.set_cons_zero, List.set_cons_succ]
  refine walkS_take (i := 1) (oi := ⟨some 86, _, _, _, _, _⟩) (v := .bool true) rfl (by kernel_rfl) (by kernel_rfl) (fun _ _ _ h => h) _ _ _ _ (by kernel_rfl) (by kernel_rfl) (Or.inl ⟨by rfl, fun w' hS' => (by first | rfl | (clear hS hS'; go_simp))⟩) hS ?_
  try simp only [Act.put, List.setIfInBounds_toArray, List.set_cons_zero, List.set_cons_succ]
  refine walkS_take (i := 2) (oi := ⟨some 87, _, _, _, _, _⟩) (v := .int .i64 0) rfl (by kernel_rfl) (by kernel_rfl) (fun _ _ _ h => h) _ _ _ _ (by kernel_rfl) (by kernel_rfl) (Or.inl ⟨by rfl, fun w' hS' => (by first | rfl | (clear hS hS'; go_simp))⟩) hS ?_
  try simp only [Act.put, List.setIfInBounds_toArray, List.set_cons_zero, List.set_cons_succ]
  refine walkS_take (i := 3) (oi := ⟨some 88, _, _, _, _, _⟩) (v := .bool true) rfl (by kernel_rfl) (by kernel_rfl) (fun _ _ _ h => h) _ _ _ _ (by kernel_rfl) (by kernel_rfl) (Or.inl ⟨by rfl, fun w' hS' => (by first | rfl | (clear hS hS'; go_simp))⟩) hS ?_
  try simp only [Act.put, List.setIfInBounds_toArray, List.set_cons_zero, List.set_cons_succ]
  refine walkS_take (i := 4) (oi := ⟨some 89, _, _, _, _, _⟩) (v := .bool true) rfl (by kernel_rfl) (by kernel_rfl) (fun _ _ _ h => h) _ _ _ _ (by kernel_rfl) (by kernel_rfl) (Or.inl ⟨by rfl, fun w' hS' => (by first | rfl | (clear hS hS'; go_simp))⟩) hS ?_
  try simp only [Act.put, List.setIfInBounds_toArray, List.set_cons_zero, List.set_cons_succ]
  refine walkS_take (i := 5) (oi := ⟨some 90, _, _, _, _, _⟩) (v := .bool true) rfl (by kernel_rfl) (by kernel_rfl) (fun _ _ _ h => h) _ _ _ _ (by kernel_rfl) (by kernel_rfl) (Or.inl ⟨by rfl, fun w' hS' => (by first | rfl | (clear hS hS'; go_simp))⟩) hS ?_
  try simp only [Act.put, List.setIfInBounds_toArray, List.set_cons_zero, List.set_cons_succ]
  refine walkS_take (i := 6) (oi := ⟨some 91, _, _, _, _, _⟩) (v := .int .i64 0) rfl (by kernel_rfl) (by kernel_rfl) (fun _ _ _ h => h) _ _ _ _ (by kernel_rfl) (by kernel_rfl) (Or.inl ⟨by rfl, fun w' hS' => (by first | rfl | (clear hS hS'; go_simp))⟩) hS ?_
  try simp only [Act.put, List.setIfInBounds_toArray, List.set_cons_zero, List.set_cons_succ]
  refine walkS_take (i := 7) (oi := ⟨some 92, _, _, _, _, _⟩) (v := .bool true) rfl (by kernel_rfl) (by kernel_rfl) (fun _ _ _ h => h) _ _ _ _ (by kernel_rfl) (by kernel_rfl) (Or.inl ⟨by rfl, fun w' hS' => (by first | rfl | (clear hS hS'; go_simp))⟩) hS ?_
  try simp only [Act.put, List.setIfInBounds_toArray, List.set_cons_zero, List.set_cons_succ]
  refine walkS_take (i := 8) (oi := ⟨some 93, _, _, _, _, _⟩) (v := .bool true) rfl (by kernel_rfl) (by kernel_rfl) (fun _ _ _ h => h) _ _ _ _ (by kernel_rfl) (by kernel_rfl) (Or.inl ⟨by rfl, fun w' hS' => (by first | rfl | (clear hS hS'; go_simp))⟩) hS ?_
  try simp only [Act.put, List.setIfInBounds_toArray, List.set_cons_zero, List.set_cons_succ]
  refine walkS_take (i := 9) (oi := ⟨some 94, _, _, _, _, _⟩) (v := .bool true) rfl (by kernel_rfl) (by kernel_rfl) (fun _ _ _ h => h) _ _ _ _ (by kernel_rfl) (by kernel_rfl) (Or.inl ⟨by rfl, fun w' hS' => (by first | rfl | (clear hS hS'; go_simp))⟩) hS ?_
  try simp only [Act.put, List.setIfInBounds_toArray, List.set_cons_zero, List.set_cons_succ]
  refine walkS_take (i := 10) (oi := ⟨some 95, _, _, _, _, _⟩) (v := v) rfl (by kernel_rfl) (by kernel_rfl) (fun _ _ _ h => h) _ _ _ _ (by kernel_rfl) (by kernel_rfl) (Or.inl ⟨by rfl, fun w' hS' => (by first | rfl | (clear hS hS'; go_simp))⟩) hS ?_
  try simp only [Act.put, List.setIfInBounds_toArray, List.set_cons_zero, List.set_cons_succ]
  refine walkS_take (i := 11) (oi := ⟨some 96, _, _, _, _, _⟩) (v := .agg (keyC a)) rfl (by kernel_rfl) (by kernel_rfl) (fun _ _ _ h => h) _ _ _ _ (by kernel_rfl) (by kernel_rfl) (Or.inl ⟨by rfl, fun w' hS' => (run_load_row 23 (.tmp 18) rfl g18 rfl 23 (keyC a) (0, 0) (.array 32 5) (hS'.row 2 rfl) Tryd.underlying23 rfl (Tryd.sizeKey _ LA.out))⟩) hS ?_
  try simp only [Act.put, List.setIfInBounds_toArray, List.set_cons_zero, List.set_cons_succ]
  refine walkS_take (i := 12) (oi := ⟨some 97, _, _, _, _, _⟩) (v := .agg (keyC b)) rfl (by kernel_rfl) (by kernel_rfl) (fun _ _ _ h => h) _ _ _ _ (by kernel_rfl) (by kernel_rfl) (Or.inl ⟨by rfl, fun w' hS' => (run_load_row 23 (.tmp 20) rfl g20 rfl 23 (keyC b) (0, 0) (.array 32 5) (hS'.row 1 rfl) Tryd.underlying23 rfl (Tryd.sizeKey _ LB.out))⟩) hS ?_
  try simp only [Act.put, List.setIfInBounds_toArray, List.set_cons_zero, List.set_cons_succ]
  refine walkS_take (i := 13) (oi := ⟨some 98, _, _, _, _, _⟩) (v := .agg (keyC c)) rfl (by kernel_rfl) (by kernel_rfl) (fun _ _ _ h => h) _ _ _ _ (by kernel_rfl) (by kernel_rfl) (Or.inl ⟨by rfl, fun w' hS' => (run_load_row 23 (.tmp 22) rfl g22 rfl 23 (keyC c) (0, 0) (.array 32 5) (hS'.row 0 rfl) Tryd.underlying23 rfl (Tryd.sizeKey _ LC.out))⟩) hS ?_
  try simp only [Act.put, List.setIfInBounds_toArray, List.set_cons_zero, List.set_cons_succ]
  refine walkS_onlyH (i := 14) (o := ⟨some 99, _, _, _, _, _⟩) (by kernel_rfl) rfl (by rfl) fun KK hKK => ?_
  refine wp_manyKeys 3 _ rfl [a, b, c] LALL.out rfl (by omega) (by omega) (by with_unfolding_all rfl) ?_
  have J1 := Lib.hid (hS.new (NewRow.mk_ y2.drew 23 (keyC [a, b, c].flatten)))
  generalize y2.drew.alloc (.cells (keyC [a, b, c].flatten) 23) = y3 at J1 ⊢
  generalize y2.drew.heap.size = gk at J1 ⊢
  have hS1 := J1.out.tl
  refine hKK _ _ (.inr hS1) ?_
  clear hKK KK hS
  try simp only [Act.put, List.setIfInBounds_toArray, List.set_cons_zero, List.set_cons_succ]
  refine walkS_onlyH (i := 15) (o := ⟨some 100, _, _, _, _, _⟩) (by kernel_rfl) rfl (by rfl) fun KK hKK => ?_
  have KA : Hid (Kl y3 v [a, b, c]) := Kl.ex (w0 := w) (base := base) (rs := [(gk, 23, keyC [a, b, c].flatten), (g22, 23, keyC c), (g20, 23, keyC b), (g18, 23, keyC a), (lb, 9, labC [one, two3, thr]), (gt, 35, srcC s n3), (gs, 35, srcC s n3), (g, 65, mC k2), (g5, 23, keyC s)]) X.out LALL.out J1.out
  have KB : Hid (Kl y3 (.slice (some ⟨gk, 0, none⟩) 3 3) [a, b, c]) := Kl.row (J1.out.row 0 rfl) LALL.out (by simp)
  go_simp
  refine (CK.out _ _ _ KA.out KB.out).mono ?_
  intro e z1 h
  obtain ⟨he, bz⟩ := h
  subst he
  have hS : Env w ((g22, 23, keyC c) :: (g20, 23, keyC b) :: (g18, 23, keyC a) :: (lb, 9, labC [one, two3, thr]) :: (gt, 35, srcC s n3) :: (gs, 35, srcC s n3) :: (g, 65, mC k2) :: (g5, 23, keyC s) :: ex) z1 := hS1.call bz
  refine hKK _ _ (.inr hS) ?_
  clear hKK KK hS1 J1 KA KB CK bz
  try simp only [Act.put, List.setIfInBounds_toArray, List.set_cons_zero, List.set_cons_succ]
  refine walkS_take (i := 16) (oi := ⟨some 101, _, _, _, _, _⟩) (v := .bool true) rfl (by kernel_rfl) (by kernel_rfl) (fun _ _ _ h => h) _ _ _ _ (by kernel_rfl) (by kernel_rfl) (Or.inl ⟨by rfl, fun w' hS' => (by first | rfl | (clear hS hS'; go_simp))⟩) hS ?_
  try simp only [Act.put, List.setIfInBounds_toArray, List.set_cons_zero, List.set_cons_succ]
  refine walkS_take (i := 17) (oi := ⟨some 102, _, _, _, _, _⟩) (v := .bool true) rfl (by kernel_rfl) (by kernel_rfl) (fun _ _ _ h => h) _ _ _ _ (by kernel_rfl) (by kernel_rfl) (Or.inl ⟨by rfl, fun w' hS' => (by first | rfl | (clear hS hS'; go_simp))⟩) hS ?_
  try simp only [Act.put, List.setIfInBounds_toArray, List.set_cons_zero, List.set_cons_succ]
  refine walkS_take (i := 18) (oi := ⟨some 103, _, _, _, _, _⟩) (v := .pointer (some ⟨gs, 0, none⟩)) rfl (by kernel_rfl) (by kernel_rfl) (fun _ _ _ h => h) _ _ _ _ (by kernel_rfl) (by kernel_rfl) (Or.inl ⟨by rfl, fun w' hS' => (by first | rfl | (clear hS hS'; go_simp))⟩) hS ?_
  try simp only [Act.put, List.setIfInBounds_toArray, List.set_cons_zero, List.set_cons_succ]
  refine walkS_take (i := 19) (oi := ⟨some 104, _, _, _, _, _⟩) (v := .pointer (some ⟨gs, 0, none⟩)) rfl (by kernel_rfl) (by kernel_rfl) (fun _ _ _ h => h) _ _ _ _ (by kernel_rfl) (by kernel_rfl) (Or.inl ⟨by rfl, fun w' hS' => (by first | rfl | (clear hS hS'; go_simp))⟩) hS ?_
  try simp only [Act.put, List.setIfInBounds_toArray, List.set_cons_zero, List.set_cons_succ]
  refine walkS_take (i := 20) (oi := ⟨some 105, _, _, _, _, _⟩) (v := .pointer (some ⟨gs, 32, none⟩)) rfl (by kernel_rfl) (by kernel_rfl) (fun _ _ _ h => h) _ _ _ _ (by kernel_rfl) (by kernel_rfl) (Or.inl ⟨by rfl, fun w' hS' => (by first | rfl | (clear hS hS'; go_simp))⟩) hS ?_
  try simp only [Act.put, List.setIfInBounds_toArray, List.set_cons_zero, List.set_cons_succ]
  refine walkS_take (i := 21) (oi := ⟨some 106, _, _, _, _, _⟩) (v := .int .u64 (n3 : Int)) rfl (by kernel_rfl) (by kernel_rfl) (fun _ _ _ h => h) _ _ _ _ (by kernel_rfl) (by kernel_rfl) (Or.inl ⟨by rfl, fun w' hS' => (by have c := hS'.cellV 5 rfl 32 _ (srcC_32 s n3 LS.out); clear hS hS'; go_simp)⟩) hS ?_
  try simp only [Act.put, List.setIfInBounds_toArray, List.set_cons_zero, List.set_cons_succ]
  refine walkS_take (i := 22) (oi := ⟨some 107, _, _, _, _, _⟩) (v := .pointer (some ⟨gt, 0, none⟩)) rfl (by kernel_rfl) (by kernel_rfl) (fun _ _ _ h => h) _ _ _ _ (by kernel_rfl) (by kernel_rfl) (Or.inl ⟨by rfl, fun w' hS' => (by first | rfl | (clear hS hS'; go_simp))⟩) hS ?_
  try simp only [Act.put, List.setIfInBounds_toArray, List.set_cons_zero, List.set_cons_succ]
  refine walkS_take (i := 23) (oi := ⟨some 108, _, _, _, _, _⟩) (v := .pointer (some ⟨gt, 0, none⟩)) rfl (by kernel_rfl) (by kernel_rfl) (fun _ _ _ h => h) _ _ _ _ (by kernel_rfl) (by kernel_rfl) (Or.inl ⟨by rfl, fun w' hS' => (by first | rfl | (clear hS hS'; go_simp))⟩) hS ?_
  try simp only [Act.put, List.setIfInBounds_toArray, List.set_cons_zero, List.set_cons_succ]
  refine walkS_take (i := 24) (oi := ⟨some 109, _, _, _, _, _⟩) (v := .pointer (some ⟨gt, 32, none⟩)) rfl (by kernel_rfl) (by kernel_rfl) (fun _ _ _ h => h) _ _ _ _ (by kernel_rfl) (by kernel_rfl) (Or.inl ⟨by rfl, fun w' hS' => (by first | rfl | (clear hS hS'; go_simp))⟩) hS ?_
  try simp only [Act.put, List.setIfInBounds_toArray, List.set_cons_zero, List.set_cons_succ]
  refine walkS_take (i := 25) (oi := ⟨some 110, _, _, _, _, _⟩) (v := .int .u64 (n3 : Int)) rfl (by kernel_rfl) (by kernel_rfl) (fun _ _ _ h => h) _ _ _ _ (by kernel_rfl) (by kernel_rfl) (Or.inl ⟨by rfl, fun w' hS' => (by have c := hS'.cellV 4 rfl 32 _ (srcC_32 s n3 LS.out); clear hS hS'; go_simp)⟩) hS ?_
  try simp only [Act.put, List.setIfInBounds_toArray, List.set_cons_zero, List.set_cons_succ]
  refine walkS_take (i := 26) (oi := ⟨some 111, _, _, _, _, _⟩) (v := .bool true) rfl (by kernel_rfl) (by kernel_rfl) (fun _ _ _ h => h) _ _ _ _ (by kernel_rfl) (by kernel_rfl) (Or.inl ⟨by rfl, fun w' hS' => (by first | rfl | (clear hS hS'; go_simp))⟩) hS ?_
  try simp only [Act.put, List.setIfInBounds_toArray, List.set_cons_zero, List.set_cons_succ]
  refine walkS_take (i := 27) (oi := ⟨some 112, _, _, _, _, _⟩) (v := .bool true) rfl (by kernel_rfl) (by kernel_rfl) (fun _ _ _ h => h) _ _ _ _ (by kernel_rfl) (by kernel_rfl) (Or.inl ⟨by rfl, fun w' hS' => (by first | rfl | (clear hS hS'; go_simp))⟩) hS ?_
  try simp only [Act.put, List.setIfInBounds_toArray, List.set_cons_zero, List.set_cons_succ]
  refine walkS_take (i := 28) (oi := ⟨some 113, _, _, _, _, _⟩) (v := .bool true) rfl (by kernel_rfl) (by kernel_rfl) (fun _ _ _ h => h) _ _ _ _ (by kernel_rfl) (by kernel_rfl) (Or.inl ⟨by rfl, fun w' hS' => (by first | rfl | (clear hS hS'; go_simp))⟩) hS ?_
  try simp only [Act.put, List.setIfInBounds_toArray, List.set_cons_zero, List.set_cons_succ]
  refine walkS_take (i := 29) (oi := ⟨some 114, _, _, _, _, _⟩) (v := .pointer (some ⟨gs, 0, none⟩)) rfl (by kernel_rfl) (by kernel_rfl) (fun _ _ _ h => h) _ _ _ _ (by kernel_rfl) (by kernel_rfl) (Or.inl ⟨by rfl, fun w' hS' => (by first | rfl | (clear hS hS'; go_simp))⟩) hS ?_
  try simp only [Act.put, List.setIfInBounds_toArray, List.set_cons_zero, List.set_cons_succ]
  refine walkS_take (i := 30) (oi := ⟨some 115, _, _, _, _, _⟩) (v := .pointer (some ⟨gs, 0, none⟩)) rfl (by kernel_rfl) (by kernel_rfl) (fun _ _ _ h => h) _ _ _ _ (by kernel_rfl) (by kernel_rfl) (Or.inl ⟨by rfl, fun w' hS' => (by first | rfl | (clear hS hS'; go_simp))⟩) hS ?_
  try simp only [Act.put, List.setIfInBounds_toArray, List.set_cons_zero, List.set_cons_succ]
  refine walkS_take (i := 31) (oi := ⟨some 116, _, _, _, _, _⟩) (v := .pointer (some ⟨gs, 32, none⟩)) rfl (by kernel_rfl) (by kernel_rfl) (fun _ _ _ h => h) _ _ _ _ (by kernel_rfl) (by kernel_rfl) (Or.inl ⟨by rfl, fun w' hS' => (by first | rfl | (clear hS hS'; go_simp))⟩) hS ?_
  try simp only [Act.put, List.setIfInBounds_toArray, List.set_cons_zero, List.set_cons_succ]
  refine walkS_take (i := 32) (oi := ⟨some 117, _, _, _, _, _⟩) (v := .int .u64 (n3 : Int)) rfl (by kernel_rfl) (by kernel_rfl) (fun _ _ _ h => h) _ _ _ _ (by kernel_rfl) (by kernel_rfl) (Or.inl ⟨by rfl, fun w' hS' => (by have c := hS'.cellV 5 rfl 32 _ (srcC_32 s n3 LS.out); clear hS hS'; go_simp)⟩) hS ?_
  try simp only [Act.put, List.setIfInBounds_toArray, List.set_cons_zero, List.set_cons_succ]
  refine walkS_take (i := 33) (oi := ⟨some 118, _, _, _, _, _⟩) (v := .int .u64 (n : Int)) rfl (by kernel_rfl) (by kernel_rfl) (fun _ _ _ h => h) _ _ _ _ (by kernel_rfl) (by kernel_rfl) (Or.inl ⟨by rfl, fun w' hS' => (by first | rfl | (clear hS hS'; go_simp))⟩) hS ?_
  try simp only [Act.put, List.setIfInBounds_toArray, List.set_cons_zero, List.set_cons_succ]
  refine walkS_take (i := 34) (oi := ⟨some 119, _, _, _, _, _⟩) (v := .int .u64 (n3 : Int)) rfl (by kernel_rfl) (by kernel_rfl) (fun _ _ _ h => h) _ _ _ _ (by kernel_rfl) (by kernel_rfl) (Or.inl ⟨by rfl, fun w' hS' => (by first | rfl | (clear hS hS'; go_simp))⟩) hS ?_
  try simp only [Act.put, List.setIfInBounds_toArray, List.set_cons_zero, List.set_cons_succ]
  refine walkS_take (i := 35) (oi := ⟨some 120, _, _, _, _, _⟩) (v := .bool true) rfl (by kernel_rfl) (by kernel_rfl) (fun _ _ _ h => h) _ _ _ _ (by kernel_rfl) (by kernel_rfl) (Or.inl ⟨by rfl, fun w' hS' => (by first | rfl | (clear hS hS'; go_simp))⟩) hS ?_
  try simp only [Act.put, List.setIfInBounds_toArray, List.set_cons_zero, List.set_cons_succ]
  refine walkS_take (i := 36) (oi := ⟨some 121, _, _, _, _, _⟩) (v := .bool true) rfl (by kernel_rfl) (by kernel_rfl) (fun _ _ _ h => h) _ _ _ _ (by kernel_rfl) (by kernel_rfl) (Or.inl ⟨by rfl, fun w' hS' => (by first | rfl | (clear hS hS'; go_simp))⟩) hS ?_
  try simp only [Act.put, List.setIfInBounds_toArray, List.set_cons_zero, List.set_cons_succ]
  have E9 := Lib.hid hS
  clear hS
  refine walkS_only (i := 37) (o := ⟨some 10, _, _, _, _, _⟩) (by kernel_rfl) rfl rfl fun KK hKK => ?_
  refine wp_assignE (.tmp 121) rfl ?_
  refine hKK _ _ (.inr E9.out) (walkS_done (by kernel_rfl) ?_ _)
  clear hKK KK
  try simp only [Act.put, List.setIfInBounds_toArray, List.set_cons_zero, List.set_cons_succ]
  go_wp2_with fail
  go_ret
  exact E9.out.ret _
end Go.Proofs.YtjlhmcnajgafgaaDoor
end
section
namespace Go.Proofs.YtjlhmcnajgafgaaDoor.drawsAgain
open Go.ChangeShapes Go.WideShapes Go.ChangeAt Go.RowKit
open Go.ChangeMaps (open_string shut_string)
set_option linter.unusedVariables false

theorem own : ownKnob Tryd.prog.godebug = none := by kernel_rfl
theorem laidOut : laidOutB Tryd.prog = true := by kernel_rfl

theorem laid_met (os : Os) : laidMet Tryd.prog Rows.drawsAgainRow.laid ((laidWorld os).forCall (fun _ _ => 0) ⟨#[], #[.agg (List.replicate 32 (Value.int .u8 0)).toArray, .int .u64 0, .string ByteArray.empty, .string ByteArray.empty, .string ByteArray.empty], []⟩).memory :=
  laidMet_of_run' 8 (by kernel_rfl) (by kernel_rfl)
theorem reads (os : Os) {H : Type} (enc : TypeId × Value → H) : ∃ places, DataW.whole enc Tryd.prog ((laidWorld os).forCall (fun _ _ => 0) ⟨#[], #[.agg (List.replicate 32 (Value.int .u8 0)).toArray, .int .u64 0, .string ByteArray.empty, .string ByteArray.empty, .string ByteArray.empty], []⟩).memory Tryd.f4.params.toList Rows.drawsAgainSpec.vars false #[.agg (List.replicate 32 (Value.int .u8 0)).toArray, .int .u64 0, .string ByteArray.empty, .string ByteArray.empty, .string ByteArray.empty].toList 8 = some ([.agg (List.replicate 32 (.lit (.int .u8 0))), .lit (.int .u64 0), .lit (.string []), .lit (.string []), .lit (.string [])], [], places) :=
  ⟨[], by kernel_rfl⟩

set_option maxRecDepth 100000 in
theorem contract (H : Type) (enc : TypeId × Value → H) (W : World) (base : Nat) (args : Array Value) (ds gs : List (DataW H)) (before : List MemPlace)
    (hval0 : ∀ (j : Nat) t v, Tryd.f4.params[j]? = some t → args[j]? = some v → Value.okWide Tryd.prog W .any base t v)
    (hW : DataW.Whole enc Tryd.prog Tryd.f4.params.toList Rows.drawsAgainSpec.vars false W args.toList ds gs before) (hL : laidMetH Tryd.prog Rows.drawsAgainRow.laid W) :
    Calls Tryd.prog 4 args W fun e W' => ∃ v, e = .returned v ∧ Rows.drawsAgainSpec.post enc Tryd.prog Tryd.f4 false true false false W args v W' := by
  have hq := tables hL
  have hval : ∀ (j : Nat) t v, Tryd.f4.params[j]? = some t → args[j]? = some v → Value.okWide Tryd.prog W .any base t v := hval0
  have hW' := hW
  obtain ⟨p, q, hA0, hV, rfl, hfz, hnd⟩ := hW
  have hA : DataW.TrodAll enc Tryd.prog W 0 (fun _ => true) true Tryd.f4.params.toList args.toList ds p := hA0
  rw [Tryd.params4] at hA hval
  obtain ⟨v0, vs0, d0, ds0, p0, q0, hargs, rfl, rfl, h0, r0⟩ := trodAll_cons hA
  obtain ⟨v1, vs1, d1, ds1, p1, q1, rfl, rfl, rfl, h1, r1⟩ := trodAll_cons r0
  obtain ⟨v2, vs2, d2, ds2, p2, q2, rfl, rfl, rfl, h2, r2⟩ := trodAll_cons r1
  obtain ⟨v3, vs3, d3, ds3, p3, q3, rfl, rfl, rfl, h3, r3⟩ := trodAll_cons r2
  obtain ⟨v4, vs4, d4, ds4, p4, q4, rfl, rfl, rfl, h4, r4⟩ := trodAll_cons r3
  obtain ⟨rfl, rfl, rfl⟩ := trodAll_nil r4
  obtain rfl : args = #[v0, v1, v2, v3, v4] := by cases args; simp_all
  obtain ⟨rfl, rfl⟩ := trodVars_none hV
  have k0 := h0
  have lt0 : ∀ x ∈ p0, x.block < W.heap.size := by obtain ⟨m, hm⟩ := k0; exact DataW.trod_lt m _ _ _ hm
  obtain ⟨l0, rfl, w0⟩ := open_key Tryd.underlying23 Tryd.underlying5 (by kernel_rfl) (by kernel_rfl) (hval 0 23 v0 rfl rfl) h0
  obtain ⟨a1, rfl, rfl, rfl, w1⟩ := open_int Tryd.underlying24 (hval 1 24 v1 rfl rfl) h1
  obtain ⟨n1, rfl, hn1⟩ := u64_of_wf w1
  obtain ⟨a2, rfl, rfl, rfl, w2⟩ := open_string Tryd.underlying9 (hval 2 9 v2 rfl rfl) h2
  obtain ⟨a3, rfl, rfl, rfl, w3⟩ := open_string Tryd.underlying9 (hval 3 9 v3 rfl rfl) h3
  obtain ⟨a4, rfl, rfl, rfl, w4⟩ := open_string Tryd.underlying9 (hval 4 9 v4 rfl rfl) h4
  clear hA0 hval0
  refine (drawsAgain_walk W hq l0 w0 n1 hn1 a2 w2 a3 w3 a4 w4).mono fun e W' ⟨he, bel⟩ => ?_
  subst he
  exact ⟨_, rfl, _, _, _, [], _, [], hW', trodAll_mk1 (shut_bool Tryd.underlying4 _), (trodAll_cons_mk (Below.trod laidOut (by kernel_rfl) (of_decide_eq_true (by kernel_rfl)) k0 bel lt0) (trodAll_cons_mk (shut_int Tryd.underlying24 w1) (trodAll_cons_mk (shut_string Tryd.underlying9 w2) (trodAll_cons_mk (shut_string Tryd.underlying9 w3) (trodAll_cons_mk (shut_string Tryd.underlying9 w4) trodAll_mk0))))), rfl, bel.frame _, fun h => by cases h⟩

set_option maxRecDepth 100000 in
theorem lifted (os : Os) (started : os.Started) (H : Type) (enc : TypeId × Value → H) (F : Stop.Interp) :
    ReturnsInHanded {} Tryd.checked os 4 .any ((OpenSpec.ofChange Rows.drawsAgainSpec).preRow enc Tryd.prog Tryd.f4 Rows.drawsAgainRow.domain false Rows.drawsAgainRow.laid) (((OpenSpec.ofChange Rows.drawsAgainSpec).at F).post enc Tryd.prog Tryd.f4 false true false false) := by
  obtain ⟨places, hx⟩ := reads os enc
  refine returnsInHanded_of_row (C := Tryd.checked) (s := OpenSpec.ofChange Rows.drawsAgainSpec) own started (by kernel_rfl) Tryd.func4
    (witness_row_at (enc := enc) (C := Tryd.checked) false (laidWorld os) #[.agg (List.replicate 32 (Value.int .u8 0)).toArray, .int .u64 0, .string ByteArray.empty, .string ByteArray.empty, .string ByteArray.empty] rfl (by kernel_rfl) (by kernel_rfl) (by kernel_rfl)
      (OpenSpec.preRow_of_cond 8 hx (by kernel_rfl) (fun k hk => by cases hk) (by kernel_rfl) (laid_met os))) ?_
  intro W base args ds gs before hval hW _ _ _ hL _ _
  exact contract H enc W base args ds gs before hval hW hL

theorem said : Rows.DrawsAgainSaid :=
  OpenClaim.holds_of_cond 4 Tryd.f4 rfl rfl rfl rfl rfl rfl rfl ⟨rfl, rfl, rfl, rfl, rfl⟩ rfl rfl rfl rfl rfl (by kernel_rfl) Tryd.func4 (by kernel_rfl)
    (of_decide_eq_true (by kernel_rfl)) (by unfold Func.isWrapper; first | (rw [if_pos (by decide +kernel)]; kernel_rfl) | (rw [if_neg (by decide +kernel)]; exact ⟨rfl, rfl⟩))
    (fun os started H enc _ F => by rw [OpenClaim.pre_eq_preRow]; exact lifted os started H enc F)

theorem noStand : (Tryd.f4.params.toList.all fun t => Tryd.prog.wantsStandIn t == false) = true := by kernel_rfl
theorem plain (f : FuncId) (fn : Func) (hf : Tryd.pinned.checked.prog.funcNamed "cablegram/cablegramlaw13.DrawsAgain" = some f) (hfn : Tryd.pinned.checked.prog.funcs[f]? = some fn) :
    false = Tryd.pinned.checked.prog.looks [] ∧ ∀ (j : Nat) t, fn.params[j]? = some t → Tryd.pinned.checked.prog.wantsStandIn t = false := by
  obtain rfl : f = 4 := Option.some.inj ((show Tryd.prog.funcNamed "cablegram/cablegramlaw13.DrawsAgain" = some 4 by kernel_rfl).symm.trans hf) |>.symm
  obtain rfl : fn = Tryd.f4 := (Option.some.inj (Tryd.func4.symm.trans hfn)).symm
  refine ⟨by kernel_rfl, fun j t ht => ?_⟩
  have hm : t ∈ Tryd.f4.params.toList := by simpa using Array.mem_of_getElem? ht
  exact beq_iff_eq.1 (List.all_eq_true.1 noStand t hm)

theorem proved : Rows.DrawsAgainCardSaid :=
  Claim7.holds_tied_plain_at .later [] _ _ _ _ said (fun _ h => by cases h) (by kernel_rfl) (fun _ h => by cases h) drawsAgain_row_tie rfl ⟨rfl, rfl⟩ (by kernel_rfl) rfl plain (by kernel_rfl)
#print axioms proved
end Go.Proofs.YtjlhmcnajgafgaaDoor.drawsAgain
end
