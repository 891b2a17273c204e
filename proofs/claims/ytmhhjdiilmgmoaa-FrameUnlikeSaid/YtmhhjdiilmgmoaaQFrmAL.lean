/-
  Texts that belong together, merged: FrmI, FrmJ. Conditions: as each theorem names them.
-/
import Derived.Test.YtmhhjdiilmgmoaaQFrmAI
import Derived.Test.YtmhhjdiilmgmoaaQFrmAK
import Derived.Test.YtmhhjdiilmgmoaaQFrmAH
section
namespace Go.Proofs.Ytmhhjdiilmgmoaa
open Go.RowKit
set_option linter.unusedVariables false
set_option maxRecDepth 20000

theorem bdW_cases (b : List UInt8) : (bdW b = (bdS2 b).fin ∧ (bdS2 b).fin ≠ 0) ∨ ((bdS2 b).fin = 0 ∧ bdW b = 51 ∧ ((rdM b : Int) ≠ 2 ∨ ((bdK b).length : Int) ≠ 4)) ∨ ((bdS2 b).fin = 0 ∧ bdW b = 0 ∧ (rdM b : Int) = 2 ∧ ((bdK b).length : Int) = 4) := by
  unfold bdW wrongE
  split
  · rename_i h; exact .inl ⟨rfl, h⟩
  · rename_i h
    have h0 : (bdS2 b).fin = 0 := by simpa using h
    split
    · rename_i h2; exact .inr (.inl ⟨h0, rfl, h2⟩)
    · rename_i h2; exact .inr (.inr ⟨h0, rfl, by simpa using fun e => h2 (.inl e), by simpa using fun e => h2 (.inr e)⟩)

set_option maxHeartbeats 4000000 in
theorem refDecodeBundle_any (w : World) (v : Value) (b : List UInt8) (h : Bs w v b) (hbl : b.length ≤ 100000) :
    Calls Try.prog 21 #[v] w fun e w' => e = .returned (.tuple #[buV (bdF b), .int .i64 (bdW b)]) ∧ BuOk (bdF b) ∧ Below w.heap.size w w' := by
  have HH := Lib.hid h
  obtain ⟨A, c, rfl, _, q2, _⟩ := h
  clear q2
  have C1 : Hid (∀ w r, RiAt w r (.slice A b.length c) b (rdS0 b) → Calls Try.prog 39 #[.pointer (some ⟨r, 0, none⟩), .int .i64 1] w fun e w' => e = .returned (.int .u64 (rdM b : Int)) ∧ RiAt w' r (.slice A b.length c) b (bdS1 b) ∧ w.grownBy w' (some r)) := fun w r h => riNumber_any w r _ b (rdS0 b) 1 (by omega) h
  have C4 : Hid (∀ w r, RiAt w r (.slice A b.length c) b (bdS1 b) → Calls Try.prog 40 #[.pointer (some ⟨r, 0, none⟩), .int .i64 4] w fun e w' => ∃ v, e = .returned v ∧ (Kl w' v (bdK b) ∧ KyAt w' v ∧ ∀ k, v.ownBlock = some k → w.heap.size ≤ k) ∧ RiAt w' r (.slice A b.length c) b (bdS2 b) ∧ w.grownBy w' (some r)) := fun w r h => by rw [show bdK b = (bdS1 b).keys 4 from rfl, show bdS2 b = (bdS1 b).keyS 4 from rfl]; exact riKeysIn w r _ b (bdS1 b) 4 (by omega) h
  have C7 : Hid (∀ w r, RiAt w r (.slice A b.length c) b (bdS2 b) → Calls Try.prog 42 #[.pointer (some ⟨r, 0, none⟩)] w fun e w' => e = .returned (.int .i64 (bdS2 b).fin) ∧ Below w.heap.size w w') := fun w r h => riEnd_any w r _ b (bdS2 b) h
  rcases bdW_cases b with ⟨c1, c2⟩ | ⟨c0, c1, c2⟩ | ⟨c0, c1, c2, c3⟩
  · have EW : Hid (bdW b = (bdS2 b).fin) := c1
    have EF : Hid (bdF b = zeroBu) := if_neg (by rw [c1]; exact c2)
    have d1 : ((bdS2 b).fin != 0) = true := by simpa using c2
    clear c1 c2
    go_enter Try.func21, Try.ntmps21
    go_wp2_with (first
      | ((with_reducible refine wpList_alloc_row (o := ⟨some 2, _, _, _, _, _⟩) rfl 39 rfl (keyC zeroBu.flatten) Try.zeroOfBu ?_); intro g2 w2 n2; have N2 := Lib.hid n2; clear n2)
      | ((with_reducible refine wpList_box_row (o := ⟨some 10, _, _, _, _, _⟩) rfl 70 (.tmp 9) rfl #[.slice A b.length c, .int .i64 0, .int .i64 0] (by with_unfolding_all rfl) ?_); intro i w5 n3; have N3 := Lib.hid n3; clear n3))
    have D0 : Hid (BIn (fun w => RiAt w i (.slice A b.length c) b (rdS0 b)) w w5 g2 i (keyC zeroBu.flatten)) := by
      have n2 := N2.out
      have n3 := N3.out
      have a1 := n2.spot
      have a2 := n2.size
      have a3 := n3.spot
      have b5 := below_size n2.below n3.below
      exact ⟨⟨HH.out.below b5, 0, n3.row, Nat.zero_le _, fun _ => rfl⟩, n2.row.kept n3.below, b5, by omega, by omega, by omega⟩
    clear N2 N3
    refine (C1.out _ _ D0.out.inn).mono ?_
    intro e w6 hh
    obtain ⟨he, h6, s6⟩ := hh
    subst he
    have D1 := Lib.hid (D0.out.read (R' := fun w => RiAt w i (.slice A b.length c) b (bdS1 b)) h6 s6)
    clear D0 h6 s6
    go_wp2_with fail
    refine (C4.out _ _ D1.out.inn).mono ?_
    intro e w9 hh
    obtain ⟨ku, he, ⟨k9, y9, l9⟩, h9, s9⟩ := hh
    subst he
    have D6 := Lib.hid (D1.out.read (R' := fun w => RiAt w i (.slice A b.length c) b (bdS2 b)) h9 s9)
    have K6 := Lib.hid k9
    have Y6 : Hid (ku.ownBlock ≠ some g2) := y9.other D6.out.one (by decide)
    clear D1 h9 s9 k9 y9 l9
    obtain ⟨KA, kc, rfl, kx, km, _⟩ := id K6.out
    unfold maxLen at km
    have hkl : (bdK b).length ≤ 9223372036854775807 := by omega
    clear kx km
    go_wp2_with fail
    refine (C7.out _ _ D6.out.inn).mono ?_
    intro e w13 hh
    obtain ⟨he, b13⟩ := hh
    subst he
    have D11 := Lib.hid (D6.out.kept (D6.out.inn.kept b13) b13)
    have K11 := Lib.hid (K6.out.below b13)
    clear D6 K6 b13
    go_wp2_with (first
      | (with_reducible refine wpList_build0 (o := ⟨some 19, _, _, _, _, _⟩) rfl 39 rfl (keyC zeroBu.flatten) Try.builtBu ?_)
      | ((with_reducible refine wpList_store_row (o := ⟨none, _, _, _, _, _⟩) rfl 39 (.tmp 2) (.tmp 19) rfl g2 39 (keyC zeroBu.flatten) (keyC zeroBu.flatten) (by with_unfolding_all rfl) (by with_unfolding_all rfl) (by with_unfolding_all exact D11.out.one) rfl (Try.sizeBu zeroBu_ok) (keyC_one _) ?_); intro w14 p14; have P14 := Lib.hid p14))
    refine bodyPost_ret (ret_row_tmp rfl _ g2 39 (keyC zeroBu.flatten) _ (by rfl) P14.out.row Try.underlying39 rfl (Try.sizeBu zeroBu_ok)) rfl ?_
    exact ⟨by rw [EF.out, EW.out]; rfl, by rw [EF.out]; exact zeroBu_ok, P14.out.below D11.out.below D11.out.below.size D11.out.ha⟩
  · have EW : Hid (bdW b = 51) := c1
    have EF : Hid (bdF b = zeroBu) := if_neg (by rw [c1]; decide)
    rw [c0] at C7
    by_cases c3 : (rdM b : Int) = 2
    · have c4 : ((bdK b).length : Int) ≠ 4 := c2.resolve_left (fun h => h c3)
      have d1 : ((rdM b : Int) != 2) = false := by simpa using c3
      have d2 : (((bdK b).length : Int) != 4) = true := by simpa using c4
      clear c1 c2 c3 c4 c0
      go_enter Try.func21, Try.ntmps21
      go_wp2_with (first
        | ((with_reducible refine wpList_alloc_row (o := ⟨some 2, _, _, _, _, _⟩) rfl 39 rfl (keyC zeroBu.flatten) Try.zeroOfBu ?_); intro g2 w2 n2; have N2 := Lib.hid n2; clear n2)
        | ((with_reducible refine wpList_box_row (o := ⟨some 10, _, _, _, _, _⟩) rfl 70 (.tmp 9) rfl #[.slice A b.length c, .int .i64 0, .int .i64 0] (by with_unfolding_all rfl) ?_); intro i w5 n3; have N3 := Lib.hid n3; clear n3))
      have D0 : Hid (BIn (fun w => RiAt w i (.slice A b.length c) b (rdS0 b)) w w5 g2 i (keyC zeroBu.flatten)) := by
        have n2 := N2.out
        have n3 := N3.out
        have a1 := n2.spot
        have a2 := n2.size
        have a3 := n3.spot
        have b5 := below_size n2.below n3.below
        exact ⟨⟨HH.out.below b5, 0, n3.row, Nat.zero_le _, fun _ => rfl⟩, n2.row.kept n3.below, b5, by omega, by omega, by omega⟩
      clear N2 N3
      refine (C1.out _ _ D0.out.inn).mono ?_
      intro e w6 hh
      obtain ⟨he, h6, s6⟩ := hh
      subst he
      have D1 := Lib.hid (D0.out.read (R' := fun w => RiAt w i (.slice A b.length c) b (bdS1 b)) h6 s6)
      clear D0 h6 s6
      go_wp2_with fail
      refine (C4.out _ _ D1.out.inn).mono ?_
      intro e w9 hh
      obtain ⟨ku, he, ⟨k9, y9, l9⟩, h9, s9⟩ := hh
      subst he
      have D6 := Lib.hid (D1.out.read (R' := fun w => RiAt w i (.slice A b.length c) b (bdS2 b)) h9 s9)
      have K6 := Lib.hid k9
      have Y6 : Hid (ku.ownBlock ≠ some g2) := y9.other D6.out.one (by decide)
      clear D1 h9 s9 k9 y9 l9
      obtain ⟨KA, kc, rfl, kx, km, _⟩ := id K6.out
      unfold maxLen at km
      have hkl : (bdK b).length ≤ 9223372036854775807 := by omega
      clear kx km
      go_wp2_with fail
      refine (C7.out _ _ D6.out.inn).mono ?_
      intro e w13 hh
      obtain ⟨he, b13⟩ := hh
      subst he
      have D11 := Lib.hid (D6.out.kept (D6.out.inn.kept b13) b13)
      have K11 := Lib.hid (K6.out.below b13)
      clear D6 K6 b13
      go_wp2_with (first
        | (with_reducible refine wpList_build0 (o := ⟨some 28, _, _, _, _, _⟩) rfl 39 rfl (keyC zeroBu.flatten) Try.builtBu ?_)
        | ((with_reducible refine wpList_store_row (o := ⟨none, _, _, _, _, _⟩) rfl 39 (.tmp 2) (.tmp 28) rfl g2 39 (keyC zeroBu.flatten) (keyC zeroBu.flatten) (by with_unfolding_all rfl) (by with_unfolding_all rfl) (by with_unfolding_all exact D11.out.one) rfl (Try.sizeBu zeroBu_ok) (keyC_one _) ?_); intro w14 p14; have P14 := Lib.hid p14))
      refine bodyPost_ret (ret_row_tmp rfl _ g2 39 (keyC zeroBu.flatten) _ (by rfl) P14.out.row Try.underlying39 rfl (Try.sizeBu zeroBu_ok)) rfl ?_
      exact ⟨by rw [EF.out, EW.out]; rfl, by rw [EF.out]; exact zeroBu_ok, P14.out.below D11.out.below D11.out.below.size D11.out.ha⟩

    · have d1 : ((rdM b : Int) != 2) = true := by simpa using c3
      clear c1 c2 c3 c0
      go_enter Try.func21, Try.ntmps21
      go_wp2_with (first
        | ((with_reducible refine wpList_alloc_row (o := ⟨some 2, _, _, _, _, _⟩) rfl 39 rfl (keyC zeroBu.flatten) Try.zeroOfBu ?_); intro g2 w2 n2; have N2 := Lib.hid n2; clear n2)
        | ((with_reducible refine wpList_box_row (o := ⟨some 10, _, _, _, _, _⟩) rfl 70 (.tmp 9) rfl #[.slice A b.length c, .int .i64 0, .int .i64 0] (by with_unfolding_all rfl) ?_); intro i w5 n3; have N3 := Lib.hid n3; clear n3))
      have D0 : Hid (BIn (fun w => RiAt w i (.slice A b.length c) b (rdS0 b)) w w5 g2 i (keyC zeroBu.flatten)) := by
        have n2 := N2.out
        have n3 := N3.out
        have a1 := n2.spot
        have a2 := n2.size
        have a3 := n3.spot
        have b5 := below_size n2.below n3.below
        exact ⟨⟨HH.out.below b5, 0, n3.row, Nat.zero_le _, fun _ => rfl⟩, n2.row.kept n3.below, b5, by omega, by omega, by omega⟩
      clear N2 N3
      refine (C1.out _ _ D0.out.inn).mono ?_
      intro e w6 hh
      obtain ⟨he, h6, s6⟩ := hh
      subst he
      have D1 := Lib.hid (D0.out.read (R' := fun w => RiAt w i (.slice A b.length c) b (bdS1 b)) h6 s6)
      clear D0 h6 s6
      go_wp2_with fail
      refine (C4.out _ _ D1.out.inn).mono ?_
      intro e w9 hh
      obtain ⟨ku, he, ⟨k9, y9, l9⟩, h9, s9⟩ := hh
      subst he
      have D6 := Lib.hid (D1.out.read (R' := fun w => RiAt w i (.slice A b.length c) b (bdS2 b)) h9 s9)
      have K6 := Lib.hid k9
      have Y6 : Hid (ku.ownBlock ≠ some g2) := y9.other D6.out.one (by decide)
      clear D1 h9 s9 k9 y9 l9
      obtain ⟨KA, kc, rfl, kx, km, _⟩ := id K6.out
      unfold maxLen at km
      have hkl : (bdK b).length ≤ 9223372036854775807 := by omega
      clear kx km
      go_wp2_with fail
      refine (C7.out _ _ D6.out.inn).mono ?_
      intro e w13 hh
      obtain ⟨he, b13⟩ := hh
      subst he
      have D11 := Lib.hid (D6.out.kept (D6.out.inn.kept b13) b13)
      have K11 := Lib.hid (K6.out.below b13)
      clear D6 K6 b13
      go_wp2_with (first
        | (with_reducible refine wpList_build0 (o := ⟨some 28, _, _, _, _, _⟩) rfl 39 rfl (keyC zeroBu.flatten) Try.builtBu ?_)
        | ((with_reducible refine wpList_store_row (o := ⟨none, _, _, _, _, _⟩) rfl 39 (.tmp 2) (.tmp 28) rfl g2 39 (keyC zeroBu.flatten) (keyC zeroBu.flatten) (by with_unfolding_all rfl) (by with_unfolding_all rfl) (by with_unfolding_all exact D11.out.one) rfl (Try.sizeBu zeroBu_ok) (keyC_one _) ?_); intro w14 p14; have P14 := Lib.hid p14))
      refine bodyPost_ret (ret_row_tmp rfl _ g2 39 (keyC zeroBu.flatten) _ (by rfl) P14.out.row Try.underlying39 rfl (Try.sizeBu zeroBu_ok)) rfl ?_
      exact ⟨by rw [EF.out, EW.out]; rfl, by rw [EF.out]; exact zeroBu_ok, P14.out.below D11.out.below D11.out.below.size D11.out.ha⟩

  · have h4 : (bdK b).length = 4 := by omega
    have EF : Hid (bdF b = bdK b) := if_pos c1
    have d1 : ((rdM b : Int) != 2) = false := by simpa using c2
    have d2 : (((bdK b).length : Int) != 4) = false := by simpa using c3
    have H4 := Lib.hid h4
    have EW : Hid (bdW b = 0) := c1
    rw [c0] at C7
    clear c1 h4 c0 c2 c3
    go_enter Try.func21, Try.ntmps21
    go_wp2_with (first
      | ((with_reducible refine wpList_alloc_row (o := ⟨some 2, _, _, _, _, _⟩) rfl 39 rfl (keyC zeroBu.flatten) Try.zeroOfBu ?_); intro g2 w2 n2; have N2 := Lib.hid n2; clear n2)
      | ((with_reducible refine wpList_box_row (o := ⟨some 10, _, _, _, _, _⟩) rfl 70 (.tmp 9) rfl #[.slice A b.length c, .int .i64 0, .int .i64 0] (by with_unfolding_all rfl) ?_); intro i w5 n3; have N3 := Lib.hid n3; clear n3))
    have D0 : Hid (BIn (fun w => RiAt w i (.slice A b.length c) b (rdS0 b)) w w5 g2 i (keyC zeroBu.flatten)) := by
      have n2 := N2.out
      have n3 := N3.out
      have a1 := n2.spot
      have a2 := n2.size
      have a3 := n3.spot
      have b5 := below_size n2.below n3.below
      exact ⟨⟨HH.out.below b5, 0, n3.row, Nat.zero_le _, fun _ => rfl⟩, n2.row.kept n3.below, b5, by omega, by omega, by omega⟩
    clear N2 N3
    refine (C1.out _ _ D0.out.inn).mono ?_
    intro e w6 hh
    obtain ⟨he, h6, s6⟩ := hh
    subst he
    have D1 := Lib.hid (D0.out.read (R' := fun w => RiAt w i (.slice A b.length c) b (bdS1 b)) h6 s6)
    clear D0 h6 s6
    go_wp2_with fail
    refine (C4.out _ _ D1.out.inn).mono ?_
    intro e w9 hh
    obtain ⟨ku, he, ⟨k9, y9, l9⟩, h9, s9⟩ := hh
    subst he
    have D6 := Lib.hid (D1.out.read (R' := fun w => RiAt w i (.slice A b.length c) b (bdS2 b)) h9 s9)
    have K6 := Lib.hid k9
    have Y6 : Hid (ku.ownBlock ≠ some g2) := y9.other D6.out.one (by decide)
    clear D1 h9 s9 k9 y9 l9
    obtain ⟨KA, kc, rfl, kx, km, _⟩ := id K6.out
    unfold maxLen at km
    have hkl : (bdK b).length ≤ 9223372036854775807 := by omega
    clear kx km
    go_wp2_with fail
    refine (C7.out _ _ D6.out.inn).mono ?_
    intro e w13 hh
    obtain ⟨he, b13⟩ := hh
    subst he
    have D11 := Lib.hid (D6.out.kept (D6.out.inn.kept b13) b13)
    have K11 := Lib.hid (K6.out.below b13)
    clear D6 K6 b13
    have h4 := H4.out
    obtain ⟨kb, ko, rfl, h32, hkr⟩ := K11.out.keys (by omega)
    have HK32 := Lib.hid h32
    have L0 := Lib.hid (keyI_len HK32.out 0)
    have L1 := Lib.hid (keyI_len HK32.out 1)
    have L2 := Lib.hid (keyI_len HK32.out 2)
    have L3 := Lib.hid (keyI_len HK32.out 3)
    have HB4 : Hid (Try.prog.built 39 [(0, .agg (keyC (keyI (bdK b) 0))), (1, .agg (keyC (keyI (bdK b) 1))), (2, .agg (keyC (keyI (bdK b) 2))), (3, .agg (keyC (keyI (bdK b) 3)))] = some (keyC (bdK b).flatten)) := by
      have := Try.builtBu4 (keyI (bdK b) 0) (keyI (bdK b) 1) (keyI (bdK b) 2) (keyI (bdK b) 3) (by rw [← four_keys H4.out]; exact HK32.out)
      rwa [← four_keys H4.out] at this
    have hS : w13.drew.rangeAt kb (ko + 0 * 32) (cellsB (keyI (bdK b) 0)) ∧ w13.drew.rangeAt kb (ko + 1 * 32) (cellsB (keyI (bdK b) 1)) ∧ w13.drew.rangeAt kb (ko + 2 * 32) (cellsB (keyI (bdK b) 2)) ∧ w13.drew.rangeAt kb (ko + 3 * 32) (cellsB (keyI (bdK b) 3)) := ⟨hkr 0 (by omega), hkr 1 (by omega), hkr 2 (by omega), hkr 3 (by omega)⟩
    clear hkr h32
    go_wp2_with fail
    refine plain_region (S := fun w' => w'.rangeAt kb (ko + 0 * 32) (cellsB (keyI (bdK b) 0)) ∧ w'.rangeAt kb (ko + 1 * 32) (cellsB (keyI (bdK b) 1)) ∧ w'.rangeAt kb (ko + 2 * 32) (cellsB (keyI (bdK b) 2)) ∧ w'.rangeAt kb (ko + 3 * 32) (cellsB (keyI (bdK b) 3))) (fin := fun _ => false) (by kernel_rfl) ?_
    refine walkS_take (i := 0) (oi := ⟨some 29, _, _, _, _, _⟩) (v := .slice (some ⟨kb, ko, none⟩) (bdK b).length kc) rfl (by kernel_rfl) (by kernel_rfl) (fun _ _ _ h => h) _ _ _ _ (by kernel_rfl) (by kernel_rfl) (Or.inl ⟨by rfl, fun w' hS' => (by clear hS hS'; go_simp)⟩) hS ?_
    try simp only [Act.put, List.setIfInBounds_toArray, List.set_cons_zero, List.set_cons_succ]
    refine walkS_take (i := 1) (oi := ⟨some 30, _, _, _, _, _⟩) (v := .pointer (some ⟨kb, ko + 0 * 32, none⟩)) rfl (by kernel_rfl) (by kernel_rfl) (fun _ _ _ h => h) _ _ _ _ (by kernel_rfl) (by kernel_rfl) (Or.inl ⟨by rfl, fun w' hS' => (by exact run_keyAt 26 24 _ _ rfl kb ko _ _ 0 rfl rfl (by omega) Try.underlying26 Try.sizeK)⟩) hS ?_
    try simp only [Act.put, List.setIfInBounds_toArray, List.set_cons_zero, List.set_cons_succ]
    refine walkS_take (i := 2) (oi := ⟨some 31, _, _, _, _, _⟩) (v := .agg (keyC (keyI (bdK b) 0))) rfl (by kernel_rfl) (by kernel_rfl) (fun _ _ _ h => h) _ _ _ _ (by kernel_rfl) (by kernel_rfl) (Or.inl ⟨by rfl, fun w' hS' => (by exact run_keyL 24 _ rfl kb _ rfl _ _ hS'.1 Try.underlying24 rfl (Try.sizeKeyM _ L0.out))⟩) hS ?_
    try simp only [Act.put, List.setIfInBounds_toArray, List.set_cons_zero, List.set_cons_succ]
    refine walkS_take (i := 3) (oi := ⟨some 32, _, _, _, _, _⟩) (v := .slice (some ⟨kb, ko, none⟩) (bdK b).length kc) rfl (by kernel_rfl) (by kernel_rfl) (fun _ _ _ h => h) _ _ _ _ (by kernel_rfl) (by kernel_rfl) (Or.inl ⟨by rfl, fun w' hS' => (by clear hS hS'; go_simp)⟩) hS ?_
    try simp only [Act.put, List.setIfInBounds_toArray, List.set_cons_zero, List.set_cons_succ]
    refine walkS_take (i := 4) (oi := ⟨some 33, _, _, _, _, _⟩) (v := .pointer (some ⟨kb, ko + 1 * 32, none⟩)) rfl (by kernel_rfl) (by kernel_rfl) (fun _ _ _ h => h) _ _ _ _ (by kernel_rfl) (by kernel_rfl) (Or.inl ⟨by rfl, fun w' hS' => (by exact run_keyAt 26 24 _ _ rfl kb ko _ _ 1 rfl rfl (by omega) Try.underlying26 Try.sizeK)⟩) hS ?_
    try simp only [Act.put, List.setIfInBounds_toArray, List.set_cons_zero, List.set_cons_succ]
    refine walkS_take (i := 5) (oi := ⟨some 34, _, _, _, _, _⟩) (v := .agg (keyC (keyI (bdK b) 1))) rfl (by kernel_rfl) (by kernel_rfl) (fun _ _ _ h => h) _ _ _ _ (by kernel_rfl) (by kernel_rfl) (Or.inl ⟨by rfl, fun w' hS' => (by exact run_keyL 24 _ rfl kb _ rfl _ _ hS'.2.1 Try.underlying24 rfl (Try.sizeKeyM _ L1.out))⟩) hS ?_
    try simp only [Act.put, List.setIfInBounds_toArray, List.set_cons_zero, List.set_cons_succ]
    refine walkS_take (i := 6) (oi := ⟨some 35, _, _, _, _, _⟩) (v := .slice (some ⟨kb, ko, none⟩) (bdK b).length kc) rfl (by kernel_rfl) (by kernel_rfl) (fun _ _ _ h => h) _ _ _ _ (by kernel_rfl) (by kernel_rfl) (Or.inl ⟨by rfl, fun w' hS' => (by clear hS hS'; go_simp)⟩) hS ?_
    try simp only [Act.put, List.setIfInBounds_toArray, List.set_cons_zero, List.set_cons_succ]
    refine walkS_take (i := 7) (oi := ⟨some 36, _, _, _, _, _⟩) (v := .pointer (some ⟨kb, ko + 2 * 32, none⟩)) rfl (by kernel_rfl) (by kernel_rfl) (fun _ _ _ h => h) _ _ _ _ (by kernel_rfl) (by kernel_rfl) (Or.inl ⟨by rfl, fun w' hS' => (by exact run_keyAt 26 24 _ _ rfl kb ko _ _ 2 rfl rfl (by omega) Try.underlying26 Try.sizeK)⟩) hS ?_
    try simp only [Act.put, List.setIfInBounds_toArray, List.set_cons_zero, List.set_cons_succ]
    refine walkS_take (i := 8) (oi := ⟨some 37, _, _, _, _, _⟩) (v := .agg (keyC (keyI (bdK b) 2))) rfl (by kernel_rfl) (by kernel_rfl) (fun _ _ _ h => h) _ _ _ _ (by kernel_rfl) (by kernel_rfl) (Or.inl ⟨by rfl, fun w' hS' => (by exact run_keyL 24 _ rfl kb _ rfl _ _ hS'.2.2.1 Try.underlying24 rfl (Try.sizeKeyM _ L2.out))⟩) hS ?_
    try simp only [Act.put, List.setIfInBounds_toArray, List.set_cons_zero, List.set_cons_succ]
    refine walkS_take (i := 9) (oi := ⟨some 38, _, _, _, _, _⟩) (v := .slice (some ⟨kb, ko, none⟩) (bdK b).length kc) rfl (by kernel_rfl) (by kernel_rfl) (fun _ _ _ h => h) _ _ _ _ (by kernel_rfl) (by kernel_rfl) (Or.inl ⟨by rfl, fun w' hS' => (by clear hS hS'; go_simp)⟩) hS ?_
    try simp only [Act.put, List.setIfInBounds_toArray, List.set_cons_zero, List.set_cons_succ]
    refine walkS_take (i := 10) (oi := ⟨some 39, _, _, _, _, _⟩) (v := .pointer (some ⟨kb, ko + 3 * 32, none⟩)) rfl (by kernel_rfl) (by kernel_rfl) (fun _ _ _ h => h) _ _ _ _ (by kernel_rfl) (by kernel_rfl) (Or.inl ⟨by rfl, fun w' hS' => (by exact run_keyAt 26 24 _ _ rfl kb ko _ _ 3 rfl rfl (by omega) Try.underlying26 Try.sizeK)⟩) hS ?_
    try simp only [Act.put, List.setIfInBounds_toArray, List.set_cons_zero, List.set_cons_succ]
    refine walkS_take (i := 11) (oi := ⟨some 40, _, _, _, _, _⟩) (v := .agg (keyC (keyI (bdK b) 3))) rfl (by kernel_rfl) (by kernel_rfl) (fun _ _ _ h => h) _ _ _ _ (by kernel_rfl) (by kernel_rfl) (Or.inl ⟨by rfl, fun w' hS' => (by exact run_keyL 24 _ rfl kb _ rfl _ _ hS'.2.2.2 Try.underlying24 rfl (Try.sizeKeyM _ L3.out))⟩) hS ?_
    try simp only [Act.put, List.setIfInBounds_toArray, List.set_cons_zero, List.set_cons_succ]
    refine walkS_take (i := 12) (oi := ⟨some 41, _, _, _, _, _⟩) (v := .agg (keyC (bdK b).flatten)) rfl (by kernel_rfl) (by kernel_rfl) (fun _ _ _ h => h) _ _ _ _ (by kernel_rfl) (by kernel_rfl) (Or.inl ⟨by rfl, fun w' hS' => (by exact run_builtOp 39 #[(0, .tmp 31), (1, .tmp 34), (2, .tmp 37), (3, .tmp 40)] rfl _ (by with_unfolding_all exact HB4.out))⟩) hS ?_
    try simp only [Act.put, List.setIfInBounds_toArray, List.set_cons_zero, List.set_cons_succ]
    refine walkS_only (i := 13) (o := ⟨none, _, _, _, _, _⟩) (by kernel_rfl) rfl rfl fun KK hKK => ?_
    refine wp_store_row 39 (.tmp 2) (.tmp 41) (by with_unfolding_all rfl) g2 39 (keyC zeroBu.flatten) (keyC (bdK b).flatten) (by with_unfolding_all rfl) (by with_unfolding_all rfl) (by with_unfolding_all exact D11.out.one) (by rw [zeroBu_ok.size, BuOk.size ⟨H4.out, HK32.out⟩]) (Try.sizeBu ⟨H4.out, HK32.out⟩) (keyC_one _) fun w14 p14 => ?_
    have P14 := Lib.hid p14
    have hne : kb ≠ g2 := fun e => Y6.out (by rw [e]; rfl)
    have hS14 := And.intro (rangeAt_grown hS.1 p14.grown hne) (And.intro (rangeAt_grown hS.2.1 p14.grown hne) (And.intro (rangeAt_grown hS.2.2.1 p14.grown hne) (rangeAt_grown hS.2.2.2 p14.grown hne)))
    refine hKK _ _ (.inr hS14) ?_
    clear hKK KK hS
    try simp only [Act.put]
    refine walkS_only (i := 14) (o := ⟨some 3, _, _, _, _, _⟩) (by kernel_rfl) rfl rfl fun KK hKK => ?_
    go_simp
    refine hKK _ _ (.inr hS14) (walkS_done (by kernel_rfl) ?_ _)
    clear hKK KK p14 hS14
    go_wp2
    refine bodyPost_ret (ret_row_tmp rfl _ g2 39 (keyC (bdK b).flatten) _ (by rfl) P14.out.row Try.underlying39 rfl (Try.sizeBu ⟨H4.out, HK32.out⟩)) rfl ?_
    exact ⟨by rw [EF.out, EW.out]; rfl, by rw [EF.out]; exact ⟨H4.out, HK32.out⟩, P14.out.below (w0 := w) D11.out.below.drew D11.out.below.size D11.out.ha⟩
end Go.Proofs.Ytmhhjdiilmgmoaa
end
section
namespace Go.Proofs.Ytmhhjdiilmgmoaa
open Go.RowKit
set_option linter.unusedVariables false
set_option maxRecDepth 20000

def sameF (f g : Fr) : Bool := (f.n == g.n) && (f.ack == g.ack) && (f.eph == g.eph) && (f.epoch == g.epoch) && (f.next == g.next) && (f.box == g.box) && (f.sign == g.sign)
theorem sameF_iff (f g : Fr) : sameF f g = true ↔ f = g := by
  obtain ⟨a1, a2, a3, a4, a5, a6, a7⟩ := f
  obtain ⟨b1, b2, b3, b4, b5, b6, b7⟩ := g
  simp [sameF, and_assoc]
theorem wpListG_val {P : Program} {w : World} {ops : Array Oper} {rest : List Oper} {o : Oper} {a : Act} {Q : Exit → Act → World → Prop} (hw : Region.wanted o (yielded ops a.tmps) = true) (v : Value) (hr : (execOp a.eval o).run P w = .ok (.value v) w) (h : wpList P ops Q rest (a.put o.dst v) w) : wpList P ops Q (o :: rest) a w :=
  wpList_wanted hw fun _ hK => by
    unfold Oper.wp
    rw [hr]
    exact hK _ _ h
set_option maxHeartbeats 4000000 in
theorem refSame_any (w : World) (va vb : Value) (f g : Fr) (h1 : FrV w va f) (h2 : FrV w vb g) (hs : f.sign.length ≤ 1000) :
    Calls Try.prog 22 #[va, vb] w fun e w' => e = .returned (.bool (sameF f g)) ∧ Below w.heap.size w w' := by
  obtain ⟨bv, sv, rfl, ho, f1, f2⟩ := h1
  obtain ⟨bv2, sv2, rfl, hp, k1, k2⟩ := h2
  have HO := Lib.hid ho
  have HP := Lib.hid hp
  have F1 := Lib.hid f1
  have F2 := Lib.hid f2
  have K1 := Lib.hid k1
  have K2 := Lib.hid k2
  have Q1 : Hid (∀ w, (Op.equalIn 10000 24 (.agg (keyC f.eph)) (.agg (keyC g.eph))).run Try.prog w = .ok (f.eph == g.eph) w) := fun w => Try.eqKeyIn _ _ ho.eph hp.eph w
  have Q2 : Hid (∀ w, (Op.equalIn 10000 24 (.agg (keyC f.epoch)) (.agg (keyC g.epoch))).run Try.prog w = .ok (f.epoch == g.epoch) w) := fun w => Try.eqKeyIn _ _ ho.epoch hp.epoch w
  have Q3 : Hid (∀ w, (Op.equalIn 10000 24 (.agg (keyC f.next)) (.agg (keyC g.next))).run Try.prog w = .ok (f.next == g.next) w) := fun w => Try.eqKeyIn _ _ ho.next hp.next w
  have CS : Hid (∀ w a b, Bs w a f.box → Bs w b g.box → Calls Try.prog 17 #[a, b] w (RetV w (.bool (f.box == g.box)))) := fun w a b h1 h2 => same_ret w a b _ _ h1 h2
  have CK : Hid (∀ w a b, Kl w a f.sign → Kl w b g.sign → Calls Try.prog 43 #[a, b] w fun e w' => e = .returned (.bool (f.sign == g.sign)) ∧ Below w.heap.size w w') := fun w a b h1 h2 => refKeys_eq w a b _ _ h1 h2 hs
  obtain ⟨A, c, rfl, _⟩ := f1
  obtain ⟨B, d, rfl, _⟩ := f2
  obtain ⟨A2, c2, rfl, _⟩ := k1
  obtain ⟨B2, d2, rfl, _⟩ := k2
  clear ho hp hs
  by_cases a0 : f.n = g.n
  rotate_left
  · have E : Hid (sameF f g = false) := by show _ = _; unfold sameF; simp [a0]
    have e0 : ((f.n : Int) != (g.n : Int)) = true := by simp; omega
    clear a0 CS CK
    go_enter Try.func22, Try.ntmps22
    go_wp2_with (first
      | ((with_reducible refine wpList_box_row (o := ⟨some 2, _, _, _, _, _⟩) rfl 28 (.tmp 0) rfl (frC f (.slice A f.box.length c) (.slice B f.sign.length d)) (by with_unfolding_all rfl) ?_); intro g2 w2 n2; have N2 := Lib.hid n2; clear n2)
      | ((with_reducible refine wpList_box_row (o := ⟨some 3, _, _, _, _, _⟩) rfl 28 (.tmp 1) rfl (frC g (.slice A2 g.box.length c2) (.slice B2 g.sign.length d2)) (by with_unfolding_all rfl) ?_); intro g3 w3 n3; have R3 : Hid (FrAt w3 g3 g (.slice A2 g.box.length c2) (.slice B2 g.sign.length d2)) := n3.row; have R2 : Hid (FrAt w3 g2 f (.slice A f.box.length c) (.slice B f.sign.length d)) := RowAt.kept N2.out.row n3.below; have B3 := Lib.hid (below_size N2.out.below n3.below); clear n3 N2; have cf0 := R2.out.n; have cf1 := R2.out.ack; have cg0 := R3.out.n; have cg1 := R3.out.ack; have cf2 := R2.out.box HO.out; have cf3 := R2.out.sign HO.out; have cg2 := R3.out.box HP.out; have cg3 := R3.out.sign HP.out; have q1 := Q1.out w3; have q2 := Q2.out w3; have q3 := Q3.out w3; have hgd := Try.eqGuardKey)
      | (with_reducible refine wpListG_val (o := ⟨some 19, _, _, _, _, _⟩) (by with_unfolding_all rfl) (.agg (keyC f.eph)) (by exact run_keyL 24 (.tmp 18) (by with_unfolding_all rfl) g2 2 (by with_unfolding_all rfl) _ _ R2.out.eph Try.underlying24 rfl (Try.sizeKeyM _ HO.out.eph)) ?_)
      | (with_reducible refine wpListG_val (o := ⟨some 21, _, _, _, _, _⟩) (by with_unfolding_all rfl) (.agg (keyC g.eph)) (by exact run_keyL 24 (.tmp 20) (by with_unfolding_all rfl) g3 2 (by with_unfolding_all rfl) _ _ R3.out.eph Try.underlying24 rfl (Try.sizeKeyM _ HP.out.eph)) ?_)
      | (with_reducible refine wpListG_val (o := ⟨some 26, _, _, _, _, _⟩) (by with_unfolding_all rfl) (.agg (keyC f.epoch)) (by exact run_keyL 24 (.tmp 25) (by with_unfolding_all rfl) g2 34 (by with_unfolding_all rfl) _ _ (R2.out.epoch HO.out) Try.underlying24 rfl (Try.sizeKeyM _ HO.out.epoch)) ?_)
      | (with_reducible refine wpListG_val (o := ⟨some 28, _, _, _, _, _⟩) (by with_unfolding_all rfl) (.agg (keyC g.epoch)) (by exact run_keyL 24 (.tmp 27) (by with_unfolding_all rfl) g3 34 (by with_unfolding_all rfl) _ _ (R3.out.epoch HP.out) Try.underlying24 rfl (Try.sizeKeyM _ HP.out.epoch)) ?_)
      | (with_reducible refine wpListG_val (o := ⟨some 33, _, _, _, _, _⟩) (by with_unfolding_all rfl) (.agg (keyC f.next)) (by exact run_keyL 24 (.tmp 32) (by with_unfolding_all rfl) g2 66 (by with_unfolding_all rfl) _ _ (R2.out.next HO.out) Try.underlying24 rfl (Try.sizeKeyM _ HO.out.next)) ?_)
      | (with_reducible refine wpListG_val (o := ⟨some 35, _, _, _, _, _⟩) (by with_unfolding_all rfl) (.agg (keyC g.next)) (by exact run_keyL 24 (.tmp 34) (by with_unfolding_all rfl) g3 66 (by with_unfolding_all rfl) _ _ (R3.out.next HP.out) Try.underlying24 rfl (Try.sizeKeyM _ HP.out.next)) ?_))
    go_ret
    exact ⟨by rw [E.out]; rfl, B3.out⟩
  have e0 : ((f.n : Int) != (g.n : Int)) = false := by simp [a0]
  have Z0 := Lib.hid a0
  clear a0
  by_cases a1 : f.ack = g.ack
  rotate_left
  · have E : Hid (sameF f g = false) := by show _ = _; unfold sameF; simp [a1]
    have e1 : ((f.ack : Int) != (g.ack : Int)) = true := by simp; omega
    clear a1 CS CK
    go_enter Try.func22, Try.ntmps22
    go_wp2_with (first
      | ((with_reducible refine wpList_box_row (o := ⟨some 2, _, _, _, _, _⟩) rfl 28 (.tmp 0) rfl (frC f (.slice A f.box.length c) (.slice B f.sign.length d)) (by with_unfolding_all rfl) ?_); intro g2 w2 n2; have N2 := Lib.hid n2; clear n2)
      | ((with_reducible refine wpList_box_row (o := ⟨some 3, _, _, _, _, _⟩) rfl 28 (.tmp 1) rfl (frC g (.slice A2 g.box.length c2) (.slice B2 g.sign.length d2)) (by with_unfolding_all rfl) ?_); intro g3 w3 n3; have R3 : Hid (FrAt w3 g3 g (.slice A2 g.box.length c2) (.slice B2 g.sign.length d2)) := n3.row; have R2 : Hid (FrAt w3 g2 f (.slice A f.box.length c) (.slice B f.sign.length d)) := RowAt.kept N2.out.row n3.below; have B3 := Lib.hid (below_size N2.out.below n3.below); clear n3 N2; have cf0 := R2.out.n; have cf1 := R2.out.ack; have cg0 := R3.out.n; have cg1 := R3.out.ack; have cf2 := R2.out.box HO.out; have cf3 := R2.out.sign HO.out; have cg2 := R3.out.box HP.out; have cg3 := R3.out.sign HP.out; have q1 := Q1.out w3; have q2 := Q2.out w3; have q3 := Q3.out w3; have hgd := Try.eqGuardKey)
      | (with_reducible refine wpListG_val (o := ⟨some 19, _, _, _, _, _⟩) (by with_unfolding_all rfl) (.agg (keyC f.eph)) (by exact run_keyL 24 (.tmp 18) (by with_unfolding_all rfl) g2 2 (by with_unfolding_all rfl) _ _ R2.out.eph Try.underlying24 rfl (Try.sizeKeyM _ HO.out.eph)) ?_)
      | (with_reducible refine wpListG_val (o := ⟨some 21, _, _, _, _, _⟩) (by with_unfolding_all rfl) (.agg (keyC g.eph)) (by exact run_keyL 24 (.tmp 20) (by with_unfolding_all rfl) g3 2 (by with_unfolding_all rfl) _ _ R3.out.eph Try.underlying24 rfl (Try.sizeKeyM _ HP.out.eph)) ?_)
      | (with_reducible refine wpListG_val (o := ⟨some 26, _, _, _, _, _⟩) (by with_unfolding_all rfl) (.agg (keyC f.epoch)) (by exact run_keyL 24 (.tmp 25) (by with_unfolding_all rfl) g2 34 (by with_unfolding_all rfl) _ _ (R2.out.epoch HO.out) Try.underlying24 rfl (Try.sizeKeyM _ HO.out.epoch)) ?_)
      | (with_reducible refine wpListG_val (o := ⟨some 28, _, _, _, _, _⟩) (by with_unfolding_all rfl) (.agg (keyC g.epoch)) (by exact run_keyL 24 (.tmp 27) (by with_unfolding_all rfl) g3 34 (by with_unfolding_all rfl) _ _ (R3.out.epoch HP.out) Try.underlying24 rfl (Try.sizeKeyM _ HP.out.epoch)) ?_)
      | (with_reducible refine wpListG_val (o := ⟨some 33, _, _, _, _, _⟩) (by with_unfolding_all rfl) (.agg (keyC f.next)) (by exact run_keyL 24 (.tmp 32) (by with_unfolding_all rfl) g2 66 (by with_unfolding_all rfl) _ _ (R2.out.next HO.out) Try.underlying24 rfl (Try.sizeKeyM _ HO.out.next)) ?_)
      | (with_reducible refine wpListG_val (o := ⟨some 35, _, _, _, _, _⟩) (by with_unfolding_all rfl) (.agg (keyC g.next)) (by exact run_keyL 24 (.tmp 34) (by with_unfolding_all rfl) g3 66 (by with_unfolding_all rfl) _ _ (R3.out.next HP.out) Try.underlying24 rfl (Try.sizeKeyM _ HP.out.next)) ?_))
    go_ret
    exact ⟨by rw [E.out]; rfl, B3.out⟩
  have e1 : ((f.ack : Int) != (g.ack : Int)) = false := by simp [a1]
  have Z1 := Lib.hid a1
  clear a1
  by_cases a2 : f.eph = g.eph
  rotate_left
  · have E : Hid (sameF f g = false) := by show _ = _; unfold sameF; simp [a2]
    rw [show (f.eph == g.eph) = false by simp [a2]] at Q1
    clear a2 CS CK
    go_enter Try.func22, Try.ntmps22
    go_wp2_with (first
      | ((with_reducible refine wpList_box_row (o := ⟨some 2, _, _, _, _, _⟩) rfl 28 (.tmp 0) rfl (frC f (.slice A f.box.length c) (.slice B f.sign.length d)) (by with_unfolding_all rfl) ?_); intro g2 w2 n2; have N2 := Lib.hid n2; clear n2)
      | ((with_reducible refine wpList_box_row (o := ⟨some 3, _, _, _, _, _⟩) rfl 28 (.tmp 1) rfl (frC g (.slice A2 g.box.length c2) (.slice B2 g.sign.length d2)) (by with_unfolding_all rfl) ?_); intro g3 w3 n3; have R3 : Hid (FrAt w3 g3 g (.slice A2 g.box.length c2) (.slice B2 g.sign.length d2)) := n3.row; have R2 : Hid (FrAt w3 g2 f (.slice A f.box.length c) (.slice B f.sign.length d)) := RowAt.kept N2.out.row n3.below; have B3 := Lib.hid (below_size N2.out.below n3.below); clear n3 N2; have cf0 := R2.out.n; have cf1 := R2.out.ack; have cg0 := R3.out.n; have cg1 := R3.out.ack; have cf2 := R2.out.box HO.out; have cf3 := R2.out.sign HO.out; have cg2 := R3.out.box HP.out; have cg3 := R3.out.sign HP.out; have q1 := Q1.out w3; have q2 := Q2.out w3; have q3 := Q3.out w3; have hgd := Try.eqGuardKey)
      | (with_reducible refine wpListG_val (o := ⟨some 19, _, _, _, _, _⟩) (by with_unfolding_all rfl) (.agg (keyC f.eph)) (by exact run_keyL 24 (.tmp 18) (by with_unfolding_all rfl) g2 2 (by with_unfolding_all rfl) _ _ R2.out.eph Try.underlying24 rfl (Try.sizeKeyM _ HO.out.eph)) ?_)
      | (with_reducible refine wpListG_val (o := ⟨some 21, _, _, _, _, _⟩) (by with_unfolding_all rfl) (.agg (keyC g.eph)) (by exact run_keyL 24 (.tmp 20) (by with_unfolding_all rfl) g3 2 (by with_unfolding_all rfl) _ _ R3.out.eph Try.underlying24 rfl (Try.sizeKeyM _ HP.out.eph)) ?_)
      | (with_reducible refine wpListG_val (o := ⟨some 26, _, _, _, _, _⟩) (by with_unfolding_all rfl) (.agg (keyC f.epoch)) (by exact run_keyL 24 (.tmp 25) (by with_unfolding_all rfl) g2 34 (by with_unfolding_all rfl) _ _ (R2.out.epoch HO.out) Try.underlying24 rfl (Try.sizeKeyM _ HO.out.epoch)) ?_)
      | (with_reducible refine wpListG_val (o := ⟨some 28, _, _, _, _, _⟩) (by with_unfolding_all rfl) (.agg (keyC g.epoch)) (by exact run_keyL 24 (.tmp 27) (by with_unfolding_all rfl) g3 34 (by with_unfolding_all rfl) _ _ (R3.out.epoch HP.out) Try.underlying24 rfl (Try.sizeKeyM _ HP.out.epoch)) ?_)
      | (with_reducible refine wpListG_val (o := ⟨some 33, _, _, _, _, _⟩) (by with_unfolding_all rfl) (.agg (keyC f.next)) (by exact run_keyL 24 (.tmp 32) (by with_unfolding_all rfl) g2 66 (by with_unfolding_all rfl) _ _ (R2.out.next HO.out) Try.underlying24 rfl (Try.sizeKeyM _ HO.out.next)) ?_)
      | (with_reducible refine wpListG_val (o := ⟨some 35, _, _, _, _, _⟩) (by with_unfolding_all rfl) (.agg (keyC g.next)) (by exact run_keyL 24 (.tmp 34) (by with_unfolding_all rfl) g3 66 (by with_unfolding_all rfl) _ _ (R3.out.next HP.out) Try.underlying24 rfl (Try.sizeKeyM _ HP.out.next)) ?_))
    go_ret
    exact ⟨by rw [E.out]; rfl, B3.out⟩
  rw [show (f.eph == g.eph) = true by simp [a2]] at Q1
  have Z2 := Lib.hid a2
  clear a2
  by_cases a3 : f.epoch = g.epoch
  rotate_left
  · have E : Hid (sameF f g = false) := by show _ = _; unfold sameF; simp [a3]
    rw [show (f.epoch == g.epoch) = false by simp [a3]] at Q2
    clear a3 CS CK
    go_enter Try.func22, Try.ntmps22
    go_wp2_with (first
      | ((with_reducible refine wpList_box_row (o := ⟨some 2, _, _, _, _, _⟩) rfl 28 (.tmp 0) rfl (frC f (.slice A f.box.length c) (.slice B f.sign.length d)) (by with_unfolding_all rfl) ?_); intro g2 w2 n2; have N2 := Lib.hid n2; clear n2)
      | ((with_reducible refine wpList_box_row (o := ⟨some 3, _, _, _, _, _⟩) rfl 28 (.tmp 1) rfl (frC g (.slice A2 g.box.length c2) (.slice B2 g.sign.length d2)) (by with_unfolding_all rfl) ?_); intro g3 w3 n3; have R3 : Hid (FrAt w3 g3 g (.slice A2 g.box.length c2) (.slice B2 g.sign.length d2)) := n3.row; have R2 : Hid (FrAt w3 g2 f (.slice A f.box.length c) (.slice B f.sign.length d)) := RowAt.kept N2.out.row n3.below; have B3 := Lib.hid (below_size N2.out.below n3.below); clear n3 N2; have cf0 := R2.out.n; have cf1 := R2.out.ack; have cg0 := R3.out.n; have cg1 := R3.out.ack; have cf2 := R2.out.box HO.out; have cf3 := R2.out.sign HO.out; have cg2 := R3.out.box HP.out; have cg3 := R3.out.sign HP.out; have q1 := Q1.out w3; have q2 := Q2.out w3; have q3 := Q3.out w3; have hgd := Try.eqGuardKey)
      | (with_reducible refine wpListG_val (o := ⟨some 19, _, _, _, _, _⟩) (by with_unfolding_all rfl) (.agg (keyC f.eph)) (by exact run_keyL 24 (.tmp 18) (by with_unfolding_all rfl) g2 2 (by with_unfolding_all rfl) _ _ R2.out.eph Try.underlying24 rfl (Try.sizeKeyM _ HO.out.eph)) ?_)
      | (with_reducible refine wpListG_val (o := ⟨some 21, _, _, _, _, _⟩) (by with_unfolding_all rfl) (.agg (keyC g.eph)) (by exact run_keyL 24 (.tmp 20) (by with_unfolding_all rfl) g3 2 (by with_unfolding_all rfl) _ _ R3.out.eph Try.underlying24 rfl (Try.sizeKeyM _ HP.out.eph)) ?_)
      | (with_reducible refine wpListG_val (o := ⟨some 26, _, _, _, _, _⟩) (by with_unfolding_all rfl) (.agg (keyC f.epoch)) (by exact run_keyL 24 (.tmp 25) (by with_unfolding_all rfl) g2 34 (by with_unfolding_all rfl) _ _ (R2.out.epoch HO.out) Try.underlying24 rfl (Try.sizeKeyM _ HO.out.epoch)) ?_)
      | (with_reducible refine wpListG_val (o := ⟨some 28, _, _, _, _, _⟩) (by with_unfolding_all rfl) (.agg (keyC g.epoch)) (by exact run_keyL 24 (.tmp 27) (by with_unfolding_all rfl) g3 34 (by with_unfolding_all rfl) _ _ (R3.out.epoch HP.out) Try.underlying24 rfl (Try.sizeKeyM _ HP.out.epoch)) ?_)
      | (with_reducible refine wpListG_val (o := ⟨some 33, _, _, _, _, _⟩) (by with_unfolding_all rfl) (.agg (keyC f.next)) (by exact run_keyL 24 (.tmp 32) (by with_unfolding_all rfl) g2 66 (by with_unfolding_all rfl) _ _ (R2.out.next HO.out) Try.underlying24 rfl (Try.sizeKeyM _ HO.out.next)) ?_)
      | (with_reducible refine wpListG_val (o := ⟨some 35, _, _, _, _, _⟩) (by with_unfolding_all rfl) (.agg (keyC g.next)) (by exact run_keyL 24 (.tmp 34) (by with_unfolding_all rfl) g3 66 (by with_unfolding_all rfl) _ _ (R3.out.next HP.out) Try.underlying24 rfl (Try.sizeKeyM _ HP.out.next)) ?_))
    go_ret
    exact ⟨by rw [E.out]; rfl, B3.out⟩
  rw [show (f.epoch == g.epoch) = true by simp [a3]] at Q2
  have Z3 := Lib.hid a3
  clear a3
  by_cases a4 : f.next = g.next
  rotate_left
  · have E : Hid (sameF f g = false) := by show _ = _; unfold sameF; simp [a4]
    rw [show (f.next == g.next) = false by simp [a4]] at Q3
    clear a4 CS CK
    go_enter Try.func22, Try.ntmps22
    go_wp2_with (first
      | ((with_reducible refine wpList_box_row (o := ⟨some 2, _, _, _, _, _⟩) rfl 28 (.tmp 0) rfl (frC f (.slice A f.box.length c) (.slice B f.sign.length d)) (by with_unfolding_all rfl) ?_); intro g2 w2 n2; have N2 := Lib.hid n2; clear n2)
      | ((with_reducible refine wpList_box_row (o := ⟨some 3, _, _, _, _, _⟩) rfl 28 (.tmp 1) rfl (frC g (.slice A2 g.box.length c2) (.slice B2 g.sign.length d2)) (by with_unfolding_all rfl) ?_); intro g3 w3 n3; have R3 : Hid (FrAt w3 g3 g (.slice A2 g.box.length c2) (.slice B2 g.sign.length d2)) := n3.row; have R2 : Hid (FrAt w3 g2 f (.slice A f.box.length c) (.slice B f.sign.length d)) := RowAt.kept N2.out.row n3.below; have B3 := Lib.hid (below_size N2.out.below n3.below); clear n3 N2; have cf0 := R2.out.n; have cf1 := R2.out.ack; have cg0 := R3.out.n; have cg1 := R3.out.ack; have cf2 := R2.out.box HO.out; have cf3 := R2.out.sign HO.out; have cg2 := R3.out.box HP.out; have cg3 := R3.out.sign HP.out; have q1 := Q1.out w3; have q2 := Q2.out w3; have q3 := Q3.out w3; have hgd := Try.eqGuardKey)
      | (with_reducible refine wpListG_val (o := ⟨some 19, _, _, _, _, _⟩) (by with_unfolding_all rfl) (.agg (keyC f.eph)) (by exact run_keyL 24 (.tmp 18) (by with_unfolding_all rfl) g2 2 (by with_unfolding_all rfl) _ _ R2.out.eph Try.underlying24 rfl (Try.sizeKeyM _ HO.out.eph)) ?_)
      | (with_reducible refine wpListG_val (o := ⟨some 21, _, _, _, _, _⟩) (by with_unfolding_all rfl) (.agg (keyC g.eph)) (by exact run_keyL 24 (.tmp 20) (by with_unfolding_all rfl) g3 2 (by with_unfolding_all rfl) _ _ R3.out.eph Try.underlying24 rfl (Try.sizeKeyM _ HP.out.eph)) ?_)
      | (with_reducible refine wpListG_val (o := ⟨some 26, _, _, _, _, _⟩) (by with_unfolding_all rfl) (.agg (keyC f.epoch)) (by exact run_keyL 24 (.tmp 25) (by with_unfolding_all rfl) g2 34 (by with_unfolding_all rfl) _ _ (R2.out.epoch HO.out) Try.underlying24 rfl (Try.sizeKeyM _ HO.out.epoch)) ?_)
      | (with_reducible refine wpListG_val (o := ⟨some 28, _, _, _, _, _⟩) (by with_unfolding_all rfl) (.agg (keyC g.epoch)) (by exact run_keyL 24 (.tmp 27) (by with_unfolding_all rfl) g3 34 (by with_unfolding_all rfl) _ _ (R3.out.epoch HP.out) Try.underlying24 rfl (Try.sizeKeyM _ HP.out.epoch)) ?_)
      | (with_reducible refine wpListG_val (o := ⟨some 33, _, _, _, _, _⟩) (by with_unfolding_all rfl) (.agg (keyC f.next)) (by exact run_keyL 24 (.tmp 32) (by with_unfolding_all rfl) g2 66 (by with_unfolding_all rfl) _ _ (R2.out.next HO.out) Try.underlying24 rfl (Try.sizeKeyM _ HO.out.next)) ?_)
      | (with_reducible refine wpListG_val (o := ⟨some 35, _, _, _, _, _⟩) (by with_unfolding_all rfl) (.agg (keyC g.next)) (by exact run_keyL 24 (.tmp 34) (by with_unfolding_all rfl) g3 66 (by with_unfolding_all rfl) _ _ (R3.out.next HP.out) Try.underlying24 rfl (Try.sizeKeyM _ HP.out.next)) ?_))
    go_ret
    exact ⟨by rw [E.out]; rfl, B3.out⟩
  rw [show (f.next == g.next) = true by simp [a4]] at Q3
  have Z4 := Lib.hid a4
  clear a4
  have E0 : Hid (sameF f g = ((f.box == g.box) && (f.sign == g.sign))) := by show _ = _; unfold sameF; simp [Z0.out, Z1.out, Z2.out, Z3.out, Z4.out]
  clear Z0 Z1 Z2 Z3 Z4
  by_cases a5 : f.box = g.box
  rotate_left
  · have E : Hid (sameF f g = false) := by show _ = _; rw [E0.out]; simp [a5]
    rw [show (f.box == g.box) = false by simp [a5]] at CS
    clear a5 CK E0
    go_enter Try.func22, Try.ntmps22
    go_wp2_with (first
      | ((with_reducible refine wpList_box_row (o := ⟨some 2, _, _, _, _, _⟩) rfl 28 (.tmp 0) rfl (frC f (.slice A f.box.length c) (.slice B f.sign.length d)) (by with_unfolding_all rfl) ?_); intro g2 w2 n2; have N2 := Lib.hid n2; clear n2)
      | ((with_reducible refine wpList_box_row (o := ⟨some 3, _, _, _, _, _⟩) rfl 28 (.tmp 1) rfl (frC g (.slice A2 g.box.length c2) (.slice B2 g.sign.length d2)) (by with_unfolding_all rfl) ?_); intro g3 w3 n3; have R3 : Hid (FrAt w3 g3 g (.slice A2 g.box.length c2) (.slice B2 g.sign.length d2)) := n3.row; have R2 : Hid (FrAt w3 g2 f (.slice A f.box.length c) (.slice B f.sign.length d)) := RowAt.kept N2.out.row n3.below; have B3 := Lib.hid (below_size N2.out.below n3.below); clear n3 N2; have cf0 := R2.out.n; have cf1 := R2.out.ack; have cg0 := R3.out.n; have cg1 := R3.out.ack; have cf2 := R2.out.box HO.out; have cf3 := R2.out.sign HO.out; have cg2 := R3.out.box HP.out; have cg3 := R3.out.sign HP.out; have q1 := Q1.out w3; have q2 := Q2.out w3; have q3 := Q3.out w3; have hgd := Try.eqGuardKey)
      | (with_reducible refine wpListG_val (o := ⟨some 19, _, _, _, _, _⟩) (by with_unfolding_all rfl) (.agg (keyC f.eph)) (by exact run_keyL 24 (.tmp 18) (by with_unfolding_all rfl) g2 2 (by with_unfolding_all rfl) _ _ R2.out.eph Try.underlying24 rfl (Try.sizeKeyM _ HO.out.eph)) ?_)
      | (with_reducible refine wpListG_val (o := ⟨some 21, _, _, _, _, _⟩) (by with_unfolding_all rfl) (.agg (keyC g.eph)) (by exact run_keyL 24 (.tmp 20) (by with_unfolding_all rfl) g3 2 (by with_unfolding_all rfl) _ _ R3.out.eph Try.underlying24 rfl (Try.sizeKeyM _ HP.out.eph)) ?_)
      | (with_reducible refine wpListG_val (o := ⟨some 26, _, _, _, _, _⟩) (by with_unfolding_all rfl) (.agg (keyC f.epoch)) (by exact run_keyL 24 (.tmp 25) (by with_unfolding_all rfl) g2 34 (by with_unfolding_all rfl) _ _ (R2.out.epoch HO.out) Try.underlying24 rfl (Try.sizeKeyM _ HO.out.epoch)) ?_)
      | (with_reducible refine wpListG_val (o := ⟨some 28, _, _, _, _, _⟩) (by with_unfolding_all rfl) (.agg (keyC g.epoch)) (by exact run_keyL 24 (.tmp 27) (by with_unfolding_all rfl) g3 34 (by with_unfolding_all rfl) _ _ (R3.out.epoch HP.out) Try.underlying24 rfl (Try.sizeKeyM _ HP.out.epoch)) ?_)
      | (with_reducible refine wpListG_val (o := ⟨some 33, _, _, _, _, _⟩) (by with_unfolding_all rfl) (.agg (keyC f.next)) (by exact run_keyL 24 (.tmp 32) (by with_unfolding_all rfl) g2 66 (by with_unfolding_all rfl) _ _ (R2.out.next HO.out) Try.underlying24 rfl (Try.sizeKeyM _ HO.out.next)) ?_)
      | (with_reducible refine wpListG_val (o := ⟨some 35, _, _, _, _, _⟩) (by with_unfolding_all rfl) (.agg (keyC g.next)) (by exact run_keyL 24 (.tmp 34) (by with_unfolding_all rfl) g3 66 (by with_unfolding_all rfl) _ _ (R3.out.next HP.out) Try.underlying24 rfl (Try.sizeKeyM _ HP.out.next)) ?_))
    refine (CS.out _ _ _ (F1.out.below B3.out) (K1.out.below B3.out)).mono ?_
    intro e w4 hh
    obtain ⟨he, b4⟩ := hh
    subst he
    have B4 := Lib.hid (below_size B3.out b4)
    clear b4
    go_wp2
    go_ret
    exact ⟨by rw [E.out]; rfl, B4.out⟩
  · have E : Hid (sameF f g = (f.sign == g.sign)) := by show _ = _; rw [E0.out]; simp [a5]
    rw [show (f.box == g.box) = true by simp [a5]] at CS
    clear a5 E0
    go_enter Try.func22, Try.ntmps22
    go_wp2_with (first
      | ((with_reducible refine wpList_box_row (o := ⟨some 2, _, _, _, _, _⟩) rfl 28 (.tmp 0) rfl (frC f (.slice A f.box.length c) (.slice B f.sign.length d)) (by with_unfolding_all rfl) ?_); intro g2 w2 n2; have N2 := Lib.hid n2; clear n2)
      | ((with_reducible refine wpList_box_row (o := ⟨some 3, _, _, _, _, _⟩) rfl 28 (.tmp 1) rfl (frC g (.slice A2 g.box.length c2) (.slice B2 g.sign.length d2)) (by with_unfolding_all rfl) ?_); intro g3 w3 n3; have R3 : Hid (FrAt w3 g3 g (.slice A2 g.box.length c2) (.slice B2 g.sign.length d2)) := n3.row; have R2 : Hid (FrAt w3 g2 f (.slice A f.box.length c) (.slice B f.sign.length d)) := RowAt.kept N2.out.row n3.below; have B3 := Lib.hid (below_size N2.out.below n3.below); clear n3 N2; have cf0 := R2.out.n; have cf1 := R2.out.ack; have cg0 := R3.out.n; have cg1 := R3.out.ack; have cf2 := R2.out.box HO.out; have cf3 := R2.out.sign HO.out; have cg2 := R3.out.box HP.out; have cg3 := R3.out.sign HP.out; have q1 := Q1.out w3; have q2 := Q2.out w3; have q3 := Q3.out w3; have hgd := Try.eqGuardKey)
      | (with_reducible refine wpListG_val (o := ⟨some 19, _, _, _, _, _⟩) (by with_unfolding_all rfl) (.agg (keyC f.eph)) (by exact run_keyL 24 (.tmp 18) (by with_unfolding_all rfl) g2 2 (by with_unfolding_all rfl) _ _ R2.out.eph Try.underlying24 rfl (Try.sizeKeyM _ HO.out.eph)) ?_)
      | (with_reducible refine wpListG_val (o := ⟨some 21, _, _, _, _, _⟩) (by with_unfolding_all rfl) (.agg (keyC g.eph)) (by exact run_keyL 24 (.tmp 20) (by with_unfolding_all rfl) g3 2 (by with_unfolding_all rfl) _ _ R3.out.eph Try.underlying24 rfl (Try.sizeKeyM _ HP.out.eph)) ?_)
      | (with_reducible refine wpListG_val (o := ⟨some 26, _, _, _, _, _⟩) (by with_unfolding_all rfl) (.agg (keyC f.epoch)) (by exact run_keyL 24 (.tmp 25) (by with_unfolding_all rfl) g2 34 (by with_unfolding_all rfl) _ _ (R2.out.epoch HO.out) Try.underlying24 rfl (Try.sizeKeyM _ HO.out.epoch)) ?_)
      | (with_reducible refine wpListG_val (o := ⟨some 28, _, _, _, _, _⟩) (by with_unfolding_all rfl) (.agg (keyC g.epoch)) (by exact run_keyL 24 (.tmp 27) (by with_unfolding_all rfl) g3 34 (by with_unfolding_all rfl) _ _ (R3.out.epoch HP.out) Try.underlying24 rfl (Try.sizeKeyM _ HP.out.epoch)) ?_)
      | (with_reducible refine wpListG_val (o := ⟨some 33, _, _, _, _, _⟩) (by with_unfolding_all rfl) (.agg (keyC f.next)) (by exact run_keyL 24 (.tmp 32) (by with_unfolding_all rfl) g2 66 (by with_unfolding_all rfl) _ _ (R2.out.next HO.out) Try.underlying24 rfl (Try.sizeKeyM _ HO.out.next)) ?_)
      | (with_reducible refine wpListG_val (o := ⟨some 35, _, _, _, _, _⟩) (by with_unfolding_all rfl) (.agg (keyC g.next)) (by exact run_keyL 24 (.tmp 34) (by with_unfolding_all rfl) g3 66 (by with_unfolding_all rfl) _ _ (R3.out.next HP.out) Try.underlying24 rfl (Try.sizeKeyM _ HP.out.next)) ?_))
    refine (CS.out _ _ _ (F1.out.below B3.out) (K1.out.below B3.out)).mono ?_
    intro e w4 hh
    obtain ⟨he, b4⟩ := hh
    subst he
    have B4 := Lib.hid (below_size B3.out b4)
    have x3 : w4.cell? ⟨g2, 99, none⟩ = some (.slice B f.sign.length d) := (b4.cell (World.block_lt_of_cell? w3 _ cf3)).trans cf3
    have y3 : w4.cell? ⟨g3, 99, none⟩ = some (.slice B2 g.sign.length d2) := (b4.cell (World.block_lt_of_cell? w3 _ cg3)).trans cg3
    clear b4 cf0 cf1 cg0 cg1 cf2 cf3 cg2 cg3 q1 q2 q3
    go_wp2_with fail
    refine (CK.out _ _ _ (F2.out.below B4.out) (K2.out.below B4.out)).mono ?_
    intro e w5 hh
    obtain ⟨he, b5⟩ := hh
    subst he
    have B5 := Lib.hid (below_size B4.out b5)
    clear b5
    go_wp2
    go_ret
    exact ⟨by rw [E.out]; rfl, B5.out⟩

def shortF (f : Fr) : Bool := decide (f.box.length ≤ 400) && decide (f.sign.length ≤ 110)
set_option maxHeartbeats 1000000 in
theorem short_any (w : World) (v : Value) (f : Fr) (h : FrV w v f) :
    Calls Try.prog 10 #[v] w fun e w' => e = .returned (.bool (shortF f)) ∧ Below w.heap.size w w' := by
  obtain ⟨bv, sv, rfl, ho, h1, h2⟩ := h
  have HO := Lib.hid ho
  obtain ⟨A, c, rfl, _, q2, _⟩ := h1
  obtain ⟨B, d, rfl, _, q3, _⟩ := h2
  unfold maxLen at q2 q3
  have l1 : f.box.length ≤ 9223372036854775807 := by omega
  have l2 : f.sign.length ≤ 9223372036854775807 := by omega
  clear q2 q3 ho
  by_cases a0 : f.box.length ≤ 400
  · have d0 : decide ((f.box.length : Int) ≤ 400) = true := by simp; omega
    have E : Hid (shortF f = decide ((f.sign.length : Int) ≤ 110)) := by show _ = _; unfold shortF; simp [a0]; omega
    clear a0
    go_enter Try.func10, Try.ntmps10
    go_wp2_with (first
      | ((with_reducible refine wpList_box_row (o := ⟨some 1, _, _, _, _, _⟩) rfl 28 (.tmp 0) rfl (frC f (.slice A f.box.length c) (.slice B f.sign.length d)) (by with_unfolding_all rfl) ?_); intro g1 w1 n1; have HR : Hid (FrAt w1 g1 f (.slice A f.box.length c) (.slice B f.sign.length d)) := n1.row; have c2 := HR.out.box HO.out; have c3 := HR.out.sign HO.out; have HB := Lib.hid n1.below; clear n1))
    go_ret
    exact ⟨by rw [E.out]; rfl, HB.out⟩
  · have d0 : decide ((f.box.length : Int) ≤ 400) = false := by simp; omega
    have E : Hid (shortF f = false) := by show _ = _; unfold shortF; simp [a0]
    clear a0
    go_enter Try.func10, Try.ntmps10
    go_wp2_with (first
      | ((with_reducible refine wpList_box_row (o := ⟨some 1, _, _, _, _, _⟩) rfl 28 (.tmp 0) rfl (frC f (.slice A f.box.length c) (.slice B f.sign.length d)) (by with_unfolding_all rfl) ?_); intro g1 w1 n1; have HR : Hid (FrAt w1 g1 f (.slice A f.box.length c) (.slice B f.sign.length d)) := n1.row; have c2 := HR.out.box HO.out; have c3 := HR.out.sign HO.out; have HB := Lib.hid n1.below; clear n1))
    go_ret
    exact ⟨by rw [E.out]; rfl, HB.out⟩
end Go.Proofs.Ytmhhjdiilmgmoaa
end
