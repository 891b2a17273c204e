/-
  TrailCut: for every input the call returns true, and each argument reads as it read before. Conditions: none beyond the given statement's own (the package-level tables that its row lists hold what the program's text lays: the card ties that).
-/
import Derived.Test.YtlifjlcfoeednaaDoorQTrlAL
import Derived.Test.YtlifjlcfoeednaaDoorQTrlAB
import Derived.ProofKit
import Derived.OpenShut
import Derived.ShutString
import Derived.ChangeOld
import Derived.Deep.DeepHandedRow
section
namespace Go.Proofs.YtlifjlcfoeednaaDoor
open Go.RowKit
set_option linter.unusedVariables false
set_option maxRecDepth 20000

set_option maxHeartbeats 8000000 in
theorem trailCut_walk (w : World) (hq : Tabs w) (v : Value) (l : List (List UInt8)) (hb : Bss w v l) (a : Int) (ha : -9223372036854775808 ≤ a ∧ a ≤ 9223372036854775807) :
    Calls Tryd.prog 5 #[v, .int .i64 a] w (RetV w (.bool true)) := by
  have HQ := Lib.hid hq
  have E0 := Lib.hid (Env.start w)
  have CW : Hid (∀ x, Below w.heap.size w x → Calls Tryd.prog 6 #[] x (RetV x (.bool true))) := fun x hx => trailAwake_any x (HQ.out.below hx)
  obtain ⟨N, hN⟩ : ∃ N, N = l.length := ⟨_, rfl⟩
  obtain ⟨A, c, rfl, hlc, hcm, _⟩ := id hb
  rw [← hN] at hb hlc ⊢
  have HB := Lib.hid hb
  have LN : Hid (l.length = N) := hN.symm
  clear hq hb
  by_cases hA : 10 < N
  · have hA2 : (10 : Int) < (N : Int) := by omega
    clear hN
    go_enter Tryd.func5, Tryd.ntmps5
    go_wp2_with fail
    refine (CW.out _ E0.out.below).mono ?_
    rintro e w1 ⟨rfl, b1⟩
    have E1 := Lib.hid (E0.out.call b1)
    clear b1 E0
    go_wp2_with fail
    go_ret
    exact E1.out.ret _
  have hA2 : ¬ ((10 : Int) < (N : Int)) := by omega
  by_cases hB : a < 0
  · clear hN
    go_enter Tryd.func5, Tryd.ntmps5
    go_wp2_with fail
    refine (CW.out _ E0.out.below).mono ?_
    rintro e w1 ⟨rfl, b1⟩
    have E1 := Lib.hid (E0.out.call b1)
    clear b1 E0
    go_wp2_with fail
    go_ret
    exact E1.out.ret _
  obtain ⟨k, rfl⟩ : ∃ k : Nat, a = (k : Int) := ⟨a.toNat, by omega⟩
  by_cases hC : N < k
  · have hC2 : (N : Int) < (k : Int) := by omega
    clear hN
    go_enter Tryd.func5, Tryd.ntmps5
    go_wp2_with fail
    refine (CW.out _ E0.out.below).mono ?_
    rintro e w1 ⟨rfl, b1⟩
    have E1 := Lib.hid (E0.out.call b1)
    clear b1 E0
    go_wp2_with fail
    go_ret
    exact E1.out.ret _
  have hC2 : ¬ ((N : Int) < (k : Int)) := by omega
  obtain ⟨hs, hhs⟩ : ∃ z, z = startB [] [] := ⟨_, rfl⟩
  have LS : Hid (hs.length = 32) := by show _ = _; rw [hhs]; exact startB_length _ _
  obtain ⟨f, hf⟩ : ∃ f : Nat → List UInt8 × Nat, f = fun j => allT (hs, 0) (l.take j) := ⟨_, rfl⟩
  obtain ⟨PL, hPL⟩ : ∃ PL : Nat → List (List UInt8 × Nat), PL = fun j => (List.range (j + 1)).map f := ⟨_, rfl⟩
  have LF : Hid (∀ j, (f j).1.length = 32) := fun j => by rw [hf]; exact allT_length _ LS.out _
  have NF : Hid (∀ j, j ≤ N → (f j).2 = j) := fun j hj => by
    rw [hf]
    have h := (allT_num (hs, 0) (by show 0 < _; omega) (l.take j)).2
    rw [List.length_take] at h
    show (allT (hs, 0) (l.take j)).2 = j
    rw [h]
    show (0 + min j l.length) % 4294967296 = j
    omega
  have F0 : Hid (f 0 = (hs, 0)) := by show _ = _; rw [hf]; rfl
  have SF : Hid (∀ j b, l[j]? = some b → f (j + 1) = stepT (f j) b) := fun j b h => by
    rw [hf]
    show allT (hs, 0) (l.take (j + 1)) = stepT (allT (hs, 0) (l.take j)) b
    rw [← allT_snoc, List.take_add_one, h]
    rfl
  have FK : Hid (f k = allT (hs, 0) (l.take k)) := by show _ = _; rw [hf]
  have FN : Hid (f N = allT (f k) (l.drop k)) := by
    show _ = _
    rw [hf]
    show allT (hs, 0) (l.take N) = allT (allT (hs, 0) (l.take k)) (l.drop k)
    rw [← allT_append, List.take_append_drop, hN, List.take_length]
  have PG : Hid (∀ n j, j ≤ n → (PL n)[j]? = some (f j)) := fun n j h => by
    rw [hPL]
    show ((List.range (n + 1)).map f)[j]? = some (f j)
    rw [List.getElem?_map, List.getElem?_range (by omega)]
    rfl
  have PE : Hid (∀ n j t, (PL n)[j]? = some t → t = f j ∧ j ≤ n) := fun n j t h => by
    have h1 := (List.getElem?_eq_some_iff.1 h).1
    have h2 : j ≤ n := by rw [hPL] at h1; simp at h1; omega
    rw [PG.out n j h2] at h
    exact ⟨(Option.some.inj h).symm, h2⟩
  have PLL : Hid (∀ n, (PL n).length = n + 1) := fun n => by rw [hPL]; simp
  have PO : Hid (∀ n, n ≤ N → TOk (PL n)) := fun n hn => by
    refine ⟨by rw [PLL.out]; omega, fun t ht => ?_, 0, by omega, fun j t h => ?_⟩
    · obtain ⟨j, hj⟩ := List.mem_iff_getElem?.1 ht
      rw [(PE.out n j t hj).1]; exact LF.out j
    · obtain ⟨h1, h2⟩ := PE.out n j t h
      rw [h1, NF.out j (by omega), Nat.zero_add, Nat.mod_eq_of_lt (by omega)]
  have P0 : Hid (addL [] (hs, 0) = PL 0) := by
    show _ = _
    rw [hPL, show addL [] (hs, 0) = [(hs, 0)] by simp [addL, addX]]
    show [(hs, 0)] = (List.range 1).map f
    rw [show List.range 1 = [0] from rfl, List.map_cons, List.map_nil, F0.out]
  have PS : Hid (∀ n, n < N → addX (PL n) (f (n + 1)) = 0 ∧ addL (PL n) (f (n + 1)) = PL (n + 1)) := fun n hn => by
    have hl : lastN (PL n) = n := by
      obtain ⟨t, h1, h2⟩ := last_get (L := PL n) (by rw [PLL.out]; omega)
      obtain ⟨h3, h4⟩ := PE.out _ _ _ h1
      have h5 := PLL.out n
      rw [h2, h3, h5, NF.out _ (by omega)]
      omega
    have hx : addX (PL n) (f (n + 1)) = 0 := by
      rw [addX, if_neg (by rw [PLL.out]; omega), if_neg]
      rintro ⟨_, h⟩
      rw [hl, NF.out (n + 1) (by omega), Nat.mod_eq_of_lt (by omega)] at h
      exact h rfl
    refine ⟨hx, ?_⟩
    rw [addL, if_pos hx, hPL]
    show (List.range (n + 1)).map f ++ [f (n + 1)] = (List.range (n + 1 + 1)).map f
    rw [List.range_succ (n := n + 1), List.map_append]
    rfl
  have FD : Hid (∀ j, j ≤ N → findT (PL N) j = ((f j).1, 0)) := fun j hj => by
    have h0 : firstN (PL N) = 0 := by
      have h := ((PO.out N (Nat.le_refl _)).num (PG.out N 0 (Nat.zero_le _))).2
      have h2 := (PO.out N (Nat.le_refl _)).first
      rw [NF.out 0 (Nat.zero_le _)] at h
      omega
    have h1 : atN (PL N) j = j := by rw [atN, h0]; omega
    rw [findT, h1, PG.out N j hj]
  obtain ⟨s1, hs1⟩ : ∃ z, z = sliced A 0 k c 1 := ⟨_, rfl⟩
  obtain ⟨s2, hs2⟩ : ∃ z, z = sliced A k N c 1 := ⟨_, rfl⟩
  have HS1 := Lib.hid hs1
  have HS2 := Lib.hid hs2
  have CS : Hid (∀ x rs m g n, Env w rs x → rs[m]? = some (g, 76, mC n) → n ≤ 1000 → Calls Tryd.prog 8 #[.pointer (some ⟨g, 0, none⟩), .slice none 0 0, .slice none 0 0] x fun e y => e = .returned (.agg (trC (f 0).1 (f 0).2)) ∧ Env w (rs.set m (g, 76, mC (n + 1))) y) := fun x rs m g n h1 h2 h3 => by
    rw [F0.out, hhs]
    exact start_env w x HQ.out rs m g n h1 h2 (by omega) _ _ [] [] (Bs.nil x) (Bs.nil x) (by simp) (by simp)
  have CN : Hid (∀ x rs m g n j u b, Env w rs x → rs[m]? = some (g, 76, mC n) → n ≤ 1000 → l[j]? = some b → j < N → Bs x u b → b.length ≤ 300 → Calls Tryd.prog 11 #[.agg (trC (f j).1 (f j).2), .pointer (some ⟨g, 0, none⟩), u] x fun e y => e = .returned (.agg (trC (f (j + 1)).1 (f (j + 1)).2)) ∧ Env w (rs.set m (g, 76, mC (n + 1))) y) := fun x rs m g n j u b h1 h2 h3 h4 h5 h6 h7 => by
    rw [SF.out j b h4]
    exact nextT_env w x HQ.out rs m g n h1 h2 (by omega) (f j).1 (f j).2 (LF.out j) (by rw [NF.out j (by omega)]; omega) u b h6 (by omega)
  have CA1 : Hid (∀ x rs m g n, Env w rs x → rs[m]? = some (g, 76, mC n) → n ≤ 1000 → (∀ b ∈ l, b.length ≤ 300) → Calls Tryd.prog 10 #[.agg (trC (f 0).1 (f 0).2), .pointer (some ⟨g, 0, none⟩), s1] x fun e y => e = .returned (.agg (trC (f k).1 (f k).2)) ∧ Env w (rs.set m (g, 76, mC (n + (l.take k).length))) y) := fun x rs m g n h1 h2 h3 h4 => by
    rw [FK.out, F0.out, hs1]
    exact all_env w x HQ.out rs m g n h1 h2 (by omega) (hs, 0) LS.out (by show 0 < 4294967296; omega) _ (l.take k) (by rw [List.length_take]; omega) (fun b hb => Nat.le_trans (h4 b (List.mem_of_mem_take hb)) (by omega)) fun y n' hy => (HB.out.keep hy.below).upto1 k (by omega)
  have CA2 : Hid (∀ x rs m g n, Env w rs x → rs[m]? = some (g, 76, mC n) → n ≤ 1000 → (∀ b ∈ l, b.length ≤ 300) → Calls Tryd.prog 10 #[.agg (trC (f k).1 (f k).2), .pointer (some ⟨g, 0, none⟩), s2] x fun e y => e = .returned (.agg (trC (f N).1 (f N).2)) ∧ Env w (rs.set m (g, 76, mC (n + (l.drop k).length))) y) := fun x rs m g n h1 h2 h3 h4 => by
    rw [FN.out, hs2]
    exact all_env w x HQ.out rs m g n h1 h2 (by omega) (f k) (LF.out k) (by rw [NF.out k (by omega)]; omega) _ (l.drop k) (by rw [List.length_drop]; omega) (fun b hb => Nat.le_trans (h4 b (List.mem_of_mem_drop hb)) (by omega)) fun y n' hy => (HB.out.keep hy.below).from1 k (by omega)
  have CD0 : Hid (∀ x rs i b, Env w rs x → rs[i]? = some (b, 46, pastC []) → Calls Tryd.prog 13 #[.pointer (some ⟨b, 0, none⟩), .agg (trC (f 0).1 (f 0).2)] x fun e y => ∃ z, e = .returned z ∧ Env w (rs.set i (b, 46, pastC (PL 0))) y) := fun x rs i b h1 h2 => by
    rw [F0.out]
    exact (pastAdd_env w x rs i b h1 [] TOk.nil h2 (hs, 0) LS.out (by show 0 < 4294967296; omega)).mono fun e y ⟨q1, q2⟩ => ⟨_, q1, by rw [P0.out] at q2; exact q2⟩
  have CD : Hid (∀ x rs i b j, j < N → Env w rs x → rs[i]? = some (b, 46, pastC (PL j)) → Calls Tryd.prog 13 #[.pointer (some ⟨b, 0, none⟩), .agg (trC (f (j + 1)).1 (f (j + 1)).2)] x fun e y => e = .returned (.int .i64 0) ∧ Env w (rs.set i (b, 46, pastC (PL (j + 1)))) y) := fun x rs i b j hj h1 h2 =>
    (pastAdd_env w x rs i b h1 _ (PO.out j (by omega)) h2 (f (j + 1)) (LF.out _) (by rw [NF.out _ (by omega)]; omega)).mono fun e y ⟨q1, q2⟩ => ⟨by rw [(PS.out j hj).1] at q1; exact q1, by rw [(PS.out j hj).2] at q2; exact q2⟩
  have CF : Hid (∀ x rs i b j, j ≤ N → Env w rs x → rs[i]? = some (b, 46, pastC (PL N)) → Calls Tryd.prog 15 #[.pointer (some ⟨b, 0, none⟩), .int .u32 (j : Int)] x (RetV x (.tuple #[.agg (keyC (f j).1), .int .i64 0]))) := fun x rs i b j hj h1 h2 => by
    have h := pastFind_any w x rs i b h1 _ (PO.out N (Nat.le_refl _)) h2 j (by omega)
    rw [FD.out j hj] at h
    exact h
  have GET : Hid (∀ j, j < N → ∃ b, l[j]? = some b) := fun j hj => ⟨_, List.getElem?_eq_getElem (by omega)⟩
  have HALL : Hid ((∀ j b, j < N → l[j]? = some b → b.length ≤ 300) → ∀ b ∈ l, b.length ≤ 300) := fun h b hb => by
    obtain ⟨j, hj⟩ := List.mem_iff_getElem?.1 hb
    exact h j b (by have := (List.getElem?_eq_some_iff.1 hj).1; omega) hj
  have CU : Hid (∀ j b, l[j]? = some b → ∃ b0 off u, A = some ⟨b0, off, none⟩ ∧ (∀ x, Below w.heap.size w x → x.cell? ⟨b0, off + j, none⟩ = some u ∧ Bs x u b)) := fun j b h => by
    have hlt := (List.getElem?_eq_some_iff.1 h)
    obtain ⟨h1, h2⟩ := hlt
    obtain ⟨b0, off, hA, u, hc, hu⟩ := HB.out.at1 j h1
    rw [h2] at hu
    exact ⟨b0, off, u, hA, fun x hx => ⟨cellN hx hc, hu.below hx⟩⟩
  have hwk : IntKind.u32.wrap (k : Int) = (k : Int) := by rw [IntKind.wrap_u32]; omega
  have hwN : IntKind.u32.wrap (N : Int) = (N : Int) := by rw [IntKind.wrap_u32]; omega
  clear hN hs1 hs2 hf hPL hhs SF FK FN F0 PG PE PLL PO P0 PS FD
  go_enter Tryd.func5, Tryd.ntmps5
  go_wp2_with fail
  refine (CW.out _ E0.out.below).mono ?_
  rintro e w1 ⟨rfl, b1⟩
  have E1 := Lib.hid (E0.out.call b1)
  clear b1 E0
  go_wp2_with fail
  refine (New_any _ false).mono ?_
  intro e w2 h
  obtain ⟨g, he, n2⟩ := h
  subst he
  have E2 : Hid (Env w [(g, 76, mC 0)] w2) := Lib.hid (E1.out.new n2)
  clear n2 E1
  go_wp2_with fail
  refine (CS.out _ _ 0 _ _ E2.out rfl (by omega)).mono ?_
  intro e w3 h
  obtain ⟨he, h⟩ := h
  subst he
  have E3 : Hid (Env w [(g, 76, mC 1)] w3) := Lib.hid h
  clear h E2
  have L0 := Lib.hid (LF.out 0)
  go_wp2_with (first
    | ((with_reducible refine wpE_alloc (o := ⟨some 7, _, _, _, _, _⟩) rfl 27 rfl (trC zeroKey 0) Tryd.zeroT E3.out ?_); intro g7 w4 T1; have E4 := Lib.hid T1; clear T1)
    | ((with_reducible refine wpE_store (o := ⟨none, _, _, _, _, _⟩) rfl 27 (.tmp 7) (.tmp 35) rfl 0 g7 27 (trC zeroKey 0) (trC (f 0).1 (f 0).2) (by with_unfolding_all rfl) (by with_unfolding_all rfl) (by with_unfolding_all rfl) (trC_same zeroKey_length L0.out) (Tryd.sizeT _ _ L0.out) (trC_one _ _) E4.out ?_); intro w5 T1; simp only [List.set_cons_zero] at T1; have E5 := Lib.hid T1; clear T1)
    | (with_reducible refine wpList_build0 (o := ⟨some 36, _, _, _, _, _⟩) rfl 46 rfl (pastC []) Tryd.builtPast ?_)
    | ((with_reducible refine wpE_box (o := ⟨some 37, _, _, _, _, _⟩) rfl 46 (.tmp 36) rfl (pastC []) (by with_unfolding_all rfl) E5.out ?_); intro gp w6 T1; have E6 := Lib.hid T1; clear T1)
    | (with_reducible refine wpE_load (o := ⟨some 39, _, _, _, _, _⟩) rfl 27 (.tmp 7) rfl 1 g7 27 (trC (f 0).1 (f 0).2) _ (by with_unfolding_all rfl) (by with_unfolding_all rfl) Tryd.underlying27 rfl (Tryd.sizeT _ _ L0.out) E6.out ?_))
  refine (CD0.out _ _ 0 _ E6.out rfl).mono ?_
  intro e w7 h
  obtain ⟨z, he, h⟩ := h
  subst he
  have E7 : Hid (Env w [(gp, 46, pastC (PL 0)), (g7, 27, trC (f 0).1 (f 0).2), (g, 76, mC 1)] w7) := Lib.hid h
  clear h E3 E4 E5 E6 L0 CD0
  go_wp2_with fail
  go_loopw [9] (fun q wr => ∃ j : Nat, j ≤ N ∧ q = .int .i64 (j : Int) ∧ (∀ k b, k < j → l[k]? = some b → b.length ≤ 300) ∧ Env w [(gp, 46, pastC (PL j)), (g7, 27, trC (f j).1 (f j).2), (g, 76, mC (1 + j))] wr) (fun q _ => N - (intOf q).toNat)
  case atStart => exact ⟨0, by omega, rfl, fun k b h => absurd h (Nat.not_lt_zero k), E7.out⟩
  case round =>
    clear E7
    obtain ⟨j, hj, rfl, hall, hE⟩ := hrel
    have E := Lib.hid hE
    have HA := Lib.hid hall
    clear hE hall
    by_cases hlt : j < N
    · have hlt2 : (j : Int) < (N : Int) := by omega
      have hw1 : IntKind.i64.wrap ((j : Int) + 1) = (j : Int) + 1 := IntWalk.i64_in _ (by omega)
      have hq0 : ¬ ((j : Int) < 0) := by omega
      obtain ⟨b, hbj⟩ := GET.out j hlt
      have HBJ := Lib.hid hbj
      obtain ⟨b0, off, u, hA', hcu⟩ := CU.out j b hbj
      obtain ⟨Au, cu, hu, _, _, _⟩ := (hcu w (Below.refl _ _)).2
      subst hA' hu
      have HU := Lib.hid hcu
      have c1 := (HU.out wr E.out.below).1
      clear hbj hcu
      by_cases hbl : 300 < b.length
      · have hbl2 : (300 : Int) < (b.length : Int) := by omega
        go_wp2_with fail
        go_ret
        exact E.out.ret _
      · have hbl2 : ¬ ((300 : Int) < (b.length : Int)) := by omega
        have LJ := Lib.hid (LF.out j)
        have LJ1 := Lib.hid (LF.out (j + 1))
        go_wp2_with fail
        refine plain_region (S := fun x => Env w [(g7, 27, trC (f j).1 (f j).2)] x) (fin := fun k => k == 7) (by kernel_rfl) ?_
        have ED := Lib.hid E.out.drew
        have hS : Env w [(g7, 27, trC (f j).1 (f j).2)] wr.drew := ED.out.less (by simp)
        change walkS _ _ _ _ _ _ 8 _ _ _
        refine walkS_take (i := 0) (oi := ⟨some 54, _, _, _, _, _⟩) (v := .agg (trC (f j).1 (f j).2)) rfl (by kernel_rfl) (by kernel_rfl) (fun _ _ _ h => h) _ _ _ _ (by kernel_rfl) (by kernel_rfl) (Or.inl ⟨by rfl, fun w' hS' => (run_load_row 27 (.tmp 7) rfl g7 rfl 27 (trC (f j).1 (f j).2) (0, 0) _ (hS'.row 0 rfl) Tryd.underlying27 rfl (Tryd.sizeT _ _ LJ.out))⟩) hS ?_
        try simp only [Act.put, List.setIfInBounds_toArray, List.set_cons_zero, List.set_cons_succ]
        refine walkS_take (i := 1) (oi := ⟨some 55, _, _, _, _, _⟩) (v := .pointer (some ⟨g, 0, none⟩)) rfl (by kernel_rfl) (by kernel_rfl) (fun _ _ _ h => h) _ _ _ _ (by kernel_rfl) (by kernel_rfl) (Or.inl ⟨by rfl, fun w' hS' => (by first | rfl | (clear hS hS'; go_simp))⟩) hS ?_
        try simp only [Act.put, List.setIfInBounds_toArray, List.set_cons_zero, List.set_cons_succ]
        refine walkS_take (i := 2) (oi := ⟨some 56, _, _, _, _, _⟩) (v := .slice (some ⟨b0, off, none⟩) N c) rfl (by kernel_rfl) (by kernel_rfl) (fun _ _ _ h => h) _ _ _ _ (by kernel_rfl) (by kernel_rfl) (Or.inl ⟨by rfl, fun w' hS' => (by first | rfl | (clear hS hS'; go_simp))⟩) hS ?_
        try simp only [Act.put, List.setIfInBounds_toArray, List.set_cons_zero, List.set_cons_succ]
        refine walkS_take (i := 3) (oi := ⟨some 57, _, _, _, _, _⟩) (v := .int .i64 (j : Int)) rfl (by kernel_rfl) (by kernel_rfl) (fun _ _ _ h => h) _ _ _ _ (by kernel_rfl) (by kernel_rfl) (Or.inl ⟨by rfl, fun w' hS' => (by first | rfl | (clear hS hS'; go_simp))⟩) hS ?_
        try simp only [Act.put, List.setIfInBounds_toArray, List.set_cons_zero, List.set_cons_succ]
        refine walkS_take (i := 4) (oi := ⟨some 58, _, _, _, _, _⟩) (v := .pointer (some ⟨b0, off + j, none⟩)) rfl (by kernel_rfl) (by kernel_rfl) (fun _ _ _ h => h) _ _ _ _ (by kernel_rfl) (by kernel_rfl) (Or.inl ⟨by rfl, fun w' hS' => (by first | rfl | (clear hS hS'; go_simp))⟩) hS ?_
        try simp only [Act.put, List.setIfInBounds_toArray, List.set_cons_zero, List.set_cons_succ]
        refine walkS_take (i := 5) (oi := ⟨some 59, _, _, _, _, _⟩) (v := .slice Au b.length cu) rfl (by kernel_rfl) (by kernel_rfl) (fun _ _ _ h => h) _ _ _ _ (by kernel_rfl) (by kernel_rfl) (Or.inl ⟨by rfl, fun w' hS' => (by have c := (HU.out w' hS'.below).1; clear hS hS'; go_simp)⟩) hS ?_
        try simp only [Act.put, List.setIfInBounds_toArray, List.set_cons_zero, List.set_cons_succ]
        refine walkS_only (i := 6) (o := ⟨some 60, _, _, _, _, _⟩) (by kernel_rfl) rfl rfl fun KK hKK => ?_
        go_simp
        refine (CN.out _ _ 2 _ _ j _ b ED.out rfl (by omega) HBJ.out hlt (HU.out _ hS.below).2 (by omega)).mono ?_
        intro e w3 h
        obtain ⟨he, h⟩ := h
        subst he
        have E3 : Hid (Env w [(gp, 46, pastC (PL j)), (g7, 27, trC (f j).1 (f j).2), (g, 76, mC (1 + j + 1))] w3) := Lib.hid h
        clear h hS ED
        have hS : Env w [(g7, 27, trC (f j).1 (f j).2)] w3 := E3.out.less (by simp)
        refine hKK _ _ (.inr hS) ?_
        clear hKK KK hS
        try simp only [Act.put, List.setIfInBounds_toArray, List.set_cons_zero, List.set_cons_succ]
        refine walkS_only (i := 7) (o := ⟨none, _, _, _, _, _⟩) (by kernel_rfl) rfl rfl fun KK hKK => ?_
        refine wp_store_row 27 (.tmp 7) (.tmp 60) rfl g7 27 (trC (f j).1 (f j).2) (trC (f (j + 1)).1 (f (j + 1)).2) rfl rfl (E3.out.row 1 rfl) (trC_same LJ.out LJ1.out) (Tryd.sizeT _ _ LJ1.out) (trC_one _ _) fun w4 p4 => ?_
        have E4 : Hid (Env w [(gp, 46, pastC (PL j)), (g7, 27, trC (f (j + 1)).1 (f (j + 1)).2), (g, 76, mC (1 + j + 1))] w4) := Lib.hid (E3.out.put 1 rfl p4)
        refine hKK _ _ (.inl rfl) (walkS_done (by kernel_rfl) ?_ _)
        clear hKK KK p4 E3
        go_wp2_with (with_reducible refine wpE_load (o := ⟨some 62, _, _, _, _, _⟩) rfl 27 (.tmp 7) rfl 1 g7 27 (trC (f (j + 1)).1 (f (j + 1)).2) _ (by with_unfolding_all rfl) (by with_unfolding_all rfl) Tryd.underlying27 rfl (Tryd.sizeT _ _ LJ1.out) E4.out ?_)
        refine (CD.out _ _ 0 _ j hlt E4.out rfl).mono ?_
        intro e w5 h
        obtain ⟨he, h⟩ := h
        subst he
        have E5 : Hid (Env w [(gp, 46, pastC (PL (j + 1))), (g7, 27, trC (f (j + 1)).1 (f (j + 1)).2), (g, 76, mC (1 + j + 1))] w5) := Lib.hid h
        clear h E4
        go_wp2_with fail
        try go_roundw
        · refine ⟨j + 1, by omega, by congr 1, fun k b' hk hb' => ?_, by rw [← Nat.add_assoc]; exact E5.out⟩
          rcases Nat.lt_succ_iff_lt_or_eq.1 hk with h | h
          · exact HA.out k b' h hb'
          · subst h
            rw [HBJ.out] at hb'
            rw [← Option.some.inj hb']
            omega
        · show N - ((j : Int) + 1).toNat < N - (j : Int).toNat
          omega
    · obtain rfl : N = j := by omega
      clear hlt hj
      have HX := Lib.hid (HALL.out fun q b h1 h2 => HA.out q b h1 h2)
      have L0 := Lib.hid (LF.out 0)
      have LK := Lib.hid (LF.out k)
      have LNN := Lib.hid (LF.out N)
      have hkN : k ≤ N := by omega
      have HTK : Hid ((l.take k).length ≤ N) := by show _ ≤ _; rw [List.length_take, LN.out]; omega
      have hk0 : ¬ ((k : Int) < 0) := by omega
      go_wp2_with fail
      refine (CS.out _ _ 2 _ _ E.out rfl (by omega)).mono ?_
      intro e x1 h
      obtain ⟨he, h⟩ := h
      subst he
      have E1 : Hid (Env w [(gp, 46, pastC (PL N)), (g7, 27, trC (f N).1 (f N).2), (g, 76, mC (1 + N + 1))] x1) := Lib.hid h
      clear h E
      go_wp2_with (first
        | ((with_reducible refine wpE_alloc (o := ⟨some 11, _, _, _, _, _⟩) rfl 27 rfl (trC zeroKey 0) Tryd.zeroT E1.out ?_); intro g11 x2 T1; have E2 := Lib.hid T1; clear T1)
        | ((with_reducible refine wpE_store (o := ⟨none, _, _, _, _, _⟩) rfl 27 (.tmp 11) (.tmp 67) rfl 0 g11 27 (trC zeroKey 0) (trC (f 0).1 (f 0).2) (by with_unfolding_all rfl) (by with_unfolding_all rfl) (by with_unfolding_all rfl) (trC_same zeroKey_length L0.out) (Tryd.sizeT _ _ L0.out) (trC_one _ _) E2.out ?_); intro x3 T1; simp only [List.set_cons_zero] at T1; have E3 := Lib.hid T1; clear T1))
      clear E1 E2
      refine plain_region (S := fun x => Env w [(g11, 27, trC (f 0).1 (f 0).2)] x) (fin := fun _ => false) (by kernel_rfl) ?_
      have Da := Lib.hid E3.out.drew
      generalize x3.drew = ya at Da ⊢
      have hS : Env w [(g11, 27, trC (f 0).1 (f 0).2)] ya := Da.out.less (by simp)
      change walkS _ _ _ _ _ _ 8 _ _ _
      refine walkS_take (i := 0) (oi := ⟨some 68, _, _, _, _, _⟩) (v := .agg (trC (f 0).1 (f 0).2)) rfl (by kernel_rfl) (by kernel_rfl) (fun _ _ _ h => h) _ _ _ _ (by kernel_rfl) (by kernel_rfl) (Or.inl ⟨by rfl, fun w' hS' => (run_load_row 27 (.tmp 11) rfl g11 rfl 27 (trC (f 0).1 (f 0).2) (0, 0) _ (hS'.row 0 rfl) Tryd.underlying27 rfl (Tryd.sizeT _ _ L0.out))⟩) hS ?_
      try simp only [Act.put, List.setIfInBounds_toArray, List.set_cons_zero, List.set_cons_succ]
      refine walkS_take (i := 1) (oi := ⟨some 69, _, _, _, _, _⟩) (v := .pointer (some ⟨g, 0, none⟩)) rfl (by kernel_rfl) (by kernel_rfl) (fun _ _ _ h => h) _ _ _ _ (by kernel_rfl) (by kernel_rfl) (Or.inl ⟨by rfl, fun w' hS' => (by first | rfl | (clear hS hS'; go_simp))⟩) hS ?_
      try simp only [Act.put, List.setIfInBounds_toArray, List.set_cons_zero, List.set_cons_succ]
      refine walkS_take (i := 2) (oi := ⟨some 70, _, _, _, _, _⟩) (v := .slice A N c) rfl (by kernel_rfl) (by kernel_rfl) (fun _ _ _ h => h) _ _ _ _ (by kernel_rfl) (by kernel_rfl) (Or.inl ⟨by rfl, fun w' hS' => (by first | rfl | (clear hS hS'; go_simp))⟩) hS ?_
      try simp only [Act.put, List.setIfInBounds_toArray, List.set_cons_zero, List.set_cons_succ]
      refine walkS_take (i := 3) (oi := ⟨some 71, _, _, _, _, _⟩) (v := .int .i64 (k : Int)) rfl (by kernel_rfl) (by kernel_rfl) (fun _ _ _ h => h) _ _ _ _ (by kernel_rfl) (by kernel_rfl) (Or.inl ⟨by rfl, fun w' hS' => (by first | rfl | (clear hS hS'; go_simp))⟩) hS ?_
      try simp only [Act.put, List.setIfInBounds_toArray, List.set_cons_zero, List.set_cons_succ]
      refine walkS_take (i := 4) (oi := ⟨some 72, _, _, _, _, _⟩) (v := s1) rfl (by kernel_rfl) (by kernel_rfl) (fun _ _ _ h => h) _ _ _ _ (by kernel_rfl) (by kernel_rfl) (Or.inl ⟨by rfl, fun w' hS' => (by rw [HS1.out]; exact run_sH 1 28 22 (.tmp 70) (.tmp 71) rfl A N c k .i64 rfl rfl (by omega) Tryd.underlying28 (by kernel_rfl))⟩) hS ?_
      try simp only [Act.put, List.setIfInBounds_toArray, List.set_cons_zero, List.set_cons_succ]
      clear hS
      apply share1n (fun g12 x => Env w [(g12, 27, trC zeroKey 0), (g11, 27, trC (f 0).1 (f 0).2), (gp, 46, pastC (PL N)), (g7, 27, trC (f N).1 (f N).2), (g, 76, mC (1 + N + 1 + (l.take k).length))] x)
      case h =>
        intro HGO0
        have HGO := Lib.hid HGO0
        clear HGO0
        refine walkS_two (i := 5) (j := 6) (by kernel_rfl) rfl rfl rfl rfl (fun KK hKK => ?_) (fun KK hKK => ?_)
        ·
          go_simp
          refine (CA1.out _ _ 3 _ _ Da.out rfl (by have h := HTK.out; omega) HX.out).mono ?_
          intro e z1 h
          obtain ⟨he, h⟩ := h
          subst he
          have F1 : Hid (Env w [(g11, 27, trC (f 0).1 (f 0).2), (gp, 46, pastC (PL N)), (g7, 27, trC (f N).1 (f N).2), (g, 76, mC (1 + N + 1 + (l.take k).length))] z1) := Lib.hid h
          clear h
          have hS : Env w [(g11, 27, trC (f 0).1 (f 0).2)] z1 := F1.out.less (by simp)
          refine hKK _ _ (.inr hS) ?_
          clear hKK KK hS
          try simp only [Act.put]
          try simp only [List.setIfInBounds_toArray]
          try simp only [List.set_cons_succ]
          try simp only [List.set_cons_zero]
          refine walkS_only (i := 6) (o := ⟨some 12, _, _, _, _, _⟩) (by kernel_rfl) rfl rfl fun KK hKK => ?_
          refine wp_alloc_row 27 rfl (trC zeroKey 0) Tryd.zeroT fun g12 z2 n2 => ?_
          have F2 : Hid (Env w [(g12, 27, trC zeroKey 0), (g11, 27, trC (f 0).1 (f 0).2), (gp, 46, pastC (PL N)), (g7, 27, trC (f N).1 (f N).2), (g, 76, mC (1 + N + 1 + (l.take k).length))] z2) := Lib.hid (F1.out.new n2)
          clear n2
          have hS : Env w [(g11, 27, trC (f 0).1 (f 0).2)] z2 := F2.out.less (by simp)
          refine hKK _ _ (.inr hS) ?_
          clear hKK KK hS
          exact HGO.out g12 _ F2.out
        ·
          refine wp_alloc_row 27 rfl (trC zeroKey 0) Tryd.zeroT fun g12 z1 n1 => ?_
          have F1 : Hid (Env w [(g12, 27, trC zeroKey 0), (g11, 27, trC (f 0).1 (f 0).2), (gp, 46, pastC (PL N)), (g7, 27, trC (f N).1 (f N).2), (g, 76, mC (1 + N + 1))] z1) := Lib.hid (Da.out.new n1)
          clear n1
          have hS : Env w [(g11, 27, trC (f 0).1 (f 0).2)] z1 := F1.out.less (by simp)
          refine hKK _ _ (.inr hS) ?_
          clear hKK KK hS
          try simp only [Act.put]
          try simp only [List.setIfInBounds_toArray]
          try simp only [List.set_cons_succ]
          try simp only [List.set_cons_zero]
          refine walkS_only (i := 5) (o := ⟨some 73, _, _, _, _, _⟩) (by kernel_rfl) rfl rfl fun KK hKK => ?_
          go_simp
          refine (CA1.out _ _ 4 _ _ F1.out rfl (by have h := HTK.out; omega) HX.out).mono ?_
          intro e z2 h
          obtain ⟨he, h⟩ := h
          subst he
          have F2 : Hid (Env w [(g12, 27, trC zeroKey 0), (g11, 27, trC (f 0).1 (f 0).2), (gp, 46, pastC (PL N)), (g7, 27, trC (f N).1 (f N).2), (g, 76, mC (1 + N + 1 + (l.take k).length))] z2) := Lib.hid h
          clear h
          have hS : Env w [(g11, 27, trC (f 0).1 (f 0).2)] z2 := F2.out.less (by simp)
          refine hKK _ _ (.inr hS) ?_
          clear hKK KK hS
          exact HGO.out g12 _ F2.out
      case hgo =>
        intro g12 x hx
        have Ga := Lib.hid hx
        clear hx Da E3
        refine walkS_only (i := 7) (o := ⟨none, _, _, _, _, _⟩) (by kernel_rfl) rfl rfl fun KK hKK => ?_
        refine wp_store_row 27 (.tmp 12) (.tmp 73) rfl g12 27 (trC zeroKey 0) (trC (f k).1 (f k).2) rfl rfl (Ga.out.row 0 rfl) (trC_same zeroKey_length LK.out) (Tryd.sizeT _ _ LK.out) (trC_one _ _) fun xa p4 => ?_
        have Ha : Hid (Env w [(g12, 27, trC (f k).1 (f k).2), (g11, 27, trC (f 0).1 (f 0).2), (gp, 46, pastC (PL N)), (g7, 27, trC (f N).1 (f N).2), (g, 76, mC (1 + N + 1 + (l.take k).length))] xa) := Lib.hid (Ga.out.put 0 rfl p4)
        have hS : Env w [(g11, 27, trC (f 0).1 (f 0).2)] xa := Ha.out.less (by simp)
        refine hKK _ _ (.inr hS) (walkS_done (by kernel_rfl) ?_ _)
        clear hKK KK p4 Ga hS
        go_wp2_with fail
        refine plain_region (S := fun x => Env w [(g12, 27, trC (f k).1 (f k).2)] x) (fin := fun _ => false) (by kernel_rfl) ?_
        have Db := Lib.hid Ha.out.drew
        generalize xa.drew = yb at Db ⊢
        have hS : Env w [(g12, 27, trC (f k).1 (f k).2)] yb := Db.out.less (by simp)
        change walkS _ _ _ _ _ _ 8 _ _ _
        refine walkS_take (i := 0) (oi := ⟨some 74, _, _, _, _, _⟩) (v := .agg (trC (f k).1 (f k).2)) rfl (by kernel_rfl) (by kernel_rfl) (fun _ _ _ h => h) _ _ _ _ (by kernel_rfl) (by kernel_rfl) (Or.inl ⟨by rfl, fun w' hS' => (run_load_row 27 (.tmp 12) rfl g12 rfl 27 (trC (f k).1 (f k).2) (0, 0) _ (hS'.row 0 rfl) Tryd.underlying27 rfl (Tryd.sizeT _ _ LK.out))⟩) hS ?_
        try simp only [Act.put, List.setIfInBounds_toArray, List.set_cons_zero, List.set_cons_succ]
        refine walkS_take (i := 1) (oi := ⟨some 75, _, _, _, _, _⟩) (v := .pointer (some ⟨g, 0, none⟩)) rfl (by kernel_rfl) (by kernel_rfl) (fun _ _ _ h => h) _ _ _ _ (by kernel_rfl) (by kernel_rfl) (Or.inl ⟨by rfl, fun w' hS' => (by first | rfl | (clear hS hS'; go_simp))⟩) hS ?_
        try simp only [Act.put, List.setIfInBounds_toArray, List.set_cons_zero, List.set_cons_succ]
        refine walkS_take (i := 2) (oi := ⟨some 76, _, _, _, _, _⟩) (v := .slice A N c) rfl (by kernel_rfl) (by kernel_rfl) (fun _ _ _ h => h) _ _ _ _ (by kernel_rfl) (by kernel_rfl) (Or.inl ⟨by rfl, fun w' hS' => (by first | rfl | (clear hS hS'; go_simp))⟩) hS ?_
        try simp only [Act.put, List.setIfInBounds_toArray, List.set_cons_zero, List.set_cons_succ]
        refine walkS_take (i := 3) (oi := ⟨some 77, _, _, _, _, _⟩) (v := .int .i64 (k : Int)) rfl (by kernel_rfl) (by kernel_rfl) (fun _ _ _ h => h) _ _ _ _ (by kernel_rfl) (by kernel_rfl) (Or.inl ⟨by rfl, fun w' hS' => (by first | rfl | (clear hS hS'; go_simp))⟩) hS ?_
        try simp only [Act.put, List.setIfInBounds_toArray, List.set_cons_zero, List.set_cons_succ]
        refine walkS_take (i := 4) (oi := ⟨some 78, _, _, _, _, _⟩) (v := s2) rfl (by kernel_rfl) (by kernel_rfl) (fun _ _ _ h => h) _ _ _ _ (by kernel_rfl) (by kernel_rfl) (Or.inl ⟨by rfl, fun w' hS' => (by rw [HS2.out]; exact run_sL 1 28 22 (.tmp 76) (.tmp 77) rfl A N c k .i64 rfl rfl hkN Tryd.underlying28 (by kernel_rfl))⟩) hS ?_
        try simp only [Act.put, List.setIfInBounds_toArray, List.set_cons_zero, List.set_cons_succ]
        clear hS
        apply share1n (fun g13 x => Env w [(g13, 27, trC zeroKey 0), (g12, 27, trC (f k).1 (f k).2), (g11, 27, trC (f 0).1 (f 0).2), (gp, 46, pastC (PL N)), (g7, 27, trC (f N).1 (f N).2), (g, 76, mC (1 + N + 1 + (l.take k).length + (l.drop k).length))] x)
        case h =>
          intro HGO0
          have HGO := Lib.hid HGO0
          clear HGO0
          refine walkS_two (i := 5) (j := 6) (by kernel_rfl) rfl rfl rfl rfl (fun KK hKK => ?_) (fun KK hKK => ?_)
          ·
            go_simp
            refine (CA2.out _ _ 4 _ _ Db.out rfl (by have h := HTK.out; omega) HX.out).mono ?_
            intro e z1 h
            obtain ⟨he, h⟩ := h
            subst he
            have F1 : Hid (Env w [(g12, 27, trC (f k).1 (f k).2), (g11, 27, trC (f 0).1 (f 0).2), (gp, 46, pastC (PL N)), (g7, 27, trC (f N).1 (f N).2), (g, 76, mC (1 + N + 1 + (l.take k).length + (l.drop k).length))] z1) := Lib.hid h
            clear h
            have hS : Env w [(g12, 27, trC (f k).1 (f k).2)] z1 := F1.out.less (by simp)
            refine hKK _ _ (.inr hS) ?_
            clear hKK KK hS
            try simp only [Act.put]
            try simp only [List.setIfInBounds_toArray]
            try simp only [List.set_cons_succ]
            try simp only [List.set_cons_zero]
            refine walkS_only (i := 6) (o := ⟨some 13, _, _, _, _, _⟩) (by kernel_rfl) rfl rfl fun KK hKK => ?_
            refine wp_alloc_row 27 rfl (trC zeroKey 0) Tryd.zeroT fun g13 z2 n2 => ?_
            have F2 : Hid (Env w [(g13, 27, trC zeroKey 0), (g12, 27, trC (f k).1 (f k).2), (g11, 27, trC (f 0).1 (f 0).2), (gp, 46, pastC (PL N)), (g7, 27, trC (f N).1 (f N).2), (g, 76, mC (1 + N + 1 + (l.take k).length + (l.drop k).length))] z2) := Lib.hid (F1.out.new n2)
            clear n2
            have hS : Env w [(g12, 27, trC (f k).1 (f k).2)] z2 := F2.out.less (by simp)
            refine hKK _ _ (.inr hS) ?_
            clear hKK KK hS
            exact HGO.out g13 _ F2.out
          ·
            refine wp_alloc_row 27 rfl (trC zeroKey 0) Tryd.zeroT fun g13 z1 n1 => ?_
            have F1 : Hid (Env w [(g13, 27, trC zeroKey 0), (g12, 27, trC (f k).1 (f k).2), (g11, 27, trC (f 0).1 (f 0).2), (gp, 46, pastC (PL N)), (g7, 27, trC (f N).1 (f N).2), (g, 76, mC (1 + N + 1 + (l.take k).length))] z1) := Lib.hid (Db.out.new n1)
            clear n1
            have hS : Env w [(g12, 27, trC (f k).1 (f k).2)] z1 := F1.out.less (by simp)
            refine hKK _ _ (.inr hS) ?_
            clear hKK KK hS
            try simp only [Act.put]
            try simp only [List.setIfInBounds_toArray]
            try simp only [List.set_cons_succ]
            try simp only [List.set_cons_zero]
            refine walkS_only (i := 5) (o := ⟨some 79, _, _, _, _, _⟩) (by kernel_rfl) rfl rfl fun KK hKK => ?_
            go_simp
            refine (CA2.out _ _ 5 _ _ F1.out rfl (by have h := HTK.out; omega) HX.out).mono ?_
            intro e z2 h
            obtain ⟨he, h⟩ := h
            subst he
            have F2 : Hid (Env w [(g13, 27, trC zeroKey 0), (g12, 27, trC (f k).1 (f k).2), (g11, 27, trC (f 0).1 (f 0).2), (gp, 46, pastC (PL N)), (g7, 27, trC (f N).1 (f N).2), (g, 76, mC (1 + N + 1 + (l.take k).length + (l.drop k).length))] z2) := Lib.hid h
            clear h
            have hS : Env w [(g12, 27, trC (f k).1 (f k).2)] z2 := F2.out.less (by simp)
            refine hKK _ _ (.inr hS) ?_
            clear hKK KK hS
            exact HGO.out g13 _ F2.out
        case hgo =>
          intro g13 x hx
          have Gb := Lib.hid hx
          clear hx Db Ha
          refine walkS_only (i := 7) (o := ⟨none, _, _, _, _, _⟩) (by kernel_rfl) rfl rfl fun KK hKK => ?_
          refine wp_store_row 27 (.tmp 13) (.tmp 79) rfl g13 27 (trC zeroKey 0) (trC (f N).1 (f N).2) rfl rfl (Gb.out.row 0 rfl) (trC_same zeroKey_length LNN.out) (Tryd.sizeT _ _ LNN.out) (trC_one _ _) fun xb p4 => ?_
          have Hb : Hid (Env w [(g13, 27, trC (f N).1 (f N).2), (g12, 27, trC (f k).1 (f k).2), (g11, 27, trC (f 0).1 (f 0).2), (gp, 46, pastC (PL N)), (g7, 27, trC (f N).1 (f N).2), (g, 76, mC (1 + N + 1 + (l.take k).length + (l.drop k).length))] xb) := Lib.hid (Gb.out.put 0 rfl p4)
          have hS : Env w [(g12, 27, trC (f k).1 (f k).2)] xb := Hb.out.less (by simp)
          refine hKK _ _ (.inr hS) (walkS_done (by kernel_rfl) ?_ _)
          clear hKK KK p4 Gb hS
          go_wp2_with fail
          refine (CF.out _ _ 3 _ k hkN Hb.out rfl).mono ?_
          intro e x20 h
          obtain ⟨he, h⟩ := h
          subst he
          have I1 : Hid (Env w [(g13, 27, trC (f N).1 (f N).2), (g12, 27, trC (f k).1 (f k).2), (g11, 27, trC (f 0).1 (f 0).2), (gp, 46, pastC (PL N)), (g7, 27, trC (f N).1 (f N).2), (g, 76, mC (1 + N + 1 + (l.take k).length + (l.drop k).length))] x20) := Lib.hid (Hb.out.call h)
          clear h Hb
          go_wp2_with (first
            | ((with_reducible refine wpE_alloc (o := ⟨some 14, _, _, _, _, _⟩) rfl 24 rfl (keyC zeroKey) Tryd.zeroK I1.out ?_); intro g14 x21 T1; have I2a := Lib.hid T1; clear T1)
            | ((with_reducible refine wpE_store (o := ⟨none, _, _, _, _, _⟩) rfl 24 (.tmp 14) (.tmp 85) rfl 0 g14 24 (keyC zeroKey) (keyC (f k).1) (by with_unfolding_all rfl) (by with_unfolding_all rfl) (by with_unfolding_all rfl) (keyC_same zeroKey_length LK.out) (Tryd.sizeKey _ LK.out) (keyC_one _) I2a.out ?_); intro x21b T1; simp only [List.set_cons_zero] at T1; have I2 := Lib.hid T1; clear T1))
          clear I1 I2a
          refine (CF.out _ _ 4 _ N (Nat.le_refl _) I2.out rfl).mono ?_
          intro e x22 h
          obtain ⟨he, h⟩ := h
          subst he
          have I3 : Hid (Env w [(g14, 24, keyC (f k).1), (g13, 27, trC (f N).1 (f N).2), (g12, 27, trC (f k).1 (f k).2), (g11, 27, trC (f 0).1 (f 0).2), (gp, 46, pastC (PL N)), (g7, 27, trC (f N).1 (f N).2), (g, 76, mC (1 + N + 1 + (l.take k).length + (l.drop k).length))] x22) := Lib.hid (I2.out.call h)
          clear h I2
          have heq1 : ∀ W, (Op.equalIn 10000 24 (.agg (keyC (f k).1)) (.agg (keyC (f k).1))).run Tryd.prog W = .ok true W := (fun W => by rw [Tryd.eqKeyIn (f k).1 (f k).1 LK.out LK.out W, beq_self_eq_true])
          have heq2 : ∀ W, (Op.equalIn 10000 24 (.agg (keyC (f N).1)) (.agg (keyC (f N).1))).run Tryd.prog W = .ok true W := (fun W => by rw [Tryd.eqKeyIn (f N).1 (f N).1 LNN.out LNN.out W, beq_self_eq_true])
          have hgd := Tryd.eqGuardKey
          go_wp2_with (first
            | ((with_reducible refine wpE_alloc (o := ⟨some 16, _, _, _, _, _⟩) rfl 24 rfl (keyC zeroKey) Tryd.zeroK I3.out ?_); intro g16 x23 T1; have I4a := Lib.hid T1; clear T1)
            | ((with_reducible refine wpE_store (o := ⟨none, _, _, _, _, _⟩) rfl 24 (.tmp 16) (.tmp 93) rfl 0 g16 24 (keyC zeroKey) (keyC (f N).1) (by with_unfolding_all rfl) (by with_unfolding_all rfl) (by with_unfolding_all rfl) (keyC_same zeroKey_length LNN.out) (Tryd.sizeKey _ LNN.out) (keyC_one _) I4a.out ?_); intro x23b T1; simp only [List.set_cons_zero] at T1; have I4 := Lib.hid T1; clear T1)
            | (with_reducible refine wpListG_load_row (o := ⟨some 97, _, _, _, _, _⟩) 27 (.tmp 13) rfl (by with_unfolding_all rfl) g13 (by with_unfolding_all rfl) 27 (trC (f N).1 (f N).2) _ (by with_unfolding_all exact I4.out.row 2 rfl) Tryd.underlying27 rfl (Tryd.sizeT _ _ LNN.out) ?_)
            | (with_reducible refine wpListG_load_row (o := ⟨some 98, _, _, _, _, _⟩) 27 (.tmp 7) rfl (by with_unfolding_all rfl) g7 (by with_unfolding_all rfl) 27 (trC (f N).1 (f N).2) _ (by with_unfolding_all exact I4.out.row 6 rfl) Tryd.underlying27 rfl (Tryd.sizeT _ _ LNN.out) ?_)
            | (with_reducible refine wpListG_val (o := ⟨some 99, _, _, _, _, _⟩) (by with_unfolding_all rfl) _ (eqT_run (.tmp 97) (.tmp 98) _ rfl (f N).1 (f N).2 LNN.out (by with_unfolding_all rfl) (by with_unfolding_all rfl)) ?_)
            | (with_reducible refine wpListG_load_row (o := ⟨some 110, _, _, _, _, _⟩) 24 (.tmp 14) rfl (by with_unfolding_all rfl) g14 (by with_unfolding_all rfl) 24 (keyC (f k).1) _ (by with_unfolding_all exact I4.out.row 1 rfl) Tryd.underlying24 rfl (Tryd.sizeKey _ LK.out) ?_)
            | (with_reducible refine wpListG_val (o := ⟨some 112, _, _, _, _, _⟩) (by with_unfolding_all rfl) _ (run_partK 24 (.tmp 111) rfl g12 0 (by with_unfolding_all rfl) 27 _ (f k).1 _ (I4.out.row 3 rfl) (trC_seed (f k).1 (f k).2) Tryd.underlying24 rfl (Tryd.sizeKeyM _ LK.out)) ?_)
            | (with_reducible refine wpListG_load_row (o := ⟨some 116, _, _, _, _, _⟩) 24 (.tmp 16) rfl (by with_unfolding_all rfl) g16 (by with_unfolding_all rfl) 24 (keyC (f N).1) _ (by with_unfolding_all exact I4.out.row 0 rfl) Tryd.underlying24 rfl (Tryd.sizeKey _ LNN.out) ?_)
            | (with_reducible refine wpListG_val (o := ⟨some 118, _, _, _, _, _⟩) (by with_unfolding_all rfl) _ (run_partK 24 (.tmp 117) rfl g13 0 (by with_unfolding_all rfl) 27 _ (f N).1 _ (I4.out.row 2 rfl) (trC_seed (f N).1 (f N).2) Tryd.underlying24 rfl (Tryd.sizeKeyM _ LNN.out)) ?_))
          go_ret
          exact I4.out.ret _
end Go.Proofs.YtlifjlcfoeednaaDoor
end
section
namespace Go.Proofs.YtlifjlcfoeednaaDoor.trailCut
open Go.ChangeShapes Go.WideShapes Go.ChangeAt Go.RowKit
open Go.ChangeMaps (open_string shut_string)
set_option linter.unusedVariables false

theorem own : ownKnob Tryd.prog.godebug = none := by kernel_rfl
theorem laidOut : laidOutB Tryd.prog = true := by kernel_rfl

theorem laid_met (os : Os) : laidMet Tryd.prog Rows.trailCutRow.laid ((laidWorld os).forCall (fun _ _ => 0) ⟨#[], #[.slice none 0 0, .int .i64 0], []⟩).memory :=
  laidMet_of_run' 8 (by kernel_rfl) (by kernel_rfl)
theorem reads (os : Os) {H : Type} (enc : TypeId × Value → H) : ∃ places, DataW.whole enc Tryd.prog ((laidWorld os).forCall (fun _ _ => 0) ⟨#[], #[.slice none 0 0, .int .i64 0], []⟩).memory Tryd.f5.params.toList Rows.trailCutSpec.vars false #[.slice none 0 0, .int .i64 0].toList 8 = some ([.nil, .lit (.int .i64 0)], [], places) :=
  ⟨[], by kernel_rfl⟩

set_option maxRecDepth 100000 in
theorem contract (H : Type) (enc : TypeId × Value → H) (W : World) (base : Nat) (args : Array Value) (ds gs : List (DataW H)) (before : List MemPlace)
    (hval0 : ∀ (j : Nat) t v, Tryd.f5.params[j]? = some t → args[j]? = some v → Value.okWide Tryd.prog W .any base t v)
    (hW : DataW.Whole enc Tryd.prog Tryd.f5.params.toList Rows.trailCutSpec.vars false W args.toList ds gs before) (hL : laidMetH Tryd.prog Rows.trailCutRow.laid W) :
    Calls Tryd.prog 5 args W fun e W' => ∃ v, e = .returned v ∧ Rows.trailCutSpec.post enc Tryd.prog Tryd.f5 false true false false W args v W' := by
  have hq := tables hL
  have hval : ∀ (j : Nat) t v, Tryd.f5.params[j]? = some t → args[j]? = some v → Value.okWide Tryd.prog W .any base t v := hval0
  have hW' := hW
  obtain ⟨p, q, hA0, hV, rfl, hfz, hnd⟩ := hW
  have hA : DataW.TrodAll enc Tryd.prog W 0 (fun _ => true) true Tryd.f5.params.toList args.toList ds p := hA0
  rw [Tryd.params5] at hA hval
  obtain ⟨v0, vs0, d0, ds0, p0, q0, hargs, rfl, rfl, h0, r0⟩ := trodAll_cons hA
  obtain ⟨v1, vs1, d1, ds1, p1, q1, rfl, rfl, rfl, h1, r1⟩ := trodAll_cons r0
  obtain ⟨rfl, rfl, rfl⟩ := trodAll_nil r1
  obtain rfl : args = #[v0, v1] := by cases args; simp_all
  obtain ⟨rfl, rfl⟩ := trodVars_none hV
  obtain ⟨a0, len0, cap0, rfl⟩ := okWide_slice Tryd.underlying28 (hval 0 28 v0 rfl rfl)
  have k0 := h0
  have lt0 : ∀ x ∈ p0, x.block < W.heap.size := by obtain ⟨m, hm⟩ := k0; exact DataW.trod_lt m _ _ _ hm
  obtain ⟨l0, w0⟩ : ∃ l, Bss W (.slice a0 len0 cap0) l := by
    obtain ⟨fuel, hf⟩ := h0
    obtain ⟨v, l, hcs, hk⟩ := open_bss Tryd.underlying28 Tryd.underlying22 Tryd.underlying5 (by kernel_rfl) (by kernel_rfl) hf
    simp [Value.cells] at hcs
    subst hcs
    exact ⟨l, hk⟩
  obtain ⟨a1, rfl, rfl, rfl, w1⟩ := open_int Tryd.underlying3 (hval 1 3 v1 rfl rfl) h1
  clear hA0 hval0
  refine (trailCut_walk W hq _ l0 w0 a1 (i64_of_wf w1)).mono fun e W' ⟨he, bel⟩ => ?_
  subst he
  exact ⟨_, rfl, _, _, _, [], _, [], hW', trodAll_mk1 (shut_bool Tryd.underlying4 _), (trodAll_cons_mk (Below.trod laidOut (by kernel_rfl) (of_decide_eq_true (by kernel_rfl)) k0 bel lt0) (trodAll_cons_mk (shut_int Tryd.underlying3 w1) trodAll_mk0)), rfl, bel.frame _, fun h => by cases h⟩

set_option maxRecDepth 100000 in
theorem lifted (os : Os) (started : os.Started) (H : Type) (enc : TypeId × Value → H) (F : Stop.Interp) :
    ReturnsInHanded {} Tryd.checked os 5 .any ((OpenSpec.ofChange Rows.trailCutSpec).preRow enc Tryd.prog Tryd.f5 Rows.trailCutRow.domain false Rows.trailCutRow.laid) (((OpenSpec.ofChange Rows.trailCutSpec).at F).post enc Tryd.prog Tryd.f5 false true false false) := by
  obtain ⟨places, hx⟩ := reads os enc
  refine returnsInHanded_of_row (C := Tryd.checked) (s := OpenSpec.ofChange Rows.trailCutSpec) own started (by kernel_rfl) Tryd.func5
    (witness_row_at (enc := enc) (C := Tryd.checked) false (laidWorld os) #[.slice none 0 0, .int .i64 0] rfl (by kernel_rfl) (by kernel_rfl) (by kernel_rfl)
      (OpenSpec.preRow_of_cond 8 hx (by kernel_rfl) (fun k hk => by cases hk) (by kernel_rfl) (laid_met os))) ?_
  intro W base args ds gs before hval hW _ _ _ hL _ _
  exact contract H enc W base args ds gs before hval hW hL

theorem said : Rows.TrailCutSaid :=
  OpenClaim.holds_of_cond 5 Tryd.f5 rfl rfl rfl rfl rfl rfl rfl ⟨rfl, rfl, rfl, rfl, rfl⟩ rfl rfl rfl rfl rfl (by kernel_rfl) Tryd.func5 (by kernel_rfl)
    (of_decide_eq_true (by kernel_rfl)) (by unfold Func.isWrapper; first | (rw [if_pos (by decide +kernel)]; kernel_rfl) | (rw [if_neg (by decide +kernel)]; exact ⟨rfl, rfl⟩))
    (fun os started H enc _ F => by rw [OpenClaim.pre_eq_preRow]; exact lifted os started H enc F)

theorem noStand : (Tryd.f5.params.toList.all fun t => Tryd.prog.wantsStandIn t == false) = true := by kernel_rfl
theorem plain (f : FuncId) (fn : Func) (hf : Tryd.pinned.checked.prog.funcNamed "cablegram/cablegramlaw14.TrailCut" = some f) (hfn : Tryd.pinned.checked.prog.funcs[f]? = some fn) :
    false = Tryd.pinned.checked.prog.looks [] ∧ ∀ (j : Nat) t, fn.params[j]? = some t → Tryd.pinned.checked.prog.wantsStandIn t = false := by
  obtain rfl : f = 5 := Option.some.inj ((show Tryd.prog.funcNamed "cablegram/cablegramlaw14.TrailCut" = some 5 by kernel_rfl).symm.trans hf) |>.symm
  obtain rfl : fn = Tryd.f5 := (Option.some.inj (Tryd.func5.symm.trans hfn)).symm
  refine ⟨by kernel_rfl, fun j t ht => ?_⟩
  have hm : t ∈ Tryd.f5.params.toList := by simpa using Array.mem_of_getElem? ht
  exact beq_iff_eq.1 (List.all_eq_true.1 noStand t hm)

theorem proved : Rows.TrailCutCardSaid :=
  Claim7.holds_tied_plain_at .later [] _ _ _ _ said (fun _ h => by cases h) (by kernel_rfl) (fun _ h => by cases h) trailCut_row_tie rfl ⟨rfl, rfl⟩ (by kernel_rfl) rfl plain (by kernel_rfl)
#print axioms proved
end Go.Proofs.YtlifjlcfoeednaaDoor.trailCut
end
