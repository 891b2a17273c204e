/-
  TrailGoes: for every input the call returns true, and each argument reads as it read before. Conditions: none beyond the given statement's own (the package-level tables that its row lists hold what the program's text lays: the card ties that).
-/
import Derived.Test.YtlifjlcfoeednaaDoorQTrlAL
import Derived.Test.YtlifjlcfoeednaaDoorQTrlAB
import Derived.ProofKit
import Derived.OpenShut
import Derived.ShutString
import Derived.ChangeOld
import Derived.Deep.DeepHandedRow
section
namespace Go.Proofs.YtlifjlcfoeednaaDoor
open Go.RowKit
set_option linter.unusedVariables false
set_option maxRecDepth 20000

set_option maxHeartbeats 8000000 in
theorem trailGoes_walk (w : World) (hq : Tabs w) (v1 : Value) (one : List UInt8) (hb1 : Bs w v1 one) (v2 : Value) (two : List UInt8) (hb2 : Bs w v2 two) (h : List UInt8) (hh : h.length = 32) (n : Nat) (hn : n < 4294967296) (v3 : Value) (l : List (List UInt8)) (hb3 : Bss w v3 l) (hz : ∀ b ∈ l, b.length ≤ 140737488351232) :
    Calls Tryd.prog 3 #[v1, v2, .agg (trC h n), v3] w (RetV w (.bool true)) := by
  have HQ := Lib.hid hq
  have E0 := Lib.hid (Env.start w)
  have HZ := Lib.hid hz
  have LH := Lib.hid hh
  have CW : Hid (∀ x, Below w.heap.size w x → Calls Tryd.prog 6 #[] x (RetV x (.bool true))) := fun x hx => trailAwake_any x (HQ.out.below hx)
  obtain ⟨N, hN⟩ : ∃ N, N = l.length := ⟨_, rfl⟩
  have HB1 := Lib.hid hb1
  have HB2 := Lib.hid hb2
  obtain ⟨A1, c1, rfl, _, _, _⟩ := hb1
  obtain ⟨A2, c2, rfl, _, _, _⟩ := hb2
  obtain ⟨A, c, rfl, hlc, hcm, _⟩ := id hb3
  rw [← hN] at hb3 hlc ⊢
  have HB := Lib.hid hb3
  have LN : Hid (l.length = N) := hN.symm
  clear hq hb3 hz hh
  by_cases hA : 200 < one.length
  · have hA2 : (200 : Int) < (one.length : Int) := by omega
    clear hN
    go_enter Tryd.func3, Tryd.ntmps3
    go_wp2_with ((with_reducible refine wpE_box (o := ⟨some 6, _, _, _, _, _⟩) rfl 27 (.tmp 2) rfl (trC h n) (by with_unfolding_all rfl) E0.out ?_); intro g6 w0 T1; have E1 := Lib.hid T1; clear T1)
    refine (CW.out _ E1.out.below).mono ?_
    rintro e w1 ⟨rfl, b1⟩
    have E2 := Lib.hid (E1.out.call b1)
    clear b1 E0 E1
    go_wp2_with fail
    go_ret
    exact E2.out.ret _
  have hA2 : ¬ ((200 : Int) < (one.length : Int)) := by omega
  by_cases hB : 200 < two.length
  · have hB2 : (200 : Int) < (two.length : Int) := by omega
    clear hN
    go_enter Tryd.func3, Tryd.ntmps3
    go_wp2_with ((with_reducible refine wpE_box (o := ⟨some 6, _, _, _, _, _⟩) rfl 27 (.tmp 2) rfl (trC h n) (by with_unfolding_all rfl) E0.out ?_); intro g6 w0 T1; have E1 := Lib.hid T1; clear T1)
    refine (CW.out _ E1.out.below).mono ?_
    rintro e w1 ⟨rfl, b1⟩
    have E2 := Lib.hid (E1.out.call b1)
    clear b1 E0 E1
    go_wp2_with fail
    go_ret
    exact E2.out.ret _
  have hB2 : ¬ ((200 : Int) < (two.length : Int)) := by omega
  by_cases hC : 10 < N
  · have hC2 : (10 : Int) < (N : Int) := by omega
    clear hN
    go_enter Tryd.func3, Tryd.ntmps3
    go_wp2_with ((with_reducible refine wpE_box (o := ⟨some 6, _, _, _, _, _⟩) rfl 27 (.tmp 2) rfl (trC h n) (by with_unfolding_all rfl) E0.out ?_); intro g6 w0 T1; have E1 := Lib.hid T1; clear T1)
    refine (CW.out _ E1.out.below).mono ?_
    rintro e w1 ⟨rfl, b1⟩
    have E2 := Lib.hid (E1.out.call b1)
    clear b1 E0 E1
    go_wp2_with fail
    go_ret
    exact E2.out.ret _
  have hC2 : ¬ ((10 : Int) < (N : Int)) := by omega
  obtain ⟨hs, hhs⟩ : ∃ z, z = startB one two := ⟨_, rfl⟩
  have LS : Hid (hs.length = 32) := by show _ = _; rw [hhs]; exact startB_length _ _
  obtain ⟨f, hf⟩ : ∃ f : Nat → List UInt8 × Nat, f = fun j => allT (h, n) (l.take j) := ⟨_, rfl⟩
  have LF : Hid (∀ j, (f j).1.length = 32) := fun j => by rw [hf]; exact allT_length _ LH.out _
  have NF : Hid (∀ j, (f j).2 < 4294967296) := fun j => by rw [hf]; exact (allT_num _ hn _).1
  have F0 : Hid (f 0 = (h, n)) := by show _ = _; rw [hf]; rfl
  have SF : Hid (∀ j b, l[j]? = some b → f (j + 1) = stepT (f j) b) := fun j b h' => by
    rw [hf]
    show allT (h, n) (l.take (j + 1)) = stepT (allT (h, n) (l.take j)) b
    rw [← allT_snoc, List.take_add_one, h']
    rfl
  have FN : Hid (f N = allT (h, n) l) := by show _ = _; rw [hf]; show allT (h, n) (l.take N) = _; rw [hN, List.take_length]
  have CS : Hid (∀ x rs m g, Env w rs x → rs[m]? = some (g, 76, mC 0) → Calls Tryd.prog 8 #[.pointer (some ⟨g, 0, none⟩), .slice A1 one.length c1, .slice A2 two.length c2] x fun e y => e = .returned (.agg (trC hs 0)) ∧ Env w (rs.set m (g, 76, mC 1)) y) := fun x rs m g h1 h2 => by
    rw [hhs]
    exact start_env w x HQ.out rs m g 0 h1 h2 (by omega) _ _ one two (h1.bs HB1.out) (h1.bs HB2.out) (by omega) (by omega)
  have CR : Hid (∀ x rs m g, Env w rs x → rs[m]? = some (g, 34, logC 0) → Calls Tryd.prog 9 #[.pointer (some ⟨g, 0, none⟩), .slice A1 one.length c1, .slice A2 two.length c2] x fun e y => e = .returned (.agg (trC hs 0)) ∧ Env w (rs.set m (g, 34, logC 1)) y) := fun x rs m g h1 h2 => by
    rw [hhs]
    exact refStartT_env w x rs m g 0 h1 h2 (by omega) _ _ one two (h1.bs HB1.out) (h1.bs HB2.out) (by omega) (by omega)
  have CA : Hid (∀ x rs m g, Env w rs x → rs[m]? = some (g, 76, mC 1) → Calls Tryd.prog 10 #[.agg (trC h n), .pointer (some ⟨g, 0, none⟩), .slice A N c] x fun e y => e = .returned (.agg (trC (f N).1 (f N).2)) ∧ Env w (rs.set m (g, 76, mC (1 + N))) y) := fun x rs m g h1 h2 => by
    have h3 := all_env w x HQ.out rs m g 1 h1 h2 (by omega) (h, n) LH.out hn (.slice A N c) l (by omega) HZ.out fun y n' hy => HB.out.keep hy.below
    rw [← FN.out, LN.out] at h3
    exact h3
  have CN : Hid (∀ x rs m g k j u b, Env w rs x → rs[m]? = some (g, 76, mC k) → k ≤ 1000 → l[j]? = some b → Bs x u b → b.length ≤ 300 → Calls Tryd.prog 11 #[.agg (trC (f j).1 (f j).2), .pointer (some ⟨g, 0, none⟩), u] x fun e y => e = .returned (.agg (trC (f (j + 1)).1 (f (j + 1)).2)) ∧ Env w (rs.set m (g, 76, mC (k + 1))) y) := fun x rs m g k j u b h1 h2 h3 h4 h6 h7 => by
    rw [SF.out j b h4]
    exact nextT_env w x HQ.out rs m g k h1 h2 (by omega) (f j).1 (f j).2 (LF.out j) (NF.out j) u b h6 (by omega)
  have CD : Hid (∀ x rs m g k j u b, Env w rs x → rs[m]? = some (g, 34, logC k) → k ≤ 1000 → l[j]? = some b → Bs x u b → b.length ≤ 300 → Calls Tryd.prog 12 #[.agg (trC (f j).1 (f j).2), .pointer (some ⟨g, 0, none⟩), u] x fun e y => e = .returned (.agg (trC (f (j + 1)).1 (f (j + 1)).2)) ∧ Env w (rs.set m (g, 34, logC (k + 1))) y) := fun x rs m g k j u b h1 h2 h3 h4 h6 h7 => by
    rw [SF.out j b h4]
    exact refNextT_env w x rs m g k h1 h2 (by omega) (f j).1 (f j).2 (LF.out j) (NF.out j) u b h6 (by omega)
  have GET : Hid (∀ j, j < N → ∃ b, l[j]? = some b) := fun j hj => ⟨_, List.getElem?_eq_getElem (by omega)⟩
  have CU : Hid (∀ j b, l[j]? = some b → ∃ b0 off u, A = some ⟨b0, off, none⟩ ∧ (∀ x, Below w.heap.size w x → x.cell? ⟨b0, off + j, none⟩ = some u ∧ Bs x u b)) := fun j b h => by
    have hlt := (List.getElem?_eq_some_iff.1 h)
    obtain ⟨h1, h2⟩ := hlt
    obtain ⟨b0, off, hA, u, hc, hu⟩ := HB.out.at1 j h1
    rw [h2] at hu
    exact ⟨b0, off, u, hA, fun x hx => ⟨cellN hx hc, hu.below hx⟩⟩
  clear hN hf hhs SF FN
  go_enter Tryd.func3, Tryd.ntmps3
  go_wp2_with ((with_reducible refine wpE_box (o := ⟨some 6, _, _, _, _, _⟩) rfl 27 (.tmp 2) rfl (trC h n) (by with_unfolding_all rfl) E0.out ?_); intro g6 w0 T1; have E1 := Lib.hid T1; clear T1)
  refine (CW.out _ E1.out.below).mono ?_
  rintro e w1 ⟨rfl, b1⟩
  have E2 := Lib.hid (E1.out.call b1)
  clear b1 E0 E1
  go_wp2_with fail
  refine (New_any _ false).mono ?_
  intro e w2 hy
  obtain ⟨g, he, n2⟩ := hy
  subst he
  have E3 : Hid (Env w [(g, 76, mC 0), (g6, 27, trC h n)] w2) := Lib.hid (E2.out.new n2)
  clear n2 E2
  go_wp2_with ((with_reducible refine wpE_box (o := ⟨some 34, _, _, _, _, _⟩) rfl 34 (.tmp 33) rfl (logC 0) (by with_unfolding_all rfl) E3.out ?_); intro gq w3 T1; have E4 := Lib.hid T1; clear T1)
  refine (CS.out _ _ 1 _ E4.out rfl).mono ?_
  intro e w4 hy
  obtain ⟨he, hy⟩ := hy
  subst he
  have E5 : Hid (Env w [(gq, 34, logC 0), (g, 76, mC 1), (g6, 27, trC h n)] w4) := Lib.hid hy
  clear hy E3 E4
  go_wp2_with (first
    | ((with_reducible refine wpE_alloc (o := ⟨some 12, _, _, _, _, _⟩) rfl 27 rfl (trC zeroKey 0) Tryd.zeroT E5.out ?_); intro g12 w5 T1; have E6 := Lib.hid T1; clear T1)
    | ((with_reducible refine wpE_store (o := ⟨none, _, _, _, _, _⟩) rfl 27 (.tmp 12) (.tmp 38) rfl 0 g12 27 (trC zeroKey 0) (trC hs 0) (by with_unfolding_all rfl) (by with_unfolding_all rfl) (by with_unfolding_all rfl) (trC_same zeroKey_length LS.out) (Tryd.sizeT _ _ LS.out) (trC_one _ _) E6.out ?_); intro w6 T1; simp only [List.set_cons_zero] at T1; have E7 := Lib.hid T1; clear T1))
  refine (CR.out _ _ 1 _ E7.out rfl).mono ?_
  intro e w7 hy
  obtain ⟨he, hy⟩ := hy
  subst he
  have E8 : Hid (Env w [(g12, 27, trC hs 0), (gq, 34, logC 1), (g, 76, mC 1), (g6, 27, trC h n)] w7) := Lib.hid hy
  clear hy E5 E6 E7
  have cn := fun (x : World) (rs : List (Nat × TypeId × Array Value)) (i : Nat) (h1 : Env w rs x) (h2 : rs[i]? = some (g6, 27, trC h n)) => h1.cellV i h2 32 _ (trC_32 h n LH.out)
  have CNU := Lib.hid cn
  clear cn
  go_wp2_with (first
    | ((with_reducible refine wpE_alloc (o := ⟨some 13, _, _, _, _, _⟩) rfl 36 rfl (trC zeroKey 0) Tryd.zeroR E8.out ?_); intro g13 w8 T1; have E9 := Lib.hid T1; clear T1)
    | ((with_reducible refine wpE_store (o := ⟨none, _, _, _, _, _⟩) rfl 36 (.tmp 13) (.tmp 42) rfl 0 g13 36 (trC zeroKey 0) (trC hs 0) (by with_unfolding_all rfl) (by with_unfolding_all rfl) (by with_unfolding_all rfl) (trC_same zeroKey_length LS.out) (Tryd.sizeR _ _ LS.out) (trC_one _ _) E9.out ?_); intro w9 T1; simp only [List.set_cons_zero] at T1; have E10 := Lib.hid T1; clear T1; have c6 := CNU.out _ _ 4 E10.out rfl)
    | (with_reducible refine wpList_loadK (o := ⟨some 44, _, _, _, _, _⟩) rfl 24 (.tmp 43) rfl g6 0 (by with_unfolding_all rfl) h _ (by have hr := rangeAt_row (k := 0) (n := (cellsB h).length) (E10.out.row 4 rfl); rwa [trC_seed] at hr) Tryd.underlying24 rfl (Tryd.sizeKeyM _ LH.out) ?_)
    | (with_reducible refine wpList_val (o := ⟨some 47, _, _, _, _, _⟩) rfl _ (run_bR (.tmp 44) (.tmp 46) rfl h n (by with_unfolding_all rfl) (by with_unfolding_all rfl) LH.out) ?_)
    | ((with_reducible refine wpE_alloc (o := ⟨some 14, _, _, _, _, _⟩) rfl 36 rfl (trC zeroKey 0) Tryd.zeroR E10.out ?_); intro g14 w10 T1; have E11 := Lib.hid T1; clear T1)
    | ((with_reducible refine wpE_store (o := ⟨none, _, _, _, _, _⟩) rfl 36 (.tmp 14) (.tmp 47) rfl 0 g14 36 (trC zeroKey 0) (trC h n) (by with_unfolding_all rfl) (by with_unfolding_all rfl) (by with_unfolding_all rfl) (trC_same zeroKey_length LH.out) (Tryd.sizeR _ _ LH.out) (trC_one _ _) E11.out ?_); intro w11 T1; simp only [List.set_cons_zero] at T1; have E12 := Lib.hid T1; clear T1)
    | (with_reducible refine wpE_load (o := ⟨some 48, _, _, _, _, _⟩) rfl 27 (.tmp 6) rfl 5 g6 27 (trC h n) _ (by with_unfolding_all rfl) (by with_unfolding_all rfl) Tryd.underlying27 rfl (Tryd.sizeT _ _ LH.out) E12.out ?_))
  refine (CA.out _ _ 4 _ E12.out rfl).mono ?_
  intro e w12 hy
  obtain ⟨he, hy⟩ := hy
  subst he
  have E13 : Hid (Env w [(g14, 36, trC h n), (g13, 36, trC hs 0), (g12, 27, trC hs 0), (gq, 34, logC 1), (g, 76, mC (1 + N)), (g6, 27, trC h n)] w12) := Lib.hid hy
  clear hy E8 E9 E10 E11 E12 c6
  have LNN := Lib.hid (LF.out N)
  go_wp2_with (first
    | ((with_reducible refine wpE_alloc (o := ⟨some 15, _, _, _, _, _⟩) rfl 27 rfl (trC zeroKey 0) Tryd.zeroT E13.out ?_); intro g15 w13 T1; have E14 := Lib.hid T1; clear T1)
    | ((with_reducible refine wpE_store (o := ⟨none, _, _, _, _, _⟩) rfl 27 (.tmp 15) (.tmp 51) rfl 0 g15 27 (trC zeroKey 0) (trC (f N).1 (f N).2) (by with_unfolding_all rfl) (by with_unfolding_all rfl) (by with_unfolding_all rfl) (trC_same zeroKey_length LNN.out) (Tryd.sizeT _ _ LNN.out) (trC_one _ _) E14.out ?_); intro w14 T1; simp only [List.set_cons_zero] at T1; have E15 := Lib.hid T1; clear T1))
  go_loopw [16] (fun q wr => ∃ j : Nat, j ≤ N ∧ q = .int .i64 (j : Int) ∧ Env w [(g15, 27, trC (f N).1 (f N).2), (g14, 36, trC (f j).1 (f j).2), (g13, 36, trC hs 0), (g12, 27, trC hs 0), (gq, 34, logC (1 + j)), (g, 76, mC (1 + N + j)), (g6, 27, trC (f j).1 (f j).2)] wr) (fun q _ => N - (intOf q).toNat)
  case atStart => exact ⟨0, by omega, rfl, by rw [F0.out]; exact E15.out⟩
  case round =>
    clear E15 E14 E13 CNU
    obtain ⟨j, hj, rfl, hE⟩ := hrel
    have E := Lib.hid hE
    clear hE
    by_cases hlt : j < N
    · have hlt2 : (j : Int) < (N : Int) := by omega
      have hw1 : IntKind.i64.wrap ((j : Int) + 1) = (j : Int) + 1 := IntWalk.i64_in _ (by omega)
      have hq0 : ¬ ((j : Int) < 0) := by omega
      obtain ⟨b, hbj⟩ := GET.out j hlt
      have HBJ := Lib.hid hbj
      obtain ⟨b0, off, u, hA', hcu⟩ := CU.out j b hbj
      obtain ⟨Au, cu, hu, _, _, _⟩ := (hcu w (Below.refl _ _)).2
      subst hA' hu
      have HU := Lib.hid hcu
      have k1 := (HU.out wr E.out.below).1
      clear hbj hcu
      by_cases hbl : 300 < b.length
      · have hbl2 : (300 : Int) < (b.length : Int) := by omega
        go_wp2_with fail
        go_ret
        exact E.out.ret _
      · have hbl2 : ¬ ((300 : Int) < (b.length : Int)) := by omega
        have LJ := Lib.hid (LF.out j)
        have LJ1 := Lib.hid (LF.out (j + 1))
        go_wp2_with fail
        refine plain_region (S := fun x => Env w [(g6, 27, trC (f j).1 (f j).2)] x) (fin := fun k => k == 7) (by kernel_rfl) ?_
        have Da := Lib.hid E.out.drew
        generalize wr.drew = ya at Da ⊢
        have hS : Env w [(g6, 27, trC (f j).1 (f j).2)] ya := Da.out.less (by simp)
        change walkS _ _ _ _ _ _ 8 _ _ _
        refine walkS_take (i := 0) (oi := ⟨some 65, _, _, _, _, _⟩) (v := .agg (trC (f j).1 (f j).2)) rfl (by kernel_rfl) (by kernel_rfl) (fun _ _ _ h => h) _ _ _ _ (by kernel_rfl) (by kernel_rfl) (Or.inl ⟨by rfl, fun w' hS' => (run_load_row 27 (.tmp 6) rfl g6 rfl 27 (trC (f j).1 (f j).2) (0, 0) _ (hS'.row 0 rfl) Tryd.underlying27 rfl (Tryd.sizeT _ _ LJ.out))⟩) hS ?_
        try simp only [Act.put, List.setIfInBounds_toArray, List.set_cons_zero, List.set_cons_succ]
        refine walkS_take (i := 1) (oi := ⟨some 66, _, _, _, _, _⟩) (v := .pointer (some ⟨g, 0, none⟩)) rfl (by kernel_rfl) (by kernel_rfl) (fun _ _ _ h => h) _ _ _ _ (by kernel_rfl) (by kernel_rfl) (Or.inl ⟨by rfl, fun w' hS' => (by first | rfl | (clear hS hS'; go_simp))⟩) hS ?_
        try simp only [Act.put, List.setIfInBounds_toArray, List.set_cons_zero, List.set_cons_succ]
        refine walkS_take (i := 2) (oi := ⟨some 67, _, _, _, _, _⟩) (v := .slice (some ⟨b0, off, none⟩) N c) rfl (by kernel_rfl) (by kernel_rfl) (fun _ _ _ h => h) _ _ _ _ (by kernel_rfl) (by kernel_rfl) (Or.inl ⟨by rfl, fun w' hS' => (by first | rfl | (clear hS hS'; go_simp))⟩) hS ?_
        try simp only [Act.put, List.setIfInBounds_toArray, List.set_cons_zero, List.set_cons_succ]
        refine walkS_take (i := 3) (oi := ⟨some 68, _, _, _, _, _⟩) (v := .int .i64 (j : Int)) rfl (by kernel_rfl) (by kernel_rfl) (fun _ _ _ h => h) _ _ _ _ (by kernel_rfl) (by kernel_rfl) (Or.inl ⟨by rfl, fun w' hS' => (by first | rfl | (clear hS hS'; go_simp))⟩) hS ?_
        try simp only [Act.put, List.setIfInBounds_toArray, List.set_cons_zero, List.set_cons_succ]
        refine walkS_take (i := 4) (oi := ⟨some 69, _, _, _, _, _⟩) (v := .pointer (some ⟨b0, off + j, none⟩)) rfl (by kernel_rfl) (by kernel_rfl) (fun _ _ _ h => h) _ _ _ _ (by kernel_rfl) (by kernel_rfl) (Or.inl ⟨by rfl, fun w' hS' => (by first | rfl | (clear hS hS'; go_simp))⟩) hS ?_
        try simp only [Act.put, List.setIfInBounds_toArray, List.set_cons_zero, List.set_cons_succ]
        refine walkS_take (i := 5) (oi := ⟨some 70, _, _, _, _, _⟩) (v := .slice Au b.length cu) rfl (by kernel_rfl) (by kernel_rfl) (fun _ _ _ h => h) _ _ _ _ (by kernel_rfl) (by kernel_rfl) (Or.inl ⟨by rfl, fun w' hS' => (by have c := (HU.out w' hS'.below).1; clear hS hS'; go_simp)⟩) hS ?_
        try simp only [Act.put, List.setIfInBounds_toArray, List.set_cons_zero, List.set_cons_succ]
        refine walkS_only (i := 6) (o := ⟨some 71, _, _, _, _, _⟩) (by kernel_rfl) rfl rfl fun KK hKK => ?_
        go_simp
        refine (CN.out _ _ 5 _ _ j _ b Da.out rfl (by omega) HBJ.out (HU.out _ hS.below).2 (by omega)).mono ?_
        intro e za hy
        obtain ⟨he, hy⟩ := hy
        subst he
        have Fa : Hid (Env w [(g15, 27, trC (f N).1 (f N).2), (g14, 36, trC (f j).1 (f j).2), (g13, 36, trC hs 0), (g12, 27, trC hs 0), (gq, 34, logC (1 + j)), (g, 76, mC (1 + N + j + 1)), (g6, 27, trC (f j).1 (f j).2)] za) := Lib.hid hy
        clear hy hS Da
        have hS : Env w [(g6, 27, trC (f j).1 (f j).2)] za := Fa.out.less (by simp)
        refine hKK _ _ (.inr hS) ?_
        clear hKK KK hS
        try simp only [Act.put, List.setIfInBounds_toArray, List.set_cons_zero, List.set_cons_succ]
        refine walkS_only (i := 7) (o := ⟨none, _, _, _, _, _⟩) (by kernel_rfl) rfl rfl fun KK hKK => ?_
        refine wp_store_row 27 (.tmp 6) (.tmp 71) rfl g6 27 (trC (f j).1 (f j).2) (trC (f (j + 1)).1 (f (j + 1)).2) rfl rfl (Fa.out.row 6 rfl) (trC_same LJ.out LJ1.out) (Tryd.sizeT _ _ LJ1.out) (trC_one _ _) fun xa p4 => ?_
        have Ga : Hid (Env w [(g15, 27, trC (f N).1 (f N).2), (g14, 36, trC (f j).1 (f j).2), (g13, 36, trC hs 0), (g12, 27, trC hs 0), (gq, 34, logC (1 + j)), (g, 76, mC (1 + N + j + 1)), (g6, 27, trC (f (j + 1)).1 (f (j + 1)).2)] xa) := Lib.hid (Fa.out.put 6 rfl p4)
        refine hKK _ _ (.inl rfl) (walkS_done (by kernel_rfl) ?_ _)
        clear hKK KK p4 Fa E
        go_wp2_with fail
        refine plain_region (S := fun x => Env w [(g14, 36, trC (f j).1 (f j).2)] x) (fin := fun k => k == 7) (by kernel_rfl) ?_
        have Db := Lib.hid Ga.out.drew
        generalize xa.drew = yb at Db ⊢
        have hS : Env w [(g14, 36, trC (f j).1 (f j).2)] yb := Db.out.less (by simp)
        change walkS _ _ _ _ _ _ 8 _ _ _
        refine walkS_take (i := 0) (oi := ⟨some 72, _, _, _, _, _⟩) (v := .agg (trC (f j).1 (f j).2)) rfl (by kernel_rfl) (by kernel_rfl) (fun _ _ _ h => h) _ _ _ _ (by kernel_rfl) (by kernel_rfl) (Or.inl ⟨by rfl, fun w' hS' => (run_load_row 36 (.tmp 14) rfl g14 rfl 36 (trC (f j).1 (f j).2) (0, 0) _ (hS'.row 0 rfl) Tryd.underlying36 rfl (Tryd.sizeR _ _ LJ.out))⟩) hS ?_
        try simp only [Act.put, List.setIfInBounds_toArray, List.set_cons_zero, List.set_cons_succ]
        refine walkS_take (i := 1) (oi := ⟨some 73, _, _, _, _, _⟩) (v := .pointer (some ⟨gq, 0, none⟩)) rfl (by kernel_rfl) (by kernel_rfl) (fun _ _ _ h => h) _ _ _ _ (by kernel_rfl) (by kernel_rfl) (Or.inl ⟨by rfl, fun w' hS' => (by first | rfl | (clear hS hS'; go_simp))⟩) hS ?_
        try simp only [Act.put, List.setIfInBounds_toArray, List.set_cons_zero, List.set_cons_succ]
        refine walkS_take (i := 2) (oi := ⟨some 74, _, _, _, _, _⟩) (v := .slice (some ⟨b0, off, none⟩) N c) rfl (by kernel_rfl) (by kernel_rfl) (fun _ _ _ h => h) _ _ _ _ (by kernel_rfl) (by kernel_rfl) (Or.inl ⟨by rfl, fun w' hS' => (by first | rfl | (clear hS hS'; go_simp))⟩) hS ?_
        try simp only [Act.put, List.setIfInBounds_toArray, List.set_cons_zero, List.set_cons_succ]
        refine walkS_take (i := 3) (oi := ⟨some 75, _, _, _, _, _⟩) (v := .int .i64 (j : Int)) rfl (by kernel_rfl) (by kernel_rfl) (fun _ _ _ h => h) _ _ _ _ (by kernel_rfl) (by kernel_rfl) (Or.inl ⟨by rfl, fun w' hS' => (by first | rfl | (clear hS hS'; go_simp))⟩) hS ?_
        try simp only [Act.put, List.setIfInBounds_toArray, List.set_cons_zero, List.set_cons_succ]
        refine walkS_take (i := 4) (oi := ⟨some 76, _, _, _, _, _⟩) (v := .pointer (some ⟨b0, off + j, none⟩)) rfl (by kernel_rfl) (by kernel_rfl) (fun _ _ _ h => h) _ _ _ _ (by kernel_rfl) (by kernel_rfl) (Or.inl ⟨by rfl, fun w' hS' => (by first | rfl | (clear hS hS'; go_simp))⟩) hS ?_
        try simp only [Act.put, List.setIfInBounds_toArray, List.set_cons_zero, List.set_cons_succ]
        refine walkS_take (i := 5) (oi := ⟨some 77, _, _, _, _, _⟩) (v := .slice Au b.length cu) rfl (by kernel_rfl) (by kernel_rfl) (fun _ _ _ h => h) _ _ _ _ (by kernel_rfl) (by kernel_rfl) (Or.inl ⟨by rfl, fun w' hS' => (by have c := (HU.out w' hS'.below).1; clear hS hS'; go_simp)⟩) hS ?_
        try simp only [Act.put, List.setIfInBounds_toArray, List.set_cons_zero, List.set_cons_succ]
        refine walkS_only (i := 6) (o := ⟨some 78, _, _, _, _, _⟩) (by kernel_rfl) rfl rfl fun KK hKK => ?_
        go_simp
        refine (CD.out _ _ 4 _ _ j _ b Db.out rfl (by omega) HBJ.out (HU.out _ hS.below).2 (by omega)).mono ?_
        intro e zb hy
        obtain ⟨he, hy⟩ := hy
        subst he
        have Fb : Hid (Env w [(g15, 27, trC (f N).1 (f N).2), (g14, 36, trC (f j).1 (f j).2), (g13, 36, trC hs 0), (g12, 27, trC hs 0), (gq, 34, logC (1 + j + 1)), (g, 76, mC (1 + N + j + 1)), (g6, 27, trC (f (j + 1)).1 (f (j + 1)).2)] zb) := Lib.hid hy
        clear hy hS Db
        have hS : Env w [(g14, 36, trC (f j).1 (f j).2)] zb := Fb.out.less (by simp)
        refine hKK _ _ (.inr hS) ?_
        clear hKK KK hS
        try simp only [Act.put, List.setIfInBounds_toArray, List.set_cons_zero, List.set_cons_succ]
        refine walkS_only (i := 7) (o := ⟨none, _, _, _, _, _⟩) (by kernel_rfl) rfl rfl fun KK hKK => ?_
        refine wp_store_row 36 (.tmp 14) (.tmp 78) rfl g14 36 (trC (f j).1 (f j).2) (trC (f (j + 1)).1 (f (j + 1)).2) rfl rfl (Fb.out.row 1 rfl) (trC_same LJ.out LJ1.out) (Tryd.sizeR _ _ LJ1.out) (trC_one _ _) fun xb p4 => ?_
        have Gb : Hid (Env w [(g15, 27, trC (f N).1 (f N).2), (g14, 36, trC (f (j + 1)).1 (f (j + 1)).2), (g13, 36, trC hs 0), (g12, 27, trC hs 0), (gq, 34, logC (1 + j + 1)), (g, 76, mC (1 + N + j + 1)), (g6, 27, trC (f (j + 1)).1 (f (j + 1)).2)] xb) := Lib.hid (Fb.out.put 1 rfl p4)
        refine hKK _ _ (.inl rfl) (walkS_done (by kernel_rfl) ?_ _)
        clear hKK KK p4 Fb Ga
        have heq : ∀ W, (Op.equalIn 10000 24 (.agg (keyC (f (j + 1)).1)) (.agg (keyC (f (j + 1)).1))).run Tryd.prog W = .ok true W := fun W => by rw [Tryd.eqKeyIn (f (j + 1)).1 (f (j + 1)).1 LJ1.out LJ1.out W, beq_self_eq_true]
        have hgd := Tryd.eqGuardKey
        have n6 := Gb.out.cellV 6 rfl 32 _ (trC_32 (f (j + 1)).1 (f (j + 1)).2 LJ1.out)
        have n14 := Gb.out.cellV 1 rfl 32 _ (trC_32 (f (j + 1)).1 (f (j + 1)).2 LJ1.out)
        go_wp2_with (first
          | (with_reducible refine wpList_val (o := ⟨some 80, _, _, _, _, _⟩) rfl _ (run_partK 24 (.tmp 79) rfl g6 0 (by with_unfolding_all rfl) 27 _ (f (j + 1)).1 _ (Gb.out.row 6 rfl) (trC_seed (f (j + 1)).1 (f (j + 1)).2) Tryd.underlying24 rfl (Tryd.sizeKeyM _ LJ1.out)) ?_)
          | (with_reducible refine wpList_val (o := ⟨some 82, _, _, _, _, _⟩) rfl _ (run_partK 24 (.tmp 81) rfl g14 0 (by with_unfolding_all rfl) 36 _ (f (j + 1)).1 _ (Gb.out.row 1 rfl) (trC_seed (f (j + 1)).1 (f (j + 1)).2) Tryd.underlying24 rfl (Tryd.sizeKeyM _ LJ1.out)) ?_))
        try go_roundw
        · exact ⟨j + 1, by omega, by congr 1, Gb.out⟩
        · show N - ((j : Int) + 1).toNat < N - (j : Int).toNat
          omega
    · obtain rfl : N = j := by omega
      clear hlt hj
      have LNN := Lib.hid (LF.out N)
      have heq : ∀ W, (Op.equalIn 10000 24 (.agg (keyC hs)) (.agg (keyC hs))).run Tryd.prog W = .ok true W := fun W => by rw [Tryd.eqKeyIn hs hs LS.out LS.out W, beq_self_eq_true]
      have hgd := Tryd.eqGuardKey
      have n12 := E.out.cellV 3 rfl 32 _ (trC_32 hs 0 LS.out)
      go_wp2_with (first
        | (with_reducible refine wpListG_val (o := ⟨some 94, _, _, _, _, _⟩) (by with_unfolding_all rfl) _ (run_partK 24 (.tmp 93) rfl g12 0 (by with_unfolding_all rfl) 27 _ hs _ (E.out.row 3 rfl) (trC_seed hs 0) Tryd.underlying24 rfl (Tryd.sizeKeyM _ LS.out)) ?_)
        | (with_reducible refine wpListG_val (o := ⟨some 96, _, _, _, _, _⟩) (by with_unfolding_all rfl) _ (run_partK 24 (.tmp 95) rfl g13 0 (by with_unfolding_all rfl) 36 _ hs _ (E.out.row 2 rfl) (trC_seed hs 0) Tryd.underlying24 rfl (Tryd.sizeKeyM _ LS.out)) ?_)
        | (with_reducible refine wpListG_load_row (o := ⟨some 105, _, _, _, _, _⟩) 27 (.tmp 15) rfl (by with_unfolding_all rfl) g15 (by with_unfolding_all rfl) 27 (trC (f N).1 (f N).2) _ (by with_unfolding_all exact E.out.row 0 rfl) Tryd.underlying27 rfl (Tryd.sizeT _ _ LNN.out) ?_)
        | (with_reducible refine wpListG_load_row (o := ⟨some 106, _, _, _, _, _⟩) 27 (.tmp 6) rfl (by with_unfolding_all rfl) g6 (by with_unfolding_all rfl) 27 (trC (f N).1 (f N).2) _ (by with_unfolding_all exact E.out.row 6 rfl) Tryd.underlying27 rfl (Tryd.sizeT _ _ LNN.out) ?_)
        | (with_reducible refine wpListG_val (o := ⟨some 107, _, _, _, _, _⟩) (by with_unfolding_all rfl) _ (eqT_run (.tmp 105) (.tmp 106) _ rfl (f N).1 (f N).2 LNN.out (by with_unfolding_all rfl) (by with_unfolding_all rfl)) ?_))
      go_ret
      exact E.out.ret _
end Go.Proofs.YtlifjlcfoeednaaDoor
end
section
namespace Go.Proofs.YtlifjlcfoeednaaDoor.trailGoes
open Go.ChangeShapes Go.WideShapes Go.ChangeAt Go.RowKit
open Go.ChangeMaps (open_string shut_string)
set_option linter.unusedVariables false

theorem own : ownKnob Tryd.prog.godebug = none := by kernel_rfl
theorem laidOut : laidOutB Tryd.prog = true := by kernel_rfl

theorem laid_met (os : Os) : laidMet Tryd.prog Rows.trailGoesRow.laid ((laidWorld os).forCall (fun _ _ => 0) ⟨#[], #[.slice none 0 0, .slice none 0 0, .agg (trC zeroKey 0), .slice none 0 0], []⟩).memory :=
  laidMet_of_run' 8 (by kernel_rfl) (by kernel_rfl)
theorem reads (os : Os) {H : Type} (enc : TypeId × Value → H) : ∃ places, DataW.whole enc Tryd.prog ((laidWorld os).forCall (fun _ _ => 0) ⟨#[], #[.slice none 0 0, .slice none 0 0, .agg (trC zeroKey 0), .slice none 0 0], []⟩).memory Tryd.f3.params.toList Rows.trailGoesSpec.vars false #[.slice none 0 0, .slice none 0 0, .agg (trC zeroKey 0), .slice none 0 0].toList 8 = some ([.nil, .nil, .agg [.agg (List.replicate 32 (.lit (.int .u8 0))), .lit (.int .u32 0)], .nil], [], places) :=
  ⟨[], by kernel_rfl⟩

set_option maxRecDepth 100000 in
theorem contract (H : Type) (enc : TypeId × Value → H) (W : World) (base : Nat) (args : Array Value) (ds gs : List (DataW H)) (before : List MemPlace)
    (hval0 : ∀ (j : Nat) t v, Tryd.f3.params[j]? = some t → args[j]? = some v → Value.okWide Tryd.prog W .any base t v)
    (hW : DataW.Whole enc Tryd.prog Tryd.f3.params.toList Rows.trailGoesSpec.vars false W args.toList ds gs before) (hL : laidMetH Tryd.prog Rows.trailGoesRow.laid W) (hZ : ∀ T d, Tryd.f3.params.toList[3]? = some T → ds[3]? = some d → ∀ k ∈ d.weights Tryd.prog T, k ≤ 140737488351232) :
    Calls Tryd.prog 3 args W fun e W' => ∃ v, e = .returned v ∧ Rows.trailGoesSpec.post enc Tryd.prog Tryd.f3 false true false false W args v W' := by
  have hq := tables hL
  have hval : ∀ (j : Nat) t v, Tryd.f3.params[j]? = some t → args[j]? = some v → Value.okWide Tryd.prog W .any base t v := hval0
  have hW' := hW
  obtain ⟨p, q, hA0, hV, rfl, hfz, hnd⟩ := hW
  have hA : DataW.TrodAll enc Tryd.prog W 0 (fun _ => true) true Tryd.f3.params.toList args.toList ds p := hA0
  rw [Tryd.params3] at hA hval
  obtain ⟨v0, vs0, d0, ds0, p0, q0, hargs, rfl, rfl, h0, r0⟩ := trodAll_cons hA
  obtain ⟨v1, vs1, d1, ds1, p1, q1, rfl, rfl, rfl, h1, r1⟩ := trodAll_cons r0
  obtain ⟨v2, vs2, d2, ds2, p2, q2, rfl, rfl, rfl, h2, r2⟩ := trodAll_cons r1
  obtain ⟨v3, vs3, d3, ds3, p3, q3, rfl, rfl, rfl, h3, r3⟩ := trodAll_cons r2
  obtain ⟨rfl, rfl, rfl⟩ := trodAll_nil r3
  obtain rfl : args = #[v0, v1, v2, v3] := by cases args; simp_all
  obtain ⟨rfl, rfl⟩ := trodVars_none hV
  obtain ⟨a0, len0, cap0, rfl⟩ := okWide_slice Tryd.underlying22 (hval 0 22 v0 rfl rfl)
  have k0 := h0
  have lt0 : ∀ x ∈ p0, x.block < W.heap.size := by obtain ⟨m, hm⟩ := k0; exact DataW.trod_lt m _ _ _ hm
  obtain ⟨l0, w0⟩ : ∃ l, Bs W (.slice a0 len0 cap0) l := by
    obtain ⟨fuel, hf⟩ := h0
    rcases open_ints Tryd.underlying22 Tryd.underlying5 (by kernel_rfl) hf with ⟨hcs, _⟩ | ⟨x, l, c, zs, hcs, _, hl, hm, hz, _, hcell, hwz⟩
    · simp [Value.cells] at hcs
      obtain ⟨rfl, rfl, rfl⟩ := hcs
      exact ⟨[], Bs.nil W⟩
    · simp [Value.cells] at hcs
      obtain ⟨rfl, rfl, rfl⟩ := hcs
      exact bs_of_ints hl hm (by simpa using hz) hcell hwz
  obtain ⟨a1, len1, cap1, rfl⟩ := okWide_slice Tryd.underlying22 (hval 1 22 v1 rfl rfl)
  have k1 := h1
  have lt1 : ∀ x ∈ p1, x.block < W.heap.size := by obtain ⟨m, hm⟩ := k1; exact DataW.trod_lt m _ _ _ hm
  obtain ⟨l1, w1⟩ : ∃ l, Bs W (.slice a1 len1 cap1) l := by
    obtain ⟨fuel, hf⟩ := h1
    rcases open_ints Tryd.underlying22 Tryd.underlying5 (by kernel_rfl) hf with ⟨hcs, _⟩ | ⟨x, l, c, zs, hcs, _, hl, hm, hz, _, hcell, hwz⟩
    · simp [Value.cells] at hcs
      obtain ⟨rfl, rfl, rfl⟩ := hcs
      exact ⟨[], Bs.nil W⟩
    · simp [Value.cells] at hcs
      obtain ⟨rfl, rfl, rfl⟩ := hcs
      exact bs_of_ints hl hm (by simpa using hz) hcell hwz
  have k2 := h2
  have lt2 : ∀ x ∈ p2, x.block < W.heap.size := by obtain ⟨m, hm⟩ := k2; exact DataW.trod_lt m _ _ _ hm
  obtain ⟨l2, n2, rfl, w2, x2⟩ := open_tr (hval 2 27 v2 rfl rfl) h2
  obtain ⟨a3, len3, cap3, rfl⟩ := okWide_slice Tryd.underlying28 (hval 3 28 v3 rfl rfl)
  have k3 := h3
  have lt3 : ∀ x ∈ p3, x.block < W.heap.size := by obtain ⟨m, hm⟩ := k3; exact DataW.trod_lt m _ _ _ hm
  obtain ⟨l3, w3, z3⟩ : ∃ l, Bss W (.slice a3 len3 cap3) l ∧ ∀ b ∈ l, b.length ≤ 140737488351232 := by
    obtain ⟨fuel, hf⟩ := h3
    obtain ⟨v, l, hcs, hk, hz⟩ := open_bssW Tryd.underlying28 Tryd.underlying22 Tryd.underlying5 (by kernel_rfl) (by kernel_rfl) (by kernel_rfl) hf (hZ 28 d3 (by kernel_rfl) rfl)
    simp [Value.cells] at hcs
    subst hcs
    exact ⟨l, hk, hz⟩
  clear hA0 hval0
  refine (trailGoes_walk W hq _ l0 w0 _ l1 w1 l2 w2 n2 x2 _ l3 w3 z3).mono fun e W' ⟨he, bel⟩ => ?_
  subst he
  exact ⟨_, rfl, _, _, _, [], _, [], hW', trodAll_mk1 (shut_bool Tryd.underlying4 _), (trodAll_cons_mk (Below.trod laidOut (by kernel_rfl) (of_decide_eq_true (by kernel_rfl)) k0 bel lt0) (trodAll_cons_mk (Below.trod laidOut (by kernel_rfl) (of_decide_eq_true (by kernel_rfl)) k1 bel lt1) (trodAll_cons_mk (Below.trod laidOut (by kernel_rfl) (of_decide_eq_true (by kernel_rfl)) k2 bel lt2) (trodAll_cons_mk (Below.trod laidOut (by kernel_rfl) (of_decide_eq_true (by kernel_rfl)) k3 bel lt3) trodAll_mk0)))), rfl, bel.frame _, fun h => by cases h⟩

set_option maxRecDepth 100000 in
theorem lifted (os : Os) (started : os.Started) (H : Type) (enc : TypeId × Value → H) (F : Stop.Interp) :
    ReturnsInHanded {} Tryd.checked os 3 .any ((OpenSpec.ofChange Rows.trailGoesSpec).preRow enc Tryd.prog Tryd.f3 Rows.trailGoesRow.domain false Rows.trailGoesRow.laid) (((OpenSpec.ofChange Rows.trailGoesSpec).at F).post enc Tryd.prog Tryd.f3 false true false false) := by
  obtain ⟨places, hx⟩ := reads os enc
  refine returnsInHanded_of_row (C := Tryd.checked) (s := OpenSpec.ofChange Rows.trailGoesSpec) own started (by kernel_rfl) Tryd.func3
    (witness_row_at (enc := enc) (C := Tryd.checked) false (laidWorld os) #[.slice none 0 0, .slice none 0 0, .agg (trC zeroKey 0), .slice none 0 0] rfl (by kernel_rfl) (by kernel_rfl) (by kernel_rfl)
      (OpenSpec.preRow_of_cond 8 hx (by kernel_rfl) (fun k hk => by cases hk) (by kernel_rfl) (laid_met os))) ?_
  intro W base args ds gs before hval hW _ _ hZ hL _ _
  exact contract H enc W base args ds gs before hval hW hL fun T d hT hd k hk => by
    have := List.all_eq_true.1 hZ _ (DataW.weights_mem_each (j := 3) (by rw [List.getElem?_append_left (List.getElem?_eq_some_iff.1 hT).1]; exact hT) (by rw [List.getElem?_append_left (List.getElem?_eq_some_iff.1 hd).1]; exact hd) k hk)
    exact of_decide_eq_true this

theorem said : Rows.TrailGoesSaid :=
  OpenClaim.holds_of_cond 3 Tryd.f3 rfl rfl rfl rfl rfl rfl rfl ⟨rfl, rfl, rfl, rfl, rfl⟩ rfl rfl rfl rfl rfl (by kernel_rfl) Tryd.func3 (by kernel_rfl)
    (of_decide_eq_true (by kernel_rfl)) (by unfold Func.isWrapper; first | (rw [if_pos (by decide +kernel)]; kernel_rfl) | (rw [if_neg (by decide +kernel)]; exact ⟨rfl, rfl⟩))
    (fun os started H enc _ F => by rw [OpenClaim.pre_eq_preRow]; exact lifted os started H enc F)

theorem noStand : (Tryd.f3.params.toList.all fun t => Tryd.prog.wantsStandIn t == false) = true := by kernel_rfl
theorem plain (f : FuncId) (fn : Func) (hf : Tryd.pinned.checked.prog.funcNamed "cablegram/cablegramlaw14.TrailGoes" = some f) (hfn : Tryd.pinned.checked.prog.funcs[f]? = some fn) :
    false = Tryd.pinned.checked.prog.looks [] ∧ ∀ (j : Nat) t, fn.params[j]? = some t → Tryd.pinned.checked.prog.wantsStandIn t = false := by
  obtain rfl : f = 3 := Option.some.inj ((show Tryd.prog.funcNamed "cablegram/cablegramlaw14.TrailGoes" = some 3 by kernel_rfl).symm.trans hf) |>.symm
  obtain rfl : fn = Tryd.f3 := (Option.some.inj (Tryd.func3.symm.trans hfn)).symm
  refine ⟨by kernel_rfl, fun j t ht => ?_⟩
  have hm : t ∈ Tryd.f3.params.toList := by simpa using Array.mem_of_getElem? ht
  exact beq_iff_eq.1 (List.all_eq_true.1 noStand t hm)

theorem proved : Rows.TrailGoesCardSaid :=
  Claim7.holds_tied_plain_at .later [] _ _ _ _ said (fun _ h => by cases h) (by kernel_rfl) (fun _ h => by cases h) trailGoes_row_tie rfl ⟨rfl, rfl⟩ (by kernel_rfl) rfl plain (by kernel_rfl)
#print axioms proved
end Go.Proofs.YtlifjlcfoeednaaDoor.trailGoes
end
