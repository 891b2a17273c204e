/-
  DrawsPlays: for every input the call returns true, and each argument reads as it read before. Conditions: none beyond the given statement's own (the package-level tables that its row lists hold what the program's text lays: the card ties that).
-/
import Derived.Test.YtjlhmcnajgafgaaDoorQDrwAL
import Derived.Deep.CutBlock
import Derived.Deep.CutRange
import Derived.Test.YtjlhmcnajgafgaaDoorQDrwAB
import Derived.ProofKit
import Derived.OpenShut
import Derived.ShutString
import Derived.ChangeOld
import Derived.Deep.DeepHandedRow
section
namespace Go.Proofs.YtjlhmcnajgafgaaDoor
open Go.RowKit
set_option linter.unusedVariables false
set_option maxRecDepth 20000

theorem Tryd.builtLog13 : Tryd.prog.built 32 [] = some (logC 0) := by kernel_rfl
theorem world_of {w x : World} {rs : List (Nat × TypeId × Array Value)} (h : Env w rs x) : ∃ z, z = x := ⟨x, rfl⟩
/-- Where the arms of what is done meet: both tell the same. -/
def DrwMeet (w : World) (gr gs gq gm g3 : Nat) (s : List UInt8) (N : Nat) (a b x y : Value) (z : World) : Prop :=
  ∃ (X : Int) (L : List (List UInt8)) (k nm nq : Nat), x = .int .i64 X ∧ y = .int .i64 X ∧ k < 18446744073709551616 ∧ nm ≤ N ∧ nq ≤ N ∧ L.length ≤ 10 ∧ Kl z a L ∧ Kl z b L ∧ Env w ((gr, 37, srcC s k) :: (gs, 35, srcC s k) :: (gq, 32, logC nq) :: (gm, 65, mC nm) :: (g3, 23, keyC s) :: []) z

set_option maxHeartbeats 16000000 in
theorem drawsPlays_walk (w : World) (hq : Tabs w) (s : List UInt8) (hs : s.length = 32) (n : Nat) (hn : n < 18446744073709551616) (vl : Value) (l : List OpD) (hl : OpDs w vl l) :
    Calls Tryd.prog 3 #[.agg (keyC s), .int .u64 (n : Int), vl] w (RetV w (.bool true)) := by
  have HQ := Lib.hid hq
  have E0 := Lib.hid (Env.start w)
  have LS := Lib.hid hs
  have HN0 := Lib.hid hn
  obtain ⟨A, lc, rfl, hl1, hl2, hl3⟩ := hl
  have HL := Lib.hid hl3
  have heq := fun W => Tryd.eqKeyIn s s LS.out LS.out W
  rw [beq_self_eq_true] at heq
  have HEQ := Lib.hid heq
  have CW : Hid (∀ x, Below w.heap.size w x → Calls Tryd.prog 5 #[] x (RetV x (.bool true))) := fun x hx => drawsAwake_any x (HQ.out.below hx)
  unfold maxLen at hl2
  clear hq hs hn hl3 heq
  by_cases h30 : 30 < l.length
  · have hd : decide ((30 : Int) < (l.length : Int)) = true := by simp; omega
    have hd1 : (30 : Int) < (l.length : Int) := by omega
    go_enter Tryd.func3, Tryd.ntmps3
    go_wp2_with ((with_reducible refine wpE_box (o := ⟨some 3, _, _, _, _, _⟩) rfl 23 (.tmp 0) rfl (keyC s) (by with_unfolding_all rfl) E0.out ?_); intro g3 w1 T1; have E1 := Lib.hid T1; clear T1)
    refine (CW.out _ E1.out.below).mono ?_
    rintro e w2 ⟨rfl, b2⟩
    have E2 := Lib.hid (E1.out.call b2)
    clear b2 E1 E0 CW
    go_wp2_with fail
    go_ret
    exact E2.out.ret _
  have hd : decide ((30 : Int) < (l.length : Int)) = false := by simp; omega
  have hd1 : ¬ (30 : Int) < (l.length : Int) := by omega
  go_enter Tryd.func3, Tryd.ntmps3
  go_wp2_with ((with_reducible refine wpE_box (o := ⟨some 3, _, _, _, _, _⟩) rfl 23 (.tmp 0) rfl (keyC s) (by with_unfolding_all rfl) E0.out ?_); intro g3 w1 T1; have E1 := Lib.hid T1; clear T1)
  refine (CW.out _ E1.out.below).mono ?_
  rintro e w2 ⟨rfl, b2⟩
  have E2 := Lib.hid (E1.out.call b2)
  clear b2 E1 E0 CW
  go_wp2_with fail
  refine (New_any _ false).mono ?_
  intro e w3 h
  obtain ⟨gm, he, n1⟩ := h
  subst he
  have E3 : Hid (Env w [(gm, 65, mC 0), (g3, 23, keyC s)] w3) := E2.out.new n1
  clear n1 E2
  go_wp2_with (first
    | (with_reducible refine wpList_val (o := ⟨some 27, _, _, _, _, _⟩) rfl (.agg (logC 0)) (by exact run_builtOp 32 #[] rfl _ Tryd.builtLog13) ?_)
    | ((with_reducible refine wpE_box (o := ⟨some 28, _, _, _, _, _⟩) rfl 32 (.tmp 27) rfl (logC 0) (by with_unfolding_all rfl) E3.out ?_); intro gq w4 T4; have E4 := Lib.hid T4; clear T4)
    | (with_reducible refine wpE_load (o := ⟨some 29, _, _, _, _, _⟩) rfl 23 (.tmp 3) rfl 2 g3 23 (keyC s) _ (by with_unfolding_all rfl) (by with_unfolding_all rfl) Tryd.underlying23 rfl (Tryd.sizeKey _ LS.out) E4.out ?_)
    | (with_reducible refine wpList_bSrc (o := ⟨some 31, _, _, _, _, _⟩) rfl (.tmp 29) (.tmp 30) rfl s n (by with_unfolding_all rfl) (by with_unfolding_all rfl) LS.out ?_)
    | ((with_reducible refine wpE_box (o := ⟨some 32, _, _, _, _, _⟩) rfl 35 (.tmp 31) rfl (srcC s n) (by with_unfolding_all rfl) E4.out ?_); intro gs w5 T5; have E5 := Lib.hid T5; clear T5)
    | (with_reducible refine wpE_load (o := ⟨some 33, _, _, _, _, _⟩) rfl 23 (.tmp 3) rfl 3 g3 23 (keyC s) _ (by with_unfolding_all rfl) (by with_unfolding_all rfl) Tryd.underlying23 rfl (Tryd.sizeKey _ LS.out) E5.out ?_)
    | (with_reducible refine wpList_bRef (o := ⟨some 35, _, _, _, _, _⟩) rfl (.tmp 33) (.tmp 34) rfl s n (by with_unfolding_all rfl) (by with_unfolding_all rfl) LS.out ?_)
    | ((with_reducible refine wpE_box (o := ⟨some 36, _, _, _, _, _⟩) rfl 37 (.tmp 35) rfl (srcC s n) (by with_unfolding_all rfl) E5.out ?_); intro gr w6 T6; have E6 := Lib.hid T6; clear T6))
  clear E3 E4 E5
  go_loopw [12] (fun i wr => ∃ j : Nat, j ≤ l.length ∧ i = .int .i64 (j : Int) ∧ ∃ k nm nq, k < 18446744073709551616 ∧ nm ≤ 6 * j ∧ nq ≤ 6 * j ∧ Hid (Env w ((gr, 37, srcC s k) :: (gs, 35, srcC s k) :: (gq, 32, logC nq) :: (gm, 65, mC nm) :: (g3, 23, keyC s) :: []) wr)) (fun i _ => l.length - (intOf i).toNat)
  case atStart => exact ⟨0, by omega, rfl, n, 0, 0, HN0.out, by omega, by omega, E6⟩
  case round =>
    clear E6
    obtain ⟨j, hj, rfl, k, nm, nq, hk, hnm, hnq, E⟩ := hrel
    by_cases hlt : j < l.length
    · obtain ⟨b, off, rfl, ho⟩ := HL.out (by omega)
      obtain ⟨hr, _, h1m, h2m, hnn⟩ := ho j hlt
      have R := Lib.hid hr
      generalize l[j] = q at *
      obtain ⟨do_, one, tw, nn⟩ := q
      simp only at *
      have CC : Hid (∀ i v, (opdC ⟨do_, one, tw, nn⟩)[i]? = some v → ∀ x, Below w.heap.size w x → x.cell? ⟨b, off + j * 4 + i, none⟩ = some v) := fun i v h x hx => (World.cell?_of_block (a := ⟨b, off + j * 4 + i, none⟩) (hx.block b (World.block_lt_of_cell? w _ (R.out i v h)))).trans (R.out i v h)
      have C0 : Hid (∀ x, Below w.heap.size w x → x.cell? ⟨b, off + j * 4, none⟩ = some (.int .i64 do_)) := fun x hx => CC.out 0 _ rfl x hx
      have C1 : Hid (∀ x, Below w.heap.size w x → x.cell? ⟨b, off + j * 4 + 1, none⟩ = some (.string one)) := fun x hx => CC.out 1 _ rfl x hx
      have C2 : Hid (∀ x, Below w.heap.size w x → x.cell? ⟨b, off + j * 4 + 2, none⟩ = some (.string tw)) := fun x hx => CC.out 2 _ rfl x hx
      have C3 : Hid (∀ x, Below w.heap.size w x → x.cell? ⟨b, off + j * 4 + 3, none⟩ = some (.int .u64 (nn : Int))) := fun x hx => CC.out 3 _ rfl x hx
      have c0 := C0.out wr E.out.below
      have c1 := C1.out wr E.out.below
      have c2 := C2.out wr E.out.below
      have c3 := C3.out wr E.out.below
      have hjd : decide ((j : Int) < (l.length : Int)) = true := by simp; omega
      have hjl2 : (j : Int) < (l.length : Int) := by omega
      have hj0 : ¬ ((j : Int) < 0) := by omega
      have hwj : IntKind.i64.wrap ((j : Int) + 1) = (j : Int) + 1 := IntWalk.i64_in _ (by omega)
      clear hr ho CC R HL
      by_cases h1 : 50 < one.size
      · have d1 : decide (50 < one.size) = true := by simpa using h1
        have d1' : decide ((50 : Int) < (one.size : Int)) = true := by simp; omega
        go_wp2_with fail
        go_ret
        exact E.out.ret _
      have d1 : decide (50 < one.size) = false := by simpa using h1
      have d1' : decide ((50 : Int) < (one.size : Int)) = false := by simp; omega
      by_cases h2 : 50 < tw.size
      · have d2 : decide (50 < tw.size) = true := by simpa using h2
        have d2' : decide ((50 : Int) < (tw.size : Int)) = true := by simp; omega
        go_wp2_with fail
        go_ret
        exact E.out.ret _
      have d2 : decide (50 < tw.size) = false := by simpa using h2
      have d2' : decide ((50 : Int) < (tw.size : Int)) = false := by simp; omega
      have H1 : Hid (one.size ≤ 1000) := by show _ ≤ _; omega
      have H2 : Hid (tw.size ≤ 1000) := by show _ ≤ _; omega
      go_upto_block 2 with fail
      clear h1 h2 h1m h2m d1 d1' d2 d2' hl1
      go_cut [13, 14, 15, 16, 17, 18, 19, 20] from 65 to 146 (fun a b x y p q r t wx => Hid (DrwMeet w gr gs gq gm g3 s (6 * j + 6) a b x y wx))
      case first =>
        by_cases e1 : do_ = 1
        · as_aux_lemma =>
            subst e1
            obtain ⟨d, X, k1, hdl, hk1, NP, NR⟩ := next_both w HQ.out s LS.out k hk one H1.out
            have LD := Lib.hid hdl
            have HNP := Lib.hid NP
            have HNR := Lib.hid NR
            clear NP NR hdl
            go_wp2_with fail
            refine (HNP.out _ _ 3 1 gm gs nm E.out rfl (by omega) rfl).mono ?_
            intro e x1 h
            obtain ⟨m1, hm1, he, h⟩ := h
            subst he
            simp only [List.set_cons_zero, List.set_cons_succ] at h
            have F1 := Lib.hid h
            clear h E HNP c1 c2 c3 c0
            go_wp2_with (first
              | ((with_reducible refine wpE_alloc (o := ⟨some 17, _, _, _, _, _⟩) rfl 23 rfl (keyC zeroKey) Tryd.zeroK F1.out ?_); intro ga x2 T; have F2 := Lib.hid T; clear T)
              | ((with_reducible refine wpE_store (o := ⟨none, _, _, _, _, _⟩) rfl 23 (.tmp 17) (.tmp 76) rfl 0 ga 23 (keyC zeroKey) (keyC d) (by with_unfolding_all rfl) (by with_unfolding_all rfl) (by with_unfolding_all rfl) (keyC_same zeroKey_length LD.out) (Tryd.sizeKey _ LD.out) (keyC_one _) F2.out ?_); intro x3 T; simp only [List.set_cons_zero] at T; have F3 := Lib.hid T; have c1 := C1.out x3 F3.out.below; clear T F2))
            refine (HNR.out _ _ 3 1 gq gr nq F3.out rfl (by omega) rfl).mono ?_
            intro e x4 h
            obtain ⟨m4, hm4, he, h⟩ := h
            subst he
            simp only [List.set_cons_zero, List.set_cons_succ] at h
            have F4 := Lib.hid h
            clear h F3 F1 HNR c1
            go_wp2_with (first
              | ((with_reducible refine wpE_alloc (o := ⟨some 19, _, _, _, _, _⟩) rfl 23 rfl (keyC zeroKey) Tryd.zeroK F4.out ?_); intro gb x5 T; have F5 := Lib.hid T; clear T)
              | ((with_reducible refine wpE_store (o := ⟨none, _, _, _, _, _⟩) rfl 23 (.tmp 19) (.tmp 87) rfl 0 gb 23 (keyC zeroKey) (keyC d) (by with_unfolding_all rfl) (by with_unfolding_all rfl) (by with_unfolding_all rfl) (keyC_same zeroKey_length LD.out) (Tryd.sizeKey _ LD.out) (keyC_one _) F5.out ?_); intro x6 T; simp only [List.set_cons_zero] at T; have F6 := Lib.hid T; clear T F5)
              | (with_reducible refine wpE_load (o := ⟨some 89, _, _, _, _, _⟩) rfl 23 (.tmp 17) rfl 1 ga 23 (keyC d) _ (by with_unfolding_all rfl) (by with_unfolding_all rfl) Tryd.underlying23 rfl (Tryd.sizeKey _ LD.out) F6.out ?_)
              | ((with_reducible refine wpE_buildKeys (o := ⟨some 90, _, _, _, _, _⟩) rfl 40 23 1 _ rfl [d] (by simpa using LD.out) rfl (by omega) (by omega) (by with_unfolding_all rfl) Tryd.underlying40 Tryd.key32 (keyC zeroKey) Tryd.zeroK F6.out ?_); intro gx x7 T; have F7 := Lib.hid T; clear T)
              | (with_reducible refine wpE_load (o := ⟨some 91, _, _, _, _, _⟩) rfl 23 (.tmp 19) rfl 1 gb 23 (keyC d) _ (by with_unfolding_all rfl) (by with_unfolding_all rfl) Tryd.underlying23 rfl (Tryd.sizeKey _ LD.out) F7.out ?_)
              | ((with_reducible refine wpE_buildKeys (o := ⟨some 92, _, _, _, _, _⟩) rfl 40 23 1 _ rfl [d] (by simpa using LD.out) rfl (by omega) (by omega) (by with_unfolding_all rfl) Tryd.underlying40 Tryd.key32 (keyC zeroKey) Tryd.zeroK F7.out ?_); intro gy x8 T; have F8 := Lib.hid T; clear T))
            go_meet
            case rel => exact ⟨X, [d], k1, m1, m4, rfl, rfl, hk1, by omega, by omega, by simp, Kl.row (F8.out.row 1 rfl) (by simpa using LD.out) (by simp), Kl.row (F8.out.row 0 rfl) (by simpa using LD.out) (by simp), F8.out.tl.tl.tl.tl⟩
        · have e1' : decide (do_ = 1) = false := decide_eq_false e1
          have e1'' : (do_ == 1) = false := by simpa using e1
          by_cases e2 : do_ = 2
          · as_aux_lemma =>
              subst e2
              obtain ⟨L, X, k1, hL, hL2, hk1, NP, NR⟩ := some_both w HQ.out s LS.out k hk one tw H1.out H2.out
              have LL := Lib.hid hL
              have HNP := Lib.hid NP
              have HNR := Lib.hid NR
              clear NP NR hL c0 c1 c2 c3
              go_wp2_with fail
              refine plain_region (S := fun x => Below w.heap.size w x) (fin := fun _ => false) (by kernel_rfl) ?_
              have hS : Below w.heap.size w wr.drew := E.out.drew.below
              change walkS _ _ _ _ _ _ 19 _ _ _
              refine walkS_take (i := 0) (oi := ⟨some 98, _, _, _, _, _⟩) (v := .pointer (some ⟨gs, 0, none⟩)) rfl (by kernel_rfl) (by kernel_rfl) (fun _ _ _ h => h) _ _ _ _ (by kernel_rfl) (by kernel_rfl) (Or.inl ⟨by rfl, fun w' hS' => (by first | rfl | (clear hS hS'; go_simp))⟩) hS ?_
              try simp only [Act.put, List.setIfInBounds_toArray, List.set_cons_zero, List.set_cons_succ]
              refine walkS_take (i := 1) (oi := ⟨some 99, _, _, _, _, _⟩) (v := .pointer (some ⟨gm, 0, none⟩)) rfl (by kernel_rfl) (by kernel_rfl) (fun _ _ _ h => h) _ _ _ _ (by kernel_rfl) (by kernel_rfl) (Or.inl ⟨by rfl, fun w' hS' => (by first | rfl | (clear hS hS'; go_simp))⟩) hS ?_
              try simp only [Act.put, List.setIfInBounds_toArray, List.set_cons_zero, List.set_cons_succ]
              refine walkS_take (i := 2) (oi := ⟨some 100, _, _, _, _, _⟩) (v := .slice (some ⟨b, off, none⟩) l.length lc) rfl (by kernel_rfl) (by kernel_rfl) (fun _ _ _ h => h) _ _ _ _ (by kernel_rfl) (by kernel_rfl) (Or.inl ⟨by rfl, fun w' hS' => (by first | rfl | (clear hS hS'; go_simp))⟩) hS ?_
              try simp only [Act.put, List.setIfInBounds_toArray, List.set_cons_zero, List.set_cons_succ]
              refine walkS_take (i := 3) (oi := ⟨some 101, _, _, _, _, _⟩) (v := .int .i64 (j : Int)) rfl (by kernel_rfl) (by kernel_rfl) (fun _ _ _ h => h) _ _ _ _ (by kernel_rfl) (by kernel_rfl) (Or.inl ⟨by rfl, fun w' hS' => (by first | rfl | (clear hS hS'; go_simp))⟩) hS ?_
              try simp only [Act.put, List.setIfInBounds_toArray, List.set_cons_zero, List.set_cons_succ]
              refine walkS_take (i := 4) (oi := ⟨some 102, _, _, _, _, _⟩) (v := .pointer (some ⟨b, off + j * 4, none⟩)) rfl (by kernel_rfl) (by kernel_rfl) (fun _ _ _ h => h) _ _ _ _ (by kernel_rfl) (by kernel_rfl) (Or.inl ⟨by rfl, fun w' hS' => (by first | rfl | (clear hS hS'; go_simp))⟩) hS ?_
              try simp only [Act.put, List.setIfInBounds_toArray, List.set_cons_zero, List.set_cons_succ]
              refine walkS_take (i := 5) (oi := ⟨some 103, _, _, _, _, _⟩) (v := .pointer (some ⟨b, off + j * 4 + 1, none⟩)) rfl (by kernel_rfl) (by kernel_rfl) (fun _ _ _ h => h) _ _ _ _ (by kernel_rfl) (by kernel_rfl) (Or.inl ⟨by rfl, fun w' hS' => (by first | rfl | (clear hS hS'; go_simp))⟩) hS ?_
              try simp only [Act.put, List.setIfInBounds_toArray, List.set_cons_zero, List.set_cons_succ]
              refine walkS_take (i := 6) (oi := ⟨some 104, _, _, _, _, _⟩) (v := .string one) rfl (by kernel_rfl) (by kernel_rfl) (fun _ _ _ h => h) _ _ _ _ (by kernel_rfl) (by kernel_rfl) (Or.inl ⟨by rfl, fun w' hS' => (by have c := C1.out w' hS'; clear hS hS'; go_simp)⟩) hS ?_
              try simp only [Act.put, List.setIfInBounds_toArray, List.set_cons_zero, List.set_cons_succ]
              refine walkS_take (i := 7) (oi := ⟨some 105, _, _, _, _, _⟩) (v := .slice (some ⟨b, off, none⟩) l.length lc) rfl (by kernel_rfl) (by kernel_rfl) (fun _ _ _ h => h) _ _ _ _ (by kernel_rfl) (by kernel_rfl) (Or.inl ⟨by rfl, fun w' hS' => (by first | rfl | (clear hS hS'; go_simp))⟩) hS ?_
              try simp only [Act.put, List.setIfInBounds_toArray, List.set_cons_zero, List.set_cons_succ]
              refine walkS_take (i := 8) (oi := ⟨some 106, _, _, _, _, _⟩) (v := .int .i64 (j : Int)) rfl (by kernel_rfl) (by kernel_rfl) (fun _ _ _ h => h) _ _ _ _ (by kernel_rfl) (by kernel_rfl) (Or.inl ⟨by rfl, fun w' hS' => (by first | rfl | (clear hS hS'; go_simp))⟩) hS ?_
              try simp only [Act.put, List.setIfInBounds_toArray, List.set_cons_zero, List.set_cons_succ]
              refine walkS_take (i := 9) (oi := ⟨some 107, _, _, _, _, _⟩) (v := .pointer (some ⟨b, off + j * 4, none⟩)) rfl (by kernel_rfl) (by kernel_rfl) (fun _ _ _ h => h) _ _ _ _ (by kernel_rfl) (by kernel_rfl) (Or.inl ⟨by rfl, fun w' hS' => (by first | rfl | (clear hS hS'; go_simp))⟩) hS ?_
              try simp only [Act.put, List.setIfInBounds_toArray, List.set_cons_zero, List.set_cons_succ]
              refine walkS_take (i := 10) (oi := ⟨some 108, _, _, _, _, _⟩) (v := .pointer (some ⟨b, off + j * 4 + 2, none⟩)) rfl (by kernel_rfl) (by kernel_rfl) (fun _ _ _ h => h) _ _ _ _ (by kernel_rfl) (by kernel_rfl) (Or.inl ⟨by rfl, fun w' hS' => (by first | rfl | (clear hS hS'; go_simp))⟩) hS ?_
              try simp only [Act.put, List.setIfInBounds_toArray, List.set_cons_zero, List.set_cons_succ]
              refine walkS_take (i := 11) (oi := ⟨some 109, _, _, _, _, _⟩) (v := .string tw) rfl (by kernel_rfl) (by kernel_rfl) (fun _ _ _ h => h) _ _ _ _ (by kernel_rfl) (by kernel_rfl) (Or.inl ⟨by rfl, fun w' hS' => (by have c := C2.out w' hS'; clear hS hS'; go_simp)⟩) hS ?_
              try simp only [Act.put, List.setIfInBounds_toArray, List.set_cons_zero, List.set_cons_succ]
              clear hS
              refine walkS_only (i := 12) (o := ⟨some 110, _, _, _, _, _⟩) (by kernel_rfl) rfl rfl fun KK hKK => ?_
              refine wp_strs 2 _ rfl [one, tw] rfl (by omega) (by omega) (by with_unfolding_all rfl) ?_
              have G := Lib.hid (E.out.drew.new (NewRow.mk_ wr.drew 9 (labC [one, tw])))
              generalize wr.drew.alloc (.cells (labC [one, tw]) 9) = y0 at G ⊢
              generalize wr.drew.heap.size = gl0 at G ⊢
              refine hKK _ _ (.inr G.out.below) ?_
              clear hKK KK E
              try simp only [Act.put, List.setIfInBounds_toArray, List.set_cons_zero, List.set_cons_succ]
              refine walkS_only (i := 13) (o := ⟨some 111, _, _, _, _, _⟩) (by kernel_rfl) rfl rfl fun KK hKK => ?_
              go_simp
              refine (HNP.out _ _ 4 2 0 gm gs gl0 nm G.out rfl (by omega) rfl rfl).mono ?_
              intro e z0 h
              obtain ⟨v0, m0, bs0, ex0, hm0, he, hX, h⟩ := h
              subst he
              simp only [List.set_cons_zero, List.set_cons_succ, List.cons_append, List.nil_append] at h
              have X0 := Lib.hid hX
              have F1 := Lib.hid h
              clear h hX G
              have hS : Below w.heap.size w z0 := F1.out.below
              refine hKK _ _ (.inr hS) ?_
              clear hKK KK
              try simp only [Act.put, List.setIfInBounds_toArray, List.set_cons_zero, List.set_cons_succ]
              refine walkS_take (i := 14) (oi := ⟨some 97, _, _, _, _, _⟩) (v := .tuple #[v0, .int .i64 X]) rfl (by kernel_rfl) (by kernel_rfl) (fun _ _ _ h => h) _ _ _ _ (by kernel_rfl) (by kernel_rfl) (Or.inl ⟨by rfl, fun w' hS' => (by first | rfl | (clear hS hS'; go_simp))⟩) hS ?_
              try simp only [Act.put, List.setIfInBounds_toArray, List.set_cons_zero, List.set_cons_succ]
              refine walkS_take (i := 15) (oi := ⟨some 112, _, _, _, _, _⟩) (v := v0) rfl (by kernel_rfl) (by kernel_rfl) (fun _ _ _ h => h) _ _ _ _ (by kernel_rfl) (by kernel_rfl) (Or.inl ⟨by rfl, fun w' hS' => (by first | rfl | (clear hS hS'; go_simp))⟩) hS ?_
              try simp only [Act.put, List.setIfInBounds_toArray, List.set_cons_zero, List.set_cons_succ]
              refine walkS_take (i := 16) (oi := ⟨some 113, _, _, _, _, _⟩) (v := .int .i64 X) rfl (by kernel_rfl) (by kernel_rfl) (fun _ _ _ h => h) _ _ _ _ (by kernel_rfl) (by kernel_rfl) (Or.inl ⟨by rfl, fun w' hS' => (by first | rfl | (clear hS hS'; go_simp))⟩) hS ?_
              try simp only [Act.put, List.setIfInBounds_toArray, List.set_cons_zero, List.set_cons_succ]
              clear hS
              refine walkS_only (i := 17) (o := ⟨some 13, _, _, _, _, _⟩) (by kernel_rfl) rfl rfl fun KK hKK => ?_
              refine wp_assignE (.tmp 112) rfl ?_
              refine hKK _ _ (.inr F1.out.below) ?_
              clear hKK KK
              try simp only [Act.put, List.setIfInBounds_toArray, List.set_cons_zero, List.set_cons_succ]
              refine walkS_only (i := 18) (o := ⟨some 15, _, _, _, _, _⟩) (by kernel_rfl) rfl rfl fun KK hKK => ?_
              refine wp_assignE (.tmp 113) rfl ?_
              refine hKK _ _ (.inr F1.out.below) (walkS_done (by kernel_rfl) ?_ _)
              clear hKK KK
              try simp only [Act.put, List.setIfInBounds_toArray, List.set_cons_zero, List.set_cons_succ]
              generalize z0 = x1 at F1 ⊢
              go_wp2_with fail
              refine plain_region (S := fun x => Below w.heap.size w x) (fin := fun _ => false) (by kernel_rfl) ?_
              have hS : Below w.heap.size w x1.drew := F1.out.drew.below
              change walkS _ _ _ _ _ _ 19 _ _ _
              refine walkS_take (i := 0) (oi := ⟨some 115, _, _, _, _, _⟩) (v := .pointer (some ⟨gr, 0, none⟩)) rfl (by kernel_rfl) (by kernel_rfl) (fun _ _ _ h => h) _ _ _ _ (by kernel_rfl) (by kernel_rfl) (Or.inl ⟨by rfl, fun w' hS' => (by first | rfl | (clear hS hS'; go_simp))⟩) hS ?_
              try simp only [Act.put, List.setIfInBounds_toArray, List.set_cons_zero, List.set_cons_succ]
              refine walkS_take (i := 1) (oi := ⟨some 116, _, _, _, _, _⟩) (v := .pointer (some ⟨gq, 0, none⟩)) rfl (by kernel_rfl) (by kernel_rfl) (fun _ _ _ h => h) _ _ _ _ (by kernel_rfl) (by kernel_rfl) (Or.inl ⟨by rfl, fun w' hS' => (by first | rfl | (clear hS hS'; go_simp))⟩) hS ?_
              try simp only [Act.put, List.setIfInBounds_toArray, List.set_cons_zero, List.set_cons_succ]
              refine walkS_take (i := 2) (oi := ⟨some 117, _, _, _, _, _⟩) (v := .slice (some ⟨b, off, none⟩) l.length lc) rfl (by kernel_rfl) (by kernel_rfl) (fun _ _ _ h => h) _ _ _ _ (by kernel_rfl) (by kernel_rfl) (Or.inl ⟨by rfl, fun w' hS' => (by first | rfl | (clear hS hS'; go_simp))⟩) hS ?_
              try simp only [Act.put, List.setIfInBounds_toArray, List.set_cons_zero, List.set_cons_succ]
              refine walkS_take (i := 3) (oi := ⟨some 118, _, _, _, _, _⟩) (v := .int .i64 (j : Int)) rfl (by kernel_rfl) (by kernel_rfl) (fun _ _ _ h => h) _ _ _ _ (by kernel_rfl) (by kernel_rfl) (Or.inl ⟨by rfl, fun w' hS' => (by first | rfl | (clear hS hS'; go_simp))⟩) hS ?_
              try simp only [Act.put, List.setIfInBounds_toArray, List.set_cons_zero, List.set_cons_succ]
              refine walkS_take (i := 4) (oi := ⟨some 119, _, _, _, _, _⟩) (v := .pointer (some ⟨b, off + j * 4, none⟩)) rfl (by kernel_rfl) (by kernel_rfl) (fun _ _ _ h => h) _ _ _ _ (by kernel_rfl) (by kernel_rfl) (Or.inl ⟨by rfl, fun w' hS' => (by first | rfl | (clear hS hS'; go_simp))⟩) hS ?_
              try simp only [Act.put, List.setIfInBounds_toArray, List.set_cons_zero, List.set_cons_succ]
              refine walkS_take (i := 5) (oi := ⟨some 120, _, _, _, _, _⟩) (v := .pointer (some ⟨b, off + j * 4 + 1, none⟩)) rfl (by kernel_rfl) (by kernel_rfl) (fun _ _ _ h => h) _ _ _ _ (by kernel_rfl) (by kernel_rfl) (Or.inl ⟨by rfl, fun w' hS' => (by first | rfl | (clear hS hS'; go_simp))⟩) hS ?_
              try simp only [Act.put, List.setIfInBounds_toArray, List.set_cons_zero, List.set_cons_succ]
              refine walkS_take (i := 6) (oi := ⟨some 121, _, _, _, _, _⟩) (v := .string one) rfl (by kernel_rfl) (by kernel_rfl) (fun _ _ _ h => h) _ _ _ _ (by kernel_rfl) (by kernel_rfl) (Or.inl ⟨by rfl, fun w' hS' => (by have c := C1.out w' hS'; clear hS hS'; go_simp)⟩) hS ?_
              try simp only [Act.put, List.setIfInBounds_toArray, List.set_cons_zero, List.set_cons_succ]
              refine walkS_take (i := 7) (oi := ⟨some 122, _, _, _, _, _⟩) (v := .slice (some ⟨b, off, none⟩) l.length lc) rfl (by kernel_rfl) (by kernel_rfl) (fun _ _ _ h => h) _ _ _ _ (by kernel_rfl) (by kernel_rfl) (Or.inl ⟨by rfl, fun w' hS' => (by first | rfl | (clear hS hS'; go_simp))⟩) hS ?_
              try simp only [Act.put, List.setIfInBounds_toArray, List.set_cons_zero, List.set_cons_succ]
              refine walkS_take (i := 8) (oi := ⟨some 123, _, _, _, _, _⟩) (v := .int .i64 (j : Int)) rfl (by kernel_rfl) (by kernel_rfl) (fun _ _ _ h => h) _ _ _ _ (by kernel_rfl) (by kernel_rfl) (Or.inl ⟨by rfl, fun w' hS' => (by first | rfl | (clear hS hS'; go_simp))⟩) hS ?_
              try simp only [Act.put, List.setIfInBounds_toArray, List.set_cons_zero, List.set_cons_succ]
              refine walkS_take (i := 9) (oi := ⟨some 124, _, _, _, _, _⟩) (v := .pointer (some ⟨b, off + j * 4, none⟩)) rfl (by kernel_rfl) (by kernel_rfl) (fun _ _ _ h => h) _ _ _ _ (by kernel_rfl) (by kernel_rfl) (Or.inl ⟨by rfl, fun w' hS' => (by first | rfl | (clear hS hS'; go_simp))⟩) hS ?_
              try simp only [Act.put, List.setIfInBounds_toArray, List.set_cons_zero, List.set_cons_succ]
              refine walkS_take (i := 10) (oi := ⟨some 125, _, _, _, _, _⟩) (v := .pointer (some ⟨b, off + j * 4 + 2, none⟩)) rfl (by kernel_rfl) (by kernel_rfl) (fun _ _ _ h => h) _ _ _ _ (by kernel_rfl) (by kernel_rfl) (Or.inl ⟨by rfl, fun w' hS' => (by first | rfl | (clear hS hS'; go_simp))⟩) hS ?_
              try simp only [Act.put, List.setIfInBounds_toArray, List.set_cons_zero, List.set_cons_succ]
              refine walkS_take (i := 11) (oi := ⟨some 126, _, _, _, _, _⟩) (v := .string tw) rfl (by kernel_rfl) (by kernel_rfl) (fun _ _ _ h => h) _ _ _ _ (by kernel_rfl) (by kernel_rfl) (Or.inl ⟨by rfl, fun w' hS' => (by have c := C2.out w' hS'; clear hS hS'; go_simp)⟩) hS ?_
              try simp only [Act.put, List.setIfInBounds_toArray, List.set_cons_zero, List.set_cons_succ]
              clear hS
              refine walkS_only (i := 12) (o := ⟨some 127, _, _, _, _, _⟩) (by kernel_rfl) rfl rfl fun KK hKK => ?_
              refine wp_strs 2 _ rfl [one, tw] rfl (by omega) (by omega) (by with_unfolding_all rfl) ?_
              have G := Lib.hid (F1.out.drew.new (NewRow.mk_ x1.drew 9 (labC [one, tw])))
              generalize x1.drew.alloc (.cells (labC [one, tw]) 9) = y1 at G ⊢
              generalize x1.drew.heap.size = gl1 at G ⊢
              refine hKK _ _ (.inr G.out.below) ?_
              clear hKK KK F1
              try simp only [Act.put, List.setIfInBounds_toArray, List.set_cons_zero, List.set_cons_succ]
              refine walkS_only (i := 13) (o := ⟨some 128, _, _, _, _, _⟩) (by kernel_rfl) rfl rfl fun KK hKK => ?_
              go_simp
              refine (HNR.out _ _ 4 2 0 gq gr gl1 nq G.out rfl (by omega) rfl rfl).mono ?_
              intro e z1 h
              obtain ⟨v1, m1, bs1, ex1, hm1, he, hX, h⟩ := h
              subst he
              simp only [List.set_cons_zero, List.set_cons_succ, List.cons_append] at h
              have X1 := Lib.hid hX
              have F2 := Lib.hid h
              clear h hX G
              have hS : Below w.heap.size w z1 := F2.out.below
              refine hKK _ _ (.inr hS) ?_
              clear hKK KK
              try simp only [Act.put, List.setIfInBounds_toArray, List.set_cons_zero, List.set_cons_succ]
              refine walkS_take (i := 14) (oi := ⟨some 114, _, _, _, _, _⟩) (v := .tuple #[v1, .int .i64 X]) rfl (by kernel_rfl) (by kernel_rfl) (fun _ _ _ h => h) _ _ _ _ (by kernel_rfl) (by kernel_rfl) (Or.inl ⟨by rfl, fun w' hS' => (by first | rfl | (clear hS hS'; go_simp))⟩) hS ?_
              try simp only [Act.put, List.setIfInBounds_toArray, List.set_cons_zero, List.set_cons_succ]
              refine walkS_take (i := 15) (oi := ⟨some 129, _, _, _, _, _⟩) (v := v1) rfl (by kernel_rfl) (by kernel_rfl) (fun _ _ _ h => h) _ _ _ _ (by kernel_rfl) (by kernel_rfl) (Or.inl ⟨by rfl, fun w' hS' => (by first | rfl | (clear hS hS'; go_simp))⟩) hS ?_
              try simp only [Act.put, List.setIfInBounds_toArray, List.set_cons_zero, List.set_cons_succ]
              refine walkS_take (i := 16) (oi := ⟨some 130, _, _, _, _, _⟩) (v := .int .i64 X) rfl (by kernel_rfl) (by kernel_rfl) (fun _ _ _ h => h) _ _ _ _ (by kernel_rfl) (by kernel_rfl) (Or.inl ⟨by rfl, fun w' hS' => (by first | rfl | (clear hS hS'; go_simp))⟩) hS ?_
              try simp only [Act.put, List.setIfInBounds_toArray, List.set_cons_zero, List.set_cons_succ]
              clear hS
              refine walkS_only (i := 17) (o := ⟨some 14, _, _, _, _, _⟩) (by kernel_rfl) rfl rfl fun KK hKK => ?_
              refine wp_assignE (.tmp 129) rfl ?_
              refine hKK _ _ (.inr F2.out.below) ?_
              clear hKK KK
              try simp only [Act.put, List.setIfInBounds_toArray, List.set_cons_zero, List.set_cons_succ]
              refine walkS_only (i := 18) (o := ⟨some 16, _, _, _, _, _⟩) (by kernel_rfl) rfl rfl fun KK hKK => ?_
              refine wp_assignE (.tmp 130) rfl ?_
              refine hKK _ _ (.inr F2.out.below) (walkS_done (by kernel_rfl) ?_ _)
              clear hKK KK
              try simp only [Act.put, List.setIfInBounds_toArray, List.set_cons_zero, List.set_cons_succ]
              go_wp2_with fail
              go_meet
              case rel =>
                have KA : Kl z1 v0 L := Kl.ex (w0 := w) (base := bs0) (rs := (gl1, 9, labC [one, tw]) :: (gl0, 9, labC [one, tw]) :: (gr, 37, srcC s k1) :: (gs, 35, srcC s k1) :: (gq, 32, logC m1) :: (gm, 65, mC m0) :: (g3, 23, keyC s) :: []) (ex := ex0) X0.out LL.out (F2.out.less (List.Sublist.append_left (List.sublist_append_left ex0 ex1) ((gl1, 9, labC [one, tw]) :: (gl0, 9, labC [one, tw]) :: (gr, 37, srcC s k1) :: (gs, 35, srcC s k1) :: (gq, 32, logC m1) :: (gm, 65, mC m0) :: (g3, 23, keyC s) :: [])))
                have KB : Kl z1 v1 L := Kl.ex (w0 := w) (base := bs1) (rs := ((gl1, 9, labC [one, tw]) :: (gl0, 9, labC [one, tw]) :: (gr, 37, srcC s k1) :: (gs, 35, srcC s k1) :: (gq, 32, logC m1) :: (gm, 65, mC m0) :: (g3, 23, keyC s) :: []) ++ ex0) (ex := ex1) X1.out LL.out F2.out
                exact ⟨X, L, k1, m0, m1, rfl, rfl, hk1, by omega, by omega, by omega, KA, KB, F2.out.less (.cons _ (.cons _ (List.sublist_append_left ((gr, 37, srcC s k1) :: (gs, 35, srcC s k1) :: (gq, 32, logC m1) :: (gm, 65, mC m0) :: (g3, 23, keyC s) :: []) (ex0 ++ ex1))))⟩
          · have e2' : decide (do_ = 2) = false := decide_eq_false e2
            have e2'' : (do_ == 2) = false := by simpa using e2
            by_cases e3 : do_ = 3
            · as_aux_lemma =>
                subst e3
                obtain ⟨X, k1, hk1, NP, NR⟩ := jump_both w s LS.out k hk nn hnn
                have HNP := Lib.hid NP
                have HNR := Lib.hid NR
                clear NP NR
                go_wp2_with fail
                refine (HNP.out _ _ 1 gs E.out rfl).mono ?_
                intro e x1 h
                obtain ⟨he, h⟩ := h
                subst he
                simp only [List.set_cons_zero, List.set_cons_succ] at h
                have F1 := Lib.hid h
                clear h E HNP c1 c2 c3 c0
                have c3 := C3.out x1 F1.out.below
                go_wp2_with fail
                refine (HNR.out _ _ 0 gr F1.out rfl).mono ?_
                intro e x2 h
                obtain ⟨he, h⟩ := h
                subst he
                simp only [List.set_cons_zero] at h
                have F2 := Lib.hid h
                clear h F1 HNR c3
                go_wp2_with fail
                go_meet
                case rel => exact ⟨X, [], k1, nm, nq, rfl, rfl, hk1, by omega, by omega, by simp, Kl.nil _, Kl.nil _, F2.out⟩
            · have e3' : decide (do_ = 3) = false := decide_eq_false e3
              have e3'' : (do_ == 3) = false := by simpa using e3
              as_aux_lemma =>
                go_wp2_with fail
                go_meet
                case rel => exact ⟨0, [], k, nm, nq, rfl, rfl, hk, by omega, by omega, by simp, Kl.nil _, Kl.nil _, E.out⟩
      case rest =>
        as_aux_lemma =>
          obtain ⟨X, L, k', nm', nq', hx, hy, hk', hnm', hnq', hLL, hKA, hKB, hE⟩ := hcut.out
          subst hx hy
          obtain ⟨wx, hwx⟩ := world_of hE
          subst hwx
          have KA := Lib.hid hKA
          have KB := Lib.hid hKB
          have F := Lib.hid hE
          obtain ⟨aA, ac, rfl, _⟩ := hKA
          obtain ⟨bA, bc, rfl, _⟩ := hKB
          clear hcut hE E c0 c1 c2 c3
          go_wp2_with fail
          refine plain_region (S := fun x => Env w ((gr, 37, srcC s k') :: (gs, 35, srcC s k') :: (gq, 32, logC nq') :: (gm, 65, mC nm') :: (g3, 23, keyC s) :: []) x) (fin := fun _ => false) (by kernel_rfl) ?_
          have hS : Env w ((gr, 37, srcC s k') :: (gs, 35, srcC s k') :: (gq, 32, logC nq') :: (gm, 65, mC nm') :: (g3, 23, keyC s) :: []) wx.drew := F.out.drew
          change walkS _ _ _ _ _ _ 31 _ _ _
          refine walkS_take (i := 0) (oi := ⟨some 147, _, _, _, _, _⟩) (v := .int .i64 X) rfl (by kernel_rfl) (by kernel_rfl) (fun _ _ _ h => h) _ _ _ _ (by kernel_rfl) (by kernel_rfl) (Or.inl ⟨by rfl, fun w' hS' => (by first | rfl | (clear hS hS'; go_simp))⟩) hS ?_
          try simp only [Act.put, List.setIfInBounds_toArray, List.set_cons_zero, List.set_cons_succ]
          refine walkS_take (i := 1) (oi := ⟨some 148, _, _, _, _, _⟩) (v := .int .i64 X) rfl (by kernel_rfl) (by kernel_rfl) (fun _ _ _ h => h) _ _ _ _ (by kernel_rfl) (by kernel_rfl) (Or.inl ⟨by rfl, fun w' hS' => (by first | rfl | (clear hS hS'; go_simp))⟩) hS ?_
          try simp only [Act.put, List.setIfInBounds_toArray, List.set_cons_zero, List.set_cons_succ]
          refine walkS_take (i := 2) (oi := ⟨some 149, _, _, _, _, _⟩) (v := .bool false) rfl (by kernel_rfl) (by kernel_rfl) (fun _ _ _ h => h) _ _ _ _ (by kernel_rfl) (by kernel_rfl) (Or.inl ⟨by rfl, fun w' hS' => (by first | rfl | (clear hS hS'; go_simp))⟩) hS ?_
          try simp only [Act.put, List.setIfInBounds_toArray, List.set_cons_zero, List.set_cons_succ]
          refine walkS_take (i := 3) (oi := ⟨some 150, _, _, _, _, _⟩) (v := .bool false) rfl (by kernel_rfl) (by kernel_rfl) (fun _ _ _ h => h) _ _ _ _ (by kernel_rfl) (by kernel_rfl) (Or.inl ⟨by rfl, fun w' hS' => (by first | rfl | (clear hS hS'; go_simp))⟩) hS ?_
          try simp only [Act.put, List.setIfInBounds_toArray, List.set_cons_zero, List.set_cons_succ]
          refine walkS_take (i := 4) (oi := ⟨some 151, _, _, _, _, _⟩) (v := .slice aA L.length ac) rfl (by kernel_rfl) (by kernel_rfl) (fun _ _ _ h => h) _ _ _ _ (by kernel_rfl) (by kernel_rfl) (Or.inl ⟨by rfl, fun w' hS' => (by first | rfl | (clear hS hS'; go_simp))⟩) hS ?_
          try simp only [Act.put, List.setIfInBounds_toArray, List.set_cons_zero, List.set_cons_succ]
          refine walkS_take (i := 5) (oi := ⟨some 152, _, _, _, _, _⟩) (v := .slice bA L.length bc) rfl (by kernel_rfl) (by kernel_rfl) (fun _ _ _ h => h) _ _ _ _ (by kernel_rfl) (by kernel_rfl) (Or.inl ⟨by rfl, fun w' hS' => (by first | rfl | (clear hS hS'; go_simp))⟩) hS ?_
          try simp only [Act.put, List.setIfInBounds_toArray, List.set_cons_zero, List.set_cons_succ]
          refine walkS_onlyH (i := 6) (o := ⟨some 153, _, _, _, _, _⟩) (by kernel_rfl) rfl (by rfl) fun KK hKK => ?_
          have hkeys := refKeys_eq wx.drew _ _ L L (show Kl wx.drew _ L from KA.out) (show Kl wx.drew _ L from KB.out) (by omega)
          rw [beq_self_eq_true] at hkeys
          have HK := Lib.hid hkeys
          have S0 := Lib.hid hS
          clear hkeys hS
          go_simp
          refine HK.out.mono ?_
          intro e z1 h
          obtain ⟨he, bz⟩ := h
          subst he
          have hS : Env w ((gr, 37, srcC s k') :: (gs, 35, srcC s k') :: (gq, 32, logC nq') :: (gm, 65, mC nm') :: (g3, 23, keyC s) :: []) z1 := S0.out.call bz
          refine hKK _ _ (.inr hS) ?_
          clear hKK KK S0 HK bz
          try simp only [Act.put, List.setIfInBounds_toArray, List.set_cons_zero, List.set_cons_succ]
          refine walkS_take (i := 7) (oi := ⟨some 154, _, _, _, _, _⟩) (v := .bool false) rfl (by kernel_rfl) (by kernel_rfl) (fun _ _ _ h => h) _ _ _ _ (by kernel_rfl) (by kernel_rfl) (Or.inl ⟨by rfl, fun w' hS' => (by first | rfl | (clear hS hS'; go_simp))⟩) hS ?_
          try simp only [Act.put, List.setIfInBounds_toArray, List.set_cons_zero, List.set_cons_succ]
          refine walkS_take (i := 8) (oi := ⟨some 155, _, _, _, _, _⟩) (v := .bool false) rfl (by kernel_rfl) (by kernel_rfl) (fun _ _ _ h => h) _ _ _ _ (by kernel_rfl) (by kernel_rfl) (Or.inl ⟨by rfl, fun w' hS' => (by first | rfl | (clear hS hS'; go_simp))⟩) hS ?_
          try simp only [Act.put, List.setIfInBounds_toArray, List.set_cons_zero, List.set_cons_succ]
          refine walkS_take (i := 9) (oi := ⟨some 156, _, _, _, _, _⟩) (v := .bool false) rfl (by kernel_rfl) (by kernel_rfl) (fun _ _ _ h => h) _ _ _ _ (by kernel_rfl) (by kernel_rfl) (Or.inl ⟨by rfl, fun w' hS' => (by first | rfl | (clear hS hS'; go_simp))⟩) hS ?_
          try simp only [Act.put, List.setIfInBounds_toArray, List.set_cons_zero, List.set_cons_succ]
          refine walkS_take (i := 10) (oi := ⟨some 157, _, _, _, _, _⟩) (v := .pointer (some ⟨gs, 0, none⟩)) rfl (by kernel_rfl) (by kernel_rfl) (fun _ _ _ h => h) _ _ _ _ (by kernel_rfl) (by kernel_rfl) (Or.inl ⟨by rfl, fun w' hS' => (by first | rfl | (clear hS hS'; go_simp))⟩) hS ?_
          try simp only [Act.put, List.setIfInBounds_toArray, List.set_cons_zero, List.set_cons_succ]
          refine walkS_take (i := 11) (oi := ⟨some 158, _, _, _, _, _⟩) (v := .pointer (some ⟨gs, 0, none⟩)) rfl (by kernel_rfl) (by kernel_rfl) (fun _ _ _ h => h) _ _ _ _ (by kernel_rfl) (by kernel_rfl) (Or.inl ⟨by rfl, fun w' hS' => (by first | rfl | (clear hS hS'; go_simp))⟩) hS ?_
          try simp only [Act.put, List.setIfInBounds_toArray, List.set_cons_zero, List.set_cons_succ]
          refine walkS_take (i := 12) (oi := ⟨some 159, _, _, _, _, _⟩) (v := .pointer (some ⟨gs, 32, none⟩)) rfl (by kernel_rfl) (by kernel_rfl) (fun _ _ _ h => h) _ _ _ _ (by kernel_rfl) (by kernel_rfl) (Or.inl ⟨by rfl, fun w' hS' => (by first | rfl | (clear hS hS'; go_simp))⟩) hS ?_
          try simp only [Act.put, List.setIfInBounds_toArray, List.set_cons_zero, List.set_cons_succ]
          refine walkS_take (i := 13) (oi := ⟨some 160, _, _, _, _, _⟩) (v := .int .u64 (k' : Int)) rfl (by kernel_rfl) (by kernel_rfl) (fun _ _ _ h => h) _ _ _ _ (by kernel_rfl) (by kernel_rfl) (Or.inl ⟨by rfl, fun w' hS' => (by have c := hS'.cellV 1 rfl 32 _ (srcC_32 s k' LS.out); clear hS hS'; go_simp)⟩) hS ?_
          try simp only [Act.put, List.setIfInBounds_toArray, List.set_cons_zero, List.set_cons_succ]
          refine walkS_take (i := 14) (oi := ⟨some 161, _, _, _, _, _⟩) (v := .pointer (some ⟨gr, 0, none⟩)) rfl (by kernel_rfl) (by kernel_rfl) (fun _ _ _ h => h) _ _ _ _ (by kernel_rfl) (by kernel_rfl) (Or.inl ⟨by rfl, fun w' hS' => (by first | rfl | (clear hS hS'; go_simp))⟩) hS ?_
          try simp only [Act.put, List.setIfInBounds_toArray, List.set_cons_zero, List.set_cons_succ]
          refine walkS_take (i := 15) (oi := ⟨some 162, _, _, _, _, _⟩) (v := .pointer (some ⟨gr, 0, none⟩)) rfl (by kernel_rfl) (by kernel_rfl) (fun _ _ _ h => h) _ _ _ _ (by kernel_rfl) (by kernel_rfl) (Or.inl ⟨by rfl, fun w' hS' => (by first | rfl | (clear hS hS'; go_simp))⟩) hS ?_
          try simp only [Act.put, List.setIfInBounds_toArray, List.set_cons_zero, List.set_cons_succ]
          refine walkS_take (i := 16) (oi := ⟨some 163, _, _, _, _, _⟩) (v := .pointer (some ⟨gr, 32, none⟩)) rfl (by kernel_rfl) (by kernel_rfl) (fun _ _ _ h => h) _ _ _ _ (by kernel_rfl) (by kernel_rfl) (Or.inl ⟨by rfl, fun w' hS' => (by first | rfl | (clear hS hS'; go_simp))⟩) hS ?_
          try simp only [Act.put, List.setIfInBounds_toArray, List.set_cons_zero, List.set_cons_succ]
          refine walkS_take (i := 17) (oi := ⟨some 164, _, _, _, _, _⟩) (v := .int .u64 (k' : Int)) rfl (by kernel_rfl) (by kernel_rfl) (fun _ _ _ h => h) _ _ _ _ (by kernel_rfl) (by kernel_rfl) (Or.inl ⟨by rfl, fun w' hS' => (by have c := hS'.cellV 0 rfl 32 _ (srcC_32 s k' LS.out); clear hS hS'; go_simp)⟩) hS ?_
          try simp only [Act.put, List.setIfInBounds_toArray, List.set_cons_zero, List.set_cons_succ]
          refine walkS_take (i := 18) (oi := ⟨some 165, _, _, _, _, _⟩) (v := .bool false) rfl (by kernel_rfl) (by kernel_rfl) (fun _ _ _ h => h) _ _ _ _ (by kernel_rfl) (by kernel_rfl) (Or.inl ⟨by rfl, fun w' hS' => (by first | rfl | (clear hS hS'; go_simp))⟩) hS ?_
          try simp only [Act.put, List.setIfInBounds_toArray, List.set_cons_zero, List.set_cons_succ]
          refine walkS_take (i := 19) (oi := ⟨some 166, _, _, _, _, _⟩) (v := .bool false) rfl (by kernel_rfl) (by kernel_rfl) (fun _ _ _ h => h) _ _ _ _ (by kernel_rfl) (by kernel_rfl) (Or.inl ⟨by rfl, fun w' hS' => (by first | rfl | (clear hS hS'; go_simp))⟩) hS ?_
          try simp only [Act.put, List.setIfInBounds_toArray, List.set_cons_zero, List.set_cons_succ]
          refine walkS_take (i := 20) (oi := ⟨some 167, _, _, _, _, _⟩) (v := .bool false) rfl (by kernel_rfl) (by kernel_rfl) (fun _ _ _ h => h) _ _ _ _ (by kernel_rfl) (by kernel_rfl) (Or.inl ⟨by rfl, fun w' hS' => (by first | rfl | (clear hS hS'; go_simp))⟩) hS ?_
          try simp only [Act.put, List.setIfInBounds_toArray, List.set_cons_zero, List.set_cons_succ]
          refine walkS_take (i := 21) (oi := ⟨some 168, _, _, _, _, _⟩) (v := .pointer (some ⟨gs, 0, none⟩)) rfl (by kernel_rfl) (by kernel_rfl) (fun _ _ _ h => h) _ _ _ _ (by kernel_rfl) (by kernel_rfl) (Or.inl ⟨by rfl, fun w' hS' => (by first | rfl | (clear hS hS'; go_simp))⟩) hS ?_
          try simp only [Act.put, List.setIfInBounds_toArray, List.set_cons_zero, List.set_cons_succ]
          refine walkS_take (i := 22) (oi := ⟨some 169, _, _, _, _, _⟩) (v := .pointer (some ⟨gs, 0, none⟩)) rfl (by kernel_rfl) (by kernel_rfl) (fun _ _ _ h => h) _ _ _ _ (by kernel_rfl) (by kernel_rfl) (Or.inl ⟨by rfl, fun w' hS' => (by first | rfl | (clear hS hS'; go_simp))⟩) hS ?_
          try simp only [Act.put, List.setIfInBounds_toArray, List.set_cons_zero, List.set_cons_succ]
          refine walkS_take (i := 23) (oi := ⟨some 170, _, _, _, _, _⟩) (v := .pointer (some ⟨gs, 0, none⟩)) rfl (by kernel_rfl) (by kernel_rfl) (fun _ _ _ h => h) _ _ _ _ (by kernel_rfl) (by kernel_rfl) (Or.inl ⟨by rfl, fun w' hS' => (by first | rfl | (clear hS hS'; go_simp))⟩) hS ?_
          try simp only [Act.put, List.setIfInBounds_toArray, List.set_cons_zero, List.set_cons_succ]
          refine walkS_take (i := 24) (oi := ⟨some 171, _, _, _, _, _⟩) (v := .agg (keyC s)) rfl (by kernel_rfl) (by kernel_rfl) (fun _ _ _ h => h) _ _ _ _ (by kernel_rfl) (by kernel_rfl) (Or.inl ⟨by rfl, fun w' hS' => (run_partK 23 (.tmp 170) rfl gs 0 rfl 35 _ s _ (hS'.row 1 rfl) (srcC_seed s k') Tryd.underlying23 rfl (Tryd.sizeKeyM s LS.out))⟩) hS ?_
          try simp only [Act.put, List.setIfInBounds_toArray, List.set_cons_zero, List.set_cons_succ]
          refine walkS_take (i := 25) (oi := ⟨some 172, _, _, _, _, _⟩) (v := .pointer (some ⟨gr, 0, none⟩)) rfl (by kernel_rfl) (by kernel_rfl) (fun _ _ _ h => h) _ _ _ _ (by kernel_rfl) (by kernel_rfl) (Or.inl ⟨by rfl, fun w' hS' => (by first | rfl | (clear hS hS'; go_simp))⟩) hS ?_
          try simp only [Act.put, List.setIfInBounds_toArray, List.set_cons_zero, List.set_cons_succ]
          refine walkS_take (i := 26) (oi := ⟨some 173, _, _, _, _, _⟩) (v := .pointer (some ⟨gr, 0, none⟩)) rfl (by kernel_rfl) (by kernel_rfl) (fun _ _ _ h => h) _ _ _ _ (by kernel_rfl) (by kernel_rfl) (Or.inl ⟨by rfl, fun w' hS' => (by first | rfl | (clear hS hS'; go_simp))⟩) hS ?_
          try simp only [Act.put, List.setIfInBounds_toArray, List.set_cons_zero, List.set_cons_succ]
          refine walkS_take (i := 27) (oi := ⟨some 174, _, _, _, _, _⟩) (v := .pointer (some ⟨gr, 0, none⟩)) rfl (by kernel_rfl) (by kernel_rfl) (fun _ _ _ h => h) _ _ _ _ (by kernel_rfl) (by kernel_rfl) (Or.inl ⟨by rfl, fun w' hS' => (by first | rfl | (clear hS hS'; go_simp))⟩) hS ?_
          try simp only [Act.put, List.setIfInBounds_toArray, List.set_cons_zero, List.set_cons_succ]
          refine walkS_take (i := 28) (oi := ⟨some 175, _, _, _, _, _⟩) (v := .agg (keyC s)) rfl (by kernel_rfl) (by kernel_rfl) (fun _ _ _ h => h) _ _ _ _ (by kernel_rfl) (by kernel_rfl) (Or.inl ⟨by rfl, fun w' hS' => (run_partK 23 (.tmp 174) rfl gr 0 rfl 37 _ s _ (hS'.row 0 rfl) (srcC_seed s k') Tryd.underlying23 rfl (Tryd.sizeKeyM s LS.out))⟩) hS ?_
          try simp only [Act.put, List.setIfInBounds_toArray, List.set_cons_zero, List.set_cons_succ]
          refine walkS_take (i := 29) (oi := ⟨some 176, _, _, _, _, _⟩) (v := .bool false) rfl (by kernel_rfl) (by kernel_rfl) (fun _ _ _ h => h) _ _ _ _ (by kernel_rfl) (by kernel_rfl) (Or.inl ⟨by rfl, fun w' hS' => (by have he := HEQ.out; have hgd := Tryd.eqGuardKey; clear hS hS'; go_simp)⟩) hS ?_
          try simp only [Act.put, List.setIfInBounds_toArray, List.set_cons_zero, List.set_cons_succ]
          refine walkS_take (i := 30) (oi := ⟨some 177, _, _, _, _, _⟩) (v := .bool false) rfl (by kernel_rfl) (by kernel_rfl) (fun _ _ _ h => h) _ _ _ _ (by kernel_rfl) (by kernel_rfl) (Or.inl ⟨by rfl, fun w' hS' => (by first | rfl | (clear hS hS'; go_simp))⟩) hS ?_
          try simp only [Act.put, List.setIfInBounds_toArray, List.set_cons_zero, List.set_cons_succ]
          have FE := Lib.hid hS
          clear hS
          refine walkS_done (by kernel_rfl) ?_ _
          go_wp2_with fail
          refine ⟨⟨j + 1, by omega, by congr 1, k', nm', nq', hk', by omega, by omega, FE⟩, ?_⟩
          show l.length - ((j : Int) + 1).toNat < l.length - (j : Int).toNat
          omega
    · have hjl : j = l.length := by omega
      have hjd : decide ((j : Int) < (l.length : Int)) = false := by simp; omega
      have hjl2 : ¬ (j : Int) < (l.length : Int) := by omega
      go_wp2_with fail
      go_ret
      exact E.out.ret _
end Go.Proofs.YtjlhmcnajgafgaaDoor
end
section
namespace Go.Proofs.YtjlhmcnajgafgaaDoor.drawsPlays
open Go.ChangeShapes Go.WideShapes Go.ChangeAt Go.RowKit
open Go.ChangeMaps (open_string shut_string)
set_option linter.unusedVariables false

theorem own : ownKnob Tryd.prog.godebug = none := by kernel_rfl
theorem laidOut : laidOutB Tryd.prog = true := by kernel_rfl

theorem laid_met (os : Os) : laidMet Tryd.prog Rows.drawsPlaysRow.laid ((laidWorld os).forCall (fun _ _ => 0) ⟨#[], #[.agg (List.replicate 32 (Value.int .u8 0)).toArray, .int .u64 0, .slice none 0 0], []⟩).memory :=
  laidMet_of_run' 8 (by kernel_rfl) (by kernel_rfl)
theorem reads (os : Os) {H : Type} (enc : TypeId × Value → H) : ∃ places, DataW.whole enc Tryd.prog ((laidWorld os).forCall (fun _ _ => 0) ⟨#[], #[.agg (List.replicate 32 (Value.int .u8 0)).toArray, .int .u64 0, .slice none 0 0], []⟩).memory Tryd.f3.params.toList Rows.drawsPlaysSpec.vars false #[.agg (List.replicate 32 (Value.int .u8 0)).toArray, .int .u64 0, .slice none 0 0].toList 8 = some ([.agg (List.replicate 32 (.lit (.int .u8 0))), .lit (.int .u64 0), .nil], [], places) :=
  ⟨[], by kernel_rfl⟩

set_option maxRecDepth 100000 in
theorem contract (H : Type) (enc : TypeId × Value → H) (W : World) (base : Nat) (args : Array Value) (ds gs : List (DataW H)) (before : List MemPlace)
    (hval0 : ∀ (j : Nat) t v, Tryd.f3.params[j]? = some t → args[j]? = some v → Value.okWide Tryd.prog W .any base t v)
    (hW : DataW.Whole enc Tryd.prog Tryd.f3.params.toList Rows.drawsPlaysSpec.vars false W args.toList ds gs before) (hL : laidMetH Tryd.prog Rows.drawsPlaysRow.laid W) :
    Calls Tryd.prog 3 args W fun e W' => ∃ v, e = .returned v ∧ Rows.drawsPlaysSpec.post enc Tryd.prog Tryd.f3 false true false false W args v W' := by
  have hq := tables hL
  have hval : ∀ (j : Nat) t v, Tryd.f3.params[j]? = some t → args[j]? = some v → Value.okWide Tryd.prog W .any base t v := hval0
  have hW' := hW
  obtain ⟨p, q, hA0, hV, rfl, hfz, hnd⟩ := hW
  have hA : DataW.TrodAll enc Tryd.prog W 0 (fun _ => true) true Tryd.f3.params.toList args.toList ds p := hA0
  rw [Tryd.params3] at hA hval
  obtain ⟨v0, vs0, d0, ds0, p0, q0, hargs, rfl, rfl, h0, r0⟩ := trodAll_cons hA
  obtain ⟨v1, vs1, d1, ds1, p1, q1, rfl, rfl, rfl, h1, r1⟩ := trodAll_cons r0
  obtain ⟨v2, vs2, d2, ds2, p2, q2, rfl, rfl, rfl, h2, r2⟩ := trodAll_cons r1
  obtain ⟨rfl, rfl, rfl⟩ := trodAll_nil r2
  obtain rfl : args = #[v0, v1, v2] := by cases args; simp_all
  obtain ⟨rfl, rfl⟩ := trodVars_none hV
  have k0 := h0
  have lt0 : ∀ x ∈ p0, x.block < W.heap.size := by obtain ⟨m, hm⟩ := k0; exact DataW.trod_lt m _ _ _ hm
  obtain ⟨l0, rfl, w0⟩ := open_key Tryd.underlying23 Tryd.underlying5 (by kernel_rfl) (by kernel_rfl) (hval 0 23 v0 rfl rfl) h0
  obtain ⟨a1, rfl, rfl, rfl, w1⟩ := open_int Tryd.underlying24 (hval 1 24 v1 rfl rfl) h1
  obtain ⟨n1, rfl, hn1⟩ := u64_of_wf w1
  obtain ⟨a2, len2, cap2, rfl⟩ := okWide_slice Tryd.underlying25 (hval 2 25 v2 rfl rfl)
  have k2 := h2
  have lt2 : ∀ x ∈ p2, x.block < W.heap.size := by obtain ⟨m, hm⟩ := k2; exact DataW.trod_lt m _ _ _ hm
  obtain ⟨l2, w2⟩ : ∃ l, OpDs W (.slice a2 len2 cap2) l := by
    obtain ⟨fuel, hf⟩ := h2
    obtain ⟨v, l, hcs, hk⟩ := open_opds hf
    simp [Value.cells] at hcs
    subst hcs
    exact ⟨l, hk⟩
  clear hA0 hval0
  refine (drawsPlays_walk W hq l0 w0 n1 hn1 _ l2 w2).mono fun e W' ⟨he, bel⟩ => ?_
  subst he
  exact ⟨_, rfl, _, _, _, [], _, [], hW', trodAll_mk1 (shut_bool Tryd.underlying4 _), (trodAll_cons_mk (Below.trod laidOut (by kernel_rfl) (of_decide_eq_true (by kernel_rfl)) k0 bel lt0) (trodAll_cons_mk (shut_int Tryd.underlying24 w1) (trodAll_cons_mk (Below.trod laidOut (by kernel_rfl) (of_decide_eq_true (by kernel_rfl)) k2 bel lt2) trodAll_mk0))), rfl, bel.frame _, fun h => by cases h⟩

set_option maxRecDepth 100000 in
theorem lifted (os : Os) (started : os.Started) (H : Type) (enc : TypeId × Value → H) (F : Stop.Interp) :
    ReturnsInHanded {} Tryd.checked os 3 .any ((OpenSpec.ofChange Rows.drawsPlaysSpec).preRow enc Tryd.prog Tryd.f3 Rows.drawsPlaysRow.domain false Rows.drawsPlaysRow.laid) (((OpenSpec.ofChange Rows.drawsPlaysSpec).at F).post enc Tryd.prog Tryd.f3 false true false false) := by
  obtain ⟨places, hx⟩ := reads os enc
  refine returnsInHanded_of_row (C := Tryd.checked) (s := OpenSpec.ofChange Rows.drawsPlaysSpec) own started (by kernel_rfl) Tryd.func3
    (witness_row_at (enc := enc) (C := Tryd.checked) false (laidWorld os) #[.agg (List.replicate 32 (Value.int .u8 0)).toArray, .int .u64 0, .slice none 0 0] rfl (by kernel_rfl) (by kernel_rfl) (by kernel_rfl)
      (OpenSpec.preRow_of_cond 8 hx (by kernel_rfl) (fun k hk => by cases hk) (by kernel_rfl) (laid_met os))) ?_
  intro W base args ds gs before hval hW _ _ _ hL _ _
  exact contract H enc W base args ds gs before hval hW hL

theorem said : Rows.DrawsPlaysSaid :=
  OpenClaim.holds_of_cond 3 Tryd.f3 rfl rfl rfl rfl rfl rfl rfl ⟨rfl, rfl, rfl, rfl, rfl⟩ rfl rfl rfl rfl rfl (by kernel_rfl) Tryd.func3 (by kernel_rfl)
    (of_decide_eq_true (by kernel_rfl)) (by unfold Func.isWrapper; first | (rw [if_pos (by decide +kernel)]; kernel_rfl) | (rw [if_neg (by decide +kernel)]; exact ⟨rfl, rfl⟩))
    (fun os started H enc _ F => by rw [OpenClaim.pre_eq_preRow]; exact lifted os started H enc F)

theorem noStand : (Tryd.f3.params.toList.all fun t => Tryd.prog.wantsStandIn t == false) = true := by kernel_rfl
theorem plain (f : FuncId) (fn : Func) (hf : Tryd.pinned.checked.prog.funcNamed "cablegram/cablegramlaw13.DrawsPlays" = some f) (hfn : Tryd.pinned.checked.prog.funcs[f]? = some fn) :
    false = Tryd.pinned.checked.prog.looks [] ∧ ∀ (j : Nat) t, fn.params[j]? = some t → Tryd.pinned.checked.prog.wantsStandIn t = false := by
  obtain rfl : f = 3 := Option.some.inj ((show Tryd.prog.funcNamed "cablegram/cablegramlaw13.DrawsPlays" = some 3 by kernel_rfl).symm.trans hf) |>.symm
  obtain rfl : fn = Tryd.f3 := (Option.some.inj (Tryd.func3.symm.trans hfn)).symm
  refine ⟨by kernel_rfl, fun j t ht => ?_⟩
  have hm : t ∈ Tryd.f3.params.toList := by simpa using Array.mem_of_getElem? ht
  exact beq_iff_eq.1 (List.all_eq_true.1 noStand t hm)

theorem proved : Rows.DrawsPlaysCardSaid :=
  Claim7.holds_tied_plain_at .later [] _ _ _ _ said (fun _ h => by cases h) (by kernel_rfl) (fun _ h => by cases h) drawsPlays_row_tie rfl ⟨rfl, rfl⟩ (by kernel_rfl) rfl plain (by kernel_rfl)
#print axioms proved
end Go.Proofs.YtjlhmcnajgafgaaDoor.drawsPlays
end
