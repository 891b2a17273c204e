/-
  OtsGuards: for every input the call returns true, and each argument reads as it read before. Conditions: none beyond the given statement's own (the package-level tables that its row lists hold what the program's text lays: the card ties that).
-/
import Derived.Test.YtfnmglicfgkmjaaDoorQOtsAM
import Derived.Test.YtfnmglicfgkmjaaDoorQOtsAB
import Derived.ProofKit
import Derived.OpenShut
import Derived.ShutString
import Derived.ChangeOld
import Derived.Deep.DeepHandedRow
section
namespace Go.Proofs.YtfnmglicfgkmjaaDoor
open Go.RowKit
set_option linter.unusedVariables false
set_option maxRecDepth 20000

/-- wpQuiet, shut: no tactic opens it on its own. -/
structure QuietG (P : Program) (ops : Array Oper) (C : World → Prop) (K : Act → Prop) (l : List Oper) (a : Act) : Prop where
  out : wpQuiet P ops C K l a
section
variable {P : Program} {ops : Array Oper} {C : World → Prop} {K : Act → Prop} {rest : List Oper} {o : Oper} {a : Act}
theorem g_run (hw : Region.wanted o (yielded ops a.tmps) = true) {v : Value} (hv : ∀ w, C w → (execOp a.eval o).run P w = .ok (.value v) w) (h : QuietG P ops C K rest (a.put o.dst v)) : QuietG P ops C K (o :: rest) a := ⟨q_run hw hv h.out⟩
theorem g_skip (hw : Region.wanted o (yielded ops a.tmps) = false) (h : QuietG P ops C K rest (a.put o.dst undef)) : QuietG P ops C K (o :: rest) a := ⟨q_skip hw h.out⟩
theorem g_nil (h : K a) : QuietG P ops C K [] a := ⟨wpQuiet_nil h⟩
end

set_option maxHeartbeats 8000000 in
theorem otsGuards_walk (w : World) (hq : Tabs w) (one : List UInt8) (h1 : one.length = 32) (two : List UInt8) (h2 : two.length = 32) :
    Calls Tryd.prog 6 #[keyV one, keyV two] w (RetV w (.bool true)) := by
  have HQ := Lib.hid hq
  have L1 := Lib.hid h1
  have L2 := Lib.hid h2
  obtain ⟨A, hA⟩ : ∃ A, A = digitsL one := ⟨_, rfl⟩
  obtain ⟨B, hB⟩ : ∃ B, B = digitsL two := ⟨_, rfl⟩
  have LA : Hid (A.length = 67) := by show _ = _; rw [hA]; exact digitsL_length _ h1
  have LB : Hid (B.length = 67) := by show _ = _; rw [hB]; exact digitsL_length _ h2
  have BA : Hid (∀ i, A.getD i 0 ≤ 15) := fun i => by rw [hA]; exact digitsL_getD _ h1 i
  have BB : Hid (∀ i, B.getD i 0 ≤ 15) := fun i => by rw [hB]; exact digitsL_getD _ h2 i
  have CA : Hid (∀ x rs', Env w rs' x → Calls Tryd.prog 9 #[.agg (keyC one)] x fun e w' => ∃ b, e = .returned (.slice (some ⟨b, 0, none⟩) 67 67) ∧ Env w ((b, 3, intC A) :: rs') w') := fun x rs' h => by rw [hA]; exact digits_env w x rs' h _ h1
  have CB : Hid (∀ x rs', Env w rs' x → Calls Tryd.prog 9 #[.agg (keyC two)] x fun e w' => ∃ b, e = .returned (.slice (some ⟨b, 0, none⟩) 67 67) ∧ Env w ((b, 3, intC B) :: rs') w') := fun x rs' h => by rw [hB]; exact digits_env w x rs' h _ h2
  have F1 : Hid (aboveB A B 67 = !(one == two)) := by show _ = _; rw [hA, hB]; exact above_iff one two h1 h2
  have F2 : Hid (aboveB B A 67 = !(one == two)) := by
    show _ = _
    rw [hA, hB, above_iff two one h2 h1]
    congr 1
    exact Bool.beq_comm
  have HEQ : Hid (∀ W, (Op.equalIn 10000 23 (.agg (keyC one)) (.agg (keyC two))).run Tryd.prog W = .ok (one == two) W) := fun W => Tryd.eqKeyIn one two h1 h2 W
  have E0 := Lib.hid (Env.start w)
  clear hq h1 h2 hA hB
  go_enter Tryd.func6, Tryd.ntmps6
  go_wp2_with (first
    | ((with_reducible refine wpE_box (o := ⟨some 2, _, _, _, _, _⟩) rfl 23 (.tmp 0) rfl (keyC one) (by with_unfolding_all rfl) E0.out ?_); intro g1 w1 T1; have E1 := Lib.hid T1; clear T1)
    | ((with_reducible refine wpE_box (o := ⟨some 3, _, _, _, _, _⟩) rfl 23 (.tmp 1) rfl (keyC two) (by with_unfolding_all rfl) E1.out ?_); intro g2 w2 T2; have E2 := Lib.hid T2; clear T2))
  refine (otsAwake_any _ (HQ.out.below E2.out.below)).mono ?_
  rintro e w3 ⟨rfl, b3⟩
  have E3 := Lib.hid (E2.out.call b3)
  clear b3 E2 E1 E0
  go_wp2_with (with_reducible refine wpE_load (o := ⟨some 12, _, _, _, _, _⟩) rfl 23 (.tmp 2) rfl 1 g1 23 (keyC one) _ (by with_unfolding_all rfl) (by with_unfolding_all rfl) Tryd.underlying23 rfl (Tryd.sizeKey _ L1.out) E3.out ?_)
  refine (CA.out _ _ E3.out).mono ?_
  intro e w4 h
  obtain ⟨ga, he, h4⟩ := h
  subst he
  have E4 := Lib.hid h4
  clear h4 E3 CA
  go_wp2_with (with_reducible refine wpE_load (o := ⟨some 14, _, _, _, _, _⟩) rfl 23 (.tmp 3) rfl 1 g2 23 (keyC two) _ (by with_unfolding_all rfl) (by with_unfolding_all rfl) Tryd.underlying23 rfl (Tryd.sizeKey _ L2.out) E4.out ?_)
  refine (CB.out _ _ E4.out).mono ?_
  intro e w5 h
  obtain ⟨gb, he, h5⟩ := h
  subst he
  have E5 := Lib.hid h5
  clear h5 E4 CB
  go_wp2_with fail
  go_loopw [8, 9, 10] (fun p q i wr => ∃ k : Nat, k ≤ 67 ∧ i = .int .i64 (k : Int) ∧ p = .bool (aboveB A B k) ∧ q = .bool (aboveB B A k) ∧ Env w [(gb, 3, intC B), (ga, 3, intC A), (g2, 23, keyC two), (g1, 23, keyC one)] wr) (fun _ _ i _ => 67 - (intOf i).toNat)
  case atStart => exact ⟨0, by omega, rfl, rfl, rfl, E5.out⟩
  case round =>
    clear E5
    obtain ⟨k, hk, rfl, rfl, rfl, hE⟩ := hrel
    have E := Lib.hid hE
    clear hE
    by_cases hlt : k < 67
    · have hlt2 : (k : Int) < 67 := by omega
      have hw1 : IntKind.i64.wrap ((k : Int) + 1) = (k : Int) + 1 := IntWalk.i64_in _ (by omega)
      have hq0 : ¬ ((k : Int) < 0) := by omega
      have ca := E.out.cellV 1 rfl k _ (intC_get A k (by rw [LA.out]; exact hlt))
      have cb := E.out.cellV 0 rfl k _ (intC_get B k (by rw [LB.out]; exact hlt))
      have CAX : Hid (∀ W, Env w [(gb, 3, intC B), (ga, 3, intC A), (g2, 23, keyC two), (g1, 23, keyC one)] W → W.cell? ⟨ga, k, none⟩ = some (.int .i64 ((A.getD k 0 : Nat) : Int))) := fun W h => h.cellV 1 rfl k _ (intC_get A k (by rw [LA.out]; exact hlt))
      have CBX : Hid (∀ W, Env w [(gb, 3, intC B), (ga, 3, intC A), (g2, 23, keyC two), (g1, 23, keyC one)] W → W.cell? ⟨gb, k, none⟩ = some (.int .i64 ((B.getD k 0 : Nat) : Int))) := fun W h => h.cellV 0 rfl k _ (intC_get B k (by rw [LB.out]; exact hlt))
      have hsa : Hid (aboveB A B (k + 1) = (aboveB A B k || decide (B.getD k 0 < A.getD k 0))) := rfl
      have hsb : Hid (aboveB B A (k + 1) = (aboveB B A k || decide (A.getD k 0 < B.getD k 0))) := rfl
      have ba := BA.out k
      have bb := BB.out k
      generalize A.getD k 0 = x at ca ba CAX hsa hsb
      generalize B.getD k 0 = y at cb bb CBX hsa hsb
      have d1 : decide ((x : Int) < 0) = false := by simp
      have d2 : decide ((x : Int) > 15) = false := by simp; omega
      have d3 : decide ((y : Int) < 0) = false := by simp
      have d4 : decide ((y : Int) > 15) = false := by simp; omega
      have d5 : decide ((y : Int) < (x : Int)) = decide (y < x) := by simp
      have d6 : decide ((x : Int) < (y : Int)) = decide (x < y) := by simp
      generalize aboveB A B k = p at hsa ⊢
      generalize aboveB B A k = q at hsb ⊢
      go_wp2_with fail
      refine region_class (Env w [(gb, 3, intC B), (ga, 3, intC A), (g2, 23, keyC two), (g1, 23, keyC one)]) E.out.drew (by kernel_rfl) (by kernel_rfl) (QuietG.out ?_)
      clear E ca cb
      cases p
      · refine g_run (by rfl) (v := .bool false) (fun W hW => by first | rfl | (clear hW; go_simp)) ?_
        try simp only [Act.put, List.setIfInBounds_toArray, List.set_cons_zero, List.set_cons_succ]
        refine g_run (by rfl) (v := .bool false) (fun W hW => by first | rfl | (clear hW; go_simp)) ?_
        try simp only [Act.put, List.setIfInBounds_toArray, List.set_cons_zero, List.set_cons_succ]
        refine g_run (by rfl) (v := .slice (some ⟨ga, 0, none⟩) 67 67) (fun W hW => by first | rfl | (clear hW; go_simp)) ?_
        try simp only [Act.put, List.setIfInBounds_toArray, List.set_cons_zero, List.set_cons_succ]
        refine g_run (by rfl) (v := .int .i64 (k : Int)) (fun W hW => by first | rfl | (clear hW; go_simp)) ?_
        try simp only [Act.put, List.setIfInBounds_toArray, List.set_cons_zero, List.set_cons_succ]
        refine g_run (by rfl) (v := .pointer (some ⟨ga, k, none⟩)) (fun W hW => by first | rfl | (clear hW; go_simp)) ?_
        try simp only [Act.put, List.setIfInBounds_toArray, List.set_cons_zero, List.set_cons_succ]
        refine g_run (by rfl) (v := .int .i64 (x : Int)) (fun W hW => by have c := CAX.out W hW; clear hW; go_simp) ?_
        try simp only [Act.put, List.setIfInBounds_toArray, List.set_cons_zero, List.set_cons_succ]
        refine g_run (by rfl) (v := .slice (some ⟨gb, 0, none⟩) 67 67) (fun W hW => by first | rfl | (clear hW; go_simp)) ?_
        try simp only [Act.put, List.setIfInBounds_toArray, List.set_cons_zero, List.set_cons_succ]
        refine g_run (by rfl) (v := .int .i64 (k : Int)) (fun W hW => by first | rfl | (clear hW; go_simp)) ?_
        try simp only [Act.put, List.setIfInBounds_toArray, List.set_cons_zero, List.set_cons_succ]
        refine g_run (by rfl) (v := .pointer (some ⟨gb, k, none⟩)) (fun W hW => by first | rfl | (clear hW; go_simp)) ?_
        try simp only [Act.put, List.setIfInBounds_toArray, List.set_cons_zero, List.set_cons_succ]
        refine g_run (by rfl) (v := .int .i64 (y : Int)) (fun W hW => by have c := CBX.out W hW; clear hW; go_simp) ?_
        try simp only [Act.put, List.setIfInBounds_toArray, List.set_cons_zero, List.set_cons_succ]
        refine g_run (by rfl) (v := .bool (decide (y < x))) (fun W hW => by first | rfl | (clear hW; go_simp)) ?_
        try simp only [Act.put, List.setIfInBounds_toArray, List.set_cons_zero, List.set_cons_succ]
        refine g_run (by rfl) (v := .bool (decide (y < x))) (fun W hW => by first | rfl | (clear hW; go_simp)) ?_
        try simp only [Act.put, List.setIfInBounds_toArray, List.set_cons_zero, List.set_cons_succ]
        refine g_run (by rfl) (v := .bool (decide (y < x))) (fun W hW => by first | rfl | (clear hW; go_simp)) ?_
        try simp only [Act.put, List.setIfInBounds_toArray, List.set_cons_zero, List.set_cons_succ]
        refine g_nil ?_
        intro w13 hw13
        have E13 := Lib.hid hw13
        clear hw13
        go_wp2_with fail
        refine region_class (Env w [(gb, 3, intC B), (ga, 3, intC A), (g2, 23, keyC two), (g1, 23, keyC one)]) E13.out.drew (by kernel_rfl) (by kernel_rfl) (QuietG.out ?_)
        clear E13
        cases q
        · refine g_run (by rfl) (v := .bool false) (fun W hW => by first | rfl | (clear hW; go_simp)) ?_
          try simp only [Act.put, List.setIfInBounds_toArray, List.set_cons_zero, List.set_cons_succ]
          refine g_run (by rfl) (v := .bool false) (fun W hW => by first | rfl | (clear hW; go_simp)) ?_
          try simp only [Act.put, List.setIfInBounds_toArray, List.set_cons_zero, List.set_cons_succ]
          refine g_run (by rfl) (v := .slice (some ⟨ga, 0, none⟩) 67 67) (fun W hW => by first | rfl | (clear hW; go_simp)) ?_
          try simp only [Act.put, List.setIfInBounds_toArray, List.set_cons_zero, List.set_cons_succ]
          refine g_run (by rfl) (v := .int .i64 (k : Int)) (fun W hW => by first | rfl | (clear hW; go_simp)) ?_
          try simp only [Act.put, List.setIfInBounds_toArray, List.set_cons_zero, List.set_cons_succ]
          refine g_run (by rfl) (v := .pointer (some ⟨ga, k, none⟩)) (fun W hW => by first | rfl | (clear hW; go_simp)) ?_
          try simp only [Act.put, List.setIfInBounds_toArray, List.set_cons_zero, List.set_cons_succ]
          refine g_run (by rfl) (v := .int .i64 (x : Int)) (fun W hW => by have c := CAX.out W hW; clear hW; go_simp) ?_
          try simp only [Act.put, List.setIfInBounds_toArray, List.set_cons_zero, List.set_cons_succ]
          refine g_run (by rfl) (v := .slice (some ⟨gb, 0, none⟩) 67 67) (fun W hW => by first | rfl | (clear hW; go_simp)) ?_
          try simp only [Act.put, List.setIfInBounds_toArray, List.set_cons_zero, List.set_cons_succ]
          refine g_run (by rfl) (v := .int .i64 (k : Int)) (fun W hW => by first | rfl | (clear hW; go_simp)) ?_
          try simp only [Act.put, List.setIfInBounds_toArray, List.set_cons_zero, List.set_cons_succ]
          refine g_run (by rfl) (v := .pointer (some ⟨gb, k, none⟩)) (fun W hW => by first | rfl | (clear hW; go_simp)) ?_
          try simp only [Act.put, List.setIfInBounds_toArray, List.set_cons_zero, List.set_cons_succ]
          refine g_run (by rfl) (v := .int .i64 (y : Int)) (fun W hW => by have c := CBX.out W hW; clear hW; go_simp) ?_
          try simp only [Act.put, List.setIfInBounds_toArray, List.set_cons_zero, List.set_cons_succ]
          refine g_run (by rfl) (v := .bool (decide (x < y))) (fun W hW => by first | rfl | (clear hW; go_simp)) ?_
          try simp only [Act.put, List.setIfInBounds_toArray, List.set_cons_zero, List.set_cons_succ]
          refine g_run (by rfl) (v := .bool (decide (x < y))) (fun W hW => by first | rfl | (clear hW; go_simp)) ?_
          try simp only [Act.put, List.setIfInBounds_toArray, List.set_cons_zero, List.set_cons_succ]
          refine g_run (by rfl) (v := .bool (decide (x < y))) (fun W hW => by first | rfl | (clear hW; go_simp)) ?_
          try simp only [Act.put, List.setIfInBounds_toArray, List.set_cons_zero, List.set_cons_succ]
          refine g_nil ?_
          intro w14 hw14
          have E14 := Lib.hid hw14
          clear hw14
          go_wp2_with fail
          refine ⟨⟨k + 1, by omega, by congr 1, by rw [hsa.out]; simp, by rw [hsb.out]; simp, E14.out⟩, ?_⟩
          show 67 - ((k : Int) + 1).toNat < 67 - (k : Int).toNat
          omega
        · refine g_run (by rfl) (v := .bool true) (fun W hW => by first | rfl | (clear hW; go_simp)) ?_
          try simp only [Act.put, List.setIfInBounds_toArray, List.set_cons_zero, List.set_cons_succ]
          refine g_run (by rfl) (v := .bool true) (fun W hW => by first | rfl | (clear hW; go_simp)) ?_
          try simp only [Act.put, List.setIfInBounds_toArray, List.set_cons_zero, List.set_cons_succ]
          refine g_skip (by rfl) ?_
          try simp only [Act.put, List.setIfInBounds_toArray, List.set_cons_zero, List.set_cons_succ]
          refine g_skip (by rfl) ?_
          try simp only [Act.put, List.setIfInBounds_toArray, List.set_cons_zero, List.set_cons_succ]
          refine g_skip (by rfl) ?_
          try simp only [Act.put, List.setIfInBounds_toArray, List.set_cons_zero, List.set_cons_succ]
          refine g_skip (by rfl) ?_
          try simp only [Act.put, List.setIfInBounds_toArray, List.set_cons_zero, List.set_cons_succ]
          refine g_skip (by rfl) ?_
          try simp only [Act.put, List.setIfInBounds_toArray, List.set_cons_zero, List.set_cons_succ]
          refine g_skip (by rfl) ?_
          try simp only [Act.put, List.setIfInBounds_toArray, List.set_cons_zero, List.set_cons_succ]
          refine g_skip (by rfl) ?_
          try simp only [Act.put, List.setIfInBounds_toArray, List.set_cons_zero, List.set_cons_succ]
          refine g_skip (by rfl) ?_
          try simp only [Act.put, List.setIfInBounds_toArray, List.set_cons_zero, List.set_cons_succ]
          refine g_skip (by rfl) ?_
          try simp only [Act.put, List.setIfInBounds_toArray, List.set_cons_zero, List.set_cons_succ]
          refine g_run (by rfl) (v := .bool true) (fun W hW => by first | rfl | (clear hW; go_simp)) ?_
          try simp only [Act.put, List.setIfInBounds_toArray, List.set_cons_zero, List.set_cons_succ]
          refine g_run (by rfl) (v := .bool true) (fun W hW => by first | rfl | (clear hW; go_simp)) ?_
          try simp only [Act.put, List.setIfInBounds_toArray, List.set_cons_zero, List.set_cons_succ]
          refine g_nil ?_
          intro w14 hw14
          have E14 := Lib.hid hw14
          clear hw14
          go_wp2_with fail
          refine ⟨⟨k + 1, by omega, by congr 1, by rw [hsa.out]; simp, by rw [hsb.out]; simp, E14.out⟩, ?_⟩
          show 67 - ((k : Int) + 1).toNat < 67 - (k : Int).toNat
          omega
      · refine g_run (by rfl) (v := .bool true) (fun W hW => by first | rfl | (clear hW; go_simp)) ?_
        try simp only [Act.put, List.setIfInBounds_toArray, List.set_cons_zero, List.set_cons_succ]
        refine g_run (by rfl) (v := .bool true) (fun W hW => by first | rfl | (clear hW; go_simp)) ?_
        try simp only [Act.put, List.setIfInBounds_toArray, List.set_cons_zero, List.set_cons_succ]
        refine g_skip (by rfl) ?_
        try simp only [Act.put, List.setIfInBounds_toArray, List.set_cons_zero, List.set_cons_succ]
        refine g_skip (by rfl) ?_
        try simp only [Act.put, List.setIfInBounds_toArray, List.set_cons_zero, List.set_cons_succ]
        refine g_skip (by rfl) ?_
        try simp only [Act.put, List.setIfInBounds_toArray, List.set_cons_zero, List.set_cons_succ]
        refine g_skip (by rfl) ?_
        try simp only [Act.put, List.setIfInBounds_toArray, List.set_cons_zero, List.set_cons_succ]
        refine g_skip (by rfl) ?_
        try simp only [Act.put, List.setIfInBounds_toArray, List.set_cons_zero, List.set_cons_succ]
        refine g_skip (by rfl) ?_
        try simp only [Act.put, List.setIfInBounds_toArray, List.set_cons_zero, List.set_cons_succ]
        refine g_skip (by rfl) ?_
        try simp only [Act.put, List.setIfInBounds_toArray, List.set_cons_zero, List.set_cons_succ]
        refine g_skip (by rfl) ?_
        try simp only [Act.put, List.setIfInBounds_toArray, List.set_cons_zero, List.set_cons_succ]
        refine g_skip (by rfl) ?_
        try simp only [Act.put, List.setIfInBounds_toArray, List.set_cons_zero, List.set_cons_succ]
        refine g_run (by rfl) (v := .bool true) (fun W hW => by first | rfl | (clear hW; go_simp)) ?_
        try simp only [Act.put, List.setIfInBounds_toArray, List.set_cons_zero, List.set_cons_succ]
        refine g_run (by rfl) (v := .bool true) (fun W hW => by first | rfl | (clear hW; go_simp)) ?_
        try simp only [Act.put, List.setIfInBounds_toArray, List.set_cons_zero, List.set_cons_succ]
        refine g_nil ?_
        intro w13 hw13
        have E13 := Lib.hid hw13
        clear hw13
        go_wp2_with fail
        refine region_class (Env w [(gb, 3, intC B), (ga, 3, intC A), (g2, 23, keyC two), (g1, 23, keyC one)]) E13.out.drew (by kernel_rfl) (by kernel_rfl) (QuietG.out ?_)
        clear E13
        cases q
        · refine g_run (by rfl) (v := .bool false) (fun W hW => by first | rfl | (clear hW; go_simp)) ?_
          try simp only [Act.put, List.setIfInBounds_toArray, List.set_cons_zero, List.set_cons_succ]
          refine g_run (by rfl) (v := .bool false) (fun W hW => by first | rfl | (clear hW; go_simp)) ?_
          try simp only [Act.put, List.setIfInBounds_toArray, List.set_cons_zero, List.set_cons_succ]
          refine g_run (by rfl) (v := .slice (some ⟨ga, 0, none⟩) 67 67) (fun W hW => by first | rfl | (clear hW; go_simp)) ?_
          try simp only [Act.put, List.setIfInBounds_toArray, List.set_cons_zero, List.set_cons_succ]
          refine g_run (by rfl) (v := .int .i64 (k : Int)) (fun W hW => by first | rfl | (clear hW; go_simp)) ?_
          try simp only [Act.put, List.setIfInBounds_toArray, List.set_cons_zero, List.set_cons_succ]
          refine g_run (by rfl) (v := .pointer (some ⟨ga, k, none⟩)) (fun W hW => by first | rfl | (clear hW; go_simp)) ?_
          try simp only [Act.put, List.setIfInBounds_toArray, List.set_cons_zero, List.set_cons_succ]
          refine g_run (by rfl) (v := .int .i64 (x : Int)) (fun W hW => by have c := CAX.out W hW; clear hW; go_simp) ?_
          try simp only [Act.put, List.setIfInBounds_toArray, List.set_cons_zero, List.set_cons_succ]
          refine g_run (by rfl) (v := .slice (some ⟨gb, 0, none⟩) 67 67) (fun W hW => by first | rfl | (clear hW; go_simp)) ?_
          try simp only [Act.put, List.setIfInBounds_toArray, List.set_cons_zero, List.set_cons_succ]
          refine g_run (by rfl) (v := .int .i64 (k : Int)) (fun W hW => by first | rfl | (clear hW; go_simp)) ?_
          try simp only [Act.put, List.setIfInBounds_toArray, List.set_cons_zero, List.set_cons_succ]
          refine g_run (by rfl) (v := .pointer (some ⟨gb, k, none⟩)) (fun W hW => by first | rfl | (clear hW; go_simp)) ?_
          try simp only [Act.put, List.setIfInBounds_toArray, List.set_cons_zero, List.set_cons_succ]
          refine g_run (by rfl) (v := .int .i64 (y : Int)) (fun W hW => by have c := CBX.out W hW; clear hW; go_simp) ?_
          try simp only [Act.put, List.setIfInBounds_toArray, List.set_cons_zero, List.set_cons_succ]
          refine g_run (by rfl) (v := .bool (decide (x < y))) (fun W hW => by first | rfl | (clear hW; go_simp)) ?_
          try simp only [Act.put, List.setIfInBounds_toArray, List.set_cons_zero, List.set_cons_succ]
          refine g_run (by rfl) (v := .bool (decide (x < y))) (fun W hW => by first | rfl | (clear hW; go_simp)) ?_
          try simp only [Act.put, List.setIfInBounds_toArray, List.set_cons_zero, List.set_cons_succ]
          refine g_run (by rfl) (v := .bool (decide (x < y))) (fun W hW => by first | rfl | (clear hW; go_simp)) ?_
          try simp only [Act.put, List.setIfInBounds_toArray, List.set_cons_zero, List.set_cons_succ]
          refine g_nil ?_
          intro w14 hw14
          have E14 := Lib.hid hw14
          clear hw14
          go_wp2_with fail
          refine ⟨⟨k + 1, by omega, by congr 1, by rw [hsa.out]; simp, by rw [hsb.out]; simp, E14.out⟩, ?_⟩
          show 67 - ((k : Int) + 1).toNat < 67 - (k : Int).toNat
          omega
        · refine g_run (by rfl) (v := .bool true) (fun W hW => by first | rfl | (clear hW; go_simp)) ?_
          try simp only [Act.put, List.setIfInBounds_toArray, List.set_cons_zero, List.set_cons_succ]
          refine g_run (by rfl) (v := .bool true) (fun W hW => by first | rfl | (clear hW; go_simp)) ?_
          try simp only [Act.put, List.setIfInBounds_toArray, List.set_cons_zero, List.set_cons_succ]
          refine g_skip (by rfl) ?_
          try simp only [Act.put, List.setIfInBounds_toArray, List.set_cons_zero, List.set_cons_succ]
          refine g_skip (by rfl) ?_
          try simp only [Act.put, List.setIfInBounds_toArray, List.set_cons_zero, List.set_cons_succ]
          refine g_skip (by rfl) ?_
          try simp only [Act.put, List.setIfInBounds_toArray, List.set_cons_zero, List.set_cons_succ]
          refine g_skip (by rfl) ?_
          try simp only [Act.put, List.setIfInBounds_toArray, List.set_cons_zero, List.set_cons_succ]
          refine g_skip (by rfl) ?_
          try simp only [Act.put, List.setIfInBounds_toArray, List.set_cons_zero, List.set_cons_succ]
          refine g_skip (by rfl) ?_
          try simp only [Act.put, List.setIfInBounds_toArray, List.set_cons_zero, List.set_cons_succ]
          refine g_skip (by rfl) ?_
          try simp only [Act.put, List.setIfInBounds_toArray, List.set_cons_zero, List.set_cons_succ]
          refine g_skip (by rfl) ?_
          try simp only [Act.put, List.setIfInBounds_toArray, List.set_cons_zero, List.set_cons_succ]
          refine g_skip (by rfl) ?_
          try simp only [Act.put, List.setIfInBounds_toArray, List.set_cons_zero, List.set_cons_succ]
          refine g_run (by rfl) (v := .bool true) (fun W hW => by first | rfl | (clear hW; go_simp)) ?_
          try simp only [Act.put, List.setIfInBounds_toArray, List.set_cons_zero, List.set_cons_succ]
          refine g_run (by rfl) (v := .bool true) (fun W hW => by first | rfl | (clear hW; go_simp)) ?_
          try simp only [Act.put, List.setIfInBounds_toArray, List.set_cons_zero, List.set_cons_succ]
          refine g_nil ?_
          intro w14 hw14
          have E14 := Lib.hid hw14
          clear hw14
          go_wp2_with fail
          refine ⟨⟨k + 1, by omega, by congr 1, by rw [hsa.out]; simp, by rw [hsb.out]; simp, E14.out⟩, ?_⟩
          show 67 - ((k : Int) + 1).toNat < 67 - (k : Int).toNat
          omega
    · have hk2 : k = 67 := by omega
      clear hlt
      subst hk2
      rw [F1.out, F2.out]
      have heq := HEQ.out
      have hgd := Tryd.eqGuardKey
      generalize (one == two) = z at heq ⊢
      cases z <;> go_wp2_with (first
        | (with_reducible refine wpListG_load_row (o := ⟨some 81, _, _, _, _, _⟩) 23 (.tmp 2) rfl (by with_unfolding_all rfl) g1 (by with_unfolding_all rfl) 23 (keyC one) (.array 32 5) (by with_unfolding_all exact E.out.row 3 rfl) Tryd.underlying23 rfl (Tryd.sizeKey _ L1.out) ?_)
        | (with_reducible refine wpListG_load_row (o := ⟨some 82, _, _, _, _, _⟩) 23 (.tmp 3) rfl (by with_unfolding_all rfl) g2 (by with_unfolding_all rfl) 23 (keyC two) (.array 32 5) (by with_unfolding_all exact E.out.row 2 rfl) Tryd.underlying23 rfl (Tryd.sizeKey _ L2.out) ?_)
        | (with_reducible refine wpListG_load_row (o := ⟨some 88, _, _, _, _, _⟩) 23 (.tmp 2) rfl (by with_unfolding_all rfl) g1 (by with_unfolding_all rfl) 23 (keyC one) (.array 32 5) (by with_unfolding_all exact E.out.row 3 rfl) Tryd.underlying23 rfl (Tryd.sizeKey _ L1.out) ?_)
        | (with_reducible refine wpListG_load_row (o := ⟨some 89, _, _, _, _, _⟩) 23 (.tmp 3) rfl (by with_unfolding_all rfl) g2 (by with_unfolding_all rfl) 23 (keyC two) (.array 32 5) (by with_unfolding_all exact E.out.row 2 rfl) Tryd.underlying23 rfl (Tryd.sizeKey _ L2.out) ?_))
      · go_ret
        exact E.out.ret _
      · go_ret
        exact E.out.ret _
end Go.Proofs.YtfnmglicfgkmjaaDoor
end
section
namespace Go.Proofs.YtfnmglicfgkmjaaDoor.otsGuards
open Go.ChangeShapes Go.WideShapes Go.ChangeAt Go.RowKit
open Go.ChangeMaps (open_string shut_string)
set_option linter.unusedVariables false

theorem own : ownKnob Tryd.prog.godebug = none := by kernel_rfl
theorem laidOut : laidOutB Tryd.prog = true := by kernel_rfl

theorem laid_met (os : Os) : laidMet Tryd.prog Rows.otsGuardsRow.laid ((laidWorld os).forCall (fun _ _ => 0) ⟨#[], #[.agg (List.replicate 32 (Value.int .u8 0)).toArray, .agg (List.replicate 32 (Value.int .u8 0)).toArray], []⟩).memory :=
  laidMet_of_run' 8 (by kernel_rfl) (by kernel_rfl)
theorem reads (os : Os) {H : Type} (enc : TypeId × Value → H) : ∃ places, DataW.whole enc Tryd.prog ((laidWorld os).forCall (fun _ _ => 0) ⟨#[], #[.agg (List.replicate 32 (Value.int .u8 0)).toArray, .agg (List.replicate 32 (Value.int .u8 0)).toArray], []⟩).memory Tryd.f6.params.toList Rows.otsGuardsSpec.vars false #[.agg (List.replicate 32 (Value.int .u8 0)).toArray, .agg (List.replicate 32 (Value.int .u8 0)).toArray].toList 8 = some ([.agg (List.replicate 32 (.lit (.int .u8 0))), .agg (List.replicate 32 (.lit (.int .u8 0)))], [], places) :=
  ⟨[], by kernel_rfl⟩

set_option maxRecDepth 100000 in
theorem contract (H : Type) (enc : TypeId × Value → H) (W : World) (base : Nat) (args : Array Value) (ds gs : List (DataW H)) (before : List MemPlace)
    (hval0 : ∀ (j : Nat) t v, Tryd.f6.params[j]? = some t → args[j]? = some v → Value.okWide Tryd.prog W .any base t v)
    (hW : DataW.Whole enc Tryd.prog Tryd.f6.params.toList Rows.otsGuardsSpec.vars false W args.toList ds gs before) (hL : laidMetH Tryd.prog Rows.otsGuardsRow.laid W) :
    Calls Tryd.prog 6 args W fun e W' => ∃ v, e = .returned v ∧ Rows.otsGuardsSpec.post enc Tryd.prog Tryd.f6 false true false false W args v W' := by
  have hq := tables hL
  have hval : ∀ (j : Nat) t v, Tryd.f6.params[j]? = some t → args[j]? = some v → Value.okWide Tryd.prog W .any base t v := hval0
  have hW' := hW
  obtain ⟨p, q, hA0, hV, rfl, hfz, hnd⟩ := hW
  have hA : DataW.TrodAll enc Tryd.prog W 0 (fun _ => true) true Tryd.f6.params.toList args.toList ds p := hA0
  rw [Tryd.params6] at hA hval
  obtain ⟨v0, vs0, d0, ds0, p0, q0, hargs, rfl, rfl, h0, r0⟩ := trodAll_cons hA
  obtain ⟨v1, vs1, d1, ds1, p1, q1, rfl, rfl, rfl, h1, r1⟩ := trodAll_cons r0
  obtain ⟨rfl, rfl, rfl⟩ := trodAll_nil r1
  obtain rfl : args = #[v0, v1] := by cases args; simp_all
  obtain ⟨rfl, rfl⟩ := trodVars_none hV
  have k0 := h0
  have lt0 : ∀ x ∈ p0, x.block < W.heap.size := by obtain ⟨m, hm⟩ := k0; exact DataW.trod_lt m _ _ _ hm
  obtain ⟨l0, rfl, w0⟩ := open_key Tryd.underlying23 Tryd.underlying5 (by kernel_rfl) (by kernel_rfl) (hval 0 23 v0 rfl rfl) h0
  have k1 := h1
  have lt1 : ∀ x ∈ p1, x.block < W.heap.size := by obtain ⟨m, hm⟩ := k1; exact DataW.trod_lt m _ _ _ hm
  obtain ⟨l1, rfl, w1⟩ := open_key Tryd.underlying23 Tryd.underlying5 (by kernel_rfl) (by kernel_rfl) (hval 1 23 v1 rfl rfl) h1
  clear hA0 hval0
  refine (otsGuards_walk W hq l0 w0 l1 w1).mono fun e W' ⟨he, bel⟩ => ?_
  subst he
  exact ⟨_, rfl, _, _, _, [], _, [], hW', trodAll_mk1 (shut_bool Tryd.underlying4 _), (trodAll_cons_mk (Below.trod laidOut (by kernel_rfl) (of_decide_eq_true (by kernel_rfl)) k0 bel lt0) (trodAll_cons_mk (Below.trod laidOut (by kernel_rfl) (of_decide_eq_true (by kernel_rfl)) k1 bel lt1) trodAll_mk0)), rfl, bel.frame _, fun h => by cases h⟩

set_option maxRecDepth 100000 in
theorem lifted (os : Os) (started : os.Started) (H : Type) (enc : TypeId × Value → H) (F : Stop.Interp) :
    ReturnsInHanded {} Tryd.checked os 6 .any ((OpenSpec.ofChange Rows.otsGuardsSpec).preRow enc Tryd.prog Tryd.f6 Rows.otsGuardsRow.domain false Rows.otsGuardsRow.laid) (((OpenSpec.ofChange Rows.otsGuardsSpec).at F).post enc Tryd.prog Tryd.f6 false true false false) := by
  obtain ⟨places, hx⟩ := reads os enc
  refine returnsInHanded_of_row (C := Tryd.checked) (s := OpenSpec.ofChange Rows.otsGuardsSpec) own started (by kernel_rfl) Tryd.func6
    (witness_row_at (enc := enc) (C := Tryd.checked) false (laidWorld os) #[.agg (List.replicate 32 (Value.int .u8 0)).toArray, .agg (List.replicate 32 (Value.int .u8 0)).toArray] rfl (by kernel_rfl) (by kernel_rfl) (by kernel_rfl)
      (OpenSpec.preRow_of_cond 8 hx (by kernel_rfl) (fun k hk => by cases hk) (by kernel_rfl) (laid_met os))) ?_
  intro W base args ds gs before hval hW _ _ _ hL _ _
  exact contract H enc W base args ds gs before hval hW hL

theorem said : Rows.OtsGuardsSaid :=
  OpenClaim.holds_of_cond 6 Tryd.f6 rfl rfl rfl rfl rfl rfl rfl ⟨rfl, rfl, rfl, rfl, rfl⟩ rfl rfl rfl rfl rfl (by kernel_rfl) Tryd.func6 (by kernel_rfl)
    (of_decide_eq_true (by kernel_rfl)) (by unfold Func.isWrapper; first | (rw [if_pos (by decide +kernel)]; kernel_rfl) | (rw [if_neg (by decide +kernel)]; exact ⟨rfl, rfl⟩))
    (fun os started H enc _ F => by rw [OpenClaim.pre_eq_preRow]; exact lifted os started H enc F)

theorem noStand : (Tryd.f6.params.toList.all fun t => Tryd.prog.wantsStandIn t == false) = true := by kernel_rfl
theorem plain (f : FuncId) (fn : Func) (hf : Tryd.pinned.checked.prog.funcNamed "cablegram/cablegramlaw08.OtsGuards" = some f) (hfn : Tryd.pinned.checked.prog.funcs[f]? = some fn) :
    false = Tryd.pinned.checked.prog.looks [] ∧ ∀ (j : Nat) t, fn.params[j]? = some t → Tryd.pinned.checked.prog.wantsStandIn t = false := by
  obtain rfl : f = 6 := Option.some.inj ((show Tryd.prog.funcNamed "cablegram/cablegramlaw08.OtsGuards" = some 6 by kernel_rfl).symm.trans hf) |>.symm
  obtain rfl : fn = Tryd.f6 := (Option.some.inj (Tryd.func6.symm.trans hfn)).symm
  refine ⟨by kernel_rfl, fun j t ht => ?_⟩
  have hm : t ∈ Tryd.f6.params.toList := by simpa using Array.mem_of_getElem? ht
  exact beq_iff_eq.1 (List.all_eq_true.1 noStand t hm)

theorem proved : Rows.OtsGuardsCardSaid :=
  Claim7.holds_tied_plain_at .later [] _ _ _ _ said (fun _ h => by cases h) (by kernel_rfl) (fun _ h => by cases h) otsGuards_row_tie rfl ⟨rfl, rfl⟩ (by kernel_rfl) rfl plain (by kernel_rfl)
#print axioms proved
end Go.Proofs.YtfnmglicfgkmjaaDoor.otsGuards
end
