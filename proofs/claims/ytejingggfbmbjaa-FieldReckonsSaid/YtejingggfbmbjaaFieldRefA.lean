/-
  Contracts of the document's small functions (layer 6): prime, less. Conditions: as each theorem names them.
-/
import Derived.Test.YtejingggfbmbjaaFieldE
import Derived.Test.YtejingggfbmbjaaFieldRefMath
namespace Go.Proofs.Ytejingggfbmbjaa
open Go.RowKit
set_option linter.unusedVariables false
set_option maxRecDepth 20000

theorem Try.sz17 : (Try.prog.info? 55).map (·.size) = some 17 := by kernel_rfl
def zero17 : List Nat := List.replicate 17 0
theorem zero17_length : zero17.length = 17 := by simp [zero17]
theorem Try.zero17 : (Try.prog.info? 55).map (·.zero) = some (some (.agg (natsC zero17))) := by kernel_rfl

theorem prime_any (k : Nat) (hk : k < 17) (w : World) : Calls Try.prog 39 #[.int .i64 (k : Int)] w fun e w' => e = .returned (.int .u64 ((primeL.getD k 0 : Nat) : Int)) ∧ w = w' := by
  by_cases h0 : k = 0
  · subst h0
    go_enter Try.func39, Try.ntmps39
    go_wp2
    go_ret
    exact ⟨rfl, rfl⟩
  · by_cases h15 : k = 15
    · subst h15
      go_enter Try.func39, Try.ntmps39
      go_wp2
      go_ret
      exact ⟨rfl, rfl⟩
    · by_cases h16 : k = 16
      · subst h16
        go_enter Try.func39, Try.ntmps39
        go_wp2
        go_ret
        exact ⟨rfl, rfl⟩
      · have hv : primeL.getD k 0 = 65535 := by
          have : ∀ k, k < 17 → k ≠ 0 → k ≠ 15 → k ≠ 16 → primeL.getD k 0 = 65535 := by decide
          exact this k hk h0 h15 h16
        have b0 : ((k : Int) == 0) = false := by simp; omega
        have b15 : ((k : Int) == 15) = false := by simp; omega
        have b16 : ((k : Int) == 16) = false := by simp; omega
        rw [hv]
        clear hv h0 h15 h16
        go_enter Try.func39, Try.ntmps39
        go_wp2
        go_ret
        exact ⟨rfl, rfl⟩

set_option maxHeartbeats 2000000 in
theorem less_any (n : Nat) (hn : n < Bx ^ 16) (w : World) : Calls Try.prog 44 #[.agg (natsC (digR 17 n))] w (RetV w (.agg (natsC (digR 17 (lessR n))))) := by
  have HD := Lib.hid (fun (q : List Nat) (b : Nat) (h : lessAt (digR 17 n) q 17 b) => less_done hn h)
  have HL : Hid ((digR 17 (lessR n)).length = 17) := digR_length 17 _
  obtain ⟨d, hd⟩ : ∃ d, d = digR 17 n := ⟨_, rfl⟩
  have hdl : d.length = 17 := by rw [hd, digR_length]
  have hdb : ∀ k, d.getD k 0 < 65536 := fun k => getD_lt (by rw [hd]; exact digR_lt 17 n) (by decide) k
  have HN : Hid (lessR n = n → digR 17 (lessR n) = d) := fun h => by rw [h, hd]
  rw [← hd] at HD ⊢
  have HDL := Lib.hid hdl
  have HDB := Lib.hid hdb
  clear hn hd hdl hdb
  have E0 := Env.start w
  go_enter Try.func44, Try.ntmps44
  go_wp2_with (first
    | ((with_reducible refine wpE_box (o := ⟨some 1, _, _, _, _, _⟩) rfl 55 (.tmp 0) rfl (natsC (d)) (by with_unfolding_all rfl) E0 ?_); intro g1 w1 E1)
    | ((with_reducible refine wpE_alloc (o := ⟨some 2, _, _, _, _, _⟩) rfl 55 rfl (natsC (zero17)) Try.zero17 E1 ?_); intro g2 w2 E2)
    | (with_reducible refine wpE_load (o := ⟨some 7, _, _, _, _, _⟩) rfl 55 (.tmp 1) rfl 1 g1 55 (natsC (d)) _ (by with_unfolding_all rfl) (by with_unfolding_all rfl) Try.underlying55 rfl (sizeN Try.sz17 _ HDL.out) E2 ?_)
    | ((with_reducible refine wpE_alloc (o := ⟨some 3, _, _, _, _, _⟩) rfl 55 rfl (natsC (zero17)) Try.zero17 E2 ?_); intro g3 w3 E3)
    | ((with_reducible refine wpE_store (o := ⟨none, _, _, _, _, _⟩) rfl 55 (.tmp 3) (.tmp 7) rfl 0 g3 55 (natsC (zero17)) (natsC (d)) (by with_unfolding_all rfl) (by with_unfolding_all rfl) (by with_unfolding_all rfl) (natsC_same zero17_length HDL.out) (sizeN Try.sz17 _ HDL.out) (natsC_one _) E3 ?_); intro w4 E4; simp only [List.set_cons_zero] at E4))
  have E5 := Lib.hid E4
  clear E0 E1 E2 E3 E4
  go_loopw [4, 5] (fun c i wr => ∃ (k b : Nat) (q : List Nat), k ≤ 17 ∧ i = .int .i64 k ∧ c = .int .u64 (b : Int) ∧ lessAt d q k b ∧ Env w [(g3, 55, natsC (q ++ d.drop k)), (g2, 55, natsC zero17), (g1, 55, natsC d)] wr) (fun _ i _ => 17 - (intOf i).toNat)
  case atStart => exact ⟨0, 0, [], by omega, rfl, rfl, lessAt_zero d, E5.out⟩
  case round =>
    clear E5
    obtain ⟨k, b, q, hk, rfl, rfl, hat, hE⟩ := hrel
    have E := Lib.hid hE
    have AT := Lib.hid hat
    have hb1 := hat.2.2.1
    clear hE hat
    by_cases hlt : k < 17
    · have hst := lessAt_step HDL.out hlt (HDB.out k) AT.out
      have PR := Lib.hid (fun w => prime_any k hlt w)
      have hx := HDB.out k
      have hp := primeL_lt k
      obtain ⟨x, hx2⟩ : ∃ x, x = d.getD k 0 := ⟨_, rfl⟩
      obtain ⟨p, hp2⟩ : ∃ x, x = primeL.getD k 0 := ⟨_, rfl⟩
      rw [← hx2, ← hp2] at hst
      rw [← hx2] at hx
      rw [← hp2] at hp PR
      have HX := Lib.hid hx2
      clear hx2 hp2
      obtain ⟨s1, hs1⟩ : ∃ x, x = d.getD k 0 + 65536 := ⟨_, rfl⟩
      rw [← HX.out] at hs1
      obtain ⟨s2, hs2⟩ : ∃ x, x = s1 - p := ⟨_, rfl⟩
      obtain ⟨s3, hs3⟩ : ∃ x, x = s2 - b := ⟨_, rfl⟩
      have a1 : IntKind.u64.wrap ((x : Int) + 65536) = (s1 : Int) := by rw [IntKind.wrap_u64]; omega
      have a2 : IntKind.u64.wrap ((s1 : Int) - (p : Int)) = (s2 : Int) := by rw [IntKind.wrap_u64]; omega
      have a3 : IntKind.u64.wrap ((s2 : Int) - (b : Int)) = (s3 : Int) := by rw [IntKind.wrap_u64]; omega
      rw [← hs1, ← hs2, ← hs3] at hst
      have hs3b : s3 < 131072 := by omega
      obtain ⟨r, hr⟩ : ∃ x, x = s3 % 65536 := ⟨_, rfl⟩
      obtain ⟨u, hu⟩ : ∃ x, x = s3 / 65536 := ⟨_, rfl⟩
      obtain ⟨b', hb'⟩ : ∃ x, x = 1 - u := ⟨_, rfl⟩
      have d1 : (s3 : Int) % 65536 = (r : Int) := by omega
      have d2 : (s3 : Int) / 65536 = (u : Int) := by omega
      have d3 : IntKind.u64.wrap (1 - (u : Int)) = (b' : Int) := by rw [IntKind.wrap_u64]; omega
      rw [← hr, ← hu, ← hb'] at hst
      have HST := Lib.hid hst
      have hql := AT.out.1
      have hset : (q ++ d.drop k).set k r = q ++ [r] ++ d.drop (k + 1) := by
        rw [List.set_append_right _ _ (by omega), hql, Nat.sub_self, List.drop_eq_getElem_cons (by rw [HDL.out]; exact hlt), List.set_cons_zero, List.append_assoc]
        rfl
      have HSET := Lib.hid hset
      have HQL : Hid ((q ++ d.drop k).length = 17) := by show _ = _; rw [List.length_append, List.length_drop, hql, HDL.out]; omega
      have hk5 : (k : Int) < 17 := by omega
      clear hs1 hs2 hs3 hr hu hb' hst hset hql
      go_wp2_with fail
      refine region_class _ E.out.drew (by kernel_rfl) (by kernel_rfl) ?_
      refine q_run (by rfl) (v := .int .i64 (k : Int)) (fun W _ => by go_simp) ?_
      simp only [Act.put, List.setIfInBounds_toArray, List.set_cons_zero, List.set_cons_succ]
      refine q_run (by rfl) (v := .pointer (some ⟨g1, k, none⟩)) (fun W _ => by go_simp) ?_
      simp only [Act.put, List.setIfInBounds_toArray, List.set_cons_zero, List.set_cons_succ]
      refine q_run (by rfl) (v := .int .u64 (x : Int)) (fun W hW => by have hc := hW.getN 2 rfl k (by rw [HDL.out]; exact hlt); rw [← HX.out] at hc; clear hW; go_simp) ?_
      simp only [Act.put, List.setIfInBounds_toArray, List.set_cons_zero, List.set_cons_succ]
      refine q_run (by rfl) (v := .int .u64 (s1 : Int)) (fun W _ => by go_simp) ?_
      simp only [Act.put, List.setIfInBounds_toArray, List.set_cons_zero, List.set_cons_succ]
      refine q_run (by rfl) (v := .int .i64 (k : Int)) (fun W _ => by go_simp) ?_
      simp only [Act.put, List.setIfInBounds_toArray, List.set_cons_zero, List.set_cons_succ]
      refine q_call (by rfl) 39 _ (fun W => by go_simp) (fun W hW => hW.callsQ (PR.out W)) ?_
      simp only [Act.put, List.setIfInBounds_toArray, List.set_cons_zero, List.set_cons_succ]
      refine q_run (by rfl) (v := .int .u64 (s2 : Int)) (fun W _ => by go_simp) ?_
      simp only [Act.put, List.setIfInBounds_toArray, List.set_cons_zero, List.set_cons_succ]
      refine q_run (by rfl) (v := .int .u64 (b : Int)) (fun W _ => by go_simp) ?_
      simp only [Act.put, List.setIfInBounds_toArray, List.set_cons_zero, List.set_cons_succ]
      refine q_run (by rfl) (v := .int .u64 (s3 : Int)) (fun W _ => by go_simp) ?_
      simp only [Act.put, List.setIfInBounds_toArray, List.set_cons_zero, List.set_cons_succ]
      refine q_run (by rfl) (v := .int .u64 (s3 : Int)) (fun W _ => by go_simp) ?_
      simp only [Act.put, List.setIfInBounds_toArray, List.set_cons_zero, List.set_cons_succ]
      refine wpQuiet_nil ?_
      intro w6 E6
      have c1 := E6.getN 0 rfl k (by rw [HQL.out]; exact hlt)
      have f1 := E6.fzN 0 rfl k
      generalize (q ++ d.drop k).getD k 0 = old at c1
      have E7 := E6.cellN 0 rfl k r
      simp only [List.set_cons_zero] at E7
      rw [HSET.out] at E7
      have HE := Lib.hid E7
      clear E7 E6 a1 a2 a3
      go_wp2
      go_roundw
      case rel => exact ⟨k + 1, b', q ++ [r], by omega, by go_num, rfl, HST.out, HE.out⟩
      case measure => simp [intOf]; omega
    · have hk17 : k = 17 := by omega
      have E2 := E.out
      have A2 := AT.out
      rw [hk17] at A2
      rw [hk17, List.drop_eq_nil_of_le (by rw [HDL.out]; omega), List.append_nil] at E2
      have E3 := Lib.hid E2
      have hql : Hid (q.length = 17) := A2.1
      rcases HD.out q b A2 with ⟨rfl, h⟩ | ⟨rfl, h⟩
      · have HF := Lib.hid (HN.out h)
        clear h A2 E2 E hk17
        go_wp2_with (first
          | (with_reducible refine wpE_load (o := ⟨some 30, _, _, _, _, _⟩) rfl 55 (.tmp 1) rfl 2 g1 55 (natsC (d)) _ (by with_unfolding_all rfl) (by with_unfolding_all rfl) Try.underlying55 rfl (sizeN Try.sz17 _ HDL.out) E3.out ?_)
          | ((with_reducible refine wpE_store (o := ⟨none, _, _, _, _, _⟩) rfl 55 (.tmp 2) (.tmp 30) rfl 1 g2 55 (natsC (zero17)) (natsC (d)) (by with_unfolding_all rfl) (by with_unfolding_all rfl) (by with_unfolding_all rfl) (natsC_same zero17_length HDL.out) (sizeN Try.sz17 _ HDL.out) (natsC_one _) E3.out ?_); intro w9 E9; simp only [List.set_cons_zero, List.set_cons_succ] at E9))
        rw [HF.out]
        exact bodyPost_ret (results_cell_row rfl _ _ g2 55 (natsC (d)) (0, 0) _ rfl (E9.row 1 rfl) Try.underlying55 rfl (sizeN Try.sz17 _ HDL.out)) rfl (E9.ret _)
      · have HF := Lib.hid h
        clear h A2 E2 E hk17
        go_wp2_with (first
          | (with_reducible refine wpE_load (o := ⟨some 31, _, _, _, _, _⟩) rfl 55 (.tmp 3) rfl 0 g3 55 (natsC (q)) _ (by with_unfolding_all rfl) (by with_unfolding_all rfl) Try.underlying55 rfl (sizeN Try.sz17 _ hql.out) E3.out ?_)
          | ((with_reducible refine wpE_store (o := ⟨none, _, _, _, _, _⟩) rfl 55 (.tmp 2) (.tmp 31) rfl 1 g2 55 (natsC (zero17)) (natsC (q)) (by with_unfolding_all rfl) (by with_unfolding_all rfl) (by with_unfolding_all rfl) (natsC_same zero17_length hql.out) (sizeN Try.sz17 _ hql.out) (natsC_one _) E3.out ?_); intro w9 E9; simp only [List.set_cons_zero, List.set_cons_succ] at E9))
        rw [← HF.out]
        exact bodyPost_ret (results_cell_row rfl _ _ g2 55 (natsC (q)) (0, 0) _ rfl (E9.row 1 rfl) Try.underlying55 rfl (sizeN Try.sz17 _ hql.out)) rfl (E9.ret _)
end Go.Proofs.Ytejingggfbmbjaa
