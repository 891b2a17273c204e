/-
  Contract of the document's Sub (layer 6). Conditions: the numbers are below p.
-/
import Derived.Test.YtejingggfbmbjaaFieldRefD
namespace Go.Proofs.Ytejingggfbmbjaa
open Go.RowKit
set_option linter.unusedVariables false
set_option maxRecDepth 20000

/-- What is owed, as the program's word has it: bp, or one less than nothing (bm). -/
def owedN (bp bm : Nat) : Nat := if bm = 1 then 18446744073709551615 else bp
/-- What stands when k digits have been taken away: q; bp is owed, or bm is left over. -/
def subAt (x y q : List Nat) (k bp bm : Nat) : Prop := q.length = k ∧ (∀ v ∈ q, v < 65536) ∧ ((bm = 0 ∧ bp ≤ 2) ∨ (bm = 1 ∧ bp = 0)) ∧ valR (x.take k) + valR (primeL.take k) + bp * Bx ^ k = valR (y.take k) + valR q + bm * Bx ^ k
theorem subAt_zero (x y : List Nat) : subAt x y [] 0 0 0 := ⟨rfl, by simp, by omega, by simp [valR]⟩
theorem subAt_step {x y q : List Nat} {k bp bm n : Nat} (hx : x.getD k 0 < 65536) (hy : y.getD k 0 < 65536) (hk : k < 16) (hxl : x.length = 16) (hyl : y.length = 16) (h : subAt x y q k bp bm) (hn : n + y.getD k 0 + bp = x.getD k 0 + primeL.getD k 0 + 131072 + bm) :
    subAt x y (q ++ [n % 65536]) (k + 1) (2 - n / 65536) (n / 65536 - 2) ∧ n < 262144 ∧ n / 65536 < 4 := by
  obtain ⟨h1, h2, h3, h4⟩ := h
  have hp := primeL_lt k
  have hn4 : n < 262144 := by omega
  refine ⟨⟨by simp [h1], ?_, by omega, ?_⟩, hn4, by omega⟩
  · intro v hv
    rcases List.mem_append.1 hv with hv | hv
    · exact h2 v hv
    · simp at hv; omega
  · rw [takeR_val x k (by omega), takeR_val y k (by omega), takeR_val primeL k (by rw [primeL_length]; omega), valR_append, h1, Nat.pow_succ]
    have e : x.getD k 0 + primeL.getD k 0 + 65536 * (2 - n / 65536) + bm = y.getD k 0 + bp + n % 65536 + 65536 * (n / 65536 - 2) := by omega
    generalize n % 65536 = o at e ⊢
    generalize 2 - n / 65536 = b1 at e ⊢
    generalize n / 65536 - 2 = b2 at e ⊢
    have e2 := congrArg (Bx ^ k * ·) e
    simp only [Nat.mul_add] at e2
    have e3 : valR [o] = o := by simp [valR]
    have e4 : ∀ b, b * (Bx ^ k * Bx) = Bx ^ k * (65536 * b) := fun b => by rw [Nat.mul_comm b, Nat.mul_assoc]; rfl
    rw [e3, e4, e4]
    have e5 : bp * Bx ^ k = Bx ^ k * bp := Nat.mul_comm _ _
    have e6 : bm * Bx ^ k = Bx ^ k * bm := Nat.mul_comm _ _
    omega
theorem primeL16 : valR (primeL.take 16) = pF := by decide +kernel
theorem sub_done {a b : Nat} {q : List Nat} {bp bm : Nat} (ha : a < pF) (hb : b < pF) (h : subAt (digR 16 a) (digR 16 b) q 16 bp bm) : q.length = 16 ∧ (∀ v ∈ q, v < 65536) ∧ valR q % pF = subF a b := by
  obtain ⟨h1, h2, h3, h4⟩ := h
  refine ⟨h1, h2, ?_⟩
  have hq := valR_lt q h2
  rw [h1] at hq
  rw [List.take_of_length_le (l := digR 16 a) (by rw [digR_length]; omega), List.take_of_length_le (l := digR 16 b) (by rw [digR_length]; omega), primeL16, dig_val16 a ha, dig_val16 b hb] at h4
  have hT := Bx16
  have e : valR q + b = a + pF := by
    generalize Bx ^ 16 = T at *
    rcases h3 with ⟨rfl, h3⟩ | ⟨rfl, rfl⟩
    · rcases (show bp = 0 ∨ bp = 1 ∨ bp = 2 by omega) with rfl | rfl | rfl <;> omega
    · omega
  unfold subF
  rw [show valR q = a + (pF - b) by omega]

set_option maxHeartbeats 4000000 in
theorem refSub_any (a b : Nat) (ha : a < pF) (hb : b < pF) (w : World) :
    Calls Try.prog 25 #[.agg (natsC (digR 16 a)), .agg (natsC (digR 16 b))] w (RetV w (.agg (natsC (digR 16 (subF a b))))) := by
  obtain ⟨x, hx⟩ : ∃ x, x = digR 16 a := ⟨_, rfl⟩
  obtain ⟨y, hy⟩ : ∃ y, y = digR 16 b := ⟨_, rfl⟩
  have hxl : x.length = 16 := by rw [hx, digR_length]
  have hyl : y.length = 16 := by rw [hy, digR_length]
  have hxb : ∀ k, x.getD k 0 < 65536 := fun k => by rw [hx]; exact digD_lt a k
  have hyb : ∀ k, y.getD k 0 < 65536 := fun k => by rw [hy]; exact digD_lt b k
  have LE : Hid (∀ q bp bm, subAt x y q 16 bp bm → ∀ w, Calls Try.prog 34 #[.agg (natsC (q ++ [0]))] w (RetV w (.agg (natsC (digR 16 (subF a b)))))) := fun q bp bm hq w => by
    rw [hx, hy] at hq
    obtain ⟨h1, h2, h3⟩ := sub_done ha hb hq
    have h := least_any (q ++ [0]) (by simp [h1]) (with0_lt q 70368744177664 (fun v hv => Nat.lt_trans (h2 v hv) (by decide)) (by omega)) w
    rwa [with0_val _ h1, h3] at h
  rw [← hx, ← hy]
  have HXL := Lib.hid hxl
  have HYL := Lib.hid hyl
  have HXB := Lib.hid hxb
  have HYB := Lib.hid hyb
  have HR : Hid ((digR 16 (subF a b)).length = 16) := digR_length 16 _
  generalize digR 16 (subF a b) = res at LE HR ⊢
  clear hx hy hxl hyl hxb hyb
  have E0 := Env.start w
  go_enter Try.func25, Try.ntmps25
  go_wp2_with (first
    | ((with_reducible refine wpE_box (o := ⟨some 2, _, _, _, _, _⟩) rfl 33 (.tmp 0) rfl (natsC (x)) (by with_unfolding_all rfl) E0 ?_); intro g1 w1 E1)
    | ((with_reducible refine wpE_box (o := ⟨some 3, _, _, _, _, _⟩) rfl 33 (.tmp 1) rfl (natsC (y)) (by with_unfolding_all rfl) E1 ?_); intro g2 w2 E2)
    | ((with_reducible refine wpE_alloc (o := ⟨some 4, _, _, _, _, _⟩) rfl 33 rfl (natsC (zero16)) Try.zero16 E2 ?_); intro g3 w3 E3)
    | ((with_reducible refine wpE_alloc (o := ⟨some 5, _, _, _, _, _⟩) rfl 55 rfl (natsC (zero17)) Try.zero17 E3 ?_); intro g4 w4 E4)
    | ((with_reducible refine wpE_store (o := ⟨none, _, _, _, _, _⟩) rfl 55 (.tmp 5) (.tmp 9) rfl 0 g4 55 (natsC (zero17)) (natsC (zero17)) (by with_unfolding_all rfl) (by with_unfolding_all rfl) (by with_unfolding_all exact zero17V) (natsC_same zero17_length zero17_length) (sizeN Try.sz17 _ zero17_length) (natsC_one _) E4 ?_); intro w5 E5; simp only [List.set_cons_zero] at E5))
  have E6 := Lib.hid E5
  clear E0 E1 E2 E3 E4 E5
  go_loopw [6, 7] (fun c i wr => ∃ (k bp bm : Nat) (q : List Nat), k ≤ 16 ∧ i = .int .i64 k ∧ c = .int .u64 ((owedN bp bm : Nat) : Int) ∧ subAt x y q k bp bm ∧ Env w [(g4, 55, natsC (q ++ List.replicate (17 - k) 0)), (g3, 33, natsC zero16), (g2, 33, natsC y), (g1, 33, natsC x)] wr) (fun _ i _ => 16 - (intOf i).toNat)
  case atStart => exact ⟨0, 0, 0, [], by omega, rfl, rfl, subAt_zero x y, E6.out⟩
  case round =>
    clear E6
    obtain ⟨k, bp, bm, q, hk, rfl, rfl, hat, hE⟩ := hrel
    have E := Lib.hid hE
    have AT := Lib.hid hat
    clear hE hat
    by_cases hlt : k < 16
    · have PR := Lib.hid (fun w => prime_any k (by omega) w)
      have hb3 := AT.out.2.2.1
      have b1 := HXB.out k
      have b2 := HYB.out k
      have hp := primeL_lt k
      obtain ⟨n, hn⟩ : ∃ n, n = x.getD k 0 + primeL.getD k 0 + 131072 + bm - y.getD k 0 - bp := ⟨_, rfl⟩
      obtain ⟨hst, hn4, hn3⟩ := subAt_step (HXB.out k) (HYB.out k) hlt HXL.out HYL.out AT.out (show n + y.getD k 0 + bp = x.getD k 0 + primeL.getD k 0 + 131072 + bm by omega)
      have hx2 : ∃ v, v = x.getD k 0 := ⟨_, rfl⟩
      obtain ⟨xv, hxv⟩ := hx2
      have hy2 : ∃ v, v = y.getD k 0 := ⟨_, rfl⟩
      obtain ⟨yv, hyv⟩ := hy2
      have HXV := Lib.hid hxv
      have HYV := Lib.hid hyv
      rw [← hxv] at hn b1
      rw [← hyv] at hn b2
      generalize primeL.getD k 0 = p at hn hp PR
      obtain ⟨ow, how⟩ : ∃ v, v = owedN bp bm := ⟨_, rfl⟩
      have how2 : (bm = 0 ∧ ow = bp) ∨ (bm = 1 ∧ ow = 18446744073709551615) := by
        rw [how]
        unfold owedN
        rcases hb3 with ⟨rfl, _⟩ | ⟨rfl, rfl⟩
        · exact .inl ⟨rfl, by simp⟩
        · exact .inr ⟨rfl, by simp⟩
      rw [← how]
      obtain ⟨s1, hs1⟩ : ∃ v, v = xv + p := ⟨_, rfl⟩
      obtain ⟨s2, hs2⟩ : ∃ v, v = s1 + 131072 := ⟨_, rfl⟩
      obtain ⟨s3, hs3⟩ : ∃ v, v = s2 - yv := ⟨_, rfl⟩
      have a1 : IntKind.u64.wrap ((xv : Int) + (p : Int)) = (s1 : Int) := by rw [IntKind.wrap_u64]; omega
      have a2 : IntKind.u64.wrap ((s1 : Int) + 131072) = (s2 : Int) := by rw [IntKind.wrap_u64]; omega
      have a3 : IntKind.u64.wrap ((s2 : Int) - (yv : Int)) = (s3 : Int) := by rw [IntKind.wrap_u64]; omega
      have a4 : IntKind.u64.wrap ((s3 : Int) - (ow : Int)) = (n : Int) := by rw [IntKind.wrap_u64]; omega
      obtain ⟨r, hr⟩ : ∃ v, v = n % 65536 := ⟨_, rfl⟩
      obtain ⟨u, hu⟩ : ∃ v, v = n / 65536 := ⟨_, rfl⟩
      obtain ⟨ow2, how3⟩ : ∃ v, v = owedN (2 - u) (u - 2) := ⟨_, rfl⟩
      have how4 : (u ≤ 2 ∧ ow2 = 2 - u) ∨ (u = 3 ∧ ow2 = 18446744073709551615) := by
        rw [how3]
        unfold owedN
        rcases (show u = 0 ∨ u = 1 ∨ u = 2 ∨ u = 3 by omega) with rfl | rfl | rfl | rfl <;> simp
      have d1 : (n : Int) % 65536 = (r : Int) := by omega
      have d2 : (n : Int) / 65536 = (u : Int) := by omega
      have d3 : IntKind.u64.wrap (2 - (u : Int)) = (ow2 : Int) := by rw [IntKind.wrap_u64]; omega
      have d4 : IntKind.u64.wrap (u : Int) = (u : Int) := wrap64 u (by omega)
      rw [← hr, ← hu] at hst
      have HST := Lib.hid hst
      have HO := Lib.hid how3
      have hql := AT.out.1
      have hset : (q ++ List.replicate (17 - k) 0).set k r = q ++ [r] ++ List.replicate (17 - (k + 1)) 0 := by
        rw [List.set_append_right _ _ (by omega), hql, Nat.sub_self, show 17 - k = (17 - (k + 1)) + 1 by omega, List.replicate_succ, List.set_cons_zero, List.append_assoc]
        rfl
      have HSET := Lib.hid hset
      have HQL : Hid ((q ++ List.replicate (17 - k) 0).length = 17) := by show _ = _; rw [List.length_append, List.length_replicate, hql]; omega
      have hk5 : (k : Int) < 16 := by omega
      have hk6 : (k : Int) < 17 := by omega
      clear hs1 hs2 hs3 hr hu how how2 how3 how4 hst hset hql hn hn4 hn3 hxv hyv hb3 b1 b2 hp
      go_wp2_with fail
      refine region_class _ E.out.drew (by kernel_rfl) (by kernel_rfl) ?_
      refine q_run (by rfl) (v := .int .i64 (k : Int)) (fun W _ => by go_simp) ?_
      simp only [Act.put, List.setIfInBounds_toArray, List.set_cons_zero, List.set_cons_succ]
      refine q_run (by rfl) (v := .pointer (some ⟨g1, k, none⟩)) (fun W _ => by go_simp) ?_
      simp only [Act.put, List.setIfInBounds_toArray, List.set_cons_zero, List.set_cons_succ]
      refine q_run (by rfl) (v := .int .u64 (xv : Int)) (fun W hW => by have hc := hW.getN 3 rfl k (by rw [HXL.out]; exact hlt); rw [← HXV.out] at hc; clear hW; go_simp) ?_
      simp only [Act.put, List.setIfInBounds_toArray, List.set_cons_zero, List.set_cons_succ]
      refine q_run (by rfl) (v := .int .i64 (k : Int)) (fun W _ => by go_simp) ?_
      simp only [Act.put, List.setIfInBounds_toArray, List.set_cons_zero, List.set_cons_succ]
      refine q_call (by rfl) 39 _ (fun W => by go_simp) (fun W hW => hW.callsQ (PR.out W)) ?_
      simp only [Act.put, List.setIfInBounds_toArray, List.set_cons_zero, List.set_cons_succ]
      refine q_run (by rfl) (v := .int .u64 (s1 : Int)) (fun W _ => by go_simp) ?_
      simp only [Act.put, List.setIfInBounds_toArray, List.set_cons_zero, List.set_cons_succ]
      refine q_run (by rfl) (v := .int .u64 (s2 : Int)) (fun W _ => by go_simp) ?_
      simp only [Act.put, List.setIfInBounds_toArray, List.set_cons_zero, List.set_cons_succ]
      refine q_run (by rfl) (v := .int .i64 (k : Int)) (fun W _ => by go_simp) ?_
      simp only [Act.put, List.setIfInBounds_toArray, List.set_cons_zero, List.set_cons_succ]
      refine q_run (by rfl) (v := .pointer (some ⟨g2, k, none⟩)) (fun W _ => by go_simp) ?_
      simp only [Act.put, List.setIfInBounds_toArray, List.set_cons_zero, List.set_cons_succ]
      refine q_run (by rfl) (v := .int .u64 (yv : Int)) (fun W hW => by have hc := hW.getN 2 rfl k (by rw [HYL.out]; exact hlt); rw [← HYV.out] at hc; clear hW; go_simp) ?_
      simp only [Act.put, List.setIfInBounds_toArray, List.set_cons_zero, List.set_cons_succ]
      refine q_run (by rfl) (v := .int .u64 (s3 : Int)) (fun W _ => by go_simp) ?_
      simp only [Act.put, List.setIfInBounds_toArray, List.set_cons_zero, List.set_cons_succ]
      refine q_run (by rfl) (v := .int .u64 (ow : Int)) (fun W _ => by go_simp) ?_
      simp only [Act.put, List.setIfInBounds_toArray, List.set_cons_zero, List.set_cons_succ]
      refine q_run (by rfl) (v := .int .u64 (n : Int)) (fun W _ => by go_simp) ?_
      simp only [Act.put, List.setIfInBounds_toArray, List.set_cons_zero, List.set_cons_succ]
      refine q_run (by rfl) (v := .int .u64 (n : Int)) (fun W _ => by go_simp) ?_
      simp only [Act.put, List.setIfInBounds_toArray, List.set_cons_zero, List.set_cons_succ]
      refine wpQuiet_nil ?_
      intro w6 E6
      have c1 := E6.getN 0 rfl k (by rw [HQL.out]; omega)
      have f1 := E6.fzN 0 rfl k
      generalize (q ++ List.replicate (17 - k) 0).getD k 0 = old at c1
      have E7 := E6.cellN 0 rfl k r
      simp only [List.set_cons_zero] at E7
      rw [HSET.out] at E7
      have HE := Lib.hid E7
      clear E7 E6 a1 a2 a3 a4
      go_wp2
      go_roundw
      case rel => exact ⟨k + 1, 2 - u, u - 2, q ++ [r], by omega, by go_num, by rw [HO.out], HST.out, HE.out⟩
      case measure => simp [intOf]; omega
    · have hk16 : k = 16 := by omega
      have E2 := E.out
      have A2 := AT.out
      rw [hk16] at A2
      rw [hk16, show List.replicate (17 - 16) (0 : Nat) = [0] from rfl] at E2
      have HE := Lib.hid E2
      have LQ := Lib.hid (LE.out q bp bm A2)
      have HQL : Hid ((q ++ [0]).length = 17) := by show _ = _; rw [List.length_append, A2.1]; rfl
      generalize owedN bp bm = ow
      clear A2 E2 E hk16 AT
      go_wp2_with (first
        | (with_reducible refine wpE_load (o := ⟨some 34, _, _, _, _, _⟩) rfl 55 (.tmp 5) rfl 0 g4 55 (natsC (q ++ [0])) _ (by with_unfolding_all rfl) (by with_unfolding_all rfl) Try.underlying55 rfl (sizeN Try.sz17 _ HQL.out) HE.out ?_)
        | ((with_reducible refine (LQ.out _).mono ?_); rintro e w6 ⟨rfl, b6⟩; have E7 := HE.out.call b6)
        | ((with_reducible refine wpE_store (o := ⟨none, _, _, _, _, _⟩) rfl 33 (.tmp 4) (.tmp 35) rfl 1 g3 33 (natsC (zero16)) (natsC (res)) (by with_unfolding_all rfl) (by with_unfolding_all rfl) (by with_unfolding_all rfl) (natsC_same zero16_length HR.out) (sizeN Try.sz16 _ HR.out) (natsC_one _) E7 ?_); intro w9 E9; simp only [List.set_cons_zero, List.set_cons_succ] at E9))
      exact bodyPost_ret (results_cell_row rfl _ _ g3 33 (natsC (res)) (0, 0) _ rfl (E9.row 1 rfl) Try.underlying33 rfl (sizeN Try.sz16 _ HR.out)) rfl (E9.ret _)
end Go.Proofs.Ytejingggfbmbjaa
