/-
  Contract of the field's Of. Conditions: the key has thirty-two bytes.
-/
import Derived.Test.YtpgjcmccfpjmoaaFieldK
import Derived.Test.YtpgjcmccfpjmoaaKeyEq
namespace Go.Proofs.Ytpgjcmccfpjmoaa
open Go.RowKit
set_option linter.unusedVariables false
set_option maxRecDepth 20000

theorem ofLowB_inj : ∀ {a b : List UInt8}, a.length = b.length → ofLowB a = ofLowB b → a = b
  | [], [], _, _ => rfl
  | x :: a, y :: b, h, he => by
    simp only [ofLowB] at he
    have h1 := x.toNat_lt
    have h2 := y.toNat_lt
    have e1 : x = y := UInt8.toNat_inj.1 (by omega)
    have e2 := ofLowB_inj (a := a) (b := b) (by simpa using h) (by omega)
    rw [e1, e2]
theorem lowB_ofLowB (key : List UInt8) (h : key.length = 32) : lowB (ofLowB key) 32 = key :=
  ofLowB_inj (by rw [lowB_length, h]) (by rw [ofLowB_lowB, ← h, Nat.mod_eq_of_lt (ofLowB_lt key)])
/-- The number of a key: without the highest bit, modulo p. -/
def numK (key : List UInt8) : Nat := ofLowB key % Mx ^ 5 % pF
theorem numK_lt (key : List UInt8) : numK key < pF := Nat.mod_lt _ (by decide)
theorem numK_key (n : Nat) (hn : n < pF) : numK (lowB n 32) = n := by
  unfold numK
  have h := pF_lt
  rw [ofLowB_lowB, Nat.mod_eq_of_lt (a := n) (b := 256 ^ 32) (Nat.lt_trans hn (by decide)), Nat.mod_eq_of_lt (Nat.lt_trans hn h), Nat.mod_eq_of_lt hn]
/-- Whether it was whole. -/
theorem whole_iff (key : List UInt8) (hk : key.length = 32) : (lowB (numK key) 32 == key) = decide (ofLowB key < pF) := by
  rw [Bool.eq_iff_iff, beq_iff_eq, decide_eq_true_eq]
  constructor
  · intro h
    have e := congrArg ofLowB h
    have hlt : numK key < 256 ^ 32 := Nat.lt_trans (numK_lt key) (by decide)
    rw [ofLowB_lowB, Nat.mod_eq_of_lt hlt] at e
    rw [← e]
    exact numK_lt key
  · intro h
    have e : numK key = ofLowB key := by
      unfold numK
      rw [Nat.mod_eq_of_lt (Nat.lt_trans h pF_lt), Nat.mod_eq_of_lt h]
    rw [e, lowB_ofLowB key hk]

set_option maxHeartbeats 2000000 in
theorem Of_any (key : List UInt8) (hk : key.length = 32) (w : World) :
    Calls Try.prog 23 #[keyV key] w (RetV w (.tuple #[.agg (natsC (elemL (numK key))), .bool (decide (ofLowB key < pF))])) := by
  have RD : Hid (∀ w, Calls Try.prog 37 #[.agg (keyC key)] w (RetV w (.agg (natsC (digL 5 (ofLowB key)))))) := read_any key hk
  have RE : Hid (∀ w, Calls Try.prog 36 #[.agg (natsC (digL 5 (ofLowB key)))] w (RetV w (.agg (natsC (elemL (numK key)))))) := fun w => by
    have h := reduced_any w (digL 5 (ofLowB key)) (digL_length 5 _) (fun x hx => Nat.lt_trans (digL_lt 5 _ x hx) (by decide))
    rw [valL_digL] at h
    exact h
  have KK : Hid (∀ w, Calls Try.prog 25 #[.agg (natsC (elemL (numK key)))] w (RetV w (.agg (keyC (lowB (numK key) 32))))) := Key_any (numK key) (numK_lt key)
  have HQ := Lib.hid (fun W => Try.eqKeyIn (lowB (numK key) 32) key (lowB_length _ _) hk W)
  rw [whole_iff key hk] at HQ
  generalize decide (ofLowB key < pF) = b at HQ ⊢
  have HK := Lib.hid hk
  clear hk
  generalize digL 5 (ofLowB key) = z at RD RE
  generalize numK key = n at RE KK HQ ⊢
  have E0 := Env.start w
  go_enter Try.func23, Try.ntmps23
  go_wp2_with (first
    | ((with_reducible refine wpE_box (o := ⟨some 1, _, _, _, _, _⟩) rfl 23 (.tmp 0) rfl (keyC key) (by with_unfolding_all rfl) E0 ?_); intro g1 w1 E1)
    | ((with_reducible refine wpE_alloc (o := ⟨some 2, _, _, _, _, _⟩) rfl 45 rfl (natsC (zero5)) Try.zero5e E1 ?_); intro g2 w2 E2)
    | (with_reducible refine wpE_load (o := ⟨some 4, _, _, _, _, _⟩) rfl 23 (.tmp 1) rfl 1 g1 23 (keyC (key)) _ (by with_unfolding_all rfl) (by with_unfolding_all rfl) Try.underlying23 rfl (Try.sizeKey _ HK.out) E2 ?_)
    | ((with_reducible refine (RD.out _).mono ?_); rintro e w3 ⟨rfl, b_w3⟩; have E3 := E2.call b_w3; clear b_w3)
    | ((with_reducible refine (RE.out _).mono ?_); rintro e w4 ⟨rfl, b_w4⟩; have E4 := E3.call b_w4; clear b_w4)
    | ((with_reducible refine wpE_store (o := ⟨none, _, _, _, _, _⟩) rfl 45 (.tmp 2) (.tmp 6) rfl 0 g2 45 (natsC (zero5)) (natsC (elemL n)) (by with_unfolding_all rfl) (by with_unfolding_all rfl) (by with_unfolding_all rfl) (natsC_same zero5_length (elemL_length _)) (sizeN Try.sz5e _ (elemL_length _)) (natsC_one _) E4 ?_); intro w5 E5; simp only [List.set_cons_zero] at E5))
  refine region_class _ E5.drew (by kernel_rfl) (by kernel_rfl) ?_
  refine qE_load (by rfl) _ (.tmp 2) rfl 0 g2 45 (natsC (elemL n)) _ rfl rfl Try.underlying45 rfl (sizeN Try.sz5e _ (elemL_length _)) ?_
  simp only [Act.put, List.setIfInBounds_toArray, List.set_cons_zero, List.set_cons_succ]
  refine qE_load (by rfl) _ (.tmp 2) rfl 0 g2 45 (natsC (elemL n)) _ rfl rfl Try.underlying45 rfl (sizeN Try.sz5e _ (elemL_length _)) ?_
  simp only [Act.put, List.setIfInBounds_toArray, List.set_cons_zero, List.set_cons_succ]
  refine q_call (by rfl) 25 _ (fun W => by go_simp) (fun W hW => hW.calls (KK.out W)) ?_
  simp only [Act.put, List.setIfInBounds_toArray, List.set_cons_zero, List.set_cons_succ]
  refine qE_load (by rfl) _ (.tmp 1) rfl 1 g1 23 (keyC (key)) _ rfl rfl Try.underlying23 rfl (Try.sizeKey _ HK.out) ?_
  simp only [Act.put, List.setIfInBounds_toArray, List.set_cons_zero, List.set_cons_succ]
  refine q_run (by rfl) (v := .bool b) (fun W _ => by have hq := HQ.out; have hg := Try.eqGuardKey; clear E5 HQ; go_simp) ?_
  simp only [Act.put, List.setIfInBounds_toArray, List.set_cons_zero, List.set_cons_succ]
  refine qE_same (by rfl) 45 (.tmp 2) (.tmp 7) rfl 0 g2 45 (natsC (elemL n)) rfl rfl rfl (sizeN Try.sz5e _ (elemL_length _)) (natsC_one _) ?_
  simp only [Act.put]
  refine q_run (by rfl) (v := .bool b) (fun W _ => by go_simp) ?_
  simp only [Act.put, List.setIfInBounds_toArray, List.set_cons_zero, List.set_cons_succ]
  refine wpQuiet_nil ?_
  intro w8 E8
  go_wp2
  exact bodyPost_ret (ret_row_tmp rfl _ g2 45 (natsC (elemL n)) _ rfl (E8.row 0 rfl) Try.underlying45 rfl (sizeN Try.sz5e _ (elemL_length _))) rfl (E8.ret _)
end Go.Proofs.Ytpgjcmccfpjmoaa
