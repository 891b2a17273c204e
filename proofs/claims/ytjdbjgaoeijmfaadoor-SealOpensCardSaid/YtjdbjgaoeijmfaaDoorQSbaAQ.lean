/-
  Texts that belong together, merged: SealRefD, SealRefI. Conditions: as each theorem names them.
-/
import Derived.Test.YtjdbjgaoeijmfaaDoorQSbaAP
import Derived.Test.YtjdbjgaoeijmfaaDoorQSbaAN
import Derived.Test.YtjdbjgaoeijmfaaDoorQSbaAM
section
namespace Go.Proofs.YtjdbjgaoeijmfaaDoor
open Go.RowKit
set_option linter.unusedVariables false
set_option maxRecDepth 20000

set_option maxHeartbeats 4000000 in
theorem refOpen_ok (w0 w : World) (g n : Nat) (hr : LogR w0 w g n w) (hn : n ≤ 900000) (key : List UInt8) (hk : key.length = 32) (va vt : Value) (aside hid end_ : List UInt8) (ha : Bs w va aside) (ht : Bs w vt (hid ++ end_)) (hal : aside.length ≤ 4000) (htl : hid.length ≤ 4000) (hel : end_.length = 32) :
    Calls Tryd.prog 15 #[.pointer (some ⟨g, 0, none⟩), keyV key, va, vt] w fun e x => ∃ u n', n' ≤ n + 9 ∧ e = .returned (.tuple #[u, .int .i64 (if tagB key aside hid = end_ then 0 else 20)]) ∧ Bs x u (if tagB key aside hid = end_ then hidB key hid else []) ∧ LogR w0 w g n' x := by
  have HR := Lib.hid hr
  have HK := Lib.hid hk
  have HA := Lib.hid ha
  have hgl := hr.glt
  obtain ⟨AA, ac, rfl, _, _, _⟩ := ha
  have ht2 := ht
  obtain ⟨TA, tc, rfl, t1, t2, _⟩ := ht2
  obtain ⟨m, hm⟩ : ∃ m, m = hid.length := ⟨_, rfl⟩
  have hlen : (hid ++ end_).length = m + 32 := by rw [List.length_append, hel, hm]
  have HH := Lib.hid (ht.upto m (by rw [hlen]; omega))
  have HE := Lib.hid (ht.cut m (by rw [hlen]; omega))
  rw [hlen] at HE t1
  have hne : ¬ tc = m := by omega
  rw [if_neg hne, show m + 32 - m = 32 by omega, List.drop_left' hm.symm] at HE
  rw [List.take_left' hm.symm] at HH
  rw [hlen]
  obtain ⟨kx, hkx⟩ : ∃ k, k = hideK key := ⟨_, rfl⟩
  obtain ⟨tg, htg⟩ : ∃ h, h = tagB key aside hid := ⟨_, rfl⟩
  obtain ⟨res, hres⟩ : ∃ h, h = hidB key hid := ⟨_, rfl⟩
  have LX : Hid (kx.length = 32) := by show _ = _; rw [hkx]; exact hideK_length key
  have LT : Hid (tg.length = 32) := by show _ = _; rw [htg, tagB, macB_length]
  have HD : Hid (∀ x k, LogR w0 x g k x → k ≤ 1000000 → Calls Tryd.prog 20 #[.pointer (some ⟨g, 0, none⟩), .agg (keyC key), .string { data := #[104, 105, 100, 101] }, .slice none 0 0] x fun e w' => ∃ n', n' ≤ k + 3 ∧ e = .returned (.agg (keyC kx)) ∧ LogR w0 x g n' w') := fun x k h hm => by
    have h1 := refDerive_none w0 x g k { data := #[104, 105, 100, 101] } (by decide) key h hm HK.out (by decide)
    rw [hkx]
    exact h1
  have HMX : Hid (∀ x, Bs x (.slice TA m tc) hid → Calls Tryd.prog 21 #[.agg (keyC kx), .int .u32 0, .agg #[.int .u8 0, .int .u8 0, .int .u8 0, .int .u8 0, .int .u8 0, .int .u8 0, .int .u8 0, .int .u8 0, .int .u8 0, .int .u8 0, .int .u8 0, .int .u8 0], .slice TA m tc] x fun e w' => ∃ u, e = .returned (.tuple #[u, .int .i64 0]) ∧ OwnB w' x.heap.size 5 u res ∧ Below x.heap.size x w') := fun x h => by
    have h1 := refMix_own x kx nonce0 hid 0 _ h LX.out nonce0_length htl
    unfold keyV at h1
    rw [← nonce0V, show ((0 : UInt32).toNat : Int) = 0 from rfl, show mixS kx 0 nonce0 hid = res by rw [hkx, hres]; rfl] at h1
    exact h1
  have HTG : Hid (∀ x k, LogR w0 x g k x → k ≤ 950000 → Bs x (.slice AA aside.length ac) aside → Bs x (.slice TA m tc) hid → Calls Tryd.prog 13 #[.pointer (some ⟨g, 0, none⟩), .agg (keyC key), .slice AA aside.length ac, .slice TA m tc] x fun e y => ∃ n', n' ≤ k + 6 ∧ e = .returned (.agg (keyC tg)) ∧ LogR w0 x g n' y) := fun x k h hm h1 h2 => by
    rw [htg]
    exact refTag_any w0 x g k h hm key HK.out _ _ aside hid h1 h2 hal (by omega)
  have HBY : Hid (∀ x, Calls Tryd.prog 16 #[.agg (keyC tg)] x (RetOwn x 5 tg)) := fun x => refBytes_own x tg LT.out
  rw [← htg, ← hres]
  have d1 : decide ((4000 : Int) < (aside.length : Int)) = false := by simp; omega
  have d2 : decide ((4032 : Int) < ((m + 32 : Nat) : Int)) = false := by simp; omega
  have d3 : decide (((m + 32 : Nat) : Int) < 32) = false := by simp; omega
  have w1' : IntKind.i64.wrap (((m + 32 : Nat) : Int) - 32) = (m : Int) := by rw [IntWalk.i64_in _ (by omega)]; omega
  obtain ⟨M, hM⟩ : ∃ M, M = m + 32 := ⟨_, rfl⟩
  rw [← hM] at d2 d3 w1' t1 ⊢
  have q1 : (m : Int) ≤ (M : Int) := by omega
  have q2 : M - m = 32 := by omega
  have q3 : (m : Int) ≤ (tc : Int) := by omega
  have q4 : ((M : Int) - 32) = (m : Int) := by omega
  have w2' : IntKind.i64.wrap (m : Int) = (m : Int) := IntWalk.i64_in _ (by omega)
  obtain ⟨ec, hec⟩ : ∃ c : Int, c = if tg = end_ then 0 else 20 := ⟨_, rfl⟩
  obtain ⟨bl, hbl⟩ : ∃ c : List UInt8, c = if tg = end_ then res else [] := ⟨_, rfl⟩
  rw [← hec, ← hbl]
  have HEC := Lib.hid hec
  have HBL := Lib.hid hbl
  unfold maxLen at t2
  clear hec hbl htg hres hkx hr hk hlen hel hM ht hm
  go_enter Tryd.func15, Tryd.ntmps15
  go_wp2_with (first
    | ((with_reducible refine wpList_box_row (o := ⟨some 5, _, _, _, _, _⟩) rfl 23 (.tmp 1) rfl (keyC key) (by with_unfolding_all rfl) ?_); intro g5 w1 n1)
    | (with_reducible refine wpList_load_row (o := ⟨some 32, _, _, _, _, _⟩) rfl 23 (.tmp 5) rfl g5 (by with_unfolding_all rfl) 23 (keyC key) (0, 0) (.array 32 5) (by with_unfolding_all exact n1.row) Tryd.underlying23 rfl (Tryd.sizeKey key HK.out) ?_))
  have R1 := Lib.hid (HR.out.kept n1.below)
  have K1 := Lib.hid n1.row
  have h5g : g5 ≠ g := by have := n1.spot; omega
  clear n1 HR
  refine (HTG.out _ n (by exact R1.out.self) (by omega) (by exact R1.out.bs HA.out) (by exact R1.out.bs HH.out)).mono ?_
  intro e w3 h
  obtain ⟨n3, hn3, he, r3⟩ := h
  subst he
  have R3 := Lib.hid (R1.out.trans r3)
  have K3 := Lib.hid (r3.other K1.out h5g)
  clear r3 R1 K1 HTG
  go_wp2_with (first
    | ((with_reducible refine wpList_alloc_row (o := ⟨some 11, _, _, _, _, _⟩) rfl 23 rfl (keyC zeroKey) Tryd.zeroK ?_); intro g11 w4 n4)
    | ((with_reducible refine wpList_store_row (o := ⟨none, _, _, _, _, _⟩) rfl 23 (.tmp 11) (.tmp 35) rfl g11 23 _ (keyC tg) (by with_unfolding_all rfl) (by with_unfolding_all rfl) n4.row (keyC_same zeroKey_length LT.out) (Tryd.sizeKey tg LT.out) (keyC_one tg) ?_); intro w5 p5; have b5 := (laid_put n4 p5).1; have R5 := Lib.hid (R3.out.kept b5); have K5 := Lib.hid (K3.out.kept b5); have T5 := Lib.hid p5.row; clear n4 p5 b5 R3 K3))
  refine plain_region (S := fun x => RowAt x g11 23 (keyC tg)) (fin := fun _ => false) (by kernel_rfl) ?_
  have hS : RowAt w5.drew g11 23 (keyC tg) := T5.out
  change walkS _ _ _ _ _ _ 9 _ _ _
  refine walkS_take (i := 0) (oi := ⟨some 36, _, _, _, _, _⟩) (v := .agg (keyC tg)) rfl (by kernel_rfl) (by kernel_rfl) (fun _ _ _ h => h) _ _ _ _ (by kernel_rfl) (by kernel_rfl) (Or.inl ⟨by rfl, fun w' hS' => run_load_row 23 (.tmp 11) rfl g11 rfl 23 (keyC tg) (0, 0) _ hS' Tryd.underlying23 rfl (Tryd.sizeKey tg LT.out)⟩) hS ?_
  simp only [Act.put, List.setIfInBounds_toArray, List.set_cons_zero, List.set_cons_succ]
  refine walkS_take (i := 2) (oi := ⟨some 38, _, _, _, _, _⟩) (v := .slice TA M tc) rfl (by kernel_rfl) (by kernel_rfl) (fun _ _ _ h => h) _ _ _ _ (by kernel_rfl) (by kernel_rfl) (Or.inl ⟨by rfl, fun w' hS' => (by clear hS hS'; go_simp)⟩) hS ?_
  simp only [Act.put, List.setIfInBounds_toArray, List.set_cons_zero, List.set_cons_succ]
  refine walkS_take (i := 3) (oi := ⟨some 39, _, _, _, _, _⟩) (v := .slice TA M tc) rfl (by kernel_rfl) (by kernel_rfl) (fun _ _ _ h => h) _ _ _ _ (by kernel_rfl) (by kernel_rfl) (Or.inl ⟨by rfl, fun w' hS' => (by clear hS hS'; go_simp)⟩) hS ?_
  simp only [Act.put, List.setIfInBounds_toArray, List.set_cons_zero, List.set_cons_succ]
  refine walkS_take (i := 4) (oi := ⟨some 40, _, _, _, _, _⟩) (v := .int .i64 (M : Int)) rfl (by kernel_rfl) (by kernel_rfl) (fun _ _ _ h => h) _ _ _ _ (by kernel_rfl) (by kernel_rfl) (Or.inl ⟨by rfl, fun w' hS' => (by clear hS hS'; go_simp)⟩) hS ?_
  simp only [Act.put, List.setIfInBounds_toArray, List.set_cons_zero, List.set_cons_succ]
  refine walkS_take (i := 5) (oi := ⟨some 41, _, _, _, _, _⟩) (v := .int .i64 (m : Int)) rfl (by kernel_rfl) (by kernel_rfl) (fun _ _ _ h => h) _ _ _ _ (by kernel_rfl) (by kernel_rfl) (Or.inl ⟨by rfl, fun w' hS' => (by clear hS hS'; go_simp)⟩) hS ?_
  simp only [Act.put, List.setIfInBounds_toArray, List.set_cons_zero, List.set_cons_succ]
  refine walkS_take (i := 6) (oi := ⟨some 42, _, _, _, _, _⟩) (v := .slice (Option.map (fun x => x.add m) TA) 32 (tc - m)) rfl (by kernel_rfl) (by kernel_rfl) (fun _ _ _ h => h) _ _ _ _ (by kernel_rfl) (by kernel_rfl) (Or.inl ⟨by rfl, fun w' hS' => (by clear hS hS'; go_simp)⟩) hS ?_
  simp only [Act.put, List.setIfInBounds_toArray, List.set_cons_zero, List.set_cons_succ]
  refine walkS_only (i := 1) (o := ⟨some 37, _, _, _, _, _⟩) (by kernel_rfl) rfl rfl fun KK hKK => ?_
  go_simp
  refine (HBY.out w5.drew).mono ?_
  intro e wa h
  obtain ⟨vb, he, hvb, ba⟩ := h
  subst he
  have hS2 : RowAt wa g11 23 (keyC tg) := hS.kept ba
  refine hKK _ _ (.inr hS2) ?_
  have BA := Lib.hid (below_size (Below.refl _ w5).drew ba)
  have HV := Lib.hid hvb.bs
  clear hKK KK hS ba hvb
  try simp only [Act.put, List.setIfInBounds_toArray, List.set_cons_zero, List.set_cons_succ]
  refine walkS_only (i := 7) (o := ⟨some 43, _, _, _, _, _⟩) (by kernel_rfl) rfl rfl fun KK hKK => ?_
  go_simp
  refine (same_ret wa _ _ tg end_ HV.out ((R5.out.bs HE.out).below BA.out)).mono ?_
  intro e wb h
  obtain ⟨he, bb⟩ := h
  subst he
  have hS : RowAt wb g11 23 (keyC tg) := hS2.kept bb
  refine hKK _ _ (.inr hS) ?_
  have R6 := Lib.hid (R5.out.kept (below_size BA.out bb))
  have K6 := Lib.hid (K5.out.kept (below_size BA.out bb))
  clear hKK KK hS2 bb BA HV HE R5 K5 T5
  try simp only [Act.put, List.setIfInBounds_toArray, List.set_cons_zero, List.set_cons_succ]
  obtain ⟨ne, hne2⟩ : ∃ b, b = !(tg == end_) := ⟨_, rfl⟩
  refine walkS_take (i := 8) (oi := ⟨some 44, _, _, _, _, _⟩) (v := .bool ne) rfl (by kernel_rfl) (by kernel_rfl) (fun _ _ _ h => h) _ _ _ _ (by kernel_rfl) (by kernel_rfl) (Or.inl ⟨by rfl, fun w' hS' => (by rw [hne2]; clear hS hS'; go_simp)⟩) hS ?_
  simp only [Act.put, List.setIfInBounds_toArray, List.set_cons_zero, List.set_cons_succ]
  refine walkS_done (by kernel_rfl) ?_ _
  clear hS
  by_cases heq : tg = end_
  · have hb : ne = false := by rw [hne2, heq, beq_self_eq_true]; rfl
    have HEQ := Lib.hid heq
    subst hb
    clear heq hne2
    go_wp2_with (with_reducible refine wpList_load_row (o := ⟨some 46, _, _, _, _, _⟩) rfl 23 (.tmp 5) rfl g5 (by with_unfolding_all rfl) 23 (keyC key) (0, 0) (.array 32 5) (by with_unfolding_all exact K6.out) Tryd.underlying23 rfl (Tryd.sizeKey key HK.out) ?_)
    refine (HD.out _ n3 (by exact R6.out.self) (by omega)).mono ?_
    intro e w7 h
    obtain ⟨n7, hn7, he, r7⟩ := h
    subst he
    have R7 := Lib.hid (R6.out.trans r7)
    clear r7 R6 K6 HD
    go_wp2_with (first
      | ((with_reducible refine wpList_alloc_row (o := ⟨some 12, _, _, _, _, _⟩) rfl 23 rfl (keyC zeroKey) Tryd.zeroK ?_); intro g12 w8 n8)
      | ((with_reducible refine wpList_store_row (o := ⟨none, _, _, _, _, _⟩) rfl 23 (.tmp 12) (.tmp 47) rfl g12 23 _ (keyC kx) (by with_unfolding_all rfl) (by with_unfolding_all rfl) n8.row (keyC_same zeroKey_length LX.out) (Tryd.sizeKey kx LX.out) (keyC_one kx) ?_); intro w9 p9; have b9 := (laid_put n8 p9).1; have R9 := Lib.hid (R7.out.kept b9); have X9 := Lib.hid p9.row; clear n8 p9 b9 R7)
      | (with_reducible refine wpList_load_row (o := ⟨some 49, _, _, _, _, _⟩) rfl 23 (.tmp 12) rfl g12 (by with_unfolding_all rfl) 23 (keyC kx) (0, 0) (.array 32 5) (by with_unfolding_all exact X9.out) Tryd.underlying23 rfl (Tryd.sizeKey kx LX.out) ?_))
    refine (HMX.out _ (by exact R9.out.bs HH.out)).mono ?_
    intro e wc h
    obtain ⟨u, he, oc, bc⟩ := h
    subst he
    have Rc := Lib.hid (R9.out.kept bc)
    have Uc := Lib.hid oc.bs
    clear oc bc R9 X9 HMX
    go_wp2
    go_ret2
    exact ⟨u, n7, by omega, by rw [HEC.out, if_pos HEQ.out]; rfl, by rw [HBL.out, if_pos HEQ.out]; exact Uc.out, Rc.out⟩
  · have hb : ne = true := by rw [hne2, beq_eq_false_iff_ne.2 heq]; rfl
    have HEQ := Lib.hid heq
    subst hb
    clear heq hne2
    go_wp2
    go_ret2
    exact ⟨_, n3, by omega, by rw [HEC.out, if_neg HEQ.out]; rfl, by rw [HBL.out, if_neg HEQ.out]; exact Bs.nil _, R6.out⟩
end Go.Proofs.YtjdbjgaoeijmfaaDoor
end
section
namespace Go.Proofs.YtjdbjgaoeijmfaaDoor
open Go.RowKit
set_option linter.unusedVariables false
set_option maxRecDepth 20000

set_option maxHeartbeats 1000000 in
theorem refSeal_long (w : World) (M : Value) (key : List UInt8) (va vt : Value) (aside text : List UInt8) (ha : Bs w va aside) (ht : Bs w vt text) (h : 4000 < aside.length ∨ 4000 < text.length) :
    Calls Tryd.prog 10 #[M, keyV key, va, vt] w fun e x => e = .returned (.tuple #[.slice none 0 0, .int .i64 2]) ∧ Below w.heap.size w x := by
  obtain ⟨AA, ac, rfl, _, _, _⟩ := ha
  obtain ⟨TA, tc, rfl, _, _, _⟩ := ht
  by_cases h1 : 4000 < aside.length
  · have d1 : decide ((4000 : Int) < (aside.length : Int)) = true := by simp; omega
    clear h h1
    go_enter Tryd.func10, Tryd.ntmps10
    go_wp2_with ((with_reducible refine wpList_box_row (o := ⟨some 5, _, _, _, _, _⟩) rfl 23 (.tmp 1) rfl (keyC key) (by with_unfolding_all rfl) ?_); intro g5 w1 n1)
    go_ret2
    exact ⟨rfl, n1.below⟩
  · have d1 : decide ((4000 : Int) < (aside.length : Int)) = false := by simp; omega
    have d2 : decide ((4000 : Int) < (text.length : Int)) = true := by simp; omega
    clear h h1
    go_enter Tryd.func10, Tryd.ntmps10
    go_wp2_with ((with_reducible refine wpList_box_row (o := ⟨some 5, _, _, _, _, _⟩) rfl 23 (.tmp 1) rfl (keyC key) (by with_unfolding_all rfl) ?_); intro g5 w1 n1)
    go_ret2
    exact ⟨rfl, n1.below⟩
set_option maxHeartbeats 1000000 in
theorem refOpen_long (w : World) (M : Value) (key : List UInt8) (va vt : Value) (aside box : List UInt8) (ha : Bs w va aside) (ht : Bs w vt box) (h : 4000 < aside.length ∨ 4032 < box.length) :
    Calls Tryd.prog 15 #[M, keyV key, va, vt] w fun e x => e = .returned (.tuple #[.slice none 0 0, .int .i64 2]) ∧ Below w.heap.size w x := by
  obtain ⟨AA, ac, rfl, _, _, _⟩ := ha
  obtain ⟨TA, tc, rfl, _, _, _⟩ := ht
  by_cases h1 : 4000 < aside.length
  · have d1 : decide ((4000 : Int) < (aside.length : Int)) = true := by simp; omega
    clear h h1
    go_enter Tryd.func15, Tryd.ntmps15
    go_wp2_with ((with_reducible refine wpList_box_row (o := ⟨some 5, _, _, _, _, _⟩) rfl 23 (.tmp 1) rfl (keyC key) (by with_unfolding_all rfl) ?_); intro g5 w1 n1)
    go_ret2
    exact ⟨rfl, n1.below⟩
  · have d1 : decide ((4000 : Int) < (aside.length : Int)) = false := by simp; omega
    have d2 : decide ((4032 : Int) < (box.length : Int)) = true := by simp; omega
    clear h h1
    go_enter Tryd.func15, Tryd.ntmps15
    go_wp2_with ((with_reducible refine wpList_box_row (o := ⟨some 5, _, _, _, _, _⟩) rfl 23 (.tmp 1) rfl (keyC key) (by with_unfolding_all rfl) ?_); intro g5 w1 n1)
    go_ret2
    exact ⟨rfl, n1.below⟩
set_option maxHeartbeats 1000000 in
theorem refOpen_short (w : World) (M : Value) (key : List UInt8) (va vt : Value) (aside box : List UInt8) (ha : Bs w va aside) (ht : Bs w vt box) (h1 : aside.length ≤ 4000) (h2 : box.length < 32) :
    Calls Tryd.prog 15 #[M, keyV key, va, vt] w fun e x => e = .returned (.tuple #[.slice none 0 0, .int .i64 3]) ∧ Below w.heap.size w x := by
  obtain ⟨AA, ac, rfl, _, _, _⟩ := ha
  obtain ⟨TA, tc, rfl, _, _, _⟩ := ht
  have d1 : decide ((4000 : Int) < (aside.length : Int)) = false := by simp; omega
  have d2 : decide ((4032 : Int) < (box.length : Int)) = false := by simp; omega
  have d3 : decide ((box.length : Int) < 32) = true := by simp; omega
  clear h1 h2
  go_enter Tryd.func15, Tryd.ntmps15
  go_wp2_with ((with_reducible refine wpList_box_row (o := ⟨some 5, _, _, _, _, _⟩) rfl 23 (.tmp 1) rfl (keyC key) (by with_unfolding_all rfl) ?_); intro g5 w1 n1)
  go_ret2
  exact ⟨rfl, n1.below⟩
end Go.Proofs.YtjdbjgaoeijmfaaDoor
end
