/-
  Texts that belong together, merged: VpG, VpH. Conditions: as each theorem names them.
-/
import Derived.Test.YtpgbicbjlhkonaaGreatDoorQVlpAN
import Derived.Test.YtpgbicbjlhkonaaGreatDoorQVlpAO
import Derived.Test.YtpgbicbjlhkonaaGreatDoorQVlpAM
import Derived.Test.YtpgbicbjlhkonaaGreatDoorQVlpAG
import Derived.BigQuiet
section
namespace Go.Proofs.YtpgbicbjlhkonaaGreatDoor
open Go.RowKit
set_option linter.unusedVariables false
set_option maxRecDepth 20000

theorem not_in : ¬ VTy 156 := by unfold VTy; decide
theorem not_key : ¬ VTy 117 := by unfold VTy; decide
theorem Tryz.zeroState : (Tryz.prog.info? 89).map (·.zero) = some (some (.agg (stateL 0 (.slice none 0 0)))) := by kernel_rfl
theorem Tryz.builtState0 : Tryz.prog.built 89 [] = some (stateL 0 (.slice none 0 0)) := by kernel_rfl
theorem stateL_one (q : Nat) (v : Value) (A : Option Addr) (n c : Nat) (hv : v = .slice A n c) : ∀ u ∈ (stateL q v).toList, u.oneCell' = true := by
  subst hv
  intro u hu
  rcases List.mem_cons.1 hu with rfl | hu
  · rfl
  · rw [List.mem_singleton.1 hu]
    rfl
section
variable {F : Nat → Prop} {x w : World} {gm g M : Nat} {d : Dev}
set_option maxHeartbeats 4000000 in
theorem load_any (h : VS F x gm g M d w) (hM : M ≤ 999999999) (A n : Nat) (hn1 : 1 ≤ n) (hn : n ≤ 200) (hlen : A + (n + 1) ≤ d.now.length) :
    Calls Tryz.prog 58 #[.agg (slotL g A n), .pointer (some ⟨gm, 0, none⟩)] w fun e z => ∃ v, e = .returned (.agg (stateL (loadL (slotB d.now A n)).1 v)) ∧ Bs z v (loadL (slotB d.now A n)).2 ∧ U8At z v ∧ VS F x gm g (M + 1) d z ∧ Lk w z := by
  have HRd : Hid (∀ y, VS F x gm g M d y → Calls Tryz.prog 67 #[.agg (slotL g A n)] y fun e w' => ∃ v, e = .returned v ∧ OwnB w' y.heap.size 5 v (slotB d.now A n) ∧ Below y.heap.size y w') := fun y h => slotRead_any h A n hn hlen
  have hLL : (slotB d.now A n).length = 256 * (n + 1) := slotB_len h.ok.now A n hlen
  have HH := Lib.hid h
  generalize slotB d.now A n = L at HRd hLL ⊢
  obtain ⟨hr1, hr2, hr3, hr4⟩ := head_reads (L := L) (by omega)
  have hLd : loadL L = if ofHighB ((L.drop 16).take 2) = 1 ∧ ((L.drop 50).take 206).all (· == 0) = true ∧ sizeL L ≤ (L.drop 256).length ∧ digestB (L.take 16 ++ bytesL L) = keyL L then (ofHighB (L.take 8), bytesL L) else (0, []) := rfl
  have HLd := Lib.hid hLd
  have HR1 := Lib.hid hr1
  have HR2 := Lib.hid hr2
  have HR3 := Lib.hid hr3
  have HR4 := Lib.hid hr4
  clear h hLd hr1 hr2 hr3 hr4
  go_enter Tryz.func58, Tryz.ntmps58
  go_wp2_with (first
    | ((with_reducible refine wpList_box_row (o := ⟨some 2, _, _, _, _, _⟩) rfl 84 (.tmp 0) rfl (slotL g A n) (by with_unfolding_all rfl) ?_); intro g1 w1 n1; have R1 := Lib.hid n1.row; have B1 := Lib.hid n1.below; clear n1)
    | ((with_reducible refine wpList_alloc_row (o := ⟨some 4, _, _, _, _, _⟩) rfl 89 rfl (stateL 0 (.slice none 0 0)) Tryz.zeroState ?_); intro g2 w2 n2; have R2 := Lib.hid n2.row; have R12 := Lib.hid (R1.out.kept n2.below); have B2 := Lib.hid (below_size B1.out n2.below); have hg2 : w.heap.size ≤ g2 := (by rw [n2.spot]; exact B1.out.size); clear n2 R1 B1)
    | (with_reducible refine wpList_load_row (o := ⟨some 13, _, _, _, _, _⟩) rfl 84 (.tmp 2) rfl g1 (by with_unfolding_all rfl) 84 (slotL g A n) (0, 0) _ (by with_unfolding_all exact R12.out) Tryz.underlying84 rfl (Tryz.sizeSlot g A n) ?_))
  refine (HRd.out w2 (HH.out.kept B2.out)).mono ?_
  rintro e w3 ⟨v3, rfl, o3, b3⟩
  obtain ⟨ga, ca, rfl, hc1, hc2⟩ := own_slice o3 (by omega)
  unfold maxLen at hc2
  have S3 := Lib.hid o3.bs
  have U3 := Lib.hid (U8At.of o3)
  have B3 := Lib.hid (below_size B2.out b3)
  have R3 := Lib.hid (R2.out.kept b3)
  have HLL := Lib.hid hLL
  have hca : 512 ≤ ca := by omega
  obtain ⟨LL, hLLe⟩ : ∃ LL, LL = L.length := ⟨_, rfl⟩
  have HLE := Lib.hid hLLe
  rw [← hLLe] at S3 U3 hc1 hLL ⊢
  have hLL2 : 512 ≤ LL := by omega
  have hLL3 : LL ≤ 60000 := by omega
  have hLLi : (256 : Int) ≤ (LL : Int) := by omega
  have hcne : ¬ (ca = 256) := by omega
  clear o3 b3 R2 B2 R12 HRd hLLe hLL
  go_wp2_with fail
  go_quiet (fail)
  go_wp2_with fail
  obtain ⟨w4, hw4⟩ : ∃ w4, w4 = w3.drewN nq := ⟨_, rfl⟩
  have B4 : Hid (Below w.heap.size w w4) := by show Below _ _ _; rw [hw4]; exact below_drewN B3.out _
  have S4 : Hid (Bs w4 (.slice (some ⟨ga, 0, none⟩) LL ca) L) := by show Bs _ _ _; rw [hw4]; exact S3.out.drewN _
  have U4 : Hid (U8At w4 (.slice (some ⟨ga, 0, none⟩) LL ca)) := by show U8At _ _; rw [hw4]; exact U3.out
  have R4 : Hid (RowAt w4 g2 89 (stateL 0 (.slice none 0 0))) := by show RowAt _ _ _ _; rw [hw4]; exact R3.out.drewN _
  rw [← hw4]
  clear hw4 B3 S3 U3 R3
  have S50 : Hid (Bs w4 (.slice (some ⟨ga, 0, none⟩) 50 ca) (L.take 50)) := by
    have := S4.out.mid3 0 50 ca (by rw [← HLE.out]; omega) (by omega) (by unfold maxLen; omega)
    exact this
  refine (read_any w4 _ (L.take 50) S50.out (by rw [List.length_take]; omega)).mono ?_
  rintro e w5 ⟨i, rfl, hi, i5, b5⟩
  have V5 := Lib.hid (HH.out.kept (below_size B4.out b5))
  have L5 := Lib.hid (Lk.of_below (below_size B4.out b5))
  have S5 := Lib.hid (S4.out.below b5)
  have U5 := Lib.hid (U4.out.below b5)
  have R5 := Lib.hid (R4.out.kept b5)
  have I5 := Lib.hid i5
  have hiw : w.heap.size ≤ i := Nat.le_trans B4.out.size hi
  have hig : g2 ≠ i := fun e => by have := R4.out.lt; omega
  clear i5 b5 B4 S4 U4 R4 S50
  have STEP : Hid (∀ (s s' : St) (y z : World) (D : Dev) (N : Nat), InAt y i s → y.grownBy z (some i) → VS F x gm g N D y → Lk w y → Bs y (.slice (some ⟨ga, 0, none⟩) LL ca) L → U8At y (.slice (some ⟨ga, 0, none⟩) LL ca) → RowAt y g2 89 (stateL 0 (.slice none 0 0)) → VS F x gm g N D z ∧ Lk w z ∧ Bs z (.slice (some ⟨ga, 0, none⟩) LL ca) L ∧ U8At z (.slice (some ⟨ga, 0, none⟩) LL ca) ∧ RowAt z g2 89 (stateL 0 (.slice none 0 0))) := by
    intro s s' y z D N hin hg hv hl hb hu hr
    obtain ⟨v, hri, _⟩ := id hin
    exact ⟨hv.own HH.out hg hiw hri not_in, hl.grown hg (fun r e => by injection e with e; omega), hin.bs hb hg, hu.turn hri (by decide) hg, hr.grown hg (by intro e; injection e with e; exact hig e)⟩
  go_wp2_with fail
  refine (inNumber_any w5 i _ 8 I5.out).mono ?_
  rintro e w6 ⟨rfl, i6, g6⟩
  obtain ⟨v6, l6, s6, u6, r6⟩ := STEP.out _ ⟨[], 0⟩ _ _ _ _ I5.out g6 V5.out L5.out S5.out U5.out R5.out
  have V6 := Lib.hid v6
  have L6 := Lib.hid l6
  have S6 := Lib.hid s6
  have U6 := Lib.hid u6
  have R6 := Lib.hid r6
  have I6 := Lib.hid i6
  rw [HR1.out]
  clear v6 l6 s6 u6 r6 i6 g6 V5 L5 S5 U5 R5 I5
  go_wp2_with fail
  refine (inNumber_any w6 i _ 8 I6.out).mono ?_
  rintro e w7 ⟨rfl, i7, g7⟩
  obtain ⟨v7, l7, s7, u7, r7⟩ := STEP.out _ ⟨[], 0⟩ _ _ _ _ I6.out g7 V6.out L6.out S6.out U6.out R6.out
  have V7 := Lib.hid v7
  have L7 := Lib.hid l7
  have S7 := Lib.hid s7
  have U7 := Lib.hid u7
  have R7 := Lib.hid r7
  have I7 := Lib.hid i7
  rw [HR2.out]
  clear v7 l7 s7 u7 r7 i7 g7 V6 L6 S6 U6 R6 I6
  go_wp2_with fail
  refine (inKeys_any w7 i _ 1 I7.out).mono ?_
  rintro e w8 ⟨vk, rfl, k8, ky8, i8, g8⟩
  obtain ⟨v8, l8, s8, u8, r8⟩ := STEP.out _ ⟨[], 0⟩ _ _ _ _ I7.out g8 V7.out L7.out S7.out U7.out R7.out
  have V8 := Lib.hid v8
  have L8 := Lib.hid l8
  have S8 := Lib.hid s8
  have U8 := Lib.hid u8
  have R8 := Lib.hid r8
  have I8 := Lib.hid i8
  have K8 := Lib.hid k8
  have KY8 := Lib.hid ky8
  obtain ⟨KA, kc, rfl, _⟩ := k8
  clear v8 l8 s8 u8 r8 i8 g8 ky8 V7 L7 S7 U7 R7 I7 STEP
  go_wp2_with fail
  refine (inEnd_any w8 i _ I8.out).mono ?_
  rintro e w9 ⟨rfl, rfl⟩
  generalize (St.keyS (St.numS (St.numS ⟨L.take 50, 0⟩ 8) 8) 1).fin = fin at HR3 HR4 ⊢
  generalize St.keys (St.numS (St.numS ⟨L.take 50, 0⟩ 8) 8) 1 = ks at HR3 K8 KY8 ⊢
  clear I8 HR1 HR2
  by_cases hf : fin = 0
  · have hc1' : ofHighB ((L.drop 16).take 2) = 1 := by
      by_cases hc : ofHighB ((L.drop 16).take 2) = 1
      · exact hc
      · exact absurd hf (HR4.out hc)
    have hks := (HR3.out hc1').1
    subst hks
    have hd1 : decide (fin = 0) = true := decide_eq_true hf
    subst hf
    have HC1 := Lib.hid hc1'
    have S206 : Hid (Bs w8 (.slice (some ⟨ga, 50, none⟩) 206 (ca - 50)) ((L.drop 50).take 206)) := by
      have := S8.out.mid3 50 206 (ca - 50) (by rw [← HLE.out]; omega) (by omega) (by unfold maxLen; omega)
      rwa [Nat.zero_add] at this
    have hcne2 : ¬ (ca = 50) := by omega
    have hwc : IntKind.u64.wrap ((LL - 256 : Nat) : Int) = ((LL - 256 : Nat) : Int) := by rw [IntKind.wrap_u64]; omega
    have hsz64 : sizeL L < 18446744073709551616 := ofHighB_u64 _ (by rw [List.length_take]; omega)
    have HLR : Hid ((L.drop 256).length = LL - 256) := by show _ = _; rw [List.length_drop, ← HLE.out]
    have HBL : Hid (bytesL L = (L.drop 256).take (sizeL L)) := rfl
    clear hc1' HR3 HR4
    go_wp2_with fail
    refine (isZero_any w8 _ _ S206.out).mono ?_
    rintro e w9 ⟨rfl, rfl⟩
    generalize hsz : sizeL L = sz at HLd hsz64 HBL ⊢
    cases hz : ((L.drop 50).take 206).all (· == 0)
    · have HN : Hid (loadL L = (0, [])) := by
        show _ = _
        rw [HLd.out, if_neg]
        rintro ⟨_, h1, _⟩
        rw [hz] at h1
        cases h1
      clear hz hsz
      go_wp2_with (first
        | (with_reducible refine wpList_val (o := ⟨some 44, _, _, _, _, _⟩) rfl (.agg (stateL 0 (.slice none 0 0))) (by exact run_builtOp 89 #[] rfl _ Tryz.builtState0) ?_)
        | ((with_reducible refine wpList_store_row (o := ⟨none, _, _, _, _, _⟩) rfl 89 (.tmp 4) (.tmp 44) rfl g2 89 (stateL 0 (.slice none 0 0)) (stateL 0 (.slice none 0 0)) (by with_unfolding_all rfl) (by with_unfolding_all rfl) R8.out rfl (Tryz.sizeState 0 (.slice none 0 0)) (stateL_one 0 _ none 0 0 rfl) ?_); intro wz pz))
      have vz := V8.out.own HH.out pz.grown hg2 R8.out not_state
      have lz := L8.out.grown pz.grown (fun r e => by injection e with e; omega)
      refine bodyPost_ret (results_cell_row rfl _ _ g2 89 (stateL 0 (.slice none 0 0)) (0, 0) _ rfl pz.row Tryz.underlying89 rfl (Tryz.sizeState 0 (.slice none 0 0))) rfl ?_
      rw [HN.out]
      exact ⟨_, rfl, Bs.nil _, U8At.nil _ _ _, vz.more (by omega), lz⟩
    · by_cases hs : sz ≤ LL - 256
      · have hd2 : decide (((LL - 256 : Nat) : Int) < (sz : Int)) = false := by simp; omega
        have hd2' : ¬ (((LL - 256 : Nat) : Int) < (sz : Int)) := by omega
        have hszi : (sz : Int) ≤ ((ca - 256 : Nat) : Int) := by omega
        have hszn : sz ≤ ca - 256 := by omega
        have hszb : ¬ ((sz : Int) < 0) := by omega
        have SB : Hid (Bs w8 (.slice (some ⟨ga, 256, none⟩) sz (ca - 256)) (bytesL L)) := by
          have := S8.out.mid3 256 sz (ca - 256) (by rw [← HLE.out]; omega) (by omega) (by unfold maxLen; omega)
          rw [Nat.zero_add, ← HBL.out] at this
          exact this
        have hbl : (bytesL L).length = sz := by rw [HBL.out, List.length_take, HLR.out]; omega
        have HSZ := Lib.hid hsz
        have HZ := Lib.hid hz
        have HLN := Lib.hid hbl
        clear hz hsz hbl S206
        go_wp2_with fail
        refine (clone_any w8 _ (bytesL L) SB.out (by rw [HLN.out]; omega)).mono ?_
        rintro e w10 ⟨vb, rfl, ob, b10⟩
        have V10 := Lib.hid (V8.out.kept b10)
        have L10 := Lib.hid (L8.out.kept b10)
        have S10 := Lib.hid (S8.out.below b10)
        have U10 := Lib.hid (U8.out.below b10)
        have R10 := Lib.hid (R8.out.kept b10)
        have K10 := Lib.hid (K8.out.below b10)
        have KY10 := Lib.hid (KY8.out.below b10)
        have SV := Lib.hid ob.bs
        have UV := Lib.hid (U8At.of ob)
        obtain ⟨VB, vbc, rfl, _⟩ := ob.shape
        rw [HLN.out] at SV UV ⊢
        obtain ⟨KA', kc', hkv, _, _, hk32, hkc⟩ := K10.out
        injection hkv with e1 e2 e3
        subst e1 e3
        obtain ⟨bk, ko, rfl, hrg⟩ := hkc (by simp)
        have HRG : Hid (w10.rangeAt bk ko (cellsB (keyL L))) := by
          have := hrg 0 (keyL L) rfl
          rwa [Nat.zero_mul, Nat.add_zero] at this
        have HKL : Hid ((keyL L).length = 32) := hk32 _ (List.mem_singleton.2 rfl)
        obtain ⟨dg, hdg⟩ : ∃ dg, dg = digestB (L.take 16 ++ bytesL L) := ⟨_, rfl⟩
        have HDL : Hid (dg.length = 32) := by show _ = _; rw [hdg]; exact digestB_length _
        have HDG : Hid (dg = digestB [L.take 16, bytesL L].flatten) := by show _ = _; rw [hdg]; simp
        rw [← hdg] at HLd
        have hL16 : (L.take 16).length = 16 := by rw [List.length_take]; have := HLE.out; omega
        have HKX : Hid (∀ W' : World, Lk w10 W' → W'.rangeAt bk ko (cellsB (keyL L))) := fun W' hl j u hj => Turns.cell hl (HRG.out j u hj) fun hty => by
          obtain ⟨c, hr⟩ := KY10.out bk rfl
          exact TyF.not_row hr not_key hty
        clear b10 V8 L8 S8 U8 R8 K8 KY8 ob hk32 hkc hrg SB hdg
        generalize keyL L = key at HLd HRG HKL HKX
        generalize bytesL L = bs at SV HDG HLd HLN
        obtain ⟨nm, hnm⟩ : ∃ nm, nm = L.take 16 := ⟨_, rfl⟩
        rw [← hnm] at HDG hL16
        have hNM := Lib.hid hnm.symm
        clear hnm
        go_wp2_with fail
        refine plain_region (S := fun W' => W'.rangeAt bk ko (cellsB key)) (fin := fun i => false) (by kernel_rfl) ?_
        have hS : w10.drew.rangeAt bk ko (cellsB key) := HKX.out _ (Lk.of_below (Below.refl _ _).drew)
        have hi16 : (16 : Int) ≤ (ca : Int) := by omega
        have hkl1 : (0 : Int) < (1 : Int) := by omega
        change walkS _ _ _ _ _ _ 10 _ _ _
        refine walkS_take (i := 0) (oi := ⟨some 49, _, _, _, _, _⟩) (v := .pointer (some ⟨gm, 0, none⟩)) rfl (by kernel_rfl) (by kernel_rfl) (fun _ _ _ h => h) _ _ _ _ (by kernel_rfl) (by kernel_rfl) (Or.inl ⟨by rfl, fun w' hS' => (by clear hS hS'; go_simp)⟩) hS ?_
        try simp only [Act.put, List.setIfInBounds_toArray, List.set_cons_zero, List.set_cons_succ]
        refine walkS_take (i := 1) (oi := ⟨some 50, _, _, _, _, _⟩) (v := .slice (some ⟨ga, 0, none⟩) 256 ca) rfl (by kernel_rfl) (by kernel_rfl) (fun _ _ _ h => h) _ _ _ _ (by kernel_rfl) (by kernel_rfl) (Or.inl ⟨by rfl, fun w' hS' => (by clear hS hS'; go_simp)⟩) hS ?_
        try simp only [Act.put, List.setIfInBounds_toArray, List.set_cons_zero, List.set_cons_succ]
        refine walkS_take (i := 2) (oi := ⟨some 51, _, _, _, _, _⟩) (v := .slice (some ⟨ga, 0, none⟩) 16 ca) rfl (by kernel_rfl) (by kernel_rfl) (fun _ _ _ h => h) _ _ _ _ (by kernel_rfl) (by kernel_rfl) (Or.inl ⟨by rfl, fun w' hS' => (by clear hS hS'; go_simp)⟩) hS ?_
        try simp only [Act.put, List.setIfInBounds_toArray, List.set_cons_zero, List.set_cons_succ]
        refine walkS_take (i := 3) (oi := ⟨some 52, _, _, _, _, _⟩) (v := .slice VB sz vbc) rfl (by kernel_rfl) (by kernel_rfl) (fun _ _ _ h => h) _ _ _ _ (by kernel_rfl) (by kernel_rfl) (Or.inl ⟨by rfl, fun w' hS' => (by clear hS hS'; go_simp)⟩) hS ?_
        try simp only [Act.put, List.setIfInBounds_toArray, List.set_cons_zero, List.set_cons_succ]
        refine walkS_take (i := 6) (oi := ⟨some 55, _, _, _, _, _⟩) (v := .slice (some ⟨bk, ko, none⟩) 1 kc) rfl (by kernel_rfl) (by kernel_rfl) (fun _ _ _ h => h) _ _ _ _ (by kernel_rfl) (by kernel_rfl) (Or.inl ⟨by rfl, fun w' hS' => (by clear hS hS'; go_simp)⟩) hS ?_
        try simp only [Act.put, List.setIfInBounds_toArray, List.set_cons_zero, List.set_cons_succ]
        refine walkS_take (i := 7) (oi := ⟨some 56, _, _, _, _, _⟩) (v := .pointer (some ⟨bk, ko, none⟩)) rfl (by kernel_rfl) (by kernel_rfl) (fun _ _ _ h => h) _ _ _ _ (by kernel_rfl) (by kernel_rfl) (Or.inl ⟨by rfl, fun w' hS' => (by clear hS hS'; go_simp)⟩) hS ?_
        try simp only [Act.put, List.setIfInBounds_toArray, List.set_cons_zero, List.set_cons_succ]
        refine walkS_take (i := 8) (oi := ⟨some 57, _, _, _, _, _⟩) (v := .agg (keyC key)) rfl (by kernel_rfl) (by kernel_rfl) (fun _ _ _ h => h) _ _ _ _ (by kernel_rfl) (by kernel_rfl) (Or.inl ⟨by rfl, fun w' hS' => run_keyL 117 (.tmp 56) rfl bk ko rfl key _ hS' Tryz.underlying117 rfl (Tryz.sizeKeyM key HKL.out)⟩) hS ?_
        try simp only [Act.put, List.setIfInBounds_toArray, List.set_cons_zero, List.set_cons_succ]
        clear hS
        refine walkS_only (i := 4) (o := ⟨some 53, _, _, _, _, _⟩) (by kernel_rfl) rfl rfl fun KK hKK => ?_
        go_simp
        obtain ⟨w11, hw11⟩ : ∃ w11, w11 = (w10.alloc (.cells #[.slice (some ⟨ga, 0, none⟩) 16 ca, .slice VB sz vbc] 38)).drew := ⟨_, rfl⟩
        have b11 : Below w10.heap.size w10 w11 := by rw [hw11]; exact ((Below.refl _ _).alloc (Nat.le_refl _) _).drew
        have hl11 := Lk.of_below b11
        refine hKK _ _ (.inr ?_) ?_
        · rw [← hw11]; exact HKX.out _ hl11
        clear hKK KK
        rw [← hw11]
        have HBSS : Hid (Bss w11 (.slice (some ⟨w10.heap.size, 0, none⟩) 2 2) [nm, bs]) := by
          show Bss _ _ _
          rw [hw11]
          have s16 : Bs w10 (.slice (some ⟨ga, 0, none⟩) 16 ca) nm := by
            have := S10.out.fore2 16 (by rw [← HLE.out]; omega)
            rwa [hNM.out] at this
          exact (Bss.two w10 38 _ _ _ _ s16 SV.out).drew
        have V11 := Lib.hid (V10.out.kept b11)
        have L11 := Lib.hid (L10.out.kept b11)
        have U11 := Lib.hid (UV.out.below b11)
        have SV11 := Lib.hid (SV.out.below b11)
        have R11 := Lib.hid (R10.out.kept b11)
        have L1011 := Lib.hid hl11
        clear hw11 b11 hl11 V10 L10 S10 U10 R10 K10 UV SV
        refine walkS_only (i := 5) (o := ⟨some 54, _, _, _, _, _⟩) (by kernel_rfl) rfl rfl fun KK hKK => ?_
        go_simp
        refine (V11.out.sum (by omega) _ [nm, bs] dg HDG.out HBSS.out (by have := HLN.out; simp; omega) (by simp)).mono ?_
        rintro e w12 ⟨rfl, v12, l12⟩
        have V12 := Lib.hid v12
        have L12 := Lib.hid (L11.out.trans l12)
        have U12 := Lib.hid (l12.u8 U11.out)
        have SV12 := Lib.hid (l12.bs SV11.out U11.out)
        have R12 := Lib.hid (l12.row R11.out not_state)
        refine hKK _ _ (.inr (HKX.out _ (L1011.out.trans l12))) ?_
        clear hKK KK v12 V11 L11 U11 SV11 R11 HBSS
        try simp only [Act.put, List.setIfInBounds_toArray, List.set_cons_zero, List.set_cons_succ]
        refine walkS_only (i := 9) (o := ⟨some 58, _, _, _, _, _⟩) (by kernel_rfl) rfl rfl fun KK hKK => ?_
        have heq := fun W => Tryz.eqKeyIn2 dg key HDL.out HKL.out W
        have hgd := Tryz.eqGuardKey2
        go_simp
        refine hKK _ _ (.inr (HKX.out _ (L1011.out.trans l12))) ?_
        clear hKK KK heq hgd l12 HKX
        refine walkS_done (by kernel_rfl) ?_ _
        by_cases hk : dg = key
        · have hkb : (dg == key) = true := by rw [hk]; exact beq_self_eq_true _
          have hkb3 : (!(dg == key)) = false := by rw [hkb]; rfl
          rw [hkb3]
          have HKK := Lib.hid hk
          have HY : Hid (loadL L = (ofHighB (L.take 8), bs)) := by
            show _ = _
            rw [HLd.out, if_pos ⟨HC1.out, HZ.out, by rw [HLR.out]; exact hs, hk⟩]
          clear hk hkb hkb3
          go_wp2_with ((with_reducible refine wpList_store_row (o := ⟨none, _, _, _, _, _⟩) rfl 89 (.tmp 4) (.tmp 62) rfl g2 89 (stateL 0 (.slice none 0 0)) (stateL (ofHighB (L.take 8)) (.slice VB sz vbc)) (by with_unfolding_all rfl) (by with_unfolding_all rfl) R12.out rfl (Tryz.sizeState (ofHighB (L.take 8)) (.slice VB sz vbc)) (stateL_one (ofHighB (L.take 8)) _ VB sz vbc rfl) ?_); intro wz pz)
          have vz := V12.out.own HH.out pz.grown hg2 R12.out not_state
          have lz := L12.out.grown pz.grown (fun r e => by injection e with e; omega)
          have uz : Bs wz (.slice VB sz vbc) bs ∧ U8At wz (.slice VB sz vbc) := by
            have ht : Turns (fun k => k = g2) w12 wz := Turns.of_grown pz.grown fun k hk => (Option.some.inj hk).symm
            have hne : ∀ k, (Value.slice VB sz vbc).ownBlock = some k → k ≠ g2 := fun k hk e => by
              obtain ⟨c, hr⟩ := U12.out k hk
              rw [e] at hr
              exact absurd (row_typed hr R12.out) (by decide)
            refine ⟨ht.bs SV12.out hne, fun k hk => ?_⟩
            obtain ⟨c, hr⟩ := U12.out k hk
            exact ⟨c, ht.row hr (hne k hk)⟩
          refine bodyPost_ret (results_cell_row rfl _ _ g2 89 (stateL (ofHighB (L.take 8)) (.slice VB sz vbc)) (0, 0) _ rfl pz.row Tryz.underlying89 rfl (Tryz.sizeState (ofHighB (L.take 8)) (.slice VB sz vbc))) rfl ?_
          rw [HY.out]
          exact ⟨_, rfl, uz.1, uz.2, vz, lz⟩
        · have hkb : (dg == key) = false := beq_false_of_ne hk
          have hkb3 : (!(dg == key)) = true := by rw [hkb]; rfl
          rw [hkb3]
          have HN : Hid (loadL L = (0, [])) := by
            show _ = _
            rw [HLd.out, if_neg]
            rintro ⟨_, _, _, h1⟩
            exact hk h1
          clear hk hkb hkb3
          go_wp2_with (first
            | (with_reducible refine wpList_val (o := ⟨some 59, _, _, _, _, _⟩) rfl (.agg (stateL 0 (.slice none 0 0))) (by exact run_builtOp 89 #[] rfl _ Tryz.builtState0) ?_)
            | ((with_reducible refine wpList_store_row (o := ⟨none, _, _, _, _, _⟩) rfl 89 (.tmp 4) (.tmp 59) rfl g2 89 (stateL 0 (.slice none 0 0)) (stateL 0 (.slice none 0 0)) (by with_unfolding_all rfl) (by with_unfolding_all rfl) R12.out rfl (Tryz.sizeState 0 (.slice none 0 0)) (stateL_one 0 _ none 0 0 rfl) ?_); intro wz pz))
          have vz := V12.out.own HH.out pz.grown hg2 R12.out not_state
          have lz := L12.out.grown pz.grown (fun r e => by injection e with e; omega)
          refine bodyPost_ret (results_cell_row rfl _ _ g2 89 (stateL 0 (.slice none 0 0)) (0, 0) _ rfl pz.row Tryz.underlying89 rfl (Tryz.sizeState 0 (.slice none 0 0))) rfl ?_
          rw [HN.out]
          exact ⟨_, rfl, Bs.nil _, U8At.nil _ _ _, vz.more (by omega), lz⟩
      · have hd2 : decide (((LL - 256 : Nat) : Int) < (sz : Int)) = true := by simp; omega
        have hd2' : ((LL - 256 : Nat) : Int) < (sz : Int) := by omega
        have HN : Hid (loadL L = (0, [])) := by
          show _ = _
          rw [HLd.out, if_neg]
          rintro ⟨_, _, h1, _⟩
          rw [HLR.out] at h1
          omega
        clear hz hsz
        go_wp2_with (first
          | (with_reducible refine wpList_val (o := ⟨some 44, _, _, _, _, _⟩) rfl (.agg (stateL 0 (.slice none 0 0))) (by exact run_builtOp 89 #[] rfl _ Tryz.builtState0) ?_)
          | ((with_reducible refine wpList_store_row (o := ⟨none, _, _, _, _, _⟩) rfl 89 (.tmp 4) (.tmp 44) rfl g2 89 (stateL 0 (.slice none 0 0)) (stateL 0 (.slice none 0 0)) (by with_unfolding_all rfl) (by with_unfolding_all rfl) R8.out rfl (Tryz.sizeState 0 (.slice none 0 0)) (stateL_one 0 _ none 0 0 rfl) ?_); intro wz pz))
        have vz := V8.out.own HH.out pz.grown hg2 R8.out not_state
        have lz := L8.out.grown pz.grown (fun r e => by injection e with e; omega)
        refine bodyPost_ret (results_cell_row rfl _ _ g2 89 (stateL 0 (.slice none 0 0)) (0, 0) _ rfl pz.row Tryz.underlying89 rfl (Tryz.sizeState 0 (.slice none 0 0))) rfl ?_
        rw [HN.out]
        exact ⟨_, rfl, Bs.nil _, U8At.nil _ _ _, vz.more (by omega), lz⟩
  · have hd1 : decide (fin = 0) = false := decide_eq_false hf
    have hd1' : (fin != 0) = true := by simp [hf]
    have HN : Hid (loadL L = (0, [])) := by
      show _ = _
      rw [HLd.out, if_neg]
      rintro ⟨h1, _⟩
      exact hf (HR3.out h1).2
    clear HR3 HR4
    go_wp2_with (first
      | (with_reducible refine wpList_val (o := ⟨some 44, _, _, _, _, _⟩) rfl (.agg (stateL 0 (.slice none 0 0))) (by exact run_builtOp 89 #[] rfl _ Tryz.builtState0) ?_)
      | ((with_reducible refine wpList_store_row (o := ⟨none, _, _, _, _, _⟩) rfl 89 (.tmp 4) (.tmp 44) rfl g2 89 (stateL 0 (.slice none 0 0)) (stateL 0 (.slice none 0 0)) (by with_unfolding_all rfl) (by with_unfolding_all rfl) R8.out rfl (Tryz.sizeState 0 (.slice none 0 0)) (stateL_one 0 _ none 0 0 rfl) ?_); intro wz pz))
    have vz := V8.out.own HH.out pz.grown hg2 R8.out not_state
    have lz := L8.out.grown pz.grown (fun r e => by injection e with e; omega)
    refine bodyPost_ret (results_cell_row rfl _ _ g2 89 (stateL 0 (.slice none 0 0)) (0, 0) _ rfl pz.row Tryz.underlying89 rfl (Tryz.sizeState 0 (.slice none 0 0))) rfl ?_
    rw [HN.out]
    exact ⟨_, rfl, Bs.nil _, U8At.nil _ _ _, vz.more (by omega), lz⟩
end
end Go.Proofs.YtpgbicbjlhkonaaGreatDoor
end
section
namespace Go.Proofs.YtpgbicbjlhkonaaGreatDoor
open Go.RowKit
set_option linter.unusedVariables false
set_option maxRecDepth 20000

set_option maxHeartbeats 400000 in
theorem room_any (w : World) (n : Int) : Calls Tryz.prog 8 #[.int .i64 n] w (RetV w (.int .i64 (roomV n))) := by
  by_cases h1 : n < 1
  · have hd : decide (n < 1) = true := decide_eq_true h1
    have e : Hid (roomV n = 0) := by show _ = _; unfold roomV; rw [if_pos (.inl h1)]
    go_enter Tryz.func8, Tryz.ntmps8
    go_wp2
    go_ret
    rw [e.out]
    exact ⟨rfl, Below.refl _ _⟩
  · have hd : decide (n < 1) = false := decide_eq_false h1
    by_cases h2 : 200 < n
    · have hd2 : decide (200 < n) = true := decide_eq_true h2
      have e : Hid (roomV n = 0) := by show _ = _; unfold roomV; rw [if_pos (.inr h2)]
      go_enter Tryz.func8, Tryz.ntmps8
      go_wp2
      go_ret
      rw [e.out]
      exact ⟨rfl, Below.refl _ _⟩
    · have hd2 : decide (200 < n) = false := decide_eq_false h2
      have e : Hid (roomV n = n * 256) := by show _ = _; unfold roomV; rw [if_neg (by omega)]; omega
      have hw : IntKind.i64.wrap (n * 256) = n * 256 := IntWalk.i64_in _ (by omega)
      go_enter Tryz.func8, Tryz.ntmps8
      go_wp2
      go_ret
      rw [e.out]
      exact ⟨rfl, Below.refl _ _⟩
def twoL (g A N : Nat) : Array Value := #[.pointer (some ⟨g, 0, none⟩), .int .i64 (A : Int), .int .i64 (N : Int), .pointer (some ⟨g, 0, none⟩), .int .i64 ((A + (N + 1) : Nat) : Int), .int .i64 (N : Int)]
def zeroTwo : Array Value := #[.pointer none, .int .i64 0, .int .i64 0, .pointer none, .int .i64 0, .int .i64 0]
theorem Tryz.zeroTwo_ : (Tryz.prog.info? 85).map (·.zero) = some (some (.agg zeroTwo)) := by kernel_rfl
theorem Tryz.builtTwo : Tryz.prog.built 85 [] = some zeroTwo := by kernel_rfl
theorem Tryz.sizeTwo : (Tryz.prog.info? 85).map (·.size) = some 6 := by kernel_rfl
theorem Tryz.sizeZT : (Tryz.prog.info? 85).map (·.size) = some zeroTwo.size := Tryz.sizeTwo
theorem zeroTwo_one : ∀ u ∈ zeroTwo.toList, u.oneCell' = true := by
  intro u hu
  simp [zeroTwo] at hu
  rcases hu with rfl | rfl | rfl | rfl | rfl | rfl <;> rfl
theorem Tryz.sizeTwoL (g A N : Nat) : (Tryz.prog.info? 85).map (·.size) = some (twoL g A N).size := Tryz.sizeTwo
theorem twoL_one (g A N : Nat) : ∀ u ∈ (twoL g A N).toList, u.oneCell' = true := by
  intro u hu
  simp [twoL] at hu
  rcases hu with rfl | rfl | rfl | rfl | rfl | rfl <;> rfl
section
variable {F : Nat → Prop} {x w : World} {gm g M : Nat} {d : Dev}
set_option maxHeartbeats 1000000 in
theorem slots_any (h : VS F x gm g M d w) (at_ n : Int) :
    Calls Tryz.prog 30 #[.pointer (some ⟨g, 0, none⟩), .int .i64 at_, .int .i64 n] w fun e z => e = .returned (.tuple #[.agg (if rightV d.now.length at_ n = 0 then twoL g at_.toNat n.toNat else zeroTwo), .int .i64 (rightV d.now.length at_ n)]) ∧ Below w.heap.size w z := by
  have hmost := h.ok.most
  have HL : Hid (∀ y, VS F x gm g M d y → Calls Tryz.prog 57 #[.pointer (some ⟨g, 0, none⟩)] y (RetV y (.int .i64 (d.now.length : Int)))) := fun y h => h.len
  have HH := Lib.hid h
  clear h
  generalize d.now.length = len at *
  by_cases h1 : n < 1 ∨ 200 < n
  · have e1 : Hid (rightV len at_ n = 1) := by show _ = _; unfold rightV; rw [if_pos h1]
    have e2 : roomV n = 0 := by unfold roomV; rw [if_pos h1]
    have HR := Lib.hid (fun y => room_any y n)
    rw [e2] at HR
    rw [e1.out, if_neg (by decide)]
    clear e2
    go_enter Tryz.func30, Tryz.ntmps30
    go_wp2_with ((with_reducible refine wpList_alloc_row (o := ⟨some 6, _, _, _, _, _⟩) rfl 85 rfl zeroTwo Tryz.zeroTwo_ ?_); intro g1 w1 n1; have R1 := Lib.hid n1.row; have B1 := Lib.hid n1.below; have hg1 : w.heap.size ≤ g1 := Nat.le_of_eq n1.spot.symm; clear n1)
    refine (HR.out w1).mono ?_
    rintro e w2 ⟨rfl, b2⟩
    have R2 := Lib.hid (R1.out.kept b2)
    have B2 := Lib.hid (below_size B1.out b2)
    clear b2 R1 B1
    go_wp2_with (first | (with_reducible refine wpList_val (o := ⟨some 12, _, _, _, _, _⟩) rfl (.agg zeroTwo) (by exact run_builtOp 85 #[] rfl _ Tryz.builtTwo) ?_) | ((with_reducible refine wpList_store_row (o := ⟨none, _, _, _, _, _⟩) rfl 85 (.tmp 6) (.tmp 12) rfl g1 85 zeroTwo zeroTwo (by with_unfolding_all rfl) (by with_unfolding_all rfl) R2.out rfl Tryz.sizeZT zeroTwo_one ?_); intro wz pz))
    have BB := B2
    refine bodyPost_ret (ret_row_tmp rfl _ g1 85 zeroTwo _ rfl pz.row Tryz.underlying85 rfl Tryz.sizeZT) rfl ⟨rfl, ?_⟩
    exact pz.below BB.out BB.out.size hg1
  · have hN : 1 ≤ n ∧ n ≤ 200 := by omega
    have e2 : roomV n = 256 * n := by unfold roomV; rw [if_neg h1]
    have HR := Lib.hid (fun y => room_any y n)
    rw [e2] at HR
    have hr0 : ¬ (256 * n = 0) := by omega
    have hrd : decide (256 * n = 0) = false := decide_eq_false hr0
    have hw1 : IntKind.i64.wrap (n + 1) = n + 1 := IntWalk.i64_in _ (by omega)
    have hw2 : IntKind.i64.wrap (2 * (n + 1)) = 2 * (n + 1) := IntWalk.i64_in _ (by omega)
    have hw3 : IntKind.i64.wrap ((len : Int) - 2 * (n + 1)) = (len : Int) - 2 * (n + 1) := IntWalk.i64_in _ (by omega)
    have e1 : rightV len at_ n = if at_ < 0 ∨ (len : Int) < at_ ∨ (len : Int) < at_ + 2 * n + 2 then 60 else 0 := by unfold rightV; rw [if_neg h1]
    have HE := Lib.hid e1
    clear e1 e2 h1
    by_cases h2 : at_ < 0
    · have hd2 : decide (at_ < 0) = true := decide_eq_true h2
      have HE2 : Hid (rightV len at_ n = 60) := by show _ = _; rw [HE.out, if_pos (.inl h2)]
      rw [HE2.out, if_neg (by decide)]
      go_enter Tryz.func30, Tryz.ntmps30
      go_wp2_with ((with_reducible refine wpList_alloc_row (o := ⟨some 6, _, _, _, _, _⟩) rfl 85 rfl zeroTwo Tryz.zeroTwo_ ?_); intro g1 w1 n1; have R1 := Lib.hid n1.row; have B1 := Lib.hid n1.below; have hg1 : w.heap.size ≤ g1 := Nat.le_of_eq n1.spot.symm; clear n1)
      refine (HR.out w1).mono ?_
      rintro e w2 ⟨rfl, b2⟩
      have R2 := Lib.hid (R1.out.kept b2)
      have B2 := Lib.hid (below_size B1.out b2)
      clear b2 R1 B1
      go_wp2_with (first | (with_reducible refine wpList_val (o := ⟨some 26, _, _, _, _, _⟩) rfl (.agg zeroTwo) (by exact run_builtOp 85 #[] rfl _ Tryz.builtTwo) ?_) | ((with_reducible refine wpList_store_row (o := ⟨none, _, _, _, _, _⟩) rfl 85 (.tmp 6) (.tmp 26) rfl g1 85 zeroTwo zeroTwo (by with_unfolding_all rfl) (by with_unfolding_all rfl) R2.out rfl Tryz.sizeZT zeroTwo_one ?_); intro wz pz))
      have BB := B2
      refine bodyPost_ret (ret_row_tmp rfl _ g1 85 zeroTwo _ rfl pz.row Tryz.underlying85 rfl Tryz.sizeZT) rfl ⟨rfl, ?_⟩
      exact pz.below BB.out BB.out.size hg1
    · have hd2 : decide (at_ < 0) = false := decide_eq_false h2
      by_cases h3 : (len : Int) - 2 * (n + 1) < at_
      · have hd3 : decide ((len : Int) - 2 * (n + 1) < at_) = true := decide_eq_true h3
        have HE2 : Hid (rightV len at_ n = 60) := by show _ = _; rw [HE.out, if_pos (by omega)]
        rw [HE2.out, if_neg (by decide)]
        go_enter Tryz.func30, Tryz.ntmps30
        go_wp2_with ((with_reducible refine wpList_alloc_row (o := ⟨some 6, _, _, _, _, _⟩) rfl 85 rfl zeroTwo Tryz.zeroTwo_ ?_); intro g1 w1 n1; have R1 := Lib.hid n1.row; have B1 := Lib.hid n1.below; have hg1 : w.heap.size ≤ g1 := Nat.le_of_eq n1.spot.symm; clear n1)
        refine (HR.out w1).mono ?_
        rintro e w2 ⟨rfl, b2⟩
        have R2 := Lib.hid (R1.out.kept b2)
        have B2 := Lib.hid (below_size B1.out b2)
        clear b2 R1 B1
        go_wp2_with fail
        refine (HL.out w2 (HH.out.kept B2.out)).mono ?_
        rintro e w3 ⟨rfl, b3⟩
        have R3 := Lib.hid (R2.out.kept b3)
        have BB := Lib.hid (below_size B2.out b3)
        clear b3
        go_wp2_with (first | (with_reducible refine wpList_val (o := ⟨some 26, _, _, _, _, _⟩) rfl (.agg zeroTwo) (by exact run_builtOp 85 #[] rfl _ Tryz.builtTwo) ?_) | ((with_reducible refine wpList_store_row (o := ⟨none, _, _, _, _, _⟩) rfl 85 (.tmp 6) (.tmp 26) rfl g1 85 zeroTwo zeroTwo (by with_unfolding_all rfl) (by with_unfolding_all rfl) R3.out rfl Tryz.sizeZT zeroTwo_one ?_); intro wz pz))
        refine bodyPost_ret (ret_row_tmp rfl _ g1 85 zeroTwo _ rfl pz.row Tryz.underlying85 rfl Tryz.sizeZT) rfl ⟨rfl, ?_⟩
        exact pz.below BB.out BB.out.size hg1
      · have hd3 : decide ((len : Int) - 2 * (n + 1) < at_) = false := decide_eq_false h3
        have HE2 : Hid (rightV len at_ n = 0) := by show _ = _; rw [HE.out, if_neg (by omega)]
        obtain ⟨A, hA⟩ : ∃ A : Nat, at_ = (A : Int) := ⟨at_.toNat, by omega⟩
        obtain ⟨N, hN2⟩ : ∃ N : Nat, n = (N : Int) := ⟨n.toNat, by omega⟩
        subst hA hN2
        have hw4 : IntKind.i64.wrap ((A : Int) + ((N : Int) + 1)) = (A : Int) + ((N : Int) + 1) := IntWalk.i64_in _ (by omega)
        rw [HE2.out, if_pos rfl, Int.toNat_natCast, Int.toNat_natCast]
        have hl : twoL g A N = #[.pointer (some ⟨g, 0, none⟩), .int .i64 (A : Int), .int .i64 (N : Int), .pointer (some ⟨g, 0, none⟩), .int .i64 ((A : Int) + ((N : Int) + 1)), .int .i64 (N : Int)] := by
          unfold twoL
          rw [show ((A + (N + 1) : Nat) : Int) = (A : Int) + ((N : Int) + 1) by omega]
        have hone := twoL_one g A N
        rw [hl] at hone ⊢
        have HONE := Lib.hid hone
        clear hl hone
        go_enter Tryz.func30, Tryz.ntmps30
        go_wp2_with ((with_reducible refine wpList_alloc_row (o := ⟨some 6, _, _, _, _, _⟩) rfl 85 rfl zeroTwo Tryz.zeroTwo_ ?_); intro g1 w1 n1; have R1 := Lib.hid n1.row; have B1 := Lib.hid n1.below; have hg1 : w.heap.size ≤ g1 := Nat.le_of_eq n1.spot.symm; clear n1)
        refine (HR.out w1).mono ?_
        rintro e w2 ⟨rfl, b2⟩
        have R2 := Lib.hid (R1.out.kept b2)
        have B2 := Lib.hid (below_size B1.out b2)
        clear b2 R1 B1
        go_wp2_with fail
        refine (HL.out w2 (HH.out.kept B2.out)).mono ?_
        rintro e w3 ⟨rfl, b3⟩
        have R3 := Lib.hid (R2.out.kept b3)
        have BB := Lib.hid (below_size B2.out b3)
        clear b3
        go_wp2_with ((with_reducible refine wpList_store_row (o := ⟨none, _, _, _, _, _⟩) rfl 85 (.tmp 6) (.tmp 37) rfl g1 85 zeroTwo #[.pointer (some ⟨g, 0, none⟩), .int .i64 (A : Int), .int .i64 (N : Int), .pointer (some ⟨g, 0, none⟩), .int .i64 ((A : Int) + ((N : Int) + 1)), .int .i64 (N : Int)] (by with_unfolding_all rfl) (by with_unfolding_all rfl) R3.out rfl (by with_unfolding_all exact Tryz.sizeTwo) HONE.out ?_); intro wz pz)
        refine bodyPost_ret (ret_row_tmp rfl _ g1 85 _ _ rfl pz.row Tryz.underlying85 rfl Tryz.sizeTwo) rfl ⟨rfl, ?_⟩
        exact pz.below BB.out BB.out.size hg1
end
end Go.Proofs.YtpgbicbjlhkonaaGreatDoor
end
