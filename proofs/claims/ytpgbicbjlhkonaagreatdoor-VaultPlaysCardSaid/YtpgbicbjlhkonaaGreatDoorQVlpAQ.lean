/-
  Texts that belong together, merged: VpI, VltQ, VpJ, VpK. Conditions: as each theorem names them.
-/
import Derived.Test.YtpgbicbjlhkonaaGreatDoorQVlpAP
import Derived.Test.YtpgbicbjlhkonaaGreatDoorQVlpAL
import Derived.Test.YtpgbicbjlhkonaaGreatDoorQVlpAO
section
namespace Go.Proofs.YtpgbicbjlhkonaaGreatDoor
open Go.RowKit
set_option linter.unusedVariables false
set_option maxRecDepth 20000

def zeroSlot : Array Value := #[.pointer none, .int .i64 0, .int .i64 0]
theorem Tryz.zeroSlot_ : (Tryz.prog.info? 84).map (·.zero) = some (some (.agg zeroSlot)) := by kernel_rfl
theorem slotL_one (g A N : Nat) : ∀ u ∈ (slotL g A N).toList, u.oneCell' = true := by
  intro u hu
  simp [slotL] at hu
  rcases hu with rfl | rfl | rfl <;> rfl
theorem ret_tmp_row {P : Program} {w : World} {fn : Func} {p u : Tmp} {ty : TypeId} (h : fn.results = #[.tmp u, .cell p ty]) (tmps : Array Value) (g : Nat) (t : TypeId) (cs : Array Value) (d : TypeDesc)
    (hp : tmps.getD p undef = .pointer (some ⟨g, 0, none⟩)) (hg : RowAt w g t cs)
    (hu : P.underlying ty = some d) (hd : (match d with | .struct _ | .array _ _ => true | _ => false) = true) (hi : (P.info? ty).map (·.size) = some cs.size) :
    (results fn tmps).run P w = .ok (.tuple #[tmps.getD u undef, .agg cs]) w := by
  have hp' : tmps[p]?.getD undef = .pointer (some ⟨g, 0, none⟩) := by simpa using hp
  simp [results, h, hp', asAddr, run_loadVar_row w g t ty cs (0, 0) d hg hu hd hi]
/-- 'x[i]' of an array of structs by value. -/
theorem run_index_arr_st {P : Program} (w : World) (t e : TypeId) (n m : Nat) (fs : Array Field) (cs : Array Value) (kd : IntKind) (i : Nat) (ht : P.underlying t = some (.array n e)) (he : P.underlying e = some (.struct fs)) (hs : (P.info? e).map (·.size) = some m) (hi : i < n) :
    (Instr.index t (.agg cs) (.int kd (i : Int))).run P w = .ok (.agg (cs.extract (i * m) (i * m + m))) w := by
  obtain ⟨f, hf, hz⟩ := Option.map_eq_some_iff.1 hs
  simp [Instr.index, run_underlying ht, asIntOf, hi, part, isAgg, run_underlying he, sizeOf, typeInfo, hf, hz, go_sem]
theorem Tryz.index_two0 (w : World) (g A N : Nat) : (Instr.index 85 (.agg (twoL g A N)) (.int .i64 0)).run Tryz.prog w = .ok (.agg (slotL g A N)) w :=
  run_index_arr_st w 85 84 2 3 _ (twoL g A N) .i64 0 Tryz.underlying85 Tryz.underlying84 (Tryz.sizeSlot g A N) (by omega)
theorem Tryz.index_two1 (w : World) (g A N : Nat) : (Instr.index 85 (.agg (twoL g A N)) (.int .i64 1)).run Tryz.prog w = .ok (.agg (slotL g (A + (N + 1)) N)) w :=
  run_index_arr_st w 85 84 2 3 _ (twoL g A N) .i64 1 Tryz.underlying85 Tryz.underlying84 (Tryz.sizeSlot g A N) (by omega)
/-- What is the newest of the first k slots. -/
def cur0 : Nat × Nat × List UInt8 := (1, 0, [])
def cur1 (y0 : Nat × List UInt8) : Nat × Nat × List UInt8 := if 0 < y0.1 then (0, y0.1, y0.2) else (1, 0, [])
def cur2 (y0 y1 : Nat × List UInt8) : Nat × Nat × List UInt8 := if (cur1 y0).2.1 < y1.1 then (1, y1.1, y1.2) else cur1 y0
theorem cur_best {C : List (List UInt8)} {A N : Nat} {y0 y1 : Nat × List UInt8} (h0 : y0.1 = (countsV C (lowOf A N 0) N hdV).2 ∧ ((countsV C (lowOf A N 0) N hdV).2 ≠ 0 → y0.2 = (countsV C (lowOf A N 0) N hdV).1))
    (h1 : y1.1 = (countsV C (lowOf A N 1) N hdV).2 ∧ ((countsV C (lowOf A N 1) N hdV).2 ≠ 0 → y1.2 = (countsV C (lowOf A N 1) N hdV).1)) :
    cur2 y0 y1 = ((bestV C A N hdV).1, (bestV C A N hdV).2.2, (bestV C A N hdV).2.1) := by
  have hz : (countsV C (lowOf A N 1) N hdV).2 = 0 → (countsV C (lowOf A N 1) N hdV).1 = [] := fun e => by
    unfold countsV at e ⊢
    dsimp only at e ⊢
    split
    · rfl
    · rename_i h
      rw [if_neg h] at e
      split
      · rename_i h2
        rw [if_pos h2] at e
        exact absurd (.inl e) h
      · rfl
  unfold cur2 cur1 bestV
  dsimp only
  generalize countsV C (lowOf A N 0) N hdV = X at *
  generalize countsV C (lowOf A N 1) N hdV = Y at *
  obtain ⟨xb, xq⟩ := X
  obtain ⟨yb, yq⟩ := Y
  obtain ⟨y0q, y0b⟩ := y0
  obtain ⟨y1q, y1b⟩ := y1
  simp only at h0 h1 hz ⊢
  obtain ⟨rfl, h0⟩ := h0
  obtain ⟨rfl, h1⟩ := h1
  by_cases hx : y0q = 0
  · subst hx
    by_cases hy : y1q = 0
    · subst hy
      simp [hz rfl]
    · simp [Nat.pos_of_ne_zero hy, h1 hy]
  · have hx2 : 0 < y0q := Nat.pos_of_ne_zero hx
    by_cases hy : y0q < y1q
    · have hy2 : y1q ≠ 0 := by omega
      simp [hx, hx2, hy, h1 hy2]
    · simp [hx, hx2, hy, h0 hx]
section
variable {F : Nat → Prop} {x w : World} {gm g M : Nat} {d : Dev}
set_option maxHeartbeats 4000000 in
theorem newest_any (h : VS F x gm g M d w) (hM : M ≤ 900000000) (A N : Nat) (hN1 : 1 ≤ N) (hN : N ≤ 200) (hlen : A + 2 * N + 2 ≤ d.now.length) :
    Calls Tryz.prog 31 #[.pointer (some ⟨gm, 0, none⟩), .agg (twoL g A N)] w fun e z => ∃ v, e = .returned (.tuple #[.int .i64 ((bestV d.now A N hdV).1 : Int), .agg (stateL (bestV d.now A N hdV).2.2 v)]) ∧ Bs z v (bestV d.now A N hdV).2.1 ∧ U8At z v ∧ VS F x gm g (M + 2) d z ∧ Lk w z := by
  have hl0 : A + (N + 1) ≤ d.now.length := by omega
  have hl1 : A + (N + 1) + (N + 1) ≤ d.now.length := by omega
  have e0 := load_counts d.now (lowOf A N 0) N (slotB_len h.ok.now _ _ (by rw [lowOf_0]; exact hl0))
  have e1 := load_counts d.now (lowOf A N 1) N (slotB_len h.ok.now _ _ (by rw [lowOf_1]; exact hl1))
  have hcb := cur_best e0 e1
  rw [lowOf_0, lowOf_1] at hcb
  have HL0 : Hid (∀ y, VS F x gm g M d y → Calls Tryz.prog 58 #[.agg (slotL g A N), .pointer (some ⟨gm, 0, none⟩)] y fun e z => ∃ v, e = .returned (.agg (stateL (loadL (slotB d.now A N)).1 v)) ∧ Bs z v (loadL (slotB d.now A N)).2 ∧ U8At z v ∧ VS F x gm g (M + 1) d z ∧ Lk y z) := fun y h => load_any h (by omega) A N hN1 hN hl0
  have HL1 : Hid (∀ y, VS F x gm g (M + 1) d y → Calls Tryz.prog 58 #[.agg (slotL g (A + (N + 1)) N), .pointer (some ⟨gm, 0, none⟩)] y fun e z => ∃ v, e = .returned (.agg (stateL (loadL (slotB d.now (A + (N + 1)) N)).1 v)) ∧ Bs z v (loadL (slotB d.now (A + (N + 1)) N)).2 ∧ U8At z v ∧ VS F x gm g (M + 1 + 1) d z ∧ Lk y z) := fun y h => load_any h (by omega) _ N hN1 hN hl1
  have hB : ∀ X : Nat × Nat × List UInt8, X = ((bestV d.now A N hdV).1, (bestV d.now A N hdV).2.2, (bestV d.now A N hdV).2.1) → X.1 = (bestV d.now A N hdV).1 ∧ X.2.1 = (bestV d.now A N hdV).2.2 ∧ X.2.2 = (bestV d.now A N hdV).2.1 := fun X e => by rw [e]; exact ⟨rfl, rfl, rfl⟩
  obtain ⟨hb1, hb2, hb3⟩ := hB _ hcb
  rw [← hb1, ← hb2, ← hb3]
  have hu0 := loadL_u64 (slotB d.now A N)
  have hu1 := loadL_u64 (slotB d.now (A + (N + 1)) N)
  have HH := Lib.hid h
  clear hb1 hb2 hb3 hB hcb e0 e1 h
  generalize loadL (slotB d.now A N) = Y0 at *
  generalize loadL (slotB d.now (A + (N + 1)) N) = Y1 at *
  obtain ⟨C1, hC1⟩ : ∃ C1, C1 = cur1 Y0 := ⟨_, rfl⟩
  obtain ⟨C2, hC2⟩ : ∃ C2, C2 = cur2 Y0 Y1 := ⟨_, rfl⟩
  have HC1 : Hid (C1 = if (cur0).2.1 < Y0.1 then (0, Y0.1, Y0.2) else cur0) := hC1
  have HC2 : Hid (C2 = if C1.2.1 < Y1.1 then (1, Y1.1, Y1.2) else C1) := by show _ = _; rw [hC2, hC1]; rfl
  rw [← hC2]
  clear hC1 hC2 hl0 hl1
  have CV : Hid (∀ k : Nat, ∃ X : Nat × Nat × List UInt8, X = if k = 0 then cur0 else if k = 1 then C1 else C2) := fun k => ⟨_, rfl⟩
  have hA1 : ((A + (N + 1) : Nat) : Int) = ((A + (N + 1) : Nat) : Int) := rfl
  go_enter Tryz.func31, Tryz.ntmps31
  go_wp2_with (first
    | ((with_reducible refine wpList_box_row (o := ⟨some 3, _, _, _, _, _⟩) rfl 85 (.tmp 1) rfl (twoL g A N) (by with_unfolding_all rfl) ?_); intro g3 wa na; have RA := Lib.hid na.row; have BA := Lib.hid na.below; clear na)
    | ((with_reducible refine wpList_alloc_row (o := ⟨some 5, _, _, _, _, _⟩) rfl 89 rfl (stateL 0 (.slice none 0 0)) Tryz.zeroState ?_); intro gx wb nb; have RB := Lib.hid nb.row; have RAB := Lib.hid (RA.out.kept nb.below); have BB := Lib.hid (below_size BA.out nb.below); have hgw : w.heap.size ≤ gx := (by rw [nb.spot]; exact BA.out.size); clear nb)
    | (with_reducible refine wpList_load_row (o := ⟨some 9, _, _, _, _, _⟩) rfl 85 (.tmp 3) rfl g3 (by with_unfolding_all rfl) 85 (twoL g A N) (0, 0) _ (by with_unfolding_all exact RAB.out) Tryz.underlying85 rfl (Tryz.sizeTwoL g A N) ?_))
  have V0 := Lib.hid (HH.out.kept BB.out)
  have L0 := Lib.hid (Lk.of_below BB.out)
  go_loopw [4, 10] (fun u4 u10 wr => ∃ k : Nat, k ≤ 2 ∧ u10 = .int .i64 (k : Int) ∧ ∃ cc : Nat × Nat × List UInt8, Hid (cc = if k = 0 then cur0 else if k = 1 then C1 else C2) ∧ u4 = .int .i64 (cc.1 : Int) ∧ ∃ v, RowAt wr gx 89 (stateL cc.2.1 v) ∧ Bs wr v cc.2.2 ∧ U8At wr v ∧ VS F x gm g (M + k) d wr ∧ Lk w wr) (fun _ u10 _ => 2 - (intOf u10).toNat)
  case atStart => exact ⟨0, by omega, rfl, cur0, by show _ = _; rfl, rfl, _, RB.out, Bs.nil _, U8At.nil _ _ _, V0.out, L0.out⟩
  case round =>
    obtain ⟨k, hk, rfl, cc, HCE0, rfl, v, hG, hS, hU, hV, hK⟩ := hrel
    have HG := Lib.hid hG
    have HS := Lib.hid hS
    have HU := Lib.hid hU
    have HV := Lib.hid hV
    have HK := Lib.hid hK
    obtain ⟨qc, hqc⟩ : ∃ qc, qc = cc.2.1 := ⟨_, rfl⟩
    have HQ := Lib.hid hqc
    rw [← hqc] at HG
    have HCC1 : Hid (C1 = if 1 = 0 then cur0 else if 1 = 1 then C1 else C2) := by show _ = _; rfl
    have HCC2 : Hid (C2 = if 2 = 0 then cur0 else if 2 = 1 then C1 else C2) := by show _ = _; rfl
    clear hG hS hU hV hK hqc V0 L0 CV RB RAB RA BA BB
    have key : k = 0 ∨ k = 1 ∨ k = 2 := by omega
    rcases key with rfl | rfl | rfl
    · have HCE : Hid (cc = cur0) := HCE0
      have hq0 : qc = (cur0).2.1 := by rw [HQ.out, HCE.out]
      rw [← hq0] at HC1
      have HC1 : Hid (C1 = if cc.2.1 < Y0.1 then (0, Y0.1, Y0.2) else cur0) := by rw [← HQ.out]; exact HC1
      clear hq0 HCE0 hk
      by_cases hgt : qc < Y0.1
      · have hd2 : decide ((qc : Int) < (Y0.1 : Int)) = true := by simp; omega
        have hd2' : (qc : Int) < (Y0.1 : Int) := by omega
        have hnx : Hid ((0, Y0.1, Y0.2) = C1) := by
          show _ = _
          rw [HC1.out, if_pos (by rw [← HQ.out]; exact hgt)]
        have hd1 : decide ((0 : Int) < 2) = true := by decide
        have hix := fun W => Tryz.index_two0 W g A N
        go_wp2_with (first
          | ((with_reducible refine wpList_alloc_row (o := ⟨some 7, _, _, _, _, _⟩) rfl 84 rfl zeroSlot Tryz.zeroSlot_ ?_); intro g7 w1 n1; have N1 := Lib.hid n1; clear n1)
          | ((with_reducible refine wpList_store_row (o := ⟨none, _, _, _, _, _⟩) rfl 84 (.tmp 7) (.tmp 13) rfl g7 84 zeroSlot (slotL g A N) (by with_unfolding_all rfl) (by with_unfolding_all rfl) N1.out.row rfl (Tryz.sizeSlot g A N) (slotL_one g A N) ?_); intro w2 p2; have B2 := Lib.hid (laid_put N1.out p2).1; have R2 := Lib.hid p2.row; clear p2 N1)
          | (with_reducible refine wpList_load_row (o := ⟨some 14, _, _, _, _, _⟩) rfl 84 (.tmp 7) rfl g7 (by with_unfolding_all rfl) 84 (slotL g A N) (0, 0) _ (by with_unfolding_all exact R2.out) Tryz.underlying84 rfl (Tryz.sizeSlot g A N) ?_))
        refine (HL0.out w2 (HV.out.kept B2.out)).mono ?_
        rintro e w3 ⟨v3, rfl, s3, u3, x3, l3⟩
        obtain ⟨V3A, V3c, rfl, _⟩ := s3.shape2
        have S3 := Lib.hid s3
        have U3 := Lib.hid u3
        have X3 := Lib.hid x3
        have L3 := Lib.hid ((HK.out.kept B2.out).trans l3)
        have G3 := Lib.hid (l3.row (HG.out.kept B2.out) not_state)
        have SV3 := Lib.hid (l3.bs (HS.out.below B2.out) (HU.out.below B2.out))
        have UV3 := Lib.hid (l3.u8 (HU.out.below B2.out))
        have hs3 : w.heap.size ≤ w3.heap.size := L3.out.size
        clear s3 u3 x3 l3 HV HK HG HS HU R2 B2
        go_wp2_with (first
          | ((with_reducible refine wpList_alloc_row (o := ⟨some 8, _, _, _, _, _⟩) rfl 89 rfl (stateL 0 (.slice none 0 0)) Tryz.zeroState ?_); intro g8 w4 n4; have N4 := Lib.hid n4; clear n4)
          | ((with_reducible refine wpList_store_row (o := ⟨none, _, _, _, _, _⟩) rfl 89 (.tmp 8) (.tmp 16) rfl g8 89 (stateL 0 (.slice none 0 0)) (stateL Y0.1 (.slice V3A Y0.2.length V3c)) (by with_unfolding_all rfl) (by with_unfolding_all rfl) N4.out.row rfl (Tryz.sizeState _ _) (stateL_one Y0.1 _ V3A Y0.2.length V3c rfl) ?_); intro w5 p5; have B5 := Lib.hid (laid_put N4.out p5).1; have R5 := Lib.hid p5.row; have c5 : w5.cell? ⟨g8, 0, none⟩ = some (.int .u64 (Y0.1 : Int)) := p5.row.cell 0; have hg8 : w3.heap.size ≤ g8 := Nat.le_of_eq N4.out.spot.symm; have G5 := Lib.hid (G3.out.kept (laid_put N4.out p5).1); have d5 : w5.cell? ⟨gx, 0, none⟩ = some (.int .u64 (qc : Int)) := G5.out.cell 0; clear p5 N4))
        have SV5 := Lib.hid (SV3.out.below B5.out)
        have UV5 := Lib.hid (UV3.out.below B5.out)
        have S5 := Lib.hid (S3.out.below B5.out)
        have U5 := Lib.hid (U3.out.below B5.out)
        have X5 := Lib.hid (X3.out.kept B5.out)
        have L5 := Lib.hid (L3.out.kept B5.out)
        have hgx5 : gx < w3.heap.size := G3.out.lt
        clear SV3 UV3 S3 U3 X3 L3 G3
        go_wp2_with fail
        refine plain_region (S := fun W' => RowAt W' g8 89 (stateL Y0.1 (.slice V3A Y0.2.length V3c))) (fin := fun i => false) (by kernel_rfl) ?_
        have hS : RowAt w5.drew g8 89 (stateL Y0.1 (.slice V3A Y0.2.length V3c)) := R5.out.drew
        change walkS _ _ _ _ _ _ 4 _ _ _
        refine walkS_take (i := 0) (oi := ⟨some 22, _, _, _, _, _⟩) (v := .int .i64 0) rfl (by kernel_rfl) (by kernel_rfl) (fun _ _ _ h => h) _ _ _ _ (by kernel_rfl) (by kernel_rfl) (Or.inl ⟨by rfl, fun w' hS' => (by clear hS hS'; go_simp)⟩) hS ?_
        try simp only [Act.put, List.setIfInBounds_toArray, List.set_cons_zero, List.set_cons_succ]
        refine walkS_take (i := 1) (oi := ⟨some 23, _, _, _, _, _⟩) (v := .agg (stateL Y0.1 (.slice V3A Y0.2.length V3c))) rfl (by kernel_rfl) (by kernel_rfl) (fun _ _ _ h => h) _ _ _ _ (by kernel_rfl) (by kernel_rfl) (Or.inl ⟨by rfl, fun w' hS' => run_load_row 89 (.tmp 8) rfl g8 rfl _ (stateL Y0.1 (.slice V3A Y0.2.length V3c)) (0, 0) _ hS' Tryz.underlying89 rfl (Tryz.sizeState _ _)⟩) hS ?_
        try simp only [Act.put, List.setIfInBounds_toArray, List.set_cons_zero, List.set_cons_succ]
        refine walkS_take (i := 2) (oi := ⟨some 4, _, _, _, _, _⟩) (v := .int .i64 0) rfl (by kernel_rfl) (by kernel_rfl) (fun _ _ _ h => h) _ _ _ _ (by kernel_rfl) (by kernel_rfl) (Or.inl ⟨by rfl, fun w' hS' => (by clear hS hS'; go_simp)⟩) hS ?_
        try simp only [Act.put, List.setIfInBounds_toArray, List.set_cons_zero, List.set_cons_succ]
        clear hS
        refine walkS_only (i := 3) (o := ⟨none, _, _, _, _, _⟩) (by kernel_rfl) rfl rfl fun KK hKK => ?_
        refine wp_store_row 89 (.tmp 5) (.tmp 23) rfl gx 89 (stateL qc v) (stateL Y0.1 (.slice V3A Y0.2.length V3c)) rfl rfl G5.out.drew rfl (Tryz.sizeState _ _) (stateL_one Y0.1 _ V3A Y0.2.length V3c rfl) ?_
        intro w6 p6
        have hne : g8 ≠ gx := by omega
        refine hKK _ _ (.inr (R5.out.drew.grown p6.grown (by intro e; injection e with e; exact hne e))) ?_
        clear hKK KK
        refine walkS_done (by kernel_rfl) ?_ _
        have b6 : Below w5.heap.size w5 w5.drew := (Below.refl _ _).drew
        have X6 := Lib.hid ((X5.out.kept b6).own HH.out p6.grown hgw G5.out.drew not_state)
        have L6 := Lib.hid ((L5.out.kept b6).grown p6.grown (fun r e => by injection e with e; omega))
        have hoff : ∀ j, (Value.slice V3A Y0.2.length V3c).ownBlock = some j → j ≠ gx := fun j hj e => by
          obtain ⟨c, hr⟩ := U5.out j hj
          rw [e] at hr
          exact absurd (row_typed hr G5.out) (by decide)
        have t6 : Turns (fun j => j = gx) w5.drew w6 := Turns.of_grown p6.grown fun j hj => (Option.some.inj hj).symm
        have S6 := Lib.hid (t6.bs S5.out.drew hoff)
        have U6 : Hid (U8At w6 (.slice V3A Y0.2.length V3c)) := fun j hj => by
          obtain ⟨c, hr⟩ := U5.out j hj
          exact ⟨c, t6.row hr.drew (hoff j hj)⟩
        have G6 := Lib.hid p6.row
        clear p6 t6 X5 L5 S5 U5 SV5 UV5 G5 R5 c5 d5
        go_wp2_with fail
        refine ⟨⟨1, by omega, by congr 1, C1, HCC1, by rw [← hnx.out]; rfl, .slice V3A Y0.2.length V3c, ?_, ?_, U6.out, X6.out, L6.out⟩, ?_⟩
        · rw [← hnx.out]; exact G6.out
        · rw [← hnx.out]; exact S6.out
        · decide
      · have hd2 : decide ((qc : Int) < (Y0.1 : Int)) = false := by simp; omega
        have hd2' : ¬ (qc : Int) < (Y0.1 : Int) := by omega
        have hnx : Hid (cc = C1) := by
          show _ = _
          rw [HC1.out, if_neg (by rw [← HQ.out]; exact hgt)]
          exact HCE.out
        have hd1 : decide ((0 : Int) < 2) = true := by decide
        have hix := fun W => Tryz.index_two0 W g A N
        go_wp2_with (first
          | ((with_reducible refine wpList_alloc_row (o := ⟨some 7, _, _, _, _, _⟩) rfl 84 rfl zeroSlot Tryz.zeroSlot_ ?_); intro g7 w1 n1; have N1 := Lib.hid n1; clear n1)
          | ((with_reducible refine wpList_store_row (o := ⟨none, _, _, _, _, _⟩) rfl 84 (.tmp 7) (.tmp 13) rfl g7 84 zeroSlot (slotL g A N) (by with_unfolding_all rfl) (by with_unfolding_all rfl) N1.out.row rfl (Tryz.sizeSlot g A N) (slotL_one g A N) ?_); intro w2 p2; have B2 := Lib.hid (laid_put N1.out p2).1; have R2 := Lib.hid p2.row; clear p2 N1)
          | (with_reducible refine wpList_load_row (o := ⟨some 14, _, _, _, _, _⟩) rfl 84 (.tmp 7) rfl g7 (by with_unfolding_all rfl) 84 (slotL g A N) (0, 0) _ (by with_unfolding_all exact R2.out) Tryz.underlying84 rfl (Tryz.sizeSlot g A N) ?_))
        refine (HL0.out w2 (HV.out.kept B2.out)).mono ?_
        rintro e w3 ⟨v3, rfl, s3, u3, x3, l3⟩
        obtain ⟨V3A, V3c, rfl, _⟩ := s3.shape2
        have S3 := Lib.hid s3
        have U3 := Lib.hid u3
        have X3 := Lib.hid x3
        have L3 := Lib.hid ((HK.out.kept B2.out).trans l3)
        have G3 := Lib.hid (l3.row (HG.out.kept B2.out) not_state)
        have SV3 := Lib.hid (l3.bs (HS.out.below B2.out) (HU.out.below B2.out))
        have UV3 := Lib.hid (l3.u8 (HU.out.below B2.out))
        have hs3 : w.heap.size ≤ w3.heap.size := L3.out.size
        clear s3 u3 x3 l3 HV HK HG HS HU R2 B2
        go_wp2_with (first
          | ((with_reducible refine wpList_alloc_row (o := ⟨some 8, _, _, _, _, _⟩) rfl 89 rfl (stateL 0 (.slice none 0 0)) Tryz.zeroState ?_); intro g8 w4 n4; have N4 := Lib.hid n4; clear n4)
          | ((with_reducible refine wpList_store_row (o := ⟨none, _, _, _, _, _⟩) rfl 89 (.tmp 8) (.tmp 16) rfl g8 89 (stateL 0 (.slice none 0 0)) (stateL Y0.1 (.slice V3A Y0.2.length V3c)) (by with_unfolding_all rfl) (by with_unfolding_all rfl) N4.out.row rfl (Tryz.sizeState _ _) (stateL_one Y0.1 _ V3A Y0.2.length V3c rfl) ?_); intro w5 p5; have B5 := Lib.hid (laid_put N4.out p5).1; have R5 := Lib.hid p5.row; have c5 : w5.cell? ⟨g8, 0, none⟩ = some (.int .u64 (Y0.1 : Int)) := p5.row.cell 0; have hg8 : w3.heap.size ≤ g8 := Nat.le_of_eq N4.out.spot.symm; have G5 := Lib.hid (G3.out.kept (laid_put N4.out p5).1); have d5 : w5.cell? ⟨gx, 0, none⟩ = some (.int .u64 (qc : Int)) := G5.out.cell 0; clear p5 N4))
        have SV5 := Lib.hid (SV3.out.below B5.out)
        have UV5 := Lib.hid (UV3.out.below B5.out)
        have S5 := Lib.hid (S3.out.below B5.out)
        have U5 := Lib.hid (U3.out.below B5.out)
        have X5 := Lib.hid (X3.out.kept B5.out)
        have L5 := Lib.hid (L3.out.kept B5.out)
        have hgx5 : gx < w3.heap.size := G3.out.lt
        clear SV3 UV3 S3 U3 X3 L3 G3
        clear c5 d5
        go_wp2_with fail
        refine ⟨⟨1, by omega, by congr 1, C1, HCC1, by rw [← hnx.out], v, ?_, ?_, UV5.out, X5.out, L5.out⟩, ?_⟩
        · rw [← hnx.out, ← HQ.out]; exact G5.out
        · rw [← hnx.out]; exact SV5.out
        · decide
    · have HCE : Hid (cc = C1) := HCE0
      have HC2 : Hid (C2 = if cc.2.1 < Y1.1 then (1, Y1.1, Y1.2) else C1) := by rw [HCE.out]; exact HC2
      clear HCE0 hk
      by_cases hgt : qc < Y1.1
      · have hd2 : decide ((qc : Int) < (Y1.1 : Int)) = true := by simp; omega
        have hd2' : (qc : Int) < (Y1.1 : Int) := by omega
        have hnx : Hid ((1, Y1.1, Y1.2) = C2) := by
          show _ = _
          rw [HC2.out, if_pos (by rw [← HQ.out]; exact hgt)]
        have hd1 : decide ((1 : Int) < 2) = true := by decide
        have hix := fun W => Tryz.index_two1 W g A N
        go_wp2_with (first
          | ((with_reducible refine wpList_alloc_row (o := ⟨some 7, _, _, _, _, _⟩) rfl 84 rfl zeroSlot Tryz.zeroSlot_ ?_); intro g7 w1 n1; have N1 := Lib.hid n1; clear n1)
          | ((with_reducible refine wpList_store_row (o := ⟨none, _, _, _, _, _⟩) rfl 84 (.tmp 7) (.tmp 13) rfl g7 84 zeroSlot (slotL g (A + (N + 1)) N) (by with_unfolding_all rfl) (by with_unfolding_all rfl) N1.out.row rfl (Tryz.sizeSlot g (A + (N + 1)) N) (slotL_one g (A + (N + 1)) N) ?_); intro w2 p2; have B2 := Lib.hid (laid_put N1.out p2).1; have R2 := Lib.hid p2.row; clear p2 N1)
          | (with_reducible refine wpList_load_row (o := ⟨some 14, _, _, _, _, _⟩) rfl 84 (.tmp 7) rfl g7 (by with_unfolding_all rfl) 84 (slotL g (A + (N + 1)) N) (0, 0) _ (by with_unfolding_all exact R2.out) Tryz.underlying84 rfl (Tryz.sizeSlot g (A + (N + 1)) N) ?_))
        refine (HL1.out w2 (HV.out.kept B2.out)).mono ?_
        rintro e w3 ⟨v3, rfl, s3, u3, x3, l3⟩
        obtain ⟨V3A, V3c, rfl, _⟩ := s3.shape2
        have S3 := Lib.hid s3
        have U3 := Lib.hid u3
        have X3 := Lib.hid x3
        have L3 := Lib.hid ((HK.out.kept B2.out).trans l3)
        have G3 := Lib.hid (l3.row (HG.out.kept B2.out) not_state)
        have SV3 := Lib.hid (l3.bs (HS.out.below B2.out) (HU.out.below B2.out))
        have UV3 := Lib.hid (l3.u8 (HU.out.below B2.out))
        have hs3 : w.heap.size ≤ w3.heap.size := L3.out.size
        clear s3 u3 x3 l3 HV HK HG HS HU R2 B2
        go_wp2_with (first
          | ((with_reducible refine wpList_alloc_row (o := ⟨some 8, _, _, _, _, _⟩) rfl 89 rfl (stateL 0 (.slice none 0 0)) Tryz.zeroState ?_); intro g8 w4 n4; have N4 := Lib.hid n4; clear n4)
          | ((with_reducible refine wpList_store_row (o := ⟨none, _, _, _, _, _⟩) rfl 89 (.tmp 8) (.tmp 16) rfl g8 89 (stateL 0 (.slice none 0 0)) (stateL Y1.1 (.slice V3A Y1.2.length V3c)) (by with_unfolding_all rfl) (by with_unfolding_all rfl) N4.out.row rfl (Tryz.sizeState _ _) (stateL_one Y1.1 _ V3A Y1.2.length V3c rfl) ?_); intro w5 p5; have B5 := Lib.hid (laid_put N4.out p5).1; have R5 := Lib.hid p5.row; have c5 : w5.cell? ⟨g8, 0, none⟩ = some (.int .u64 (Y1.1 : Int)) := p5.row.cell 0; have hg8 : w3.heap.size ≤ g8 := Nat.le_of_eq N4.out.spot.symm; have G5 := Lib.hid (G3.out.kept (laid_put N4.out p5).1); have d5 : w5.cell? ⟨gx, 0, none⟩ = some (.int .u64 (qc : Int)) := G5.out.cell 0; clear p5 N4))
        have SV5 := Lib.hid (SV3.out.below B5.out)
        have UV5 := Lib.hid (UV3.out.below B5.out)
        have S5 := Lib.hid (S3.out.below B5.out)
        have U5 := Lib.hid (U3.out.below B5.out)
        have X5 := Lib.hid (X3.out.kept B5.out)
        have L5 := Lib.hid (L3.out.kept B5.out)
        have hgx5 : gx < w3.heap.size := G3.out.lt
        clear SV3 UV3 S3 U3 X3 L3 G3
        go_wp2_with fail
        refine plain_region (S := fun W' => RowAt W' g8 89 (stateL Y1.1 (.slice V3A Y1.2.length V3c))) (fin := fun i => false) (by kernel_rfl) ?_
        have hS : RowAt w5.drew g8 89 (stateL Y1.1 (.slice V3A Y1.2.length V3c)) := R5.out.drew
        change walkS _ _ _ _ _ _ 4 _ _ _
        refine walkS_take (i := 0) (oi := ⟨some 22, _, _, _, _, _⟩) (v := .int .i64 1) rfl (by kernel_rfl) (by kernel_rfl) (fun _ _ _ h => h) _ _ _ _ (by kernel_rfl) (by kernel_rfl) (Or.inl ⟨by rfl, fun w' hS' => (by clear hS hS'; go_simp)⟩) hS ?_
        try simp only [Act.put, List.setIfInBounds_toArray, List.set_cons_zero, List.set_cons_succ]
        refine walkS_take (i := 1) (oi := ⟨some 23, _, _, _, _, _⟩) (v := .agg (stateL Y1.1 (.slice V3A Y1.2.length V3c))) rfl (by kernel_rfl) (by kernel_rfl) (fun _ _ _ h => h) _ _ _ _ (by kernel_rfl) (by kernel_rfl) (Or.inl ⟨by rfl, fun w' hS' => run_load_row 89 (.tmp 8) rfl g8 rfl _ (stateL Y1.1 (.slice V3A Y1.2.length V3c)) (0, 0) _ hS' Tryz.underlying89 rfl (Tryz.sizeState _ _)⟩) hS ?_
        try simp only [Act.put, List.setIfInBounds_toArray, List.set_cons_zero, List.set_cons_succ]
        refine walkS_take (i := 2) (oi := ⟨some 4, _, _, _, _, _⟩) (v := .int .i64 1) rfl (by kernel_rfl) (by kernel_rfl) (fun _ _ _ h => h) _ _ _ _ (by kernel_rfl) (by kernel_rfl) (Or.inl ⟨by rfl, fun w' hS' => (by clear hS hS'; go_simp)⟩) hS ?_
        try simp only [Act.put, List.setIfInBounds_toArray, List.set_cons_zero, List.set_cons_succ]
        clear hS
        refine walkS_only (i := 3) (o := ⟨none, _, _, _, _, _⟩) (by kernel_rfl) rfl rfl fun KK hKK => ?_
        refine wp_store_row 89 (.tmp 5) (.tmp 23) rfl gx 89 (stateL qc v) (stateL Y1.1 (.slice V3A Y1.2.length V3c)) rfl rfl G5.out.drew rfl (Tryz.sizeState _ _) (stateL_one Y1.1 _ V3A Y1.2.length V3c rfl) ?_
        intro w6 p6
        have hne : g8 ≠ gx := by omega
        refine hKK _ _ (.inr (R5.out.drew.grown p6.grown (by intro e; injection e with e; exact hne e))) ?_
        clear hKK KK
        refine walkS_done (by kernel_rfl) ?_ _
        have b6 : Below w5.heap.size w5 w5.drew := (Below.refl _ _).drew
        have X6 := Lib.hid ((X5.out.kept b6).own HH.out p6.grown hgw G5.out.drew not_state)
        have L6 := Lib.hid ((L5.out.kept b6).grown p6.grown (fun r e => by injection e with e; omega))
        have hoff : ∀ j, (Value.slice V3A Y1.2.length V3c).ownBlock = some j → j ≠ gx := fun j hj e => by
          obtain ⟨c, hr⟩ := U5.out j hj
          rw [e] at hr
          exact absurd (row_typed hr G5.out) (by decide)
        have t6 : Turns (fun j => j = gx) w5.drew w6 := Turns.of_grown p6.grown fun j hj => (Option.some.inj hj).symm
        have S6 := Lib.hid (t6.bs S5.out.drew hoff)
        have U6 : Hid (U8At w6 (.slice V3A Y1.2.length V3c)) := fun j hj => by
          obtain ⟨c, hr⟩ := U5.out j hj
          exact ⟨c, t6.row hr.drew (hoff j hj)⟩
        have G6 := Lib.hid p6.row
        clear p6 t6 X5 L5 S5 U5 SV5 UV5 G5 R5 c5 d5
        go_wp2_with fail
        refine ⟨⟨2, by omega, by congr 1, C2, HCC2, by rw [← hnx.out]; rfl, .slice V3A Y1.2.length V3c, ?_, ?_, U6.out, X6.out, L6.out⟩, ?_⟩
        · rw [← hnx.out]; exact G6.out
        · rw [← hnx.out]; exact S6.out
        · decide
      · have hd2 : decide ((qc : Int) < (Y1.1 : Int)) = false := by simp; omega
        have hd2' : ¬ (qc : Int) < (Y1.1 : Int) := by omega
        have hnx : Hid (cc = C2) := by
          show _ = _
          rw [HC2.out, if_neg (by rw [← HQ.out]; exact hgt)]
          exact HCE.out
        have hd1 : decide ((1 : Int) < 2) = true := by decide
        have hix := fun W => Tryz.index_two1 W g A N
        go_wp2_with (first
          | ((with_reducible refine wpList_alloc_row (o := ⟨some 7, _, _, _, _, _⟩) rfl 84 rfl zeroSlot Tryz.zeroSlot_ ?_); intro g7 w1 n1; have N1 := Lib.hid n1; clear n1)
          | ((with_reducible refine wpList_store_row (o := ⟨none, _, _, _, _, _⟩) rfl 84 (.tmp 7) (.tmp 13) rfl g7 84 zeroSlot (slotL g (A + (N + 1)) N) (by with_unfolding_all rfl) (by with_unfolding_all rfl) N1.out.row rfl (Tryz.sizeSlot g (A + (N + 1)) N) (slotL_one g (A + (N + 1)) N) ?_); intro w2 p2; have B2 := Lib.hid (laid_put N1.out p2).1; have R2 := Lib.hid p2.row; clear p2 N1)
          | (with_reducible refine wpList_load_row (o := ⟨some 14, _, _, _, _, _⟩) rfl 84 (.tmp 7) rfl g7 (by with_unfolding_all rfl) 84 (slotL g (A + (N + 1)) N) (0, 0) _ (by with_unfolding_all exact R2.out) Tryz.underlying84 rfl (Tryz.sizeSlot g (A + (N + 1)) N) ?_))
        refine (HL1.out w2 (HV.out.kept B2.out)).mono ?_
        rintro e w3 ⟨v3, rfl, s3, u3, x3, l3⟩
        obtain ⟨V3A, V3c, rfl, _⟩ := s3.shape2
        have S3 := Lib.hid s3
        have U3 := Lib.hid u3
        have X3 := Lib.hid x3
        have L3 := Lib.hid ((HK.out.kept B2.out).trans l3)
        have G3 := Lib.hid (l3.row (HG.out.kept B2.out) not_state)
        have SV3 := Lib.hid (l3.bs (HS.out.below B2.out) (HU.out.below B2.out))
        have UV3 := Lib.hid (l3.u8 (HU.out.below B2.out))
        have hs3 : w.heap.size ≤ w3.heap.size := L3.out.size
        clear s3 u3 x3 l3 HV HK HG HS HU R2 B2
        go_wp2_with (first
          | ((with_reducible refine wpList_alloc_row (o := ⟨some 8, _, _, _, _, _⟩) rfl 89 rfl (stateL 0 (.slice none 0 0)) Tryz.zeroState ?_); intro g8 w4 n4; have N4 := Lib.hid n4; clear n4)
          | ((with_reducible refine wpList_store_row (o := ⟨none, _, _, _, _, _⟩) rfl 89 (.tmp 8) (.tmp 16) rfl g8 89 (stateL 0 (.slice none 0 0)) (stateL Y1.1 (.slice V3A Y1.2.length V3c)) (by with_unfolding_all rfl) (by with_unfolding_all rfl) N4.out.row rfl (Tryz.sizeState _ _) (stateL_one Y1.1 _ V3A Y1.2.length V3c rfl) ?_); intro w5 p5; have B5 := Lib.hid (laid_put N4.out p5).1; have R5 := Lib.hid p5.row; have c5 : w5.cell? ⟨g8, 0, none⟩ = some (.int .u64 (Y1.1 : Int)) := p5.row.cell 0; have hg8 : w3.heap.size ≤ g8 := Nat.le_of_eq N4.out.spot.symm; have G5 := Lib.hid (G3.out.kept (laid_put N4.out p5).1); have d5 : w5.cell? ⟨gx, 0, none⟩ = some (.int .u64 (qc : Int)) := G5.out.cell 0; clear p5 N4))
        have SV5 := Lib.hid (SV3.out.below B5.out)
        have UV5 := Lib.hid (UV3.out.below B5.out)
        have S5 := Lib.hid (S3.out.below B5.out)
        have U5 := Lib.hid (U3.out.below B5.out)
        have X5 := Lib.hid (X3.out.kept B5.out)
        have L5 := Lib.hid (L3.out.kept B5.out)
        have hgx5 : gx < w3.heap.size := G3.out.lt
        clear SV3 UV3 S3 U3 X3 L3 G3
        clear c5 d5
        go_wp2_with fail
        refine ⟨⟨2, by omega, by congr 1, C2, HCC2, by rw [← hnx.out], v, ?_, ?_, UV5.out, X5.out, L5.out⟩, ?_⟩
        · rw [← hnx.out, ← HQ.out]; exact G5.out
        · rw [← hnx.out]; exact SV5.out
        · decide
    · have hd1 : decide ((2 : Int) < 2) = false := by decide
      have HCE : Hid (cc = C2) := HCE0
      obtain ⟨vA, vc, hvs⟩ := HS.out.shape2
      go_wp2_with fail
      refine plain_region (S := fun W' => RowAt W' gx 89 (stateL qc v)) (fin := fun i => false) (by kernel_rfl) ?_
      have hS : RowAt wr.drew gx 89 (stateL qc v) := HG.out.drew
      change walkS _ _ _ _ _ _ 4 _ _ _
      refine walkS_take (i := 0) (oi := ⟨some 25, _, _, _, _, _⟩) (v := .int .i64 (cc.1 : Int)) rfl (by kernel_rfl) (by kernel_rfl) (fun _ _ _ h => h) _ _ _ _ (by kernel_rfl) (by kernel_rfl) (Or.inl ⟨by rfl, fun w' hS' => (by clear hS hS'; go_simp)⟩) hS ?_
      try simp only [Act.put, List.setIfInBounds_toArray, List.set_cons_zero, List.set_cons_succ]
      refine walkS_take (i := 1) (oi := ⟨some 26, _, _, _, _, _⟩) (v := .agg (stateL qc v)) rfl (by kernel_rfl) (by kernel_rfl) (fun _ _ _ h => h) _ _ _ _ (by kernel_rfl) (by kernel_rfl) (Or.inl ⟨by rfl, fun w' hS' => run_load_row 89 (.tmp 5) rfl gx rfl _ (stateL qc v) (0, 0) _ hS' Tryz.underlying89 rfl (Tryz.sizeState _ _)⟩) hS ?_
      try simp only [Act.put, List.setIfInBounds_toArray, List.set_cons_zero, List.set_cons_succ]
      refine walkS_take (i := 2) (oi := ⟨some 4, _, _, _, _, _⟩) (v := .int .i64 (cc.1 : Int)) rfl (by kernel_rfl) (by kernel_rfl) (fun _ _ _ h => h) _ _ _ _ (by kernel_rfl) (by kernel_rfl) (Or.inl ⟨by rfl, fun w' hS' => (by clear hS hS'; go_simp)⟩) hS ?_
      try simp only [Act.put, List.setIfInBounds_toArray, List.set_cons_zero, List.set_cons_succ]
      clear hS
      refine walkS_only (i := 3) (o := ⟨none, _, _, _, _, _⟩) (by kernel_rfl) rfl rfl fun KK hKK => ?_
      refine wp_store_row 89 (.tmp 5) (.tmp 26) rfl gx 89 (stateL qc v) (stateL qc v) rfl rfl HG.out.drew rfl (Tryz.sizeState _ _) (stateL_one qc v vA cc.2.2.length vc hvs) ?_
      intro w6 p6
      refine hKK _ _ (.inr p6.row) ?_
      clear hKK KK
      refine walkS_done (by kernel_rfl) ?_ _
      have b6 : Below wr.heap.size wr wr.drew := (Below.refl _ _).drew
      have X6 := Lib.hid ((HV.out.kept b6).own HH.out p6.grown hgw HG.out.drew not_state)
      have L6 := Lib.hid ((HK.out.kept b6).grown p6.grown (fun r e => by injection e with e; omega))
      have hoff : ∀ j, v.ownBlock = some j → j ≠ gx := fun j hj e => by
        obtain ⟨c, hr⟩ := HU.out j hj
        rw [e] at hr
        exact absurd (row_typed hr HG.out) (by decide)
      have t6 : Turns (fun j => j = gx) wr.drew w6 := Turns.of_grown p6.grown fun j hj => (Option.some.inj hj).symm
      have S6 := Lib.hid (t6.bs HS.out.drew hoff)
      have U6 : Hid (U8At w6 v) := fun j hj => by
        obtain ⟨c, hr⟩ := HU.out j hj
        exact ⟨c, t6.row hr.drew (hoff j hj)⟩
      have G6 := Lib.hid p6.row
      clear p6 t6 HV HK HS HU HG
      go_wp2_with fail
      refine bodyPost_ret (ret_tmp_row rfl _ gx 89 (stateL qc v) _ rfl G6.out Tryz.underlying89 rfl (Tryz.sizeState _ _)) rfl ?_
      rw [← HCE.out, ← HQ.out]
      exact ⟨v, rfl, S6.out, U6.out, X6.out, L6.out⟩
end
end Go.Proofs.YtpgbicbjlhkonaaGreatDoor
end
section
namespace Go.Proofs.YtpgbicbjlhkonaaGreatDoor
open Go.RowKit
set_option linter.unusedVariables false
set_option maxRecDepth 20000

theorem one_kl {w : World} {g : Nat} {t : TypeId} {k : List UInt8} (h : RowAt w g t (keyC k)) (hk : k.length = 32) : Kl w (.slice (some ⟨g, 0, none⟩) 1 1) [k] := by
  refine ⟨_, _, rfl, Nat.le_refl _, by unfold maxLen; omega, fun l hl => by rw [List.mem_singleton.1 hl]; exact hk, fun _ => ⟨g, 0, rfl, fun i l hi j u hj => ?_⟩⟩
  have hi0 : i = 0 := by
    have := (List.getElem?_eq_some_iff.1 hi).1
    simp at this
    exact this
  subst hi0
  obtain rfl : k = l := by simpa using hi
  have e : (keyC k).toList = cellsB k := by simp [keyC]
  rw [h.cell, Nat.zero_mul, Nat.zero_add, ← Array.getElem?_toList, e]
  exact hj
theorem wpList_oneKeyV {w : World} {ops : Array Oper} {rest : List Oper} {o : Oper} {a : Act} {Q : Exit → Act → World → Prop} (hgd : o.guard = none) (x : Operand) (ho : o.op = .buildSlice 119 1 #[(0, x)]) (l : List UInt8) (hl : l.length = 32) (hx : a.eval x = .agg (keyC l))
    (h : ∀ g w', RowAt w' g 117 (keyC l) → Below w.heap.size w w' → wpList Tryz.prog ops Q rest (a.put o.dst (.slice (some ⟨g, 0, none⟩) 1 1)) w') : wpList Tryz.prog ops Q (o :: rest) a w :=
  wpList_plain hgd fun _ hK => wp_oneKey x ho l hl hx (hK _ _ (h w.heap.size _ (RowAt.new w _ _) (alloc_below w _)))
end Go.Proofs.YtpgbicbjlhkonaaGreatDoor
end
section
namespace Go.Proofs.YtpgbicbjlhkonaaGreatDoor
open Go.RowKit
set_option linter.unusedVariables false
set_option maxRecDepth 20000

theorem not_out : ¬ VTy 126 := by unfold VTy; decide
theorem Tryz.zeroOut_ : (Tryz.prog.info? 126).map (·.zero) = some (some (.agg #[.slice none 0 0, .int .i64 0])) := by kernel_rfl
theorem pad_pad {b : List UInt8} (h : b.length ≤ 256) : pad (pad b) = pad b := pad_full (pad_length h)
theorem Dev.write_pad (d : Dev) (i : Int) {b : List UInt8} (h : b.length ≤ 256) : d.write i (pad b) = d.write i b ∧ d.writeE i (pad b) = d.writeE i b := by
  have hl := pad_length h
  unfold Dev.write Dev.writeE
  rw [pad_pad h, hl]
  have e : (256 < b.length) = False := by simp; omega
  simp [e]
/-- An Out of the call's own beside the device and the Meter. -/
structure MK (F : Nat → Prop) (x : World) (gm g : Nat) (w : World) (o N : Nat) (d : Dev) (v : Value) (s : St) (y : World) : Prop where
  out : OutAt y o v s
  lo : w.heap.size ≤ o ∧ ∀ k, v.ownBlock = some k → w.heap.size ≤ k
  vs : VS F x gm g N d y
  lk : Lk w y
section
variable {F : Nat → Prop} {x w y z : World} {gm g M N o : Nat} {d d0 : Dev} {v v' : Value} {s s' : St}
theorem MK.kept (h : MK F x gm g w o N d v s y) (hb : Below y.heap.size y z) : MK F x gm g w o N d v s z := ⟨h.out.kept hb, h.lo, h.vs.kept hb, h.lk.kept hb⟩
theorem OutStep.turns (h : OutStep y z o v v') : Turns (fun k => k = o ∨ v.ownBlock = some k) y z := ⟨h.os, h.tape, h.output, h.size, fun k hk hn => h.block k hk (fun e => hn (.inl e)) fun e => hn (.inr e)⟩
theorem MK.step (h : MK F x gm g w o N d v s y) (h0 : VS F x gm g M d0 w) (ho : OutAt z o v' s') (hs : OutStep y z o v v') : MK F x gm g w o N d v' s' z := by
  have h1 := h0.tabs.lt
  have h2 := h0.size
  have h3 := h.lk.size
  have hge : ∀ k, (k = o ∨ v.ownBlock = some k) → w.heap.size ≤ k := fun k hk => hk.elim (fun e => e ▸ h.lo.1) (h.lo.2 k)
  refine ⟨ho, ⟨h.lo.1, fun k hk => ?_⟩, h.vs.turn hs.turns fun k hk => ?_, h.lk.turn hs.turns hge⟩
  · rcases hs.lies k hk with h4 | h4
    · exact h.lo.2 k h4
    · omega
  · have h5 := hge k hk
    refine ⟨?_, by omega, by omega, by omega⟩
    rcases hk with rfl | hk
    · exact TyF.not_row h.out.1 not_out
    · obtain ⟨c, hr⟩ := own_typed h.out.2 hk
      exact TyF.not_row hr not_u8
/-- A row of another type stays. -/
theorem MK.row (h : MK F x gm g w o N d v s y) (hs : OutStep y z o v v') {k : Nat} {t : TypeId} {c : Array Value} (hr : RowAt y k t c) (h1 : t ≠ 126) (h2 : t ≠ 5) : RowAt z k t c :=
  hs.turns.row hr fun hk => by
    rcases hk with rfl | hk
    · exact h1 (row_typed hr h.out.1)
    · obtain ⟨c', hr'⟩ := own_typed h.out.2 hk
      exact h2 (row_typed hr hr')
/-- The digest, or the device, is turned. -/
theorem MK.other (h : MK F x gm g w o N d v s y) {N' : Nat} {d' : Dev} (hv : VS F x gm g N' d' z) (hl : Lk y z) : MK F x gm g w o N' d' v s z :=
  ⟨⟨hl.row h.out.1 not_out, hl.own h.out.2 not_u8⟩, h.lo, hv, h.lk.trans hl⟩
end
theorem highI8 (q : Nat) : highI q 8 = (lowB q 8).reverse := (highI_num2 q 8 rfl).1
theorem num8_put (s : List UInt8) (q : Nat) (hq : q < 18446744073709551616) : St.wNum ⟨s, 0⟩ q 8 = ⟨s ++ highI q 8, 0⟩ := by
  unfold St.wNum
  rw [if_pos ⟨rfl, hq⟩, highI8]
  rfl
theorem key1_put (s k : List UInt8) : St.wKey ⟨s, 0⟩ [k] = ⟨s ++ ((lowB 1 2).reverse ++ [k].flatten), 0⟩ := by
  unfold St.wKey
  rw [if_neg (by simp), St.put_put]
  rfl
section
variable {F : Nat → Prop} {xw w : World} {gm g M : Nat} {d : Dev}
set_option maxHeartbeats 4000000 in
theorem mark_any (h : VS F xw gm g M d w) (hM : M ≤ 999999999) (hp : d.pend.length ≤ 900000) (A n q : Nat) (hA : A ≤ 1000) (hq : q < 18446744073709551616) (vb : Value) (b : List UInt8) (hb : Stay F xw gm g w vb b) (hbl : b.length ≤ 60000) :
    Calls Tryz.prog 38 #[.agg (slotL g A n), .pointer (some ⟨gm, 0, none⟩), .agg (stateL q vb)] w fun e z => e = .returned (.int .i64 (d.writeE (A : Int) (hdV q b))) ∧ VS F xw gm g (M + 1) (d.write (A : Int) (hdV q b)) z ∧ Lk w z := by
  have HH := Lib.hid h
  have HB := Lib.hid hb
  obtain ⟨VA, vc, rfl, hc1, hc2, _⟩ := hb w M d h (Lk.refl _)
  unfold maxLen at hc2
  have HW : Hid ((d.write (A : Int) (hdV q b) = d.write (A : Int) (hd0 q b)) ∧ d.writeE (A : Int) (hdV q b) = d.writeE (A : Int) (hd0 q b)) := d.write_pad (A : Int) (by rw [hd0_len]; omega)
  rw [HW.out.1, HW.out.2]
  obtain ⟨S2, hS2⟩ : ∃ S2, S2 = numsV q b := ⟨_, rfl⟩
  have hs2l : S2.length = 16 := by rw [hS2, numsV_len]
  obtain ⟨dg, hdg⟩ : ∃ dg, dg = digestB (S2 ++ b) := ⟨_, rfl⟩
  have hdl : dg.length = 32 := by rw [hdg]; exact digestB_length _
  obtain ⟨S3, hS3⟩ : ∃ S3, S3 = hd0 q b := ⟨_, rfl⟩
  have hs3l : S3.length = 50 := by rw [hS3, hd0_len]
  have P2 : Hid (St.wNum (St.wNum ⟨[], 0⟩ q 8) b.length 8 = ⟨S2, 0⟩) := by
    show _ = _
    rw [num8_put [] q hq, num8_put _ b.length (by omega), hS2]
    rfl
  have P3 : Hid (St.wKey ⟨S2, 0⟩ [dg] = ⟨S3, 0⟩) := by
    show _ = _
    rw [key1_put, hS3, hdg, hS2]
    rfl
  have PG : Hid (dg = digestB [S2, b].flatten) := by show _ = _; rw [hdg]; simp
  rw [← hS3]
  have HDL := Lib.hid hdl
  have HS2 := Lib.hid hs2l
  have HS3 := Lib.hid hs3l
  clear h hb hS2 hdg hS3 HW hdl hs2l hs3l
  have hwl : IntKind.u64.wrap (b.length : Int) = (b.length : Int) := by rw [IntKind.wrap_u64]; omega
  go_enter Tryz.func38, Tryz.ntmps38
  go_wp2_with (first
    | ((with_reducible refine wpList_box_row (o := ⟨some 3, _, _, _, _, _⟩) rfl 84 (.tmp 0) rfl (slotL g A n) (by with_unfolding_all rfl) ?_); intro g3 w1 n1; have R1 := Lib.hid n1.row; have B1 := Lib.hid n1.below; clear n1)
    | ((with_reducible refine wpList_box_row (o := ⟨some 5, _, _, _, _, _⟩) rfl 89 (.tmp 2) rfl (stateL q (.slice VA b.length vc)) (by with_unfolding_all rfl) ?_); intro g5 w2 n2; have R2 := Lib.hid n2.row; have B2 := Lib.hid (below_size B1.out n2.below); have R12 := Lib.hid (R1.out.kept n2.below); clear n2)
    | ((with_reducible refine wpList_alloc_row (o := ⟨some 7, _, _, _, _, _⟩) rfl 126 rfl #[.slice none 0 0, .int .i64 0] Tryz.zeroOut_ ?_); intro o w3 n3; have R3 := Lib.hid n3.row; have B3 := Lib.hid (below_size B2.out n3.below); have R13 := Lib.hid (R12.out.kept n3.below); have R23 := Lib.hid (R2.out.kept n3.below); have how : w.heap.size ≤ o := (by rw [n3.spot]; exact B2.out.size); have c0 : w3.cell? ⟨g5, 0, none⟩ = some (.int .u64 (q : Int)) := (R2.out.kept n3.below).cell 0; clear n3))
  have K3 : Hid (MK F xw gm g w o M d (.slice none 0 0) ⟨[], 0⟩ w3) := ⟨⟨R3.out, World.ownsRow_nil _ _ _ _⟩, ⟨how, fun k hk => by cases hk⟩, HH.out.kept B3.out, Lk.of_below B3.out⟩
  clear R1 B1 R2 B2 R12 R3 B3 c0
  refine (outNumber_any w3 o _ _ q 8 hq K3.out.out (by simp)).mono ?_
  rintro e w4 ⟨rfl, v4, o4, t4⟩
  have K4 := Lib.hid (K3.out.step HH.out o4 t4)
  have R14 := Lib.hid (K3.out.row t4 R13.out (by decide) (by decide))
  have R24 := Lib.hid (K3.out.row t4 R23.out (by decide) (by decide))
  have c1 : w4.cell? ⟨g5, 1, none⟩ = some (.slice VA b.length vc) := R24.out.cell 1
  clear o4 t4 K3 R13 R23
  go_wp2_with fail
  refine (outNumber_any w4 o _ _ b.length 8 (by omega) K4.out.out (by rw [num8_put [] q hq]; simp [highI8, lowB_length])).mono ?_
  rintro e w5 ⟨rfl, v5, o5, t5⟩
  have K5 := K4.out.step HH.out o5 t5
  rw [P2.out] at K5
  have K5 := Lib.hid K5
  have R15 := Lib.hid (K4.out.row t5 R14.out (by decide) (by decide))
  have R25 := Lib.hid (K4.out.row t5 R24.out (by decide) (by decide))
  clear o5 t5 K4 R14 R24 c1
  go_wp2_with fail
  refine (outDone_any w5 o _ _ K5.out.out (by show S2.length ≤ _; rw [HS2.out]; omega)).mono ?_
  rintro e w6 ⟨u6, rfl, o6, b6⟩
  have K6 := Lib.hid (K5.out.kept b6)
  have R16 := Lib.hid (R15.out.kept b6)
  have R26 := Lib.hid (R25.out.kept b6)
  have S6 : Hid (Bs w6 u6 S2) := o6.bs
  have U6 := Lib.hid (U8At.of o6)
  obtain ⟨UA, uc, rfl, _⟩ := o6.bs
  have c6 : w6.cell? ⟨g5, 1, none⟩ = some (.slice VA b.length vc) := R26.out.cell 1
  clear o6 b6 K5 R15 R25
  go_wp2_with fail
  have HBS : Hid (Bss (w6.alloc (.cells #[.slice UA S2.length uc, .slice VA b.length vc] 38)) (.slice (some ⟨w6.heap.size, 0, none⟩) 2 2) [S2, b]) := Bss.two w6 38 _ _ _ _ S6.out (HB.out _ _ _ K6.out.vs K6.out.lk)
  have b7 := alloc_below w6 (.cells #[.slice UA S2.length uc, .slice VA b.length vc] 38)
  have K7 := Lib.hid (K6.out.kept b7)
  have R17 := Lib.hid (R16.out.kept b7)
  have R27 := Lib.hid (R26.out.kept b7)
  generalize w6.alloc (.cells #[.slice UA S2.length uc, .slice VA b.length vc] 38) = w7 at HBS K7 R17 R27 ⊢
  clear b7 K6 R16 R26 c6 S6 U6
  refine (K7.out.vs.sum (by omega) _ [S2, b] dg PG.out HBS.out (by have := HS2.out; simp; omega) (by simp)).mono ?_
  rintro e w8 ⟨rfl, v8, l8⟩
  have K8 := Lib.hid (K7.out.other v8 l8)
  have R18 := Lib.hid (l8.row R17.out not_slot)
  clear v8 l8 K7 R17 R27 HBS
  go_wp2_with ((with_reducible refine wpList_oneKeyV (o := ⟨some 32, _, _, _, _, _⟩) rfl (.tmp 31) rfl dg HDL.out (by with_unfolding_all rfl) ?_); intro g9 w9 q9 b9; have K9 := Lib.hid (K8.out.kept b9); have R19 := Lib.hid (R18.out.kept b9); have KL9 := Lib.hid (one_kl q9 HDL.out); have OF9 : Hid (g9 ≠ o) := (by intro e; subst e; exact absurd (row_typed q9 K9.out.out.1) (by decide)); have OV9 : Hid (v5.ownBlock ≠ some g9) := (by intro e; obtain ⟨c, hr⟩ := own_typed K9.out.out.2 e; exact absurd (row_typed q9 hr) (by decide)); clear q9 b9)
  refine (outKeys_any w9 o _ _ _ [dg] K9.out.out KL9.out (fun _ k hk => by injection hk with hk; subst hk; exact ⟨OF9.out, OV9.out⟩) (by show S2.length ≤ _; rw [HS2.out]; omega)).mono ?_
  rintro e w10 ⟨rfl, v10, o10, t10⟩
  have K10 := K9.out.step HH.out o10 t10
  rw [P3.out] at K10
  have K10 := Lib.hid K10
  have R110 := Lib.hid (K9.out.row t10 R19.out (by decide) (by decide))
  clear o10 t10 K9 R19 K8 R18 KL9 OF9 OV9
  go_wp2_with fail
  refine (outDone_any w10 o _ _ K10.out.out (by show S3.length ≤ _; rw [HS3.out]; omega)).mono ?_
  rintro e w11 ⟨u11, rfl, o11, b11⟩
  have K11 := Lib.hid (K10.out.kept b11)
  have R111 := Lib.hid (R110.out.kept b11)
  have S11 : Hid (Bs w11 u11 S3) := o11.bs
  obtain ⟨UB, ud, rfl, _⟩ := o11.bs
  have d0 : w11.cell? ⟨g3, 0, none⟩ = some (.pointer (some ⟨g, 0, none⟩)) := R111.out.cell 0
  have d1 : w11.cell? ⟨g3, 1, none⟩ = some (.int .i64 (A : Int)) := R111.out.cell 1
  clear o11 b11 K10 R110
  go_wp2_with fail
  refine (K11.out.vs.write (A : Int) _ S3 S11.out (by omega)).mono ?_
  rintro e w12 ⟨rfl, v12, l12⟩
  have V12 := Lib.hid v12
  have L12 := Lib.hid (K11.out.lk.trans l12)
  clear v12 l12 K11 R111 d0 d1
  go_wp2
  go_ret
  exact ⟨rfl, V12.out, L12.out⟩
end
end Go.Proofs.YtpgbicbjlhkonaaGreatDoor
end
section
namespace Go.Proofs.YtpgbicbjlhkonaaGreatDoor
open Go.RowKit
set_option linter.unusedVariables false
set_option maxRecDepth 20000

set_option maxHeartbeats 1000000 in
theorem inTurn_any (w : World) (gl : Nat) (fs : List Value) (hl : fs.length ≤ 100) (P : Nat → World → Prop) (Q : Int → World → Prop)
    (hrow : ∀ i W, P i W → RowAt W gl 94 fs.toArray)
    (hcall : ∀ i (h : i < fs.length) W, P i W → ∃ fn lb, fs[i] = .func (.func fn) #[] lb ∧ (∀ args w, (callFunc fn args).run Tryz.prog w = .ok (.enter fn args) w) ∧ Calls Tryz.prog fn lb W fun e W' => ∃ z, e = .returned (.int .i64 z) ∧ ((z = 0 ∧ P (i + 1) W') ∨ (z ≠ 0 ∧ Q z W')))
    (h0 : P 0 w) : Calls Tryz.prog 32 #[.slice (some ⟨gl, 0, none⟩) fs.length fs.length] w fun e w' => ∃ z, e = .returned (.int .i64 z) ∧ ((z = 0 ∧ P fs.length w') ∨ (z ≠ 0 ∧ Q z w')) := by
  have HR := Lib.hid hrow
  have HC := Lib.hid hcall
  have H0 := Lib.hid h0
  clear hrow hcall h0
  go_enter Tryz.func32, Tryz.ntmps32
  go_wp2_with fail
  go_loopw [8] (fun i wr => ∃ k : Nat, k ≤ fs.length ∧ i = .int .i64 (k : Int) ∧ Hid (P k wr)) (fun i _ => fs.length - (intOf i).toNat)
  case atStart => exact ⟨0, by omega, rfl, H0⟩
  case round =>
    obtain ⟨k, hk, rfl, HP⟩ := hrel
    by_cases hlt : k < fs.length
    · have hlt2 : (k : Int) < (fs.length : Int) := by omega
      have hq0 : ¬ ((k : Int) < 0) := by omega
      have hw1 : IntKind.i64.wrap ((k : Int) + 1) = (k : Int) + 1 := IntWalk.i64_in _ (by omega)
      obtain ⟨fn, lb, hf, hent, hC⟩ := HC.out k hlt wr HP.out
      have hcell : wr.cell? ⟨gl, k, none⟩ = some (.func (.func fn) #[] lb) := by
        rw [(HR.out k wr HP.out).cell]
        simp [hlt, hf]
      have HCC := Lib.hid hC
      clear hf hC
      go_wp2_with fail
      refine HCC.out.mono ?_
      rintro e w1 ⟨z, rfl, hz⟩
      have HZ := Lib.hid hz
      clear hz hcell
      by_cases hz0 : z = 0
      · have hd : decide (z = 0) = true := decide_eq_true hz0
        have HP1 : Hid (P (k + 1) w1) := HZ.out.elim (fun h => h.2) fun h => absurd hz0 h.1
        go_wp2_with fail
        refine ⟨⟨k + 1, by omega, by congr 1, HP1⟩, ?_⟩
        show fs.length - ((k : Int) + 1).toNat < fs.length - (k : Int).toNat
        omega
      · have hd : decide (z = 0) = false := decide_eq_false hz0
        have HQ1 : Hid (Q z w1) := HZ.out.elim (fun h => absurd h.1 hz0) fun h => h.2
        go_wp2
        go_ret
        exact ⟨z, rfl, .inr ⟨hz0, HQ1.out⟩⟩
    · have hk2 : k = fs.length := by omega
      have hlt2 : ¬ (k : Int) < (fs.length : Int) := by omega
      have HP1 : Hid (P fs.length wr) := hk2 ▸ HP
      subst hk2
      go_wp2
      go_ret
      exact ⟨0, rfl, .inl ⟨rfl, HP1.out⟩⟩
section
variable {F : Nat → Prop} {x y w : World} {gm g M : Nat} {d : Dev}
def MkPost (F : Nat → Prop) (x : World) (gm g M : Nat) (y : World) (z : Int) (d : Dev) (e : Ending) (w' : World) : Prop := e = .returned (.int .i64 z) ∧ VS F x gm g M d w' ∧ Lk y w'
set_option maxHeartbeats 1000000 in
theorem save1_any (h : VS F x gm g M d y) (hp : d.pend.length ≤ 500000) (gt gn A n q : Nat) (hn : n ≤ 200) (hA : A ≤ 1000) (vb : Value) (b : List UInt8) (hb : Stay F x gm g y vb b) (hbl : b.length ≤ 256 * n) (h1 : RowAt y gt 84 (slotL g A n)) (h2 : RowAt y gn 89 (stateL q vb)) :
    Calls Tryz.prog 33 #[.pointer (some ⟨gt, 0, none⟩), .pointer (some ⟨gn, 0, none⟩)] y (MkPost F x gm g M y (d.run (WD A b (chunks b))).1 (d.run (WD A b (chunks b))).2) := by
  have HF := Lib.hid (fill_any h hp A n q hn hA vb b hb hbl)
  have H1 := Lib.hid h1
  have H2 := Lib.hid h2
  unfold MkPost
  generalize d.run (WD A b (chunks b)) = r at HF ⊢
  clear h h1 h2 hb
  go_enter Tryz.func33, Tryz.ntmps33
  go_wp2_with (first
    | (with_reducible refine wpList_load_row (o := ⟨some 3, _, _, _, _, _⟩) rfl 84 (.tmp 0) rfl gt (by with_unfolding_all rfl) 84 (slotL g A n) (0, 0) _ (by with_unfolding_all exact H1.out) Tryz.underlying84 rfl (Tryz.sizeSlot g A n) ?_)
    | (with_reducible refine wpList_load_row (o := ⟨some 4, _, _, _, _, _⟩) rfl 89 (.tmp 1) rfl gn (by with_unfolding_all rfl) 89 (stateL q vb) (0, 0) _ (by with_unfolding_all exact H2.out) Tryz.underlying89 rfl (Tryz.sizeState q vb) ?_))
  refine HF.out.mono ?_
  rintro e w1 ⟨rfl, v1, l1⟩
  have V1 := Lib.hid v1
  have L1 := Lib.hid l1
  clear v1 l1 HF H1 H2
  go_wp2
  go_ret
  exact ⟨rfl, V1.out, L1.out⟩
set_option maxHeartbeats 400000 in
theorem save2_any (h : VS F x gm g M d y) (gd : Nat) (h1 : Boxed y gd 24 (.pointer (some ⟨g, 0, none⟩))) :
    Calls Tryz.prog 35 #[.pointer (some ⟨gd, 0, none⟩)] y (MkPost F x gm g M y d.syncE d.sync) := by
  have HF := Lib.hid h.sync
  have c1 := h1.cell
  unfold MkPost
  generalize d.syncE = r at HF ⊢
  generalize d.sync = ds at HF ⊢
  clear h h1
  go_enter Tryz.func35, Tryz.ntmps35
  go_wp2_with fail
  refine HF.out.mono ?_
  rintro e w1 ⟨rfl, v1, l1⟩
  have V1 := Lib.hid v1
  have L1 := Lib.hid l1
  clear v1 l1 HF c1
  go_wp2
  go_ret
  exact ⟨rfl, V1.out, L1.out⟩
set_option maxHeartbeats 400000 in
theorem save4_any (h : VS F x gm g M d y) (gd : Nat) (h1 : Boxed y gd 24 (.pointer (some ⟨g, 0, none⟩))) :
    Calls Tryz.prog 39 #[.pointer (some ⟨gd, 0, none⟩)] y (MkPost F x gm g M y d.syncE d.sync) := by
  have HF := Lib.hid h.sync
  have c1 := h1.cell
  unfold MkPost
  generalize d.syncE = r at HF ⊢
  generalize d.sync = ds at HF ⊢
  clear h h1
  go_enter Tryz.func39, Tryz.ntmps39
  go_wp2_with fail
  refine HF.out.mono ?_
  rintro e w1 ⟨rfl, v1, l1⟩
  have V1 := Lib.hid v1
  have L1 := Lib.hid l1
  clear v1 l1 HF c1
  go_wp2
  go_ret
  exact ⟨rfl, V1.out, L1.out⟩
set_option maxHeartbeats 1000000 in
theorem save3_any (h : VS F x gm g M d y) (hM : M ≤ 999999999) (hp : d.pend.length ≤ 900000) (gt gmm gn A n q : Nat) (hA : A ≤ 1000) (hq : q < 18446744073709551616) (vb : Value) (b : List UInt8) (hb : Stay F x gm g y vb b) (hbl : b.length ≤ 60000) (h1 : RowAt y gt 84 (slotL g A n)) (h2 : RowAt y gn 89 (stateL q vb)) (h3 : Boxed y gmm 31 (.pointer (some ⟨gm, 0, none⟩))) :
    Calls Tryz.prog 37 #[.pointer (some ⟨gt, 0, none⟩), .pointer (some ⟨gmm, 0, none⟩), .pointer (some ⟨gn, 0, none⟩)] y (MkPost F x gm g (M + 1) y (d.writeE (A : Int) (hdV q b)) (d.write (A : Int) (hdV q b))) := by
  have HF := Lib.hid (mark_any h hM hp A n q hA hq vb b hb hbl)
  have H1 := Lib.hid h1
  have H2 := Lib.hid h2
  have c1 := h3.cell
  unfold MkPost
  generalize d.writeE (A : Int) (hdV q b) = r at HF ⊢
  generalize d.write (A : Int) (hdV q b) = dd at HF ⊢
  clear h h1 h2 hb h3
  go_enter Tryz.func37, Tryz.ntmps37
  go_wp2_with (first
    | (with_reducible refine wpList_load_row (o := ⟨some 4, _, _, _, _, _⟩) rfl 84 (.tmp 0) rfl gt (by with_unfolding_all rfl) 84 (slotL g A n) (0, 0) _ (by with_unfolding_all exact H1.out) Tryz.underlying84 rfl (Tryz.sizeSlot g A n) ?_)
    | (with_reducible refine wpList_load_row (o := ⟨some 6, _, _, _, _, _⟩) rfl 89 (.tmp 2) rfl gn (by with_unfolding_all rfl) 89 (stateL q vb) (0, 0) _ (by with_unfolding_all exact H2.out) Tryz.underlying89 rfl (Tryz.sizeState q vb) ?_))
  refine HF.out.mono ?_
  rintro e w1 ⟨rfl, v1, l1⟩
  have V1 := Lib.hid v1
  have L1 := Lib.hid l1
  clear v1 l1 HF H1 H2
  go_wp2
  go_ret
  exact ⟨rfl, V1.out, L1.out⟩
set_option maxHeartbeats 1000000 in
theorem save5_any (h : VS F x gm g M d y) (hp : d.pend.length ≤ 500000) (gf A n : Nat) (hn : n ≤ 200) (hA : A ≤ 1000) (h1 : RowAt y gf 84 (slotL g A n)) :
    Calls Tryz.prog 40 #[.pointer (some ⟨gf, 0, none⟩)] y (MkPost F x gm g M y (d.run (phase (eraseW A n))).1 (d.run (phase (eraseW A n))).2) := by
  have HF := Lib.hid (wipe_any h hp A n hn hA)
  have H1 := Lib.hid h1
  unfold MkPost
  generalize d.run (phase (eraseW A n)) = r at HF ⊢
  clear h h1
  go_enter Tryz.func40, Tryz.ntmps40
  go_wp2_with (with_reducible refine wpList_load_row (o := ⟨some 2, _, _, _, _, _⟩) rfl 84 (.tmp 0) rfl gf (by with_unfolding_all rfl) 84 (slotL g A n) (0, 0) _ (by with_unfolding_all exact H1.out) Tryz.underlying84 rfl (Tryz.sizeSlot g A n) ?_)
  refine HF.out.mono ?_
  rintro e w1 ⟨rfl, v1, l1⟩
  have V1 := Lib.hid v1
  have L1 := Lib.hid l1
  clear v1 l1 HF H1
  go_wp2
  go_ret
  exact ⟨rfl, V1.out, L1.out⟩
end
end Go.Proofs.YtpgbicbjlhkonaaGreatDoor
end
