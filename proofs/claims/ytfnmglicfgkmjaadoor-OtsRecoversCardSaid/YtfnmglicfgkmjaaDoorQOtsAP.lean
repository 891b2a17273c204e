/-
  Texts that belong together, merged: OtsRefI, OtsOpen. Conditions: as each theorem names them.
-/
import Derived.Test.YtfnmglicfgkmjaaDoorQOtsAO
import Derived.Test.YtfnmglicfgkmjaaDoorQOtsAL
import Derived.Test.YtfnmglicfgkmjaaDoorQOtsAA
section
namespace Go.Proofs.YtfnmglicfgkmjaaDoor
open Go.RowKit
set_option linter.unusedVariables false
set_option maxRecDepth 20000

set_option maxHeartbeats 8000000 in
theorem refRecover_env (w0 W : World) (rs : List (Nat × TypeId × Array Value)) (m g n : Nat) (t d : List UInt8) (lt : t.length = 32) (ld : d.length = 32) (hE : Env w0 rs W) (hm : rs[m]? = some (g, 32, logC n)) (hn : n ≤ 500000)
    (v : Value) (ls : List (List UInt8)) (hls : ∀ l ∈ ls, l.length = 32) (hlen : ls.length = 67) (hk : ∀ x n', Env w0 (rs.set m (g, 32, logC n')) x → Ks x v ls) :
    Calls Tryd.prog 21 #[.pointer (some ⟨g, 0, none⟩), .agg (keyC t), .agg (keyC d), v] W fun e x => ∃ n', n' ≤ n + 1300 ∧ e = .returned (.tuple #[.agg (keyC (recB t d ls)), .int .i64 0]) ∧ Env w0 (rs.set m (g, 32, logC n')) x := by
  have HM := Lib.hid hm
  have E0 := Lib.hid hE
  have LDG := Lib.hid ld
  have LT := Lib.hid lt
  obtain ⟨D, hD⟩ : ∃ D, D = digitsL d := ⟨_, rfl⟩
  have DL : Hid (D.length = 67) := by show _ = _; rw [hD]; exact digitsL_length d ld
  have DB : Hid (∀ c, D.getD c 0 ≤ 15) := fun c => by rw [hD]; exact digitsL_getD d ld c
  have CD : Hid (∀ x rs', Env w0 rs' x → Calls Tryd.prog 10 #[.agg (keyC d)] x fun e w' => ∃ b c cur, e = .returned (.slice (some ⟨b, 0, none⟩) 67 c) ∧ Env w0 ((b, 3, cur) :: rs') w' ∧ cur.toList.take 67 = cellsI D) := fun x rs' h => by rw [hD]; exact refDigits_env w0 x rs' h _ LDG.out
  obtain ⟨f, hf⟩ : ∃ f : Nat → List UInt8, f = fun (c : Nat) => alongB t (c : Int) ((D.getD c 0 : Nat) : Int) (ls.getD c zeroKey) (15 - D.getD c 0) := ⟨_, rfl⟩
  have LG : Hid (∀ c, (ls.getD c zeroKey).length = 32) := fun c => by
    rw [List.getD_eq_getElem?_getD]
    cases e : ls[c]? with
    | none => exact zeroKey_length
    | some x => exact hls x (List.mem_of_getElem? e)
  have LF : Hid (∀ c, (f c).length = 32) := fun c => by rw [hf]; exact alongB_length _ _ _ _ (LG.out c) _
  have CA : Hid (∀ (c : Nat) x rs' m' n', c < 67 → n' ≤ 800000 → Env w0 rs' x → rs'[m']? = some (g, 32, logC n') → Calls Tryd.prog 13 #[.pointer (some ⟨g, 0, none⟩), .agg (keyC t), .int .i64 (c : Int), .int .i64 ((D.getD c 0 : Nat) : Int), .int .i64 15, .agg (keyC (ls.getD c zeroKey))] x fun e w' => ∃ n'', n'' ≤ n' + 18 ∧ e = .returned (.agg (keyC (f c))) ∧ Env w0 (rs'.set m' (g, 32, logC n'')) w') := fun c x rs' m' n' h1 h2 h3 h4 => by
    have hb := DB.out c
    rw [hf]
    exact (refAlong_env w0 x rs' m' g n' h3 h4 t _ LT.out (LG.out c) c _ 15 (by omega) (by omega) (by omega) (15 - D.getD c 0) (by omega) (by omega) (by omega)).mono fun _ _ ⟨a1, a2⟩ => ⟨_, by omega, a1, a2⟩
  obtain ⟨k, hkk⟩ : ∃ k, k = recB t d ls := ⟨_, rfl⟩
  have HK : Hid (k = digestB (t ++ ((List.range 67).map f).flatten)) := by show _ = _; rw [hkk, hf, hD]; rfl
  have LK : Hid (k.length = 32) := by show _ = _; rw [hkk]; exact digestB_length _
  have HT : Hid (∀ x, Calls Tryd.prog 25 #[.agg (keyC t)] x (RetOwn x 5 t)) := fun x => refBytes_own x t LT.out
  have HBY : Hid (∀ c x, Calls Tryd.prog 25 #[.agg (keyC (f c))] x (RetOwn x 5 (f c))) := fun c x => refBytes_own x _ (LF.out c)
  obtain ⟨VA, vc, rfl, hv1, hv2, hv0⟩ := hk W n (by rw [set_id hm]; exact hE)
  obtain ⟨vb, vo, rfl, _⟩ := hv0 (by omega)
  have HKR : Hid (∀ x n', Env w0 (rs.set m (g, 32, logC n')) x → ∀ (k : Nat) (l : List UInt8), ls[k]? = some l → x.rangeAt vb (vo + k * 32) (cellsB l)) := fun x n' h => by
    obtain ⟨A', c', he, _, _, h0⟩ := hk x n' h
    obtain ⟨b', o', hA, hh⟩ := h0 (by omega)
    injection he with e1 _ _
    rw [hA] at e1
    injection e1 with e1
    injection e1 with e1 e2 _
    subst e1 e2
    exact hh
  rw [hlen]
  have HG : Hid (∀ c, c < 67 → ls[c]? = some (ls.getD c zeroKey)) := fun c hc => by rw [List.getD_eq_getElem?_getD, List.getElem?_eq_getElem (by omega)]; rfl
  rw [← hkk]
  clear hm hE lt ld hf hD hk hls hlen hkk hv1 hv0
  go_enter Tryd.func21, Tryd.ntmps21
  go_wp2_with (first
    | ((with_reducible refine wpE_box (o := ⟨some 5, _, _, _, _, _⟩) rfl 23 (.tmp 1) rfl (keyC t) (by with_unfolding_all rfl) E0.out ?_); intro g5 w1 T1; have E1 := Lib.hid T1; clear T1)
    | ((with_reducible refine wpE_box (o := ⟨some 6, _, _, _, _, _⟩) rfl 23 (.tmp 2) rfl (keyC d) (by with_unfolding_all rfl) E1.out ?_); intro g6 w2 T2; have E2 := Lib.hid T2; clear T2)
    | ((with_reducible refine wpE_alloc (o := ⟨some 8, _, _, _, _, _⟩) rfl 23 rfl (keyC zeroKey) Tryd.zeroK E2.out ?_); intro g8 w3 T3; have E3 := Lib.hid T3; clear T3)
    | (with_reducible refine wpE_load (o := ⟨some 17, _, _, _, _, _⟩) rfl 23 (.tmp 6) rfl 1 g6 23 (keyC d) _ (by with_unfolding_all rfl) (by with_unfolding_all rfl) Tryd.underlying23 rfl (Tryd.sizeKey _ LDG.out) E3.out ?_))
  refine (CD.out _ _ E3.out).mono ?_
  intro e w4 h
  obtain ⟨gd, dc, cur, he, h4, htake⟩ := h
  subst he
  have E4 := Lib.hid h4
  have HTAKE := Lib.hid htake
  clear h4 htake E0 E1 E2 E3 CD
  go_wp2_with (with_reducible refine wpE_load (o := ⟨some 19, _, _, _, _, _⟩) rfl 23 (.tmp 5) rfl 3 g5 23 (keyC t) _ (by with_unfolding_all rfl) (by with_unfolding_all rfl) Tryd.underlying23 rfl (Tryd.sizeKey _ LT.out) E4.out ?_)
  refine (HT.out _).mono ?_
  intro e w5 h
  obtain ⟨u0, he, o5, b5⟩ := h
  subst he
  have R5 : Hid (ByRow w0 ((gd, 3, cur) :: (g8, 23, keyC zeroKey) :: (g6, 23, keyC d) :: (g5, 23, keyC t) :: rs) u0 (t ++ ((List.range 0).map f).flatten) w5) := by
    show ByRow _ _ _ _ _
    rw [show ((List.range 0).map f).flatten = [] from rfl, List.append_nil]
    exact ByRow.of E4.out b5 o5 (by rw [LT.out]; omega)
  clear o5 b5 E4
  go_wp2_with fail
  go_loopw [11, 12] (fun u v wr => ∃ c n' : Nat, c ≤ 67 ∧ n' ≤ n + 18 * c ∧ v = .int .i64 (c : Int) ∧ ByRow w0 ((gd, 3, cur) :: (g8, 23, keyC zeroKey) :: (g6, 23, keyC d) :: (g5, 23, keyC t) :: rs.set m (g, 32, logC n')) u (t ++ ((List.range c).map f).flatten) wr) (fun _ v _ => 67 - (intOf v).toNat)
  case atStart => exact ⟨0, n, by omega, by omega, rfl, by rw [set_id HM.out]; exact R5.out⟩
  case round =>
    clear R5
    obtain ⟨c, n', hc, hn', rfl, hR⟩ := hrel
    have R := Lib.hid hR
    clear hR
    by_cases hlt : c < 67
    · have hlt2 : (c : Int) < 67 := by omega
      have hw1 : IntKind.i64.wrap ((c : Int) + 1) = (c : Int) + 1 := IntWalk.i64_in _ (by omega)
      have hq0 : ¬ ((c : Int) < 0) := by omega
      have LFC := Lib.hid (LF.out c)
      have CAC := Lib.hid (CA.out c)
      have LEN : Hid ((t ++ ((List.range c).map f).flatten).length = 32 + 32 * c) := by show _ = _; rw [List.length_append, LT.out, flat_len f LF.out]
      have HDC : Hid (∀ W', Env w0 [(gd, 3, cur), (g5, 23, keyC t)] W' → W'.cell? ⟨gd, c, none⟩ = some (.int .i64 ((D.getD c 0 : Nat) : Int))) := fun W' h => take_cellI (h.row 0 rfl) HTAKE.out c (by rw [DL.out]; exact hlt)
      obtain ⟨dg, hdg⟩ : ∃ z, z = D.getD c 0 := ⟨_, rfl⟩
      obtain ⟨lc, hlc⟩ : ∃ z, z = ls.getD c zeroKey := ⟨_, rfl⟩
      have HGC := Lib.hid (HG.out c hlt)
      have LC := Lib.hid (LG.out c)
      rw [← hdg] at HDC CAC
      rw [← hlc] at CAC HGC LC
      clear hdg hlc
      go_wp2_with fail
      have sub : ∀ x nn u l, ByRow w0 ((gd, 3, cur) :: (g8, 23, keyC zeroKey) :: (g6, 23, keyC d) :: (g5, 23, keyC t) :: rs.set m (g, 32, logC nn)) u l x → Env w0 [(gd, 3, cur), (g5, 23, keyC t)] x ∧ x.rangeAt vb (vo + c * 32) (cellsB lc) := fun x nn u l h => ⟨h.env.less (.cons_cons _ (.cons _ (.cons _ (.cons_cons _ (List.nil_sublist _))))), HKR.out x nn h.env.tl.tl.tl.tl c lc HGC.out⟩
      have SUB := Lib.hid sub
      clear sub
      refine plain_region (S := fun x => Env w0 [(gd, 3, cur), (g5, 23, keyC t)] x ∧ x.rangeAt vb (vo + c * 32) (cellsB lc)) (fin := fun _ => false) (by kernel_rfl) ?_
      have RD : Hid (ByRow w0 ((gd, 3, cur) :: (g8, 23, keyC zeroKey) :: (g6, 23, keyC d) :: (g5, 23, keyC t) :: rs.set m (g, 32, logC n')) u11 (t ++ ((List.range c).map f).flatten) wr.drew) := R.out.call (Below.refl _ _).drew
      have hS := SUB.out _ _ _ _ RD.out
      change walkS _ _ _ _ _ _ 16 _ _ _
      refine walkS_take (i := 0) (oi := ⟨some 25, _, _, _, _, _⟩) (v := u11) rfl (by kernel_rfl) (by kernel_rfl) (fun _ _ _ h => h) _ _ _ _ (by kernel_rfl) (by kernel_rfl) (Or.inl ⟨by rfl, fun w' hS' => (by first | rfl | (clear hS hS'; go_simp))⟩) hS ?_
      try simp only [Act.put, List.setIfInBounds_toArray, List.set_cons_zero, List.set_cons_succ]
      refine walkS_take (i := 1) (oi := ⟨some 26, _, _, _, _, _⟩) (v := .pointer (some ⟨g, 0, none⟩)) rfl (by kernel_rfl) (by kernel_rfl) (fun _ _ _ h => h) _ _ _ _ (by kernel_rfl) (by kernel_rfl) (Or.inl ⟨by rfl, fun w' hS' => (by first | rfl | (clear hS hS'; go_simp))⟩) hS ?_
      try simp only [Act.put, List.setIfInBounds_toArray, List.set_cons_zero, List.set_cons_succ]
      refine walkS_take (i := 2) (oi := ⟨some 27, _, _, _, _, _⟩) (v := .agg (keyC t)) rfl (by kernel_rfl) (by kernel_rfl) (fun _ _ _ h => h) _ _ _ _ (by kernel_rfl) (by kernel_rfl) (Or.inl ⟨by rfl, fun w' hS' => (run_load_row 23 (.tmp 5) rfl g5 rfl 23 (keyC t) (0, 0) _ (hS'.1.row 1 rfl) Tryd.underlying23 rfl (Tryd.sizeKey t LT.out))⟩) hS ?_
      try simp only [Act.put, List.setIfInBounds_toArray, List.set_cons_zero, List.set_cons_succ]
      refine walkS_take (i := 3) (oi := ⟨some 28, _, _, _, _, _⟩) (v := .int .i64 (c : Int)) rfl (by kernel_rfl) (by kernel_rfl) (fun _ _ _ h => h) _ _ _ _ (by kernel_rfl) (by kernel_rfl) (Or.inl ⟨by rfl, fun w' hS' => (by first | rfl | (clear hS hS'; go_simp))⟩) hS ?_
      try simp only [Act.put, List.setIfInBounds_toArray, List.set_cons_zero, List.set_cons_succ]
      refine walkS_take (i := 4) (oi := ⟨some 29, _, _, _, _, _⟩) (v := .slice (some ⟨gd, 0, none⟩) 67 dc) rfl (by kernel_rfl) (by kernel_rfl) (fun _ _ _ h => h) _ _ _ _ (by kernel_rfl) (by kernel_rfl) (Or.inl ⟨by rfl, fun w' hS' => (by first | rfl | (clear hS hS'; go_simp))⟩) hS ?_
      try simp only [Act.put, List.setIfInBounds_toArray, List.set_cons_zero, List.set_cons_succ]
      refine walkS_take (i := 5) (oi := ⟨some 30, _, _, _, _, _⟩) (v := .int .i64 (c : Int)) rfl (by kernel_rfl) (by kernel_rfl) (fun _ _ _ h => h) _ _ _ _ (by kernel_rfl) (by kernel_rfl) (Or.inl ⟨by rfl, fun w' hS' => (by first | rfl | (clear hS hS'; go_simp))⟩) hS ?_
      try simp only [Act.put, List.setIfInBounds_toArray, List.set_cons_zero, List.set_cons_succ]
      refine walkS_take (i := 6) (oi := ⟨some 31, _, _, _, _, _⟩) (v := .pointer (some ⟨gd, c, none⟩)) rfl (by kernel_rfl) (by kernel_rfl) (fun _ _ _ h => h) _ _ _ _ (by kernel_rfl) (by kernel_rfl) (Or.inl ⟨by rfl, fun w' hS' => (by first | rfl | (clear hS hS'; go_simp))⟩) hS ?_
      try simp only [Act.put, List.setIfInBounds_toArray, List.set_cons_zero, List.set_cons_succ]
      refine walkS_take (i := 7) (oi := ⟨some 32, _, _, _, _, _⟩) (v := .int .i64 (dg : Int)) rfl (by kernel_rfl) (by kernel_rfl) (fun _ _ _ h => h) _ _ _ _ (by kernel_rfl) (by kernel_rfl) (Or.inl ⟨by rfl, fun w' hS' => (by have cc := HDC.out w' hS'.1; clear hS hS'; go_simp)⟩) hS ?_
      try simp only [Act.put, List.setIfInBounds_toArray, List.set_cons_zero, List.set_cons_succ]
      refine walkS_take (i := 8) (oi := ⟨some 33, _, _, _, _, _⟩) (v := .slice (some ⟨vb, vo, none⟩) 67 vc) rfl (by kernel_rfl) (by kernel_rfl) (fun _ _ _ h => h) _ _ _ _ (by kernel_rfl) (by kernel_rfl) (Or.inl ⟨by rfl, fun w' hS' => (by first | rfl | (clear hS hS'; go_simp))⟩) hS ?_
      try simp only [Act.put, List.setIfInBounds_toArray, List.set_cons_zero, List.set_cons_succ]
      refine walkS_take (i := 9) (oi := ⟨some 34, _, _, _, _, _⟩) (v := .int .i64 (c : Int)) rfl (by kernel_rfl) (by kernel_rfl) (fun _ _ _ h => h) _ _ _ _ (by kernel_rfl) (by kernel_rfl) (Or.inl ⟨by rfl, fun w' hS' => (by first | rfl | (clear hS hS'; go_simp))⟩) hS ?_
      try simp only [Act.put, List.setIfInBounds_toArray, List.set_cons_zero, List.set_cons_succ]
      refine walkS_take (i := 10) (oi := ⟨some 35, _, _, _, _, _⟩) (v := .pointer (some ⟨vb, vo + c * 32, none⟩)) rfl (by kernel_rfl) (by kernel_rfl) (fun _ _ _ h => h) _ _ _ _ (by kernel_rfl) (by kernel_rfl) (Or.inl ⟨by rfl, fun w' hS' => (run_keyAddrO 39 23 (.tmp 33) (.tmp 34) rfl vb vo 67 vc c rfl rfl hlt Tryd.underlying39 (by rw [← show (cellsB zeroKey).length = 32 by rw [cellsB_length, zeroKey_length]]; exact Tryd.sizeKeyM zeroKey zeroKey_length))⟩) hS ?_
      try simp only [Act.put, List.setIfInBounds_toArray, List.set_cons_zero, List.set_cons_succ]
      refine walkS_take (i := 11) (oi := ⟨some 36, _, _, _, _, _⟩) (v := .agg (keyC lc)) rfl (by kernel_rfl) (by kernel_rfl) (fun _ _ _ h => h) _ _ _ _ (by kernel_rfl) (by kernel_rfl) (Or.inl ⟨by rfl, fun w' hS' => (run_keyR 23 (.tmp 35) rfl vb (vo + c * 32) rfl lc _ hS'.2 Tryd.underlying23 rfl (Tryd.sizeKeyM lc LC.out))⟩) hS ?_
      try simp only [Act.put, List.setIfInBounds_toArray, List.set_cons_zero, List.set_cons_succ]
      clear hS R
      refine walkS_only (i := 12) (o := ⟨some 37, _, _, _, _, _⟩) (by kernel_rfl) rfl rfl fun KK hKK => ?_
      go_simp
      obtain ⟨gu, cap, cr, hu, q1, q2, q3, q4, hE⟩ := RD.out
      refine (CAC.out _ _ (m + 5) n' hlt (by omega) hE (by simp only [List.getElem?_cons_succ]; exact set_at HM.out)).mono ?_
      intro e w6 h
      obtain ⟨n6, hn6, he, h6⟩ := h
      subst he
      simp only [List.set_cons_succ, List.set_set] at h6
      have R6 : Hid (ByRow w0 ((gd, 3, cur) :: (g8, 23, keyC zeroKey) :: (g6, 23, keyC d) :: (g5, 23, keyC t) :: rs.set m (g, 32, logC n6)) u11 (t ++ ((List.range c).map f).flatten) w6) := ⟨gu, cap, cr, hu, q1, q2, q3, q4, h6⟩
      clear h6 hE RD hu q1 q2 q3 q4
      refine hKK _ _ (.inr (SUB.out _ _ _ _ R6.out)) ?_
      clear hKK KK
      try simp only [Act.put, List.setIfInBounds_toArray, List.set_cons_zero, List.set_cons_succ]
      refine walkS_only (i := 13) (o := ⟨some 38, _, _, _, _, _⟩) (by kernel_rfl) rfl rfl fun KK hKK => ?_
      go_simp
      refine (HBY.out c _).mono ?_
      intro e w7 h
      obtain ⟨u9, he, o7, b7⟩ := h
      subst he
      have R7 := Lib.hid (R6.out.call b7)
      have U9 := Lib.hid o7.bs
      clear o7 b7 R6
      refine hKK _ _ (.inr (SUB.out _ _ _ _ R7.out)) ?_
      clear hKK KK
      try simp only [Act.put, List.setIfInBounds_toArray, List.set_cons_zero, List.set_cons_succ]
      refine walkS_only (i := 14) (o := ⟨some 39, _, _, _, _, _⟩) (by kernel_rfl) rfl rfl fun KK hKK => ?_
      refine wp_appRow (.tmp 25) (.tmp 38) 68 rfl Tryd.infoB Tryd.underlying68 u11 u9 _ (f c) rfl rfl R7.out U9.out (by rw [LEN.out, LFC.out]; omega) (by rw [LEN.out]; omega) fun v8 w8 r8 => ?_
      have R8 : Hid (ByRow w0 ((gd, 3, cur) :: (g8, 23, keyC zeroKey) :: (g6, 23, keyC d) :: (g5, 23, keyC t) :: rs.set m (g, 32, logC n6)) v8 (t ++ ((List.range (c + 1)).map f).flatten) w8) := by
        show ByRow _ _ _ _ _
        rw [flat_next, ← List.append_assoc]
        exact r8
      clear r8 R7 U9
      refine hKK _ _ (.inr (SUB.out _ _ _ _ R8.out)) ?_
      clear hKK KK
      try simp only [Act.put, List.setIfInBounds_toArray, List.set_cons_zero, List.set_cons_succ]
      refine walkS_only (i := 15) (o := ⟨some 11, _, _, _, _, _⟩) (by kernel_rfl) rfl rfl fun KK hKK => ?_
      refine wp_assignE (.tmp 39) rfl ?_
      refine hKK _ _ (.inr (SUB.out _ _ _ _ R8.out)) (walkS_done (by kernel_rfl) ?_ _)
      clear hKK KK
      try simp only [Act.put, List.setIfInBounds_toArray, List.set_cons_zero, List.set_cons_succ]
      go_wp2_with fail
      go_roundw
      · exact ⟨c + 1, n6, by omega, by omega, by congr 1, R8.out⟩
      · show 67 - ((c : Int) + 1).toNat < 67 - (c : Int).toNat
        omega
    · have hc2 : c = 67 := by omega
      clear hlt
      subst hc2
      have HLN : Hid ((t ++ ((List.range 67).map f).flatten).length ≤ 1000000) := by show _ ≤ _; rw [List.length_append, LT.out, flat_len f LF.out]; omega
      have BU := Lib.hid R.out.bs
      go_wp2_with fail
      refine (LogSum_env (m := m + 4) (n := n') R.out.env (by simp only [List.getElem?_cons_succ]; exact set_at HM.out) _ _ k (by omega) HK.out BU.out HLN.out).mono ?_
      intro e w9 h
      obtain ⟨he, h9⟩ := h
      subst he
      simp only [List.set_cons_succ, List.set_set] at h9
      have E9 := Lib.hid h9
      clear h9 R BU
      go_wp2_with ((with_reducible refine wpE_store (o := ⟨none, _, _, _, _, _⟩) rfl 23 (.tmp 8) (.tmp 42) rfl 1 g8 23 (keyC zeroKey) (keyC k) (by with_unfolding_all rfl) (by with_unfolding_all rfl) (by with_unfolding_all rfl) (keyC_same zeroKey_length LK.out) (Tryd.sizeKey _ LK.out) (keyC_one _) E9.out ?_); intro w10 T10; simp only [List.set_cons_zero, List.set_cons_succ] at T10; have E10 := Lib.hid T10; clear T10)
      exact bodyPost_ret (ret_row_tmp rfl _ g8 23 (keyC k) _ rfl (E10.out.row 1 rfl) Tryd.underlying23 rfl (Tryd.sizeKey _ LK.out)) rfl ⟨n' + 1, by omega, rfl, E10.out.tl.tl.tl.tl⟩
set_option maxHeartbeats 4000000 in
theorem refRecover_not (w0 W : World) (rs : List (Nat × TypeId × Array Value)) (M : Value) (t d : List UInt8) (hE : Env w0 rs W) (A : Option Addr) (len c : Nat) (hlen : len ≠ 67) (hb : len ≤ maxLen) :
    Calls Tryd.prog 21 #[M, .agg (keyC t), .agg (keyC d), .slice A len c] W fun e x => e = .returned (.tuple #[.agg (keyC zeroKey), .int .i64 40]) ∧ Env w0 rs x := by
  have E0 := Lib.hid hE
  have hd : decide ((len : Int) = 67) = false := by simp; omega
  have HZV := Lib.hid zeroKeyV
  unfold maxLen at hb
  clear hE
  go_enter Tryd.func21, Tryd.ntmps21
  go_wp2_with (first
    | ((with_reducible refine wpE_box (o := ⟨some 5, _, _, _, _, _⟩) rfl 23 (.tmp 1) rfl (keyC t) (by with_unfolding_all rfl) E0.out ?_); intro g5 w1 T1; have E1 := Lib.hid T1; clear T1)
    | ((with_reducible refine wpE_box (o := ⟨some 6, _, _, _, _, _⟩) rfl 23 (.tmp 2) rfl (keyC d) (by with_unfolding_all rfl) E1.out ?_); intro g6 w2 T2; have E2 := Lib.hid T2; clear T2)
    | ((with_reducible refine wpE_alloc (o := ⟨some 8, _, _, _, _, _⟩) rfl 23 rfl (keyC zeroKey) Tryd.zeroK E2.out ?_); intro g8 w3 T3; have E3 := Lib.hid T3; clear T3)
    | ((with_reducible refine wpE_store (o := ⟨none, _, _, _, _, _⟩) rfl 23 (.tmp 8) (.tmp 16) rfl 0 g8 23 (keyC zeroKey) (keyC zeroKey) (by with_unfolding_all rfl) (by with_unfolding_all rfl) (by with_unfolding_all exact HZV.out) rfl (Tryd.sizeKey _ zeroKey_length) (keyC_one _) E3.out ?_); intro w5 T5; simp only [List.set_cons_zero] at T5; have E5 := Lib.hid T5; clear T5))
  exact bodyPost_ret (ret_row_tmp rfl _ g8 23 (keyC zeroKey) _ rfl (E5.out.row 0 rfl) Tryd.underlying23 rfl (Tryd.sizeKey _ zeroKey_length)) rfl ⟨rfl, E5.out.tl.tl.tl⟩
end Go.Proofs.YtfnmglicfgkmjaaDoor
end
section
namespace Go.Proofs.YtfnmglicfgkmjaaDoor
open Go.RowKit
set_option linter.unusedVariables false

theorem open_keys {H : Type} {enc : TypeId × Value → H} {P : Program} {W : World} {base : Nat} {sp : Nat → Bool} {held : Bool} {t e b : TypeId} {fuel : Nat} {cs : List Value} {x : DataW H × List MemPlace}
    (ht : P.underlying t = some (.slice e)) (he : P.underlying e = some (.array 32 b)) (hb : P.underlying b = some (.int .u8)) (hcb : P.cellsOf b = 1) (hce : P.cellsOf e = 32) (h : DataW.trod enc P W base sp held fuel t cs = some x) :
    ∃ (v : Value) (L : List (List UInt8)), cs = [v] ∧ Ks W v L ∧ ∀ l ∈ L, l.length = 32 := by
  rcases DataW.trod_slice ht h with ⟨rfl, _⟩ | ⟨a, len, cap, elems, rest, n, _, rfl, _, hba, hl, hm, hlen, hel, _, _⟩
  · exact ⟨_, [], rfl, ⟨none, 0, rfl, Nat.le_refl _, by simp [maxLen], fun h => by simp at h⟩, by simp⟩
  · have each : ∀ i, i < len → ∃ l : List UInt8, l.length = 32 ∧ ∀ j, j < 32 → W.cell? ((a.add (i * 32)).add j) = some (.int .u8 ((l.getD j 0).toNat : Int)) := by
      intro i hi
      have h1 := hel i hi
      rw [hce, List.getElem?_eq_getElem (by omega), Option.bind_eq_some_iff] at h1
      obtain ⟨c, hc, ht2⟩ := h1
      obtain ⟨_, hcl, hcell⟩ := World.cells?_some hc
      obtain ⟨xs, m, _, _, _, hxl, hxe⟩ := DataW.trod_array he ht2
      refine ⟨c.map fun v => match v with | .int _ z => UInt8.ofNat z.toNat | _ => 0, by simpa using hcl, fun j hj => ?_⟩
      have h2 := hxe j hj
      rw [hcb, List.getElem?_eq_getElem (by omega)] at h2
      obtain ⟨z, hz, _, hwf⟩ := DataW.trod_int hb h2
      have hcj : c[j]? = some (.int .u8 z) := by
        have := congrArg (·[0]?) hz
        simpa [List.getElem?_take, List.getElem?_drop] using this
      rw [hcell j hj, hcj, List.getD_eq_getElem?_getD, List.getElem?_map, hcj]
      simp only [Option.map_some, Option.getD_some]
      rw [u8_of_wf hwf]
    refine ⟨_, List.ofFn fun i : Fin len => (each i.1 i.2).choose, rfl, ⟨some a, cap, by rw [List.length_ofFn], by rw [List.length_ofFn]; exact hl, hm, fun h0 => ?_⟩, fun l hl' => ?_⟩
    · rw [List.length_ofFn] at h0
      obtain ⟨g, off, spot⟩ := a
      have hc := (each 0 h0).choose_spec.2 0 (by omega)
      have hspot : spot = none := by simpa [Addr.add] using World.cell?_spot hc
      subst hspot
      refine ⟨g, off, rfl, fun k l hk j u hj => ?_⟩
      obtain ⟨hk1, hk2⟩ := List.getElem?_eq_some_iff.1 hk
      rw [List.getElem_ofFn] at hk2
      rw [List.length_ofFn] at hk1
      have hs := (each k hk1).choose_spec
      simp only at hk2
      rw [hk2] at hs
      have hj2 : j < 32 := by
        have := (List.getElem?_eq_some_iff.1 hj).1
        rwa [cellsB_length, hs.1] at this
      have h3 := hs.2 j hj2
      have hadd : ((⟨g, off, none⟩ : Addr).add (k * 32)).add j = ⟨g, off + k * 32 + j, none⟩ := by
        have e1 : (⟨g, off, none⟩ : Addr).add (k * 32) = ⟨g, off + k * 32, none⟩ := by unfold Addr.add; split <;> simp_all
        rw [e1]
        unfold Addr.add
        split <;> simp_all
      rw [hadd] at h3
      rw [h3, ← hj, cellsB_get l j (by rw [hs.1]; exact hj2), List.getD_eq_getElem?_getD, List.getElem?_eq_getElem (by rw [hs.1]; exact hj2)]
      rfl
    · obtain ⟨i, rfl⟩ := List.mem_ofFn.1 hl'
      exact (each i.1 i.2).choose_spec.1
end Go.Proofs.YtfnmglicfgkmjaaDoor
end
