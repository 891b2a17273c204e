/-
  EpochsShare: for every input the call returns true, and each argument reads as it read before. Conditions: none beyond the given statement's own.
-/
import Derived.Test.YthipdfmaaeoijaaQEpcAL
import Derived.Test.YthipdfmaaeoijaaQEpcAN
import Derived.Test.YthipdfmaaeoijaaQEpcAF
import Derived.Test.YthipdfmaaeoijaaRows
import Derived.Test.YthipdfmaaeoijaaQEpcAK
import Derived.ProofKit
import Derived.OpenShut
import Derived.ShutString
import Derived.ChangeOld
section
namespace Go.Proofs.Ythipdfmaaeoijaa
open Go.RowKit
set_option linter.unusedVariables false
set_option maxRecDepth 20000

theorem EnvM.tabW {w0 w : World} {ms : List (Nat × IntKind × List (Nat × Value))} {rs : List (Nat × TypeId × Array Value)} {b k g last : Nat} {t : TypeId} {cs : Array Value} {l : List Ep} (E : EnvM w0 ms rs w) (hb : (b, t, cs) ∈ rs)
    (cM : cs[k]? = some (.map (some g))) (cL : cs[k + 1]? = some (.int .u32 (last : Int))) (hm : (g, .u32, epsM l) ∈ ms) (hr : ∀ e ∈ l, (e.blk, 32, keyC e.key) ∈ rs ∧ e.key.length = 32) : TabW w b k (some g) l last :=
  ⟨((E.rowOf hb).cell k).trans cM, ((E.rowOf hb).cell (k + 1)).trans cL, (E.maps _ hm).1, fun e he => ⟨E.rowOf (hr e he).1, (hr e he).2⟩⟩

set_option maxHeartbeats 4000000 in
theorem epochsShare_walk (w : World) (one : List UInt8) (h1 : one.length = 32) (two : List UInt8) (h2 : two.length = 32) (id : Nat) (hid : id < 4294967296) :
    Calls Try.prog 4 #[keyV one, keyV two, .int .u32 (id : Int)] w (RetV w (.bool true)) := by
  have L1 := Lib.hid h1
  have L2 := Lib.hid h2
  clear h1 h2
  have E0 := Lib.hid (EnvM.start w)
  have CA : Hid (∀ w, Calls Try.prog 6 #[] w (RetV w (.bool true))) := fun w => epochsAwake_any w
  go_enter Try.func4, Try.ntmps4
  go_wp2_with (first
    | ((with_reducible refine wpM_box (o := ⟨some 3, _, _, _, _, _⟩) rfl 32 (.tmp 0) rfl (keyC one) (by with_unfolding_all rfl) E0.out ?_); intro g1 w1 T1; have E1 := Lib.hid T1; clear T1)
    | ((with_reducible refine wpM_box (o := ⟨some 4, _, _, _, _, _⟩) rfl 32 (.tmp 1) rfl (keyC two) (by with_unfolding_all rfl) E1.out ?_); intro g2 w2 T2; have E2 := Lib.hid T2; clear T2))
  refine (CA.out _).mono ?_
  rintro e w3 ⟨rfl, b3⟩
  have E3 := Lib.hid (E2.out.call b3)
  clear b3 E2
  go_wp2_with (first
    | (with_reducible refine wpList_build0 (o := ⟨some 19, _, _, _, _, _⟩) rfl 28 rfl #[.map none, .int .u32 0] Try.builtT ?_)
    | ((with_reducible refine wpM_box (o := ⟨some 20, _, _, _, _, _⟩) rfl 28 (.tmp 19) rfl #[.map none, .int .u32 0] (by with_unfolding_all rfl) E3.out ?_); intro bt w4 T4; have E4 := Lib.hid T4; clear T4)
    | (with_reducible refine wpList_build0 (o := ⟨some 21, _, _, _, _, _⟩) rfl 28 rfl #[.map none, .int .u32 0] Try.builtT ?_)
    | ((with_reducible refine wpM_box (o := ⟨some 22, _, _, _, _, _⟩) rfl 28 (.tmp 21) rfl #[.map none, .int .u32 0] (by with_unfolding_all rfl) E4.out ?_); intro bu w5 T5; have E5 := Lib.hid T5; clear T5)
    | (with_reducible refine wpM_load (o := ⟨some 25, _, _, _, _, _⟩) rfl 32 (.tmp 3) rfl 3 g1 32 (keyC one) _ (by with_unfolding_all rfl) (by with_unfolding_all rfl) Try.underlying32 rfl (Try.sizeKey _ L1.out) E5.out ?_))
  have S5 := TabS.made (rs := [(bu, 28, #[.map none, .int .u32 0]), (g2, 32, keyC two), (g1, 32, keyC one)]) (b := bt) (t := 28) (cs := #[.map none, .int .u32 0]) (k := 0) (E5.out.perm (List.Perm.cons _ (List.perm_middle (l₁ := [(g2, 32, keyC two), (g1, 32, keyC one)]) (l₂ := [])))) rfl rfl
  refine (born_first S5 id one L1.out rfl).mono ?_
  rintro e w6 ⟨rfl, g, p, S6⟩
  rw [bornC_two] at S6
  have E6 := Lib.hid (show EnvM w [(g, .u32, epsM [⟨id, p, one⟩])] ((bu, 28, #[.map none, .int .u32 0]) :: [(g2, 32, keyC two), (g1, 32, keyC one), (bt, 28, #[.map (some g), .int .u32 (id : Int)]), (p, 32, keyC one)]) w6 from S6.env)
  clear S5 S6 E5 E3 E4
  go_wp2_with (first
    | (with_reducible refine wpM_load (o := ⟨some 28, _, _, _, _, _⟩) rfl 32 (.tmp 4) rfl 1 g2 32 (keyC two) _ (by with_unfolding_all rfl) (by with_unfolding_all rfl) Try.underlying32 rfl (Try.sizeKey _ L2.out) E6.out ?_))
  have S7 := TabS.made (rs := [(g2, 32, keyC two), (g1, 32, keyC one), (bt, 28, #[.map (some g), .int .u32 (id : Int)]), (p, 32, keyC one)]) (b := bu) (t := 28) (cs := #[.map none, .int .u32 0]) (k := 0) (E6.out.perm (List.perm_middle (l₁ := [(g2, 32, keyC two), (g1, 32, keyC one), (bt, 28, #[.map (some g), .int .u32 (id : Int)]), (p, 32, keyC one)]) (l₂ := []))) rfl rfl
  refine (born_first S7 7 two L2.out rfl).mono ?_
  rintro e w7 ⟨rfl, g', q, S8⟩
  rw [bornC_two] at S8
  obtain ⟨M, hM⟩ : ∃ M : List (Nat × IntKind × List (Nat × Value)), M = [(g', .u32, epsM [⟨7, q, two⟩]), (g, .u32, epsM [⟨id, p, one⟩])] := ⟨_, rfl⟩
  obtain ⟨R, hR⟩ : ∃ R : List (Nat × TypeId × Array Value), R = [(g2, 32, keyC two), (g1, 32, keyC one), (bt, 28, #[.map (some g), .int .u32 (id : Int)]), (p, 32, keyC one), (bu, 28, #[.map (some g'), .int .u32 ((7 : Nat) : Int)]), (q, 32, keyC two)] := ⟨_, rfl⟩
  have E7 : Hid (EnvM w M R w7) := by show EnvM _ _ _ _; rw [hM, hR]; exact S8.env
  have WT : ∀ own w', EnvM w M (own ++ R) w' → TabW w' bt 0 (some g) [⟨id, p, one⟩] id := fun own w' E => E.tabW (cs := #[.map (some g), .int .u32 (id : Int)]) (t := 28) (by rw [hR]; simp) rfl rfl (by rw [hM]; simp) fun e he => by
    obtain rfl : e = ⟨id, p, one⟩ := by simpa using he
    exact ⟨by rw [hR]; simp, L1.out⟩
  have WU : ∀ own w', EnvM w M (own ++ R) w' → TabW w' bu 0 (some g') [⟨7, q, two⟩] 7 := fun own w' E => E.tabW (cs := #[.map (some g'), .int .u32 ((7 : Nat) : Int)]) (t := 28) (by rw [hR]; simp) rfl rfl (by rw [hM]; simp) fun e he => by
    obtain rfl : e = ⟨7, q, two⟩ := by simpa using he
    exact ⟨by rw [hR]; simp, L2.out⟩
  obtain ⟨pt, hpt⟩ : ∃ v, v = rawK one nineK := ⟨_, rfl⟩
  obtain ⟨pu, hpu⟩ : ∃ v, v = rawK two nineK := ⟨_, rfl⟩
  obtain ⟨ka, hka⟩ : ∃ v, v = rawK one pu := ⟨_, rfl⟩
  obtain ⟨kb, hkb⟩ : ∃ v, v = rawK two pt := ⟨_, rfl⟩
  have Lpt : Hid (pt.length = 32) := by show _ = _; rw [hpt]; exact rawK_length _ _
  have Lpu : Hid (pu.length = 32) := by show _ = _; rw [hpu]; exact rawK_length _ _
  have Lka : Hid (ka.length = 32) := by show _ = _; rw [hka]; exact rawK_length _ _
  have Lkb : Hid (kb.length = 32) := by show _ = _; rw [hkb]; exact rawK_length _ _
  have e1 : pubAt id [⟨id, p, one⟩] = pt := by simp [pubAt, epAt, hpt]
  have e2 : codeAt id [⟨id, p, one⟩] = 0 := by simp [codeAt, epAt]
  have e3 : pubAt 7 [⟨7, q, two⟩] = pu := by simp [pubAt, epAt, hpu]
  have e4 : codeAt 7 [⟨7, q, two⟩] = 0 := by simp [codeAt, epAt]
  have e5 : shKey id [⟨id, p, one⟩] pu = ka := by simp only [shKey, epAt, if_true]; rw [hka, hpu]; exact shared_K _ _
  have e6 : shCode id [⟨id, p, one⟩] pu = 0 := by simp only [shCode, epAt, if_true]; rw [hpu]; exact shared_E _ _ L1.out L2.out
  have e7 : shKey 7 [⟨7, q, two⟩] pt = kb := by simp only [shKey, epAt, if_true]; rw [hkb, hpt]; exact shared_K _ _
  have e8 : shCode 7 [⟨7, q, two⟩] pt = 0 := by simp only [shCode, epAt, if_true]; rw [hpt]; exact shared_E _ _ L2.out L1.out
  have CT1 : Hid (∀ own w', EnvM w M (own ++ R) w' → Calls Try.prog 10 #[.pointer (some ⟨bt, 0, none⟩), .int .u32 (id : Int)] w' (RetV w' (.tuple #[.agg (keyC pt), .int .i64 0]))) := fun own w' E => by
    have h := public_any w' bt 0 (some g) _ id id (WT own w' E)
    rwa [e1, e2] at h
  have CU1 : Hid (∀ own w', EnvM w M (own ++ R) w' → Calls Try.prog 10 #[.pointer (some ⟨bu, 0, none⟩), .int .u32 7] w' (RetV w' (.tuple #[.agg (keyC pu), .int .i64 0]))) := fun own w' E => by
    have h := public_any w' bu 0 (some g') _ 7 7 (WU own w' E)
    rwa [e3, e4] at h
  have CT2 : Hid (∀ own w', EnvM w M (own ++ R) w' → Calls Try.prog 11 #[.pointer (some ⟨bt, 0, none⟩), .int .u32 (id : Int), .agg (keyC pu)] w' (RetV w' (.tuple #[.agg (keyC ka), .int .i64 0]))) := fun own w' E => by
    have h := shared_any w' bt 0 (some g) _ id id pu Lpu.out (WT own w' E)
    rwa [e5, e6] at h
  have CU2 : Hid (∀ own w', EnvM w M (own ++ R) w' → Calls Try.prog 11 #[.pointer (some ⟨bu, 0, none⟩), .int .u32 7, .agg (keyC pt)] w' (RetV w' (.tuple #[.agg (keyC kb), .int .i64 0]))) := fun own w' E => by
    have h := shared_any w' bu 0 (some g') _ 7 7 pt Lpt.out (WU own w' E)
    rwa [e7, e8] at h
  have heq : (ka == kb) = true := by rw [beq_iff_eq, hka, hkb, hpu, hpt]; exact raw_swap _ _ _
  have HQ1 : Hid (∀ W, (Op.equalIn 10000 32 (.agg (keyC ka)) (.agg (keyC kb))).run Try.prog W = .ok true W) := fun W => by rw [Try.eqKeyIn ka kb Lka.out Lkb.out W, heq]
  clear S7 S8 hM hR WT WU hpt hpu hka hkb e1 e2 e3 e4 e5 e6 e7 e8 heq E6
  go_wp2_with fail
  refine (CT1.out [] _ E7.out).mono ?_
  rintro e w8 ⟨rfl, b8⟩
  have E8 := Lib.hid (E7.out.call b8)
  clear b8 E7
  go_wp2_with (first
    | ((with_reducible refine wpM_alloc (o := ⟨some 10, _, _, _, _, _⟩) rfl 32 rfl (keyC zeroKey) Try.zeroK E8.out ?_); intro g3 w9 T9; have E9 := Lib.hid T9; clear T9)
    | ((with_reducible refine wpM_store (o := ⟨none, _, _, _, _, _⟩) rfl 32 (.tmp 10) (.tmp 34) rfl 0 g3 32 (keyC zeroKey) (keyC pt) (by with_unfolding_all rfl) (by with_unfolding_all rfl) (by with_unfolding_all rfl) (keyC_same zeroKey_length Lpt.out) (Try.sizeKey _ Lpt.out) (keyC_one _) E9.out ?_); intro w10 T10; simp only [List.set_cons_zero] at T10; have E10 := Lib.hid T10; clear T10))
  refine (CU1.out [_] _ E10.out).mono ?_
  rintro e w11 ⟨rfl, b11⟩
  have E11 := Lib.hid (E10.out.call b11)
  clear b11 E10
  go_wp2_with (first
    | ((with_reducible refine wpM_alloc (o := ⟨some 12, _, _, _, _, _⟩) rfl 32 rfl (keyC zeroKey) Try.zeroK E11.out ?_); intro g4 w12 T12; have E12 := Lib.hid T12; clear T12)
    | ((with_reducible refine wpM_store (o := ⟨none, _, _, _, _, _⟩) rfl 32 (.tmp 12) (.tmp 39) rfl 0 g4 32 (keyC zeroKey) (keyC pu) (by with_unfolding_all rfl) (by with_unfolding_all rfl) (by with_unfolding_all rfl) (keyC_same zeroKey_length Lpu.out) (Try.sizeKey _ Lpu.out) (keyC_one _) E12.out ?_); intro w13 T13; simp only [List.set_cons_zero] at T13; have E13 := Lib.hid T13; clear T13)
    | (with_reducible refine wpM_load (o := ⟨some 44, _, _, _, _, _⟩) rfl 32 (.tmp 12) rfl 0 g4 32 (keyC pu) _ (by with_unfolding_all rfl) (by with_unfolding_all rfl) Try.underlying32 rfl (Try.sizeKey _ Lpu.out) E13.out ?_))
  refine (CT2.out [_, _] _ E13.out).mono ?_
  rintro e w14 ⟨rfl, b14⟩
  have E14 := Lib.hid (E13.out.call b14)
  clear b14 E13
  go_wp2_with (first
    | ((with_reducible refine wpM_alloc (o := ⟨some 14, _, _, _, _, _⟩) rfl 32 rfl (keyC zeroKey) Try.zeroK E14.out ?_); intro g5 w15 T15; have E15 := Lib.hid T15; clear T15)
    | ((with_reducible refine wpM_store (o := ⟨none, _, _, _, _, _⟩) rfl 32 (.tmp 14) (.tmp 46) rfl 0 g5 32 (keyC zeroKey) (keyC ka) (by with_unfolding_all rfl) (by with_unfolding_all rfl) (by with_unfolding_all rfl) (keyC_same zeroKey_length Lka.out) (Try.sizeKey _ Lka.out) (keyC_one _) E15.out ?_); intro w16 T16; simp only [List.set_cons_zero] at T16; have E16 := Lib.hid T16; clear T16)
    | (with_reducible refine wpM_load (o := ⟨some 50, _, _, _, _, _⟩) rfl 32 (.tmp 10) rfl 2 g3 32 (keyC pt) _ (by with_unfolding_all rfl) (by with_unfolding_all rfl) Try.underlying32 rfl (Try.sizeKey _ Lpt.out) E16.out ?_))
  refine (CU2.out [_, _, _] _ E16.out).mono ?_
  rintro e w17 ⟨rfl, b17⟩
  have E17 := Lib.hid (E16.out.call b17)
  clear b17 E16
  have hq1 := HQ1.out
  have hg := Try.eqGuardKey
  go_wp2_with (first
    | ((with_reducible refine wpM_alloc (o := ⟨some 16, _, _, _, _, _⟩) rfl 32 rfl (keyC zeroKey) Try.zeroK E17.out ?_); intro g6 w18 T18; have E18 := Lib.hid T18; clear T18)
    | ((with_reducible refine wpM_store (o := ⟨none, _, _, _, _, _⟩) rfl 32 (.tmp 16) (.tmp 52) rfl 0 g6 32 (keyC zeroKey) (keyC kb) (by with_unfolding_all rfl) (by with_unfolding_all rfl) (by with_unfolding_all rfl) (keyC_same zeroKey_length Lkb.out) (Try.sizeKey _ Lkb.out) (keyC_one _) E18.out ?_); intro w19 T19; simp only [List.set_cons_zero] at T19; have E19 := Lib.hid T19; clear T19)
    | (with_reducible refine wpListG_load_row (o := ⟨some 72, _, _, _, _, _⟩) 32 (.tmp 14) rfl (by with_unfolding_all rfl) g5 (by with_unfolding_all rfl) 32 (keyC ka) (.array 32 5) (by with_unfolding_all exact E19.out.row 1 rfl) Try.underlying32 rfl (Try.sizeKey _ Lka.out) ?_)
    | (with_reducible refine wpListG_load_row (o := ⟨some 73, _, _, _, _, _⟩) 32 (.tmp 16) rfl (by with_unfolding_all rfl) g6 (by with_unfolding_all rfl) 32 (keyC kb) (.array 32 5) (by with_unfolding_all exact E19.out.row 0 rfl) Try.underlying32 rfl (Try.sizeKey _ Lkb.out) ?_))
  clear hq1 hg
  go_ret
  exact E19.out.ret _
end Go.Proofs.Ythipdfmaaeoijaa
end
section
namespace Go.Proofs.Ythipdfmaaeoijaa.epochsShare
open Go.ChangeShapes Go.WideShapes Go.ChangeAt Go.RowKit
open Go.ChangeMaps (open_string shut_string)
set_option linter.unusedVariables false

theorem own : ownKnob Try.prog.godebug = none := by kernel_rfl
theorem laidOut : laidOutB Try.prog = true := by kernel_rfl

set_option maxRecDepth 100000 in
theorem lifted (os : Os) (started : os.Started) (H : Type) (enc : TypeId × Value → H) :
    ReturnsInHanded {} Try.checked os 4 .any (Rows.epochsShareSpec.pre6 enc Try.prog Try.f4 Rows.epochsShareRow.domain false) (Rows.epochsShareSpec.post enc Try.prog Try.f4 false true false false) := by
  refine returnsInHanded_of_change (C := Try.checked) own started (by kernel_rfl) Try.func4
    (ChangeSpec.witness6 (enc := enc) (C := Try.checked) false ⟨#[], #[.agg (List.replicate 32 (Value.int .u8 0)).toArray, .agg (List.replicate 32 (Value.int .u8 0)).toArray, .int .u32 0], []⟩ 8 (by kernel_rfl) (by kernel_rfl) (by kernel_rfl) (by kernel_rfl)) ?_
  intro W base args ds gs before hval0 hW hcnd _
  have hval : ∀ (j : Nat) t v, Try.f4.params[j]? = some t → args[j]? = some v → Value.okWide Try.prog W .any base t v := hval0
  have hW' := hW
  obtain ⟨p, q, hA0, hV, rfl, hfz, hnd⟩ := hW
  have hA : DataW.TrodAll enc Try.prog W 0 (fun _ => true) true Try.f4.params.toList args.toList ds p := hA0
  rw [Try.params4] at hA hval
  obtain ⟨v0, vs0, d0, ds0, p0, q0, hargs, rfl, rfl, h0, r0⟩ := trodAll_cons hA
  obtain ⟨v1, vs1, d1, ds1, p1, q1, rfl, rfl, rfl, h1, r1⟩ := trodAll_cons r0
  obtain ⟨v2, vs2, d2, ds2, p2, q2, rfl, rfl, rfl, h2, r2⟩ := trodAll_cons r1
  obtain ⟨rfl, rfl, rfl⟩ := trodAll_nil r2
  obtain rfl : args = #[v0, v1, v2] := by cases args; simp_all
  obtain ⟨rfl, rfl⟩ := trodVars_none hV
  have k0 := h0
  have lt0 : ∀ x ∈ p0, x.block < W.heap.size := by obtain ⟨m, hm⟩ := k0; exact DataW.trod_lt m _ _ _ hm
  obtain ⟨l0, rfl, w0⟩ := open_key Try.underlying32 Try.underlying5 (by kernel_rfl) (by kernel_rfl) (hval 0 32 v0 rfl rfl) h0
  have k1 := h1
  have lt1 : ∀ x ∈ p1, x.block < W.heap.size := by obtain ⟨m, hm⟩ := k1; exact DataW.trod_lt m _ _ _ hm
  obtain ⟨l1, rfl, w1⟩ := open_key Try.underlying32 Try.underlying5 (by kernel_rfl) (by kernel_rfl) (hval 1 32 v1 rfl rfl) h1
  obtain ⟨a2, rfl, rfl, rfl, w2⟩ := open_int Try.underlying22 (hval 2 22 v2 rfl rfl) h2
  obtain ⟨n2, rfl⟩ := u32_of_wf w2
  clear hA0 hval0
  refine (epochsShare_walk W l0 w0 l1 w1 n2.toNat n2.toNat_lt).mono fun e W' ⟨he, bel⟩ => ?_
  subst he
  exact ⟨_, rfl, _, _, _, [], _, [], hW', trodAll_mk1 (shut_bool Try.underlying4 _), (trodAll_cons_mk (Below.trod laidOut (by kernel_rfl) (of_decide_eq_true (by kernel_rfl)) k0 bel lt0) (trodAll_cons_mk (Below.trod laidOut (by kernel_rfl) (of_decide_eq_true (by kernel_rfl)) k1 bel lt1) (trodAll_cons_mk (shut_int Try.underlying22 w2) trodAll_mk0))), rfl, bel.frame _, fun h => by cases h⟩

theorem over : Rows.epochsShareRow.holds Try.pinned (OpenSpec.ofChange Rows.epochsShareSpec) :=
  OpenClaim.holds_of_wide 4 Try.f4 rfl rfl rfl rfl rfl rfl rfl ⟨rfl, rfl, rfl, rfl, rfl⟩ rfl rfl rfl rfl rfl (by kernel_rfl) Try.func4 (by kernel_rfl)
    (of_decide_eq_true (by kernel_rfl)) (by unfold Func.isWrapper; first | (rw [if_pos (by decide +kernel)]; kernel_rfl) | (rw [if_neg (by decide +kernel)]; exact ⟨rfl, rfl⟩))
    (fun os started H enc _ => lifted os started H enc)

theorem proved : Rows.EpochsShareSaid := over
#print axioms proved
end Go.Proofs.Ythipdfmaaeoijaa.epochsShare
end
