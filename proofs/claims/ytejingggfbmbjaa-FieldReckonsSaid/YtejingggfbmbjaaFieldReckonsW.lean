/-
  FieldReckons, walked: the call returns true. Conditions: none beyond the law's own.
-/
import Derived.Test.YtejingggfbmbjaaFieldRefP
import Derived.Test.YtejingggfbmbjaaFieldLaws
import Derived.Test.YtejingggfbmbjaaFieldN
import Derived.Test.YtejingggfbmbjaaEnvS
namespace Go.Proofs.Ytejingggfbmbjaa
open Go.RowKit
set_option linter.unusedVariables false
set_option maxRecDepth 20000

set_option maxHeartbeats 8000000 in
theorem fieldReckons_walk (w : World) (i : List UInt8) (hi : i.length = 32) (j : List UInt8) (hj : j.length = 32) (k : List UInt8) (hk : k.length = 32) (first : Bool) :
    Calls Try.prog 4 #[keyV i, keyV j, keyV k, .bool first] w (RetV w (.bool true)) := by
  obtain ⟨ni, hni⟩ : ∃ v, v = numK i := ⟨_, rfl⟩
  have bni : ni < pF := by rw [hni]; exact numK_lt i
  have Li := Lib.hid hi
  obtain ⟨nj, hnj⟩ : ∃ v, v = numK j := ⟨_, rfl⟩
  have bnj : nj < pF := by rw [hnj]; exact numK_lt j
  have Lj := Lib.hid hj
  obtain ⟨nk, hnk⟩ : ∃ v, v = numK k := ⟨_, rfl⟩
  have bnk : nk < pF := by rw [hnk]; exact numK_lt k
  have Lk := Lib.hid hk
  cases first
  · have C27 : Hid (∀ w, Calls Try.prog 11 #[] w (RetV w (.bool true))) := fun w => awake_any w
    obtain ⟨oi, hoi⟩ : ∃ r, r = decide (ofLowB i < pF) := ⟨_, rfl⟩
    have C30 : Hid (∀ w, Calls Try.prog 13 #[.agg (keyC (i))] w (RetV w (.tuple #[.agg (natsC (digR 16 ni)), .bool oi]))) := by rw [hni, hoi]; exact fun w => refOf_any i hi w
    obtain ⟨oj, hoj⟩ : ∃ r, r = decide (ofLowB j < pF) := ⟨_, rfl⟩
    have C35 : Hid (∀ w, Calls Try.prog 13 #[.agg (keyC (j))] w (RetV w (.tuple #[.agg (natsC (digR 16 nj)), .bool oj]))) := by rw [hnj, hoj]; exact fun w => refOf_any j hj w
    obtain ⟨ok, hok⟩ : ∃ r, r = decide (ofLowB k < pF) := ⟨_, rfl⟩
    have C40 : Hid (∀ w, Calls Try.prog 13 #[.agg (keyC (k))] w (RetV w (.tuple #[.agg (natsC (digR 16 nk)), .bool ok]))) := by rw [hnk, hok]; exact fun w => refOf_any k hk w
    have C44 : Hid (∀ w, Calls Try.prog 19 #[.agg (keyC (i))] w (RetV w (.agg (natsC (elemL ni))))) := by rw [hni]; exact fun w => of_any i hi w
    have C46 : Hid (∀ w, Calls Try.prog 19 #[.agg (keyC (j))] w (RetV w (.agg (natsC (elemL nj))))) := by rw [hnj]; exact fun w => of_any j hj w
    have C48 : Hid (∀ w, Calls Try.prog 19 #[.agg (keyC (k))] w (RetV w (.agg (natsC (elemL nk))))) := by rw [hnk]; exact fun w => of_any k hk w
    obtain ⟨v51, hv51⟩ : ∃ v, v = (ni + nj) % pF := ⟨_, rfl⟩
    have bv51 : v51 < pF := by rw [hv51]; exact modF_lt _
    have C51 : Hid (∀ w, Calls Try.prog 20 #[.agg (natsC (elemL ni)), .agg (natsC (elemL nj))] w (RetV w (.agg (natsC (elemL v51))))) := by rw [hv51]; exact fun w => Add_any ni nj bni bnj w
    obtain ⟨v54, hv54⟩ : ∃ v, v = subF ni nj := ⟨_, rfl⟩
    have bv54 : v54 < pF := by rw [hv54]; exact subF_lt _ _
    have C54 : Hid (∀ w, Calls Try.prog 21 #[.agg (natsC (elemL ni)), .agg (natsC (elemL nj))] w (RetV w (.agg (natsC (elemL v54))))) := by rw [hv54]; exact fun w => Sub_any ni nj bni bnj w
    obtain ⟨v57, hv57⟩ : ∃ v, v = ni * nj % pF := ⟨_, rfl⟩
    have bv57 : v57 < pF := by rw [hv57]; exact modF_lt _
    have C57 : Hid (∀ w, Calls Try.prog 22 #[.agg (natsC (elemL ni)), .agg (natsC (elemL nj))] w (RetV w (.agg (natsC (elemL v57))))) := by rw [hv57]; exact fun w => Mul_any ni nj bni bnj w
    obtain ⟨v60, hv60⟩ : ∃ v, v = subF v51 nk := ⟨_, rfl⟩
    have bv60 : v60 < pF := by rw [hv60]; exact subF_lt _ _
    have C60 : Hid (∀ w, Calls Try.prog 21 #[.agg (natsC (elemL v51)), .agg (natsC (elemL nk))] w (RetV w (.agg (natsC (elemL v60))))) := by rw [hv60]; exact fun w => Sub_any v51 nk bv51 bnk w
    obtain ⟨v63, hv63⟩ : ∃ v, v = (v54 + nk) % pF := ⟨_, rfl⟩
    have bv63 : v63 < pF := by rw [hv63]; exact modF_lt _
    have C63 : Hid (∀ w, Calls Try.prog 20 #[.agg (natsC (elemL v54)), .agg (natsC (elemL nk))] w (RetV w (.agg (natsC (elemL v63))))) := by rw [hv63]; exact fun w => Add_any v54 nk bv54 bnk w
    obtain ⟨v64, hv64⟩ : ∃ v, v = v60 * v63 % pF := ⟨_, rfl⟩
    have bv64 : v64 < pF := by rw [hv64]; exact modF_lt _
    have C64 : Hid (∀ w, Calls Try.prog 22 #[.agg (natsC (elemL v60)), .agg (natsC (elemL v63))] w (RetV w (.agg (natsC (elemL v64))))) := by rw [hv64]; exact fun w => Mul_any v60 v63 bv60 bv63 w
    obtain ⟨v66, hv66⟩ : ∃ v, v = (v64 + v57) % pF := ⟨_, rfl⟩
    have bv66 : v66 < pF := by rw [hv66]; exact modF_lt _
    have C66 : Hid (∀ w, Calls Try.prog 20 #[.agg (natsC (elemL v64)), .agg (natsC (elemL v57))] w (RetV w (.agg (natsC (elemL v66))))) := by rw [hv66]; exact fun w => Add_any v64 v57 bv64 bv57 w
    obtain ⟨v69, hv69⟩ : ∃ v, v = (ni + nj) % pF := ⟨_, rfl⟩
    have bv69 : v69 < pF := by rw [hv69]; exact modF_lt _
    have C69 : Hid (∀ w, Calls Try.prog 23 #[.agg (natsC (digR 16 ni)), .agg (natsC (digR 16 nj))] w (RetV w (.agg (natsC (digR 16 v69))))) := by rw [hv69]; exact fun w => refAdd_any ni nj bni bnj w
    obtain ⟨v71, hv71⟩ : ∃ v, v = subF v69 nk := ⟨_, rfl⟩
    have bv71 : v71 < pF := by rw [hv71]; exact subF_lt _ _
    have C71 : Hid (∀ w, Calls Try.prog 25 #[.agg (natsC (digR 16 v69)), .agg (natsC (digR 16 nk))] w (RetV w (.agg (natsC (digR 16 v71))))) := by rw [hv71]; exact fun w => refSub_any v69 nk bv69 bnk w
    obtain ⟨v74, hv74⟩ : ∃ v, v = subF ni nj := ⟨_, rfl⟩
    have bv74 : v74 < pF := by rw [hv74]; exact subF_lt _ _
    have C74 : Hid (∀ w, Calls Try.prog 25 #[.agg (natsC (digR 16 ni)), .agg (natsC (digR 16 nj))] w (RetV w (.agg (natsC (digR 16 v74))))) := by rw [hv74]; exact fun w => refSub_any ni nj bni bnj w
    obtain ⟨v76, hv76⟩ : ∃ v, v = (v74 + nk) % pF := ⟨_, rfl⟩
    have bv76 : v76 < pF := by rw [hv76]; exact modF_lt _
    have C76 : Hid (∀ w, Calls Try.prog 23 #[.agg (natsC (digR 16 v74)), .agg (natsC (digR 16 nk))] w (RetV w (.agg (natsC (digR 16 v76))))) := by rw [hv76]; exact fun w => refAdd_any v74 nk bv74 bnk w
    obtain ⟨v77, hv77⟩ : ∃ v, v = v71 * v76 % pF := ⟨_, rfl⟩
    have bv77 : v77 < pF := by rw [hv77]; exact modF_lt _
    have C77 : Hid (∀ w, Calls Try.prog 24 #[.agg (natsC (digR 16 v71)), .agg (natsC (digR 16 v76))] w (RetV w (.agg (natsC (digR 16 v77))))) := by rw [hv77]; exact fun w => refMul_any v71 v76 bv71 bv76 w
    obtain ⟨v80, hv80⟩ : ∃ v, v = ni * nj % pF := ⟨_, rfl⟩
    have bv80 : v80 < pF := by rw [hv80]; exact modF_lt _
    have C80 : Hid (∀ w, Calls Try.prog 24 #[.agg (natsC (digR 16 ni)), .agg (natsC (digR 16 nj))] w (RetV w (.agg (natsC (digR 16 v80))))) := by rw [hv80]; exact fun w => refMul_any ni nj bni bnj w
    obtain ⟨v81, hv81⟩ : ∃ v, v = (v77 + v80) % pF := ⟨_, rfl⟩
    have bv81 : v81 < pF := by rw [hv81]; exact modF_lt _
    have C81 : Hid (∀ w, Calls Try.prog 23 #[.agg (natsC (digR 16 v77)), .agg (natsC (digR 16 v80))] w (RetV w (.agg (natsC (digR 16 v81))))) := by rw [hv81]; exact fun w => refAdd_any v77 v80 bv77 bv80 w
    obtain ⟨r84, hr84⟩ : ∃ r, r = (ni == nj) := ⟨_, rfl⟩
    have C84 : Hid (∀ w, Calls Try.prog 26 #[.agg (natsC (elemL ni)), .agg (natsC (elemL nj))] w (RetV w (.bool r84))) := by rw [hr84]; exact fun w => Equal_any ni nj bni bnj w
    have C88 : Hid (∀ w, Calls Try.prog 27 #[.bool false, .agg (natsC (elemL ni)), .agg (natsC (elemL nj))] w (RetV w (.agg (natsC (elemL nj))))) := fun w => Choose_any false ni nj bni bnj w
    obtain ⟨k95, hk95⟩ : ∃ v, v = lowB v51 32 := ⟨_, rfl⟩
    have Lk95 : Hid (k95.length = 32) := by show _ = _; rw [hk95]; exact lowB_length _ _
    have C95 : Hid (∀ w, Calls Try.prog 16 #[.agg (natsC (elemL v51))] w (RetV w (.agg (keyC (k95))))) := by rw [hk95]; exact fun w => Key_any v51 bv51 w
    obtain ⟨k99, hk99⟩ : ∃ v, v = lowB v69 32 := ⟨_, rfl⟩
    have Lk99 : Hid (k99.length = 32) := by show _ = _; rw [hk99]; exact lowB_length _ _
    have C99 : Hid (∀ w, Calls Try.prog 17 #[.agg (natsC (digR 16 v69))] w (RetV w (.agg (keyC (k99))))) := by rw [hk99]; exact fun w => refKey_any v69 w
    have Q100 : Hid (∀ W, (Op.equalIn 10000 23 (.agg (keyC k95)) (.agg (keyC k99))).run Try.prog W = .ok true W) := fun W => by rw [Try.eqKeyIn k95 k99 Lk95.out Lk99.out W]; exact congrArg (fun v => Result.ok v W) (by rw [beq_iff_eq, hk95, hk99, hv51, hv69])
    obtain ⟨k104, hk104⟩ : ∃ v, v = lowB v54 32 := ⟨_, rfl⟩
    have Lk104 : Hid (k104.length = 32) := by show _ = _; rw [hk104]; exact lowB_length _ _
    have C104 : Hid (∀ w, Calls Try.prog 16 #[.agg (natsC (elemL v54))] w (RetV w (.agg (keyC (k104))))) := by rw [hk104]; exact fun w => Key_any v54 bv54 w
    obtain ⟨k108, hk108⟩ : ∃ v, v = lowB v74 32 := ⟨_, rfl⟩
    have Lk108 : Hid (k108.length = 32) := by show _ = _; rw [hk108]; exact lowB_length _ _
    have C108 : Hid (∀ w, Calls Try.prog 17 #[.agg (natsC (digR 16 v74))] w (RetV w (.agg (keyC (k108))))) := by rw [hk108]; exact fun w => refKey_any v74 w
    have Q109 : Hid (∀ W, (Op.equalIn 10000 23 (.agg (keyC k104)) (.agg (keyC k108))).run Try.prog W = .ok true W) := fun W => by rw [Try.eqKeyIn k104 k108 Lk104.out Lk108.out W]; exact congrArg (fun v => Result.ok v W) (by rw [beq_iff_eq, hk104, hk108, hv54, hv74])
    obtain ⟨k113, hk113⟩ : ∃ v, v = lowB v57 32 := ⟨_, rfl⟩
    have Lk113 : Hid (k113.length = 32) := by show _ = _; rw [hk113]; exact lowB_length _ _
    have C113 : Hid (∀ w, Calls Try.prog 16 #[.agg (natsC (elemL v57))] w (RetV w (.agg (keyC (k113))))) := by rw [hk113]; exact fun w => Key_any v57 bv57 w
    obtain ⟨k117, hk117⟩ : ∃ v, v = lowB v80 32 := ⟨_, rfl⟩
    have Lk117 : Hid (k117.length = 32) := by show _ = _; rw [hk117]; exact lowB_length _ _
    have C117 : Hid (∀ w, Calls Try.prog 17 #[.agg (natsC (digR 16 v80))] w (RetV w (.agg (keyC (k117))))) := by rw [hk117]; exact fun w => refKey_any v80 w
    have Q118 : Hid (∀ W, (Op.equalIn 10000 23 (.agg (keyC k113)) (.agg (keyC k117))).run Try.prog W = .ok true W) := fun W => by rw [Try.eqKeyIn k113 k117 Lk113.out Lk117.out W]; exact congrArg (fun v => Result.ok v W) (by rw [beq_iff_eq, hk113, hk117, hv57, hv80])
    obtain ⟨k122, hk122⟩ : ∃ v, v = lowB v66 32 := ⟨_, rfl⟩
    have Lk122 : Hid (k122.length = 32) := by show _ = _; rw [hk122]; exact lowB_length _ _
    have C122 : Hid (∀ w, Calls Try.prog 16 #[.agg (natsC (elemL v66))] w (RetV w (.agg (keyC (k122))))) := by rw [hk122]; exact fun w => Key_any v66 bv66 w
    obtain ⟨k124, hk124⟩ : ∃ v, v = lowB v81 32 := ⟨_, rfl⟩
    have Lk124 : Hid (k124.length = 32) := by show _ = _; rw [hk124]; exact lowB_length _ _
    have C124 : Hid (∀ w, Calls Try.prog 17 #[.agg (natsC (digR 16 v81))] w (RetV w (.agg (keyC (k124))))) := by rw [hk124]; exact fun w => refKey_any v81 w
    have Q125 : Hid (∀ W, (Op.equalIn 10000 23 (.agg (keyC k122)) (.agg (keyC k124))).run Try.prog W = .ok true W) := fun W => by rw [Try.eqKeyIn k122 k124 Lk122.out Lk124.out W]; exact congrArg (fun v => Result.ok v W) (by rw [beq_iff_eq, hk122, hk124, hv66, hv64, hv60, hv51, hv63, hv54, hv57, hv81, hv77, hv71, hv69, hv76, hv74, hv80])
    have Q131 : Hid (∀ W, (Op.equalIn 10000 33 (.agg (natsC (digR 16 ni))) (.agg (natsC (digR 16 nj)))).run Try.prog W = .ok r84 W) := fun W => by rw [Try.eqNumIn _ _ (digR_length 16 _) (digR_length 16 _) W]; exact congrArg (fun v => Result.ok v W) (by rw [hr84]; exact num_eq ni nj bni bnj)
    obtain ⟨k136, hk136⟩ : ∃ v, v = lowB nj 32 := ⟨_, rfl⟩
    have Lk136 : Hid (k136.length = 32) := by show _ = _; rw [hk136]; exact lowB_length _ _
    have C136 : Hid (∀ w, Calls Try.prog 16 #[.agg (natsC (elemL nj))] w (RetV w (.agg (keyC (k136))))) := by rw [hk136]; exact fun w => Key_any nj bnj w
    obtain ⟨k138, hk138⟩ : ∃ v, v = lowB nj 32 := ⟨_, rfl⟩
    have Lk138 : Hid (k138.length = 32) := by show _ = _; rw [hk138]; exact lowB_length _ _
    have C138 : Hid (∀ w, Calls Try.prog 17 #[.agg (natsC (digR 16 nj))] w (RetV w (.agg (keyC (k138))))) := by rw [hk138]; exact fun w => refKey_any nj w
    have Q139 : Hid (∀ W, (Op.equalIn 10000 23 (.agg (keyC k136)) (.agg (keyC k138))).run Try.prog W = .ok true W) := fun W => by rw [Try.eqKeyIn k136 k138 Lk136.out Lk138.out W]; exact congrArg (fun v => Result.ok v W) (by rw [beq_iff_eq, hk136, hk138])
    clear hni hnj hnk bni bnj bnk hi hj hk hoi hoj hok hv51 bv51 hv54 bv54 hv57 bv57 hv60 bv60 hv63 bv63 hv64 bv64 hv66 bv66 hv69 bv69 hv71 bv71 hv74 bv74 hv76 bv76 hv77 bv77 hv80 bv80 hv81 bv81 hr84 hk95 hk99 hk104 hk108 hk113 hk117 hk122 hk124 hk136 hk138
    have E0 := Lib.hid (Env.start w)
    go_enter Try.func4, Try.ntmps4
    go_wp2_with (first
      | ((with_reducible refine wpE_box (o := ⟨some 4, _, _, _, _, _⟩) rfl 23 (.tmp 0) rfl (keyC (i)) (by with_unfolding_all rfl) E0.out ?_); intro g1 w1 T1; have E1 := Lib.hid T1; clear T1)
      | ((with_reducible refine wpE_box (o := ⟨some 5, _, _, _, _, _⟩) rfl 23 (.tmp 1) rfl (keyC (j)) (by with_unfolding_all rfl) E1.out ?_); intro g2 w2 T2; have E2 := Lib.hid T2; clear T2)
      | ((with_reducible refine wpE_box (o := ⟨some 6, _, _, _, _, _⟩) rfl 23 (.tmp 2) rfl (keyC (k)) (by with_unfolding_all rfl) E2.out ?_); intro g3 w3 T3; have E3 := Lib.hid T3; clear T3))
    refine (C27.out _).mono ?_
    rintro e w4 ⟨rfl, b4⟩
    have E4 := Lib.hid (E3.out.call b4)
    clear b4 E3
    go_wp2_with (first
      | (with_reducible refine wpE_load (o := ⟨some 29, _, _, _, _, _⟩) rfl 23 (.tmp 4) rfl 2 g1 23 (keyC (i)) _ (by with_unfolding_all rfl) (by with_unfolding_all rfl) Try.underlying23 rfl (Try.sizeKey _ Li.out) E4.out ?_))
    refine (C30.out _).mono ?_
    rintro e w5 ⟨rfl, b5⟩
    have E5 := Lib.hid (E4.out.call b5)
    clear b5 E4
    go_wp2_with (first
      | ((with_reducible refine wpE_alloc (o := ⟨some 10, _, _, _, _, _⟩) rfl 33 rfl (natsC (zero16)) Try.zero16 E5.out ?_); intro g4 w6 T6; have E6 := Lib.hid T6; clear T6)
      | ((with_reducible refine wpE_store (o := ⟨none, _, _, _, _, _⟩) rfl 33 (.tmp 10) (.tmp 31) rfl 0 g4 33 (natsC (zero16)) (natsC (digR 16 ni)) (by with_unfolding_all rfl) (by with_unfolding_all rfl) (by with_unfolding_all rfl) (natsC_same zero16_length (digR_length 16 _)) (sizeN Try.sz16 _ (digR_length 16 _)) (natsC_one _) E6.out ?_); intro w7 T7; simp only [List.set_cons_zero] at T7; have E7 := Lib.hid T7; clear T7)
      | (with_reducible refine wpE_load (o := ⟨some 34, _, _, _, _, _⟩) rfl 23 (.tmp 5) rfl 2 g2 23 (keyC (j)) _ (by with_unfolding_all rfl) (by with_unfolding_all rfl) Try.underlying23 rfl (Try.sizeKey _ Lj.out) E7.out ?_))
    refine (C35.out _).mono ?_
    rintro e w8 ⟨rfl, b8⟩
    have E8 := Lib.hid (E7.out.call b8)
    clear b8 E7
    go_wp2_with (first
      | ((with_reducible refine wpE_alloc (o := ⟨some 12, _, _, _, _, _⟩) rfl 33 rfl (natsC (zero16)) Try.zero16 E8.out ?_); intro g5 w9 T9; have E9 := Lib.hid T9; clear T9)
      | ((with_reducible refine wpE_store (o := ⟨none, _, _, _, _, _⟩) rfl 33 (.tmp 12) (.tmp 36) rfl 0 g5 33 (natsC (zero16)) (natsC (digR 16 nj)) (by with_unfolding_all rfl) (by with_unfolding_all rfl) (by with_unfolding_all rfl) (natsC_same zero16_length (digR_length 16 _)) (sizeN Try.sz16 _ (digR_length 16 _)) (natsC_one _) E9.out ?_); intro w10 T10; simp only [List.set_cons_zero] at T10; have E10 := Lib.hid T10; clear T10)
      | (with_reducible refine wpE_load (o := ⟨some 39, _, _, _, _, _⟩) rfl 23 (.tmp 6) rfl 2 g3 23 (keyC (k)) _ (by with_unfolding_all rfl) (by with_unfolding_all rfl) Try.underlying23 rfl (Try.sizeKey _ Lk.out) E10.out ?_))
    refine (C40.out _).mono ?_
    rintro e w11 ⟨rfl, b11⟩
    have E11 := Lib.hid (E10.out.call b11)
    clear b11 E10
    go_wp2_with (first
      | ((with_reducible refine wpE_alloc (o := ⟨some 14, _, _, _, _, _⟩) rfl 33 rfl (natsC (zero16)) Try.zero16 E11.out ?_); intro g6 w12 T12; have E12 := Lib.hid T12; clear T12)
      | ((with_reducible refine wpE_store (o := ⟨none, _, _, _, _, _⟩) rfl 33 (.tmp 14) (.tmp 41) rfl 0 g6 33 (natsC (zero16)) (natsC (digR 16 nk)) (by with_unfolding_all rfl) (by with_unfolding_all rfl) (by with_unfolding_all rfl) (natsC_same zero16_length (digR_length 16 _)) (sizeN Try.sz16 _ (digR_length 16 _)) (natsC_one _) E12.out ?_); intro w13 T13; simp only [List.set_cons_zero] at T13; have E13 := Lib.hid T13; clear T13)
      | (with_reducible refine wpE_load (o := ⟨some 43, _, _, _, _, _⟩) rfl 23 (.tmp 4) rfl 5 g1 23 (keyC (i)) _ (by with_unfolding_all rfl) (by with_unfolding_all rfl) Try.underlying23 rfl (Try.sizeKey _ Li.out) E13.out ?_))
    refine (C44.out _).mono ?_
    rintro e w14 ⟨rfl, b14⟩
    have E14 := Lib.hid (E13.out.call b14)
    clear b14 E13
    go_wp2_with (first
      | ((with_reducible refine wpE_alloc (o := ⟨some 16, _, _, _, _, _⟩) rfl 29 rfl (natsC (zero5)) Try.zero5e E14.out ?_); intro g7 w15 T15; have E15 := Lib.hid T15; clear T15)
      | ((with_reducible refine wpE_store (o := ⟨none, _, _, _, _, _⟩) rfl 29 (.tmp 16) (.tmp 44) rfl 0 g7 29 (natsC (zero5)) (natsC (elemL ni)) (by with_unfolding_all rfl) (by with_unfolding_all rfl) (by with_unfolding_all rfl) (natsC_same zero5_length (elemL_length _)) (sizeN Try.sz5e _ (elemL_length _)) (natsC_one _) E15.out ?_); intro w16 T16; simp only [List.set_cons_zero] at T16; have E16 := Lib.hid T16; clear T16)
      | (with_reducible refine wpE_load (o := ⟨some 45, _, _, _, _, _⟩) rfl 23 (.tmp 5) rfl 5 g2 23 (keyC (j)) _ (by with_unfolding_all rfl) (by with_unfolding_all rfl) Try.underlying23 rfl (Try.sizeKey _ Lj.out) E16.out ?_))
    refine (C46.out _).mono ?_
    rintro e w17 ⟨rfl, b17⟩
    have E17 := Lib.hid (E16.out.call b17)
    clear b17 E16
    go_wp2_with (first
      | ((with_reducible refine wpE_alloc (o := ⟨some 17, _, _, _, _, _⟩) rfl 29 rfl (natsC (zero5)) Try.zero5e E17.out ?_); intro g8 w18 T18; have E18 := Lib.hid T18; clear T18)
      | ((with_reducible refine wpE_store (o := ⟨none, _, _, _, _, _⟩) rfl 29 (.tmp 17) (.tmp 46) rfl 0 g8 29 (natsC (zero5)) (natsC (elemL nj)) (by with_unfolding_all rfl) (by with_unfolding_all rfl) (by with_unfolding_all rfl) (natsC_same zero5_length (elemL_length _)) (sizeN Try.sz5e _ (elemL_length _)) (natsC_one _) E18.out ?_); intro w19 T19; simp only [List.set_cons_zero] at T19; have E19 := Lib.hid T19; clear T19)
      | (with_reducible refine wpE_load (o := ⟨some 47, _, _, _, _, _⟩) rfl 23 (.tmp 6) rfl 5 g3 23 (keyC (k)) _ (by with_unfolding_all rfl) (by with_unfolding_all rfl) Try.underlying23 rfl (Try.sizeKey _ Lk.out) E19.out ?_))
    refine (C48.out _).mono ?_
    rintro e w20 ⟨rfl, b20⟩
    have E20 := Lib.hid (E19.out.call b20)
    clear b20 E19
    go_wp2_with (first
      | ((with_reducible refine wpE_alloc (o := ⟨some 18, _, _, _, _, _⟩) rfl 29 rfl (natsC (zero5)) Try.zero5e E20.out ?_); intro g9 w21 T21; have E21 := Lib.hid T21; clear T21)
      | ((with_reducible refine wpE_store (o := ⟨none, _, _, _, _, _⟩) rfl 29 (.tmp 18) (.tmp 48) rfl 0 g9 29 (natsC (zero5)) (natsC (elemL nk)) (by with_unfolding_all rfl) (by with_unfolding_all rfl) (by with_unfolding_all rfl) (natsC_same zero5_length (elemL_length _)) (sizeN Try.sz5e _ (elemL_length _)) (natsC_one _) E21.out ?_); intro w22 T22; simp only [List.set_cons_zero] at T22; have E22 := Lib.hid T22; clear T22)
      | (with_reducible refine wpE_load (o := ⟨some 49, _, _, _, _, _⟩) rfl 29 (.tmp 16) rfl 2 g7 29 (natsC (elemL ni)) _ (by with_unfolding_all rfl) (by with_unfolding_all rfl) Try.underlying29 rfl (sizeN Try.sz5e _ (elemL_length _)) E22.out ?_)
      | (with_reducible refine wpE_load (o := ⟨some 50, _, _, _, _, _⟩) rfl 29 (.tmp 17) rfl 1 g8 29 (natsC (elemL nj)) _ (by with_unfolding_all rfl) (by with_unfolding_all rfl) Try.underlying29 rfl (sizeN Try.sz5e _ (elemL_length _)) E22.out ?_))
    refine (C51.out _).mono ?_
    rintro e w23 ⟨rfl, b23⟩
    have E23 := Lib.hid (E22.out.call b23)
    clear b23 E22
    go_wp2_with (first
      | ((with_reducible refine wpE_alloc (o := ⟨some 19, _, _, _, _, _⟩) rfl 29 rfl (natsC (zero5)) Try.zero5e E23.out ?_); intro g10 w24 T24; have E24 := Lib.hid T24; clear T24)
      | ((with_reducible refine wpE_store (o := ⟨none, _, _, _, _, _⟩) rfl 29 (.tmp 19) (.tmp 51) rfl 0 g10 29 (natsC (zero5)) (natsC (elemL v51)) (by with_unfolding_all rfl) (by with_unfolding_all rfl) (by with_unfolding_all rfl) (natsC_same zero5_length (elemL_length _)) (sizeN Try.sz5e _ (elemL_length _)) (natsC_one _) E24.out ?_); intro w25 T25; simp only [List.set_cons_zero] at T25; have E25 := Lib.hid T25; clear T25)
      | (with_reducible refine wpE_load (o := ⟨some 52, _, _, _, _, _⟩) rfl 29 (.tmp 16) rfl 3 g7 29 (natsC (elemL ni)) _ (by with_unfolding_all rfl) (by with_unfolding_all rfl) Try.underlying29 rfl (sizeN Try.sz5e _ (elemL_length _)) E25.out ?_)
      | (with_reducible refine wpE_load (o := ⟨some 53, _, _, _, _, _⟩) rfl 29 (.tmp 17) rfl 2 g8 29 (natsC (elemL nj)) _ (by with_unfolding_all rfl) (by with_unfolding_all rfl) Try.underlying29 rfl (sizeN Try.sz5e _ (elemL_length _)) E25.out ?_))
    refine (C54.out _).mono ?_
    rintro e w26 ⟨rfl, b26⟩
    have E26 := Lib.hid (E25.out.call b26)
    clear b26 E25
    go_wp2_with (first
      | ((with_reducible refine wpE_alloc (o := ⟨some 20, _, _, _, _, _⟩) rfl 29 rfl (natsC (zero5)) Try.zero5e E26.out ?_); intro g11 w27 T27; have E27 := Lib.hid T27; clear T27)
      | ((with_reducible refine wpE_store (o := ⟨none, _, _, _, _, _⟩) rfl 29 (.tmp 20) (.tmp 54) rfl 0 g11 29 (natsC (zero5)) (natsC (elemL v54)) (by with_unfolding_all rfl) (by with_unfolding_all rfl) (by with_unfolding_all rfl) (natsC_same zero5_length (elemL_length _)) (sizeN Try.sz5e _ (elemL_length _)) (natsC_one _) E27.out ?_); intro w28 T28; simp only [List.set_cons_zero] at T28; have E28 := Lib.hid T28; clear T28)
      | (with_reducible refine wpE_load (o := ⟨some 55, _, _, _, _, _⟩) rfl 29 (.tmp 16) rfl 4 g7 29 (natsC (elemL ni)) _ (by with_unfolding_all rfl) (by with_unfolding_all rfl) Try.underlying29 rfl (sizeN Try.sz5e _ (elemL_length _)) E28.out ?_)
      | (with_reducible refine wpE_load (o := ⟨some 56, _, _, _, _, _⟩) rfl 29 (.tmp 17) rfl 3 g8 29 (natsC (elemL nj)) _ (by with_unfolding_all rfl) (by with_unfolding_all rfl) Try.underlying29 rfl (sizeN Try.sz5e _ (elemL_length _)) E28.out ?_))
    refine (C57.out _).mono ?_
    rintro e w29 ⟨rfl, b29⟩
    have E29 := Lib.hid (E28.out.call b29)
    clear b29 E28
    go_wp2_with (first
      | ((with_reducible refine wpE_alloc (o := ⟨some 21, _, _, _, _, _⟩) rfl 29 rfl (natsC (zero5)) Try.zero5e E29.out ?_); intro g12 w30 T30; have E30 := Lib.hid T30; clear T30)
      | ((with_reducible refine wpE_store (o := ⟨none, _, _, _, _, _⟩) rfl 29 (.tmp 21) (.tmp 57) rfl 0 g12 29 (natsC (zero5)) (natsC (elemL v57)) (by with_unfolding_all rfl) (by with_unfolding_all rfl) (by with_unfolding_all rfl) (natsC_same zero5_length (elemL_length _)) (sizeN Try.sz5e _ (elemL_length _)) (natsC_one _) E30.out ?_); intro w31 T31; simp only [List.set_cons_zero] at T31; have E31 := Lib.hid T31; clear T31))
    refine region_rows (fin := fun _ => false) E31.out (by kernel_rfl) ?_
    change walkS _ _ _ _ _ _ 11 _ _ _
    have D0 := E31.out.drew
    apply loose_share 29 (natsC (elemL v66))
    case h =>
      intro HGO
      refine takeE_load (k := 0) (oi := ⟨some 58, _, _, _, _, _⟩) rfl (by kernel_rfl) (by kernel_rfl) (fun _ _ _ _ h => h) _ _ _ _ (by kernel_rfl) (by kernel_rfl) (by rfl) _ (.tmp 19) rfl 2 g10 29 (natsC (elemL v51)) _ rfl rfl Try.underlying29 rfl (sizeN Try.sz5e _ (elemL_length _)) D0 ?_
      simp only [Act.put, List.setIfInBounds_toArray, List.set_cons_zero, List.set_cons_succ]
      refine takeE_load (k := 1) (oi := ⟨some 59, _, _, _, _, _⟩) rfl (by kernel_rfl) (by kernel_rfl) (fun _ _ _ _ h => h) _ _ _ _ (by kernel_rfl) (by kernel_rfl) (by rfl) _ (.tmp 18) rfl 3 g9 29 (natsC (elemL nk)) _ rfl rfl Try.underlying29 rfl (sizeN Try.sz5e _ (elemL_length _)) D0 ?_
      simp only [Act.put, List.setIfInBounds_toArray, List.set_cons_zero, List.set_cons_succ]
      refine takeE_load (k := 3) (oi := ⟨some 61, _, _, _, _, _⟩) rfl (by kernel_rfl) (by kernel_rfl) (fun _ _ _ _ h => h) _ _ _ _ (by kernel_rfl) (by kernel_rfl) (by rfl) _ (.tmp 20) rfl 1 g11 29 (natsC (elemL v54)) _ rfl rfl Try.underlying29 rfl (sizeN Try.sz5e _ (elemL_length _)) D0 ?_
      simp only [Act.put, List.setIfInBounds_toArray, List.set_cons_zero, List.set_cons_succ]
      refine takeE_load (k := 4) (oi := ⟨some 62, _, _, _, _, _⟩) rfl (by kernel_rfl) (by kernel_rfl) (fun _ _ _ _ h => h) _ _ _ _ (by kernel_rfl) (by kernel_rfl) (by rfl) _ (.tmp 18) rfl 3 g9 29 (natsC (elemL nk)) _ rfl rfl Try.underlying29 rfl (sizeN Try.sz5e _ (elemL_length _)) D0 ?_
      simp only [Act.put, List.setIfInBounds_toArray, List.set_cons_zero, List.set_cons_succ]
      refine takeE_load (k := 7) (oi := ⟨some 65, _, _, _, _, _⟩) rfl (by kernel_rfl) (by kernel_rfl) (fun _ _ _ _ h => h) _ _ _ _ (by kernel_rfl) (by kernel_rfl) (by rfl) _ (.tmp 21) rfl 0 g12 29 (natsC (elemL v57)) _ rfl rfl Try.underlying29 rfl (sizeN Try.sz5e _ (elemL_length _)) D0 ?_
      simp only [Act.put, List.setIfInBounds_toArray, List.set_cons_zero, List.set_cons_succ]
      refine walkS_two (i := 2) (j := 9) (oi := ⟨some 60, _, _, _, _, _⟩) (oj := ⟨some 22, _, _, _, _, _⟩) (by kernel_rfl) rfl rfl rfl rfl (fun K hK => ?_) (fun K hK => ?_)
      · go_simp
        refine (C60.out _).mono ?_
        rintro e v1 ⟨rfl, bv1⟩
        have D1 := D0.call bv1
        clear bv1
        refine hK _ _ (.inr D1) ?_
        clear hK K
        try simp only [Act.put, List.setIfInBounds_toArray, List.set_cons_zero, List.set_cons_succ]
        refine walkS_two (i := 5) (j := 9) (oi := ⟨some 63, _, _, _, _, _⟩) (oj := ⟨some 22, _, _, _, _, _⟩) (by kernel_rfl) rfl rfl rfl rfl (fun K hK => ?_) (fun K hK => ?_)
        · go_simp
          refine (C63.out _).mono ?_
          rintro e v2 ⟨rfl, bv2⟩
          have D2 := D1.call bv2
          clear bv2
          refine hK _ _ (.inr D2) ?_
          clear hK K
          try simp only [Act.put, List.setIfInBounds_toArray, List.set_cons_zero, List.set_cons_succ]
          refine walkS_two (i := 6) (j := 9) (oi := ⟨some 64, _, _, _, _, _⟩) (oj := ⟨some 22, _, _, _, _, _⟩) (by kernel_rfl) rfl rfl rfl rfl (fun K hK => ?_) (fun K hK => ?_)
          · go_simp
            refine (C64.out _).mono ?_
            rintro e v3 ⟨rfl, bv3⟩
            have D3 := D2.call bv3
            clear bv3
            refine hK _ _ (.inr D3) ?_
            clear hK K
            try simp only [Act.put, List.setIfInBounds_toArray, List.set_cons_zero, List.set_cons_succ]
            refine walkS_two (i := 8) (j := 9) (oi := ⟨some 66, _, _, _, _, _⟩) (oj := ⟨some 22, _, _, _, _, _⟩) (by kernel_rfl) rfl rfl rfl rfl (fun K hK => ?_) (fun K hK => ?_)
            · go_simp
              refine (C66.out _).mono ?_
              rintro e v4 ⟨rfl, bv4⟩
              have D4 := D3.call bv4
              clear bv4
              refine hK _ _ (.inr D4) ?_
              clear hK K
              try simp only [Act.put, List.setIfInBounds_toArray, List.set_cons_zero, List.set_cons_succ]
              refine walkS_only (i := 9) (o := ⟨some 22, _, _, _, _, _⟩) (by kernel_rfl) rfl rfl fun K hK => ?_
              refine wp_alloc_row 29 rfl (natsC (zero5)) Try.zero5e fun g13 v5 nv5 => hK _ _ (.inr ?_) ?_
              · exact (D4.new nv5).less (List.sublist_cons_self _ _)
              have D5 := D4.new nv5
              clear hK K nv5
              simp only [Act.put, List.setIfInBounds_toArray, List.set_cons_zero, List.set_cons_succ]
              refine walkS_only (i := 10) (o := ⟨none, _, _, _, _, _⟩) (by kernel_rfl) rfl rfl fun K hK => ?_
              refine wp_store_row 29 (.tmp 22) (.tmp 66) rfl g13 29 (natsC (zero5)) (natsC (elemL v66)) rfl rfl (D5.row 0 rfl) (natsC_same zero5_length (elemL_length _)) (sizeN Try.sz5e _ (elemL_length _)) (natsC_one _) ?_
              intro v6 pv6
              have T32 := D5.put 0 rfl pv6
              simp only [List.set_cons_zero] at T32
              exact hK _ _ (.inr (T32.less (List.sublist_cons_self _ _))) (walkS_done (by kernel_rfl) (HGO g13 v6 T32) _)
            · refine wp_alloc_row 29 rfl (natsC (zero5)) Try.zero5e fun g13 v4 nv4 => hK _ _ (.inr ?_) ?_
              · exact (D3.new nv4).less (List.sublist_cons_self _ _)
              have D4 := D3.new nv4
              clear hK K nv4
              simp only [Act.put, List.setIfInBounds_toArray, List.set_cons_zero, List.set_cons_succ]
              refine walkS_only (i := 8) (o := ⟨some 66, _, _, _, _, _⟩) (by kernel_rfl) rfl rfl fun K hK => ?_
              go_simp
              refine (C66.out _).mono ?_
              rintro e v5 ⟨rfl, bv5⟩
              have D5 := D4.call bv5
              clear bv5
              refine hK _ _ (.inr (D5.less (List.sublist_cons_self _ _))) ?_
              clear hK K
              try simp only [Act.put, List.setIfInBounds_toArray, List.set_cons_zero, List.set_cons_succ]
              refine walkS_only (i := 10) (o := ⟨none, _, _, _, _, _⟩) (by kernel_rfl) rfl rfl fun K hK => ?_
              refine wp_store_row 29 (.tmp 22) (.tmp 66) rfl g13 29 (natsC (zero5)) (natsC (elemL v66)) rfl rfl (D5.row 0 rfl) (natsC_same zero5_length (elemL_length _)) (sizeN Try.sz5e _ (elemL_length _)) (natsC_one _) ?_
              intro v6 pv6
              have T32 := D5.put 0 rfl pv6
              simp only [List.set_cons_zero] at T32
              exact hK _ _ (.inr (T32.less (List.sublist_cons_self _ _))) (walkS_done (by kernel_rfl) (HGO g13 v6 T32) _)
          · refine wp_alloc_row 29 rfl (natsC (zero5)) Try.zero5e fun g13 v3 nv3 => hK _ _ (.inr ?_) ?_
            · exact (D2.new nv3).less (List.sublist_cons_self _ _)
            have D3 := D2.new nv3
            clear hK K nv3
            simp only [Act.put, List.setIfInBounds_toArray, List.set_cons_zero, List.set_cons_succ]
            refine walkS_only (i := 6) (o := ⟨some 64, _, _, _, _, _⟩) (by kernel_rfl) rfl rfl fun K hK => ?_
            go_simp
            refine (C64.out _).mono ?_
            rintro e v4 ⟨rfl, bv4⟩
            have D4 := D3.call bv4
            clear bv4
            refine hK _ _ (.inr (D4.less (List.sublist_cons_self _ _))) ?_
            clear hK K
            try simp only [Act.put, List.setIfInBounds_toArray, List.set_cons_zero, List.set_cons_succ]
            refine walkS_only (i := 8) (o := ⟨some 66, _, _, _, _, _⟩) (by kernel_rfl) rfl rfl fun K hK => ?_
            go_simp
            refine (C66.out _).mono ?_
            rintro e v5 ⟨rfl, bv5⟩
            have D5 := D4.call bv5
            clear bv5
            refine hK _ _ (.inr (D5.less (List.sublist_cons_self _ _))) ?_
            clear hK K
            try simp only [Act.put, List.setIfInBounds_toArray, List.set_cons_zero, List.set_cons_succ]
            refine walkS_only (i := 10) (o := ⟨none, _, _, _, _, _⟩) (by kernel_rfl) rfl rfl fun K hK => ?_
            refine wp_store_row 29 (.tmp 22) (.tmp 66) rfl g13 29 (natsC (zero5)) (natsC (elemL v66)) rfl rfl (D5.row 0 rfl) (natsC_same zero5_length (elemL_length _)) (sizeN Try.sz5e _ (elemL_length _)) (natsC_one _) ?_
            intro v6 pv6
            have T32 := D5.put 0 rfl pv6
            simp only [List.set_cons_zero] at T32
            exact hK _ _ (.inr (T32.less (List.sublist_cons_self _ _))) (walkS_done (by kernel_rfl) (HGO g13 v6 T32) _)
        · refine wp_alloc_row 29 rfl (natsC (zero5)) Try.zero5e fun g13 v2 nv2 => hK _ _ (.inr ?_) ?_
          · exact (D1.new nv2).less (List.sublist_cons_self _ _)
          have D2 := D1.new nv2
          clear hK K nv2
          simp only [Act.put, List.setIfInBounds_toArray, List.set_cons_zero, List.set_cons_succ]
          refine walkS_only (i := 5) (o := ⟨some 63, _, _, _, _, _⟩) (by kernel_rfl) rfl rfl fun K hK => ?_
          go_simp
          refine (C63.out _).mono ?_
          rintro e v3 ⟨rfl, bv3⟩
          have D3 := D2.call bv3
          clear bv3
          refine hK _ _ (.inr (D3.less (List.sublist_cons_self _ _))) ?_
          clear hK K
          try simp only [Act.put, List.setIfInBounds_toArray, List.set_cons_zero, List.set_cons_succ]
          refine walkS_only (i := 6) (o := ⟨some 64, _, _, _, _, _⟩) (by kernel_rfl) rfl rfl fun K hK => ?_
          go_simp
          refine (C64.out _).mono ?_
          rintro e v4 ⟨rfl, bv4⟩
          have D4 := D3.call bv4
          clear bv4
          refine hK _ _ (.inr (D4.less (List.sublist_cons_self _ _))) ?_
          clear hK K
          try simp only [Act.put, List.setIfInBounds_toArray, List.set_cons_zero, List.set_cons_succ]
          refine walkS_only (i := 8) (o := ⟨some 66, _, _, _, _, _⟩) (by kernel_rfl) rfl rfl fun K hK => ?_
          go_simp
          refine (C66.out _).mono ?_
          rintro e v5 ⟨rfl, bv5⟩
          have D5 := D4.call bv5
          clear bv5
          refine hK _ _ (.inr (D5.less (List.sublist_cons_self _ _))) ?_
          clear hK K
          try simp only [Act.put, List.setIfInBounds_toArray, List.set_cons_zero, List.set_cons_succ]
          refine walkS_only (i := 10) (o := ⟨none, _, _, _, _, _⟩) (by kernel_rfl) rfl rfl fun K hK => ?_
          refine wp_store_row 29 (.tmp 22) (.tmp 66) rfl g13 29 (natsC (zero5)) (natsC (elemL v66)) rfl rfl (D5.row 0 rfl) (natsC_same zero5_length (elemL_length _)) (sizeN Try.sz5e _ (elemL_length _)) (natsC_one _) ?_
          intro v6 pv6
          have T32 := D5.put 0 rfl pv6
          simp only [List.set_cons_zero] at T32
          exact hK _ _ (.inr (T32.less (List.sublist_cons_self _ _))) (walkS_done (by kernel_rfl) (HGO g13 v6 T32) _)
      · refine wp_alloc_row 29 rfl (natsC (zero5)) Try.zero5e fun g13 v1 nv1 => hK _ _ (.inr ?_) ?_
        · exact (D0.new nv1).less (List.sublist_cons_self _ _)
        have D1 := D0.new nv1
        clear hK K nv1
        simp only [Act.put, List.setIfInBounds_toArray, List.set_cons_zero, List.set_cons_succ]
        refine walkS_only (i := 2) (o := ⟨some 60, _, _, _, _, _⟩) (by kernel_rfl) rfl rfl fun K hK => ?_
        go_simp
        refine (C60.out _).mono ?_
        rintro e v2 ⟨rfl, bv2⟩
        have D2 := D1.call bv2
        clear bv2
        refine hK _ _ (.inr (D2.less (List.sublist_cons_self _ _))) ?_
        clear hK K
        try simp only [Act.put, List.setIfInBounds_toArray, List.set_cons_zero, List.set_cons_succ]
        refine walkS_only (i := 5) (o := ⟨some 63, _, _, _, _, _⟩) (by kernel_rfl) rfl rfl fun K hK => ?_
        go_simp
        refine (C63.out _).mono ?_
        rintro e v3 ⟨rfl, bv3⟩
        have D3 := D2.call bv3
        clear bv3
        refine hK _ _ (.inr (D3.less (List.sublist_cons_self _ _))) ?_
        clear hK K
        try simp only [Act.put, List.setIfInBounds_toArray, List.set_cons_zero, List.set_cons_succ]
        refine walkS_only (i := 6) (o := ⟨some 64, _, _, _, _, _⟩) (by kernel_rfl) rfl rfl fun K hK => ?_
        go_simp
        refine (C64.out _).mono ?_
        rintro e v4 ⟨rfl, bv4⟩
        have D4 := D3.call bv4
        clear bv4
        refine hK _ _ (.inr (D4.less (List.sublist_cons_self _ _))) ?_
        clear hK K
        try simp only [Act.put, List.setIfInBounds_toArray, List.set_cons_zero, List.set_cons_succ]
        refine walkS_only (i := 8) (o := ⟨some 66, _, _, _, _, _⟩) (by kernel_rfl) rfl rfl fun K hK => ?_
        go_simp
        refine (C66.out _).mono ?_
        rintro e v5 ⟨rfl, bv5⟩
        have D5 := D4.call bv5
        clear bv5
        refine hK _ _ (.inr (D5.less (List.sublist_cons_self _ _))) ?_
        clear hK K
        try simp only [Act.put, List.setIfInBounds_toArray, List.set_cons_zero, List.set_cons_succ]
        refine walkS_only (i := 10) (o := ⟨none, _, _, _, _, _⟩) (by kernel_rfl) rfl rfl fun K hK => ?_
        refine wp_store_row 29 (.tmp 22) (.tmp 66) rfl g13 29 (natsC (zero5)) (natsC (elemL v66)) rfl rfl (D5.row 0 rfl) (natsC_same zero5_length (elemL_length _)) (sizeN Try.sz5e _ (elemL_length _)) (natsC_one _) ?_
        intro v6 pv6
        have T32 := D5.put 0 rfl pv6
        simp only [List.set_cons_zero] at T32
        exact hK _ _ (.inr (T32.less (List.sublist_cons_self _ _))) (walkS_done (by kernel_rfl) (HGO g13 v6 T32) _)
    clear D0
    intro g13 w32 T32
    have E32 := Lib.hid T32
    clear T32 E31
    go_wp2_with fail
    refine region_rows (fin := fun _ => false) E32.out (by kernel_rfl) ?_
    change walkS _ _ _ _ _ _ 17 _ _ _
    have D0 := E32.out.drew
    apply loose_share 33 (natsC (digR 16 v81))
    case h =>
      intro HGO
      refine takeE_load (k := 0) (oi := ⟨some 67, _, _, _, _, _⟩) rfl (by kernel_rfl) (by kernel_rfl) (fun _ _ _ _ h => h) _ _ _ _ (by kernel_rfl) (by kernel_rfl) (by rfl) _ (.tmp 10) rfl 9 g4 33 (natsC (digR 16 ni)) _ rfl rfl Try.underlying33 rfl (sizeN Try.sz16 _ (digR_length 16 _)) D0 ?_
      simp only [Act.put, List.setIfInBounds_toArray, List.set_cons_zero, List.set_cons_succ]
      refine takeE_load (k := 1) (oi := ⟨some 68, _, _, _, _, _⟩) rfl (by kernel_rfl) (by kernel_rfl) (fun _ _ _ _ h => h) _ _ _ _ (by kernel_rfl) (by kernel_rfl) (by rfl) _ (.tmp 12) rfl 8 g5 33 (natsC (digR 16 nj)) _ rfl rfl Try.underlying33 rfl (sizeN Try.sz16 _ (digR_length 16 _)) D0 ?_
      simp only [Act.put, List.setIfInBounds_toArray, List.set_cons_zero, List.set_cons_succ]
      refine takeE_load (k := 3) (oi := ⟨some 70, _, _, _, _, _⟩) rfl (by kernel_rfl) (by kernel_rfl) (fun _ _ _ _ h => h) _ _ _ _ (by kernel_rfl) (by kernel_rfl) (by rfl) _ (.tmp 14) rfl 7 g6 33 (natsC (digR 16 nk)) _ rfl rfl Try.underlying33 rfl (sizeN Try.sz16 _ (digR_length 16 _)) D0 ?_
      simp only [Act.put, List.setIfInBounds_toArray, List.set_cons_zero, List.set_cons_succ]
      refine takeE_load (k := 5) (oi := ⟨some 72, _, _, _, _, _⟩) rfl (by kernel_rfl) (by kernel_rfl) (fun _ _ _ _ h => h) _ _ _ _ (by kernel_rfl) (by kernel_rfl) (by rfl) _ (.tmp 10) rfl 9 g4 33 (natsC (digR 16 ni)) _ rfl rfl Try.underlying33 rfl (sizeN Try.sz16 _ (digR_length 16 _)) D0 ?_
      simp only [Act.put, List.setIfInBounds_toArray, List.set_cons_zero, List.set_cons_succ]
      refine takeE_load (k := 6) (oi := ⟨some 73, _, _, _, _, _⟩) rfl (by kernel_rfl) (by kernel_rfl) (fun _ _ _ _ h => h) _ _ _ _ (by kernel_rfl) (by kernel_rfl) (by rfl) _ (.tmp 12) rfl 8 g5 33 (natsC (digR 16 nj)) _ rfl rfl Try.underlying33 rfl (sizeN Try.sz16 _ (digR_length 16 _)) D0 ?_
      simp only [Act.put, List.setIfInBounds_toArray, List.set_cons_zero, List.set_cons_succ]
      refine takeE_load (k := 8) (oi := ⟨some 75, _, _, _, _, _⟩) rfl (by kernel_rfl) (by kernel_rfl) (fun _ _ _ _ h => h) _ _ _ _ (by kernel_rfl) (by kernel_rfl) (by rfl) _ (.tmp 14) rfl 7 g6 33 (natsC (digR 16 nk)) _ rfl rfl Try.underlying33 rfl (sizeN Try.sz16 _ (digR_length 16 _)) D0 ?_
      simp only [Act.put, List.setIfInBounds_toArray, List.set_cons_zero, List.set_cons_succ]
      refine takeE_load (k := 11) (oi := ⟨some 78, _, _, _, _, _⟩) rfl (by kernel_rfl) (by kernel_rfl) (fun _ _ _ _ h => h) _ _ _ _ (by kernel_rfl) (by kernel_rfl) (by rfl) _ (.tmp 10) rfl 9 g4 33 (natsC (digR 16 ni)) _ rfl rfl Try.underlying33 rfl (sizeN Try.sz16 _ (digR_length 16 _)) D0 ?_
      simp only [Act.put, List.setIfInBounds_toArray, List.set_cons_zero, List.set_cons_succ]
      refine takeE_load (k := 12) (oi := ⟨some 79, _, _, _, _, _⟩) rfl (by kernel_rfl) (by kernel_rfl) (fun _ _ _ _ h => h) _ _ _ _ (by kernel_rfl) (by kernel_rfl) (by rfl) _ (.tmp 12) rfl 8 g5 33 (natsC (digR 16 nj)) _ rfl rfl Try.underlying33 rfl (sizeN Try.sz16 _ (digR_length 16 _)) D0 ?_
      simp only [Act.put, List.setIfInBounds_toArray, List.set_cons_zero, List.set_cons_succ]
      refine walkS_two (i := 2) (j := 15) (oi := ⟨some 69, _, _, _, _, _⟩) (oj := ⟨some 23, _, _, _, _, _⟩) (by kernel_rfl) rfl rfl rfl rfl (fun K hK => ?_) (fun K hK => ?_)
      · go_simp
        refine (C69.out _).mono ?_
        rintro e v1 ⟨rfl, bv1⟩
        have D1 := D0.call bv1
        clear bv1
        refine hK _ _ (.inr D1) ?_
        clear hK K
        try simp only [Act.put, List.setIfInBounds_toArray, List.set_cons_zero, List.set_cons_succ]
        refine walkS_two (i := 4) (j := 15) (oi := ⟨some 71, _, _, _, _, _⟩) (oj := ⟨some 23, _, _, _, _, _⟩) (by kernel_rfl) rfl rfl rfl rfl (fun K hK => ?_) (fun K hK => ?_)
        · go_simp
          refine (C71.out _).mono ?_
          rintro e v2 ⟨rfl, bv2⟩
          have D2 := D1.call bv2
          clear bv2
          refine hK _ _ (.inr D2) ?_
          clear hK K
          try simp only [Act.put, List.setIfInBounds_toArray, List.set_cons_zero, List.set_cons_succ]
          refine walkS_two (i := 7) (j := 15) (oi := ⟨some 74, _, _, _, _, _⟩) (oj := ⟨some 23, _, _, _, _, _⟩) (by kernel_rfl) rfl rfl rfl rfl (fun K hK => ?_) (fun K hK => ?_)
          · go_simp
            refine (C74.out _).mono ?_
            rintro e v3 ⟨rfl, bv3⟩
            have D3 := D2.call bv3
            clear bv3
            refine hK _ _ (.inr D3) ?_
            clear hK K
            try simp only [Act.put, List.setIfInBounds_toArray, List.set_cons_zero, List.set_cons_succ]
            refine walkS_two (i := 9) (j := 15) (oi := ⟨some 76, _, _, _, _, _⟩) (oj := ⟨some 23, _, _, _, _, _⟩) (by kernel_rfl) rfl rfl rfl rfl (fun K hK => ?_) (fun K hK => ?_)
            · go_simp
              refine (C76.out _).mono ?_
              rintro e v4 ⟨rfl, bv4⟩
              have D4 := D3.call bv4
              clear bv4
              refine hK _ _ (.inr D4) ?_
              clear hK K
              try simp only [Act.put, List.setIfInBounds_toArray, List.set_cons_zero, List.set_cons_succ]
              refine walkS_two (i := 10) (j := 15) (oi := ⟨some 77, _, _, _, _, _⟩) (oj := ⟨some 23, _, _, _, _, _⟩) (by kernel_rfl) rfl rfl rfl rfl (fun K hK => ?_) (fun K hK => ?_)
              · go_simp
                refine (C77.out _).mono ?_
                rintro e v5 ⟨rfl, bv5⟩
                have D5 := D4.call bv5
                clear bv5
                refine hK _ _ (.inr D5) ?_
                clear hK K
                try simp only [Act.put, List.setIfInBounds_toArray, List.set_cons_zero, List.set_cons_succ]
                refine walkS_two (i := 13) (j := 15) (oi := ⟨some 80, _, _, _, _, _⟩) (oj := ⟨some 23, _, _, _, _, _⟩) (by kernel_rfl) rfl rfl rfl rfl (fun K hK => ?_) (fun K hK => ?_)
                · go_simp
                  refine (C80.out _).mono ?_
                  rintro e v6 ⟨rfl, bv6⟩
                  have D6 := D5.call bv6
                  clear bv6
                  refine hK _ _ (.inr D6) ?_
                  clear hK K
                  try simp only [Act.put, List.setIfInBounds_toArray, List.set_cons_zero, List.set_cons_succ]
                  refine walkS_two (i := 14) (j := 15) (oi := ⟨some 81, _, _, _, _, _⟩) (oj := ⟨some 23, _, _, _, _, _⟩) (by kernel_rfl) rfl rfl rfl rfl (fun K hK => ?_) (fun K hK => ?_)
                  · go_simp
                    refine (C81.out _).mono ?_
                    rintro e v7 ⟨rfl, bv7⟩
                    have D7 := D6.call bv7
                    clear bv7
                    refine hK _ _ (.inr D7) ?_
                    clear hK K
                    try simp only [Act.put, List.setIfInBounds_toArray, List.set_cons_zero, List.set_cons_succ]
                    refine walkS_only (i := 15) (o := ⟨some 23, _, _, _, _, _⟩) (by kernel_rfl) rfl rfl fun K hK => ?_
                    refine wp_alloc_row 33 rfl (natsC (zero16)) Try.zero16 fun g14 v8 nv8 => hK _ _ (.inr ?_) ?_
                    · exact (D7.new nv8).less (List.sublist_cons_self _ _)
                    have D8 := D7.new nv8
                    clear hK K nv8
                    simp only [Act.put, List.setIfInBounds_toArray, List.set_cons_zero, List.set_cons_succ]
                    refine walkS_only (i := 16) (o := ⟨none, _, _, _, _, _⟩) (by kernel_rfl) rfl rfl fun K hK => ?_
                    refine wp_store_row 33 (.tmp 23) (.tmp 81) rfl g14 33 (natsC (zero16)) (natsC (digR 16 v81)) rfl rfl (D8.row 0 rfl) (natsC_same zero16_length (digR_length 16 _)) (sizeN Try.sz16 _ (digR_length 16 _)) (natsC_one _) ?_
                    intro v9 pv9
                    have T33 := D8.put 0 rfl pv9
                    simp only [List.set_cons_zero] at T33
                    exact hK _ _ (.inr (T33.less (List.sublist_cons_self _ _))) (walkS_done (by kernel_rfl) (HGO g14 v9 T33) _)
                  · refine wp_alloc_row 33 rfl (natsC (zero16)) Try.zero16 fun g14 v7 nv7 => hK _ _ (.inr ?_) ?_
                    · exact (D6.new nv7).less (List.sublist_cons_self _ _)
                    have D7 := D6.new nv7
                    clear hK K nv7
                    simp only [Act.put, List.setIfInBounds_toArray, List.set_cons_zero, List.set_cons_succ]
                    refine walkS_only (i := 14) (o := ⟨some 81, _, _, _, _, _⟩) (by kernel_rfl) rfl rfl fun K hK => ?_
                    go_simp
                    refine (C81.out _).mono ?_
                    rintro e v8 ⟨rfl, bv8⟩
                    have D8 := D7.call bv8
                    clear bv8
                    refine hK _ _ (.inr (D8.less (List.sublist_cons_self _ _))) ?_
                    clear hK K
                    try simp only [Act.put, List.setIfInBounds_toArray, List.set_cons_zero, List.set_cons_succ]
                    refine walkS_only (i := 16) (o := ⟨none, _, _, _, _, _⟩) (by kernel_rfl) rfl rfl fun K hK => ?_
                    refine wp_store_row 33 (.tmp 23) (.tmp 81) rfl g14 33 (natsC (zero16)) (natsC (digR 16 v81)) rfl rfl (D8.row 0 rfl) (natsC_same zero16_length (digR_length 16 _)) (sizeN Try.sz16 _ (digR_length 16 _)) (natsC_one _) ?_
                    intro v9 pv9
                    have T33 := D8.put 0 rfl pv9
                    simp only [List.set_cons_zero] at T33
                    exact hK _ _ (.inr (T33.less (List.sublist_cons_self _ _))) (walkS_done (by kernel_rfl) (HGO g14 v9 T33) _)
                · refine wp_alloc_row 33 rfl (natsC (zero16)) Try.zero16 fun g14 v6 nv6 => hK _ _ (.inr ?_) ?_
                  · exact (D5.new nv6).less (List.sublist_cons_self _ _)
                  have D6 := D5.new nv6
                  clear hK K nv6
                  simp only [Act.put, List.setIfInBounds_toArray, List.set_cons_zero, List.set_cons_succ]
                  refine walkS_only (i := 13) (o := ⟨some 80, _, _, _, _, _⟩) (by kernel_rfl) rfl rfl fun K hK => ?_
                  go_simp
                  refine (C80.out _).mono ?_
                  rintro e v7 ⟨rfl, bv7⟩
                  have D7 := D6.call bv7
                  clear bv7
                  refine hK _ _ (.inr (D7.less (List.sublist_cons_self _ _))) ?_
                  clear hK K
                  try simp only [Act.put, List.setIfInBounds_toArray, List.set_cons_zero, List.set_cons_succ]
                  refine walkS_only (i := 14) (o := ⟨some 81, _, _, _, _, _⟩) (by kernel_rfl) rfl rfl fun K hK => ?_
                  go_simp
                  refine (C81.out _).mono ?_
                  rintro e v8 ⟨rfl, bv8⟩
                  have D8 := D7.call bv8
                  clear bv8
                  refine hK _ _ (.inr (D8.less (List.sublist_cons_self _ _))) ?_
                  clear hK K
                  try simp only [Act.put, List.setIfInBounds_toArray, List.set_cons_zero, List.set_cons_succ]
                  refine walkS_only (i := 16) (o := ⟨none, _, _, _, _, _⟩) (by kernel_rfl) rfl rfl fun K hK => ?_
                  refine wp_store_row 33 (.tmp 23) (.tmp 81) rfl g14 33 (natsC (zero16)) (natsC (digR 16 v81)) rfl rfl (D8.row 0 rfl) (natsC_same zero16_length (digR_length 16 _)) (sizeN Try.sz16 _ (digR_length 16 _)) (natsC_one _) ?_
                  intro v9 pv9
                  have T33 := D8.put 0 rfl pv9
                  simp only [List.set_cons_zero] at T33
                  exact hK _ _ (.inr (T33.less (List.sublist_cons_self _ _))) (walkS_done (by kernel_rfl) (HGO g14 v9 T33) _)
              · refine wp_alloc_row 33 rfl (natsC (zero16)) Try.zero16 fun g14 v5 nv5 => hK _ _ (.inr ?_) ?_
                · exact (D4.new nv5).less (List.sublist_cons_self _ _)
                have D5 := D4.new nv5
                clear hK K nv5
                simp only [Act.put, List.setIfInBounds_toArray, List.set_cons_zero, List.set_cons_succ]
                refine walkS_only (i := 10) (o := ⟨some 77, _, _, _, _, _⟩) (by kernel_rfl) rfl rfl fun K hK => ?_
                go_simp
                refine (C77.out _).mono ?_
                rintro e v6 ⟨rfl, bv6⟩
                have D6 := D5.call bv6
                clear bv6
                refine hK _ _ (.inr (D6.less (List.sublist_cons_self _ _))) ?_
                clear hK K
                try simp only [Act.put, List.setIfInBounds_toArray, List.set_cons_zero, List.set_cons_succ]
                refine walkS_only (i := 13) (o := ⟨some 80, _, _, _, _, _⟩) (by kernel_rfl) rfl rfl fun K hK => ?_
                go_simp
                refine (C80.out _).mono ?_
                rintro e v7 ⟨rfl, bv7⟩
                have D7 := D6.call bv7
                clear bv7
                refine hK _ _ (.inr (D7.less (List.sublist_cons_self _ _))) ?_
                clear hK K
                try simp only [Act.put, List.setIfInBounds_toArray, List.set_cons_zero, List.set_cons_succ]
                refine walkS_only (i := 14) (o := ⟨some 81, _, _, _, _, _⟩) (by kernel_rfl) rfl rfl fun K hK => ?_
                go_simp
                refine (C81.out _).mono ?_
                rintro e v8 ⟨rfl, bv8⟩
                have D8 := D7.call bv8
                clear bv8
                refine hK _ _ (.inr (D8.less (List.sublist_cons_self _ _))) ?_
                clear hK K
                try simp only [Act.put, List.setIfInBounds_toArray, List.set_cons_zero, List.set_cons_succ]
                refine walkS_only (i := 16) (o := ⟨none, _, _, _, _, _⟩) (by kernel_rfl) rfl rfl fun K hK => ?_
                refine wp_store_row 33 (.tmp 23) (.tmp 81) rfl g14 33 (natsC (zero16)) (natsC (digR 16 v81)) rfl rfl (D8.row 0 rfl) (natsC_same zero16_length (digR_length 16 _)) (sizeN Try.sz16 _ (digR_length 16 _)) (natsC_one _) ?_
                intro v9 pv9
                have T33 := D8.put 0 rfl pv9
                simp only [List.set_cons_zero] at T33
                exact hK _ _ (.inr (T33.less (List.sublist_cons_self _ _))) (walkS_done (by kernel_rfl) (HGO g14 v9 T33) _)
            · refine wp_alloc_row 33 rfl (natsC (zero16)) Try.zero16 fun g14 v4 nv4 => hK _ _ (.inr ?_) ?_
              · exact (D3.new nv4).less (List.sublist_cons_self _ _)
              have D4 := D3.new nv4
              clear hK K nv4
              simp only [Act.put, List.setIfInBounds_toArray, List.set_cons_zero, List.set_cons_succ]
              refine walkS_only (i := 9) (o := ⟨some 76, _, _, _, _, _⟩) (by kernel_rfl) rfl rfl fun K hK => ?_
              go_simp
              refine (C76.out _).mono ?_
              rintro e v5 ⟨rfl, bv5⟩
              have D5 := D4.call bv5
              clear bv5
              refine hK _ _ (.inr (D5.less (List.sublist_cons_self _ _))) ?_
              clear hK K
              try simp only [Act.put, List.setIfInBounds_toArray, List.set_cons_zero, List.set_cons_succ]
              refine walkS_only (i := 10) (o := ⟨some 77, _, _, _, _, _⟩) (by kernel_rfl) rfl rfl fun K hK => ?_
              go_simp
              refine (C77.out _).mono ?_
              rintro e v6 ⟨rfl, bv6⟩
              have D6 := D5.call bv6
              clear bv6
              refine hK _ _ (.inr (D6.less (List.sublist_cons_self _ _))) ?_
              clear hK K
              try simp only [Act.put, List.setIfInBounds_toArray, List.set_cons_zero, List.set_cons_succ]
              refine walkS_only (i := 13) (o := ⟨some 80, _, _, _, _, _⟩) (by kernel_rfl) rfl rfl fun K hK => ?_
              go_simp
              refine (C80.out _).mono ?_
              rintro e v7 ⟨rfl, bv7⟩
              have D7 := D6.call bv7
              clear bv7
              refine hK _ _ (.inr (D7.less (List.sublist_cons_self _ _))) ?_
              clear hK K
              try simp only [Act.put, List.setIfInBounds_toArray, List.set_cons_zero, List.set_cons_succ]
              refine walkS_only (i := 14) (o := ⟨some 81, _, _, _, _, _⟩) (by kernel_rfl) rfl rfl fun K hK => ?_
              go_simp
              refine (C81.out _).mono ?_
              rintro e v8 ⟨rfl, bv8⟩
              have D8 := D7.call bv8
              clear bv8
              refine hK _ _ (.inr (D8.less (List.sublist_cons_self _ _))) ?_
              clear hK K
              try simp only [Act.put, List.setIfInBounds_toArray, List.set_cons_zero, List.set_cons_succ]
              refine walkS_only (i := 16) (o := ⟨none, _, _, _, _, _⟩) (by kernel_rfl) rfl rfl fun K hK => ?_
              refine wp_store_row 33 (.tmp 23) (.tmp 81) rfl g14 33 (natsC (zero16)) (natsC (digR 16 v81)) rfl rfl (D8.row 0 rfl) (natsC_same zero16_length (digR_length 16 _)) (sizeN Try.sz16 _ (digR_length 16 _)) (natsC_one _) ?_
              intro v9 pv9
              have T33 := D8.put 0 rfl pv9
              simp only [List.set_cons_zero] at T33
              exact hK _ _ (.inr (T33.less (List.sublist_cons_self _ _))) (walkS_done (by kernel_rfl) (HGO g14 v9 T33) _)
          · refine wp_alloc_row 33 rfl (natsC (zero16)) Try.zero16 fun g14 v3 nv3 => hK _ _ (.inr ?_) ?_
            · exact (D2.new nv3).less (List.sublist_cons_self _ _)
            have D3 := D2.new nv3
            clear hK K nv3
            simp only [Act.put, List.setIfInBounds_toArray, List.set_cons_zero, List.set_cons_succ]
            refine walkS_only (i := 7) (o := ⟨some 74, _, _, _, _, _⟩) (by kernel_rfl) rfl rfl fun K hK => ?_
            go_simp
            refine (C74.out _).mono ?_
            rintro e v4 ⟨rfl, bv4⟩
            have D4 := D3.call bv4
            clear bv4
            refine hK _ _ (.inr (D4.less (List.sublist_cons_self _ _))) ?_
            clear hK K
            try simp only [Act.put, List.setIfInBounds_toArray, List.set_cons_zero, List.set_cons_succ]
            refine walkS_only (i := 9) (o := ⟨some 76, _, _, _, _, _⟩) (by kernel_rfl) rfl rfl fun K hK => ?_
            go_simp
            refine (C76.out _).mono ?_
            rintro e v5 ⟨rfl, bv5⟩
            have D5 := D4.call bv5
            clear bv5
            refine hK _ _ (.inr (D5.less (List.sublist_cons_self _ _))) ?_
            clear hK K
            try simp only [Act.put, List.setIfInBounds_toArray, List.set_cons_zero, List.set_cons_succ]
            refine walkS_only (i := 10) (o := ⟨some 77, _, _, _, _, _⟩) (by kernel_rfl) rfl rfl fun K hK => ?_
            go_simp
            refine (C77.out _).mono ?_
            rintro e v6 ⟨rfl, bv6⟩
            have D6 := D5.call bv6
            clear bv6
            refine hK _ _ (.inr (D6.less (List.sublist_cons_self _ _))) ?_
            clear hK K
            try simp only [Act.put, List.setIfInBounds_toArray, List.set_cons_zero, List.set_cons_succ]
            refine walkS_only (i := 13) (o := ⟨some 80, _, _, _, _, _⟩) (by kernel_rfl) rfl rfl fun K hK => ?_
            go_simp
            refine (C80.out _).mono ?_
            rintro e v7 ⟨rfl, bv7⟩
            have D7 := D6.call bv7
            clear bv7
            refine hK _ _ (.inr (D7.less (List.sublist_cons_self _ _))) ?_
            clear hK K
            try simp only [Act.put, List.setIfInBounds_toArray, List.set_cons_zero, List.set_cons_succ]
            refine walkS_only (i := 14) (o := ⟨some 81, _, _, _, _, _⟩) (by kernel_rfl) rfl rfl fun K hK => ?_
            go_simp
            refine (C81.out _).mono ?_
            rintro e v8 ⟨rfl, bv8⟩
            have D8 := D7.call bv8
            clear bv8
            refine hK _ _ (.inr (D8.less (List.sublist_cons_self _ _))) ?_
            clear hK K
            try simp only [Act.put, List.setIfInBounds_toArray, List.set_cons_zero, List.set_cons_succ]
            refine walkS_only (i := 16) (o := ⟨none, _, _, _, _, _⟩) (by kernel_rfl) rfl rfl fun K hK => ?_
            refine wp_store_row 33 (.tmp 23) (.tmp 81) rfl g14 33 (natsC (zero16)) (natsC (digR 16 v81)) rfl rfl (D8.row 0 rfl) (natsC_same zero16_length (digR_length 16 _)) (sizeN Try.sz16 _ (digR_length 16 _)) (natsC_one _) ?_
            intro v9 pv9
            have T33 := D8.put 0 rfl pv9
            simp only [List.set_cons_zero] at T33
            exact hK _ _ (.inr (T33.less (List.sublist_cons_self _ _))) (walkS_done (by kernel_rfl) (HGO g14 v9 T33) _)
        · refine wp_alloc_row 33 rfl (natsC (zero16)) Try.zero16 fun g14 v2 nv2 => hK _ _ (.inr ?_) ?_
          · exact (D1.new nv2).less (List.sublist_cons_self _ _)
          have D2 := D1.new nv2
          clear hK K nv2
          simp only [Act.put, List.setIfInBounds_toArray, List.set_cons_zero, List.set_cons_succ]
          refine walkS_only (i := 4) (o := ⟨some 71, _, _, _, _, _⟩) (by kernel_rfl) rfl rfl fun K hK => ?_
          go_simp
          refine (C71.out _).mono ?_
          rintro e v3 ⟨rfl, bv3⟩
          have D3 := D2.call bv3
          clear bv3
          refine hK _ _ (.inr (D3.less (List.sublist_cons_self _ _))) ?_
          clear hK K
          try simp only [Act.put, List.setIfInBounds_toArray, List.set_cons_zero, List.set_cons_succ]
          refine walkS_only (i := 7) (o := ⟨some 74, _, _, _, _, _⟩) (by kernel_rfl) rfl rfl fun K hK => ?_
          go_simp
          refine (C74.out _).mono ?_
          rintro e v4 ⟨rfl, bv4⟩
          have D4 := D3.call bv4
          clear bv4
          refine hK _ _ (.inr (D4.less (List.sublist_cons_self _ _))) ?_
          clear hK K
          try simp only [Act.put, List.setIfInBounds_toArray, List.set_cons_zero, List.set_cons_succ]
          refine walkS_only (i := 9) (o := ⟨some 76, _, _, _, _, _⟩) (by kernel_rfl) rfl rfl fun K hK => ?_
          go_simp
          refine (C76.out _).mono ?_
          rintro e v5 ⟨rfl, bv5⟩
          have D5 := D4.call bv5
          clear bv5
          refine hK _ _ (.inr (D5.less (List.sublist_cons_self _ _))) ?_
          clear hK K
          try simp only [Act.put, List.setIfInBounds_toArray, List.set_cons_zero, List.set_cons_succ]
          refine walkS_only (i := 10) (o := ⟨some 77, _, _, _, _, _⟩) (by kernel_rfl) rfl rfl fun K hK => ?_
          go_simp
          refine (C77.out _).mono ?_
          rintro e v6 ⟨rfl, bv6⟩
          have D6 := D5.call bv6
          clear bv6
          refine hK _ _ (.inr (D6.less (List.sublist_cons_self _ _))) ?_
          clear hK K
          try simp only [Act.put, List.setIfInBounds_toArray, List.set_cons_zero, List.set_cons_succ]
          refine walkS_only (i := 13) (o := ⟨some 80, _, _, _, _, _⟩) (by kernel_rfl) rfl rfl fun K hK => ?_
          go_simp
          refine (C80.out _).mono ?_
          rintro e v7 ⟨rfl, bv7⟩
          have D7 := D6.call bv7
          clear bv7
          refine hK _ _ (.inr (D7.less (List.sublist_cons_self _ _))) ?_
          clear hK K
          try simp only [Act.put, List.setIfInBounds_toArray, List.set_cons_zero, List.set_cons_succ]
          refine walkS_only (i := 14) (o := ⟨some 81, _, _, _, _, _⟩) (by kernel_rfl) rfl rfl fun K hK => ?_
          go_simp
          refine (C81.out _).mono ?_
          rintro e v8 ⟨rfl, bv8⟩
          have D8 := D7.call bv8
          clear bv8
          refine hK _ _ (.inr (D8.less (List.sublist_cons_self _ _))) ?_
          clear hK K
          try simp only [Act.put, List.setIfInBounds_toArray, List.set_cons_zero, List.set_cons_succ]
          refine walkS_only (i := 16) (o := ⟨none, _, _, _, _, _⟩) (by kernel_rfl) rfl rfl fun K hK => ?_
          refine wp_store_row 33 (.tmp 23) (.tmp 81) rfl g14 33 (natsC (zero16)) (natsC (digR 16 v81)) rfl rfl (D8.row 0 rfl) (natsC_same zero16_length (digR_length 16 _)) (sizeN Try.sz16 _ (digR_length 16 _)) (natsC_one _) ?_
          intro v9 pv9
          have T33 := D8.put 0 rfl pv9
          simp only [List.set_cons_zero] at T33
          exact hK _ _ (.inr (T33.less (List.sublist_cons_self _ _))) (walkS_done (by kernel_rfl) (HGO g14 v9 T33) _)
      · refine wp_alloc_row 33 rfl (natsC (zero16)) Try.zero16 fun g14 v1 nv1 => hK _ _ (.inr ?_) ?_
        · exact (D0.new nv1).less (List.sublist_cons_self _ _)
        have D1 := D0.new nv1
        clear hK K nv1
        simp only [Act.put, List.setIfInBounds_toArray, List.set_cons_zero, List.set_cons_succ]
        refine walkS_only (i := 2) (o := ⟨some 69, _, _, _, _, _⟩) (by kernel_rfl) rfl rfl fun K hK => ?_
        go_simp
        refine (C69.out _).mono ?_
        rintro e v2 ⟨rfl, bv2⟩
        have D2 := D1.call bv2
        clear bv2
        refine hK _ _ (.inr (D2.less (List.sublist_cons_self _ _))) ?_
        clear hK K
        try simp only [Act.put, List.setIfInBounds_toArray, List.set_cons_zero, List.set_cons_succ]
        refine walkS_only (i := 4) (o := ⟨some 71, _, _, _, _, _⟩) (by kernel_rfl) rfl rfl fun K hK => ?_
        go_simp
        refine (C71.out _).mono ?_
        rintro e v3 ⟨rfl, bv3⟩
        have D3 := D2.call bv3
        clear bv3
        refine hK _ _ (.inr (D3.less (List.sublist_cons_self _ _))) ?_
        clear hK K
        try simp only [Act.put, List.setIfInBounds_toArray, List.set_cons_zero, List.set_cons_succ]
        refine walkS_only (i := 7) (o := ⟨some 74, _, _, _, _, _⟩) (by kernel_rfl) rfl rfl fun K hK => ?_
        go_simp
        refine (C74.out _).mono ?_
        rintro e v4 ⟨rfl, bv4⟩
        have D4 := D3.call bv4
        clear bv4
        refine hK _ _ (.inr (D4.less (List.sublist_cons_self _ _))) ?_
        clear hK K
        try simp only [Act.put, List.setIfInBounds_toArray, List.set_cons_zero, List.set_cons_succ]
        refine walkS_only (i := 9) (o := ⟨some 76, _, _, _, _, _⟩) (by kernel_rfl) rfl rfl fun K hK => ?_
        go_simp
        refine (C76.out _).mono ?_
        rintro e v5 ⟨rfl, bv5⟩
        have D5 := D4.call bv5
        clear bv5
        refine hK _ _ (.inr (D5.less (List.sublist_cons_self _ _))) ?_
        clear hK K
        try simp only [Act.put, List.setIfInBounds_toArray, List.set_cons_zero, List.set_cons_succ]
        refine walkS_only (i := 10) (o := ⟨some 77, _, _, _, _, _⟩) (by kernel_rfl) rfl rfl fun K hK => ?_
        go_simp
        refine (C77.out _).mono ?_
        rintro e v6 ⟨rfl, bv6⟩
        have D6 := D5.call bv6
        clear bv6
        refine hK _ _ (.inr (D6.less (List.sublist_cons_self _ _))) ?_
        clear hK K
        try simp only [Act.put, List.setIfInBounds_toArray, List.set_cons_zero, List.set_cons_succ]
        refine walkS_only (i := 13) (o := ⟨some 80, _, _, _, _, _⟩) (by kernel_rfl) rfl rfl fun K hK => ?_
        go_simp
        refine (C80.out _).mono ?_
        rintro e v7 ⟨rfl, bv7⟩
        have D7 := D6.call bv7
        clear bv7
        refine hK _ _ (.inr (D7.less (List.sublist_cons_self _ _))) ?_
        clear hK K
        try simp only [Act.put, List.setIfInBounds_toArray, List.set_cons_zero, List.set_cons_succ]
        refine walkS_only (i := 14) (o := ⟨some 81, _, _, _, _, _⟩) (by kernel_rfl) rfl rfl fun K hK => ?_
        go_simp
        refine (C81.out _).mono ?_
        rintro e v8 ⟨rfl, bv8⟩
        have D8 := D7.call bv8
        clear bv8
        refine hK _ _ (.inr (D8.less (List.sublist_cons_self _ _))) ?_
        clear hK K
        try simp only [Act.put, List.setIfInBounds_toArray, List.set_cons_zero, List.set_cons_succ]
        refine walkS_only (i := 16) (o := ⟨none, _, _, _, _, _⟩) (by kernel_rfl) rfl rfl fun K hK => ?_
        refine wp_store_row 33 (.tmp 23) (.tmp 81) rfl g14 33 (natsC (zero16)) (natsC (digR 16 v81)) rfl rfl (D8.row 0 rfl) (natsC_same zero16_length (digR_length 16 _)) (sizeN Try.sz16 _ (digR_length 16 _)) (natsC_one _) ?_
        intro v9 pv9
        have T33 := D8.put 0 rfl pv9
        simp only [List.set_cons_zero] at T33
        exact hK _ _ (.inr (T33.less (List.sublist_cons_self _ _))) (walkS_done (by kernel_rfl) (HGO g14 v9 T33) _)
    clear D0
    intro g14 w33 T33
    have E33 := Lib.hid T33
    clear T33 E32
    go_wp2_with (first
      | (with_reducible refine wpE_load (o := ⟨some 82, _, _, _, _, _⟩) rfl 29 (.tmp 16) rfl 7 g7 29 (natsC (elemL ni)) _ (by with_unfolding_all rfl) (by with_unfolding_all rfl) Try.underlying29 rfl (sizeN Try.sz5e _ (elemL_length _)) E33.out ?_)
      | (with_reducible refine wpE_load (o := ⟨some 83, _, _, _, _, _⟩) rfl 29 (.tmp 17) rfl 6 g8 29 (natsC (elemL nj)) _ (by with_unfolding_all rfl) (by with_unfolding_all rfl) Try.underlying29 rfl (sizeN Try.sz5e _ (elemL_length _)) E33.out ?_))
    refine (C84.out _).mono ?_
    rintro e w34 ⟨rfl, b34⟩
    have E34 := Lib.hid (E33.out.call b34)
    clear b34 E33
    go_wp2_with (first
      | (with_reducible refine wpE_load (o := ⟨some 86, _, _, _, _, _⟩) rfl 29 (.tmp 16) rfl 7 g7 29 (natsC (elemL ni)) _ (by with_unfolding_all rfl) (by with_unfolding_all rfl) Try.underlying29 rfl (sizeN Try.sz5e _ (elemL_length _)) E34.out ?_)
      | (with_reducible refine wpE_load (o := ⟨some 87, _, _, _, _, _⟩) rfl 29 (.tmp 17) rfl 6 g8 29 (natsC (elemL nj)) _ (by with_unfolding_all rfl) (by with_unfolding_all rfl) Try.underlying29 rfl (sizeN Try.sz5e _ (elemL_length _)) E34.out ?_))
    refine (C88.out _).mono ?_
    rintro e w35 ⟨rfl, b35⟩
    have E35 := Lib.hid (E34.out.call b35)
    clear b35 E34
    go_wp2_with (first
      | ((with_reducible refine wpE_alloc (o := ⟨some 25, _, _, _, _, _⟩) rfl 29 rfl (natsC (zero5)) Try.zero5e E35.out ?_); intro g15 w36 T36; have E36 := Lib.hid T36; clear T36)
      | ((with_reducible refine wpE_store (o := ⟨none, _, _, _, _, _⟩) rfl 29 (.tmp 25) (.tmp 88) rfl 0 g15 29 (natsC (zero5)) (natsC (elemL nj)) (by with_unfolding_all rfl) (by with_unfolding_all rfl) (by with_unfolding_all rfl) (natsC_same zero5_length (elemL_length _)) (sizeN Try.sz5e _ (elemL_length _)) (natsC_one _) E36.out ?_); intro w37 T37; simp only [List.set_cons_zero] at T37; have E37 := Lib.hid T37; clear T37)
      | (with_reducible refine wpE_load (o := ⟨some 89, _, _, _, _, _⟩) rfl 33 (.tmp 12) rfl 10 g5 33 (natsC (digR 16 nj)) _ (by with_unfolding_all rfl) (by with_unfolding_all rfl) Try.underlying33 rfl (sizeN Try.sz16 _ (digR_length 16 _)) E37.out ?_)
      | ((with_reducible refine wpE_alloc (o := ⟨some 26, _, _, _, _, _⟩) rfl 33 rfl (natsC (zero16)) Try.zero16 E37.out ?_); intro g16 w38 T38; have E38 := Lib.hid T38; clear T38)
      | ((with_reducible refine wpE_store (o := ⟨none, _, _, _, _, _⟩) rfl 33 (.tmp 26) (.tmp 89) rfl 0 g16 33 (natsC (zero16)) (natsC (digR 16 nj)) (by with_unfolding_all rfl) (by with_unfolding_all rfl) (by with_unfolding_all rfl) (natsC_same zero16_length (digR_length 16 _)) (sizeN Try.sz16 _ (digR_length 16 _)) (natsC_one _) E38.out ?_); intro w39 T39; simp only [List.set_cons_zero] at T39; have E39 := Lib.hid T39; clear T39))
    refine region_class _ E39.out.drew (by kernel_rfl) (by kernel_rfl) ?_
    refine q_run (by rfl) (v := .bool true) (fun W _ => by go_simp) ?_
    simp only [Act.put, List.setIfInBounds_toArray, List.set_cons_zero, List.set_cons_succ]
    refine q_run (by rfl) (v := .bool true) (fun W _ => by go_simp) ?_
    simp only [Act.put, List.setIfInBounds_toArray, List.set_cons_zero, List.set_cons_succ]
    refine qE_load (by rfl) _ (.tmp 19) rfl 6 g10 29 (natsC (elemL v51)) _ rfl rfl Try.underlying29 rfl (sizeN Try.sz5e _ (elemL_length _)) ?_
    simp only [Act.put, List.setIfInBounds_toArray, List.set_cons_zero, List.set_cons_succ]
    refine q_call (by rfl) 16 _ (fun W => by go_simp) (fun W hW => hW.calls (C95.out W)) ?_
    simp only [Act.put, List.setIfInBounds_toArray, List.set_cons_zero, List.set_cons_succ]
    refine qE_load (by rfl) _ (.tmp 10) rfl 12 g4 33 (natsC (digR 16 ni)) _ rfl rfl Try.underlying33 rfl (sizeN Try.sz16 _ (digR_length 16 _)) ?_
    simp only [Act.put, List.setIfInBounds_toArray, List.set_cons_zero, List.set_cons_succ]
    refine qE_load (by rfl) _ (.tmp 12) rfl 11 g5 33 (natsC (digR 16 nj)) _ rfl rfl Try.underlying33 rfl (sizeN Try.sz16 _ (digR_length 16 _)) ?_
    simp only [Act.put, List.setIfInBounds_toArray, List.set_cons_zero, List.set_cons_succ]
    refine q_call (by rfl) 23 _ (fun W => by go_simp) (fun W hW => hW.calls (C69.out W)) ?_
    simp only [Act.put, List.setIfInBounds_toArray, List.set_cons_zero, List.set_cons_succ]
    refine q_call (by rfl) 17 _ (fun W => by go_simp) (fun W hW => hW.calls (C99.out W)) ?_
    simp only [Act.put, List.setIfInBounds_toArray, List.set_cons_zero, List.set_cons_succ]
    refine q_run (by rfl) (v := .bool true) (fun W _ => by have hq := Q100.out; have hg := Try.eqGuardKey; go_simp) ?_
    simp only [Act.put, List.setIfInBounds_toArray, List.set_cons_zero, List.set_cons_succ]
    refine q_run (by rfl) (v := .bool true) (fun W _ => by go_simp) ?_
    simp only [Act.put, List.setIfInBounds_toArray, List.set_cons_zero, List.set_cons_succ]
    refine q_run (by rfl) (v := .bool true) (fun W _ => by go_simp) ?_
    simp only [Act.put, List.setIfInBounds_toArray, List.set_cons_zero, List.set_cons_succ]
    refine qE_load (by rfl) _ (.tmp 20) rfl 5 g11 29 (natsC (elemL v54)) _ rfl rfl Try.underlying29 rfl (sizeN Try.sz5e _ (elemL_length _)) ?_
    simp only [Act.put, List.setIfInBounds_toArray, List.set_cons_zero, List.set_cons_succ]
    refine q_call (by rfl) 16 _ (fun W => by go_simp) (fun W hW => hW.calls (C104.out W)) ?_
    simp only [Act.put, List.setIfInBounds_toArray, List.set_cons_zero, List.set_cons_succ]
    refine qE_load (by rfl) _ (.tmp 10) rfl 12 g4 33 (natsC (digR 16 ni)) _ rfl rfl Try.underlying33 rfl (sizeN Try.sz16 _ (digR_length 16 _)) ?_
    simp only [Act.put, List.setIfInBounds_toArray, List.set_cons_zero, List.set_cons_succ]
    refine qE_load (by rfl) _ (.tmp 12) rfl 11 g5 33 (natsC (digR 16 nj)) _ rfl rfl Try.underlying33 rfl (sizeN Try.sz16 _ (digR_length 16 _)) ?_
    simp only [Act.put, List.setIfInBounds_toArray, List.set_cons_zero, List.set_cons_succ]
    refine q_call (by rfl) 25 _ (fun W => by go_simp) (fun W hW => hW.calls (C74.out W)) ?_
    simp only [Act.put, List.setIfInBounds_toArray, List.set_cons_zero, List.set_cons_succ]
    refine q_call (by rfl) 17 _ (fun W => by go_simp) (fun W hW => hW.calls (C108.out W)) ?_
    simp only [Act.put, List.setIfInBounds_toArray, List.set_cons_zero, List.set_cons_succ]
    refine q_run (by rfl) (v := .bool true) (fun W _ => by have hq := Q109.out; have hg := Try.eqGuardKey; go_simp) ?_
    simp only [Act.put, List.setIfInBounds_toArray, List.set_cons_zero, List.set_cons_succ]
    refine q_run (by rfl) (v := .bool true) (fun W _ => by go_simp) ?_
    simp only [Act.put, List.setIfInBounds_toArray, List.set_cons_zero, List.set_cons_succ]
    refine q_run (by rfl) (v := .bool true) (fun W _ => by go_simp) ?_
    simp only [Act.put, List.setIfInBounds_toArray, List.set_cons_zero, List.set_cons_succ]
    refine qE_load (by rfl) _ (.tmp 21) rfl 4 g12 29 (natsC (elemL v57)) _ rfl rfl Try.underlying29 rfl (sizeN Try.sz5e _ (elemL_length _)) ?_
    simp only [Act.put, List.setIfInBounds_toArray, List.set_cons_zero, List.set_cons_succ]
    refine q_call (by rfl) 16 _ (fun W => by go_simp) (fun W hW => hW.calls (C113.out W)) ?_
    simp only [Act.put, List.setIfInBounds_toArray, List.set_cons_zero, List.set_cons_succ]
    refine qE_load (by rfl) _ (.tmp 10) rfl 12 g4 33 (natsC (digR 16 ni)) _ rfl rfl Try.underlying33 rfl (sizeN Try.sz16 _ (digR_length 16 _)) ?_
    simp only [Act.put, List.setIfInBounds_toArray, List.set_cons_zero, List.set_cons_succ]
    refine qE_load (by rfl) _ (.tmp 12) rfl 11 g5 33 (natsC (digR 16 nj)) _ rfl rfl Try.underlying33 rfl (sizeN Try.sz16 _ (digR_length 16 _)) ?_
    simp only [Act.put, List.setIfInBounds_toArray, List.set_cons_zero, List.set_cons_succ]
    refine q_call (by rfl) 24 _ (fun W => by go_simp) (fun W hW => hW.calls (C80.out W)) ?_
    simp only [Act.put, List.setIfInBounds_toArray, List.set_cons_zero, List.set_cons_succ]
    refine q_call (by rfl) 17 _ (fun W => by go_simp) (fun W hW => hW.calls (C117.out W)) ?_
    simp only [Act.put, List.setIfInBounds_toArray, List.set_cons_zero, List.set_cons_succ]
    refine q_run (by rfl) (v := .bool true) (fun W _ => by have hq := Q118.out; have hg := Try.eqGuardKey; go_simp) ?_
    simp only [Act.put, List.setIfInBounds_toArray, List.set_cons_zero, List.set_cons_succ]
    refine q_run (by rfl) (v := .bool true) (fun W _ => by go_simp) ?_
    simp only [Act.put, List.setIfInBounds_toArray, List.set_cons_zero, List.set_cons_succ]
    refine q_run (by rfl) (v := .bool true) (fun W _ => by go_simp) ?_
    simp only [Act.put, List.setIfInBounds_toArray, List.set_cons_zero, List.set_cons_succ]
    refine qE_load (by rfl) _ (.tmp 22) rfl 3 g13 29 (natsC (elemL v66)) _ rfl rfl Try.underlying29 rfl (sizeN Try.sz5e _ (elemL_length _)) ?_
    simp only [Act.put, List.setIfInBounds_toArray, List.set_cons_zero, List.set_cons_succ]
    refine q_call (by rfl) 16 _ (fun W => by go_simp) (fun W hW => hW.calls (C122.out W)) ?_
    simp only [Act.put, List.setIfInBounds_toArray, List.set_cons_zero, List.set_cons_succ]
    refine qE_load (by rfl) _ (.tmp 23) rfl 2 g14 33 (natsC (digR 16 v81)) _ rfl rfl Try.underlying33 rfl (sizeN Try.sz16 _ (digR_length 16 _)) ?_
    simp only [Act.put, List.setIfInBounds_toArray, List.set_cons_zero, List.set_cons_succ]
    refine q_call (by rfl) 17 _ (fun W => by go_simp) (fun W hW => hW.calls (C124.out W)) ?_
    simp only [Act.put, List.setIfInBounds_toArray, List.set_cons_zero, List.set_cons_succ]
    refine q_run (by rfl) (v := .bool true) (fun W _ => by have hq := Q125.out; have hg := Try.eqGuardKey; go_simp) ?_
    simp only [Act.put, List.setIfInBounds_toArray, List.set_cons_zero, List.set_cons_succ]
    refine q_run (by rfl) (v := .bool true) (fun W _ => by go_simp) ?_
    simp only [Act.put, List.setIfInBounds_toArray, List.set_cons_zero, List.set_cons_succ]
    refine q_run (by rfl) (v := .bool true) (fun W _ => by go_simp) ?_
    simp only [Act.put, List.setIfInBounds_toArray, List.set_cons_zero, List.set_cons_succ]
    refine q_run (by rfl) (v := .bool r84) (fun W _ => by go_simp) ?_
    simp only [Act.put, List.setIfInBounds_toArray, List.set_cons_zero, List.set_cons_succ]
    refine qE_load (by rfl) _ (.tmp 10) rfl 12 g4 33 (natsC (digR 16 ni)) _ rfl rfl Try.underlying33 rfl (sizeN Try.sz16 _ (digR_length 16 _)) ?_
    simp only [Act.put, List.setIfInBounds_toArray, List.set_cons_zero, List.set_cons_succ]
    refine qE_load (by rfl) _ (.tmp 12) rfl 11 g5 33 (natsC (digR 16 nj)) _ rfl rfl Try.underlying33 rfl (sizeN Try.sz16 _ (digR_length 16 _)) ?_
    simp only [Act.put, List.setIfInBounds_toArray, List.set_cons_zero, List.set_cons_succ]
    refine q_run (by rfl) (v := .bool r84) (fun W _ => by have hq := Q131.out; have hg := Try.eqGuardNum; go_simp) ?_
    simp only [Act.put, List.setIfInBounds_toArray, List.set_cons_zero, List.set_cons_succ]
    refine q_run (by rfl) (v := .bool true) (fun W _ => by go_simp) ?_
    simp only [Act.put, List.setIfInBounds_toArray, List.set_cons_zero, List.set_cons_succ]
    refine q_run (by rfl) (v := .bool true) (fun W _ => by go_simp) ?_
    simp only [Act.put, List.setIfInBounds_toArray, List.set_cons_zero, List.set_cons_succ]
    refine q_run (by rfl) (v := .bool true) (fun W _ => by go_simp) ?_
    simp only [Act.put, List.setIfInBounds_toArray, List.set_cons_zero, List.set_cons_succ]
    refine qE_load (by rfl) _ (.tmp 25) rfl 1 g15 29 (natsC (elemL nj)) _ rfl rfl Try.underlying29 rfl (sizeN Try.sz5e _ (elemL_length _)) ?_
    simp only [Act.put, List.setIfInBounds_toArray, List.set_cons_zero, List.set_cons_succ]
    refine q_call (by rfl) 16 _ (fun W => by go_simp) (fun W hW => hW.calls (C136.out W)) ?_
    simp only [Act.put, List.setIfInBounds_toArray, List.set_cons_zero, List.set_cons_succ]
    refine qE_load (by rfl) _ (.tmp 26) rfl 0 g16 33 (natsC (digR 16 nj)) _ rfl rfl Try.underlying33 rfl (sizeN Try.sz16 _ (digR_length 16 _)) ?_
    simp only [Act.put, List.setIfInBounds_toArray, List.set_cons_zero, List.set_cons_succ]
    refine q_call (by rfl) 17 _ (fun W => by go_simp) (fun W hW => hW.calls (C138.out W)) ?_
    simp only [Act.put, List.setIfInBounds_toArray, List.set_cons_zero, List.set_cons_succ]
    refine q_run (by rfl) (v := .bool true) (fun W _ => by have hq := Q139.out; have hg := Try.eqGuardKey; go_simp) ?_
    simp only [Act.put, List.setIfInBounds_toArray, List.set_cons_zero, List.set_cons_succ]
    refine q_run (by rfl) (v := .bool true) (fun W _ => by go_simp) ?_
    simp only [Act.put, List.setIfInBounds_toArray, List.set_cons_zero, List.set_cons_succ]
    refine q_run (by rfl) (v := .bool true) (fun W _ => by go_simp) ?_
    simp only [Act.put, List.setIfInBounds_toArray, List.set_cons_zero, List.set_cons_succ]
    refine wpQuiet_nil ?_
    intro w40 T40
    have E40 := Lib.hid T40
    clear T40 E39
    go_wp2_with fail
    go_ret
    exact E40.out.ret _
  · have C27 : Hid (∀ w, Calls Try.prog 11 #[] w (RetV w (.bool true))) := fun w => awake_any w
    obtain ⟨oi, hoi⟩ : ∃ r, r = decide (ofLowB i < pF) := ⟨_, rfl⟩
    have C30 : Hid (∀ w, Calls Try.prog 13 #[.agg (keyC (i))] w (RetV w (.tuple #[.agg (natsC (digR 16 ni)), .bool oi]))) := by rw [hni, hoi]; exact fun w => refOf_any i hi w
    obtain ⟨oj, hoj⟩ : ∃ r, r = decide (ofLowB j < pF) := ⟨_, rfl⟩
    have C35 : Hid (∀ w, Calls Try.prog 13 #[.agg (keyC (j))] w (RetV w (.tuple #[.agg (natsC (digR 16 nj)), .bool oj]))) := by rw [hnj, hoj]; exact fun w => refOf_any j hj w
    obtain ⟨ok, hok⟩ : ∃ r, r = decide (ofLowB k < pF) := ⟨_, rfl⟩
    have C40 : Hid (∀ w, Calls Try.prog 13 #[.agg (keyC (k))] w (RetV w (.tuple #[.agg (natsC (digR 16 nk)), .bool ok]))) := by rw [hnk, hok]; exact fun w => refOf_any k hk w
    have C44 : Hid (∀ w, Calls Try.prog 19 #[.agg (keyC (i))] w (RetV w (.agg (natsC (elemL ni))))) := by rw [hni]; exact fun w => of_any i hi w
    have C46 : Hid (∀ w, Calls Try.prog 19 #[.agg (keyC (j))] w (RetV w (.agg (natsC (elemL nj))))) := by rw [hnj]; exact fun w => of_any j hj w
    have C48 : Hid (∀ w, Calls Try.prog 19 #[.agg (keyC (k))] w (RetV w (.agg (natsC (elemL nk))))) := by rw [hnk]; exact fun w => of_any k hk w
    obtain ⟨v51, hv51⟩ : ∃ v, v = (ni + nj) % pF := ⟨_, rfl⟩
    have bv51 : v51 < pF := by rw [hv51]; exact modF_lt _
    have C51 : Hid (∀ w, Calls Try.prog 20 #[.agg (natsC (elemL ni)), .agg (natsC (elemL nj))] w (RetV w (.agg (natsC (elemL v51))))) := by rw [hv51]; exact fun w => Add_any ni nj bni bnj w
    obtain ⟨v54, hv54⟩ : ∃ v, v = subF ni nj := ⟨_, rfl⟩
    have bv54 : v54 < pF := by rw [hv54]; exact subF_lt _ _
    have C54 : Hid (∀ w, Calls Try.prog 21 #[.agg (natsC (elemL ni)), .agg (natsC (elemL nj))] w (RetV w (.agg (natsC (elemL v54))))) := by rw [hv54]; exact fun w => Sub_any ni nj bni bnj w
    obtain ⟨v57, hv57⟩ : ∃ v, v = ni * nj % pF := ⟨_, rfl⟩
    have bv57 : v57 < pF := by rw [hv57]; exact modF_lt _
    have C57 : Hid (∀ w, Calls Try.prog 22 #[.agg (natsC (elemL ni)), .agg (natsC (elemL nj))] w (RetV w (.agg (natsC (elemL v57))))) := by rw [hv57]; exact fun w => Mul_any ni nj bni bnj w
    obtain ⟨v60, hv60⟩ : ∃ v, v = subF v51 nk := ⟨_, rfl⟩
    have bv60 : v60 < pF := by rw [hv60]; exact subF_lt _ _
    have C60 : Hid (∀ w, Calls Try.prog 21 #[.agg (natsC (elemL v51)), .agg (natsC (elemL nk))] w (RetV w (.agg (natsC (elemL v60))))) := by rw [hv60]; exact fun w => Sub_any v51 nk bv51 bnk w
    obtain ⟨v63, hv63⟩ : ∃ v, v = (v54 + nk) % pF := ⟨_, rfl⟩
    have bv63 : v63 < pF := by rw [hv63]; exact modF_lt _
    have C63 : Hid (∀ w, Calls Try.prog 20 #[.agg (natsC (elemL v54)), .agg (natsC (elemL nk))] w (RetV w (.agg (natsC (elemL v63))))) := by rw [hv63]; exact fun w => Add_any v54 nk bv54 bnk w
    obtain ⟨v64, hv64⟩ : ∃ v, v = v60 * v63 % pF := ⟨_, rfl⟩
    have bv64 : v64 < pF := by rw [hv64]; exact modF_lt _
    have C64 : Hid (∀ w, Calls Try.prog 22 #[.agg (natsC (elemL v60)), .agg (natsC (elemL v63))] w (RetV w (.agg (natsC (elemL v64))))) := by rw [hv64]; exact fun w => Mul_any v60 v63 bv60 bv63 w
    obtain ⟨v66, hv66⟩ : ∃ v, v = (v64 + v57) % pF := ⟨_, rfl⟩
    have bv66 : v66 < pF := by rw [hv66]; exact modF_lt _
    have C66 : Hid (∀ w, Calls Try.prog 20 #[.agg (natsC (elemL v64)), .agg (natsC (elemL v57))] w (RetV w (.agg (natsC (elemL v66))))) := by rw [hv66]; exact fun w => Add_any v64 v57 bv64 bv57 w
    obtain ⟨v69, hv69⟩ : ∃ v, v = (ni + nj) % pF := ⟨_, rfl⟩
    have bv69 : v69 < pF := by rw [hv69]; exact modF_lt _
    have C69 : Hid (∀ w, Calls Try.prog 23 #[.agg (natsC (digR 16 ni)), .agg (natsC (digR 16 nj))] w (RetV w (.agg (natsC (digR 16 v69))))) := by rw [hv69]; exact fun w => refAdd_any ni nj bni bnj w
    obtain ⟨v71, hv71⟩ : ∃ v, v = subF v69 nk := ⟨_, rfl⟩
    have bv71 : v71 < pF := by rw [hv71]; exact subF_lt _ _
    have C71 : Hid (∀ w, Calls Try.prog 25 #[.agg (natsC (digR 16 v69)), .agg (natsC (digR 16 nk))] w (RetV w (.agg (natsC (digR 16 v71))))) := by rw [hv71]; exact fun w => refSub_any v69 nk bv69 bnk w
    obtain ⟨v74, hv74⟩ : ∃ v, v = subF ni nj := ⟨_, rfl⟩
    have bv74 : v74 < pF := by rw [hv74]; exact subF_lt _ _
    have C74 : Hid (∀ w, Calls Try.prog 25 #[.agg (natsC (digR 16 ni)), .agg (natsC (digR 16 nj))] w (RetV w (.agg (natsC (digR 16 v74))))) := by rw [hv74]; exact fun w => refSub_any ni nj bni bnj w
    obtain ⟨v76, hv76⟩ : ∃ v, v = (v74 + nk) % pF := ⟨_, rfl⟩
    have bv76 : v76 < pF := by rw [hv76]; exact modF_lt _
    have C76 : Hid (∀ w, Calls Try.prog 23 #[.agg (natsC (digR 16 v74)), .agg (natsC (digR 16 nk))] w (RetV w (.agg (natsC (digR 16 v76))))) := by rw [hv76]; exact fun w => refAdd_any v74 nk bv74 bnk w
    obtain ⟨v77, hv77⟩ : ∃ v, v = v71 * v76 % pF := ⟨_, rfl⟩
    have bv77 : v77 < pF := by rw [hv77]; exact modF_lt _
    have C77 : Hid (∀ w, Calls Try.prog 24 #[.agg (natsC (digR 16 v71)), .agg (natsC (digR 16 v76))] w (RetV w (.agg (natsC (digR 16 v77))))) := by rw [hv77]; exact fun w => refMul_any v71 v76 bv71 bv76 w
    obtain ⟨v80, hv80⟩ : ∃ v, v = ni * nj % pF := ⟨_, rfl⟩
    have bv80 : v80 < pF := by rw [hv80]; exact modF_lt _
    have C80 : Hid (∀ w, Calls Try.prog 24 #[.agg (natsC (digR 16 ni)), .agg (natsC (digR 16 nj))] w (RetV w (.agg (natsC (digR 16 v80))))) := by rw [hv80]; exact fun w => refMul_any ni nj bni bnj w
    obtain ⟨v81, hv81⟩ : ∃ v, v = (v77 + v80) % pF := ⟨_, rfl⟩
    have bv81 : v81 < pF := by rw [hv81]; exact modF_lt _
    have C81 : Hid (∀ w, Calls Try.prog 23 #[.agg (natsC (digR 16 v77)), .agg (natsC (digR 16 v80))] w (RetV w (.agg (natsC (digR 16 v81))))) := by rw [hv81]; exact fun w => refAdd_any v77 v80 bv77 bv80 w
    obtain ⟨r84, hr84⟩ : ∃ r, r = (ni == nj) := ⟨_, rfl⟩
    have C84 : Hid (∀ w, Calls Try.prog 26 #[.agg (natsC (elemL ni)), .agg (natsC (elemL nj))] w (RetV w (.bool r84))) := by rw [hr84]; exact fun w => Equal_any ni nj bni bnj w
    have C88 : Hid (∀ w, Calls Try.prog 27 #[.bool true, .agg (natsC (elemL ni)), .agg (natsC (elemL nj))] w (RetV w (.agg (natsC (elemL ni))))) := fun w => Choose_any true ni nj bni bnj w
    obtain ⟨k95, hk95⟩ : ∃ v, v = lowB v51 32 := ⟨_, rfl⟩
    have Lk95 : Hid (k95.length = 32) := by show _ = _; rw [hk95]; exact lowB_length _ _
    have C95 : Hid (∀ w, Calls Try.prog 16 #[.agg (natsC (elemL v51))] w (RetV w (.agg (keyC (k95))))) := by rw [hk95]; exact fun w => Key_any v51 bv51 w
    obtain ⟨k99, hk99⟩ : ∃ v, v = lowB v69 32 := ⟨_, rfl⟩
    have Lk99 : Hid (k99.length = 32) := by show _ = _; rw [hk99]; exact lowB_length _ _
    have C99 : Hid (∀ w, Calls Try.prog 17 #[.agg (natsC (digR 16 v69))] w (RetV w (.agg (keyC (k99))))) := by rw [hk99]; exact fun w => refKey_any v69 w
    have Q100 : Hid (∀ W, (Op.equalIn 10000 23 (.agg (keyC k95)) (.agg (keyC k99))).run Try.prog W = .ok true W) := fun W => by rw [Try.eqKeyIn k95 k99 Lk95.out Lk99.out W]; exact congrArg (fun v => Result.ok v W) (by rw [beq_iff_eq, hk95, hk99, hv51, hv69])
    obtain ⟨k104, hk104⟩ : ∃ v, v = lowB v54 32 := ⟨_, rfl⟩
    have Lk104 : Hid (k104.length = 32) := by show _ = _; rw [hk104]; exact lowB_length _ _
    have C104 : Hid (∀ w, Calls Try.prog 16 #[.agg (natsC (elemL v54))] w (RetV w (.agg (keyC (k104))))) := by rw [hk104]; exact fun w => Key_any v54 bv54 w
    obtain ⟨k108, hk108⟩ : ∃ v, v = lowB v74 32 := ⟨_, rfl⟩
    have Lk108 : Hid (k108.length = 32) := by show _ = _; rw [hk108]; exact lowB_length _ _
    have C108 : Hid (∀ w, Calls Try.prog 17 #[.agg (natsC (digR 16 v74))] w (RetV w (.agg (keyC (k108))))) := by rw [hk108]; exact fun w => refKey_any v74 w
    have Q109 : Hid (∀ W, (Op.equalIn 10000 23 (.agg (keyC k104)) (.agg (keyC k108))).run Try.prog W = .ok true W) := fun W => by rw [Try.eqKeyIn k104 k108 Lk104.out Lk108.out W]; exact congrArg (fun v => Result.ok v W) (by rw [beq_iff_eq, hk104, hk108, hv54, hv74])
    obtain ⟨k113, hk113⟩ : ∃ v, v = lowB v57 32 := ⟨_, rfl⟩
    have Lk113 : Hid (k113.length = 32) := by show _ = _; rw [hk113]; exact lowB_length _ _
    have C113 : Hid (∀ w, Calls Try.prog 16 #[.agg (natsC (elemL v57))] w (RetV w (.agg (keyC (k113))))) := by rw [hk113]; exact fun w => Key_any v57 bv57 w
    obtain ⟨k117, hk117⟩ : ∃ v, v = lowB v80 32 := ⟨_, rfl⟩
    have Lk117 : Hid (k117.length = 32) := by show _ = _; rw [hk117]; exact lowB_length _ _
    have C117 : Hid (∀ w, Calls Try.prog 17 #[.agg (natsC (digR 16 v80))] w (RetV w (.agg (keyC (k117))))) := by rw [hk117]; exact fun w => refKey_any v80 w
    have Q118 : Hid (∀ W, (Op.equalIn 10000 23 (.agg (keyC k113)) (.agg (keyC k117))).run Try.prog W = .ok true W) := fun W => by rw [Try.eqKeyIn k113 k117 Lk113.out Lk117.out W]; exact congrArg (fun v => Result.ok v W) (by rw [beq_iff_eq, hk113, hk117, hv57, hv80])
    obtain ⟨k122, hk122⟩ : ∃ v, v = lowB v66 32 := ⟨_, rfl⟩
    have Lk122 : Hid (k122.length = 32) := by show _ = _; rw [hk122]; exact lowB_length _ _
    have C122 : Hid (∀ w, Calls Try.prog 16 #[.agg (natsC (elemL v66))] w (RetV w (.agg (keyC (k122))))) := by rw [hk122]; exact fun w => Key_any v66 bv66 w
    obtain ⟨k124, hk124⟩ : ∃ v, v = lowB v81 32 := ⟨_, rfl⟩
    have Lk124 : Hid (k124.length = 32) := by show _ = _; rw [hk124]; exact lowB_length _ _
    have C124 : Hid (∀ w, Calls Try.prog 17 #[.agg (natsC (digR 16 v81))] w (RetV w (.agg (keyC (k124))))) := by rw [hk124]; exact fun w => refKey_any v81 w
    have Q125 : Hid (∀ W, (Op.equalIn 10000 23 (.agg (keyC k122)) (.agg (keyC k124))).run Try.prog W = .ok true W) := fun W => by rw [Try.eqKeyIn k122 k124 Lk122.out Lk124.out W]; exact congrArg (fun v => Result.ok v W) (by rw [beq_iff_eq, hk122, hk124, hv66, hv64, hv60, hv51, hv63, hv54, hv57, hv81, hv77, hv71, hv69, hv76, hv74, hv80])
    have Q131 : Hid (∀ W, (Op.equalIn 10000 33 (.agg (natsC (digR 16 ni))) (.agg (natsC (digR 16 nj)))).run Try.prog W = .ok r84 W) := fun W => by rw [Try.eqNumIn _ _ (digR_length 16 _) (digR_length 16 _) W]; exact congrArg (fun v => Result.ok v W) (by rw [hr84]; exact num_eq ni nj bni bnj)
    obtain ⟨k136, hk136⟩ : ∃ v, v = lowB ni 32 := ⟨_, rfl⟩
    have Lk136 : Hid (k136.length = 32) := by show _ = _; rw [hk136]; exact lowB_length _ _
    have C136 : Hid (∀ w, Calls Try.prog 16 #[.agg (natsC (elemL ni))] w (RetV w (.agg (keyC (k136))))) := by rw [hk136]; exact fun w => Key_any ni bni w
    obtain ⟨k138, hk138⟩ : ∃ v, v = lowB ni 32 := ⟨_, rfl⟩
    have Lk138 : Hid (k138.length = 32) := by show _ = _; rw [hk138]; exact lowB_length _ _
    have C138 : Hid (∀ w, Calls Try.prog 17 #[.agg (natsC (digR 16 ni))] w (RetV w (.agg (keyC (k138))))) := by rw [hk138]; exact fun w => refKey_any ni w
    have Q139 : Hid (∀ W, (Op.equalIn 10000 23 (.agg (keyC k136)) (.agg (keyC k138))).run Try.prog W = .ok true W) := fun W => by rw [Try.eqKeyIn k136 k138 Lk136.out Lk138.out W]; exact congrArg (fun v => Result.ok v W) (by rw [beq_iff_eq, hk136, hk138])
    clear hni hnj hnk bni bnj bnk hi hj hk hoi hoj hok hv51 bv51 hv54 bv54 hv57 bv57 hv60 bv60 hv63 bv63 hv64 bv64 hv66 bv66 hv69 bv69 hv71 bv71 hv74 bv74 hv76 bv76 hv77 bv77 hv80 bv80 hv81 bv81 hr84 hk95 hk99 hk104 hk108 hk113 hk117 hk122 hk124 hk136 hk138
    have E0 := Lib.hid (Env.start w)
    go_enter Try.func4, Try.ntmps4
    go_wp2_with (first
      | ((with_reducible refine wpE_box (o := ⟨some 4, _, _, _, _, _⟩) rfl 23 (.tmp 0) rfl (keyC (i)) (by with_unfolding_all rfl) E0.out ?_); intro g1 w1 T1; have E1 := Lib.hid T1; clear T1)
      | ((with_reducible refine wpE_box (o := ⟨some 5, _, _, _, _, _⟩) rfl 23 (.tmp 1) rfl (keyC (j)) (by with_unfolding_all rfl) E1.out ?_); intro g2 w2 T2; have E2 := Lib.hid T2; clear T2)
      | ((with_reducible refine wpE_box (o := ⟨some 6, _, _, _, _, _⟩) rfl 23 (.tmp 2) rfl (keyC (k)) (by with_unfolding_all rfl) E2.out ?_); intro g3 w3 T3; have E3 := Lib.hid T3; clear T3))
    refine (C27.out _).mono ?_
    rintro e w4 ⟨rfl, b4⟩
    have E4 := Lib.hid (E3.out.call b4)
    clear b4 E3
    go_wp2_with (first
      | (with_reducible refine wpE_load (o := ⟨some 29, _, _, _, _, _⟩) rfl 23 (.tmp 4) rfl 2 g1 23 (keyC (i)) _ (by with_unfolding_all rfl) (by with_unfolding_all rfl) Try.underlying23 rfl (Try.sizeKey _ Li.out) E4.out ?_))
    refine (C30.out _).mono ?_
    rintro e w5 ⟨rfl, b5⟩
    have E5 := Lib.hid (E4.out.call b5)
    clear b5 E4
    go_wp2_with (first
      | ((with_reducible refine wpE_alloc (o := ⟨some 10, _, _, _, _, _⟩) rfl 33 rfl (natsC (zero16)) Try.zero16 E5.out ?_); intro g4 w6 T6; have E6 := Lib.hid T6; clear T6)
      | ((with_reducible refine wpE_store (o := ⟨none, _, _, _, _, _⟩) rfl 33 (.tmp 10) (.tmp 31) rfl 0 g4 33 (natsC (zero16)) (natsC (digR 16 ni)) (by with_unfolding_all rfl) (by with_unfolding_all rfl) (by with_unfolding_all rfl) (natsC_same zero16_length (digR_length 16 _)) (sizeN Try.sz16 _ (digR_length 16 _)) (natsC_one _) E6.out ?_); intro w7 T7; simp only [List.set_cons_zero] at T7; have E7 := Lib.hid T7; clear T7)
      | (with_reducible refine wpE_load (o := ⟨some 34, _, _, _, _, _⟩) rfl 23 (.tmp 5) rfl 2 g2 23 (keyC (j)) _ (by with_unfolding_all rfl) (by with_unfolding_all rfl) Try.underlying23 rfl (Try.sizeKey _ Lj.out) E7.out ?_))
    refine (C35.out _).mono ?_
    rintro e w8 ⟨rfl, b8⟩
    have E8 := Lib.hid (E7.out.call b8)
    clear b8 E7
    go_wp2_with (first
      | ((with_reducible refine wpE_alloc (o := ⟨some 12, _, _, _, _, _⟩) rfl 33 rfl (natsC (zero16)) Try.zero16 E8.out ?_); intro g5 w9 T9; have E9 := Lib.hid T9; clear T9)
      | ((with_reducible refine wpE_store (o := ⟨none, _, _, _, _, _⟩) rfl 33 (.tmp 12) (.tmp 36) rfl 0 g5 33 (natsC (zero16)) (natsC (digR 16 nj)) (by with_unfolding_all rfl) (by with_unfolding_all rfl) (by with_unfolding_all rfl) (natsC_same zero16_length (digR_length 16 _)) (sizeN Try.sz16 _ (digR_length 16 _)) (natsC_one _) E9.out ?_); intro w10 T10; simp only [List.set_cons_zero] at T10; have E10 := Lib.hid T10; clear T10)
      | (with_reducible refine wpE_load (o := ⟨some 39, _, _, _, _, _⟩) rfl 23 (.tmp 6) rfl 2 g3 23 (keyC (k)) _ (by with_unfolding_all rfl) (by with_unfolding_all rfl) Try.underlying23 rfl (Try.sizeKey _ Lk.out) E10.out ?_))
    refine (C40.out _).mono ?_
    rintro e w11 ⟨rfl, b11⟩
    have E11 := Lib.hid (E10.out.call b11)
    clear b11 E10
    go_wp2_with (first
      | ((with_reducible refine wpE_alloc (o := ⟨some 14, _, _, _, _, _⟩) rfl 33 rfl (natsC (zero16)) Try.zero16 E11.out ?_); intro g6 w12 T12; have E12 := Lib.hid T12; clear T12)
      | ((with_reducible refine wpE_store (o := ⟨none, _, _, _, _, _⟩) rfl 33 (.tmp 14) (.tmp 41) rfl 0 g6 33 (natsC (zero16)) (natsC (digR 16 nk)) (by with_unfolding_all rfl) (by with_unfolding_all rfl) (by with_unfolding_all rfl) (natsC_same zero16_length (digR_length 16 _)) (sizeN Try.sz16 _ (digR_length 16 _)) (natsC_one _) E12.out ?_); intro w13 T13; simp only [List.set_cons_zero] at T13; have E13 := Lib.hid T13; clear T13)
      | (with_reducible refine wpE_load (o := ⟨some 43, _, _, _, _, _⟩) rfl 23 (.tmp 4) rfl 5 g1 23 (keyC (i)) _ (by with_unfolding_all rfl) (by with_unfolding_all rfl) Try.underlying23 rfl (Try.sizeKey _ Li.out) E13.out ?_))
    refine (C44.out _).mono ?_
    rintro e w14 ⟨rfl, b14⟩
    have E14 := Lib.hid (E13.out.call b14)
    clear b14 E13
    go_wp2_with (first
      | ((with_reducible refine wpE_alloc (o := ⟨some 16, _, _, _, _, _⟩) rfl 29 rfl (natsC (zero5)) Try.zero5e E14.out ?_); intro g7 w15 T15; have E15 := Lib.hid T15; clear T15)
      | ((with_reducible refine wpE_store (o := ⟨none, _, _, _, _, _⟩) rfl 29 (.tmp 16) (.tmp 44) rfl 0 g7 29 (natsC (zero5)) (natsC (elemL ni)) (by with_unfolding_all rfl) (by with_unfolding_all rfl) (by with_unfolding_all rfl) (natsC_same zero5_length (elemL_length _)) (sizeN Try.sz5e _ (elemL_length _)) (natsC_one _) E15.out ?_); intro w16 T16; simp only [List.set_cons_zero] at T16; have E16 := Lib.hid T16; clear T16)
      | (with_reducible refine wpE_load (o := ⟨some 45, _, _, _, _, _⟩) rfl 23 (.tmp 5) rfl 5 g2 23 (keyC (j)) _ (by with_unfolding_all rfl) (by with_unfolding_all rfl) Try.underlying23 rfl (Try.sizeKey _ Lj.out) E16.out ?_))
    refine (C46.out _).mono ?_
    rintro e w17 ⟨rfl, b17⟩
    have E17 := Lib.hid (E16.out.call b17)
    clear b17 E16
    go_wp2_with (first
      | ((with_reducible refine wpE_alloc (o := ⟨some 17, _, _, _, _, _⟩) rfl 29 rfl (natsC (zero5)) Try.zero5e E17.out ?_); intro g8 w18 T18; have E18 := Lib.hid T18; clear T18)
      | ((with_reducible refine wpE_store (o := ⟨none, _, _, _, _, _⟩) rfl 29 (.tmp 17) (.tmp 46) rfl 0 g8 29 (natsC (zero5)) (natsC (elemL nj)) (by with_unfolding_all rfl) (by with_unfolding_all rfl) (by with_unfolding_all rfl) (natsC_same zero5_length (elemL_length _)) (sizeN Try.sz5e _ (elemL_length _)) (natsC_one _) E18.out ?_); intro w19 T19; simp only [List.set_cons_zero] at T19; have E19 := Lib.hid T19; clear T19)
      | (with_reducible refine wpE_load (o := ⟨some 47, _, _, _, _, _⟩) rfl 23 (.tmp 6) rfl 5 g3 23 (keyC (k)) _ (by with_unfolding_all rfl) (by with_unfolding_all rfl) Try.underlying23 rfl (Try.sizeKey _ Lk.out) E19.out ?_))
    refine (C48.out _).mono ?_
    rintro e w20 ⟨rfl, b20⟩
    have E20 := Lib.hid (E19.out.call b20)
    clear b20 E19
    go_wp2_with (first
      | ((with_reducible refine wpE_alloc (o := ⟨some 18, _, _, _, _, _⟩) rfl 29 rfl (natsC (zero5)) Try.zero5e E20.out ?_); intro g9 w21 T21; have E21 := Lib.hid T21; clear T21)
      | ((with_reducible refine wpE_store (o := ⟨none, _, _, _, _, _⟩) rfl 29 (.tmp 18) (.tmp 48) rfl 0 g9 29 (natsC (zero5)) (natsC (elemL nk)) (by with_unfolding_all rfl) (by with_unfolding_all rfl) (by with_unfolding_all rfl) (natsC_same zero5_length (elemL_length _)) (sizeN Try.sz5e _ (elemL_length _)) (natsC_one _) E21.out ?_); intro w22 T22; simp only [List.set_cons_zero] at T22; have E22 := Lib.hid T22; clear T22)
      | (with_reducible refine wpE_load (o := ⟨some 49, _, _, _, _, _⟩) rfl 29 (.tmp 16) rfl 2 g7 29 (natsC (elemL ni)) _ (by with_unfolding_all rfl) (by with_unfolding_all rfl) Try.underlying29 rfl (sizeN Try.sz5e _ (elemL_length _)) E22.out ?_)
      | (with_reducible refine wpE_load (o := ⟨some 50, _, _, _, _, _⟩) rfl 29 (.tmp 17) rfl 1 g8 29 (natsC (elemL nj)) _ (by with_unfolding_all rfl) (by with_unfolding_all rfl) Try.underlying29 rfl (sizeN Try.sz5e _ (elemL_length _)) E22.out ?_))
    refine (C51.out _).mono ?_
    rintro e w23 ⟨rfl, b23⟩
    have E23 := Lib.hid (E22.out.call b23)
    clear b23 E22
    go_wp2_with (first
      | ((with_reducible refine wpE_alloc (o := ⟨some 19, _, _, _, _, _⟩) rfl 29 rfl (natsC (zero5)) Try.zero5e E23.out ?_); intro g10 w24 T24; have E24 := Lib.hid T24; clear T24)
      | ((with_reducible refine wpE_store (o := ⟨none, _, _, _, _, _⟩) rfl 29 (.tmp 19) (.tmp 51) rfl 0 g10 29 (natsC (zero5)) (natsC (elemL v51)) (by with_unfolding_all rfl) (by with_unfolding_all rfl) (by with_unfolding_all rfl) (natsC_same zero5_length (elemL_length _)) (sizeN Try.sz5e _ (elemL_length _)) (natsC_one _) E24.out ?_); intro w25 T25; simp only [List.set_cons_zero] at T25; have E25 := Lib.hid T25; clear T25)
      | (with_reducible refine wpE_load (o := ⟨some 52, _, _, _, _, _⟩) rfl 29 (.tmp 16) rfl 3 g7 29 (natsC (elemL ni)) _ (by with_unfolding_all rfl) (by with_unfolding_all rfl) Try.underlying29 rfl (sizeN Try.sz5e _ (elemL_length _)) E25.out ?_)
      | (with_reducible refine wpE_load (o := ⟨some 53, _, _, _, _, _⟩) rfl 29 (.tmp 17) rfl 2 g8 29 (natsC (elemL nj)) _ (by with_unfolding_all rfl) (by with_unfolding_all rfl) Try.underlying29 rfl (sizeN Try.sz5e _ (elemL_length _)) E25.out ?_))
    refine (C54.out _).mono ?_
    rintro e w26 ⟨rfl, b26⟩
    have E26 := Lib.hid (E25.out.call b26)
    clear b26 E25
    go_wp2_with (first
      | ((with_reducible refine wpE_alloc (o := ⟨some 20, _, _, _, _, _⟩) rfl 29 rfl (natsC (zero5)) Try.zero5e E26.out ?_); intro g11 w27 T27; have E27 := Lib.hid T27; clear T27)
      | ((with_reducible refine wpE_store (o := ⟨none, _, _, _, _, _⟩) rfl 29 (.tmp 20) (.tmp 54) rfl 0 g11 29 (natsC (zero5)) (natsC (elemL v54)) (by with_unfolding_all rfl) (by with_unfolding_all rfl) (by with_unfolding_all rfl) (natsC_same zero5_length (elemL_length _)) (sizeN Try.sz5e _ (elemL_length _)) (natsC_one _) E27.out ?_); intro w28 T28; simp only [List.set_cons_zero] at T28; have E28 := Lib.hid T28; clear T28)
      | (with_reducible refine wpE_load (o := ⟨some 55, _, _, _, _, _⟩) rfl 29 (.tmp 16) rfl 4 g7 29 (natsC (elemL ni)) _ (by with_unfolding_all rfl) (by with_unfolding_all rfl) Try.underlying29 rfl (sizeN Try.sz5e _ (elemL_length _)) E28.out ?_)
      | (with_reducible refine wpE_load (o := ⟨some 56, _, _, _, _, _⟩) rfl 29 (.tmp 17) rfl 3 g8 29 (natsC (elemL nj)) _ (by with_unfolding_all rfl) (by with_unfolding_all rfl) Try.underlying29 rfl (sizeN Try.sz5e _ (elemL_length _)) E28.out ?_))
    refine (C57.out _).mono ?_
    rintro e w29 ⟨rfl, b29⟩
    have E29 := Lib.hid (E28.out.call b29)
    clear b29 E28
    go_wp2_with (first
      | ((with_reducible refine wpE_alloc (o := ⟨some 21, _, _, _, _, _⟩) rfl 29 rfl (natsC (zero5)) Try.zero5e E29.out ?_); intro g12 w30 T30; have E30 := Lib.hid T30; clear T30)
      | ((with_reducible refine wpE_store (o := ⟨none, _, _, _, _, _⟩) rfl 29 (.tmp 21) (.tmp 57) rfl 0 g12 29 (natsC (zero5)) (natsC (elemL v57)) (by with_unfolding_all rfl) (by with_unfolding_all rfl) (by with_unfolding_all rfl) (natsC_same zero5_length (elemL_length _)) (sizeN Try.sz5e _ (elemL_length _)) (natsC_one _) E30.out ?_); intro w31 T31; simp only [List.set_cons_zero] at T31; have E31 := Lib.hid T31; clear T31))
    refine region_rows (fin := fun _ => false) E31.out (by kernel_rfl) ?_
    change walkS _ _ _ _ _ _ 11 _ _ _
    have D0 := E31.out.drew
    apply loose_share 29 (natsC (elemL v66))
    case h =>
      intro HGO
      refine takeE_load (k := 0) (oi := ⟨some 58, _, _, _, _, _⟩) rfl (by kernel_rfl) (by kernel_rfl) (fun _ _ _ _ h => h) _ _ _ _ (by kernel_rfl) (by kernel_rfl) (by rfl) _ (.tmp 19) rfl 2 g10 29 (natsC (elemL v51)) _ rfl rfl Try.underlying29 rfl (sizeN Try.sz5e _ (elemL_length _)) D0 ?_
      simp only [Act.put, List.setIfInBounds_toArray, List.set_cons_zero, List.set_cons_succ]
      refine takeE_load (k := 1) (oi := ⟨some 59, _, _, _, _, _⟩) rfl (by kernel_rfl) (by kernel_rfl) (fun _ _ _ _ h => h) _ _ _ _ (by kernel_rfl) (by kernel_rfl) (by rfl) _ (.tmp 18) rfl 3 g9 29 (natsC (elemL nk)) _ rfl rfl Try.underlying29 rfl (sizeN Try.sz5e _ (elemL_length _)) D0 ?_
      simp only [Act.put, List.setIfInBounds_toArray, List.set_cons_zero, List.set_cons_succ]
      refine takeE_load (k := 3) (oi := ⟨some 61, _, _, _, _, _⟩) rfl (by kernel_rfl) (by kernel_rfl) (fun _ _ _ _ h => h) _ _ _ _ (by kernel_rfl) (by kernel_rfl) (by rfl) _ (.tmp 20) rfl 1 g11 29 (natsC (elemL v54)) _ rfl rfl Try.underlying29 rfl (sizeN Try.sz5e _ (elemL_length _)) D0 ?_
      simp only [Act.put, List.setIfInBounds_toArray, List.set_cons_zero, List.set_cons_succ]
      refine takeE_load (k := 4) (oi := ⟨some 62, _, _, _, _, _⟩) rfl (by kernel_rfl) (by kernel_rfl) (fun _ _ _ _ h => h) _ _ _ _ (by kernel_rfl) (by kernel_rfl) (by rfl) _ (.tmp 18) rfl 3 g9 29 (natsC (elemL nk)) _ rfl rfl Try.underlying29 rfl (sizeN Try.sz5e _ (elemL_length _)) D0 ?_
      simp only [Act.put, List.setIfInBounds_toArray, List.set_cons_zero, List.set_cons_succ]
      refine takeE_load (k := 7) (oi := ⟨some 65, _, _, _, _, _⟩) rfl (by kernel_rfl) (by kernel_rfl) (fun _ _ _ _ h => h) _ _ _ _ (by kernel_rfl) (by kernel_rfl) (by rfl) _ (.tmp 21) rfl 0 g12 29 (natsC (elemL v57)) _ rfl rfl Try.underlying29 rfl (sizeN Try.sz5e _ (elemL_length _)) D0 ?_
      simp only [Act.put, List.setIfInBounds_toArray, List.set_cons_zero, List.set_cons_succ]
      refine walkS_two (i := 2) (j := 9) (oi := ⟨some 60, _, _, _, _, _⟩) (oj := ⟨some 22, _, _, _, _, _⟩) (by kernel_rfl) rfl rfl rfl rfl (fun K hK => ?_) (fun K hK => ?_)
      · go_simp
        refine (C60.out _).mono ?_
        rintro e v1 ⟨rfl, bv1⟩
        have D1 := D0.call bv1
        clear bv1
        refine hK _ _ (.inr D1) ?_
        clear hK K
        try simp only [Act.put, List.setIfInBounds_toArray, List.set_cons_zero, List.set_cons_succ]
        refine walkS_two (i := 5) (j := 9) (oi := ⟨some 63, _, _, _, _, _⟩) (oj := ⟨some 22, _, _, _, _, _⟩) (by kernel_rfl) rfl rfl rfl rfl (fun K hK => ?_) (fun K hK => ?_)
        · go_simp
          refine (C63.out _).mono ?_
          rintro e v2 ⟨rfl, bv2⟩
          have D2 := D1.call bv2
          clear bv2
          refine hK _ _ (.inr D2) ?_
          clear hK K
          try simp only [Act.put, List.setIfInBounds_toArray, List.set_cons_zero, List.set_cons_succ]
          refine walkS_two (i := 6) (j := 9) (oi := ⟨some 64, _, _, _, _, _⟩) (oj := ⟨some 22, _, _, _, _, _⟩) (by kernel_rfl) rfl rfl rfl rfl (fun K hK => ?_) (fun K hK => ?_)
          · go_simp
            refine (C64.out _).mono ?_
            rintro e v3 ⟨rfl, bv3⟩
            have D3 := D2.call bv3
            clear bv3
            refine hK _ _ (.inr D3) ?_
            clear hK K
            try simp only [Act.put, List.setIfInBounds_toArray, List.set_cons_zero, List.set_cons_succ]
            refine walkS_two (i := 8) (j := 9) (oi := ⟨some 66, _, _, _, _, _⟩) (oj := ⟨some 22, _, _, _, _, _⟩) (by kernel_rfl) rfl rfl rfl rfl (fun K hK => ?_) (fun K hK => ?_)
            · go_simp
              refine (C66.out _).mono ?_
              rintro e v4 ⟨rfl, bv4⟩
              have D4 := D3.call bv4
              clear bv4
              refine hK _ _ (.inr D4) ?_
              clear hK K
              try simp only [Act.put, List.setIfInBounds_toArray, List.set_cons_zero, List.set_cons_succ]
              refine walkS_only (i := 9) (o := ⟨some 22, _, _, _, _, _⟩) (by kernel_rfl) rfl rfl fun K hK => ?_
              refine wp_alloc_row 29 rfl (natsC (zero5)) Try.zero5e fun g13 v5 nv5 => hK _ _ (.inr ?_) ?_
              · exact (D4.new nv5).less (List.sublist_cons_self _ _)
              have D5 := D4.new nv5
              clear hK K nv5
              simp only [Act.put, List.setIfInBounds_toArray, List.set_cons_zero, List.set_cons_succ]
              refine walkS_only (i := 10) (o := ⟨none, _, _, _, _, _⟩) (by kernel_rfl) rfl rfl fun K hK => ?_
              refine wp_store_row 29 (.tmp 22) (.tmp 66) rfl g13 29 (natsC (zero5)) (natsC (elemL v66)) rfl rfl (D5.row 0 rfl) (natsC_same zero5_length (elemL_length _)) (sizeN Try.sz5e _ (elemL_length _)) (natsC_one _) ?_
              intro v6 pv6
              have T32 := D5.put 0 rfl pv6
              simp only [List.set_cons_zero] at T32
              exact hK _ _ (.inr (T32.less (List.sublist_cons_self _ _))) (walkS_done (by kernel_rfl) (HGO g13 v6 T32) _)
            · refine wp_alloc_row 29 rfl (natsC (zero5)) Try.zero5e fun g13 v4 nv4 => hK _ _ (.inr ?_) ?_
              · exact (D3.new nv4).less (List.sublist_cons_self _ _)
              have D4 := D3.new nv4
              clear hK K nv4
              simp only [Act.put, List.setIfInBounds_toArray, List.set_cons_zero, List.set_cons_succ]
              refine walkS_only (i := 8) (o := ⟨some 66, _, _, _, _, _⟩) (by kernel_rfl) rfl rfl fun K hK => ?_
              go_simp
              refine (C66.out _).mono ?_
              rintro e v5 ⟨rfl, bv5⟩
              have D5 := D4.call bv5
              clear bv5
              refine hK _ _ (.inr (D5.less (List.sublist_cons_self _ _))) ?_
              clear hK K
              try simp only [Act.put, List.setIfInBounds_toArray, List.set_cons_zero, List.set_cons_succ]
              refine walkS_only (i := 10) (o := ⟨none, _, _, _, _, _⟩) (by kernel_rfl) rfl rfl fun K hK => ?_
              refine wp_store_row 29 (.tmp 22) (.tmp 66) rfl g13 29 (natsC (zero5)) (natsC (elemL v66)) rfl rfl (D5.row 0 rfl) (natsC_same zero5_length (elemL_length _)) (sizeN Try.sz5e _ (elemL_length _)) (natsC_one _) ?_
              intro v6 pv6
              have T32 := D5.put 0 rfl pv6
              simp only [List.set_cons_zero] at T32
              exact hK _ _ (.inr (T32.less (List.sublist_cons_self _ _))) (walkS_done (by kernel_rfl) (HGO g13 v6 T32) _)
          · refine wp_alloc_row 29 rfl (natsC (zero5)) Try.zero5e fun g13 v3 nv3 => hK _ _ (.inr ?_) ?_
            · exact (D2.new nv3).less (List.sublist_cons_self _ _)
            have D3 := D2.new nv3
            clear hK K nv3
            simp only [Act.put, List.setIfInBounds_toArray, List.set_cons_zero, List.set_cons_succ]
            refine walkS_only (i := 6) (o := ⟨some 64, _, _, _, _, _⟩) (by kernel_rfl) rfl rfl fun K hK => ?_
            go_simp
            refine (C64.out _).mono ?_
            rintro e v4 ⟨rfl, bv4⟩
            have D4 := D3.call bv4
            clear bv4
            refine hK _ _ (.inr (D4.less (List.sublist_cons_self _ _))) ?_
            clear hK K
            try simp only [Act.put, List.setIfInBounds_toArray, List.set_cons_zero, List.set_cons_succ]
            refine walkS_only (i := 8) (o := ⟨some 66, _, _, _, _, _⟩) (by kernel_rfl) rfl rfl fun K hK => ?_
            go_simp
            refine (C66.out _).mono ?_
            rintro e v5 ⟨rfl, bv5⟩
            have D5 := D4.call bv5
            clear bv5
            refine hK _ _ (.inr (D5.less (List.sublist_cons_self _ _))) ?_
            clear hK K
            try simp only [Act.put, List.setIfInBounds_toArray, List.set_cons_zero, List.set_cons_succ]
            refine walkS_only (i := 10) (o := ⟨none, _, _, _, _, _⟩) (by kernel_rfl) rfl rfl fun K hK => ?_
            refine wp_store_row 29 (.tmp 22) (.tmp 66) rfl g13 29 (natsC (zero5)) (natsC (elemL v66)) rfl rfl (D5.row 0 rfl) (natsC_same zero5_length (elemL_length _)) (sizeN Try.sz5e _ (elemL_length _)) (natsC_one _) ?_
            intro v6 pv6
            have T32 := D5.put 0 rfl pv6
            simp only [List.set_cons_zero] at T32
            exact hK _ _ (.inr (T32.less (List.sublist_cons_self _ _))) (walkS_done (by kernel_rfl) (HGO g13 v6 T32) _)
        · refine wp_alloc_row 29 rfl (natsC (zero5)) Try.zero5e fun g13 v2 nv2 => hK _ _ (.inr ?_) ?_
          · exact (D1.new nv2).less (List.sublist_cons_self _ _)
          have D2 := D1.new nv2
          clear hK K nv2
          simp only [Act.put, List.setIfInBounds_toArray, List.set_cons_zero, List.set_cons_succ]
          refine walkS_only (i := 5) (o := ⟨some 63, _, _, _, _, _⟩) (by kernel_rfl) rfl rfl fun K hK => ?_
          go_simp
          refine (C63.out _).mono ?_
          rintro e v3 ⟨rfl, bv3⟩
          have D3 := D2.call bv3
          clear bv3
          refine hK _ _ (.inr (D3.less (List.sublist_cons_self _ _))) ?_
          clear hK K
          try simp only [Act.put, List.setIfInBounds_toArray, List.set_cons_zero, List.set_cons_succ]
          refine walkS_only (i := 6) (o := ⟨some 64, _, _, _, _, _⟩) (by kernel_rfl) rfl rfl fun K hK => ?_
          go_simp
          refine (C64.out _).mono ?_
          rintro e v4 ⟨rfl, bv4⟩
          have D4 := D3.call bv4
          clear bv4
          refine hK _ _ (.inr (D4.less (List.sublist_cons_self _ _))) ?_
          clear hK K
          try simp only [Act.put, List.setIfInBounds_toArray, List.set_cons_zero, List.set_cons_succ]
          refine walkS_only (i := 8) (o := ⟨some 66, _, _, _, _, _⟩) (by kernel_rfl) rfl rfl fun K hK => ?_
          go_simp
          refine (C66.out _).mono ?_
          rintro e v5 ⟨rfl, bv5⟩
          have D5 := D4.call bv5
          clear bv5
          refine hK _ _ (.inr (D5.less (List.sublist_cons_self _ _))) ?_
          clear hK K
          try simp only [Act.put, List.setIfInBounds_toArray, List.set_cons_zero, List.set_cons_succ]
          refine walkS_only (i := 10) (o := ⟨none, _, _, _, _, _⟩) (by kernel_rfl) rfl rfl fun K hK => ?_
          refine wp_store_row 29 (.tmp 22) (.tmp 66) rfl g13 29 (natsC (zero5)) (natsC (elemL v66)) rfl rfl (D5.row 0 rfl) (natsC_same zero5_length (elemL_length _)) (sizeN Try.sz5e _ (elemL_length _)) (natsC_one _) ?_
          intro v6 pv6
          have T32 := D5.put 0 rfl pv6
          simp only [List.set_cons_zero] at T32
          exact hK _ _ (.inr (T32.less (List.sublist_cons_self _ _))) (walkS_done (by kernel_rfl) (HGO g13 v6 T32) _)
      · refine wp_alloc_row 29 rfl (natsC (zero5)) Try.zero5e fun g13 v1 nv1 => hK _ _ (.inr ?_) ?_
        · exact (D0.new nv1).less (List.sublist_cons_self _ _)
        have D1 := D0.new nv1
        clear hK K nv1
        simp only [Act.put, List.setIfInBounds_toArray, List.set_cons_zero, List.set_cons_succ]
        refine walkS_only (i := 2) (o := ⟨some 60, _, _, _, _, _⟩) (by kernel_rfl) rfl rfl fun K hK => ?_
        go_simp
        refine (C60.out _).mono ?_
        rintro e v2 ⟨rfl, bv2⟩
        have D2 := D1.call bv2
        clear bv2
        refine hK _ _ (.inr (D2.less (List.sublist_cons_self _ _))) ?_
        clear hK K
        try simp only [Act.put, List.setIfInBounds_toArray, List.set_cons_zero, List.set_cons_succ]
        refine walkS_only (i := 5) (o := ⟨some 63, _, _, _, _, _⟩) (by kernel_rfl) rfl rfl fun K hK => ?_
        go_simp
        refine (C63.out _).mono ?_
        rintro e v3 ⟨rfl, bv3⟩
        have D3 := D2.call bv3
        clear bv3
        refine hK _ _ (.inr (D3.less (List.sublist_cons_self _ _))) ?_
        clear hK K
        try simp only [Act.put, List.setIfInBounds_toArray, List.set_cons_zero, List.set_cons_succ]
        refine walkS_only (i := 6) (o := ⟨some 64, _, _, _, _, _⟩) (by kernel_rfl) rfl rfl fun K hK => ?_
        go_simp
        refine (C64.out _).mono ?_
        rintro e v4 ⟨rfl, bv4⟩
        have D4 := D3.call bv4
        clear bv4
        refine hK _ _ (.inr (D4.less (List.sublist_cons_self _ _))) ?_
        clear hK K
        try simp only [Act.put, List.setIfInBounds_toArray, List.set_cons_zero, List.set_cons_succ]
        refine walkS_only (i := 8) (o := ⟨some 66, _, _, _, _, _⟩) (by kernel_rfl) rfl rfl fun K hK => ?_
        go_simp
        refine (C66.out _).mono ?_
        rintro e v5 ⟨rfl, bv5⟩
        have D5 := D4.call bv5
        clear bv5
        refine hK _ _ (.inr (D5.less (List.sublist_cons_self _ _))) ?_
        clear hK K
        try simp only [Act.put, List.setIfInBounds_toArray, List.set_cons_zero, List.set_cons_succ]
        refine walkS_only (i := 10) (o := ⟨none, _, _, _, _, _⟩) (by kernel_rfl) rfl rfl fun K hK => ?_
        refine wp_store_row 29 (.tmp 22) (.tmp 66) rfl g13 29 (natsC (zero5)) (natsC (elemL v66)) rfl rfl (D5.row 0 rfl) (natsC_same zero5_length (elemL_length _)) (sizeN Try.sz5e _ (elemL_length _)) (natsC_one _) ?_
        intro v6 pv6
        have T32 := D5.put 0 rfl pv6
        simp only [List.set_cons_zero] at T32
        exact hK _ _ (.inr (T32.less (List.sublist_cons_self _ _))) (walkS_done (by kernel_rfl) (HGO g13 v6 T32) _)
    clear D0
    intro g13 w32 T32
    have E32 := Lib.hid T32
    clear T32 E31
    go_wp2_with fail
    refine region_rows (fin := fun _ => false) E32.out (by kernel_rfl) ?_
    change walkS _ _ _ _ _ _ 17 _ _ _
    have D0 := E32.out.drew
    apply loose_share 33 (natsC (digR 16 v81))
    case h =>
      intro HGO
      refine takeE_load (k := 0) (oi := ⟨some 67, _, _, _, _, _⟩) rfl (by kernel_rfl) (by kernel_rfl) (fun _ _ _ _ h => h) _ _ _ _ (by kernel_rfl) (by kernel_rfl) (by rfl) _ (.tmp 10) rfl 9 g4 33 (natsC (digR 16 ni)) _ rfl rfl Try.underlying33 rfl (sizeN Try.sz16 _ (digR_length 16 _)) D0 ?_
      simp only [Act.put, List.setIfInBounds_toArray, List.set_cons_zero, List.set_cons_succ]
      refine takeE_load (k := 1) (oi := ⟨some 68, _, _, _, _, _⟩) rfl (by kernel_rfl) (by kernel_rfl) (fun _ _ _ _ h => h) _ _ _ _ (by kernel_rfl) (by kernel_rfl) (by rfl) _ (.tmp 12) rfl 8 g5 33 (natsC (digR 16 nj)) _ rfl rfl Try.underlying33 rfl (sizeN Try.sz16 _ (digR_length 16 _)) D0 ?_
      simp only [Act.put, List.setIfInBounds_toArray, List.set_cons_zero, List.set_cons_succ]
      refine takeE_load (k := 3) (oi := ⟨some 70, _, _, _, _, _⟩) rfl (by kernel_rfl) (by kernel_rfl) (fun _ _ _ _ h => h) _ _ _ _ (by kernel_rfl) (by kernel_rfl) (by rfl) _ (.tmp 14) rfl 7 g6 33 (natsC (digR 16 nk)) _ rfl rfl Try.underlying33 rfl (sizeN Try.sz16 _ (digR_length 16 _)) D0 ?_
      simp only [Act.put, List.setIfInBounds_toArray, List.set_cons_zero, List.set_cons_succ]
      refine takeE_load (k := 5) (oi := ⟨some 72, _, _, _, _, _⟩) rfl (by kernel_rfl) (by kernel_rfl) (fun _ _ _ _ h => h) _ _ _ _ (by kernel_rfl) (by kernel_rfl) (by rfl) _ (.tmp 10) rfl 9 g4 33 (natsC (digR 16 ni)) _ rfl rfl Try.underlying33 rfl (sizeN Try.sz16 _ (digR_length 16 _)) D0 ?_
      simp only [Act.put, List.setIfInBounds_toArray, List.set_cons_zero, List.set_cons_succ]
      refine takeE_load (k := 6) (oi := ⟨some 73, _, _, _, _, _⟩) rfl (by kernel_rfl) (by kernel_rfl) (fun _ _ _ _ h => h) _ _ _ _ (by kernel_rfl) (by kernel_rfl) (by rfl) _ (.tmp 12) rfl 8 g5 33 (natsC (digR 16 nj)) _ rfl rfl Try.underlying33 rfl (sizeN Try.sz16 _ (digR_length 16 _)) D0 ?_
      simp only [Act.put, List.setIfInBounds_toArray, List.set_cons_zero, List.set_cons_succ]
      refine takeE_load (k := 8) (oi := ⟨some 75, _, _, _, _, _⟩) rfl (by kernel_rfl) (by kernel_rfl) (fun _ _ _ _ h => h) _ _ _ _ (by kernel_rfl) (by kernel_rfl) (by rfl) _ (.tmp 14) rfl 7 g6 33 (natsC (digR 16 nk)) _ rfl rfl Try.underlying33 rfl (sizeN Try.sz16 _ (digR_length 16 _)) D0 ?_
      simp only [Act.put, List.setIfInBounds_toArray, List.set_cons_zero, List.set_cons_succ]
      refine takeE_load (k := 11) (oi := ⟨some 78, _, _, _, _, _⟩) rfl (by kernel_rfl) (by kernel_rfl) (fun _ _ _ _ h => h) _ _ _ _ (by kernel_rfl) (by kernel_rfl) (by rfl) _ (.tmp 10) rfl 9 g4 33 (natsC (digR 16 ni)) _ rfl rfl Try.underlying33 rfl (sizeN Try.sz16 _ (digR_length 16 _)) D0 ?_
      simp only [Act.put, List.setIfInBounds_toArray, List.set_cons_zero, List.set_cons_succ]
      refine takeE_load (k := 12) (oi := ⟨some 79, _, _, _, _, _⟩) rfl (by kernel_rfl) (by kernel_rfl) (fun _ _ _ _ h => h) _ _ _ _ (by kernel_rfl) (by kernel_rfl) (by rfl) _ (.tmp 12) rfl 8 g5 33 (natsC (digR 16 nj)) _ rfl rfl Try.underlying33 rfl (sizeN Try.sz16 _ (digR_length 16 _)) D0 ?_
      simp only [Act.put, List.setIfInBounds_toArray, List.set_cons_zero, List.set_cons_succ]
      refine walkS_two (i := 2) (j := 15) (oi := ⟨some 69, _, _, _, _, _⟩) (oj := ⟨some 23, _, _, _, _, _⟩) (by kernel_rfl) rfl rfl rfl rfl (fun K hK => ?_) (fun K hK => ?_)
      · go_simp
        refine (C69.out _).mono ?_
        rintro e v1 ⟨rfl, bv1⟩
        have D1 := D0.call bv1
        clear bv1
        refine hK _ _ (.inr D1) ?_
        clear hK K
        try simp only [Act.put, List.setIfInBounds_toArray, List.set_cons_zero, List.set_cons_succ]
        refine walkS_two (i := 4) (j := 15) (oi := ⟨some 71, _, _, _, _, _⟩) (oj := ⟨some 23, _, _, _, _, _⟩) (by kernel_rfl) rfl rfl rfl rfl (fun K hK => ?_) (fun K hK => ?_)
        · go_simp
          refine (C71.out _).mono ?_
          rintro e v2 ⟨rfl, bv2⟩
          have D2 := D1.call bv2
          clear bv2
          refine hK _ _ (.inr D2) ?_
          clear hK K
          try simp only [Act.put, List.setIfInBounds_toArray, List.set_cons_zero, List.set_cons_succ]
          refine walkS_two (i := 7) (j := 15) (oi := ⟨some 74, _, _, _, _, _⟩) (oj := ⟨some 23, _, _, _, _, _⟩) (by kernel_rfl) rfl rfl rfl rfl (fun K hK => ?_) (fun K hK => ?_)
          · go_simp
            refine (C74.out _).mono ?_
            rintro e v3 ⟨rfl, bv3⟩
            have D3 := D2.call bv3
            clear bv3
            refine hK _ _ (.inr D3) ?_
            clear hK K
            try simp only [Act.put, List.setIfInBounds_toArray, List.set_cons_zero, List.set_cons_succ]
            refine walkS_two (i := 9) (j := 15) (oi := ⟨some 76, _, _, _, _, _⟩) (oj := ⟨some 23, _, _, _, _, _⟩) (by kernel_rfl) rfl rfl rfl rfl (fun K hK => ?_) (fun K hK => ?_)
            · go_simp
              refine (C76.out _).mono ?_
              rintro e v4 ⟨rfl, bv4⟩
              have D4 := D3.call bv4
              clear bv4
              refine hK _ _ (.inr D4) ?_
              clear hK K
              try simp only [Act.put, List.setIfInBounds_toArray, List.set_cons_zero, List.set_cons_succ]
              refine walkS_two (i := 10) (j := 15) (oi := ⟨some 77, _, _, _, _, _⟩) (oj := ⟨some 23, _, _, _, _, _⟩) (by kernel_rfl) rfl rfl rfl rfl (fun K hK => ?_) (fun K hK => ?_)
              · go_simp
                refine (C77.out _).mono ?_
                rintro e v5 ⟨rfl, bv5⟩
                have D5 := D4.call bv5
                clear bv5
                refine hK _ _ (.inr D5) ?_
                clear hK K
                try simp only [Act.put, List.setIfInBounds_toArray, List.set_cons_zero, List.set_cons_succ]
                refine walkS_two (i := 13) (j := 15) (oi := ⟨some 80, _, _, _, _, _⟩) (oj := ⟨some 23, _, _, _, _, _⟩) (by kernel_rfl) rfl rfl rfl rfl (fun K hK => ?_) (fun K hK => ?_)
                · go_simp
                  refine (C80.out _).mono ?_
                  rintro e v6 ⟨rfl, bv6⟩
                  have D6 := D5.call bv6
                  clear bv6
                  refine hK _ _ (.inr D6) ?_
                  clear hK K
                  try simp only [Act.put, List.setIfInBounds_toArray, List.set_cons_zero, List.set_cons_succ]
                  refine walkS_two (i := 14) (j := 15) (oi := ⟨some 81, _, _, _, _, _⟩) (oj := ⟨some 23, _, _, _, _, _⟩) (by kernel_rfl) rfl rfl rfl rfl (fun K hK => ?_) (fun K hK => ?_)
                  · go_simp
                    refine (C81.out _).mono ?_
                    rintro e v7 ⟨rfl, bv7⟩
                    have D7 := D6.call bv7
                    clear bv7
                    refine hK _ _ (.inr D7) ?_
                    clear hK K
                    try simp only [Act.put, List.setIfInBounds_toArray, List.set_cons_zero, List.set_cons_succ]
                    refine walkS_only (i := 15) (o := ⟨some 23, _, _, _, _, _⟩) (by kernel_rfl) rfl rfl fun K hK => ?_
                    refine wp_alloc_row 33 rfl (natsC (zero16)) Try.zero16 fun g14 v8 nv8 => hK _ _ (.inr ?_) ?_
                    · exact (D7.new nv8).less (List.sublist_cons_self _ _)
                    have D8 := D7.new nv8
                    clear hK K nv8
                    simp only [Act.put, List.setIfInBounds_toArray, List.set_cons_zero, List.set_cons_succ]
                    refine walkS_only (i := 16) (o := ⟨none, _, _, _, _, _⟩) (by kernel_rfl) rfl rfl fun K hK => ?_
                    refine wp_store_row 33 (.tmp 23) (.tmp 81) rfl g14 33 (natsC (zero16)) (natsC (digR 16 v81)) rfl rfl (D8.row 0 rfl) (natsC_same zero16_length (digR_length 16 _)) (sizeN Try.sz16 _ (digR_length 16 _)) (natsC_one _) ?_
                    intro v9 pv9
                    have T33 := D8.put 0 rfl pv9
                    simp only [List.set_cons_zero] at T33
                    exact hK _ _ (.inr (T33.less (List.sublist_cons_self _ _))) (walkS_done (by kernel_rfl) (HGO g14 v9 T33) _)
                  · refine wp_alloc_row 33 rfl (natsC (zero16)) Try.zero16 fun g14 v7 nv7 => hK _ _ (.inr ?_) ?_
                    · exact (D6.new nv7).less (List.sublist_cons_self _ _)
                    have D7 := D6.new nv7
                    clear hK K nv7
                    simp only [Act.put, List.setIfInBounds_toArray, List.set_cons_zero, List.set_cons_succ]
                    refine walkS_only (i := 14) (o := ⟨some 81, _, _, _, _, _⟩) (by kernel_rfl) rfl rfl fun K hK => ?_
                    go_simp
                    refine (C81.out _).mono ?_
                    rintro e v8 ⟨rfl, bv8⟩
                    have D8 := D7.call bv8
                    clear bv8
                    refine hK _ _ (.inr (D8.less (List.sublist_cons_self _ _))) ?_
                    clear hK K
                    try simp only [Act.put, List.setIfInBounds_toArray, List.set_cons_zero, List.set_cons_succ]
                    refine walkS_only (i := 16) (o := ⟨none, _, _, _, _, _⟩) (by kernel_rfl) rfl rfl fun K hK => ?_
                    refine wp_store_row 33 (.tmp 23) (.tmp 81) rfl g14 33 (natsC (zero16)) (natsC (digR 16 v81)) rfl rfl (D8.row 0 rfl) (natsC_same zero16_length (digR_length 16 _)) (sizeN Try.sz16 _ (digR_length 16 _)) (natsC_one _) ?_
                    intro v9 pv9
                    have T33 := D8.put 0 rfl pv9
                    simp only [List.set_cons_zero] at T33
                    exact hK _ _ (.inr (T33.less (List.sublist_cons_self _ _))) (walkS_done (by kernel_rfl) (HGO g14 v9 T33) _)
                · refine wp_alloc_row 33 rfl (natsC (zero16)) Try.zero16 fun g14 v6 nv6 => hK _ _ (.inr ?_) ?_
                  · exact (D5.new nv6).less (List.sublist_cons_self _ _)
                  have D6 := D5.new nv6
                  clear hK K nv6
                  simp only [Act.put, List.setIfInBounds_toArray, List.set_cons_zero, List.set_cons_succ]
                  refine walkS_only (i := 13) (o := ⟨some 80, _, _, _, _, _⟩) (by kernel_rfl) rfl rfl fun K hK => ?_
                  go_simp
                  refine (C80.out _).mono ?_
                  rintro e v7 ⟨rfl, bv7⟩
                  have D7 := D6.call bv7
                  clear bv7
                  refine hK _ _ (.inr (D7.less (List.sublist_cons_self _ _))) ?_
                  clear hK K
                  try simp only [Act.put, List.setIfInBounds_toArray, List.set_cons_zero, List.set_cons_succ]
                  refine walkS_only (i := 14) (o := ⟨some 81, _, _, _, _, _⟩) (by kernel_rfl) rfl rfl fun K hK => ?_
                  go_simp
                  refine (C81.out _).mono ?_
                  rintro e v8 ⟨rfl, bv8⟩
                  have D8 := D7.call bv8
                  clear bv8
                  refine hK _ _ (.inr (D8.less (List.sublist_cons_self _ _))) ?_
                  clear hK K
                  try simp only [Act.put, List.setIfInBounds_toArray, List.set_cons_zero, List.set_cons_succ]
                  refine walkS_only (i := 16) (o := ⟨none, _, _, _, _, _⟩) (by kernel_rfl) rfl rfl fun K hK => ?_
                  refine wp_store_row 33 (.tmp 23) (.tmp 81) rfl g14 33 (natsC (zero16)) (natsC (digR 16 v81)) rfl rfl (D8.row 0 rfl) (natsC_same zero16_length (digR_length 16 _)) (sizeN Try.sz16 _ (digR_length 16 _)) (natsC_one _) ?_
                  intro v9 pv9
                  have T33 := D8.put 0 rfl pv9
                  simp only [List.set_cons_zero] at T33
                  exact hK _ _ (.inr (T33.less (List.sublist_cons_self _ _))) (walkS_done (by kernel_rfl) (HGO g14 v9 T33) _)
              · refine wp_alloc_row 33 rfl (natsC (zero16)) Try.zero16 fun g14 v5 nv5 => hK _ _ (.inr ?_) ?_
                · exact (D4.new nv5).less (List.sublist_cons_self _ _)
                have D5 := D4.new nv5
                clear hK K nv5
                simp only [Act.put, List.setIfInBounds_toArray, List.set_cons_zero, List.set_cons_succ]
                refine walkS_only (i := 10) (o := ⟨some 77, _, _, _, _, _⟩) (by kernel_rfl) rfl rfl fun K hK => ?_
                go_simp
                refine (C77.out _).mono ?_
                rintro e v6 ⟨rfl, bv6⟩
                have D6 := D5.call bv6
                clear bv6
                refine hK _ _ (.inr (D6.less (List.sublist_cons_self _ _))) ?_
                clear hK K
                try simp only [Act.put, List.setIfInBounds_toArray, List.set_cons_zero, List.set_cons_succ]
                refine walkS_only (i := 13) (o := ⟨some 80, _, _, _, _, _⟩) (by kernel_rfl) rfl rfl fun K hK => ?_
                go_simp
                refine (C80.out _).mono ?_
                rintro e v7 ⟨rfl, bv7⟩
                have D7 := D6.call bv7
                clear bv7
                refine hK _ _ (.inr (D7.less (List.sublist_cons_self _ _))) ?_
                clear hK K
                try simp only [Act.put, List.setIfInBounds_toArray, List.set_cons_zero, List.set_cons_succ]
                refine walkS_only (i := 14) (o := ⟨some 81, _, _, _, _, _⟩) (by kernel_rfl) rfl rfl fun K hK => ?_
                go_simp
                refine (C81.out _).mono ?_
                rintro e v8 ⟨rfl, bv8⟩
                have D8 := D7.call bv8
                clear bv8
                refine hK _ _ (.inr (D8.less (List.sublist_cons_self _ _))) ?_
                clear hK K
                try simp only [Act.put, List.setIfInBounds_toArray, List.set_cons_zero, List.set_cons_succ]
                refine walkS_only (i := 16) (o := ⟨none, _, _, _, _, _⟩) (by kernel_rfl) rfl rfl fun K hK => ?_
                refine wp_store_row 33 (.tmp 23) (.tmp 81) rfl g14 33 (natsC (zero16)) (natsC (digR 16 v81)) rfl rfl (D8.row 0 rfl) (natsC_same zero16_length (digR_length 16 _)) (sizeN Try.sz16 _ (digR_length 16 _)) (natsC_one _) ?_
                intro v9 pv9
                have T33 := D8.put 0 rfl pv9
                simp only [List.set_cons_zero] at T33
                exact hK _ _ (.inr (T33.less (List.sublist_cons_self _ _))) (walkS_done (by kernel_rfl) (HGO g14 v9 T33) _)
            · refine wp_alloc_row 33 rfl (natsC (zero16)) Try.zero16 fun g14 v4 nv4 => hK _ _ (.inr ?_) ?_
              · exact (D3.new nv4).less (List.sublist_cons_self _ _)
              have D4 := D3.new nv4
              clear hK K nv4
              simp only [Act.put, List.setIfInBounds_toArray, List.set_cons_zero, List.set_cons_succ]
              refine walkS_only (i := 9) (o := ⟨some 76, _, _, _, _, _⟩) (by kernel_rfl) rfl rfl fun K hK => ?_
              go_simp
              refine (C76.out _).mono ?_
              rintro e v5 ⟨rfl, bv5⟩
              have D5 := D4.call bv5
              clear bv5
              refine hK _ _ (.inr (D5.less (List.sublist_cons_self _ _))) ?_
              clear hK K
              try simp only [Act.put, List.setIfInBounds_toArray, List.set_cons_zero, List.set_cons_succ]
              refine walkS_only (i := 10) (o := ⟨some 77, _, _, _, _, _⟩) (by kernel_rfl) rfl rfl fun K hK => ?_
              go_simp
              refine (C77.out _).mono ?_
              rintro e v6 ⟨rfl, bv6⟩
              have D6 := D5.call bv6
              clear bv6
              refine hK _ _ (.inr (D6.less (List.sublist_cons_self _ _))) ?_
              clear hK K
              try simp only [Act.put, List.setIfInBounds_toArray, List.set_cons_zero, List.set_cons_succ]
              refine walkS_only (i := 13) (o := ⟨some 80, _, _, _, _, _⟩) (by kernel_rfl) rfl rfl fun K hK => ?_
              go_simp
              refine (C80.out _).mono ?_
              rintro e v7 ⟨rfl, bv7⟩
              have D7 := D6.call bv7
              clear bv7
              refine hK _ _ (.inr (D7.less (List.sublist_cons_self _ _))) ?_
              clear hK K
              try simp only [Act.put, List.setIfInBounds_toArray, List.set_cons_zero, List.set_cons_succ]
              refine walkS_only (i := 14) (o := ⟨some 81, _, _, _, _, _⟩) (by kernel_rfl) rfl rfl fun K hK => ?_
              go_simp
              refine (C81.out _).mono ?_
              rintro e v8 ⟨rfl, bv8⟩
              have D8 := D7.call bv8
              clear bv8
              refine hK _ _ (.inr (D8.less (List.sublist_cons_self _ _))) ?_
              clear hK K
              try simp only [Act.put, List.setIfInBounds_toArray, List.set_cons_zero, List.set_cons_succ]
              refine walkS_only (i := 16) (o := ⟨none, _, _, _, _, _⟩) (by kernel_rfl) rfl rfl fun K hK => ?_
              refine wp_store_row 33 (.tmp 23) (.tmp 81) rfl g14 33 (natsC (zero16)) (natsC (digR 16 v81)) rfl rfl (D8.row 0 rfl) (natsC_same zero16_length (digR_length 16 _)) (sizeN Try.sz16 _ (digR_length 16 _)) (natsC_one _) ?_
              intro v9 pv9
              have T33 := D8.put 0 rfl pv9
              simp only [List.set_cons_zero] at T33
              exact hK _ _ (.inr (T33.less (List.sublist_cons_self _ _))) (walkS_done (by kernel_rfl) (HGO g14 v9 T33) _)
          · refine wp_alloc_row 33 rfl (natsC (zero16)) Try.zero16 fun g14 v3 nv3 => hK _ _ (.inr ?_) ?_
            · exact (D2.new nv3).less (List.sublist_cons_self _ _)
            have D3 := D2.new nv3
            clear hK K nv3
            simp only [Act.put, List.setIfInBounds_toArray, List.set_cons_zero, List.set_cons_succ]
            refine walkS_only (i := 7) (o := ⟨some 74, _, _, _, _, _⟩) (by kernel_rfl) rfl rfl fun K hK => ?_
            go_simp
            refine (C74.out _).mono ?_
            rintro e v4 ⟨rfl, bv4⟩
            have D4 := D3.call bv4
            clear bv4
            refine hK _ _ (.inr (D4.less (List.sublist_cons_self _ _))) ?_
            clear hK K
            try simp only [Act.put, List.setIfInBounds_toArray, List.set_cons_zero, List.set_cons_succ]
            refine walkS_only (i := 9) (o := ⟨some 76, _, _, _, _, _⟩) (by kernel_rfl) rfl rfl fun K hK => ?_
            go_simp
            refine (C76.out _).mono ?_
            rintro e v5 ⟨rfl, bv5⟩
            have D5 := D4.call bv5
            clear bv5
            refine hK _ _ (.inr (D5.less (List.sublist_cons_self _ _))) ?_
            clear hK K
            try simp only [Act.put, List.setIfInBounds_toArray, List.set_cons_zero, List.set_cons_succ]
            refine walkS_only (i := 10) (o := ⟨some 77, _, _, _, _, _⟩) (by kernel_rfl) rfl rfl fun K hK => ?_
            go_simp
            refine (C77.out _).mono ?_
            rintro e v6 ⟨rfl, bv6⟩
            have D6 := D5.call bv6
            clear bv6
            refine hK _ _ (.inr (D6.less (List.sublist_cons_self _ _))) ?_
            clear hK K
            try simp only [Act.put, List.setIfInBounds_toArray, List.set_cons_zero, List.set_cons_succ]
            refine walkS_only (i := 13) (o := ⟨some 80, _, _, _, _, _⟩) (by kernel_rfl) rfl rfl fun K hK => ?_
            go_simp
            refine (C80.out _).mono ?_
            rintro e v7 ⟨rfl, bv7⟩
            have D7 := D6.call bv7
            clear bv7
            refine hK _ _ (.inr (D7.less (List.sublist_cons_self _ _))) ?_
            clear hK K
            try simp only [Act.put, List.setIfInBounds_toArray, List.set_cons_zero, List.set_cons_succ]
            refine walkS_only (i := 14) (o := ⟨some 81, _, _, _, _, _⟩) (by kernel_rfl) rfl rfl fun K hK => ?_
            go_simp
            refine (C81.out _).mono ?_
            rintro e v8 ⟨rfl, bv8⟩
            have D8 := D7.call bv8
            clear bv8
            refine hK _ _ (.inr (D8.less (List.sublist_cons_self _ _))) ?_
            clear hK K
            try simp only [Act.put, List.setIfInBounds_toArray, List.set_cons_zero, List.set_cons_succ]
            refine walkS_only (i := 16) (o := ⟨none, _, _, _, _, _⟩) (by kernel_rfl) rfl rfl fun K hK => ?_
            refine wp_store_row 33 (.tmp 23) (.tmp 81) rfl g14 33 (natsC (zero16)) (natsC (digR 16 v81)) rfl rfl (D8.row 0 rfl) (natsC_same zero16_length (digR_length 16 _)) (sizeN Try.sz16 _ (digR_length 16 _)) (natsC_one _) ?_
            intro v9 pv9
            have T33 := D8.put 0 rfl pv9
            simp only [List.set_cons_zero] at T33
            exact hK _ _ (.inr (T33.less (List.sublist_cons_self _ _))) (walkS_done (by kernel_rfl) (HGO g14 v9 T33) _)
        · refine wp_alloc_row 33 rfl (natsC (zero16)) Try.zero16 fun g14 v2 nv2 => hK _ _ (.inr ?_) ?_
          · exact (D1.new nv2).less (List.sublist_cons_self _ _)
          have D2 := D1.new nv2
          clear hK K nv2
          simp only [Act.put, List.setIfInBounds_toArray, List.set_cons_zero, List.set_cons_succ]
          refine walkS_only (i := 4) (o := ⟨some 71, _, _, _, _, _⟩) (by kernel_rfl) rfl rfl fun K hK => ?_
          go_simp
          refine (C71.out _).mono ?_
          rintro e v3 ⟨rfl, bv3⟩
          have D3 := D2.call bv3
          clear bv3
          refine hK _ _ (.inr (D3.less (List.sublist_cons_self _ _))) ?_
          clear hK K
          try simp only [Act.put, List.setIfInBounds_toArray, List.set_cons_zero, List.set_cons_succ]
          refine walkS_only (i := 7) (o := ⟨some 74, _, _, _, _, _⟩) (by kernel_rfl) rfl rfl fun K hK => ?_
          go_simp
          refine (C74.out _).mono ?_
          rintro e v4 ⟨rfl, bv4⟩
          have D4 := D3.call bv4
          clear bv4
          refine hK _ _ (.inr (D4.less (List.sublist_cons_self _ _))) ?_
          clear hK K
          try simp only [Act.put, List.setIfInBounds_toArray, List.set_cons_zero, List.set_cons_succ]
          refine walkS_only (i := 9) (o := ⟨some 76, _, _, _, _, _⟩) (by kernel_rfl) rfl rfl fun K hK => ?_
          go_simp
          refine (C76.out _).mono ?_
          rintro e v5 ⟨rfl, bv5⟩
          have D5 := D4.call bv5
          clear bv5
          refine hK _ _ (.inr (D5.less (List.sublist_cons_self _ _))) ?_
          clear hK K
          try simp only [Act.put, List.setIfInBounds_toArray, List.set_cons_zero, List.set_cons_succ]
          refine walkS_only (i := 10) (o := ⟨some 77, _, _, _, _, _⟩) (by kernel_rfl) rfl rfl fun K hK => ?_
          go_simp
          refine (C77.out _).mono ?_
          rintro e v6 ⟨rfl, bv6⟩
          have D6 := D5.call bv6
          clear bv6
          refine hK _ _ (.inr (D6.less (List.sublist_cons_self _ _))) ?_
          clear hK K
          try simp only [Act.put, List.setIfInBounds_toArray, List.set_cons_zero, List.set_cons_succ]
          refine walkS_only (i := 13) (o := ⟨some 80, _, _, _, _, _⟩) (by kernel_rfl) rfl rfl fun K hK => ?_
          go_simp
          refine (C80.out _).mono ?_
          rintro e v7 ⟨rfl, bv7⟩
          have D7 := D6.call bv7
          clear bv7
          refine hK _ _ (.inr (D7.less (List.sublist_cons_self _ _))) ?_
          clear hK K
          try simp only [Act.put, List.setIfInBounds_toArray, List.set_cons_zero, List.set_cons_succ]
          refine walkS_only (i := 14) (o := ⟨some 81, _, _, _, _, _⟩) (by kernel_rfl) rfl rfl fun K hK => ?_
          go_simp
          refine (C81.out _).mono ?_
          rintro e v8 ⟨rfl, bv8⟩
          have D8 := D7.call bv8
          clear bv8
          refine hK _ _ (.inr (D8.less (List.sublist_cons_self _ _))) ?_
          clear hK K
          try simp only [Act.put, List.setIfInBounds_toArray, List.set_cons_zero, List.set_cons_succ]
          refine walkS_only (i := 16) (o := ⟨none, _, _, _, _, _⟩) (by kernel_rfl) rfl rfl fun K hK => ?_
          refine wp_store_row 33 (.tmp 23) (.tmp 81) rfl g14 33 (natsC (zero16)) (natsC (digR 16 v81)) rfl rfl (D8.row 0 rfl) (natsC_same zero16_length (digR_length 16 _)) (sizeN Try.sz16 _ (digR_length 16 _)) (natsC_one _) ?_
          intro v9 pv9
          have T33 := D8.put 0 rfl pv9
          simp only [List.set_cons_zero] at T33
          exact hK _ _ (.inr (T33.less (List.sublist_cons_self _ _))) (walkS_done (by kernel_rfl) (HGO g14 v9 T33) _)
      · refine wp_alloc_row 33 rfl (natsC (zero16)) Try.zero16 fun g14 v1 nv1 => hK _ _ (.inr ?_) ?_
        · exact (D0.new nv1).less (List.sublist_cons_self _ _)
        have D1 := D0.new nv1
        clear hK K nv1
        simp only [Act.put, List.setIfInBounds_toArray, List.set_cons_zero, List.set_cons_succ]
        refine walkS_only (i := 2) (o := ⟨some 69, _, _, _, _, _⟩) (by kernel_rfl) rfl rfl fun K hK => ?_
        go_simp
        refine (C69.out _).mono ?_
        rintro e v2 ⟨rfl, bv2⟩
        have D2 := D1.call bv2
        clear bv2
        refine hK _ _ (.inr (D2.less (List.sublist_cons_self _ _))) ?_
        clear hK K
        try simp only [Act.put, List.setIfInBounds_toArray, List.set_cons_zero, List.set_cons_succ]
        refine walkS_only (i := 4) (o := ⟨some 71, _, _, _, _, _⟩) (by kernel_rfl) rfl rfl fun K hK => ?_
        go_simp
        refine (C71.out _).mono ?_
        rintro e v3 ⟨rfl, bv3⟩
        have D3 := D2.call bv3
        clear bv3
        refine hK _ _ (.inr (D3.less (List.sublist_cons_self _ _))) ?_
        clear hK K
        try simp only [Act.put, List.setIfInBounds_toArray, List.set_cons_zero, List.set_cons_succ]
        refine walkS_only (i := 7) (o := ⟨some 74, _, _, _, _, _⟩) (by kernel_rfl) rfl rfl fun K hK => ?_
        go_simp
        refine (C74.out _).mono ?_
        rintro e v4 ⟨rfl, bv4⟩
        have D4 := D3.call bv4
        clear bv4
        refine hK _ _ (.inr (D4.less (List.sublist_cons_self _ _))) ?_
        clear hK K
        try simp only [Act.put, List.setIfInBounds_toArray, List.set_cons_zero, List.set_cons_succ]
        refine walkS_only (i := 9) (o := ⟨some 76, _, _, _, _, _⟩) (by kernel_rfl) rfl rfl fun K hK => ?_
        go_simp
        refine (C76.out _).mono ?_
        rintro e v5 ⟨rfl, bv5⟩
        have D5 := D4.call bv5
        clear bv5
        refine hK _ _ (.inr (D5.less (List.sublist_cons_self _ _))) ?_
        clear hK K
        try simp only [Act.put, List.setIfInBounds_toArray, List.set_cons_zero, List.set_cons_succ]
        refine walkS_only (i := 10) (o := ⟨some 77, _, _, _, _, _⟩) (by kernel_rfl) rfl rfl fun K hK => ?_
        go_simp
        refine (C77.out _).mono ?_
        rintro e v6 ⟨rfl, bv6⟩
        have D6 := D5.call bv6
        clear bv6
        refine hK _ _ (.inr (D6.less (List.sublist_cons_self _ _))) ?_
        clear hK K
        try simp only [Act.put, List.setIfInBounds_toArray, List.set_cons_zero, List.set_cons_succ]
        refine walkS_only (i := 13) (o := ⟨some 80, _, _, _, _, _⟩) (by kernel_rfl) rfl rfl fun K hK => ?_
        go_simp
        refine (C80.out _).mono ?_
        rintro e v7 ⟨rfl, bv7⟩
        have D7 := D6.call bv7
        clear bv7
        refine hK _ _ (.inr (D7.less (List.sublist_cons_self _ _))) ?_
        clear hK K
        try simp only [Act.put, List.setIfInBounds_toArray, List.set_cons_zero, List.set_cons_succ]
        refine walkS_only (i := 14) (o := ⟨some 81, _, _, _, _, _⟩) (by kernel_rfl) rfl rfl fun K hK => ?_
        go_simp
        refine (C81.out _).mono ?_
        rintro e v8 ⟨rfl, bv8⟩
        have D8 := D7.call bv8
        clear bv8
        refine hK _ _ (.inr (D8.less (List.sublist_cons_self _ _))) ?_
        clear hK K
        try simp only [Act.put, List.setIfInBounds_toArray, List.set_cons_zero, List.set_cons_succ]
        refine walkS_only (i := 16) (o := ⟨none, _, _, _, _, _⟩) (by kernel_rfl) rfl rfl fun K hK => ?_
        refine wp_store_row 33 (.tmp 23) (.tmp 81) rfl g14 33 (natsC (zero16)) (natsC (digR 16 v81)) rfl rfl (D8.row 0 rfl) (natsC_same zero16_length (digR_length 16 _)) (sizeN Try.sz16 _ (digR_length 16 _)) (natsC_one _) ?_
        intro v9 pv9
        have T33 := D8.put 0 rfl pv9
        simp only [List.set_cons_zero] at T33
        exact hK _ _ (.inr (T33.less (List.sublist_cons_self _ _))) (walkS_done (by kernel_rfl) (HGO g14 v9 T33) _)
    clear D0
    intro g14 w33 T33
    have E33 := Lib.hid T33
    clear T33 E32
    go_wp2_with (first
      | (with_reducible refine wpE_load (o := ⟨some 82, _, _, _, _, _⟩) rfl 29 (.tmp 16) rfl 7 g7 29 (natsC (elemL ni)) _ (by with_unfolding_all rfl) (by with_unfolding_all rfl) Try.underlying29 rfl (sizeN Try.sz5e _ (elemL_length _)) E33.out ?_)
      | (with_reducible refine wpE_load (o := ⟨some 83, _, _, _, _, _⟩) rfl 29 (.tmp 17) rfl 6 g8 29 (natsC (elemL nj)) _ (by with_unfolding_all rfl) (by with_unfolding_all rfl) Try.underlying29 rfl (sizeN Try.sz5e _ (elemL_length _)) E33.out ?_))
    refine (C84.out _).mono ?_
    rintro e w34 ⟨rfl, b34⟩
    have E34 := Lib.hid (E33.out.call b34)
    clear b34 E33
    go_wp2_with (first
      | (with_reducible refine wpE_load (o := ⟨some 86, _, _, _, _, _⟩) rfl 29 (.tmp 16) rfl 7 g7 29 (natsC (elemL ni)) _ (by with_unfolding_all rfl) (by with_unfolding_all rfl) Try.underlying29 rfl (sizeN Try.sz5e _ (elemL_length _)) E34.out ?_)
      | (with_reducible refine wpE_load (o := ⟨some 87, _, _, _, _, _⟩) rfl 29 (.tmp 17) rfl 6 g8 29 (natsC (elemL nj)) _ (by with_unfolding_all rfl) (by with_unfolding_all rfl) Try.underlying29 rfl (sizeN Try.sz5e _ (elemL_length _)) E34.out ?_))
    refine (C88.out _).mono ?_
    rintro e w35 ⟨rfl, b35⟩
    have E35 := Lib.hid (E34.out.call b35)
    clear b35 E34
    go_wp2_with (first
      | ((with_reducible refine wpE_alloc (o := ⟨some 25, _, _, _, _, _⟩) rfl 29 rfl (natsC (zero5)) Try.zero5e E35.out ?_); intro g15 w36 T36; have E36 := Lib.hid T36; clear T36)
      | ((with_reducible refine wpE_store (o := ⟨none, _, _, _, _, _⟩) rfl 29 (.tmp 25) (.tmp 88) rfl 0 g15 29 (natsC (zero5)) (natsC (elemL ni)) (by with_unfolding_all rfl) (by with_unfolding_all rfl) (by with_unfolding_all rfl) (natsC_same zero5_length (elemL_length _)) (sizeN Try.sz5e _ (elemL_length _)) (natsC_one _) E36.out ?_); intro w37 T37; simp only [List.set_cons_zero] at T37; have E37 := Lib.hid T37; clear T37)
      | (with_reducible refine wpE_load (o := ⟨some 89, _, _, _, _, _⟩) rfl 33 (.tmp 12) rfl 10 g5 33 (natsC (digR 16 nj)) _ (by with_unfolding_all rfl) (by with_unfolding_all rfl) Try.underlying33 rfl (sizeN Try.sz16 _ (digR_length 16 _)) E37.out ?_)
      | ((with_reducible refine wpE_alloc (o := ⟨some 26, _, _, _, _, _⟩) rfl 33 rfl (natsC (zero16)) Try.zero16 E37.out ?_); intro g16 w38 T38; have E38 := Lib.hid T38; clear T38)
      | ((with_reducible refine wpE_store (o := ⟨none, _, _, _, _, _⟩) rfl 33 (.tmp 26) (.tmp 89) rfl 0 g16 33 (natsC (zero16)) (natsC (digR 16 nj)) (by with_unfolding_all rfl) (by with_unfolding_all rfl) (by with_unfolding_all rfl) (natsC_same zero16_length (digR_length 16 _)) (sizeN Try.sz16 _ (digR_length 16 _)) (natsC_one _) E38.out ?_); intro w39 T39; simp only [List.set_cons_zero] at T39; have E39 := Lib.hid T39; clear T39)
      | (with_reducible refine wpE_load (o := ⟨some 91, _, _, _, _, _⟩) rfl 33 (.tmp 10) rfl 12 g4 33 (natsC (digR 16 ni)) _ (by with_unfolding_all rfl) (by with_unfolding_all rfl) Try.underlying33 rfl (sizeN Try.sz16 _ (digR_length 16 _)) E39.out ?_)
      | ((with_reducible refine wpE_store (o := ⟨none, _, _, _, _, _⟩) rfl 33 (.tmp 26) (.tmp 91) rfl 0 g16 33 (natsC (digR 16 nj)) (natsC (digR 16 ni)) (by with_unfolding_all rfl) (by with_unfolding_all rfl) (by with_unfolding_all rfl) (natsC_same (digR_length 16 _) (digR_length 16 _)) (sizeN Try.sz16 _ (digR_length 16 _)) (natsC_one _) E39.out ?_); intro w40 T40; simp only [List.set_cons_zero] at T40; have E40 := Lib.hid T40; clear T40))
    refine region_class _ E40.out.drew (by kernel_rfl) (by kernel_rfl) ?_
    refine q_run (by rfl) (v := .bool true) (fun W _ => by go_simp) ?_
    simp only [Act.put, List.setIfInBounds_toArray, List.set_cons_zero, List.set_cons_succ]
    refine q_run (by rfl) (v := .bool true) (fun W _ => by go_simp) ?_
    simp only [Act.put, List.setIfInBounds_toArray, List.set_cons_zero, List.set_cons_succ]
    refine qE_load (by rfl) _ (.tmp 19) rfl 6 g10 29 (natsC (elemL v51)) _ rfl rfl Try.underlying29 rfl (sizeN Try.sz5e _ (elemL_length _)) ?_
    simp only [Act.put, List.setIfInBounds_toArray, List.set_cons_zero, List.set_cons_succ]
    refine q_call (by rfl) 16 _ (fun W => by go_simp) (fun W hW => hW.calls (C95.out W)) ?_
    simp only [Act.put, List.setIfInBounds_toArray, List.set_cons_zero, List.set_cons_succ]
    refine qE_load (by rfl) _ (.tmp 10) rfl 12 g4 33 (natsC (digR 16 ni)) _ rfl rfl Try.underlying33 rfl (sizeN Try.sz16 _ (digR_length 16 _)) ?_
    simp only [Act.put, List.setIfInBounds_toArray, List.set_cons_zero, List.set_cons_succ]
    refine qE_load (by rfl) _ (.tmp 12) rfl 11 g5 33 (natsC (digR 16 nj)) _ rfl rfl Try.underlying33 rfl (sizeN Try.sz16 _ (digR_length 16 _)) ?_
    simp only [Act.put, List.setIfInBounds_toArray, List.set_cons_zero, List.set_cons_succ]
    refine q_call (by rfl) 23 _ (fun W => by go_simp) (fun W hW => hW.calls (C69.out W)) ?_
    simp only [Act.put, List.setIfInBounds_toArray, List.set_cons_zero, List.set_cons_succ]
    refine q_call (by rfl) 17 _ (fun W => by go_simp) (fun W hW => hW.calls (C99.out W)) ?_
    simp only [Act.put, List.setIfInBounds_toArray, List.set_cons_zero, List.set_cons_succ]
    refine q_run (by rfl) (v := .bool true) (fun W _ => by have hq := Q100.out; have hg := Try.eqGuardKey; go_simp) ?_
    simp only [Act.put, List.setIfInBounds_toArray, List.set_cons_zero, List.set_cons_succ]
    refine q_run (by rfl) (v := .bool true) (fun W _ => by go_simp) ?_
    simp only [Act.put, List.setIfInBounds_toArray, List.set_cons_zero, List.set_cons_succ]
    refine q_run (by rfl) (v := .bool true) (fun W _ => by go_simp) ?_
    simp only [Act.put, List.setIfInBounds_toArray, List.set_cons_zero, List.set_cons_succ]
    refine qE_load (by rfl) _ (.tmp 20) rfl 5 g11 29 (natsC (elemL v54)) _ rfl rfl Try.underlying29 rfl (sizeN Try.sz5e _ (elemL_length _)) ?_
    simp only [Act.put, List.setIfInBounds_toArray, List.set_cons_zero, List.set_cons_succ]
    refine q_call (by rfl) 16 _ (fun W => by go_simp) (fun W hW => hW.calls (C104.out W)) ?_
    simp only [Act.put, List.setIfInBounds_toArray, List.set_cons_zero, List.set_cons_succ]
    refine qE_load (by rfl) _ (.tmp 10) rfl 12 g4 33 (natsC (digR 16 ni)) _ rfl rfl Try.underlying33 rfl (sizeN Try.sz16 _ (digR_length 16 _)) ?_
    simp only [Act.put, List.setIfInBounds_toArray, List.set_cons_zero, List.set_cons_succ]
    refine qE_load (by rfl) _ (.tmp 12) rfl 11 g5 33 (natsC (digR 16 nj)) _ rfl rfl Try.underlying33 rfl (sizeN Try.sz16 _ (digR_length 16 _)) ?_
    simp only [Act.put, List.setIfInBounds_toArray, List.set_cons_zero, List.set_cons_succ]
    refine q_call (by rfl) 25 _ (fun W => by go_simp) (fun W hW => hW.calls (C74.out W)) ?_
    simp only [Act.put, List.setIfInBounds_toArray, List.set_cons_zero, List.set_cons_succ]
    refine q_call (by rfl) 17 _ (fun W => by go_simp) (fun W hW => hW.calls (C108.out W)) ?_
    simp only [Act.put, List.setIfInBounds_toArray, List.set_cons_zero, List.set_cons_succ]
    refine q_run (by rfl) (v := .bool true) (fun W _ => by have hq := Q109.out; have hg := Try.eqGuardKey; go_simp) ?_
    simp only [Act.put, List.setIfInBounds_toArray, List.set_cons_zero, List.set_cons_succ]
    refine q_run (by rfl) (v := .bool true) (fun W _ => by go_simp) ?_
    simp only [Act.put, List.setIfInBounds_toArray, List.set_cons_zero, List.set_cons_succ]
    refine q_run (by rfl) (v := .bool true) (fun W _ => by go_simp) ?_
    simp only [Act.put, List.setIfInBounds_toArray, List.set_cons_zero, List.set_cons_succ]
    refine qE_load (by rfl) _ (.tmp 21) rfl 4 g12 29 (natsC (elemL v57)) _ rfl rfl Try.underlying29 rfl (sizeN Try.sz5e _ (elemL_length _)) ?_
    simp only [Act.put, List.setIfInBounds_toArray, List.set_cons_zero, List.set_cons_succ]
    refine q_call (by rfl) 16 _ (fun W => by go_simp) (fun W hW => hW.calls (C113.out W)) ?_
    simp only [Act.put, List.setIfInBounds_toArray, List.set_cons_zero, List.set_cons_succ]
    refine qE_load (by rfl) _ (.tmp 10) rfl 12 g4 33 (natsC (digR 16 ni)) _ rfl rfl Try.underlying33 rfl (sizeN Try.sz16 _ (digR_length 16 _)) ?_
    simp only [Act.put, List.setIfInBounds_toArray, List.set_cons_zero, List.set_cons_succ]
    refine qE_load (by rfl) _ (.tmp 12) rfl 11 g5 33 (natsC (digR 16 nj)) _ rfl rfl Try.underlying33 rfl (sizeN Try.sz16 _ (digR_length 16 _)) ?_
    simp only [Act.put, List.setIfInBounds_toArray, List.set_cons_zero, List.set_cons_succ]
    refine q_call (by rfl) 24 _ (fun W => by go_simp) (fun W hW => hW.calls (C80.out W)) ?_
    simp only [Act.put, List.setIfInBounds_toArray, List.set_cons_zero, List.set_cons_succ]
    refine q_call (by rfl) 17 _ (fun W => by go_simp) (fun W hW => hW.calls (C117.out W)) ?_
    simp only [Act.put, List.setIfInBounds_toArray, List.set_cons_zero, List.set_cons_succ]
    refine q_run (by rfl) (v := .bool true) (fun W _ => by have hq := Q118.out; have hg := Try.eqGuardKey; go_simp) ?_
    simp only [Act.put, List.setIfInBounds_toArray, List.set_cons_zero, List.set_cons_succ]
    refine q_run (by rfl) (v := .bool true) (fun W _ => by go_simp) ?_
    simp only [Act.put, List.setIfInBounds_toArray, List.set_cons_zero, List.set_cons_succ]
    refine q_run (by rfl) (v := .bool true) (fun W _ => by go_simp) ?_
    simp only [Act.put, List.setIfInBounds_toArray, List.set_cons_zero, List.set_cons_succ]
    refine qE_load (by rfl) _ (.tmp 22) rfl 3 g13 29 (natsC (elemL v66)) _ rfl rfl Try.underlying29 rfl (sizeN Try.sz5e _ (elemL_length _)) ?_
    simp only [Act.put, List.setIfInBounds_toArray, List.set_cons_zero, List.set_cons_succ]
    refine q_call (by rfl) 16 _ (fun W => by go_simp) (fun W hW => hW.calls (C122.out W)) ?_
    simp only [Act.put, List.setIfInBounds_toArray, List.set_cons_zero, List.set_cons_succ]
    refine qE_load (by rfl) _ (.tmp 23) rfl 2 g14 33 (natsC (digR 16 v81)) _ rfl rfl Try.underlying33 rfl (sizeN Try.sz16 _ (digR_length 16 _)) ?_
    simp only [Act.put, List.setIfInBounds_toArray, List.set_cons_zero, List.set_cons_succ]
    refine q_call (by rfl) 17 _ (fun W => by go_simp) (fun W hW => hW.calls (C124.out W)) ?_
    simp only [Act.put, List.setIfInBounds_toArray, List.set_cons_zero, List.set_cons_succ]
    refine q_run (by rfl) (v := .bool true) (fun W _ => by have hq := Q125.out; have hg := Try.eqGuardKey; go_simp) ?_
    simp only [Act.put, List.setIfInBounds_toArray, List.set_cons_zero, List.set_cons_succ]
    refine q_run (by rfl) (v := .bool true) (fun W _ => by go_simp) ?_
    simp only [Act.put, List.setIfInBounds_toArray, List.set_cons_zero, List.set_cons_succ]
    refine q_run (by rfl) (v := .bool true) (fun W _ => by go_simp) ?_
    simp only [Act.put, List.setIfInBounds_toArray, List.set_cons_zero, List.set_cons_succ]
    refine q_run (by rfl) (v := .bool r84) (fun W _ => by go_simp) ?_
    simp only [Act.put, List.setIfInBounds_toArray, List.set_cons_zero, List.set_cons_succ]
    refine qE_load (by rfl) _ (.tmp 10) rfl 12 g4 33 (natsC (digR 16 ni)) _ rfl rfl Try.underlying33 rfl (sizeN Try.sz16 _ (digR_length 16 _)) ?_
    simp only [Act.put, List.setIfInBounds_toArray, List.set_cons_zero, List.set_cons_succ]
    refine qE_load (by rfl) _ (.tmp 12) rfl 11 g5 33 (natsC (digR 16 nj)) _ rfl rfl Try.underlying33 rfl (sizeN Try.sz16 _ (digR_length 16 _)) ?_
    simp only [Act.put, List.setIfInBounds_toArray, List.set_cons_zero, List.set_cons_succ]
    refine q_run (by rfl) (v := .bool r84) (fun W _ => by have hq := Q131.out; have hg := Try.eqGuardNum; go_simp) ?_
    simp only [Act.put, List.setIfInBounds_toArray, List.set_cons_zero, List.set_cons_succ]
    refine q_run (by rfl) (v := .bool true) (fun W _ => by go_simp) ?_
    simp only [Act.put, List.setIfInBounds_toArray, List.set_cons_zero, List.set_cons_succ]
    refine q_run (by rfl) (v := .bool true) (fun W _ => by go_simp) ?_
    simp only [Act.put, List.setIfInBounds_toArray, List.set_cons_zero, List.set_cons_succ]
    refine q_run (by rfl) (v := .bool true) (fun W _ => by go_simp) ?_
    simp only [Act.put, List.setIfInBounds_toArray, List.set_cons_zero, List.set_cons_succ]
    refine qE_load (by rfl) _ (.tmp 25) rfl 1 g15 29 (natsC (elemL ni)) _ rfl rfl Try.underlying29 rfl (sizeN Try.sz5e _ (elemL_length _)) ?_
    simp only [Act.put, List.setIfInBounds_toArray, List.set_cons_zero, List.set_cons_succ]
    refine q_call (by rfl) 16 _ (fun W => by go_simp) (fun W hW => hW.calls (C136.out W)) ?_
    simp only [Act.put, List.setIfInBounds_toArray, List.set_cons_zero, List.set_cons_succ]
    refine qE_load (by rfl) _ (.tmp 26) rfl 0 g16 33 (natsC (digR 16 ni)) _ rfl rfl Try.underlying33 rfl (sizeN Try.sz16 _ (digR_length 16 _)) ?_
    simp only [Act.put, List.setIfInBounds_toArray, List.set_cons_zero, List.set_cons_succ]
    refine q_call (by rfl) 17 _ (fun W => by go_simp) (fun W hW => hW.calls (C138.out W)) ?_
    simp only [Act.put, List.setIfInBounds_toArray, List.set_cons_zero, List.set_cons_succ]
    refine q_run (by rfl) (v := .bool true) (fun W _ => by have hq := Q139.out; have hg := Try.eqGuardKey; go_simp) ?_
    simp only [Act.put, List.setIfInBounds_toArray, List.set_cons_zero, List.set_cons_succ]
    refine q_run (by rfl) (v := .bool true) (fun W _ => by go_simp) ?_
    simp only [Act.put, List.setIfInBounds_toArray, List.set_cons_zero, List.set_cons_succ]
    refine q_run (by rfl) (v := .bool true) (fun W _ => by go_simp) ?_
    simp only [Act.put, List.setIfInBounds_toArray, List.set_cons_zero, List.set_cons_succ]
    refine wpQuiet_nil ?_
    intro w41 T41
    have E41 := Lib.hid T41
    clear T41 E40
    go_wp2_with fail
    go_ret
    exact E41.out.ret _
end Go.Proofs.Ytejingggfbmbjaa
