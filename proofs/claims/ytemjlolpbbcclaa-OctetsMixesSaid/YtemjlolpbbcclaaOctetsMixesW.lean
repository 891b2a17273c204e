/-
  The walk of OctetsMixes. Conditions: what a row hands over.
-/
import Derived.Test.YtemjlolpbbcclaaAwake
import Derived.Test.YtemjlolpbbcclaaH
import Derived.Test.YtemjlolpbbcclaaJ
import Derived.Test.YtemjlolpbbcclaaKeyEq
namespace Go.Proofs.Ytemjlolpbbcclaa
open Go.RowKit
set_option linter.unusedVariables false

theorem OwnB.empty (w : World) (e : TypeId) : OwnB (w.alloc (.cells #[] e)) w.heap.size e (.slice (some ⟨w.heap.size, 0, none⟩) 0 0) [] :=
  World.ownsRow_lit (base := w.heap.size) (e := e) (size := 1) w #[] 0 (Nat.le_refl _) (by simp [maxLen]) rfl

theorem key_of (l : List UInt8) : (if l.length = 32 then l else zeroKey).length = 32 := by
  split
  · assumption
  · exact zeroKey_length

set_option maxHeartbeats 4000000 in
theorem octetsMixes_walk (w : World) (va : Value) (a : List UInt8) (ha : Bs w va a) (vb : Value) (b : List UInt8) (hb : Bs w vb b) :
    Calls Try.prog 4 #[va, vb] w (RetV w (.bool true)) := by
  have HA := Lib.hid ha
  have HB := Lib.hid hb
  obtain ⟨A, ca, rfl, ha1, ha2, ha3⟩ := ha
  obtain ⟨B, cb, rfl, hb1, hb2, hb3⟩ := hb
  unfold maxLen at ha2 hb2
  clear ha3 hb3
  by_cases hla : 200 < a.length
  · have d1 : decide ((200 : Int) < (a.length : Int)) = true := by simp; omega
    go_enter Try.func4, Try.ntmps4
    go_wp2_with fail
    refine (awake_true _).mono ?_
    rintro e w1 ⟨rfl, b1⟩
    go_wp2
    go_ret
    exact ⟨rfl, b1⟩
  · have d1 : decide ((200 : Int) < (a.length : Int)) = false := by simp; omega
    by_cases hlb : 200 < b.length
    · have d2 : decide ((200 : Int) < (b.length : Int)) = true := by simp; omega
      go_enter Try.func4, Try.ntmps4
      go_wp2_with fail
      refine (awake_true _).mono ?_
      rintro e w1 ⟨rfl, b1⟩
      go_wp2
      go_ret
      exact ⟨rfl, b1⟩
    · have d2 : decide ((200 : Int) < (b.length : Int)) = false := by simp; omega
      obtain ⟨kk, hkk⟩ : ∃ kk, kk = if a.length = 32 then a else zeroKey := ⟨_, rfl⟩
      obtain ⟨ee, hee⟩ : ∃ ee : Int, ee = if a.length = 32 then 0 else if a.length < 32 then 3 else 2 := ⟨_, rfl⟩
      have HKL : Hid (kk.length = 32) := by rw [hkk]; exact key_of a
      have HK1 : Hid (∀ w', Bs w' (.slice A a.length ca) a → Calls Try.prog 23 #[.slice A a.length ca] w' (RetV w' (.tuple #[keyV kk, .int .i64 ee]))) := by
        intro w' h; rw [hkk, hee]; exact ToKey_any w' _ a h
      have HK2 : Hid (∀ w', Bs w' (.slice A a.length ca) a → Calls Try.prog 24 #[.slice A a.length ca] w' (RetV w' (.tuple #[keyV kk, .int .i64 ee]))) := by
        intro w' h; rw [hkk, hee]; exact refToKey_any w' _ a h
      have HJ : Hid (∀ w' v', Bss w' v' [a, b, a] → Calls Try.prog 25 #[v'] w' (RetBs w' (a ++ b ++ a))) := by
        intro w' v' h
        have hf : [a, b, a].flatten = a ++ b ++ a := by simp
        have := Join_any w' v' [a, b, a] h (by rw [hf]; simp; omega) (by simp)
        rwa [hf] at this
      obtain ⟨sv, hsv⟩ : ∃ sv, sv = (a == b) := ⟨_, rfl⟩
      have HS1 : Hid (∀ w', Bs w' (.slice A a.length ca) a → Bs w' (.slice B b.length cb) b → Calls Try.prog 21 #[.slice A a.length ca, .slice B b.length cb] w' fun e w'' => e = .returned (.bool sv) ∧ w' = w'') := by
        intro w' h1 h2; rw [hsv]; exact Same_any w' _ _ a b h1 h2
      have HS2 : Hid (∀ w', Bs w' (.slice A a.length ca) a → Calls Try.prog 21 #[.slice A a.length ca, .slice A a.length ca] w' fun e w'' => e = .returned (.bool true) ∧ w' = w'') := by
        intro w' h1
        have := Same_any w' _ _ a a h1 h1
        rwa [beq_self_eq_true] at this
      have HS3 : Hid (∀ w', Bs w' (.slice A a.length ca) a → Bs w' (.slice B b.length cb) b → Calls Try.prog 15 #[.slice A a.length ca, .slice B b.length cb] w' (RetV w' (.bool sv))) := by
        intro w' h1 h2; rw [hsv]; exact refSame_ret w' _ _ a b h1 h2
      have heq := fun w => Try.eqKeyIn kk kk HKL.out HKL.out w
      rw [beq_self_eq_true] at heq
      have hgd := Try.eqGuardKey
      clear hkk hee hsv
      go_enter Try.func4, Try.ntmps4
      go_wp2_with fail
      refine (awake_true _).mono ?_
      rintro e w1 ⟨rfl, b1⟩
      have ha1 := HA.out.below b1
      have hb1 := HB.out.below b1
      go_wp2_with fail
      refine (Xor_any _ _ _ a b ha1 hb1 (by omega) (by omega)).mono ?_
      rintro e w2 ⟨vx, rfl, hx2, b2'⟩
      have b2 := below_size b1 b2'
      have ha2 := HA.out.below b2
      have hb2 := HB.out.below b2
      clear b1 b2' ha1 hb1
      go_wp2_with fail
      refine (HS1.out _ ha2 hb2).mono ?_
      rintro e w2 ⟨rfl, rfl⟩
      go_wp2_with fail
      refine (HS2.out _ ha2).mono ?_
      rintro e w2 ⟨rfl, rfl⟩
      go_wp2_with fail
      refine (Hex_any _ _ a ha2 (by omega)).mono ?_
      rintro e w3 ⟨rfl, b3'⟩
      have b3 := below_size b2 b3'
      have ha3 := HA.out.below b3
      have hx3 := hx2.below b3'
      clear b2 b3' ha2 hb2 hx2
      go_wp2_with fail
      refine (HK1.out _ ha3).mono ?_
      rintro e w4 ⟨rfl, b4'⟩
      have b4 := below_size b3 b4'
      have ha4 := HA.out.below b4
      have hx4 := hx3.below b4'
      clear b3 b4' ha3 hx3
      go_wp2_with (first | ((with_reducible refine wpList_alloc_row (o := ⟨some 10, _, _, _, _, _⟩) rfl 32 rfl (keyC zeroKey) Try.zeroK ?_); intro g5 w5 n5) | ((with_reducible refine wpList_store_row rfl 32 (.tmp 10) (.tmp 40) rfl g5 32 (keyC zeroKey) (keyC kk) (by with_unfolding_all rfl) (by with_unfolding_all rfl) n5.row (keyC_same zeroKey_length HKL.out) (Try.sizeKey _ HKL.out) (keyC_one _) ?_); intro w6 p6; have b6' := p6.below n5.below n5.below.size (Nat.le_of_eq n5.spot.symm); have b6 := below_size b4 b6'; have hx6 := hx4.below b6'; have ha6 := HA.out.below b6; have hr6 := p6.row) | fail)
      clear b4 ha4 hx4 b6'
      refine (HK2.out _ ha6).mono ?_
      rintro e w7 ⟨rfl, b7'⟩
      have b7 := below_size b6 b7'
      have hx7 := hx6.below b7'
      have hr7 := hr6.kept b7'
      clear b6 b7' ha6 hx6 hr6
      go_wp2_with (first | ((with_reducible refine wpList_alloc_row (o := ⟨some 12, _, _, _, _, _⟩) rfl 32 rfl (keyC zeroKey) Try.zeroK ?_); intro g8 w8 n8) | ((with_reducible refine wpList_store_row rfl 32 (.tmp 12) (.tmp 45) rfl g8 32 (keyC zeroKey) (keyC kk) (by with_unfolding_all rfl) (by with_unfolding_all rfl) n8.row (keyC_same zeroKey_length HKL.out) (Try.sizeKey _ HKL.out) (keyC_one _) ?_); intro w9 p9; have b9' := p9.below n8.below n8.below.size (Nat.le_of_eq n8.spot.symm); have b9 := below_size b7 b9'; have hx9 := hx7.below b9'; have ha9 := HA.out.below b9; have hb9 := HB.out.below b9; have hr9 := hr7.kept b9'; have hq9 := p9.row) | fail)
      clear b7 hx7 hr7 b9'
      refine (HJ.out _ _ (Bss.three _ _ _ _ _ _ _ _ ha9 hb9 ha9)).mono ?_
      rintro e w10 ⟨vj, rfl, hj10, b10'⟩
      have b10 := below_size (b9.alloc b9.size _) b10'
      have hx10 := (hx9.alloc _).below b10'
      have hr10 := (hr9.alloc _).kept b10'
      have hq10 := (hq9.alloc _).kept b10'
      have ha10 := HA.out.below b10
      have hb10 := HB.out.below b10
      clear b9 b10' hx9 hr9 hq9 ha9 hb9
      go_wp2_with (first | (at_builtin; refine wpList_appB _ rfl (.tmp 52) (.tmp 53) 23 rfl w10 5 Try.infoB Try.underlying23 _ _ [] a rfl rfl (OwnB.empty w10 _) (ha10.alloc _) (by simp; omega) ((Below.refl _ _).alloc (Nat.le_refl _) _) ?_; intro v11 w11 o11 b11) | (at_builtin; refine wpList_appB _ rfl (.tmp 54) (.tmp 55) 23 rfl w10 5 Try.infoB Try.underlying23 _ _ ([] ++ a) b rfl rfl o11 (hb10.below b11) (by simp; omega) b11 ?_; intro v12 w12 o12 b12) | (at_builtin; refine wpList_appB _ rfl (.tmp 56) (.tmp 57) 23 rfl w10 5 Try.infoB Try.underlying23 _ _ ([] ++ a ++ b) a rfl rfl o12 (ha10.below b12) (by simp; omega) b12 ?_; intro v13 w13 o13 b13) | fail)
      have b14 := below_size b10 b13
      have hw14 : Bs w13 v13 (a ++ b ++ a) := o13.bs
      have hj14 := hj10.below b13
      have hx14 := hx10.below b13
      have hr14 := hr10.kept b13
      have hq14 := hq10.kept b13
      have ha14 := HA.out.below b14
      have hb14 := HB.out.below b14
      clear b10 b11 b12 b13 o11 o12 o13 hj10 hx10 hr10 hq10 ha10 hb10
      refine (refXor_any _ _ _ a b ha14 hb14 (by omega) (by omega)).mono ?_
      rintro e w15 ⟨vr, rfl, hv15, b15'⟩
      have b15 := below_size b14 b15'
      have hw15 := hw14.below b15'
      have hj15 := hj14.below b15'
      have hx15 := hx14.below b15'
      have hr15 := hr14.kept b15'
      have hq15 := hq14.kept b15'
      clear b14 b15' hw14 hj14 hx14 hr14 hq14 ha14 hb14
      go_wp2_with fail
      refine (refSame_yes _ _ _ _ hx15 hv15).mono ?_
      rintro e w16 ⟨rfl, b16'⟩
      have b16 := below_size b15 b16'
      have hw16 := hw15.below b16'
      have hj16 := hj15.below b16'
      have hr16 := hr15.kept b16'
      have hq16 := hq15.kept b16'
      have ha16 := HA.out.below b16
      have hb16 := HB.out.below b16
      clear b15 b16' hw15 hj15 hx15 hv15 hr15 hq15
      go_wp2_with fail
      refine (HS3.out _ ha16 hb16).mono ?_
      rintro e w17 ⟨rfl, b17'⟩
      have b17 := below_size b16 b17'
      have hw17 := hw16.below b17'
      have hj17 := hj16.below b17'
      have hr17 := hr16.kept b17'
      have hq17 := hq16.kept b17'
      have ha17 := HA.out.below b17
      clear b16 b17' hw16 hj16 hr16 hq16 ha16 hb16
      go_wp2_with fail
      refine (refHex_any _ _ a ha17 (by omega)).mono ?_
      rintro e w18 ⟨rfl, b18'⟩
      have b18 := below_size b17 b18'
      have hw18 := hw17.below b18'
      have hj18 := hj17.below b18'
      have hr18 := hr17.kept b18'
      have hq18 := hq17.kept b18'
      clear b17 b18' hw17 hj17 hr17 hq17 ha17
      go_wp2_with (first | (with_reducible refine wpListG_load_row 32 (.tmp 10) rfl (by with_unfolding_all rfl) g5 (by with_unfolding_all rfl) 32 (keyC kk) (.array 32 5) hr18 Try.underlying32 rfl (Try.sizeKey _ HKL.out) ?_) | (with_reducible refine wpListG_load_row 32 (.tmp 12) rfl (by with_unfolding_all rfl) g8 (by with_unfolding_all rfl) 32 (keyC kk) (.array 32 5) hq18 Try.underlying32 rfl (Try.sizeKey _ HKL.out) ?_) | fail)
      refine (refSame_yes _ _ _ _ hj18 hw18).mono ?_
      rintro e w19 ⟨rfl, b19'⟩
      have b19 := below_size b18 b19'
      go_wp2
      go_ret
      exact ⟨rfl, b19⟩
end Go.Proofs.Ytemjlolpbbcclaa
