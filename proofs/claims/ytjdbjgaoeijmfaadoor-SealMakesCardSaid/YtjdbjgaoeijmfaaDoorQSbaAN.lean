/-
  Texts that belong together, merged: SealH, SealAwA, SealI, SealAw, A, Same, SealBackW, SealRefA. Conditions: as each theorem names them.
-/
import Derived.Test.YtjdbjgaoeijmfaaDoorQSbaAM
import Derived.Test.YtjdbjgaoeijmfaaDoorQSbaAG
import Derived.Laws.OwnMore
import Derived.Lib.SlBytesConst
import Derived.Test.YtjdbjgaoeijmfaaDoorChecked
import Derived.Test.YtjdbjgaoeijmfaaDoorQSbaAA
import Derived.WalkKit
import Derived.LoopTactic
import Derived.RegionTactic
import Derived.Deep.QuietTactic
import Derived.BigQuiet
import Derived.Outline
import Derived.WalkSpells
import Derived.Test.YtjdbjgaoeijmfaaDoorQSbaAC
import Derived.Test.YtjdbjgaoeijmfaaDoorQSbaAJ
section
namespace Go.Proofs.YtjdbjgaoeijmfaaDoor
open Go.RowKit
set_option linter.unusedVariables false
set_option maxRecDepth 20000

set_option maxHeartbeats 2000000 in
theorem Open_ok (w0 w : World) (hq : Quar w0) (g n : Nat) (hr : Run w0 w g n w) (hn : n ≤ 900000) (key : List UInt8) (hk : key.length = 32) (va vt : Value) (aside hid end_ : List UInt8) (ha : Bs w va aside) (ht : Bs w vt (hid ++ end_)) (hal : aside.length ≤ 4000) (htl : hid.length ≤ 4000) (hel : end_.length = 32) :
    Calls Tryd.prog 14 #[.pointer (some ⟨g, 0, none⟩), keyV key, va, vt] w fun e x => ∃ u n', n' ≤ n + 9 ∧ e = .returned (.tuple #[u, .int .i64 (if tagB key aside hid = end_ then 0 else 20)]) ∧ Bs x u (if tagB key aside hid = end_ then hidB key hid else []) ∧ Run w0 w g n' x := by
  have HR := Lib.hid hr
  have HQ := Lib.hid hq
  have HK := Lib.hid hk
  have HA := Lib.hid ha
  have hgl := hr.self.glt
  obtain ⟨AA, ac, rfl, _, _, _⟩ := ha
  have ht2 := ht
  obtain ⟨TA, tc, rfl, t1, t2, _⟩ := ht2
  obtain ⟨m, hm⟩ : ∃ m, m = hid.length := ⟨_, rfl⟩
  have hlen : (hid ++ end_).length = m + 32 := by rw [List.length_append, hel, hm]
  have HH := Lib.hid (ht.upto m (by rw [hlen]; omega))
  have HE := Lib.hid (ht.cut m (by rw [hlen]; omega))
  rw [hlen] at HE t1
  have hne : ¬ tc = m := by omega
  rw [if_neg hne, show m + 32 - m = 32 by omega, List.drop_left' hm.symm] at HE
  rw [List.take_left' hm.symm] at HH
  rw [hlen]
  obtain ⟨tg, htg⟩ : ∃ h, h = tagB key aside hid := ⟨_, rfl⟩
  obtain ⟨res, hres⟩ : ∃ h, h = hidB key hid := ⟨_, rfl⟩
  have LT : Hid (tg.length = 32) := by show _ = _; rw [htg, tagB, macB_length]
  obtain ⟨kx, hkx⟩ : ∃ k, k = hideK key := ⟨_, rfl⟩
  obtain ⟨ky, hky⟩ : ∃ k, k = tagK key := ⟨_, rfl⟩
  have LY : ky.length = 32 := by rw [hky]; exact tagK_length key
  have HTG := Lib.hid (fun W b n hm hn hbg hb hr => sealTag_any w0 w W b g n key zero32L zero32L aside hid 0 0 _ _ hr hn hbg hb hm (fun n x r _ => r.bs HA.out) (fun n x r _ => r.bs HH.out) hal (Nat.le_trans htl (by decide)))
  have HMX := Lib.hid (fun W b n hm hn hbg hb hr => sealMixed_any w0 w W HQ.out b g n key zero32L ky hid 1 0 _ hr hn hbg hb hm (fun n x r _ => r.bs HH.out) htl)
  rw [← htg, ← hky] at HTG
  rw [← hres, ← hkx] at HMX
  rw [← htg, ← hres]
  have d1 : decide ((4000 : Int) < (aside.length : Int)) = false := by simp; omega
  have d2 : decide ((4032 : Int) < ((m + 32 : Nat) : Int)) = false := by simp; omega
  have d3 : decide (((m + 32 : Nat) : Int) < 32) = false := by simp; omega
  have w1' : IntKind.i64.wrap (((m + 32 : Nat) : Int) - 32) = (m : Int) := by rw [IntWalk.i64_in _ (by omega)]; omega
  have lk : Hid (zero32L.length = 32) := zero32L_length
  have HEL := Lib.hid hel
  obtain ⟨M, hM⟩ : ∃ M, M = m + 32 := ⟨_, rfl⟩
  rw [← hM] at d2 d3 w1' t1 ⊢
  have q1 : (m : Int) ≤ (M : Int) := by omega
  have q2 : M - m = 32 := by omega
  have q3 : (m : Int) ≤ (tc : Int) := by omega
  have q4 : ((M : Int) - 32) = (m : Int) := by omega
  have w2' : IntKind.i64.wrap (m : Int) = (m : Int) := IntWalk.i64_in _ (by omega)
  obtain ⟨ec, hec⟩ : ∃ c : Int, c = if tg = end_ then 0 else 20 := ⟨_, rfl⟩
  obtain ⟨bl, hbl⟩ : ∃ c : List UInt8, c = if tg = end_ then res else [] := ⟨_, rfl⟩
  rw [← hec, ← hbl]
  have HEC := Lib.hid hec
  have HBL := Lib.hid hbl
  clear hec hbl
  unfold maxLen at t2
  clear htg hres hr hq hk hkx hky hlen hel hM ht hm
  go_enter Tryd.func14, Tryd.ntmps14
  go_wp2_with (first
    | ((with_reducible refine wpList_box_row (o := ⟨some 5, _, _, _, _, _⟩) rfl 23 (.tmp 1) rfl (keyC key) (by with_unfolding_all rfl) ?_); intro g5 w1 n1)
    | (with_reducible refine wpList_load_row (o := ⟨some 26, _, _, _, _, _⟩) rfl 23 (.tmp 5) rfl g5 (by with_unfolding_all rfl) 23 (keyC key) (0, 0) (.array 32 5) (by with_unfolding_all exact n1.row) Tryd.underlying23 rfl (Tryd.sizeKey key HK.out) ?_)
    | (with_reducible refine wpList_build_maker (o := ⟨some 27, _, _, _, _, _⟩) rfl (.tmp 25) (.tmp 26) rfl g key (by with_unfolding_all rfl) (by with_unfolding_all rfl) HK.out ?_)
    | ((with_reducible refine wpList_box_row (o := ⟨some 28, _, _, _, _, _⟩) rfl 61 (.tmp 27) rfl (makerL g key 0 0 zero32L 0 0 zero32L).toArray (by with_unfolding_all rfl) ?_); intro b w2 n2))
  have hbw : w.heap.size ≤ b := by have := n2.spot; have := n1.below.size; omega
  have hbg : b ≠ g := by omega
  have M2 := Lib.hid (show MakerAt w2 b g key 0 0 zero32L 0 0 zero32L from ⟨n2.row, HK.out, lk.out, lk.out⟩)
  have R2 := Lib.hid (HR.out.kept (below_size n1.below n2.below))
  clear n1 n2
  refine region_class (fun x => x = w2.drew) rfl (by kernel_rfl) (by kernel_rfl) ?_
  refine q_run (by rfl) (v := .slice TA M tc) (fun W _ => by clear M2 R2 HTG HMX HR HQ HA HH HE; go_simp) ?_
  simp only [Act.put, List.setIfInBounds_toArray, List.set_cons_zero, List.set_cons_succ]
  refine q_run (by rfl) (v := .slice TA M tc) (fun W _ => by clear M2 R2 HTG HMX HR HQ HA HH HE; go_simp) ?_
  simp only [Act.put, List.setIfInBounds_toArray, List.set_cons_zero, List.set_cons_succ]
  refine q_run (by rfl) (v := .int .i64 (M : Int)) (fun W _ => by clear M2 R2 HTG HMX HR HQ HA HH HE; go_simp) ?_
  simp only [Act.put, List.setIfInBounds_toArray, List.set_cons_zero, List.set_cons_succ]
  refine q_run (by rfl) (v := .int .i64 (m : Int)) (fun W _ => by clear M2 R2 HTG HMX HR HQ HA HH HE; go_simp) ?_
  simp only [Act.put, List.setIfInBounds_toArray, List.set_cons_zero, List.set_cons_succ]
  refine q_run (by rfl) (v := .slice TA m tc) (fun W _ => by clear M2 R2 HTG HMX HR HQ HA HH HE; go_simp) ?_
  simp only [Act.put, List.setIfInBounds_toArray, List.set_cons_zero, List.set_cons_succ]
  refine q_run (by rfl) (v := .slice TA M tc) (fun W _ => by clear M2 R2 HTG HMX HR HQ HA HH HE; go_simp) ?_
  simp only [Act.put, List.setIfInBounds_toArray, List.set_cons_zero, List.set_cons_succ]
  refine q_run (by rfl) (v := .slice TA M tc) (fun W _ => by clear M2 R2 HTG HMX HR HQ HA HH HE; go_simp) ?_
  simp only [Act.put, List.setIfInBounds_toArray, List.set_cons_zero, List.set_cons_succ]
  refine q_run (by rfl) (v := .int .i64 (M : Int)) (fun W _ => by clear M2 R2 HTG HMX HR HQ HA HH HE; go_simp) ?_
  simp only [Act.put, List.setIfInBounds_toArray, List.set_cons_zero, List.set_cons_succ]
  refine q_run (by rfl) (v := .int .i64 (m : Int)) (fun W _ => by clear M2 R2 HTG HMX HR HQ HA HH HE; go_simp) ?_
  simp only [Act.put, List.setIfInBounds_toArray, List.set_cons_zero, List.set_cons_succ]
  refine q_run (by rfl) (v := .slice (Option.map (fun x => x.add m) TA) 32 (tc - m)) (fun W _ => by clear M2 R2 HTG HMX HR HQ HA HH HE; go_simp) ?_
  simp only [Act.put, List.setIfInBounds_toArray, List.set_cons_zero, List.set_cons_succ]
  refine q_run (by rfl) (v := .slice TA m tc) (fun W _ => by clear M2 R2 HTG HMX HR HQ HA HH HE; go_simp) ?_
  simp only [Act.put, List.setIfInBounds_toArray, List.set_cons_zero, List.set_cons_succ]
  refine q_run (by rfl) (v := .slice (Option.map (fun x => x.add m) TA) 32 (tc - m)) (fun W _ => by clear M2 R2 HTG HMX HR HQ HA HH HE; go_simp) ?_
  simp only [Act.put, List.setIfInBounds_toArray, List.set_cons_zero, List.set_cons_succ]
  refine wpQuiet_nil ?_
  intro w3 h3
  subst h3
  have M3 := Lib.hid M2.out.drew
  have R3 := Lib.hid (R2.out.kept (Below.refl w2.heap.size w2).drew)
  clear M2 R2
  go_wp2_with fail
  refine (HTG.out w2.drew b n M3.out (by omega) hbg hbw R3.out).mono ?_
  intro e w4 h
  obtain ⟨n4, hn4, he, r4, a4, m4⟩ := h
  subst he
  have R4 := Lib.hid r4
  have M4 := Lib.hid m4
  clear r4 a4 m4 HTG R3 M3
  go_wp2_with (first
    | ((with_reducible refine wpList_alloc_row (o := ⟨some 13, _, _, _, _, _⟩) rfl 23 rfl (keyC zeroKey) Tryd.zeroK ?_); intro g13 w5 n5)
    | ((with_reducible refine wpList_store_row (o := ⟨none, _, _, _, _, _⟩) rfl 23 (.tmp 13) (.tmp 42) rfl g13 23 _ (keyC tg) (by with_unfolding_all rfl) (by with_unfolding_all rfl) n5.row (keyC_same zeroKey_length LT.out) (Tryd.sizeKey tg LT.out) (keyC_one tg) ?_); intro w6 p6; have b6 := (laid_put n5 p6).1; have R6 := Lib.hid (R4.out.kept b6); have M6 := Lib.hid (M4.out.kept b6); have K6 := Lib.hid p6.row; clear n5 p6 b6 R4 M4))
  refine (Same_any _ _ _ tg end_ (row32 K6.out LT.out) (R6.out.bs HE.out)).mono ?_
  rintro e w7 ⟨he, hw⟩
  subst he hw
  by_cases heq : tg = end_
  · have hb : (tg == end_) = true := by rw [heq]; exact beq_self_eq_true _
    rw [hb]
    have HEQ := Lib.hid heq
    clear heq hb
    go_wp2_with fail
    refine (HMX.out w6 b n4 M6.out (by omega) hbg hbw R6.out).mono ?_
    intro e w8 h
    obtain ⟨u, n8, hn8, he, hu, r8, a8, m8⟩ := h
    subst he
    have U8 := Lib.hid hu.bs
    have R8 := Lib.hid r8
    clear hu r8 a8 m8 HMX
    go_wp2
    go_ret2
    exact ⟨u, n8, by omega, by rw [HEC.out, if_pos HEQ.out]; rfl, by rw [HBL.out, if_pos HEQ.out]; exact U8.out, R8.out⟩
  · have hb : (tg == end_) = false := by rw [beq_eq_false_iff_ne]; exact heq
    rw [hb]
    have HEQ := Lib.hid heq
    clear heq hb
    go_wp2
    go_ret2
    exact ⟨_, n4, by omega, by rw [HEC.out, if_neg HEQ.out]; rfl, by rw [HBL.out, if_neg HEQ.out]; exact Bs.nil _, R6.out⟩
end Go.Proofs.YtjdbjgaoeijmfaaDoor
end
section
namespace Go.Proofs.YtjdbjgaoeijmfaaDoor
set_option linter.unusedVariables false

def k7K : List UInt8 := 7 :: List.replicate 31 0
theorem k7Lit : #[.int .u8 7, .int .u8 0, .int .u8 0, .int .u8 0, .int .u8 0, .int .u8 0, .int .u8 0, .int .u8 0, .int .u8 0, .int .u8 0, .int .u8 0, .int .u8 0, .int .u8 0, .int .u8 0, .int .u8 0, .int .u8 0, .int .u8 0, .int .u8 0, .int .u8 0, .int .u8 0, .int .u8 0, .int .u8 0, .int .u8 0, .int .u8 0, .int .u8 0, .int .u8 0, .int .u8 0, .int .u8 0, .int .u8 0, .int .u8 0, .int .u8 0, .int .u8 0] = keyC k7K := rfl
def helloB : List UInt8 := [104, 101, 108, 108, 111]
def awH : List UInt8 := hidB k7K helloB
def awT : List UInt8 := tagB k7K [97] awH
theorem aw_other : (tagB k7K [98] awH == awT) = false := by decide +kernel
theorem aw_bad : (tagB k7K [97] (awH.set 2 (awH.getD 2 0 ^^^ 1)) == awT) = false := by decide +kernel
end Go.Proofs.YtjdbjgaoeijmfaaDoor
end
section
namespace Go.Proofs.YtjdbjgaoeijmfaaDoor
open Go.RowKit
set_option linter.unusedVariables false
set_option maxRecDepth 20000

set_option maxHeartbeats 1000000 in
theorem Seal_long (w : World) (M : Value) (key : List UInt8) (va vt : Value) (aside text : List UInt8) (ha : Bs w va aside) (ht : Bs w vt text) (h : 4000 < aside.length ∨ 4000 < text.length) :
    Calls Tryd.prog 9 #[M, keyV key, va, vt] w fun e x => e = .returned (.tuple #[.slice none 0 0, .int .i64 2]) ∧ Below w.heap.size w x := by
  obtain ⟨AA, ac, rfl, _, _, _⟩ := ha
  obtain ⟨TA, tc, rfl, _, _, _⟩ := ht
  by_cases h1 : 4000 < aside.length
  · have d1 : decide ((4000 : Int) < (aside.length : Int)) = true := by simp; omega
    clear h h1
    go_enter Tryd.func9, Tryd.ntmps9
    go_wp2_with ((with_reducible refine wpList_box_row (o := ⟨some 5, _, _, _, _, _⟩) rfl 23 (.tmp 1) rfl (keyC key) (by with_unfolding_all rfl) ?_); intro g5 w1 n1)
    go_ret2
    exact ⟨rfl, n1.below⟩
  · have d1 : decide ((4000 : Int) < (aside.length : Int)) = false := by simp; omega
    have d2 : decide ((4000 : Int) < (text.length : Int)) = true := by simp; omega
    clear h h1
    go_enter Tryd.func9, Tryd.ntmps9
    go_wp2_with ((with_reducible refine wpList_box_row (o := ⟨some 5, _, _, _, _, _⟩) rfl 23 (.tmp 1) rfl (keyC key) (by with_unfolding_all rfl) ?_); intro g5 w1 n1)
    go_ret2
    exact ⟨rfl, n1.below⟩
set_option maxHeartbeats 1000000 in
theorem Open_long (w : World) (M : Value) (key : List UInt8) (va vt : Value) (aside box : List UInt8) (ha : Bs w va aside) (ht : Bs w vt box) (h : 4000 < aside.length ∨ 4032 < box.length) :
    Calls Tryd.prog 14 #[M, keyV key, va, vt] w fun e x => e = .returned (.tuple #[.slice none 0 0, .int .i64 2]) ∧ Below w.heap.size w x := by
  obtain ⟨AA, ac, rfl, _, _, _⟩ := ha
  obtain ⟨TA, tc, rfl, _, _, _⟩ := ht
  by_cases h1 : 4000 < aside.length
  · have d1 : decide ((4000 : Int) < (aside.length : Int)) = true := by simp; omega
    clear h h1
    go_enter Tryd.func14, Tryd.ntmps14
    go_wp2_with ((with_reducible refine wpList_box_row (o := ⟨some 5, _, _, _, _, _⟩) rfl 23 (.tmp 1) rfl (keyC key) (by with_unfolding_all rfl) ?_); intro g5 w1 n1)
    go_ret2
    exact ⟨rfl, n1.below⟩
  · have d1 : decide ((4000 : Int) < (aside.length : Int)) = false := by simp; omega
    have d2 : decide ((4032 : Int) < (box.length : Int)) = true := by simp; omega
    clear h h1
    go_enter Tryd.func14, Tryd.ntmps14
    go_wp2_with ((with_reducible refine wpList_box_row (o := ⟨some 5, _, _, _, _, _⟩) rfl 23 (.tmp 1) rfl (keyC key) (by with_unfolding_all rfl) ?_); intro g5 w1 n1)
    go_ret2
    exact ⟨rfl, n1.below⟩
set_option maxHeartbeats 1000000 in
theorem Open_short (w : World) (M : Value) (key : List UInt8) (va vt : Value) (aside box : List UInt8) (ha : Bs w va aside) (ht : Bs w vt box) (h1 : aside.length ≤ 4000) (h2 : box.length < 32) :
    Calls Tryd.prog 14 #[M, keyV key, va, vt] w fun e x => e = .returned (.tuple #[.slice none 0 0, .int .i64 3]) ∧ Below w.heap.size w x := by
  obtain ⟨AA, ac, rfl, _, _, _⟩ := ha
  obtain ⟨TA, tc, rfl, _, _, _⟩ := ht
  have d1 : decide ((4000 : Int) < (aside.length : Int)) = false := by simp; omega
  have d2 : decide ((4032 : Int) < (box.length : Int)) = false := by simp; omega
  have d3 : decide ((box.length : Int) < 32) = true := by simp; omega
  clear h1 h2
  go_enter Tryd.func14, Tryd.ntmps14
  go_wp2_with ((with_reducible refine wpList_box_row (o := ⟨some 5, _, _, _, _, _⟩) rfl 23 (.tmp 1) rfl (keyC key) (by with_unfolding_all rfl) ?_); intro g5 w1 n1)
  go_ret2
  exact ⟨rfl, n1.below⟩
end Go.Proofs.YtjdbjgaoeijmfaaDoor
end
section
namespace Go.Proofs.YtjdbjgaoeijmfaaDoor
open Go.RowKit
set_option linter.unusedVariables false
set_option maxRecDepth 20000

theorem Bs.litZ (w : World) (e : TypeId) (l : List UInt8) (c : Array Value) (f : Nat × Nat) (hc : c.toList = cellsB l) (hm : l.length ≤ maxLen) : Bs (w.alloc (.cells c e f)) (.slice (some ⟨w.heap.size, 0, none⟩) l.length l.length) l := by
  refine ⟨_, _, rfl, Nat.le_refl _, hm, fun _ => ⟨w.heap.size, 0, rfl, fun j hj => ?_⟩⟩
  have h := cellsB_get l j hj
  rw [← hc] at h
  rw [Nat.zero_add, cell_of_row (w.alloc (.cells c e f)) w.heap.size j c e f (heap_alloc_new w _)]
  simpa using h
theorem wp_make31 {o : Oper} {a : Act} {w : World} {KK : Act → World → Prop} {Q : Exit → Act → World → Prop} (ho : o.op = .makeSlice 24 (.const (.int .i64 31)) (.const (.int .i64 31)))
    (h : ∀ A w', Bs w' (.slice (some ⟨A, 0, none⟩) 31 31) (List.replicate 31 0) → Below w.heap.size w w' → KK (a.put o.dst (.slice (some ⟨A, 0, none⟩) 31 31)) w') : o.wp Tryd.prog a w KK Q := by
  obtain ⟨i0, hi, hz0, hz1, hz2⟩ := info_parts Tryd.infoB
  obtain ⟨w', hr, hown, hg⟩ := run_makeSlice_full (P := Tryd.prog) (w := w) w.heap.size 24 5 i0 (.int .u8 0) 1 Tryd.underlying24 hi hz0 hz1 .i64 .i64 31 (by omega) (by rw [hz2]; omega) (by unfold maxLen; omega) (Nat.le_refl _)
  rw [made_zeros] at hown
  have hb : Below w.heap.size w w' := (Below.refl _ _).grown hg (Nat.le_refl _) (fun k e => by cases e)
  unfold Oper.wp execOp
  simp only [ho, Act.eval, Sem.run_bind]
  rw [show ((31 : Nat) : Int) = 31 from rfl] at hr
  rw [hr]
  exact h _ _ (Bs.of_own hown) hb

set_option maxHeartbeats 8000000 in
theorem sealAwake_any (w : World) (hq : Tabs w ∧ Quar w) : Calls Tryd.prog 7 #[] w (RetV w (.bool true)) := by
  have HQ := Lib.hid hq
  clear hq
  obtain ⟨k7, hk7⟩ : ∃ k, k = k7K := ⟨_, rfl⟩
  obtain ⟨hh, hhh⟩ : ∃ k, k = awH := ⟨_, rfl⟩
  obtain ⟨tt, htt⟩ : ∃ k, k = awT := ⟨_, rfl⟩
  have L7 : Hid (k7.length = 32) := by show _ = _; rw [hk7]; rfl
  have LH : Hid (hh.length = 5) := by show _ = _; rw [hhh, awH, hidB, mixS_length]; rfl
  have LT : Hid (tt.length = 32) := by show _ = _; rw [htt, awT, tagB, macB_length]
  have CS : Hid (∀ g x n va vt, Run w x g n x → n ≤ 900000 → Bs x va [97] → Bs x vt helloB → Calls Tryd.prog 9 #[.pointer (some ⟨g, 0, none⟩), .agg (keyC k7), va, vt] x fun e y => ∃ u n', n' ≤ n + 9 ∧ e = .returned (.tuple #[u, .int .i64 0]) ∧ Bs y u (hh ++ tt) ∧ Run w x g n' y) := fun g x n va vt hr hn ha hb => by
    have h := Seal_ok w x HQ.out.2 g n hr hn k7 L7.out va vt [97] helloB ha hb (by decide) (by decide)
    rw [show sealB k7 [97] helloB = hh ++ tt by rw [hk7, hhh, htt]; rfl] at h
    exact h
  have CO : Hid (∀ g x n va vt, Run w x g n x → n ≤ 900000 → Bs x va [97] → Bs x vt (hh ++ tt) → Calls Tryd.prog 14 #[.pointer (some ⟨g, 0, none⟩), .agg (keyC k7), va, vt] x fun e y => ∃ u n', n' ≤ n + 9 ∧ e = .returned (.tuple #[u, .int .i64 0]) ∧ Bs y u helloB ∧ Run w x g n' y) := fun g x n va vt hr hn ha hb => by
    have h := Open_ok w x HQ.out.2 g n hr hn k7 L7.out va vt [97] hh tt ha hb (by decide) (by rw [LH.out]; omega) LT.out
    rw [if_pos (by rw [hk7, hhh, htt]; rfl), if_pos (by rw [hk7, hhh, htt]; rfl), show hidB k7 hh = helloB by rw [hk7, hhh, awH]; exact mixS_twice _ _ _ _] at h
    exact h
  have CB : Hid (∀ g x n va vt, Run w x g n x → n ≤ 900000 → Bs x va [98] → Bs x vt (hh ++ tt) → Calls Tryd.prog 14 #[.pointer (some ⟨g, 0, none⟩), .agg (keyC k7), va, vt] x fun e y => ∃ u n', n' ≤ n + 9 ∧ e = .returned (.tuple #[u, .int .i64 20]) ∧ Run w x g n' y) := fun g x n va vt hr hn ha hb => by
    have h := Open_ok w x HQ.out.2 g n hr hn k7 L7.out va vt [98] hh tt ha hb (by decide) (by rw [LH.out]; omega) LT.out
    have hne : ¬ tagB k7 [98] hh = tt := by rw [hk7, hhh, htt]; have := aw_other; rwa [beq_eq_false_iff_ne] at this
    rw [if_neg hne, if_neg hne] at h
    exact h.mono fun e y ⟨u, n', h1, h2, _, h4⟩ => ⟨u, n', h1, h2, h4⟩
  obtain ⟨bd, hbd⟩ : ∃ k, k = (hh ++ tt).set 2 ((hh ++ tt).getD 2 0 ^^^ 1) := ⟨_, rfl⟩
  obtain ⟨x2, hx2⟩ : ∃ x, x = (hh ++ tt).getD 2 0 := ⟨_, rfl⟩
  have hbd2 : bd = hh.set 2 (hh.getD 2 0 ^^^ 1) ++ tt := by
    rw [hbd, List.set_append_left _ _ (by rw [LH.out]; omega), List.getD_eq_getElem?_getD, List.getElem?_append_left (by rw [LH.out]; omega), ← List.getD_eq_getElem?_getD]
  have HBD : Hid (bd = (hh ++ tt).set 2 (x2 ^^^ 1)) := by show _ = _; rw [hbd, hx2]
  have HX2 : Hid ((hh ++ tt)[2]? = some x2) := by show _ = _; rw [hx2, List.getD_eq_getElem?_getD, List.getElem?_eq_getElem (by rw [List.length_append, LH.out]; omega)]; rfl
  have LB : Hid ((hh ++ tt).length = 37) := by show _ = _; rw [List.length_append, LH.out, LT.out]
  have CX : Hid (∀ g x n va vt, Run w x g n x → n ≤ 900000 → Bs x va [97] → Bs x vt bd → Calls Tryd.prog 14 #[.pointer (some ⟨g, 0, none⟩), .agg (keyC k7), va, vt] x fun e y => ∃ u n', n' ≤ n + 9 ∧ e = .returned (.tuple #[u, .int .i64 20]) ∧ Run w x g n' y) := fun g x n va vt hr hn ha hb => by
    rw [hbd2] at hb
    have h := Open_ok w x HQ.out.2 g n hr hn k7 L7.out va vt [97] (hh.set 2 (hh.getD 2 0 ^^^ 1)) tt ha hb (by decide) (by rw [List.length_set, LH.out]; omega) LT.out
    have hne : ¬ tagB k7 [97] (hh.set 2 (hh.getD 2 0 ^^^ 1)) = tt := by rw [hk7, hhh, htt]; have := aw_bad; rwa [beq_eq_false_iff_ne] at this
    rw [if_neg hne, if_neg hne] at h
    exact h.mono fun e y ⟨u, n', h1, h2, _, h4⟩ => ⟨u, n', h1, h2, h4⟩
  have CZ : Hid (∀ M x va vt, Bs x va [] → Bs x vt (List.replicate 31 0) → Calls Tryd.prog 14 #[M, .agg (keyC k7), va, vt] x fun e y => e = .returned (.tuple #[.slice none 0 0, .int .i64 3]) ∧ Below x.heap.size x y) := fun M x va vt ha hb => Open_short x M k7 va vt [] _ ha hb (by decide) (by decide)
  have HK7 : Hid (Value.agg #[.int .u8 7, .int .u8 0, .int .u8 0, .int .u8 0, .int .u8 0, .int .u8 0, .int .u8 0, .int .u8 0, .int .u8 0, .int .u8 0, .int .u8 0, .int .u8 0, .int .u8 0, .int .u8 0, .int .u8 0, .int .u8 0, .int .u8 0, .int .u8 0, .int .u8 0, .int .u8 0, .int .u8 0, .int .u8 0, .int .u8 0, .int .u8 0, .int .u8 0, .int .u8 0, .int .u8 0, .int .u8 0, .int .u8 0, .int .u8 0, .int .u8 0, .int .u8 0] = .agg (keyC k7)) := by show _ = _; rw [hk7]; rfl
  obtain ⟨bx, hbx⟩ : ∃ b, b = hh ++ tt := ⟨_, rfl⟩
  rw [← hbx] at CS CO CB HBD HX2 LB
  clear hbd hbd2 hx2 hk7 hhh htt hbx
  go_enter Tryd.func7, Tryd.ntmps7
  go_wp2_with fail
  refine (New_any _ false).mono ?_
  intro e w1 h
  obtain ⟨g, he, n1⟩ := h
  subst he
  have R1 := Lib.hid (Run.new HQ.out.1 (Below.refl _ _) n1)
  have gl := n1.row.lt
  clear n1
  go_wp2_with (first
    | ((with_reducible refine wpList_alloc_row (o := ⟨some 2, _, _, _, _, _⟩) rfl 23 rfl (keyC zeroKey) Tryd.zeroK ?_); intro g2 w2 n2)
    | ((with_reducible refine wpList_store_row (o := ⟨none, _, _, _, _, _⟩) rfl 23 (.tmp 2) (.tmp 15) rfl g2 23 _ (keyC k7) (by with_unfolding_all rfl) (by with_unfolding_all exact HK7.out) n2.row (keyC_same zeroKey_length L7.out) (Tryd.sizeKey k7 L7.out) (keyC_one k7) ?_); intro w3 p3; have b3 := (laid_put n2 p3).1; have R3 := Lib.hid (R1.out.kept b3); have K3 := Lib.hid p3.row; have h2g : g2 ≠ g := (by have := n2.spot; omega); clear n2 p3 b3 R1)
    | ((with_reducible refine wpList_load_row (o := ⟨some 18, _, _, _, _, _⟩) rfl 23 (.tmp 2) rfl g2 (by with_unfolding_all rfl) 23 (keyC k7) (0, 0) (.array 32 5) (by with_unfolding_all exact K3.out) Tryd.underlying23 rfl (Tryd.sizeKey k7 L7.out) ?_); have hcv := Go.Lib.run_convert_bytes_const (P := Tryd.prog) (w3.alloc (.cells #[.int .u8 97] 5)) 24 5 #[.int .u8 104, .int .u8 101, .int .u8 108, .int .u8 108, .int .u8 111] 5 5 Tryd.underlying24 Tryd.underlying5; simp only [size_alloc] at hcv))
  clear hcv
  have RA := Lib.hid (((R3.out.kept (alloc_below w3 (.cells #[.int .u8 97] 5))).kept (alloc_below _ (.cells #[.int .u8 104, .int .u8 101, .int .u8 108, .int .u8 108, .int .u8 111] 5 (5, 6)))).self)
  have BA : Hid (Bs ((w3.alloc (.cells #[.int .u8 97] 5)).alloc (.cells #[.int .u8 104, .int .u8 101, .int .u8 108, .int .u8 108, .int .u8 111] 5 (5, 6))) (.slice (some ⟨w3.heap.size, 0, none⟩) 1 1) [97]) := (show Bs _ (.slice (some ⟨w3.heap.size, 0, none⟩) 1 1) [97] from Bs.lit w3 _ [97] #[.int .u8 97] rfl (by simp [maxLen])).below (alloc_below _ _)
  have BT : Hid (Bs ((w3.alloc (.cells #[.int .u8 97] 5)).alloc (.cells #[.int .u8 104, .int .u8 101, .int .u8 108, .int .u8 108, .int .u8 111] 5 (5, 6))) (.slice (some ⟨w3.heap.size + 1, 0, none⟩) 5 5) helloB) := by
    have h := Bs.litZ (w3.alloc (.cells #[.int .u8 97] 5)) 5 helloB #[.int .u8 104, .int .u8 101, .int .u8 108, .int .u8 108, .int .u8 111] (5, 6) rfl (by simp [helloB, maxLen])
    simp only [size_alloc] at h
    exact h
  refine (CS.out g _ 0 _ _ (by exact RA.out) (by omega) (by exact BA.out) (by exact BT.out)).mono ?_
  intro e w4 h
  obtain ⟨u, n4, hn4, he, hu, r4⟩ := h
  subst he
  have K4 := Lib.hid (r4.other ((K3.out.kept (alloc_below w3 (.cells #[.int .u8 97] 5))).kept (alloc_below _ (.cells #[.int .u8 104, .int .u8 101, .int .u8 108, .int .u8 108, .int .u8 111] 5 (5, 6)))) h2g)
  have R4 := Lib.hid (RA.out.trans r4)
  have U4 := Lib.hid hu
  obtain ⟨UA, uc, rfl, _, _, _⟩ := hu
  rw [LB.out] at U4 ⊢
  clear r4 K3 R3 CS RA BA BT
  go_wp2_with (with_reducible refine wpList_load_row (o := ⟨some 27, _, _, _, _, _⟩) rfl 23 (.tmp 2) rfl g2 (by with_unfolding_all rfl) 23 (keyC k7) (0, 0) (.array 32 5) (by with_unfolding_all exact K4.out) Tryd.underlying23 rfl (Tryd.sizeKey k7 L7.out) ?_)
  have RA := Lib.hid ((R4.out.kept (alloc_below w4 (.cells #[.int .u8 97] 5))).self)
  have BA : Hid (Bs (w4.alloc (.cells #[.int .u8 97] 5)) (.slice (some ⟨w4.heap.size, 0, none⟩) 1 1) [97]) := (show Bs _ (.slice (some ⟨w4.heap.size, 0, none⟩) 1 1) [97] from Bs.lit w4 _ [97] #[.int .u8 97] rfl (by simp [maxLen]))
  refine (CO.out g _ n4 _ _ (by exact RA.out) (by omega) (by exact BA.out) (by exact U4.out.below (alloc_below _ _))).mono ?_
  intro e w5 h
  obtain ⟨v, n5, hn5, he, hv, r5⟩ := h
  subst he
  have K5 := Lib.hid (r5.other (K4.out.kept (alloc_below w4 (.cells #[.int .u8 97] 5))) h2g)
  have U5 := Lib.hid (r5.bs (U4.out.below (alloc_below w4 (.cells #[.int .u8 97] 5))))
  have R5 := Lib.hid (RA.out.trans r5)
  have V5 := Lib.hid hv
  obtain ⟨VA, vc, rfl, _, _, _⟩ := hv
  clear r5 K4 R4 U4 CO RA BA
  go_wp2_with (with_reducible refine wpList_load_row (o := ⟨some 35, _, _, _, _, _⟩) rfl 23 (.tmp 2) rfl g2 (by with_unfolding_all rfl) 23 (keyC k7) (0, 0) (.array 32 5) (by with_unfolding_all exact K5.out) Tryd.underlying23 rfl (Tryd.sizeKey k7 L7.out) ?_)
  have RA := Lib.hid ((R5.out.kept (alloc_below w5 (.cells #[.int .u8 98] 5))).self)
  have BA : Hid (Bs (w5.alloc (.cells #[.int .u8 98] 5)) (.slice (some ⟨w5.heap.size, 0, none⟩) 1 1) [98]) := (show Bs _ (.slice (some ⟨w5.heap.size, 0, none⟩) 1 1) [98] from Bs.lit w5 _ [98] #[.int .u8 98] rfl (by simp [maxLen]))
  refine (CB.out g _ n5 _ _ (by exact RA.out) (by omega) (by exact BA.out) (by exact U5.out.below (alloc_below _ _))).mono ?_
  intro e w6 h
  obtain ⟨u6, n6, hn6, he, r6⟩ := h
  subst he
  have K6 := Lib.hid (r6.other (K5.out.kept (alloc_below w5 (.cells #[.int .u8 98] 5))) h2g)
  have U6 := Lib.hid (r6.bs (U5.out.below (alloc_below w5 (.cells #[.int .u8 98] 5))))
  have V6 := Lib.hid (r6.bs (V5.out.below (alloc_below w5 (.cells #[.int .u8 98] 5))))
  have R6 := Lib.hid (RA.out.trans r6)
  clear r6 K5 R5 U5 V5 CB RA BA
  go_wp2_with fail
  refine plain_region (S := fun x => RowAt x g2 23 (keyC k7)) (fin := fun _ => false) (by kernel_rfl) ?_
  have hS : RowAt w6.drew g2 23 (keyC k7) := K6.out
  change walkS _ _ _ _ _ _ 9 _ _ _
  refine walkS_take (i := 0) (oi := ⟨some 42, _, _, _, _, _⟩) (v := .pointer (some ⟨g, 0, none⟩)) rfl (by kernel_rfl) (by kernel_rfl) (fun _ _ _ h => h) _ _ _ _ (by kernel_rfl) (by kernel_rfl) (Or.inl ⟨by rfl, fun w' hS' => (by clear hS hS'; go_simp)⟩) hS ?_
  simp only [Act.put, List.setIfInBounds_toArray, List.set_cons_zero, List.set_cons_succ]
  refine walkS_take (i := 1) (oi := ⟨some 43, _, _, _, _, _⟩) (v := .agg (keyC k7)) rfl (by kernel_rfl) (by kernel_rfl) (fun _ _ _ h => h) _ _ _ _ (by kernel_rfl) (by kernel_rfl) (Or.inl ⟨by rfl, fun w' hS' => run_load_row 23 (.tmp 2) rfl g2 rfl 23 (keyC k7) (0, 0) _ hS' Tryd.underlying23 rfl (Tryd.sizeKey k7 L7.out)⟩) hS ?_
  simp only [Act.put, List.setIfInBounds_toArray, List.set_cons_zero, List.set_cons_succ]
  refine walkS_only (i := 2) (o := ⟨some 44, _, _, _, _, _⟩) (by kernel_rfl) rfl rfl fun KK hKK => ?_
  refine wp_make31 rfl fun A w7 hA b7 => ?_
  have hS7 : RowAt w7 g2 23 (keyC k7) := hS.kept b7
  refine hKK _ _ (.inr hS7) ?_
  have HA := Lib.hid hA
  have B7 := Lib.hid b7
  clear hKK KK hS hA b7
  simp only [Act.put, List.setIfInBounds_toArray, List.set_cons_zero, List.set_cons_succ]
  refine walkS_only (i := 3) (o := ⟨some 45, _, _, _, _, _⟩) (by kernel_rfl) rfl rfl fun KK hKK => ?_
  go_simp
  refine (CZ.out _ w7 _ _ (Bs.nil _) HA.out).mono ?_
  intro e w8 h
  obtain ⟨he, b8⟩ := h
  subst he
  have hS : RowAt w8 g2 23 (keyC k7) := hS7.kept b8
  refine hKK _ _ (.inr hS) ?_
  have B8 := Lib.hid (below_size B7.out b8)
  clear hKK KK hS7 b8 B7 HA
  try simp only [Act.put, List.setIfInBounds_toArray, List.set_cons_zero, List.set_cons_succ]
  refine walkS_take (i := 4) (oi := ⟨some 41, _, _, _, _, _⟩) (v := .tuple #[.slice none 0 0, .int .i64 3]) rfl (by kernel_rfl) (by kernel_rfl) (fun _ _ _ h => h) _ _ _ _ (by kernel_rfl) (by kernel_rfl) (Or.inl ⟨by rfl, fun w' hS' => (by clear hS hS'; go_simp)⟩) hS ?_
  simp only [Act.put, List.setIfInBounds_toArray, List.set_cons_zero, List.set_cons_succ]
  refine walkS_take (i := 5) (oi := ⟨some 46, _, _, _, _, _⟩) (v := .slice none 0 0) rfl (by kernel_rfl) (by kernel_rfl) (fun _ _ _ h => h) _ _ _ _ (by kernel_rfl) (by kernel_rfl) (Or.inl ⟨by rfl, fun w' hS' => (by clear hS hS'; go_simp)⟩) hS ?_
  simp only [Act.put, List.setIfInBounds_toArray, List.set_cons_zero, List.set_cons_succ]
  refine walkS_take (i := 6) (oi := ⟨some 47, _, _, _, _, _⟩) (v := .int .i64 3) rfl (by kernel_rfl) (by kernel_rfl) (fun _ _ _ h => h) _ _ _ _ (by kernel_rfl) (by kernel_rfl) (Or.inl ⟨by rfl, fun w' hS' => (by clear hS hS'; go_simp)⟩) hS ?_
  simp only [Act.put, List.setIfInBounds_toArray, List.set_cons_zero, List.set_cons_succ]
  refine walkS_take (i := 7) (oi := ⟨some 9, _, _, _, _, _⟩) (v := .slice none 0 0) rfl (by kernel_rfl) (by kernel_rfl) (fun _ _ _ h => h) _ _ _ _ (by kernel_rfl) (by kernel_rfl) (Or.inl ⟨by rfl, fun w' hS' => (by clear hS hS'; go_simp)⟩) hS ?_
  simp only [Act.put, List.setIfInBounds_toArray, List.set_cons_zero, List.set_cons_succ]
  refine walkS_take (i := 8) (oi := ⟨some 10, _, _, _, _, _⟩) (v := .int .i64 3) rfl (by kernel_rfl) (by kernel_rfl) (fun _ _ _ h => h) _ _ _ _ (by kernel_rfl) (by kernel_rfl) (Or.inl ⟨by rfl, fun w' hS' => (by clear hS hS'; go_simp)⟩) hS ?_
  simp only [Act.put, List.setIfInBounds_toArray, List.set_cons_zero, List.set_cons_succ]
  refine walkS_done (by kernel_rfl) ?_ _
  have K8 := Lib.hid hS
  have U8 := Lib.hid ((U6.out.below (Below.refl _ w6).drew).below B8.out)
  have V8 := Lib.hid ((V6.out.below (Below.refl _ w6).drew).below B8.out)
  have R8 := Lib.hid ((R6.out.kept (Below.refl _ w6).drew).kept B8.out)
  clear hS B8 K6 U6 V6 R6 CZ
  obtain ⟨y, hy⟩ : ∃ y, y = x2 ^^^ 1 := ⟨_, rfl⟩
  have X1 : Hid (bits .xor .u8 (x2.toNat : Int) 1 = (y.toNat : Int)) := by show _ = _; rw [hy]; exact xor_byte x2 1
  rw [← hy] at HBD
  clear hy
  go_wp2_with (first
    | (at_builtin; refine wpList_appB _ rfl (.tmp 51) (.tmp 52) 24 rfl w8 5 Tryd.infoB Tryd.underlying24 _ _ [] bx rfl rfl (OwnB.empty2 _ _ _ (Nat.le_refl _)) (U8.out.below (alloc_below _ _)) (by rw [LB.out]; simp) (alloc_below _ _) ?_; intro v9 w9 own9 b9; rw [List.nil_append] at own9; unfold OwnB at own9; rw [LB.out] at own9; rcases own9.2 with ⟨_, h0⟩ | ⟨gb, cb, cur, rfl, hgb, _⟩; (· exact absurd h0 (by decide)); have hc9 := own_cell own9 2 (by rw [LB.out]; omega); have hx9 : bx[2]'(by rw [LB.out]; omega) = x2 := (Option.some.inj ((List.getElem?_eq_getElem (by rw [LB.out]; omega)).symm.trans HX2.out)); rw [hx9] at hc9; have hf9 := own9.frozenAt 2; have hp9 := own_put own9 2 y; rw [← HBD.out] at hp9; have R9 := Lib.hid (R8.out.kept (b9.setCell (p := ⟨gb, 2, none⟩) hgb (.int .u8 (y.toNat : Int)))); have K9 := Lib.hid (K8.out.kept (b9.setCell (p := ⟨gb, 2, none⟩) hgb (.int .u8 (y.toNat : Int)))); have V9 := Lib.hid (V8.out.below (b9.setCell (p := ⟨gb, 2, none⟩) hgb (.int .u8 (y.toNat : Int)))); have P9 := Lib.hid hp9; have X9 := X1.out; clear own9 b9 hx9 hp9 R8 K8 V8 U8)
    | (with_reducible refine wpList_load_row (o := ⟨some 62, _, _, _, _, _⟩) rfl 23 (.tmp 2) rfl g2 (by with_unfolding_all rfl) 23 (keyC k7) (0, 0) (.array 32 5) (by with_unfolding_all exact K9.out) Tryd.underlying23 rfl (Tryd.sizeKey k7 L7.out) ?_))
  have LBD : bd.length = 37 := by rw [HBD.out, List.length_set, LB.out]
  have RA := Lib.hid ((R9.out.kept (alloc_below (w9.setCell ⟨gb, 2, none⟩ (.int .u8 (y.toNat : Int))) (.cells #[.int .u8 97] 5))).self)
  have BA : Hid (Bs ((w9.setCell ⟨gb, 2, none⟩ (.int .u8 (y.toNat : Int))).alloc (.cells #[.int .u8 97] 5)) (.slice (some ⟨w9.heap.size, 0, none⟩) 1 1) [97]) := by
    have h := Bs.lit (w9.setCell ⟨gb, 2, none⟩ (.int .u8 (y.toNat : Int))) 5 [97] #[.int .u8 97] rfl (by simp [maxLen])
    have e : (w9.setCell ⟨gb, 2, none⟩ (.int .u8 (y.toNat : Int))).heap.size = w9.heap.size := by simp [World.setCell]
    rw [e] at h
    exact h
  have BX : Hid (Bs ((w9.setCell ⟨gb, 2, none⟩ (.int .u8 (y.toNat : Int))).alloc (.cells #[.int .u8 97] 5)) (.slice (some ⟨gb, 0, none⟩) 37 cb) bd) := by
    have h : OwnB (w9.setCell ⟨gb, 2, none⟩ (.int .u8 (y.toNat : Int))) w8.heap.size 5 (.slice (some ⟨gb, 0, none⟩) 37 cb) bd := by unfold OwnB; rw [LBD]; exact P9.out
    exact h.bs.below (alloc_below _ _)
  refine (CX.out g _ n6 _ _ (by exact RA.out) (by omega) (by exact BA.out) (by exact BX.out)).mono ?_
  intro e wa h
  obtain ⟨ua, na, hna, he, ra⟩ := h
  subst he
  have Va := ra.bs (V9.out.below (alloc_below (w9.setCell ⟨gb, 2, none⟩ (.int .u8 (y.toNat : Int))) (.cells #[.int .u8 97] 5)))
  have BZ := Lib.hid ra.below
  have hcv := run_convB Va 24 9 5 Tryd.underlying24 Tryd.underlying5 Tryd.underlying9
  rw [show (⟨helloB.toArray⟩ : ByteArray) = { data := #[104, 101, 108, 108, 111] } from rfl] at hcv
  clear ra RA BA BX Va V9 P9 K9 R9 CX
  go_wp2
  go_ret
  exact ⟨rfl, BZ.out⟩
end Go.Proofs.YtjdbjgaoeijmfaaDoor
end
section
namespace Go.Proofs.YtjdbjgaoeijmfaaDoor
open Go.RowKit

/-- The first k bytes are alike. -/
def alikeTo (a b : List UInt8) (k : Nat) : Prop := a.take k = b.take k

theorem alike_step (a b : List UInt8) (k : Nat) (ha : k < a.length) (hb : k < b.length) (h : alikeTo a b k) (he : a[k] = b[k]) : alikeTo a b (k + 1) := by
  unfold alikeTo at *
  rw [List.take_succ_eq_append_getElem ha, List.take_succ_eq_append_getElem hb, h, he]

theorem byte_eq {a b : UInt8} (h : ((a.toNat : Int) = (b.toNat : Int))) : a = b := UInt8.toNat_inj.1 (by omega)

set_option maxHeartbeats 400000 in
theorem refSame (w : World) (va vb : Value) (a b : List UInt8) (ha : Bs w va a) (hb : Bs w vb b) :
    Calls Tryd.prog 12 #[va, vb] w fun e w' => e = .returned (.bool (a == b)) ∧ ∃ n, w' = w.drewN n := by
  obtain ⟨A, ca, rfl, ha1, ha2, ha3⟩ := ha
  obtain ⟨B, cb, rfl, hb1, hb2, hb3⟩ := hb
  unfold maxLen at ha2 hb2
  by_cases hl : a.length = b.length
  · have hl1 : ((a.length : Int) != (b.length : Int)) = false := by simp [hl]
    have Hl := Lib.hid hl
    have hle : a.length ≤ b.length := by omega
    clear hl
    go_enter Tryd.func12, Tryd.ntmps12
    go_wp2
    go_loopw [5] (fun i wr => ∃ k n : Nat, k ≤ a.length ∧ i = .int .i64 k ∧ wr = w.drewN n ∧ alikeTo a b k) (fun i _ => a.length - (intOf i).toNat)
    case atStart => exact ⟨0, 0, Nat.zero_le _, rfl, rfl, by simp [alikeTo]⟩
    case round =>
      obtain ⟨k, n, hk, rfl, rfl, hal⟩ := hrel
      by_cases hlt : k < a.length
      · obtain ⟨b0, o0, rfl, hca⟩ := ha3 (by omega)
        obtain ⟨b1, o1, rfl, hcb⟩ := hb3 (by omega)
        have h0 := hca k hlt
        have h1 := hcb k (by omega)
        clear hca hcb
        by_cases he : a[k] = b[k]
        · have he1 : ((a[k].toNat : Int) != (b[k].toNat : Int)) = false := by simp [he]
          have He := Lib.hid he
          clear he
          go_wp2
          go_quiet (fail)
          go_wp2
          go_roundw
          case rel => exact ⟨k + 1, _, by omega, by go_num, rfl, alike_step a b k hlt (by omega) hal He.out⟩
          case measure => simp [intOf]; omega
        · have he1 : ((a[k].toNat : Int) != (b[k].toNat : Int)) = true := by
            rw [bne_iff_ne]; intro h; exact he (byte_eq h)
          have hfin : (a == b) = false := by
            rw [beq_eq_false_iff_ne]; rintro rfl; exact he rfl
          have Hf := Lib.hid hfin
          clear he hfin
          go_wp2
          go_quiet (fail)
          go_wp2
          go_ret
          exact ⟨by rw [Hf.out]; rfl, _, by first | rfl | exact World.drewN_drewN _ _ _⟩
      · have hfin : (a == b) = true := by
          rw [beq_iff_eq]
          have := Hl.out
          unfold alikeTo at hal
          rwa [List.take_of_length_le (by omega), List.take_of_length_le (by omega)] at hal
        have Hf := Lib.hid hfin
        clear hfin
        go_wp2
        go_ret
        exact ⟨by rw [Hf.out]; rfl, _, by first | rfl | exact World.drewN_drewN _ _ _⟩
  · have hl1 : ((a.length : Int) != (b.length : Int)) = true := by rw [bne_iff_ne]; omega
    have hfin : (a == b) = false := by
      rw [beq_eq_false_iff_ne]; rintro rfl; exact hl rfl
    have Hf := Lib.hid hfin
    clear hfin hl
    go_enter Tryd.func12, Tryd.ntmps12
    go_wp2
    go_ret
    exact ⟨by rw [Hf.out]; rfl, 0, rfl⟩
end Go.Proofs.YtjdbjgaoeijmfaaDoor
end
section
namespace Go.Proofs.YtjdbjgaoeijmfaaDoor
open Go.RowKit

theorem same_ret (w : World) (va vb : Value) (a b : List UInt8) (ha : Bs w va a) (hb : Bs w vb b) :
    Calls Tryd.prog 12 #[va, vb] w (RetV w (.bool (a == b))) := (refSame w va vb a b ha hb).mono fun _ _ h => RetV.quiet h
theorem same_yes (w : World) (va vb : Value) (a : List UInt8) (ha : Bs w va a) (hb : Bs w vb a) :
    Calls Tryd.prog 12 #[va, vb] w (RetV w (.bool true)) := by
  have := same_ret w va vb a a ha hb
  rwa [beq_self_eq_true] at this
end Go.Proofs.YtjdbjgaoeijmfaaDoor
end
section
namespace Go.Proofs.YtjdbjgaoeijmfaaDoor
open Go.RowKit
set_option linter.unusedVariables false
set_option maxRecDepth 20000

theorem sealB_length (key a t : List UInt8) : (sealB key a t).length = t.length + 32 := by
  rw [sealB, List.length_append, hidB, mixS_length, tagB, macB_length]
set_option maxHeartbeats 4000000 in
theorem sealBack_walk (w : World) (hq : Tabs w ∧ Quar w) (key : List UInt8) (hk : key.length = 32) (va : Value) (a : List UInt8) (ha : Bs w va a) (vt : Value) (t : List UInt8) (ht : Bs w vt t) :
    Calls Tryd.prog 5 #[keyV key, va, vt] w (RetV w (.bool true)) := by
  have HQ := Lib.hid hq
  have LK := Lib.hid hk
  have HA := Lib.hid ha
  have HT := Lib.hid ht
  obtain ⟨AA, ac, rfl, _, _, _⟩ := ha
  obtain ⟨TA, tc, rfl, _, _, _⟩ := ht
  clear hq hk
  by_cases h1 : 300 < a.length
  · have d1 : decide ((300 : Int) < (a.length : Int)) = true := by simp; omega
    go_enter Tryd.func5, Tryd.ntmps5
    go_wp2_with ((with_reducible refine wpList_box_row (o := ⟨some 3, _, _, _, _, _⟩) rfl 23 (.tmp 0) rfl (keyC key) (by with_unfolding_all rfl) ?_); intro g3 w1 n1)
    refine (sealAwake_any _ ⟨HQ.out.1.below n1.below, HQ.out.2.below n1.below⟩).mono ?_
    intro e w2 h
    obtain ⟨he, b2⟩ := h
    subst he
    have B2 := Lib.hid (below_size n1.below b2)
    clear b2 n1
    go_wp2
    go_ret
    exact ⟨rfl, B2.out⟩
  have d1 : decide ((300 : Int) < (a.length : Int)) = false := by simp; omega
  by_cases h2 : 300 < t.length
  · have d2 : decide ((300 : Int) < (t.length : Int)) = true := by simp; omega
    go_enter Tryd.func5, Tryd.ntmps5
    go_wp2_with ((with_reducible refine wpList_box_row (o := ⟨some 3, _, _, _, _, _⟩) rfl 23 (.tmp 0) rfl (keyC key) (by with_unfolding_all rfl) ?_); intro g3 w1 n1)
    refine (sealAwake_any _ ⟨HQ.out.1.below n1.below, HQ.out.2.below n1.below⟩).mono ?_
    intro e w2 h
    obtain ⟨he, b2⟩ := h
    subst he
    have B2 := Lib.hid (below_size n1.below b2)
    clear b2 n1
    go_wp2
    go_ret
    exact ⟨rfl, B2.out⟩
  have d2 : decide ((300 : Int) < (t.length : Int)) = false := by simp; omega
  obtain ⟨bx, hbx⟩ : ∃ b, b = sealB key a t := ⟨_, rfl⟩
  obtain ⟨M, hM⟩ : ∃ M, M = t.length + 32 := ⟨_, rfl⟩
  have LB : Hid (bx.length = M) := by show _ = _; rw [hbx, hM]; exact sealB_length _ _ _
  have HBX : Hid (sealB key a t = bx) := hbx.symm
  have e1 : IntKind.i64.wrap ((t.length : Int) + 32) = (M : Int) := by rw [IntWalk.i64_in _ (by omega)]; omega
  have e2 : (t.length : Int) + 32 = (M : Int) := by omega
  have HO : Hid (∀ g x n vb, Run w x g n x → n ≤ 900000 → Bs x (.slice AA a.length ac) a → Bs x vb bx → Calls Tryd.prog 14 #[.pointer (some ⟨g, 0, none⟩), .agg (keyC key), .slice AA a.length ac, vb] x fun e y => ∃ u n', n' ≤ n + 9 ∧ e = .returned (.tuple #[u, .int .i64 0]) ∧ Bs y u t ∧ Run w x g n' y) := fun g x n vb hr hn hx hb => by
    rw [hbx, sealB] at hb
    have h := Open_ok w x HQ.out.2 g n hr hn key LK.out _ vb a (hidB key t) (tagB key a (hidB key t)) hx hb (by omega) (by rw [hidB, mixS_length]; omega) (by rw [tagB, macB_length])
    rw [if_pos rfl, if_pos rfl, show hidB key (hidB key t) = t from mixS_twice _ _ _ _] at h
    exact h
  have q1 : a.length ≤ 4000 := by omega
  have q2 : t.length ≤ 4000 := by omega
  clear hbx hM h1 h2
  go_enter Tryd.func5, Tryd.ntmps5
  go_wp2_with ((with_reducible refine wpList_box_row (o := ⟨some 3, _, _, _, _, _⟩) rfl 23 (.tmp 0) rfl (keyC key) (by with_unfolding_all rfl) ?_); intro g3 w1 n1)
  have K1 := Lib.hid n1.row
  have B1 := Lib.hid n1.below
  clear n1
  refine (sealAwake_any _ ⟨HQ.out.1.below B1.out, HQ.out.2.below B1.out⟩).mono ?_
  intro e w2 h
  obtain ⟨he, b2⟩ := h
  subst he
  have K2 := Lib.hid (K1.out.kept b2)
  have B2 := Lib.hid (below_size B1.out b2)
  clear b2 K1 B1
  go_wp2_with fail
  refine (New_any _ false).mono ?_
  intro e w3 h
  obtain ⟨g, he, n3⟩ := h
  subst he
  have R3 := Lib.hid (Run.new HQ.out.1 B2.out n3)
  have K3 := Lib.hid (K2.out.kept n3.below)
  have hg : g3 ≠ g := by have := n3.spot; have := K2.out.lt; omega
  clear n3 K2 B2
  go_wp2_with (with_reducible refine wpList_load_row (o := ⟨some 26, _, _, _, _, _⟩) rfl 23 (.tmp 3) rfl g3 (by with_unfolding_all rfl) 23 (keyC key) (0, 0) (.array 32 5) (by with_unfolding_all exact K3.out) Tryd.underlying23 rfl (Tryd.sizeKey key LK.out) ?_)
  refine (Seal_ok w _ HQ.out.2 g 0 (by exact R3.out.self) (by omega) key LK.out _ _ a t (by exact (HA.out.below R3.out.below)) (by exact (HT.out.below R3.out.below)) q1 q2).mono ?_
  intro e w4 h
  obtain ⟨u, n4, hn4, he, hu, r4⟩ := h
  subst he
  rw [HBX.out] at hu
  have K4 := Lib.hid (r4.other K3.out hg)
  have R4 := Lib.hid (R3.out.trans r4)
  have U4 := Lib.hid hu
  obtain ⟨UA, uc, rfl, _, _, _⟩ := hu
  rw [LB.out] at U4 ⊢
  clear r4 K3 R3
  go_wp2_with (with_reducible refine wpList_load_row (o := ⟨some 34, _, _, _, _, _⟩) rfl 23 (.tmp 3) rfl g3 (by with_unfolding_all rfl) 23 (keyC key) (0, 0) (.array 32 5) (by with_unfolding_all exact K4.out) Tryd.underlying23 rfl (Tryd.sizeKey key LK.out) ?_)
  refine (HO.out g _ n4 _ (by exact R4.out.self) (by omega) (by exact (HA.out.below R4.out.below)) (by exact U4.out)).mono ?_
  intro e w5 h
  obtain ⟨v, n5, hn5, he, hv, r5⟩ := h
  subst he
  have R5 := Lib.hid (R4.out.trans r5)
  have V5 := Lib.hid hv
  clear r5 hv K4 R4 U4
  go_wp2_with fail
  refine (same_yes _ _ _ t V5.out (HT.out.below R5.out.below)).mono ?_
  intro e w6 h
  obtain ⟨he, b6⟩ := h
  subst he
  go_wp2
  go_ret
  exact ⟨rfl, below_size R5.out.below b6⟩
end Go.Proofs.YtjdbjgaoeijmfaaDoor
end
section
namespace Go.Proofs.YtjdbjgaoeijmfaaDoor
open Go.RowKit
set_option linter.unusedVariables false
set_option maxRecDepth 20000

set_option maxHeartbeats 400000 in
theorem refHigh_own (w : World) (n : Nat) (hn : n < 18446744073709551616) (s : Int) (hs : -9223372036854775808 ≤ s ∧ s ≤ 9223372036854775807) :
    Calls Tryd.prog 33 #[.int .u64 (n : Int), .int .i64 s] w (RetOwn w 5 (highI n s)) := by
  unfold highI
  have hlen := lowI_length n s
  have hc := fun w => refLow_any w n hn s hs
  generalize lowI n s = l at hlen hc ⊢
  have HC := Lib.hid hc
  clear hc
  go_enter Tryd.func33, Tryd.ntmps33
  go_wp2_with (go_at_call 49; refine (HC.out _).mono ?_; rintro e w1 ⟨_, rfl, ⟨A, c, rfl, h1, h2, h3⟩, hb0⟩)
  have HB0 := Lib.hid hb0
  unfold maxLen at h2
  clear hb0
  go_loopw [6, 7] (fun v i wr => ∃ k : Nat, k ≤ l.length ∧ i = .int .i64 ((l.length : Int) - 1 - k) ∧ OwnB wr w1.heap.size 5 v (l.reverse.take k) ∧ Below w1.heap.size w1 wr) (fun _ i _ => (intOf i + 1).toNat)
  case atStart => exact ⟨0, Nat.zero_le _, by simp, OwnB.nil _ _ _, Below.refl _ _⟩
  case round =>
    obtain ⟨k, hk, rfl, hown, hb⟩ := hrel
    have HO := Lib.hid hown
    have HB := Lib.hid hb
    have hsz := hb.size
    clear hown hb
    by_cases hlt : k < l.length
    · obtain ⟨b0, o0, rfl, hc⟩ := h3 (by omega)
      have hcell : wr.cell? ⟨b0, o0 + (l.length - 1 - k), none⟩ = some (.int .u8 ((l[l.length - 1 - k]'(by omega)).toNat : Int)) :=
        (HB.out.cell (p := ⟨b0, o0 + (l.length - 1 - k), none⟩) (World.block_lt_of_cell? w1 _ (hc (l.length - 1 - k) (by omega)))).trans (hc (l.length - 1 - k) (by omega))
      have htk : l.reverse.take (k + 1) = l.reverse.take k ++ [l[l.length - 1 - k]'(by omega)] := by
        rw [List.take_succ_eq_append_getElem (by simpa using hlt), List.getElem_reverse]
      have HT := Lib.hid htk
      clear htk hc h3
      go_wp2_with (at_builtin; refine wpList_appB _ rfl (.tmp 18) (.tmp 23) 24 rfl w1 5 Tryd.infoB Tryd.underlying24 _ _ _ [l[l.length - 1 - k]'(by omega)] rfl rfl (HO.out.alloc _) (Bs.lit1 _ _ _ _ rfl) (by simp; omega) (HB.out.alloc hsz _) ?_; intro v2 w2 hown2 hb2)
      go_roundw
      case rel => exact ⟨k + 1, by omega, by go_num, by rw [HT.out]; exact hown2, hb2⟩
      case measure => simp [intOf]; omega
    · have hks : k = l.length := by omega
      subst hks
      have HO2 : Hid (OwnB wr w1.heap.size 5 u6 l.reverse) := by
        have := HO.out; rwa [List.take_of_length_le (by simp)] at this
      go_wp2
      go_ret
      exact ⟨_, rfl, HO2.out.low HB0.out.size, below_size HB0.out HB.out⟩

set_option maxHeartbeats 1000000 in
theorem refSigned_own (w : World) (va vh : Value) (aside hid : List UInt8) (ha : Bs w va aside) (hh : Bs w vh hid) (hal : aside.length ≤ 4000) (hhl : hid.length ≤ 5000) :
    Calls Tryd.prog 23 #[va, vh] w (RetOwn w 5 ((lowB aside.length 8).reverse ++ (aside ++ hid))) := by
  have HA := Lib.hid ha
  have HH := Lib.hid hh
  obtain ⟨AA, ac, rfl, _, _, _⟩ := ha
  obtain ⟨TA, tc, rfl, _, _, _⟩ := hh
  obtain ⟨hd, hhd⟩ : ∃ l, l = (lowB aside.length 8).reverse := ⟨_, rfl⟩
  have LD : hd.length = 8 := by rw [hhd, List.length_reverse, lowB_length]
  have HG : Hid (∀ x, Calls Tryd.prog 33 #[.int .u64 (aside.length : Int), .int .i64 8] x (RetOwn x 5 hd)) := fun x => by
    have h := refHigh_own x aside.length (by omega) 8 (by omega)
    rw [highI, show (8 : Int) = ((8 : Nat) : Int) from rfl, lowI_in _ _ (by omega) (by omega), ← hhd] at h
    exact h
  rw [← hhd, ← List.append_assoc]
  have LDH := Lib.hid LD
  clear hhd LD
  go_enter Tryd.func23, Tryd.ntmps23
  go_wp2_with fail
  refine (HG.out _).mono ?_
  intro e w1 h
  obtain ⟨v1, he, o1, b1⟩ := h
  subst he
  have O1 := Lib.hid o1
  have B1 := Lib.hid b1
  clear o1 b1 HG
  go_wp2_with (first
    | (at_builtin; refine wpList_appB _ rfl (.tmp 10) (.tmp 11) 24 rfl w 5 Tryd.infoB Tryd.underlying24 _ _ hd aside rfl rfl O1.out (HA.out.below B1.out) (by rw [LDH.out]; omega) B1.out ?_; intro v2 w2 o2 b2; have O2 := Lib.hid o2; have B2 := Lib.hid b2; clear o2 b2 O1 B1)
    | (at_builtin; refine wpList_appB _ rfl (.tmp 13) (.tmp 14) 24 rfl w 5 Tryd.infoB Tryd.underlying24 _ _ (hd ++ aside) hid rfl rfl O2.out (HH.out.below B2.out) (by rw [List.length_append, LDH.out]; omega) B2.out ?_; intro v3 w3 o3 b3; have O3 := Lib.hid o3; have B3 := Lib.hid b3; clear o3 b3 O2 B2))
  go_ret
  exact ⟨_, rfl, O3.out, B3.out⟩
end Go.Proofs.YtjdbjgaoeijmfaaDoor
end
