/-
  SealBack: for every input the call returns true, and each argument reads as it read before. Conditions: none beyond the given statement's own (the package-level tables that its row lists hold what the program's text lays: the card ties that).
-/
import Derived.Test.YtjdbjgaoeijmfaaDoorQSbaAN
import Derived.Test.YtjdbjgaoeijmfaaDoorQSbaAD
import Derived.ProofKit
import Derived.OpenShut
import Derived.ShutString
import Derived.ChangeOld
import Derived.Deep.DeepHandedRow
section
namespace Go.Proofs.YtjdbjgaoeijmfaaDoor
open Go.RowKit
set_option linter.unusedVariables false
set_option maxRecDepth 20000

theorem sealB_length (key a t : List UInt8) : (sealB key a t).length = t.length + 32 := by
  rw [sealB, List.length_append, hidB, mixS_length, tagB, macB_length]
set_option maxHeartbeats 4000000 in
theorem sealBack_walk (w : World) (hq : Tabs w ∧ Quar w) (key : List UInt8) (hk : key.length = 32) (va : Value) (a : List UInt8) (ha : Bs w va a) (vt : Value) (t : List UInt8) (ht : Bs w vt t) :
    Calls Tryd.prog 5 #[keyV key, va, vt] w (RetV w (.bool true)) := by
  have HQ := Lib.hid hq
  have LK := Lib.hid hk
  have HA := Lib.hid ha
  have HT := Lib.hid ht
  obtain ⟨AA, ac, rfl, _, _, _⟩ := ha
  obtain ⟨TA, tc, rfl, _, _, _⟩ := ht
  clear hq hk
  by_cases h1 : 300 < a.length
  · have d1 : decide ((300 : Int) < (a.length : Int)) = true := by simp; omega
    go_enter Tryd.func5, Tryd.ntmps5
    go_wp2_with ((with_reducible refine wpList_box_row (o := ⟨some 3, _, _, _, _, _⟩) rfl 23 (.tmp 0) rfl (keyC key) (by with_unfolding_all rfl) ?_); intro g3 w1 n1)
    refine (sealAwake_any _ ⟨HQ.out.1.below n1.below, HQ.out.2.below n1.below⟩).mono ?_
    intro e w2 h
    obtain ⟨he, b2⟩ := h
    subst he
    have B2 := Lib.hid (below_size n1.below b2)
    clear b2 n1
    go_wp2
    go_ret
    exact ⟨rfl, B2.out⟩
  have d1 : decide ((300 : Int) < (a.length : Int)) = false := by simp; omega
  by_cases h2 : 300 < t.length
  · have d2 : decide ((300 : Int) < (t.length : Int)) = true := by simp; omega
    go_enter Tryd.func5, Tryd.ntmps5
    go_wp2_with ((with_reducible refine wpList_box_row (o := ⟨some 3, _, _, _, _, _⟩) rfl 23 (.tmp 0) rfl (keyC key) (by with_unfolding_all rfl) ?_); intro g3 w1 n1)
    refine (sealAwake_any _ ⟨HQ.out.1.below n1.below, HQ.out.2.below n1.below⟩).mono ?_
    intro e w2 h
    obtain ⟨he, b2⟩ := h
    subst he
    have B2 := Lib.hid (below_size n1.below b2)
    clear b2 n1
    go_wp2
    go_ret
    exact ⟨rfl, B2.out⟩
  have d2 : decide ((300 : Int) < (t.length : Int)) = false := by simp; omega
  obtain ⟨bx, hbx⟩ : ∃ b, b = sealB key a t := ⟨_, rfl⟩
  obtain ⟨M, hM⟩ : ∃ M, M = t.length + 32 := ⟨_, rfl⟩
  have LB : Hid (bx.length = M) := by show _ = _; rw [hbx, hM]; exact sealB_length _ _ _
  have HBX : Hid (sealB key a t = bx) := hbx.symm
  have e1 : IntKind.i64.wrap ((t.length : Int) + 32) = (M : Int) := by rw [IntWalk.i64_in _ (by omega)]; omega
  have e2 : (t.length : Int) + 32 = (M : Int) := by omega
  have HO : Hid (∀ g x n vb, Run w x g n x → n ≤ 900000 → Bs x (.slice AA a.length ac) a → Bs x vb bx → Calls Tryd.prog 14 #[.pointer (some ⟨g, 0, none⟩), .agg (keyC key), .slice AA a.length ac, vb] x fun e y => ∃ u n', n' ≤ n + 9 ∧ e = .returned (.tuple #[u, .int .i64 0]) ∧ Bs y u t ∧ Run w x g n' y) := fun g x n vb hr hn hx hb => by
    rw [hbx, sealB] at hb
    have h := Open_ok w x HQ.out.2 g n hr hn key LK.out _ vb a (hidB key t) (tagB key a (hidB key t)) hx hb (by omega) (by rw [hidB, mixS_length]; omega) (by rw [tagB, macB_length])
    rw [if_pos rfl, if_pos rfl, show hidB key (hidB key t) = t from mixS_twice _ _ _ _] at h
    exact h
  have q1 : a.length ≤ 4000 := by omega
  have q2 : t.length ≤ 4000 := by omega
  clear hbx hM h1 h2
  go_enter Tryd.func5, Tryd.ntmps5
  go_wp2_with ((with_reducible refine wpList_box_row (o := ⟨some 3, _, _, _, _, _⟩) rfl 23 (.tmp 0) rfl (keyC key) (by with_unfolding_all rfl) ?_); intro g3 w1 n1)
  have K1 := Lib.hid n1.row
  have B1 := Lib.hid n1.below
  clear n1
  refine (sealAwake_any _ ⟨HQ.out.1.below B1.out, HQ.out.2.below B1.out⟩).mono ?_
  intro e w2 h
  obtain ⟨he, b2⟩ := h
  subst he
  have K2 := Lib.hid (K1.out.kept b2)
  have B2 := Lib.hid (below_size B1.out b2)
  clear b2 K1 B1
  go_wp2_with fail
  refine (New_any _ false).mono ?_
  intro e w3 h
  obtain ⟨g, he, n3⟩ := h
  subst he
  have R3 := Lib.hid (Run.new HQ.out.1 B2.out n3)
  have K3 := Lib.hid (K2.out.kept n3.below)
  have hg : g3 ≠ g := by have := n3.spot; have := K2.out.lt; omega
  clear n3 K2 B2
  go_wp2_with (with_reducible refine wpList_load_row (o := ⟨some 26, _, _, _, _, _⟩) rfl 23 (.tmp 3) rfl g3 (by with_unfolding_all rfl) 23 (keyC key) (0, 0) (.array 32 5) (by with_unfolding_all exact K3.out) Tryd.underlying23 rfl (Tryd.sizeKey key LK.out) ?_)
  refine (Seal_ok w _ HQ.out.2 g 0 (by exact R3.out.self) (by omega) key LK.out _ _ a t (by exact (HA.out.below R3.out.below)) (by exact (HT.out.below R3.out.below)) q1 q2).mono ?_
  intro e w4 h
  obtain ⟨u, n4, hn4, he, hu, r4⟩ := h
  subst he
  rw [HBX.out] at hu
  have K4 := Lib.hid (r4.other K3.out hg)
  have R4 := Lib.hid (R3.out.trans r4)
  have U4 := Lib.hid hu
  obtain ⟨UA, uc, rfl, _, _, _⟩ := hu
  rw [LB.out] at U4 ⊢
  clear r4 K3 R3
  go_wp2_with (with_reducible refine wpList_load_row (o := ⟨some 34, _, _, _, _, _⟩) rfl 23 (.tmp 3) rfl g3 (by with_unfolding_all rfl) 23 (keyC key) (0, 0) (.array 32 5) (by with_unfolding_all exact K4.out) Tryd.underlying23 rfl (Tryd.sizeKey key LK.out) ?_)
  refine (HO.out g _ n4 _ (by exact R4.out.self) (by omega) (by exact (HA.out.below R4.out.below)) (by exact U4.out)).mono ?_
  intro e w5 h
  obtain ⟨v, n5, hn5, he, hv, r5⟩ := h
  subst he
  have R5 := Lib.hid (R4.out.trans r5)
  have V5 := Lib.hid hv
  clear r5 hv K4 R4 U4
  go_wp2_with fail
  refine (same_yes _ _ _ t V5.out (HT.out.below R5.out.below)).mono ?_
  intro e w6 h
  obtain ⟨he, b6⟩ := h
  subst he
  go_wp2
  go_ret
  exact ⟨rfl, below_size R5.out.below b6⟩
end Go.Proofs.YtjdbjgaoeijmfaaDoor
end
section
namespace Go.Proofs.YtjdbjgaoeijmfaaDoor.sealBack
open Go.ChangeShapes Go.WideShapes Go.ChangeAt Go.RowKit
open Go.ChangeMaps (open_string shut_string)
set_option linter.unusedVariables false

theorem own : ownKnob Tryd.prog.godebug = none := by kernel_rfl
theorem laidOut : laidOutB Tryd.prog = true := by kernel_rfl

theorem laid_met (os : Os) : laidMet Tryd.prog Rows.sealBackRow.laid ((laidWorld os).forCall (fun _ _ => 0) ⟨#[], #[.agg (List.replicate 32 (Value.int .u8 0)).toArray, .slice none 0 0, .slice none 0 0], []⟩).memory :=
  laidMet_of_run' 8 (by kernel_rfl) (by kernel_rfl)
theorem reads (os : Os) {H : Type} (enc : TypeId × Value → H) : ∃ places, DataW.whole enc Tryd.prog ((laidWorld os).forCall (fun _ _ => 0) ⟨#[], #[.agg (List.replicate 32 (Value.int .u8 0)).toArray, .slice none 0 0, .slice none 0 0], []⟩).memory Tryd.f5.params.toList Rows.sealBackSpec.vars false #[.agg (List.replicate 32 (Value.int .u8 0)).toArray, .slice none 0 0, .slice none 0 0].toList 8 = some ([.agg (List.replicate 32 (.lit (.int .u8 0))), .nil, .nil], [], places) :=
  ⟨[], by kernel_rfl⟩

set_option maxRecDepth 100000 in
theorem contract (H : Type) (enc : TypeId × Value → H) (W : World) (base : Nat) (args : Array Value) (ds gs : List (DataW H)) (before : List MemPlace)
    (hval0 : ∀ (j : Nat) t v, Tryd.f5.params[j]? = some t → args[j]? = some v → Value.okWide Tryd.prog W .any base t v)
    (hW : DataW.Whole enc Tryd.prog Tryd.f5.params.toList Rows.sealBackSpec.vars false W args.toList ds gs before) (hL : laidMetH Tryd.prog Rows.sealBackRow.laid W) :
    Calls Tryd.prog 5 args W fun e W' => ∃ v, e = .returned v ∧ Rows.sealBackSpec.post enc Tryd.prog Tryd.f5 false true false false W args v W' := by
  have hq := tables hL
  have hval : ∀ (j : Nat) t v, Tryd.f5.params[j]? = some t → args[j]? = some v → Value.okWide Tryd.prog W .any base t v := hval0
  have hW' := hW
  obtain ⟨p, q, hA0, hV, rfl, hfz, hnd⟩ := hW
  have hA : DataW.TrodAll enc Tryd.prog W 0 (fun _ => true) true Tryd.f5.params.toList args.toList ds p := hA0
  rw [Tryd.params5] at hA hval
  obtain ⟨v0, vs0, d0, ds0, p0, q0, hargs, rfl, rfl, h0, r0⟩ := trodAll_cons hA
  obtain ⟨v1, vs1, d1, ds1, p1, q1, rfl, rfl, rfl, h1, r1⟩ := trodAll_cons r0
  obtain ⟨v2, vs2, d2, ds2, p2, q2, rfl, rfl, rfl, h2, r2⟩ := trodAll_cons r1
  obtain ⟨rfl, rfl, rfl⟩ := trodAll_nil r2
  obtain rfl : args = #[v0, v1, v2] := by cases args; simp_all
  obtain ⟨rfl, rfl⟩ := trodVars_none hV
  have k0 := h0
  have lt0 : ∀ x ∈ p0, x.block < W.heap.size := by obtain ⟨m, hm⟩ := k0; exact DataW.trod_lt m _ _ _ hm
  obtain ⟨l0, rfl, w0⟩ := open_key Tryd.underlying23 Tryd.underlying5 (by kernel_rfl) (by kernel_rfl) (hval 0 23 v0 rfl rfl) h0
  obtain ⟨a1, len1, cap1, rfl⟩ := okWide_slice Tryd.underlying24 (hval 1 24 v1 rfl rfl)
  have k1 := h1
  have lt1 : ∀ x ∈ p1, x.block < W.heap.size := by obtain ⟨m, hm⟩ := k1; exact DataW.trod_lt m _ _ _ hm
  obtain ⟨l1, w1⟩ : ∃ l, Bs W (.slice a1 len1 cap1) l := by
    obtain ⟨fuel, hf⟩ := h1
    rcases open_ints Tryd.underlying24 Tryd.underlying5 (by kernel_rfl) hf with ⟨hcs, _⟩ | ⟨x, l, c, zs, hcs, _, hl, hm, hz, _, hcell, hwz⟩
    · simp [Value.cells] at hcs
      obtain ⟨rfl, rfl, rfl⟩ := hcs
      exact ⟨[], Bs.nil W⟩
    · simp [Value.cells] at hcs
      obtain ⟨rfl, rfl, rfl⟩ := hcs
      exact bs_of_ints hl hm (by simpa using hz) hcell hwz
  obtain ⟨a2, len2, cap2, rfl⟩ := okWide_slice Tryd.underlying24 (hval 2 24 v2 rfl rfl)
  have k2 := h2
  have lt2 : ∀ x ∈ p2, x.block < W.heap.size := by obtain ⟨m, hm⟩ := k2; exact DataW.trod_lt m _ _ _ hm
  obtain ⟨l2, w2⟩ : ∃ l, Bs W (.slice a2 len2 cap2) l := by
    obtain ⟨fuel, hf⟩ := h2
    rcases open_ints Tryd.underlying24 Tryd.underlying5 (by kernel_rfl) hf with ⟨hcs, _⟩ | ⟨x, l, c, zs, hcs, _, hl, hm, hz, _, hcell, hwz⟩
    · simp [Value.cells] at hcs
      obtain ⟨rfl, rfl, rfl⟩ := hcs
      exact ⟨[], Bs.nil W⟩
    · simp [Value.cells] at hcs
      obtain ⟨rfl, rfl, rfl⟩ := hcs
      exact bs_of_ints hl hm (by simpa using hz) hcell hwz
  clear hA0 hval0
  refine (sealBack_walk W hq l0 w0 _ l1 w1 _ l2 w2).mono fun e W' ⟨he, bel⟩ => ?_
  subst he
  exact ⟨_, rfl, _, _, _, [], _, [], hW', trodAll_mk1 (shut_bool Tryd.underlying4 _), (trodAll_cons_mk (Below.trod laidOut (by kernel_rfl) (of_decide_eq_true (by kernel_rfl)) k0 bel lt0) (trodAll_cons_mk (Below.trod laidOut (by kernel_rfl) (of_decide_eq_true (by kernel_rfl)) k1 bel lt1) (trodAll_cons_mk (Below.trod laidOut (by kernel_rfl) (of_decide_eq_true (by kernel_rfl)) k2 bel lt2) trodAll_mk0))), rfl, bel.frame _, fun h => by cases h⟩

set_option maxRecDepth 100000 in
theorem lifted (os : Os) (started : os.Started) (H : Type) (enc : TypeId × Value → H) (F : Stop.Interp) :
    ReturnsInHanded {} Tryd.checked os 5 .any ((OpenSpec.ofChange Rows.sealBackSpec).preRow enc Tryd.prog Tryd.f5 Rows.sealBackRow.domain false Rows.sealBackRow.laid) (((OpenSpec.ofChange Rows.sealBackSpec).at F).post enc Tryd.prog Tryd.f5 false true false false) := by
  obtain ⟨places, hx⟩ := reads os enc
  refine returnsInHanded_of_row (C := Tryd.checked) (s := OpenSpec.ofChange Rows.sealBackSpec) own started (by kernel_rfl) Tryd.func5
    (witness_row_at (enc := enc) (C := Tryd.checked) false (laidWorld os) #[.agg (List.replicate 32 (Value.int .u8 0)).toArray, .slice none 0 0, .slice none 0 0] rfl (by kernel_rfl) (by kernel_rfl) (by kernel_rfl)
      (OpenSpec.preRow_of_cond 8 hx (by kernel_rfl) (fun k hk => by cases hk) (by kernel_rfl) (laid_met os))) ?_
  intro W base args ds gs before hval hW _ _ _ hL _ _
  exact contract H enc W base args ds gs before hval hW hL

theorem said : Rows.SealBackSaid :=
  OpenClaim.holds_of_cond 5 Tryd.f5 rfl rfl rfl rfl rfl rfl rfl ⟨rfl, rfl, rfl, rfl, rfl⟩ rfl rfl rfl rfl rfl (by kernel_rfl) Tryd.func5 (by kernel_rfl)
    (of_decide_eq_true (by kernel_rfl)) (by unfold Func.isWrapper; first | (rw [if_pos (by decide +kernel)]; kernel_rfl) | (rw [if_neg (by decide +kernel)]; exact ⟨rfl, rfl⟩))
    (fun os started H enc _ F => by rw [OpenClaim.pre_eq_preRow]; exact lifted os started H enc F)

theorem noStand : (Tryd.f5.params.toList.all fun t => Tryd.prog.wantsStandIn t == false) = true := by kernel_rfl
theorem plain (f : FuncId) (fn : Func) (hf : Tryd.pinned.checked.prog.funcNamed "cablegram/cablegramlaw05.SealBack" = some f) (hfn : Tryd.pinned.checked.prog.funcs[f]? = some fn) :
    false = Tryd.pinned.checked.prog.looks [] ∧ ∀ (j : Nat) t, fn.params[j]? = some t → Tryd.pinned.checked.prog.wantsStandIn t = false := by
  obtain rfl : f = 5 := Option.some.inj ((show Tryd.prog.funcNamed "cablegram/cablegramlaw05.SealBack" = some 5 by kernel_rfl).symm.trans hf) |>.symm
  obtain rfl : fn = Tryd.f5 := (Option.some.inj (Tryd.func5.symm.trans hfn)).symm
  refine ⟨by kernel_rfl, fun j t ht => ?_⟩
  have hm : t ∈ Tryd.f5.params.toList := by simpa using Array.mem_of_getElem? ht
  exact beq_iff_eq.1 (List.all_eq_true.1 noStand t hm)

theorem proved : Rows.SealBackCardSaid :=
  Claim7.holds_tied_plain_at .later [] _ _ _ _ said (fun _ h => by cases h) (by kernel_rfl) (fun _ h => by cases h) sealBack_row_tie rfl ⟨rfl, rfl⟩ (by kernel_rfl) rfl plain (by kernel_rfl)
#print axioms proved
end Go.Proofs.YtjdbjgaoeijmfaaDoor.sealBack
end
