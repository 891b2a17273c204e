/-
  VaultBack: for every input the call returns true, and each argument reads as it read before. Conditions: none beyond the given statement's own (the package-level tables that its row lists hold what the program's text lays: the card ties that).
-/
import Derived.Test.YtpgbicbjlhkonaaDoorQVltAS
import Derived.Test.YtpgbicbjlhkonaaDoorQVltAB
import Derived.ProofKit
import Derived.OpenShut
import Derived.ShutString
import Derived.ChangeOld
import Derived.Deep.DeepHandedRow
section
namespace Go.Proofs.YtpgbicbjlhkonaaDoor
open Go.RowKit
set_option linter.unusedVariables false
set_option maxRecDepth 20000

set_option maxHeartbeats 8000000 in
theorem vaultBack_walk (w : World) (ht : Tabs w) (vl : Value) (l : List OpV) (hl : Opvs w vl l) (vb : Value) (b : List UInt8) (hb : Bs w vb b) (vk : Value) (keep : List Bool) (hk : Bls w vk keep) :
    Calls Tryd.prog 3 #[vl, vb, vk] w (RetV w (.bool true)) := by
  have HT := Lib.hid ht
  have HL0 := Lib.hid hl
  have HB0 := Lib.hid hb
  have HK0 := Lib.hid hk
  obtain ⟨bA, bc, rfl, hb1, hb2, _⟩ := hb
  obtain ⟨kA, kc, rfl, _⟩ := hk
  unfold maxLen at hb2
  clear hl ht
  go_enter Tryd.func3, Tryd.ntmps3
  go_wp2_with fail
  refine (vawake_true w HT.out).mono ?_
  rintro e w1 ⟨rfl, b1⟩
  have B1 := Lib.hid b1
  have T1 := Lib.hid (HT.out.below b1)
  have HL := Lib.hid (HL0.out.below b1)
  have HB := Lib.hid (HB0.out.below b1)
  have HK := Lib.hid (HK0.out.below b1)
  clear b1 HT HL0 HB0 HK0
  go_wp2_with fail
  refine (vmade_any w1 T1.out _ l HL.out).mono ?_
  intro e w2 hm
  rcases hm with ⟨_, rfl, b2⟩ | ⟨h12, g, d, rfl, hd, hM⟩
  · go_wp2
    go_ret
    exact ⟨rfl, below_size B1.out b2⟩
  ·
    have HD := Lib.hid hd
    have hlen := hM.len
    have hpend := hM.pend
    clear hd HL
    go_wp2_with fail
    refine (devDown_of HD.out).mono ?_
    rintro e w3 ⟨rfl, b3⟩
    have HD3 := Lib.hid (HD.out.kept b3)
    clear b3 HD
    go_wp2_with fail
    refine (devFuse_of HD3.out (-1) (by omega)).mono ?_
    rintro e w4 ⟨rfl, x4⟩
    have HD := Lib.hid x4
    clear x4 HD3
    go_wp2_with fail
    refine (meter_new w4).mono ?_
    rintro e w5 ⟨gm, rfl, hm⟩
    have V5 := Lib.hid (VS.start T1.out HD.out hm)
    clear hm HD
    obtain ⟨PA, PB⟩ := back_plain hdV_ok hM (by omega) b keep
    have hn0 : (loadV hdV (d.set (-1)) 1 2).2.1 ≤ 12 ∨ True := .inr trivial
    have hlenS : (d.set (-1)).now.length = 20 := hlen
    have hpS : (d.set (-1)).pend.length ≤ 201 := hpend
    obtain ⟨L, hLd⟩ : ∃ r, r = loadV hdV (d.set (-1)) 1 2 := ⟨_, rfl⟩
    obtain ⟨r1, hr1⟩ : ∃ r, r = saveR hdV (d.set (-1)) 1 2 b := ⟨_, rfl⟩
    simp only [← hLd, ← hr1] at PA PB
    have F1 : loadF hdV (d.set (-1)) 1 2 = L := (loadF_12 hlenS).trans hLd.symm
    have F2 : saveF hdV (d.set (-1)) 1 2 b = r1 := (saveF_12 hlenS b).trans hr1.symm
    clear hLd hr1
    go_wp2_with fail
    refine (vload_any V5.out (by omega) 1 2).mono ?_
    rintro e w6 ⟨q6, rfl, s6, u6, v6, l6⟩
    rw [F1] at s6 ⊢
    have V6 := Lib.hid v6
    have Sx_6 := Lib.hid s6
    have Ux_6 := Lib.hid u6
    obtain ⟨Ax, cx, rfl, _⟩ := s6.shape2
    clear s6 u6 v6 l6 V5
    clear Sx_6 Ux_6
    go_wp2_with fail
    by_cases hs : r1.1 = 0
    ·
      obtain ⟨C', p1, calm, cl, cn, cld, ccl⟩ := PB hs
      have n1 : (r1.2.crash keep).now.length = 20 := by rw [calm.now]; exact cl
      have p1' : (r1.2.crash keep).pend.length ≤ 201 := by rw [calm.pend]; exact Nat.zero_le _
      have pz : r1.2.pend.length ≤ 201 := by rw [p1]; exact Nat.zero_le _
      have F3 : loadF hdV (r1.2.crash keep) 1 2 = (b, L.2.1 + 1, 0) := (loadF_12 n1).trans cld
      have F4 : staleF (r1.2.crash keep) 1 2 = (true, 0) := by rw [staleF_12 n1, calm.now, ccl]
      have hwr : IntKind.u64.wrap (((L.2.1 : Nat) : Int) + 1) = ((L.2.1 + 1 : Nat) : Int) := by rw [IntWalk.u64_in _ (by omega)]; rfl
      clear PA PB p1 calm cl cld ccl
      refine (save_any V6.out (by omega) (by omega) 1 2 _ b (stay_arg HB.out)).mono ?_
      rintro e w7 ⟨rfl, v7, l7⟩
      rw [F2] at v7 ⊢
      rw [hs]
      have V7 := Lib.hid v7
      clear v7 l7 V6
      go_wp2_with fail
      refine (V7.out.crash _ keep HK.out (by omega)).mono ?_
      rintro e w8 ⟨rfl, v8, l8⟩
      have V8 := Lib.hid v8
      clear v8 l8 V7
      go_wp2_with fail
      refine (vload_any V8.out (by omega) 1 2).mono ?_
      rintro e w9 ⟨q9, rfl, s9, u9, v9, l9⟩
      rw [F3] at s9 ⊢
      have V9 := Lib.hid v9
      have Sy_9 := Lib.hid s9
      have Uy_9 := Lib.hid u9
      obtain ⟨Ay, cy, rfl, _⟩ := s9.shape2
      clear s9 u9 v9 l9 V8
      go_wp2_with fail
      refine (stale_any V9.out 1 2).mono ?_
      rintro e w10 ⟨rfl, v10, l10⟩
      rw [F4]
      have V10 := Lib.hid v10
      have Sy_10 := Lib.hid (l10.bs Sy_9.out Uy_9.out)
      have Uy_10 := Lib.hid (l10.u8 Uy_9.out)
      clear Sy_9 Uy_9
      clear v10 l10 V9
      go_wp2_with fail
      refine (same_yes w10 _ _ b (HB.out.below V10.out.below) Sy_10.out).mono ?_
      rintro e w11 ⟨rfl, b11⟩
      have V11 := Lib.hid (V10.out.kept b11)
      have l11_ := Lk.of_below b11
      have Sy_11 := Lib.hid (l11_.bs Sy_10.out Uy_10.out)
      have Uy_11 := Lib.hid (l11_.u8 Uy_10.out)
      clear Sy_10 Uy_10
      clear l11_
      clear b11 V10
      go_wp2
      go_ret
      exact ⟨rfl, below_size B1.out V11.out.below⟩
    ·
      have PN := PA hs
      have e1 : ¬ (r1.1 = 0) := hs
      have e2 : decide (r1.1 = 0) = false := decide_eq_false hs
      clear PA PB
      refine (save_any V6.out (by omega) (by omega) 1 2 _ b (stay_arg HB.out)).mono ?_
      rintro e w7 ⟨rfl, v7, l7⟩
      rw [F2] at v7 ⊢
      have V7 := Lib.hid v7
      clear v7 l7 V6
      by_cases hbu : d.burnt = true
      ·
        go_wp2
        go_ret
        exact ⟨rfl, below_size B1.out V7.out.below⟩
      ·
        have hbf : d.burnt = false := by simpa using hbu
        have h5 : (512 : Int) < (b.length : Int) := by
          rcases PN with h | h
          · exact absurd h hbu
          · omega
        have h5' : decide ((512 : Int) < (b.length : Int)) = true := decide_eq_true h5
        go_wp2
        go_ret
        exact ⟨rfl, below_size B1.out V7.out.below⟩
end Go.Proofs.YtpgbicbjlhkonaaDoor
end
section
namespace Go.Proofs.YtpgbicbjlhkonaaDoor.vaultBack
open Go.ChangeShapes Go.WideShapes Go.ChangeAt Go.RowKit
open Go.ChangeMaps (open_string shut_string)
set_option linter.unusedVariables false

theorem own : ownKnob Tryd.prog.godebug = none := by kernel_rfl
theorem laidOut : laidOutB Tryd.prog = true := by kernel_rfl

theorem laid_met (os : Os) : laidMet Tryd.prog Rows.vaultBackRow.laid ((laidWorld os).forCall (fun _ _ => 0) ⟨#[], #[.slice none 0 0, .slice none 0 0, .slice none 0 0], []⟩).memory :=
  laidMet_of_run' 8 (by kernel_rfl) (by kernel_rfl)
theorem reads (os : Os) {H : Type} (enc : TypeId × Value → H) : ∃ places, DataW.whole enc Tryd.prog ((laidWorld os).forCall (fun _ _ => 0) ⟨#[], #[.slice none 0 0, .slice none 0 0, .slice none 0 0], []⟩).memory Tryd.f3.params.toList Rows.vaultBackSpec.vars false #[.slice none 0 0, .slice none 0 0, .slice none 0 0].toList 8 = some ([.nil, .nil, .nil], [], places) :=
  ⟨[], by kernel_rfl⟩

set_option maxRecDepth 100000 in
theorem contract (H : Type) (enc : TypeId × Value → H) (W : World) (base : Nat) (args : Array Value) (ds gs : List (DataW H)) (before : List MemPlace)
    (hval0 : ∀ (j : Nat) t v, Tryd.f3.params[j]? = some t → args[j]? = some v → Value.okWide Tryd.prog W .any base t v)
    (hW : DataW.Whole enc Tryd.prog Tryd.f3.params.toList Rows.vaultBackSpec.vars false W args.toList ds gs before) (hL : laidMetH Tryd.prog Rows.vaultBackRow.laid W) :
    Calls Tryd.prog 3 args W fun e W' => ∃ v, e = .returned v ∧ Rows.vaultBackSpec.post enc Tryd.prog Tryd.f3 false true false false W args v W' := by
  have hq := tables hL
  have hval : ∀ (j : Nat) t v, Tryd.f3.params[j]? = some t → args[j]? = some v → Value.okWide Tryd.prog W .any base t v := hval0
  have hW' := hW
  obtain ⟨p, q, hA0, hV, rfl, hfz, hnd⟩ := hW
  have hA : DataW.TrodAll enc Tryd.prog W 0 (fun _ => true) true Tryd.f3.params.toList args.toList ds p := hA0
  rw [Tryd.params3] at hA hval
  obtain ⟨v0, vs0, d0, ds0, p0, q0, hargs, rfl, rfl, h0, r0⟩ := trodAll_cons hA
  obtain ⟨v1, vs1, d1, ds1, p1, q1, rfl, rfl, rfl, h1, r1⟩ := trodAll_cons r0
  obtain ⟨v2, vs2, d2, ds2, p2, q2, rfl, rfl, rfl, h2, r2⟩ := trodAll_cons r1
  obtain ⟨rfl, rfl, rfl⟩ := trodAll_nil r2
  obtain rfl : args = #[v0, v1, v2] := by cases args; simp_all
  obtain ⟨rfl, rfl⟩ := trodVars_none hV
  obtain ⟨a0, len0, cap0, rfl⟩ := okWide_slice Tryd.underlying22 (hval 0 22 v0 rfl rfl)
  have k0 := h0
  have lt0 : ∀ x ∈ p0, x.block < W.heap.size := by obtain ⟨m, hm⟩ := k0; exact DataW.trod_lt m _ _ _ hm
  obtain ⟨l0, w0⟩ : ∃ l, Opvs W (.slice a0 len0 cap0) l := by
    obtain ⟨fuel, hf⟩ := h0
    obtain ⟨v, l, hcs, hk⟩ := open_opvs hf
    simp [Value.cells] at hcs
    subst hcs
    exact ⟨l, hk⟩
  obtain ⟨a1, len1, cap1, rfl⟩ := okWide_slice Tryd.underlying23 (hval 1 23 v1 rfl rfl)
  have k1 := h1
  have lt1 : ∀ x ∈ p1, x.block < W.heap.size := by obtain ⟨m, hm⟩ := k1; exact DataW.trod_lt m _ _ _ hm
  obtain ⟨l1, w1⟩ : ∃ l, Bs W (.slice a1 len1 cap1) l := by
    obtain ⟨fuel, hf⟩ := h1
    rcases open_ints Tryd.underlying23 Tryd.underlying5 (by kernel_rfl) hf with ⟨hcs, _⟩ | ⟨x, l, c, zs, hcs, _, hl, hm, hz, _, hcell, hwz⟩
    · simp [Value.cells] at hcs
      obtain ⟨rfl, rfl, rfl⟩ := hcs
      exact ⟨[], Bs.nil W⟩
    · simp [Value.cells] at hcs
      obtain ⟨rfl, rfl, rfl⟩ := hcs
      exact bs_of_ints hl hm (by simpa using hz) hcell hwz
  obtain ⟨a2, len2, cap2, rfl⟩ := okWide_slice Tryd.underlying24 (hval 2 24 v2 rfl rfl)
  have k2 := h2
  have lt2 : ∀ x ∈ p2, x.block < W.heap.size := by obtain ⟨m, hm⟩ := k2; exact DataW.trod_lt m _ _ _ hm
  obtain ⟨l2, w2⟩ : ∃ l, Bls W (.slice a2 len2 cap2) l := by
    obtain ⟨fuel, hf⟩ := h2
    obtain ⟨v, l, hcs, hk⟩ := open_bls Tryd.underlying24 Tryd.underlying4 (by kernel_rfl) hf
    simp [Value.cells] at hcs
    subst hcs
    exact ⟨l, hk⟩
  clear hA0 hval0
  refine (vaultBack_walk W hq _ l0 w0 _ l1 w1 _ l2 w2).mono fun e W' ⟨he, bel⟩ => ?_
  subst he
  exact ⟨_, rfl, _, _, _, [], _, [], hW', trodAll_mk1 (shut_bool Tryd.underlying4 _), (trodAll_cons_mk (Below.trod laidOut (by kernel_rfl) (of_decide_eq_true (by kernel_rfl)) k0 bel lt0) (trodAll_cons_mk (Below.trod laidOut (by kernel_rfl) (of_decide_eq_true (by kernel_rfl)) k1 bel lt1) (trodAll_cons_mk (Below.trod laidOut (by kernel_rfl) (of_decide_eq_true (by kernel_rfl)) k2 bel lt2) trodAll_mk0))), rfl, bel.frame _, fun h => by cases h⟩

set_option maxRecDepth 100000 in
theorem lifted (os : Os) (started : os.Started) (H : Type) (enc : TypeId × Value → H) (F : Stop.Interp) :
    ReturnsInHanded {} Tryd.checked os 3 .any ((OpenSpec.ofChange Rows.vaultBackSpec).preRow enc Tryd.prog Tryd.f3 Rows.vaultBackRow.domain false Rows.vaultBackRow.laid) (((OpenSpec.ofChange Rows.vaultBackSpec).at F).post enc Tryd.prog Tryd.f3 false true false false) := by
  obtain ⟨places, hx⟩ := reads os enc
  refine returnsInHanded_of_row (C := Tryd.checked) (s := OpenSpec.ofChange Rows.vaultBackSpec) own started (by kernel_rfl) Tryd.func3
    (witness_row_at (enc := enc) (C := Tryd.checked) false (laidWorld os) #[.slice none 0 0, .slice none 0 0, .slice none 0 0] rfl (by kernel_rfl) (by kernel_rfl) (by kernel_rfl)
      (OpenSpec.preRow_of_cond 8 hx (by kernel_rfl) (fun k hk => by cases hk) (by kernel_rfl) (laid_met os))) ?_
  intro W base args ds gs before hval hW _ _ _ hL _ _
  exact contract H enc W base args ds gs before hval hW hL

theorem said : Rows.VaultBackSaid :=
  OpenClaim.holds_of_cond 3 Tryd.f3 rfl rfl rfl rfl rfl rfl rfl ⟨rfl, rfl, rfl, rfl, rfl⟩ rfl rfl rfl rfl rfl (by kernel_rfl) Tryd.func3 (by kernel_rfl)
    (of_decide_eq_true (by kernel_rfl)) (by unfold Func.isWrapper; first | (rw [if_pos (by decide +kernel)]; kernel_rfl) | (rw [if_neg (by decide +kernel)]; exact ⟨rfl, rfl⟩))
    (fun os started H enc _ F => by rw [OpenClaim.pre_eq_preRow]; exact lifted os started H enc F)

theorem noStand : (Tryd.f3.params.toList.all fun t => Tryd.prog.wantsStandIn t == false) = true := by kernel_rfl
theorem plain (f : FuncId) (fn : Func) (hf : Tryd.pinned.checked.prog.funcNamed "cablegram/cablegramlaw12.VaultBack" = some f) (hfn : Tryd.pinned.checked.prog.funcs[f]? = some fn) :
    false = Tryd.pinned.checked.prog.looks [] ∧ ∀ (j : Nat) t, fn.params[j]? = some t → Tryd.pinned.checked.prog.wantsStandIn t = false := by
  obtain rfl : f = 3 := Option.some.inj ((show Tryd.prog.funcNamed "cablegram/cablegramlaw12.VaultBack" = some 3 by kernel_rfl).symm.trans hf) |>.symm
  obtain rfl : fn = Tryd.f3 := (Option.some.inj (Tryd.func3.symm.trans hfn)).symm
  refine ⟨by kernel_rfl, fun j t ht => ?_⟩
  have hm : t ∈ Tryd.f3.params.toList := by simpa using Array.mem_of_getElem? ht
  exact beq_iff_eq.1 (List.all_eq_true.1 noStand t hm)

theorem proved : Rows.VaultBackCardSaid :=
  Claim7.holds_tied_plain_at .later [] _ _ _ _ said (fun _ h => by cases h) (by kernel_rfl) (fun _ h => by cases h) vaultBack_row_tie rfl ⟨rfl, rfl⟩ (by kernel_rfl) rfl plain (by kernel_rfl)
#print axioms proved
end Go.Proofs.YtpgbicbjlhkonaaDoor.vaultBack
end
