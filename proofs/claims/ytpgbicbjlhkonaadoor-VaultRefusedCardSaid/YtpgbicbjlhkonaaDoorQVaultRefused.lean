/-
  VaultRefused: for every input the call returns true, and each argument reads as it read before. Conditions: none beyond the given statement's own (the package-level tables that its row lists hold what the program's text lays: the card ties that).
-/
import Derived.Test.YtpgbicbjlhkonaaDoorQVltAS
import Derived.Test.YtpgbicbjlhkonaaDoorQVltAB
import Derived.ProofKit
import Derived.OpenShut
import Derived.ShutString
import Derived.ChangeOld
import Derived.Deep.DeepHandedRow
section
namespace Go.Proofs.YtpgbicbjlhkonaaDoor
open Go.RowKit
set_option linter.unusedVariables false
set_option maxRecDepth 20000

set_option maxHeartbeats 8000000 in
theorem vaultRefused_walk (w : World) (ht : Tabs w) (vl : Value) (l : List OpV) (hl : Opvs w vl l) (vb : Value) (b : List UInt8) (hb : Bs w vb b) (at_ : Int) (hat : -9223372036854775808 ≤ at_ ∧ at_ ≤ 9223372036854775807) (n : Int) (hn : -9223372036854775808 ≤ n ∧ n ≤ 9223372036854775807) :
    Calls Tryd.prog 6 #[vl, vb, .int .i64 at_, .int .i64 n] w (RetV w (.bool true)) := by
  have HT := Lib.hid ht
  have HL0 := Lib.hid hl
  have HB0 := Lib.hid hb
  obtain ⟨bA, bc, rfl, hb1, hb2, _⟩ := hb
  unfold maxLen at hb2
  clear hl ht
  go_enter Tryd.func6, Tryd.ntmps6
  go_wp2_with fail
  refine (vawake_true w HT.out).mono ?_
  rintro e w1 ⟨rfl, b1⟩
  have B1 := Lib.hid b1
  have T1 := Lib.hid (HT.out.below b1)
  have HL := Lib.hid (HL0.out.below b1)
  have HB := Lib.hid (HB0.out.below b1)
  clear b1 HT HL0 HB0
  go_wp2_with fail
  refine (vmade_any w1 T1.out _ l HL.out).mono ?_
  intro e w2 hm
  rcases hm with ⟨_, rfl, b2⟩ | ⟨h12, g, d, rfl, hd, hM⟩
  · go_wp2
    go_ret
    exact ⟨rfl, below_size B1.out b2⟩
  ·
    have HD := Lib.hid hd
    have hlen := hM.len
    have hpend := hM.pend
    clear hd HL
    go_wp2_with fail
    refine (devCrash_of HD.out _ [] (Bls.nil _) (by omega)).mono ?_
    rintro e w3 ⟨rfl, x3⟩
    have HD3 := Lib.hid x3
    clear x3 HD
    have HD := HD3
    go_wp2_with fail
    refine (meter_new w3).mono ?_
    rintro e w4 ⟨gm, rfl, hm⟩
    have V4 := Lib.hid (VS.start T1.out HD.out hm)
    clear hm HD
    have q0 : D20 (d.crash []) := D20.crash ⟨hM.ok, hM.len⟩ []
    obtain ⟨PA, PB⟩ := refused_plain hdV_ok (Free.crash d []) q0.ok at_ n b (fun q b _ => Nat.le_of_eq (hdV_len q b))
    have PN : (saveF hdV (d.crash []) at_ n b).1 = 0 → 1 ≤ n ∧ n ≤ 200 := fun h => by
      unfold saveF at h
      split at h
      · rename_i h2
        unfold rightV at h2
        split at h2
        · cases h2
        · omega
      · rename_i h2
        exact absurd h h2
    have p0 : (d.crash []).pend.length = 0 := rfl
    have lq := q0.len
    generalize d.crash [] = d0 at *
    obtain ⟨L, hLd⟩ : ∃ r, r = loadV hdV d0 1 2 := ⟨_, rfl⟩
    have F1 : loadF hdV d0 1 2 = L := (loadF_12 lq).trans hLd.symm
    obtain ⟨x0, n0, e0⟩ := L
    obtain ⟨r1, hr1⟩ : ∃ r, r = saveF hdV d0 at_ n b := ⟨_, rfl⟩
    have F2 : saveF hdV d0 at_ n b = r1 := hr1.symm
    simp only [← hr1] at PA PB PN
    clear hLd hr1 lq q0
    go_wp2_with fail
    refine (vload_any V4.out (by omega) 1 2).mono ?_
    rintro e w5 ⟨q5, rfl, s5, u5, v5, l5⟩
    rw [F1] at s5 ⊢
    have V5 := Lib.hid v5
    have Sx_5 := Lib.hid s5
    have Ux_5 := Lib.hid u5
    obtain ⟨Ax, cx, rfl, _⟩ := s5.shape2
    clear s5 u5 v5 l5 V4
    go_wp2_with fail
    refine (save_any V5.out (by omega) (by omega) at_ n _ b (stay_arg HB.out)).mono ?_
    rintro e w6 ⟨rfl, v6, l6⟩
    rw [F2] at v6 ⊢
    have V6 := Lib.hid v6
    have Sx_6 := Lib.hid (l6.bs Sx_5.out Ux_5.out)
    have Ux_6 := Lib.hid (l6.u8 Ux_5.out)
    clear Sx_5 Ux_5
    clear v6 l6 V5
    by_cases hs : r1.1 = 0
    ·
      obtain ⟨hn1, hn2⟩ := PN hs
      have hw : IntKind.i64.wrap (256 * n) = 256 * n := IntWalk.i64_in _ (by omega)
      have hle : (b.length : Int) ≤ 256 * n := PA hs
      have hd1 : decide ((b.length : Int) ≤ 256 * n) = true := decide_eq_true hle
      clear PA PB PN
      go_wp2
      go_ret
      exact ⟨rfl, below_size B1.out V6.out.below⟩
    ·
      have hsd : decide (r1.1 = 0) = false := decide_eq_false hs
      have e2 : r1.2 = d0 := PB hs
      rw [e2] at V6
      clear PA PB PN e2
      go_wp2_with fail
      refine (vload_any V6.out (by omega) 1 2).mono ?_
      rintro e w7 ⟨q7, rfl, s7, u7, v7, l7⟩
      rw [F1] at s7 ⊢
      have V7 := Lib.hid v7
      have Sx_7 := Lib.hid (l7.bs Sx_6.out Ux_6.out)
      have Ux_7 := Lib.hid (l7.u8 Ux_6.out)
      clear Sx_6 Ux_6
      have Sz_7 := Lib.hid s7
      have Uz_7 := Lib.hid u7
      obtain ⟨Az, cz, rfl, _⟩ := s7.shape2
      clear s7 u7 v7 l7 V6
      go_wp2_with fail
      refine (V7.out.pending).mono ?_
      rintro e w8 ⟨rfl, b8⟩
      rw [p0]
      have V8 := Lib.hid (V7.out.kept b8)
      have l8_ := Lk.of_below b8
      have Sx_8 := Lib.hid (l8_.bs Sx_7.out Ux_7.out)
      have Ux_8 := Lib.hid (l8_.u8 Ux_7.out)
      have Sz_8 := Lib.hid (l8_.bs Sz_7.out Uz_7.out)
      have Uz_8 := Lib.hid (l8_.u8 Uz_7.out)
      clear Sx_7 Ux_7 Sz_7 Uz_7
      clear l8_
      clear b8 V7
      go_wp2_with fail
      refine (same_yes w8 _ _ x0 Sz_8.out Sx_8.out).mono ?_
      rintro e w9 ⟨rfl, b9⟩
      have V9 := Lib.hid (V8.out.kept b9)
      have l9_ := Lk.of_below b9
      have Sx_9 := Lib.hid (l9_.bs Sx_8.out Ux_8.out)
      have Ux_9 := Lib.hid (l9_.u8 Ux_8.out)
      have Sz_9 := Lib.hid (l9_.bs Sz_8.out Uz_8.out)
      have Uz_9 := Lib.hid (l9_.u8 Uz_8.out)
      clear Sx_8 Ux_8 Sz_8 Uz_8
      clear l9_
      clear b9 V8
      go_wp2
      go_ret
      exact ⟨rfl, below_size B1.out V9.out.below⟩
end Go.Proofs.YtpgbicbjlhkonaaDoor
end
section
namespace Go.Proofs.YtpgbicbjlhkonaaDoor.vaultRefused
open Go.ChangeShapes Go.WideShapes Go.ChangeAt Go.RowKit
open Go.ChangeMaps (open_string shut_string)
set_option linter.unusedVariables false

theorem own : ownKnob Tryd.prog.godebug = none := by kernel_rfl
theorem laidOut : laidOutB Tryd.prog = true := by kernel_rfl

theorem laid_met (os : Os) : laidMet Tryd.prog Rows.vaultRefusedRow.laid ((laidWorld os).forCall (fun _ _ => 0) ⟨#[], #[.slice none 0 0, .slice none 0 0, .int .i64 0, .int .i64 0], []⟩).memory :=
  laidMet_of_run' 8 (by kernel_rfl) (by kernel_rfl)
theorem reads (os : Os) {H : Type} (enc : TypeId × Value → H) : ∃ places, DataW.whole enc Tryd.prog ((laidWorld os).forCall (fun _ _ => 0) ⟨#[], #[.slice none 0 0, .slice none 0 0, .int .i64 0, .int .i64 0], []⟩).memory Tryd.f6.params.toList Rows.vaultRefusedSpec.vars false #[.slice none 0 0, .slice none 0 0, .int .i64 0, .int .i64 0].toList 8 = some ([.nil, .nil, .lit (.int .i64 0), .lit (.int .i64 0)], [], places) :=
  ⟨[], by kernel_rfl⟩

set_option maxRecDepth 100000 in
theorem contract (H : Type) (enc : TypeId × Value → H) (W : World) (base : Nat) (args : Array Value) (ds gs : List (DataW H)) (before : List MemPlace)
    (hval0 : ∀ (j : Nat) t v, Tryd.f6.params[j]? = some t → args[j]? = some v → Value.okWide Tryd.prog W .any base t v)
    (hW : DataW.Whole enc Tryd.prog Tryd.f6.params.toList Rows.vaultRefusedSpec.vars false W args.toList ds gs before) (hL : laidMetH Tryd.prog Rows.vaultRefusedRow.laid W) :
    Calls Tryd.prog 6 args W fun e W' => ∃ v, e = .returned v ∧ Rows.vaultRefusedSpec.post enc Tryd.prog Tryd.f6 false true false false W args v W' := by
  have hq := tables hL
  have hval : ∀ (j : Nat) t v, Tryd.f6.params[j]? = some t → args[j]? = some v → Value.okWide Tryd.prog W .any base t v := hval0
  have hW' := hW
  obtain ⟨p, q, hA0, hV, rfl, hfz, hnd⟩ := hW
  have hA : DataW.TrodAll enc Tryd.prog W 0 (fun _ => true) true Tryd.f6.params.toList args.toList ds p := hA0
  rw [Tryd.params6] at hA hval
  obtain ⟨v0, vs0, d0, ds0, p0, q0, hargs, rfl, rfl, h0, r0⟩ := trodAll_cons hA
  obtain ⟨v1, vs1, d1, ds1, p1, q1, rfl, rfl, rfl, h1, r1⟩ := trodAll_cons r0
  obtain ⟨v2, vs2, d2, ds2, p2, q2, rfl, rfl, rfl, h2, r2⟩ := trodAll_cons r1
  obtain ⟨v3, vs3, d3, ds3, p3, q3, rfl, rfl, rfl, h3, r3⟩ := trodAll_cons r2
  obtain ⟨rfl, rfl, rfl⟩ := trodAll_nil r3
  obtain rfl : args = #[v0, v1, v2, v3] := by cases args; simp_all
  obtain ⟨rfl, rfl⟩ := trodVars_none hV
  obtain ⟨a0, len0, cap0, rfl⟩ := okWide_slice Tryd.underlying22 (hval 0 22 v0 rfl rfl)
  have k0 := h0
  have lt0 : ∀ x ∈ p0, x.block < W.heap.size := by obtain ⟨m, hm⟩ := k0; exact DataW.trod_lt m _ _ _ hm
  obtain ⟨l0, w0⟩ : ∃ l, Opvs W (.slice a0 len0 cap0) l := by
    obtain ⟨fuel, hf⟩ := h0
    obtain ⟨v, l, hcs, hk⟩ := open_opvs hf
    simp [Value.cells] at hcs
    subst hcs
    exact ⟨l, hk⟩
  obtain ⟨a1, len1, cap1, rfl⟩ := okWide_slice Tryd.underlying23 (hval 1 23 v1 rfl rfl)
  have k1 := h1
  have lt1 : ∀ x ∈ p1, x.block < W.heap.size := by obtain ⟨m, hm⟩ := k1; exact DataW.trod_lt m _ _ _ hm
  obtain ⟨l1, w1⟩ : ∃ l, Bs W (.slice a1 len1 cap1) l := by
    obtain ⟨fuel, hf⟩ := h1
    rcases open_ints Tryd.underlying23 Tryd.underlying5 (by kernel_rfl) hf with ⟨hcs, _⟩ | ⟨x, l, c, zs, hcs, _, hl, hm, hz, _, hcell, hwz⟩
    · simp [Value.cells] at hcs
      obtain ⟨rfl, rfl, rfl⟩ := hcs
      exact ⟨[], Bs.nil W⟩
    · simp [Value.cells] at hcs
      obtain ⟨rfl, rfl, rfl⟩ := hcs
      exact bs_of_ints hl hm (by simpa using hz) hcell hwz
  obtain ⟨a2, rfl, rfl, rfl, w2⟩ := open_int Tryd.underlying3 (hval 2 3 v2 rfl rfl) h2
  obtain ⟨a3, rfl, rfl, rfl, w3⟩ := open_int Tryd.underlying3 (hval 3 3 v3 rfl rfl) h3
  clear hA0 hval0
  refine (vaultRefused_walk W hq _ l0 w0 _ l1 w1 a2 (i64_of_wf w2) a3 (i64_of_wf w3)).mono fun e W' ⟨he, bel⟩ => ?_
  subst he
  exact ⟨_, rfl, _, _, _, [], _, [], hW', trodAll_mk1 (shut_bool Tryd.underlying4 _), (trodAll_cons_mk (Below.trod laidOut (by kernel_rfl) (of_decide_eq_true (by kernel_rfl)) k0 bel lt0) (trodAll_cons_mk (Below.trod laidOut (by kernel_rfl) (of_decide_eq_true (by kernel_rfl)) k1 bel lt1) (trodAll_cons_mk (shut_int Tryd.underlying3 w2) (trodAll_cons_mk (shut_int Tryd.underlying3 w3) trodAll_mk0)))), rfl, bel.frame _, fun h => by cases h⟩

set_option maxRecDepth 100000 in
theorem lifted (os : Os) (started : os.Started) (H : Type) (enc : TypeId × Value → H) (F : Stop.Interp) :
    ReturnsInHanded {} Tryd.checked os 6 .any ((OpenSpec.ofChange Rows.vaultRefusedSpec).preRow enc Tryd.prog Tryd.f6 Rows.vaultRefusedRow.domain false Rows.vaultRefusedRow.laid) (((OpenSpec.ofChange Rows.vaultRefusedSpec).at F).post enc Tryd.prog Tryd.f6 false true false false) := by
  obtain ⟨places, hx⟩ := reads os enc
  refine returnsInHanded_of_row (C := Tryd.checked) (s := OpenSpec.ofChange Rows.vaultRefusedSpec) own started (by kernel_rfl) Tryd.func6
    (witness_row_at (enc := enc) (C := Tryd.checked) false (laidWorld os) #[.slice none 0 0, .slice none 0 0, .int .i64 0, .int .i64 0] rfl (by kernel_rfl) (by kernel_rfl) (by kernel_rfl)
      (OpenSpec.preRow_of_cond 8 hx (by kernel_rfl) (fun k hk => by cases hk) (by kernel_rfl) (laid_met os))) ?_
  intro W base args ds gs before hval hW _ _ _ hL _ _
  exact contract H enc W base args ds gs before hval hW hL

theorem said : Rows.VaultRefusedSaid :=
  OpenClaim.holds_of_cond 6 Tryd.f6 rfl rfl rfl rfl rfl rfl rfl ⟨rfl, rfl, rfl, rfl, rfl⟩ rfl rfl rfl rfl rfl (by kernel_rfl) Tryd.func6 (by kernel_rfl)
    (of_decide_eq_true (by kernel_rfl)) (by unfold Func.isWrapper; first | (rw [if_pos (by decide +kernel)]; kernel_rfl) | (rw [if_neg (by decide +kernel)]; exact ⟨rfl, rfl⟩))
    (fun os started H enc _ F => by rw [OpenClaim.pre_eq_preRow]; exact lifted os started H enc F)

theorem noStand : (Tryd.f6.params.toList.all fun t => Tryd.prog.wantsStandIn t == false) = true := by kernel_rfl
theorem plain (f : FuncId) (fn : Func) (hf : Tryd.pinned.checked.prog.funcNamed "cablegram/cablegramlaw12.VaultRefused" = some f) (hfn : Tryd.pinned.checked.prog.funcs[f]? = some fn) :
    false = Tryd.pinned.checked.prog.looks [] ∧ ∀ (j : Nat) t, fn.params[j]? = some t → Tryd.pinned.checked.prog.wantsStandIn t = false := by
  obtain rfl : f = 6 := Option.some.inj ((show Tryd.prog.funcNamed "cablegram/cablegramlaw12.VaultRefused" = some 6 by kernel_rfl).symm.trans hf) |>.symm
  obtain rfl : fn = Tryd.f6 := (Option.some.inj (Tryd.func6.symm.trans hfn)).symm
  refine ⟨by kernel_rfl, fun j t ht => ?_⟩
  have hm : t ∈ Tryd.f6.params.toList := by simpa using Array.mem_of_getElem? ht
  exact beq_iff_eq.1 (List.all_eq_true.1 noStand t hm)

theorem proved : Rows.VaultRefusedCardSaid :=
  Claim7.holds_tied_plain_at .later [] _ _ _ _ said (fun _ h => by cases h) (by kernel_rfl) (fun _ h => by cases h) vaultRefused_row_tie rfl ⟨rfl, rfl⟩ (by kernel_rfl) rfl plain (by kernel_rfl)
#print axioms proved
end Go.Proofs.YtpgbicbjlhkonaaDoor.vaultRefused
end
