/-
  VaultAmid: for every input the call returns true, and each argument reads as it read before. Conditions: none beyond the given statement's own (the package-level tables that its row lists hold what the program's text lays: the card ties that).
-/
import Derived.Test.YtpgbicbjlhkonaaDoorQVltAS
import Derived.Test.YtpgbicbjlhkonaaDoorQVltAB
import Derived.ProofKit
import Derived.OpenShut
import Derived.ShutString
import Derived.ChangeOld
import Derived.Deep.DeepHandedRow
section
namespace Go.Proofs.YtpgbicbjlhkonaaDoor
open Go.RowKit
set_option linter.unusedVariables false
set_option maxRecDepth 20000

set_option maxHeartbeats 8000000 in
theorem vaultAmid_walk (w : World) (ht : Tabs w) (vl : Value) (l : List OpV) (hl : Opvs w vl l) (vb : Value) (b : List UInt8) (hb : Bs w vb b) (fuse : Int) (hf : -9223372036854775808 ≤ fuse ∧ fuse ≤ 9223372036854775807) (vk : Value) (keep : List Bool) (hk : Bls w vk keep) (again : Int) (ha : -9223372036854775808 ≤ again ∧ again ≤ 9223372036854775807) (vo : Value) (other : List Bool) (ho : Bls w vo other) :
    Calls Tryd.prog 4 #[vl, vb, .int .i64 fuse, vk, .int .i64 again, vo] w (RetV w (.bool true)) := by
  have HT := Lib.hid ht
  have HL0 := Lib.hid hl
  have HB0 := Lib.hid hb
  have HK0 := Lib.hid hk
  have HO0 := Lib.hid ho
  obtain ⟨bA, bc, rfl, hb1, hb2, _⟩ := hb
  obtain ⟨kA, kc, rfl, _⟩ := hk
  obtain ⟨oA, oc, rfl, _⟩ := ho
  unfold maxLen at hb2
  clear hl ht
  go_enter Tryd.func4, Tryd.ntmps4
  go_wp2_with fail
  refine (vawake_true w HT.out).mono ?_
  rintro e w1 ⟨rfl, b1⟩
  have B1 := Lib.hid b1
  have T1 := Lib.hid (HT.out.below b1)
  have HL := Lib.hid (HL0.out.below b1)
  have HB := Lib.hid (HB0.out.below b1)
  have HK := Lib.hid (HK0.out.below b1)
  have HO := Lib.hid (HO0.out.below b1)
  clear b1 HT HL0 HB0 HK0 HO0
  go_wp2_with fail
  refine (vmade_any w1 T1.out _ l HL.out).mono ?_
  intro e w2 hm
  rcases hm with ⟨_, rfl, b2⟩ | ⟨h12, g, d, rfl, hd, hM⟩
  · go_wp2
    go_ret
    exact ⟨rfl, below_size B1.out b2⟩
  ·
    have HD := Lib.hid hd
    have hlen := hM.len
    have hpend := hM.pend
    clear hd HL
    go_wp2_with fail
    refine (devCrash_of HD.out _ [] (Bls.nil _) (by omega)).mono ?_
    rintro e w3 ⟨rfl, x3⟩
    have HD3 := Lib.hid x3
    clear x3 HD
    have HD := HD3
    go_wp2_with fail
    refine (meter_new w3).mono ?_
    rintro e w4 ⟨gm, rfl, hm⟩
    have V4 := Lib.hid (VS.start T1.out HD.out hm)
    clear hm HD
    have PP := amid_plain hdV_ok hM (by omega) b fuse again hf ha keep other
    have q0 : D20 (d.crash []) := D20.crash ⟨hM.ok, hM.len⟩ []
    have p0 : (d.crash []).pend.length ≤ 201 := Nat.zero_le _
    obtain ⟨r0, hr0⟩ : ∃ r, r = recR hdV (d.crash []) 1 2 := ⟨_, rfl⟩
    obtain ⟨r1, hr1⟩ : ∃ r, r = saveR hdV (r0.2.set fuse) 1 2 b := ⟨_, rfl⟩
    obtain ⟨r2, hr2⟩ : ∃ r, r = recR hdV ((r1.2.crash keep).set again) 1 2 := ⟨_, rfl⟩
    obtain ⟨r3, hr3⟩ : ∃ r, r = recR hdV (r2.2.crash other) 1 2 := ⟨_, rfl⟩
    simp only [← hr0, ← hr1, ← hr2, ← hr3] at PP
    obtain ⟨p1, p2, p3, ln, PA, PB, PC⟩ := PP
    have q1 : D20 (r0.2.set fuse) := D20.set (by rw [hr0]; exact q0.rec_) hf
    have q2 : D20 ((r1.2.crash keep).set again) := D20.set (D20.crash (by rw [hr1]; exact q1.save b) keep) ha
    have q3 : D20 (r2.2.crash other) := D20.crash (by rw [hr2]; exact q2.rec_) other
    have q4 : D20 r3.2 := by rw [hr3]; exact q3.rec_
    have F0 : recF hdV (d.crash []) 1 2 = r0 := (recF_12 q0.len).trans hr0.symm
    have F1 : saveF hdV (r0.2.set fuse) 1 2 b = r1 := (saveF_12 q1.len b).trans hr1.symm
    have F2 : recF hdV ((r1.2.crash keep).set again) 1 2 = r2 := (recF_12 q2.len).trans hr2.symm
    have F3 : recF hdV (r2.2.crash other) 1 2 = r3 := (recF_12 q3.len).trans hr3.symm
    have F4 : staleF r3.2 1 2 = (cleanV r3.2.now (lowOf 1 2 0) 2 || cleanV r3.2.now (lowOf 1 2 1) 2, 0) := staleF_12 q4.len
    have p1s : (r0.2.set fuse).pend.length ≤ 201 := p1
    have p2s : ((r1.2.crash keep).set again).pend.length ≤ 201 := Nat.zero_le _
    have p3s : (r2.2.crash other).pend.length ≤ 201 := Nat.zero_le _
    clear hr0 hr1 hr2 hr3 q0 q1 q2 q3 q4
    obtain ⟨⟨x0, n0, e0⟩, d0⟩ := r0
    obtain ⟨⟨x3, n3, e3⟩, d3⟩ := r3
    generalize (cleanV d3.now (lowOf 1 2 0) 2 || cleanV d3.now (lowOf 1 2 1) 2) = st at PC F4
    simp only at *
    go_wp2_with fail
    refine (recover_any V4.out (by omega) (by omega) 1 2).mono ?_
    rintro e w5 ⟨q5, rfl, s5, u5, v5, l5⟩
    rw [F0] at s5 v5 ⊢
    have V5 := Lib.hid v5
    have Sx_5 := Lib.hid s5
    have Ux_5 := Lib.hid u5
    obtain ⟨Ax, cx, rfl, _⟩ := s5.shape2
    clear s5 u5 v5 l5 V4
    go_wp2_with fail
    refine (V5.out.fuse fuse hf).mono ?_
    rintro e w6 ⟨rfl, v6, l6⟩
    have V6 := Lib.hid v6
    have Sx_6 := Lib.hid (l6.bs Sx_5.out Ux_5.out)
    have Ux_6 := Lib.hid (l6.u8 Ux_5.out)
    clear Sx_5 Ux_5
    clear v6 l6 V5
    go_wp2_with fail
    refine (save_any V6.out (by omega) (by omega) 1 2 _ b (stay_arg HB.out)).mono ?_
    rintro e w7 ⟨rfl, v7, l7⟩
    rw [F1] at v7 ⊢
    have V7 := Lib.hid v7
    have Sx_7 := Lib.hid (l7.bs Sx_6.out Ux_6.out)
    have Ux_7 := Lib.hid (l7.u8 Ux_6.out)
    clear Sx_6 Ux_6
    clear v7 l7 V6
    go_wp2_with fail
    refine (V7.out.crash _ keep HK.out (by omega)).mono ?_
    rintro e w8 ⟨rfl, v8, l8⟩
    have V8 := Lib.hid v8
    have Sx_8 := Lib.hid (l8.bs Sx_7.out Ux_7.out)
    have Ux_8 := Lib.hid (l8.u8 Ux_7.out)
    clear Sx_7 Ux_7
    clear v8 l8 V7
    go_wp2_with fail
    refine (V8.out.fuse again ha).mono ?_
    rintro e w9 ⟨rfl, v9, l9⟩
    have V9 := Lib.hid v9
    have Sx_9 := Lib.hid (l9.bs Sx_8.out Ux_8.out)
    have Ux_9 := Lib.hid (l9.u8 Ux_8.out)
    clear Sx_8 Ux_8
    clear v9 l9 V8
    go_wp2_with fail
    refine (recover_any V9.out (by omega) (by omega) 1 2).mono ?_
    rintro e w10 ⟨q10, rfl, s10, u10, v10, l10⟩
    rw [F2] at s10 v10 ⊢
    have V10 := Lib.hid v10
    have Sx_10 := Lib.hid (l10.bs Sx_9.out Ux_9.out)
    have Ux_10 := Lib.hid (l10.u8 Ux_9.out)
    clear Sx_9 Ux_9
    have Sm_10 := Lib.hid s10
    have Um_10 := Lib.hid u10
    obtain ⟨Am, cm, rfl, _⟩ := s10.shape2
    clear s10 u10 v10 l10 V9
    clear Sm_10 Um_10
    go_wp2_with fail
    refine (V10.out.crash _ other HO.out (by omega)).mono ?_
    rintro e w11 ⟨rfl, v11, l11⟩
    have V11 := Lib.hid v11
    have Sx_11 := Lib.hid (l11.bs Sx_10.out Ux_10.out)
    have Ux_11 := Lib.hid (l11.u8 Ux_10.out)
    clear Sx_10 Ux_10
    clear v11 l11 V10
    go_wp2_with fail
    refine (recover_any V11.out (by omega) (by omega) 1 2).mono ?_
    rintro e w12 ⟨q12, rfl, s12, u12, v12, l12⟩
    rw [F3] at s12 v12 ⊢
    have V12 := Lib.hid v12
    have Sx_12 := Lib.hid (l12.bs Sx_11.out Ux_11.out)
    have Ux_12 := Lib.hid (l12.u8 Ux_11.out)
    clear Sx_11 Ux_11
    have Sz_12 := Lib.hid s12
    have Uz_12 := Lib.hid u12
    obtain ⟨Az, cz, rfl, _⟩ := s12.shape2
    clear s12 u12 v12 l12 V11
    go_wp2_with fail
    refine (stale_any V12.out 1 2).mono ?_
    rintro e w13 ⟨rfl, v13, l13⟩
    rw [F4]
    have V13 := Lib.hid v13
    have Sx_13 := Lib.hid (l13.bs Sx_12.out Ux_12.out)
    have Ux_13 := Lib.hid (l13.u8 Ux_12.out)
    have Sz_13 := Lib.hid (l13.bs Sz_12.out Uz_12.out)
    have Uz_13 := Lib.hid (l13.u8 Uz_12.out)
    clear Sx_12 Ux_12 Sz_12 Uz_12
    clear v13 l13 V12
    have hwr : IntKind.u64.wrap ((n0 : Int) + 1) = (n0 : Int) + 1 := IntWalk.u64_in _ (by omega)
    by_cases his : (x3, n3, e3) = (b, n0 + 1, 0)
    ·
      injection his with h1 h2
      injection h2 with h2 h3
      subst h1 h2 h3
      have hst : st = true := by
        rcases PC with h | h
        · exact h
        · exact absurd h (by omega)
      subst hst
      have hne : ¬ (((n0 + 1 : Nat) : Int) = (n0 : Int)) := by omega
      have hne2 : ¬ ((n0 : Int) + 1 = (n0 : Int)) := by omega
      have hneb : decide (((n0 + 1 : Nat) : Int) = (n0 : Int)) = false := decide_eq_false hne
      have hneb2 : decide ((n0 : Int) + 1 = (n0 : Int)) = false := decide_eq_false hne2
      have hcast : ((n0 + 1 : Nat) : Int) = (n0 : Int) + 1 := rfl
      clear PA PB PC
      by_cases hs : r1.1 = 0
      ·
        have hsd : decide (r1.1 = 0) = true := decide_eq_true hs
        go_wp2_with fail
        refine (same_yes w13 _ _ _ Sz_13.out (HB.out.below V13.out.below)).mono ?_
        rintro e w14 ⟨rfl, b14⟩
        have V14 := Lib.hid (V13.out.kept b14)
        have l14_ := Lk.of_below b14
        have Sx_14 := Lib.hid (l14_.bs Sx_13.out Ux_13.out)
        have Ux_14 := Lib.hid (l14_.u8 Ux_13.out)
        have Sz_14 := Lib.hid (l14_.bs Sz_13.out Uz_13.out)
        have Uz_14 := Lib.hid (l14_.u8 Uz_13.out)
        clear Sx_13 Ux_13 Sz_13 Uz_13
        clear l14_
        clear b14 V13
        go_wp2
        go_ret
        exact ⟨rfl, below_size B1.out V14.out.below⟩
      ·
        have hsd : decide (r1.1 = 0) = false := decide_eq_false hs
        go_wp2_with fail
        refine (same_yes w13 _ _ _ Sz_13.out (HB.out.below V13.out.below)).mono ?_
        rintro e w14 ⟨rfl, b14⟩
        have V14 := Lib.hid (V13.out.kept b14)
        have l14_ := Lk.of_below b14
        have Sx_14 := Lib.hid (l14_.bs Sx_13.out Ux_13.out)
        have Ux_14 := Lib.hid (l14_.u8 Ux_13.out)
        have Sz_14 := Lib.hid (l14_.bs Sz_13.out Uz_13.out)
        have Uz_14 := Lib.hid (l14_.u8 Uz_13.out)
        clear Sx_13 Ux_13 Sz_13 Uz_13
        clear l14_
        clear b14 V13
        go_wp2
        go_ret
        exact ⟨rfl, below_size B1.out V14.out.below⟩
    ·
      have hs : ¬ r1.1 = 0 := fun h => his (PB h)
      have hsd : decide (r1.1 = 0) = false := decide_eq_false hs
      have e0' : (x3, n3, e3) = (x0, n0, e0) := PA.resolve_right his
      injection e0' with h1 h2
      injection h2 with h2 h3
      subst h1 h2 h3
      have hne2 : ¬ ((n3 : Int) = (n3 : Int) + 1) := by omega
      have hneb2 : decide ((n3 : Int) = (n3 : Int) + 1) = false := decide_eq_false hne2
      clear PA PB his
      cases hst : st with
      | true =>
        subst hst
        go_wp2_with fail
        refine (same_yes w13 _ _ x3 Sz_13.out Sx_13.out).mono ?_
        rintro e w14 ⟨rfl, b14⟩
        have V14 := Lib.hid (V13.out.kept b14)
        have l14_ := Lk.of_below b14
        have Sx_14 := Lib.hid (l14_.bs Sx_13.out Ux_13.out)
        have Ux_14 := Lib.hid (l14_.u8 Ux_13.out)
        have Sz_14 := Lib.hid (l14_.bs Sz_13.out Uz_13.out)
        have Uz_14 := Lib.hid (l14_.u8 Uz_13.out)
        clear Sx_13 Ux_13 Sz_13 Uz_13
        clear l14_
        clear b14 V13
        go_wp2
        go_ret
        exact ⟨rfl, below_size B1.out V14.out.below⟩
      | false =>
        subst hst
        have he : e3 = 62 := by
          rcases PC with h | h
          · cases h
          · exact h
        subst he
        go_wp2_with fail
        refine (same_yes w13 _ _ x3 Sz_13.out Sx_13.out).mono ?_
        rintro e w14 ⟨rfl, b14⟩
        have V14 := Lib.hid (V13.out.kept b14)
        have l14_ := Lk.of_below b14
        have Sx_14 := Lib.hid (l14_.bs Sx_13.out Ux_13.out)
        have Ux_14 := Lib.hid (l14_.u8 Ux_13.out)
        have Sz_14 := Lib.hid (l14_.bs Sz_13.out Uz_13.out)
        have Uz_14 := Lib.hid (l14_.u8 Uz_13.out)
        clear Sx_13 Ux_13 Sz_13 Uz_13
        clear l14_
        clear b14 V13
        go_wp2
        go_ret
        exact ⟨rfl, below_size B1.out V14.out.below⟩
end Go.Proofs.YtpgbicbjlhkonaaDoor
end
section
namespace Go.Proofs.YtpgbicbjlhkonaaDoor.vaultAmid
open Go.ChangeShapes Go.WideShapes Go.ChangeAt Go.RowKit
open Go.ChangeMaps (open_string shut_string)
set_option linter.unusedVariables false

theorem own : ownKnob Tryd.prog.godebug = none := by kernel_rfl
theorem laidOut : laidOutB Tryd.prog = true := by kernel_rfl

theorem laid_met (os : Os) : laidMet Tryd.prog Rows.vaultAmidRow.laid ((laidWorld os).forCall (fun _ _ => 0) ⟨#[], #[.slice none 0 0, .slice none 0 0, .int .i64 0, .slice none 0 0, .int .i64 0, .slice none 0 0], []⟩).memory :=
  laidMet_of_run' 8 (by kernel_rfl) (by kernel_rfl)
theorem reads (os : Os) {H : Type} (enc : TypeId × Value → H) : ∃ places, DataW.whole enc Tryd.prog ((laidWorld os).forCall (fun _ _ => 0) ⟨#[], #[.slice none 0 0, .slice none 0 0, .int .i64 0, .slice none 0 0, .int .i64 0, .slice none 0 0], []⟩).memory Tryd.f4.params.toList Rows.vaultAmidSpec.vars false #[.slice none 0 0, .slice none 0 0, .int .i64 0, .slice none 0 0, .int .i64 0, .slice none 0 0].toList 8 = some ([.nil, .nil, .lit (.int .i64 0), .nil, .lit (.int .i64 0), .nil], [], places) :=
  ⟨[], by kernel_rfl⟩

set_option maxRecDepth 100000 in
theorem contract (H : Type) (enc : TypeId × Value → H) (W : World) (base : Nat) (args : Array Value) (ds gs : List (DataW H)) (before : List MemPlace)
    (hval0 : ∀ (j : Nat) t v, Tryd.f4.params[j]? = some t → args[j]? = some v → Value.okWide Tryd.prog W .any base t v)
    (hW : DataW.Whole enc Tryd.prog Tryd.f4.params.toList Rows.vaultAmidSpec.vars false W args.toList ds gs before) (hL : laidMetH Tryd.prog Rows.vaultAmidRow.laid W) :
    Calls Tryd.prog 4 args W fun e W' => ∃ v, e = .returned v ∧ Rows.vaultAmidSpec.post enc Tryd.prog Tryd.f4 false true false false W args v W' := by
  have hq := tables hL
  have hval : ∀ (j : Nat) t v, Tryd.f4.params[j]? = some t → args[j]? = some v → Value.okWide Tryd.prog W .any base t v := hval0
  have hW' := hW
  obtain ⟨p, q, hA0, hV, rfl, hfz, hnd⟩ := hW
  have hA : DataW.TrodAll enc Tryd.prog W 0 (fun _ => true) true Tryd.f4.params.toList args.toList ds p := hA0
  rw [Tryd.params4] at hA hval
  obtain ⟨v0, vs0, d0, ds0, p0, q0, hargs, rfl, rfl, h0, r0⟩ := trodAll_cons hA
  obtain ⟨v1, vs1, d1, ds1, p1, q1, rfl, rfl, rfl, h1, r1⟩ := trodAll_cons r0
  obtain ⟨v2, vs2, d2, ds2, p2, q2, rfl, rfl, rfl, h2, r2⟩ := trodAll_cons r1
  obtain ⟨v3, vs3, d3, ds3, p3, q3, rfl, rfl, rfl, h3, r3⟩ := trodAll_cons r2
  obtain ⟨v4, vs4, d4, ds4, p4, q4, rfl, rfl, rfl, h4, r4⟩ := trodAll_cons r3
  obtain ⟨v5, vs5, d5, ds5, p5, q5, rfl, rfl, rfl, h5, r5⟩ := trodAll_cons r4
  obtain ⟨rfl, rfl, rfl⟩ := trodAll_nil r5
  obtain rfl : args = #[v0, v1, v2, v3, v4, v5] := by cases args; simp_all
  obtain ⟨rfl, rfl⟩ := trodVars_none hV
  obtain ⟨a0, len0, cap0, rfl⟩ := okWide_slice Tryd.underlying22 (hval 0 22 v0 rfl rfl)
  have k0 := h0
  have lt0 : ∀ x ∈ p0, x.block < W.heap.size := by obtain ⟨m, hm⟩ := k0; exact DataW.trod_lt m _ _ _ hm
  obtain ⟨l0, w0⟩ : ∃ l, Opvs W (.slice a0 len0 cap0) l := by
    obtain ⟨fuel, hf⟩ := h0
    obtain ⟨v, l, hcs, hk⟩ := open_opvs hf
    simp [Value.cells] at hcs
    subst hcs
    exact ⟨l, hk⟩
  obtain ⟨a1, len1, cap1, rfl⟩ := okWide_slice Tryd.underlying23 (hval 1 23 v1 rfl rfl)
  have k1 := h1
  have lt1 : ∀ x ∈ p1, x.block < W.heap.size := by obtain ⟨m, hm⟩ := k1; exact DataW.trod_lt m _ _ _ hm
  obtain ⟨l1, w1⟩ : ∃ l, Bs W (.slice a1 len1 cap1) l := by
    obtain ⟨fuel, hf⟩ := h1
    rcases open_ints Tryd.underlying23 Tryd.underlying5 (by kernel_rfl) hf with ⟨hcs, _⟩ | ⟨x, l, c, zs, hcs, _, hl, hm, hz, _, hcell, hwz⟩
    · simp [Value.cells] at hcs
      obtain ⟨rfl, rfl, rfl⟩ := hcs
      exact ⟨[], Bs.nil W⟩
    · simp [Value.cells] at hcs
      obtain ⟨rfl, rfl, rfl⟩ := hcs
      exact bs_of_ints hl hm (by simpa using hz) hcell hwz
  obtain ⟨a2, rfl, rfl, rfl, w2⟩ := open_int Tryd.underlying3 (hval 2 3 v2 rfl rfl) h2
  obtain ⟨a3, len3, cap3, rfl⟩ := okWide_slice Tryd.underlying24 (hval 3 24 v3 rfl rfl)
  have k3 := h3
  have lt3 : ∀ x ∈ p3, x.block < W.heap.size := by obtain ⟨m, hm⟩ := k3; exact DataW.trod_lt m _ _ _ hm
  obtain ⟨l3, w3⟩ : ∃ l, Bls W (.slice a3 len3 cap3) l := by
    obtain ⟨fuel, hf⟩ := h3
    obtain ⟨v, l, hcs, hk⟩ := open_bls Tryd.underlying24 Tryd.underlying4 (by kernel_rfl) hf
    simp [Value.cells] at hcs
    subst hcs
    exact ⟨l, hk⟩
  obtain ⟨a4, rfl, rfl, rfl, w4⟩ := open_int Tryd.underlying3 (hval 4 3 v4 rfl rfl) h4
  obtain ⟨a5, len5, cap5, rfl⟩ := okWide_slice Tryd.underlying24 (hval 5 24 v5 rfl rfl)
  have k5 := h5
  have lt5 : ∀ x ∈ p5, x.block < W.heap.size := by obtain ⟨m, hm⟩ := k5; exact DataW.trod_lt m _ _ _ hm
  obtain ⟨l5, w5⟩ : ∃ l, Bls W (.slice a5 len5 cap5) l := by
    obtain ⟨fuel, hf⟩ := h5
    obtain ⟨v, l, hcs, hk⟩ := open_bls Tryd.underlying24 Tryd.underlying4 (by kernel_rfl) hf
    simp [Value.cells] at hcs
    subst hcs
    exact ⟨l, hk⟩
  clear hA0 hval0
  refine (vaultAmid_walk W hq _ l0 w0 _ l1 w1 a2 (i64_of_wf w2) _ l3 w3 a4 (i64_of_wf w4) _ l5 w5).mono fun e W' ⟨he, bel⟩ => ?_
  subst he
  exact ⟨_, rfl, _, _, _, [], _, [], hW', trodAll_mk1 (shut_bool Tryd.underlying4 _), (trodAll_cons_mk (Below.trod laidOut (by kernel_rfl) (of_decide_eq_true (by kernel_rfl)) k0 bel lt0) (trodAll_cons_mk (Below.trod laidOut (by kernel_rfl) (of_decide_eq_true (by kernel_rfl)) k1 bel lt1) (trodAll_cons_mk (shut_int Tryd.underlying3 w2) (trodAll_cons_mk (Below.trod laidOut (by kernel_rfl) (of_decide_eq_true (by kernel_rfl)) k3 bel lt3) (trodAll_cons_mk (shut_int Tryd.underlying3 w4) (trodAll_cons_mk (Below.trod laidOut (by kernel_rfl) (of_decide_eq_true (by kernel_rfl)) k5 bel lt5) trodAll_mk0)))))), rfl, bel.frame _, fun h => by cases h⟩

set_option maxRecDepth 100000 in
theorem lifted (os : Os) (started : os.Started) (H : Type) (enc : TypeId × Value → H) (F : Stop.Interp) :
    ReturnsInHanded {} Tryd.checked os 4 .any ((OpenSpec.ofChange Rows.vaultAmidSpec).preRow enc Tryd.prog Tryd.f4 Rows.vaultAmidRow.domain false Rows.vaultAmidRow.laid) (((OpenSpec.ofChange Rows.vaultAmidSpec).at F).post enc Tryd.prog Tryd.f4 false true false false) := by
  obtain ⟨places, hx⟩ := reads os enc
  refine returnsInHanded_of_row (C := Tryd.checked) (s := OpenSpec.ofChange Rows.vaultAmidSpec) own started (by kernel_rfl) Tryd.func4
    (witness_row_at (enc := enc) (C := Tryd.checked) false (laidWorld os) #[.slice none 0 0, .slice none 0 0, .int .i64 0, .slice none 0 0, .int .i64 0, .slice none 0 0] rfl (by kernel_rfl) (by kernel_rfl) (by kernel_rfl)
      (OpenSpec.preRow_of_cond 8 hx (by kernel_rfl) (fun k hk => by cases hk) (by kernel_rfl) (laid_met os))) ?_
  intro W base args ds gs before hval hW _ _ _ hL _ _
  exact contract H enc W base args ds gs before hval hW hL

theorem said : Rows.VaultAmidSaid :=
  OpenClaim.holds_of_cond 4 Tryd.f4 rfl rfl rfl rfl rfl rfl rfl ⟨rfl, rfl, rfl, rfl, rfl⟩ rfl rfl rfl rfl rfl (by kernel_rfl) Tryd.func4 (by kernel_rfl)
    (of_decide_eq_true (by kernel_rfl)) (by unfold Func.isWrapper; first | (rw [if_pos (by decide +kernel)]; kernel_rfl) | (rw [if_neg (by decide +kernel)]; exact ⟨rfl, rfl⟩))
    (fun os started H enc _ F => by rw [OpenClaim.pre_eq_preRow]; exact lifted os started H enc F)

theorem noStand : (Tryd.f4.params.toList.all fun t => Tryd.prog.wantsStandIn t == false) = true := by kernel_rfl
theorem plain (f : FuncId) (fn : Func) (hf : Tryd.pinned.checked.prog.funcNamed "cablegram/cablegramlaw12.VaultAmid" = some f) (hfn : Tryd.pinned.checked.prog.funcs[f]? = some fn) :
    false = Tryd.pinned.checked.prog.looks [] ∧ ∀ (j : Nat) t, fn.params[j]? = some t → Tryd.pinned.checked.prog.wantsStandIn t = false := by
  obtain rfl : f = 4 := Option.some.inj ((show Tryd.prog.funcNamed "cablegram/cablegramlaw12.VaultAmid" = some 4 by kernel_rfl).symm.trans hf) |>.symm
  obtain rfl : fn = Tryd.f4 := (Option.some.inj (Tryd.func4.symm.trans hfn)).symm
  refine ⟨by kernel_rfl, fun j t ht => ?_⟩
  have hm : t ∈ Tryd.f4.params.toList := by simpa using Array.mem_of_getElem? ht
  exact beq_iff_eq.1 (List.all_eq_true.1 noStand t hm)

theorem proved : Rows.VaultAmidCardSaid :=
  Claim7.holds_tied_plain_at .later [] _ _ _ _ said (fun _ h => by cases h) (by kernel_rfl) (fun _ h => by cases h) vaultAmid_row_tie rfl ⟨rfl, rfl⟩ (by kernel_rfl) rfl plain (by kernel_rfl)
#print axioms proved
end Go.Proofs.YtpgbicbjlhkonaaDoor.vaultAmid
end
