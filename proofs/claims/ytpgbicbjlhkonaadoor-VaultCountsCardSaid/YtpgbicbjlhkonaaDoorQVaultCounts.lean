/-
  VaultCounts: for every input the call returns true, and each argument reads as it read before. Conditions: none beyond the given statement's own (the package-level tables that its row lists hold what the program's text lays: the card ties that).
-/
import Derived.Test.YtpgbicbjlhkonaaDoorQVltAS
import Derived.Test.YtpgbicbjlhkonaaDoorQVltAB
import Derived.ProofKit
import Derived.OpenShut
import Derived.ShutString
import Derived.ChangeOld
import Derived.Deep.DeepHandedRow
section
namespace Go.Proofs.YtpgbicbjlhkonaaDoor
open Go.RowKit
set_option linter.unusedVariables false
set_option maxRecDepth 20000

/-- Amid the loop. -/
structure CntV (d : Dev) (C : List (List UInt8)) (s : Nat) (b0 : List UInt8) (j : Nat) : Prop where
  calm : Calm d C
  free : Free d
  holds : Holds hdV 1 2 C s b0 j
  len : C.length = 20
theorem CntV.new : CntV (Dev.new 20) (Dev.new 20).now 1 [] 0 := ⟨zero_calm, ⟨rfl, rfl⟩, zero_holds, List.length_replicate⟩
theorem CntV.d20 {d : Dev} {C : List (List UInt8)} {s : Nat} {b0 : List UInt8} {j : Nat} (h : CntV d C s b0 j) : D20 d := ⟨h.calm.ok, by rw [h.calm.now]; exact h.len⟩
theorem CntV.next {d : Dev} {C : List (List UInt8)} {s : Nat} {b0 : List UInt8} {j : Nat} (h : CntV d C s b0 j) (hj : j ≤ 1000) {b : List UInt8} (hb : b.length ≤ 512) :
    (saveR hdV d 1 2 b).1 = 0 ∧ loadV hdV (saveR hdV d 1 2 b).2 1 2 = (b, j + 1, 0) ∧ ∃ C' s', (cleanV C' (lowOf 1 2 0) 2 || cleanV C' (lowOf 1 2 1) 2) = true ∧ CntV (saveR hdV d 1 2 b).2 C' s' b (j + 1) := by
  obtain ⟨h1, h2, h3, _, C', s', h4, h5, h6, h7⟩ := counts_plain hdV_ok h.calm h.free h.holds hj hb
  exact ⟨h1, h3, C', s', h7, h4, h2, h6, h5.trans h.len⟩
theorem Bss.at_ {w : World} {A : Option Addr} {n c : Nat} {l : List (List UInt8)} (h : Bss w (.slice A n c) l) (j : Nat) (hj : j < l.length) : ∃ b off, A = some ⟨b, off, none⟩ ∧ ∃ u, w.cell? ⟨b, off + j, none⟩ = some u ∧ Bs w u l[j] := by
  obtain ⟨A', c', hv, _, _, h3⟩ := h
  injection hv with e1 _ _
  obtain ⟨b, off, hA, hc⟩ := h3 (by omega)
  exact ⟨b, off, e1.trans hA, hc j hj⟩
set_option maxHeartbeats 8000000 in
theorem vaultCounts_walk (w : World) (ht : Tabs w) (vl : Value) (l : List (List UInt8)) (hl : Bss w vl l) :
    Calls Tryd.prog 5 #[vl] w (RetV w (.bool true)) := by
  have HT := Lib.hid ht
  have HL0 := Lib.hid hl
  obtain ⟨lA, lc, rfl, hl1, hl2, _⟩ := hl
  unfold maxLen at hl2
  clear ht
  have HN : Hid (∀ w, Calls Tryd.prog 18 #[.int .i64 20] w fun e w' => ∃ g, e = .returned (.tuple #[.pointer (some ⟨g, 0, none⟩), .int .i64 0]) ∧ DevOf w w' g (Dev.new 20)) := fun w => devNew_of w 20 (by omega) (by omega)
  by_cases h6 : 6 < l.length
  ·
    have hd1 : decide ((6 : Int) < (l.length : Int)) = true := by simp; omega
    have hd1' : (6 : Int) < (l.length : Int) := by omega
    go_enter Tryd.func5, Tryd.ntmps5
    go_wp2_with fail
    refine (vawake_true w HT.out).mono ?_
    rintro e w1 ⟨rfl, b1⟩
    have B1 := Lib.hid b1
    clear b1
    go_wp2_with fail
    refine (HN.out w1).mono ?_
    rintro e w2 ⟨g, rfl, hd⟩
    have b2 := Lib.hid hd.below
    clear hd HN
    go_wp2
    go_ret
    exact ⟨rfl, below_size B1.out b2.out⟩
  ·
    have hd1 : decide ((6 : Int) < (l.length : Int)) = false := by simp; omega
    have hd1' : ¬ (6 : Int) < (l.length : Int) := by omega
    go_enter Tryd.func5, Tryd.ntmps5
    go_wp2_with fail
    refine (vawake_true w HT.out).mono ?_
    rintro e w1 ⟨rfl, b1⟩
    have B1 := Lib.hid b1
    have T1 := Lib.hid (HT.out.below b1)
    have HL := Lib.hid (HL0.out.keep b1)
    clear b1 HT HL0
    go_wp2_with fail
    refine (HN.out w1).mono ?_
    rintro e w2 ⟨g, rfl, hd⟩
    have HD := Lib.hid hd
    clear hd HN
    go_wp2_with fail
    refine (meter_new w2).mono ?_
    rintro e w3 ⟨gm, rfl, hm⟩
    have V3 := Lib.hid (VS.start T1.out HD.out hm)
    clear hm HD
    go_wp2_with fail
    go_loopw [7] (fun i wr => ∃ j : Nat, j ≤ l.length ∧ i = .int .i64 (j : Int) ∧ ∃ d C s b0, Hid (VS (fun _ => False) w1 gm g (5 * j) d wr) ∧ Hid (CntV d C s b0 j)) (fun i _ => l.length - (intOf i).toNat)
    case atStart => exact ⟨0, by omega, rfl, _, _, _, _, V3, CntV.new⟩
    case round =>
      clear V3
      obtain ⟨j, hj, rfl, d, C, s, b0, V5, HC⟩ := hrel
      by_cases hlt : j < l.length
      ·
        obtain ⟨lb, loff, rfl, u, hu, hub⟩ := Bss.at_ HL.out j hlt
        have hult := World.block_lt_of_cell? w1 _ hu
        have hu2 := (V5.out.below.cell hult).trans hu
        have HU := Lib.hid hub
        obtain ⟨uA, uc, rfl, hu3, hu4, _⟩ := hub
        unfold maxLen at hu4
        generalize l[j] = b at *
        have hjd : decide ((j : Int) < (l.length : Int)) = true := by simp; omega
        have hjl2 : (j : Int) < (l.length : Int) := by omega
        have hj0 : ¬ ((j : Int) < 0) := by omega
        have hwj : IntKind.i64.wrap ((j : Int) + 1) = (j : Int) + 1 := IntWalk.i64_in _ (by omega)
        have hwk : IntKind.u64.wrap ((j : Int) + 1) = (j : Int) + 1 := IntWalk.u64_in _ (by omega)
        have q0 := HC.out.d20
        have pz : d.pend.length ≤ 201 := by rw [HC.out.calm.pend]; exact Nat.zero_le _
        by_cases hb5 : 512 < b.length
        ·
          have hbd : decide ((512 : Int) < (b.length : Int)) = true := by simp; omega
          have hbd' : (512 : Int) < (b.length : Int) := by omega
          have F2 : saveF hdV d 1 2 b = (2, d) := (saveF_12 q0.len b).trans (by unfold saveR; rw [if_pos (by omega)])
          go_wp2_with fail
          refine (save_any V5.out (by omega) (by omega) 1 2 _ b (stay_arg HU.out)).mono ?_
          rintro e w6 ⟨rfl, v6, l6⟩
          rw [F2] at v6 ⊢
          have V6 := Lib.hid v6
          clear v6 l6 V5
          have hu6 := (V6.out.below.cell hult).trans hu
          go_wp2
          go_ret
          exact ⟨rfl, below_size B1.out V6.out.below⟩
        ·
          have hbd : decide ((512 : Int) < (b.length : Int)) = false := by simp; omega
          have hbd' : ¬ (512 : Int) < (b.length : Int) := by omega
          obtain ⟨c1, c2, C1, s1, c3, c4⟩ := HC.out.next (by omega) (by omega : b.length ≤ 512)
          obtain ⟨r1, hr1⟩ : ∃ r, r = saveR hdV d 1 2 b := ⟨_, rfl⟩
          have F2 : saveF hdV d 1 2 b = r1 := (saveF_12 q0.len b).trans hr1.symm
          simp only [← hr1] at c1 c2 c3 c4
          have q1 : D20 r1.2 := by rw [hr1]; exact q0.save b
          have F3 : loadF hdV r1.2 1 2 = (b, j + 1, 0) := (loadF_12 q1.len).trans c2
          have F4 : staleF r1.2 1 2 = (true, 0) := by rw [staleF_12 q1.len, c4.calm.now, c3]
          have F5 : r1.2.pend.length = 0 := by rw [c4.calm.pend]; rfl
          have HC1 := Lib.hid c4
          have hcast : ((j + 1 : Nat) : Int) = (j : Int) + 1 := rfl
          clear hr1 c2 c3 c4 HC
          go_wp2_with fail
          refine (save_any V5.out (by omega) (by omega) 1 2 _ b (stay_arg HU.out)).mono ?_
          rintro e w6 ⟨rfl, v6, l6⟩
          rw [F2] at v6 ⊢
          rw [c1]
          have V6 := Lib.hid v6
          clear v6 l6 V5
          have hu6 := (V6.out.below.cell hult).trans hu
          go_wp2_with fail
          refine (vload_any V6.out (by omega) 1 2).mono ?_
          rintro e w7 ⟨q7, rfl, s7, u7, v7, l7⟩
          rw [F3] at s7 ⊢
          have V7 := Lib.hid v7
          have Sx_7 := Lib.hid s7
          have Ux_7 := Lib.hid u7
          obtain ⟨Ax, cx, rfl, _⟩ := s7.shape2
          clear s7 u7 v7 l7 V6
          go_wp2_with fail
          refine (V7.out.pending).mono ?_
          rintro e w8 ⟨rfl, b8⟩
          rw [F5]
          have V8 := Lib.hid (V7.out.kept b8)
          have l8_ := Lk.of_below b8
          have Sx_8 := Lib.hid (l8_.bs Sx_7.out Ux_7.out)
          have Ux_8 := Lib.hid (l8_.u8 Ux_7.out)
          clear Sx_7 Ux_7
          clear l8_
          clear b8 V7
          go_wp2_with fail
          refine (stale_any V8.out 1 2).mono ?_
          rintro e w9 ⟨rfl, v9, l9⟩
          rw [F4]
          have V9 := Lib.hid v9
          have Sx_9 := Lib.hid (l9.bs Sx_8.out Ux_8.out)
          have Ux_9 := Lib.hid (l9.u8 Ux_8.out)
          clear Sx_8 Ux_8
          clear v9 l9 V8
          have hu9 := (V9.out.below.cell hult).trans hu
          go_wp2_with fail
          refine (same_yes w9 _ _ b Sx_9.out (HU.out.below V9.out.below)).mono ?_
          rintro e w10 ⟨rfl, b10⟩
          have V10 := Lib.hid (V9.out.kept b10)
          have l10_ := Lk.of_below b10
          have Sx_10 := Lib.hid (l10_.bs Sx_9.out Ux_9.out)
          have Ux_10 := Lib.hid (l10_.u8 Ux_9.out)
          clear Sx_9 Ux_9
          clear l10_
          clear b10 V9
          go_wp2_with fail
          refine ⟨⟨j + 1, by omega, by congr 1, _, _, _, _, Lib.hid (V10.out.more (by omega)), HC1⟩, ?_⟩
          show l.length - ((j : Int) + 1).toNat < l.length - (j : Int).toNat
          omega
      ·
        obtain rfl : j = l.length := by omega
        have hjd : decide ((l.length : Int) < (l.length : Int)) = false := by simp
        go_wp2
        go_ret
        exact ⟨rfl, below_size B1.out V5.out.below⟩
end Go.Proofs.YtpgbicbjlhkonaaDoor
end
section
namespace Go.Proofs.YtpgbicbjlhkonaaDoor.vaultCounts
open Go.ChangeShapes Go.WideShapes Go.ChangeAt Go.RowKit
open Go.ChangeMaps (open_string shut_string)
set_option linter.unusedVariables false

theorem own : ownKnob Tryd.prog.godebug = none := by kernel_rfl
theorem laidOut : laidOutB Tryd.prog = true := by kernel_rfl

theorem laid_met (os : Os) : laidMet Tryd.prog Rows.vaultCountsRow.laid ((laidWorld os).forCall (fun _ _ => 0) ⟨#[], #[.slice none 0 0], []⟩).memory :=
  laidMet_of_run' 8 (by kernel_rfl) (by kernel_rfl)
theorem reads (os : Os) {H : Type} (enc : TypeId × Value → H) : ∃ places, DataW.whole enc Tryd.prog ((laidWorld os).forCall (fun _ _ => 0) ⟨#[], #[.slice none 0 0], []⟩).memory Tryd.f5.params.toList Rows.vaultCountsSpec.vars false #[.slice none 0 0].toList 8 = some ([.nil], [], places) :=
  ⟨[], by kernel_rfl⟩

set_option maxRecDepth 100000 in
theorem contract (H : Type) (enc : TypeId × Value → H) (W : World) (base : Nat) (args : Array Value) (ds gs : List (DataW H)) (before : List MemPlace)
    (hval0 : ∀ (j : Nat) t v, Tryd.f5.params[j]? = some t → args[j]? = some v → Value.okWide Tryd.prog W .any base t v)
    (hW : DataW.Whole enc Tryd.prog Tryd.f5.params.toList Rows.vaultCountsSpec.vars false W args.toList ds gs before) (hL : laidMetH Tryd.prog Rows.vaultCountsRow.laid W) :
    Calls Tryd.prog 5 args W fun e W' => ∃ v, e = .returned v ∧ Rows.vaultCountsSpec.post enc Tryd.prog Tryd.f5 false true false false W args v W' := by
  have hq := tables hL
  have hval : ∀ (j : Nat) t v, Tryd.f5.params[j]? = some t → args[j]? = some v → Value.okWide Tryd.prog W .any base t v := hval0
  have hW' := hW
  obtain ⟨p, q, hA0, hV, rfl, hfz, hnd⟩ := hW
  have hA : DataW.TrodAll enc Tryd.prog W 0 (fun _ => true) true Tryd.f5.params.toList args.toList ds p := hA0
  rw [Tryd.params5] at hA hval
  obtain ⟨v0, vs0, d0, ds0, p0, q0, hargs, rfl, rfl, h0, r0⟩ := trodAll_cons hA
  obtain ⟨rfl, rfl, rfl⟩ := trodAll_nil r0
  obtain rfl : args = #[v0] := by cases args; simp_all
  obtain ⟨rfl, rfl⟩ := trodVars_none hV
  obtain ⟨a0, len0, cap0, rfl⟩ := okWide_slice Tryd.underlying42 (hval 0 42 v0 rfl rfl)
  have k0 := h0
  have lt0 : ∀ x ∈ p0, x.block < W.heap.size := by obtain ⟨m, hm⟩ := k0; exact DataW.trod_lt m _ _ _ hm
  obtain ⟨l0, w0⟩ : ∃ l, Bss W (.slice a0 len0 cap0) l := by
    obtain ⟨fuel, hf⟩ := h0
    obtain ⟨v, l, hcs, hk⟩ := open_bss Tryd.underlying42 Tryd.underlying23 Tryd.underlying5 (by kernel_rfl) (by kernel_rfl) hf
    simp [Value.cells] at hcs
    subst hcs
    exact ⟨l, hk⟩
  clear hA0 hval0
  refine (vaultCounts_walk W hq _ l0 w0).mono fun e W' ⟨he, bel⟩ => ?_
  subst he
  exact ⟨_, rfl, _, _, _, [], _, [], hW', trodAll_mk1 (shut_bool Tryd.underlying4 _), (trodAll_cons_mk (Below.trod laidOut (by kernel_rfl) (of_decide_eq_true (by kernel_rfl)) k0 bel lt0) trodAll_mk0), rfl, bel.frame _, fun h => by cases h⟩

set_option maxRecDepth 100000 in
theorem lifted (os : Os) (started : os.Started) (H : Type) (enc : TypeId × Value → H) (F : Stop.Interp) :
    ReturnsInHanded {} Tryd.checked os 5 .any ((OpenSpec.ofChange Rows.vaultCountsSpec).preRow enc Tryd.prog Tryd.f5 Rows.vaultCountsRow.domain false Rows.vaultCountsRow.laid) (((OpenSpec.ofChange Rows.vaultCountsSpec).at F).post enc Tryd.prog Tryd.f5 false true false false) := by
  obtain ⟨places, hx⟩ := reads os enc
  refine returnsInHanded_of_row (C := Tryd.checked) (s := OpenSpec.ofChange Rows.vaultCountsSpec) own started (by kernel_rfl) Tryd.func5
    (witness_row_at (enc := enc) (C := Tryd.checked) false (laidWorld os) #[.slice none 0 0] rfl (by kernel_rfl) (by kernel_rfl) (by kernel_rfl)
      (OpenSpec.preRow_of_cond 8 hx (by kernel_rfl) (fun k hk => by cases hk) (by kernel_rfl) (laid_met os))) ?_
  intro W base args ds gs before hval hW _ _ _ hL _ _
  exact contract H enc W base args ds gs before hval hW hL

theorem said : Rows.VaultCountsSaid :=
  OpenClaim.holds_of_cond 5 Tryd.f5 rfl rfl rfl rfl rfl rfl rfl ⟨rfl, rfl, rfl, rfl, rfl⟩ rfl rfl rfl rfl rfl (by kernel_rfl) Tryd.func5 (by kernel_rfl)
    (of_decide_eq_true (by kernel_rfl)) (by unfold Func.isWrapper; first | (rw [if_pos (by decide +kernel)]; kernel_rfl) | (rw [if_neg (by decide +kernel)]; exact ⟨rfl, rfl⟩))
    (fun os started H enc _ F => by rw [OpenClaim.pre_eq_preRow]; exact lifted os started H enc F)

theorem noStand : (Tryd.f5.params.toList.all fun t => Tryd.prog.wantsStandIn t == false) = true := by kernel_rfl
theorem plain (f : FuncId) (fn : Func) (hf : Tryd.pinned.checked.prog.funcNamed "cablegram/cablegramlaw12.VaultCounts" = some f) (hfn : Tryd.pinned.checked.prog.funcs[f]? = some fn) :
    false = Tryd.pinned.checked.prog.looks [] ∧ ∀ (j : Nat) t, fn.params[j]? = some t → Tryd.pinned.checked.prog.wantsStandIn t = false := by
  obtain rfl : f = 5 := Option.some.inj ((show Tryd.prog.funcNamed "cablegram/cablegramlaw12.VaultCounts" = some 5 by kernel_rfl).symm.trans hf) |>.symm
  obtain rfl : fn = Tryd.f5 := (Option.some.inj (Tryd.func5.symm.trans hfn)).symm
  refine ⟨by kernel_rfl, fun j t ht => ?_⟩
  have hm : t ∈ Tryd.f5.params.toList := by simpa using Array.mem_of_getElem? ht
  exact beq_iff_eq.1 (List.all_eq_true.1 noStand t hm)

theorem proved : Rows.VaultCountsCardSaid :=
  Claim7.holds_tied_plain_at .later [] _ _ _ _ said (fun _ h => by cases h) (by kernel_rfl) (fun _ h => by cases h) vaultCounts_row_tie rfl ⟨rfl, rfl⟩ (by kernel_rfl) rfl plain (by kernel_rfl)
#print axioms proved
end Go.Proofs.YtpgbicbjlhkonaaDoor.vaultCounts
end
