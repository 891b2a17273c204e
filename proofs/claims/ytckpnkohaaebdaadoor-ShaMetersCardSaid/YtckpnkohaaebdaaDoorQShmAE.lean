/-
  Texts that belong together, merged: ShaS, ShaT, ShaU. Conditions: as each theorem names them.
-/
import Derived.Test.YtckpnkohaaebdaaDoorQShmAD
import Derived.Test.YtckpnkohaaebdaaDoorQShmAB
import Derived.Test.YtckpnkohaaebdaaDoorQShmAC
section
namespace Go.Proofs.YtckpnkohaaebdaaDoor
open Go.RowKit
set_option linter.unusedVariables false
set_option maxRecDepth 20000
set_option pp.deepTerms true
set_option pp.maxSteps 100000

set_option maxHeartbeats 4000000 in
theorem refBlock_any (w : World) (st : List UInt32) (block : List UInt8) (hs : st.length = 8) (hl : block.length = 64) :
    Calls Tryd.prog 17 #[.agg (wordsC st), keyV block] w (RetV w (.agg (wordsC (blockW st block)))) := by
  obtain ⟨fin, hfin⟩ : ∃ fin, fin = blockW st block := ⟨_, rfl⟩
  obtain ⟨ws, hws⟩ : ∃ ws, ws = wordsTo block 64 := ⟨_, rfl⟩
  obtain ⟨s0, hs0⟩ : ∃ s0, s0 = toE st := ⟨_, rfl⟩
  have hwl : ws.length = 64 := by rw [hws, wordsTo_length]
  have hfl : fin.length = 8 := by rw [hfin]; exact blockW_length _ _ hs
  rw [← hfin]
  have HF : Hid (fin = List.zipWith (· + ·) st (ofE (roundsE ws s0 64))) := by rw [hfin, hws, hs0]; rfl
  have HW := Lib.hid hwl
  have HWS := Lib.hid hws
  have HFL := Lib.hid hfl
  have HS := Lib.hid hs
  have HL := Lib.hid hl
  have HS0 := Lib.hid hs0
  clear hfin hws hwl hfl hs hl hs0
  go_enter Tryd.func17, Tryd.ntmps17
  go_wp2_with (first
    | ((with_reducible refine wpList_box_row (o := ⟨some 2, _, _, _, _, _⟩) rfl 23 (.tmp 0) rfl (wordsC st) (by with_unfolding_all rfl) ?_); intro g2 w2 n2)
    | ((with_reducible refine wpList_box_row (o := ⟨some 3, _, _, _, _, _⟩) rfl 24 (.tmp 1) rfl (keyC block) (by with_unfolding_all rfl) ?_); intro g3 w3 n3)
    | ((with_reducible refine wpList_alloc_row (o := ⟨some 4, _, _, _, _, _⟩) rfl 23 rfl (wordsC (List.replicate 8 0)) Tryd.zero8 ?_); intro g4 w4 n4)
    | ((with_reducible refine wpList_alloc_row (o := ⟨some 5, _, _, _, _, _⟩) rfl 66 rfl (wordsC (List.replicate 64 0)) Tryd.zero64 ?_); intro g5 w5 n5)
    | ((with_reducible refine wpList_store_row (o := ⟨none, _, _, _, _, _⟩) rfl 66 (.tmp 5) (.tmp 21) rfl g5 66 _ (wordsC cubesW) (by with_unfolding_all rfl) (by with_unfolding_all exact Tryd.litsK) n5.row (by rw [wordsC_size, wordsC_size, cubesW_length, List.length_replicate]) (Tryd.size64l cubesW cubesW_length) (wordsC_one _) ?_); intro w6 p6)
    | ((with_reducible refine wpList_alloc_row (o := ⟨some 6, _, _, _, _, _⟩) rfl 66 rfl (wordsC (List.replicate 64 0)) Tryd.zero64 ?_); intro g7 w7 n7))
  have e2 := n2.spot
  have e3 := n3.spot
  have e4 := n4.spot
  have e5 := n5.spot
  have e7 := n7.spot
  have z2 := n2.size
  have z3 := n3.size
  have z4 := n4.size
  have z5 := n5.size
  have z6 := p6.size
  have l5 := (laid_put n5 p6).1
  have B7 : Hid (Below w.heap.size w w7) := below_size (below_size (below_size (below_size n2.below n3.below) n4.below) l5) n7.below
  have R2 : Hid (RowAt w7 g2 23 (wordsC st)) := (((n2.row.kept n3.below).kept n4.below).kept l5).kept n7.below
  have R3 : Hid (RowAt w7 g3 24 (keyC block)) := ((n3.row.kept n4.below).kept l5).kept n7.below
  have R4 : Hid (RowAt w7 g4 23 (wordsC (List.replicate 8 0))) := (n4.row.kept l5).kept n7.below
  have R5 : Hid (RowAt w7 g5 66 (wordsC cubesW)) := p6.row.kept n7.below
  have R6 : Hid (RowAt w7 g7 66 (wordsC (partW block 0))) := n7.row
  have hg7 : w.heap.size ≤ g7 := by omega
  have hg4 : w.heap.size ≤ g4 := by omega
  have h27 : g2 ≠ g7 := by omega
  have h37 : g3 ≠ g7 := by omega
  have h47 : g4 ≠ g7 := by omega
  have h57 : g5 ≠ g7 := by omega
  clear n2 n3 n4 n5 p6 n7 l5 e2 e3 e4 e5 e7 z2 z3 z4 z5 z6
  go_loopw [7] (fun i wr => ∃ k : Nat, k ≤ 64 ∧ i = .int .i64 k ∧ RowAt wr g2 23 (wordsC st) ∧ RowAt wr g3 24 (keyC block) ∧ RowAt wr g4 23 (wordsC (List.replicate 8 0)) ∧ RowAt wr g5 66 (wordsC cubesW) ∧ RowAt wr g7 66 (wordsC (partW block k)) ∧ Below w.heap.size w wr) (fun i _ => 64 - (intOf i).toNat)
  case atStart => exact ⟨0, by omega, rfl, R2.out, R3.out, R4.out, R5.out, R6.out, B7.out⟩
  case round =>
    clear R2 R3 R4 R5 R6 B7
    obtain ⟨k, hk, rfl, hr2, hr3, hr4, hr5, hr6, hb⟩ := hrel
    have R2 := Lib.hid hr2
    have R3 := Lib.hid hr3
    have R4 := Lib.hid hr4
    have R5 := Lib.hid hr5
    have R6 := Lib.hid hr6
    have HB := Lib.hid hb
    clear hr2 hr3 hr4 hr5 hr6 hb
    by_cases hlt : k < 64
    · have hln := partW_length block k (by omega)
      have hcell := wordsC_cell R6.out k (by omega)
      have hfz := R6.out.frozen k
      generalize (partW block k).getD k 0 = old at hcell
      have hps := partW_step block k hlt
      by_cases h16 : k < 16
      · rw [if_pos h16, wordOf_four block k (by rw [HL.out]; omega)] at hps
        have c0 := bytesC_cell R3.out (4 * k) (by rw [HL.out]; omega)
        have c1 := bytesC_cell R3.out (4 * k + 1) (by rw [HL.out]; omega)
        have c2 := bytesC_cell R3.out (4 * k + 2) (by rw [HL.out]; omega)
        have c3 := bytesC_cell R3.out (4 * k + 3) (by rw [HL.out]; omega)
        generalize block[4 * k]'(by rw [HL.out]; omega) = b0 at c0 hps
        generalize block[4 * k + 1]'(by rw [HL.out]; omega) = b1 at c1 hps
        generalize block[4 * k + 2]'(by rw [HL.out]; omega) = b2 at c2 hps
        generalize block[4 * k + 3]'(by rw [HL.out]; omega) = b3 at c3 hps
        have hput := R6.out.put k (.int .u32 ((word4 b0 b1 b2 b3).toNat : Int))
        rw [wordsC_put, hps] at hput
        have HP := Lib.hid hput
        have y0 := b0.toNat_lt
        have y1 := b1.toNat_lt
        have y2 := b2.toNat_lt
        have y3 := b3.toNat_lt
        have q0 : (4 * (k : Int)) < 64 := by omega
        have q1 : (4 * (k : Int) + 1) < 64 := by omega
        have q2 : (4 * (k : Int) + 2) < 64 := by omega
        have q3 : (4 * (k : Int) + 3) < 64 := by omega
        have m0 : (4 * (k : Int)).toNat = 4 * k := by omega
        have m1 : (4 * (k : Int) + 1).toNat = 4 * k + 1 := by omega
        have m2 : (4 * (k : Int) + 2).toNat = 4 * k + 2 := by omega
        have m3 : (4 * (k : Int) + 3).toNat = 4 * k + 3 := by omega
        have v0 : (0 : Int) ≤ 4 * (k : Int) := by omega
        have v1 : (0 : Int) ≤ 4 * (k : Int) + 1 := by omega
        have v2 : (0 : Int) ≤ 4 * (k : Int) + 2 := by omega
        have v3 : (0 : Int) ≤ 4 * (k : Int) + 3 := by omega
        have t0 : IntKind.i64.wrap (4 * (k : Int)) = 4 * (k : Int) := IntWalk.i64_in _ (by omega)
        have t1 : IntKind.i64.wrap (4 * (k : Int) + 1) = 4 * (k : Int) + 1 := IntWalk.i64_in _ (by omega)
        have t2 : IntKind.i64.wrap (4 * (k : Int) + 2) = 4 * (k : Int) + 2 := IntWalk.i64_in _ (by omega)
        have t3 : IntKind.i64.wrap (4 * (k : Int) + 3) = 4 * (k : Int) + 3 := IntWalk.i64_in _ (by omega)
        have q4 : (k : Int) < 64 := by omega
        clear hput hps hln
        go_wp2_with fail
        go_still_tail 31, (by kernel_rfl)
        rw [word4_bits]
        change wpList _ _ _ _ _ wr.drew
        clear c0 c1 c2 c3 m0 m1 m2 m3 t0 t1 t2 t3 v0 v1 v2 v3
        go_wp2
        go_roundw
        case rel => exact ⟨k + 1, by omega, by go_num, (R2.out.far h27 _).drew, (R3.out.far h37 _).drew, (R4.out.far h47 _).drew, (R5.out.far h57 _).drew, HP.out.drew, (HB.out.setCell hg7 _).drew⟩
        case measure => simp [intOf]; omega
      · rw [if_neg h16] at hps
        obtain ⟨p1, hp1⟩ : ∃ p, p + 16 = k := ⟨k - 16, by omega⟩
        obtain ⟨p2, hp2⟩ : ∃ p, p + 15 = k := ⟨k - 15, by omega⟩
        obtain ⟨p3, hp3⟩ : ∃ p, p + 7 = k := ⟨k - 7, by omega⟩
        obtain ⟨p4, hp4⟩ : ∃ p, p + 2 = k := ⟨k - 2, by omega⟩
        have hs1 : IntKind.i64.wrap ((k : Int) - 16) = (p1 : Int) := by rw [IntWalk.i64_in _ (by omega)]; omega
        have hs2 : IntKind.i64.wrap ((k : Int) - 15) = (p2 : Int) := by rw [IntWalk.i64_in _ (by omega)]; omega
        have hs3 : IntKind.i64.wrap ((k : Int) - 7) = (p3 : Int) := by rw [IntWalk.i64_in _ (by omega)]; omega
        have hs4 : IntKind.i64.wrap ((k : Int) - 2) = (p4 : Int) := by rw [IntWalk.i64_in _ (by omega)]; omega
        have i2 : (k : Int) - 15 = (p2 : Int) := by omega
        have i4 : (k : Int) - 2 = (p4 : Int) := by omega
        have hc1 := wordsC_cell R6.out p1 (by omega)
        have hc2 := wordsC_cell R6.out p2 (by omega)
        have hc3 := wordsC_cell R6.out p3 (by omega)
        have hc4 := wordsC_cell R6.out p4 (by omega)
        rw [partW_get _ _ _ (by omega)] at hc1 hc2 hc3 hc4
        rw [nextW, show k - 16 = p1 by omega, show k - 15 = p2 by omega, show k - 7 = p3 by omega, show k - 2 = p4 by omega] at hps
        generalize (wordsTo block k).getD p1 0 = x1 at hc1 hps
        generalize (wordsTo block k).getD p2 0 = x2 at hc2 hps
        generalize (wordsTo block k).getD p3 0 = x3 at hc3 hps
        generalize (wordsTo block k).getD p4 0 = x4 at hc4 hps
        obtain ⟨xs, hxs⟩ : ∃ xs, xs = x1 + smallS x2 7 18 3 + x3 + smallS x4 17 19 10 := ⟨_, rfl⟩
        have HXS := Lib.hid hxs
        have hput := fun n => (R6.out.drewN n).put k (.int .u32 (xs.toNat : Int))
        simp only [wordsC_put, hxs] at hput
        rw [hps, ← hxs] at hput
        have HP := Lib.hid hput
        have hq1 : (p1 : Int) < 64 := by omega
        have hq2 : (p2 : Int) < 64 := by omega
        have hq3 : (p3 : Int) < 64 := by omega
        have hq4 : (p4 : Int) < 64 := by omega
        have hq5 : (k : Int) < 64 := by omega
        have b2 := x2.toNat_lt
        have b4 := x4.toNat_lt
        clear hxs hps hput hln hp1 hp2 hp3 hp4
        go_wp2_with fail
        clear i2 i4
        refine region_quiet_tail 29 (by kernel_rfl) (by kernel_rfl) ?_
        simp only [List.take_succ_cons, List.take_zero, List.drop_succ_cons, List.drop_zero]
        repeat (quiet_step (first
          | ((with_reducible refine Calls.quiet_of (turn_any _ x2 7 (by omega) (by omega))))
          | ((with_reducible refine Calls.quiet_of (turn_any _ x2 18 (by omega) (by omega))))
          | ((with_reducible refine Calls.quiet_of (turn_any _ x4 17 (by omega) (by omega))))
          | ((with_reducible refine Calls.quiet_of (turn_any _ x4 19 (by omega) (by omega))))))
        refine wpQuiet_nil ?_
        rintro w' ⟨nq, rfl⟩
        simp only [movr8, movr1024, wrap32, xor32, add32]
        rw [show x1 + (rotr x2 7 ^^^ rotr x2 18 ^^^ movr x2 3) + x3 + (rotr x4 17 ^^^ rotr x4 19 ^^^ movr x4 10) = xs from HXS.out.symm]
        clear hc1 hc2 hc3 hc4 hs1 hs2 hs3 hs4
        have hcell2 : (wr.drewN nq).cell? ⟨g7, k, none⟩ = some (.int .u32 (old.toNat : Int)) := hcell
        have hfz2 : (wr.drewN nq).frozen? ⟨g7, k, none⟩ = false := hfz
        go_wp2
        go_roundw
        case rel => exact ⟨k + 1, by omega, by go_num, (R2.out.drewN nq).far h27 _, (R3.out.drewN nq).far h37 _, (R4.out.drewN nq).far h47 _, (R5.out.drewN nq).far h57 _, HP.out nq, (below_drewN HB.out nq).setCell hg7 _⟩
        case measure => simp [intOf]; omega
    · have hk64 : k = 64 := by omega
      have R6b : Hid (RowAt wr g7 66 (wordsC ws)) := by
        have := R6.out
        rw [hk64, partW, Nat.sub_self, List.replicate_zero, List.append_nil, ← HWS.out] at this
        exact this
      clear R6 R3 hk64
      have E0 : Hid (st.getD 0 0 = s0.a ∧ st.getD 1 0 = s0.b ∧ st.getD 2 0 = s0.c ∧ st.getD 3 0 = s0.d ∧ st.getD 4 0 = s0.e ∧ st.getD 5 0 = s0.f ∧ st.getD 6 0 = s0.g ∧ st.getD 7 0 = s0.h) := by
        rw [HS0.out]; exact ⟨rfl, rfl, rfl, rfl, rfl, rfl, rfl, rfl⟩
      have c0 := wordsC_cell R2.out 0 (by rw [HS.out]; omega)
      have c1 := wordsC_cell R2.out 1 (by rw [HS.out]; omega)
      have c2 := wordsC_cell R2.out 2 (by rw [HS.out]; omega)
      have c3 := wordsC_cell R2.out 3 (by rw [HS.out]; omega)
      have c4 := wordsC_cell R2.out 4 (by rw [HS.out]; omega)
      have c5 := wordsC_cell R2.out 5 (by rw [HS.out]; omega)
      have c6 := wordsC_cell R2.out 6 (by rw [HS.out]; omega)
      have c7 := wordsC_cell R2.out 7 (by rw [HS.out]; omega)
      rw [E0.out.1] at c0
      rw [E0.out.2.1] at c1
      rw [E0.out.2.2.1] at c2
      rw [E0.out.2.2.2.1] at c3
      rw [E0.out.2.2.2.2.1] at c4
      rw [E0.out.2.2.2.2.2.1] at c5
      rw [E0.out.2.2.2.2.2.2.1] at c6
      rw [E0.out.2.2.2.2.2.2.2] at c7
      go_wp2
      have C0 := Lib.hid (And.intro c0 (And.intro c1 (And.intro c2 (And.intro c3 (And.intro c4 (And.intro c5 (And.intro c6 c7)))))))
      clear c0 c1 c2 c3 c4 c5 c6 c7
      rename World => w8
      go_loopw [10, 11, 12, 13, 14, 15, 16, 17, 18] (fun a b c d e f g h i wx => ∃ (k n : Nat) (s : Eight8), k ≤ 64 ∧ i = .int .i64 k ∧ s = roundsE ws s0 k ∧ a = .int .u32 (s.a.toNat : Int) ∧ b = .int .u32 (s.b.toNat : Int) ∧ c = .int .u32 (s.c.toNat : Int) ∧ d = .int .u32 (s.d.toNat : Int) ∧ e = .int .u32 (s.e.toNat : Int) ∧ f = .int .u32 (s.f.toNat : Int) ∧ g = .int .u32 (s.g.toNat : Int) ∧ h = .int .u32 (s.h.toNat : Int) ∧ wx = w8.drewN n) (fun _ _ _ _ _ _ _ _ i _ => 64 - (intOf i).toNat)
      case atStart => exact ⟨0, 0, s0, by omega, rfl, rfl, rfl, rfl, rfl, rfl, rfl, rfl, rfl, rfl, rfl⟩
      case round =>
        rename_i k0 _ _ _ _
        obtain ⟨k, n, s, hk, rfl, hs, rfl, rfl, rfl, rfl, rfl, rfl, rfl, rfl, hwx⟩ := hrel
        rename World => wx
        have HWX := Lib.hid hwx
        have HSS := Lib.hid hs
        by_cases hlt : k < 64
        · have ck : wx.cell? ⟨g5, k, none⟩ = some (.int .u32 ((cubesW.getD k 0).toNat : Int)) := by rw [hwx]; exact wordsC_cell R5.out k (by rw [cubesW_length]; exact hlt)
          have cw : wx.cell? ⟨g7, k, none⟩ = some (.int .u32 ((ws.getD k 0).toNat : Int)) := by rw [hwx]; exact wordsC_cell R6b.out k (by rw [HW.out]; exact hlt)
          have HSN : Hid (roundsE ws s0 (k + 1) = stepE s (cubesW.getD k 0) (ws.getD k 0)) := by rw [hs]; rfl
          generalize cubesW.getD k 0 = kk at ck HSN
          generalize ws.getD k 0 = ww at cw HSN
          have hq : (k : Int) < 64 := by omega
          have hea := s.a.toNat_lt
          have heb := s.e.toNat_lt
          have hne : IntKind.u32.wrap (4294967295 - (s.e.toNat : Int)) = ((4294967295 - s.e).toNat : Int) := by rw [← not32, IntKind.wrap_u32]; omega
          clear hwx hs
          go_wp2_with fail
          go_quiet (first
            | ((with_reducible refine Calls.quiet_of (turn_any _ s.e 6 (by omega) (by omega))))
            | ((with_reducible refine Calls.quiet_of (turn_any _ s.e 11 (by omega) (by omega))))
            | ((with_reducible refine Calls.quiet_of (turn_any _ s.e 25 (by omega) (by omega)))))
          obtain ⟨t1, ht1⟩ : ∃ t1, s.h + bigS s.e 6 11 25 + ((s.e &&& s.f) ^^^ ((4294967295 - s.e) &&& s.g)) + kk + ww = t1 := ⟨_, rfl⟩
          simp only [and32, xor32, sum5]
          rw [show s.h + (rotr s.e 6 ^^^ rotr s.e 11 ^^^ rotr s.e 25) + ((s.e &&& s.f) ^^^ ((4294967295 - s.e) &&& s.g)) + kk + ww = t1 from ht1]
          have HT1 := Lib.hid ht1
          clear ht1 ck cw heb hne
          go_wp2_with fail
          refine (turn_any _ s.a 2 (by omega) (by omega)).mono ?_
          intro e x h
          obtain ⟨he, m1, hx⟩ := h
          subst he hx
          go_wp2_with fail
          refine (turn_any _ s.a 13 (by omega) (by omega)).mono ?_
          intro e x h
          obtain ⟨he, m2, hx⟩ := h
          subst he hx
          go_wp2_with fail
          refine (turn_any _ s.a 22 (by omega) (by omega)).mono ?_
          intro e x h
          obtain ⟨he, m3, hx⟩ := h
          subst he hx
          go_wp2_with fail
          go_roundw
          case rel =>
            refine ⟨k + 1, n + (nq + m1 + m2 + m3), stepE s kk ww, by omega, by go_num, HSN.out.symm, ?_, rfl, rfl, rfl, ?_, rfl, rfl, rfl, by rw [HWX.out, World.drewN_drewN]⟩
            · show Value.int IntKind.u32 _ = Value.int IntKind.u32 ((tOne s kk ww + tTwo s).toNat : Int)
              rw [show tOne s kk ww = t1 from HT1.out]
              simp only [and32, xor32, tTwo, bigS, UInt32.toNat_add]
              refine congrArg (Value.int IntKind.u32) ?_
              omega
            · show Value.int IntKind.u32 _ = Value.int IntKind.u32 ((s.d + tOne s kk ww).toNat : Int)
              rw [show tOne s kk ww = t1 from HT1.out]
              simp only [UInt32.toNat_add]
              refine congrArg (Value.int IntKind.u32) ?_
              omega
          case measure => simp [intOf]; omega
        · have hk64 : k = 64 := by omega
          rw [hk64] at hs
          have HE : Hid (fin = [s0.a + s.a, s0.b + s.b, s0.c + s.c, s0.d + s.d, s0.e + s.e, s0.f + s.f, s0.g + s.g, s0.h + s.h]) := by
            show _ = _
            rw [HF.out, ← hs]
            have e8 : st = [s0.a, s0.b, s0.c, s0.d, s0.e, s0.f, s0.g, s0.h] := by
              obtain ⟨e0, e1, e2, e3, e4, e5, e6, e7⟩ := E0.out
              rw [← e0, ← e1, ← e2, ← e3, ← e4, ← e5, ← e6, ← e7]
              have h8 := HS.out
              match st, h8 with
              | [_, _, _, _, _, _, _, _], _ => rfl
            rw [e8]
            rfl
          have c0 := C0.out.1
          have c1 := C0.out.2.1
          have c2 := C0.out.2.2.1
          have c3 := C0.out.2.2.2.1
          have c4 := C0.out.2.2.2.2.1
          have c5 := C0.out.2.2.2.2.2.1
          have c6 := C0.out.2.2.2.2.2.2.1
          have c7 := C0.out.2.2.2.2.2.2.2
          have R4x : Hid (RowAt wx g4 23 (wordsC (List.replicate 8 0))) := by rw [hwx]; exact R4.out.drewN n
          have BX : Hid (Below w.heap.size w wx) := by rw [hwx]; exact below_drewN HB.out n
          have hsz : w.heap.size ≤ wx.heap.size := BX.out.size
          clear C0 hk64 hs HSS HF R2 R4 R5 R6b HB
          subst hwx
          have HV : Hid (Value.agg #[.int .u32 (((s0.a.toNat : Int) + (s.a.toNat : Int)) % 4294967296), .int .u32 (((s0.b.toNat : Int) + (s.b.toNat : Int)) % 4294967296), .int .u32 (((s0.c.toNat : Int) + (s.c.toNat : Int)) % 4294967296), .int .u32 (((s0.d.toNat : Int) + (s.d.toNat : Int)) % 4294967296), .int .u32 (((s0.e.toNat : Int) + (s.e.toNat : Int)) % 4294967296), .int .u32 (((s0.f.toNat : Int) + (s.f.toNat : Int)) % 4294967296), .int .u32 (((s0.g.toNat : Int) + (s.g.toNat : Int)) % 4294967296), .int .u32 (((s0.h.toNat : Int) + (s.h.toNat : Int)) % 4294967296)] = .agg (wordsC fin)) := by
            show _ = _
            rw [HE.out]
            simp only [add32m]
            rfl
          clear HE
          go_wp2_with ((with_reducible refine wpList_store_row (o := ⟨none, _, _, _, _, _⟩) rfl 23 (.tmp 4) (.tmp 207) rfl g4 23 _ (wordsC fin) (by with_unfolding_all rfl) (by with_unfolding_all exact HV.out) R4x.out (by rw [wordsC_size, wordsC_size, HFL.out, List.length_replicate]) (Tryd.size8l fin HFL.out) (wordsC_one fin) ?_); intro w9 p9)
          refine bodyPost_ret (results_cell_row rfl _ _ g4 23 (wordsC fin) (0, 0) (.array 8 22) rfl p9.row Tryd.underlying23 rfl (Tryd.size8l fin HFL.out)) rfl ⟨rfl, ?_⟩
          exact p9.below BX.out hsz hg4
end Go.Proofs.YtckpnkohaaebdaaDoor
end
section
namespace Go.Proofs.YtckpnkohaaebdaaDoor
open Go.RowKit
set_option linter.unusedVariables false
set_option maxRecDepth 20000

theorem OwnB.lit {w : World} {base : Nat} (e : TypeId) (l : List UInt8) (c : Array Value) (hb : base ≤ w.heap.size) (hc : c.toList = cellsB l) (hm : l.length ≤ maxLen) : OwnB (w.alloc (.cells c e)) base e (.slice (some ⟨w.heap.size, 0, none⟩) l.length l.length) l := by
  have h := World.ownsRow_lit (base := base) (e := e) (size := 1) w c l.length hb hm (by rw [← Array.length_toList, hc, cellsB_length]; omega)
  rw [hc] at h
  exact h

def accP (k : Nat) : List UInt8 := 128 :: List.replicate k 0
theorem accP_length (k : Nat) : (accP k).length = k + 1 := by simp [accP]
theorem accP_succ (k : Nat) : accP (k + 1) = accP k ++ [0] := by simp [accP, List.replicate_succ']
theorem accP_all (n : Nat) (hn : 8 * n < 18446744073709551616) : accP ((119 - n % 64) % 64) ++ highI (8 * n) 8 = padB n := by
  rw [padB, accP, highI, show lowI (8 * n) 8 = lowB (8 * n) 8 from lowI_in _ 8 (by omega) (by omega), Nat.mod_eq_of_lt hn]

theorem refPad_neg (w : World) (n : Int) (h : n < 0) :
    Calls Tryd.prog 19 #[.int .i64 n] w (RetBs w []) := by
  have hd : decide (n < 0) = true := by simp; omega
  go_enter Tryd.func19, Tryd.ntmps19
  go_wp2
  go_ret
  exact ⟨_, rfl, Bs.nil _, Below.refl _ _⟩

set_option maxHeartbeats 1000000 in
theorem refPad_any (w : World) (n : Nat) (hn : n ≤ 1000000000) :
    Calls Tryd.prog 19 #[.int .i64 (n : Int)] w (RetBs w (padB n)) := by
  have hd : decide ((n : Int) < 0) = false := by simp
  have HA : Hid (accP ((119 - n % 64) % 64) ++ highI (8 * n) 8 = padB n) := accP_all n (by omega)
  obtain ⟨z, hz⟩ : ∃ z, z = (119 - n % 64) % 64 := ⟨_, rfl⟩
  rw [← hz] at HA
  have hzl : z < 64 := by omega
  go_enter Tryd.func19, Tryd.ntmps19
  go_wp2
  have ho : OwnB (w.alloc (.cells #[.int .u8 128] 5)) w.heap.size 5 (.slice (some ⟨w.heap.size, 0, none⟩) 1 1) (accP 0) := OwnB.lit _ [128] _ (Nat.le_refl _) rfl (by unfold maxLen; simp)
  have hb0 : Below w.heap.size w (w.alloc (.cells #[.int .u8 128] 5)) := (Below.refl _ w).alloc (Nat.le_refl _) _
  have HO := Lib.hid ho
  have HB := Lib.hid hb0
  clear ho hb0
  go_loopw [3] (fun v wr => ∃ k : Nat, k ≤ z ∧ OwnB wr w.heap.size 5 v (accP k) ∧ Below w.heap.size w wr) (fun v _ => 100 - (match v with | .slice _ n _ => n | _ => 0))
  case atStart => exact ⟨0, by omega, HO.out, HB.out⟩
  case round =>
    clear HO HB
    obtain ⟨k, hk, hown, hb⟩ := hrel
    have HO := Lib.hid hown
    have HB := Lib.hid hb
    obtain ⟨A, c, rfl, hc1, hc2⟩ := hown.shape
    have hsz := hb.size
    have hlen := accP_length k
    obtain ⟨m, hm⟩ : ∃ m, m = (accP k).length := ⟨_, rfl⟩
    rw [← hm] at HO hc1 ⊢
    have hmk : m = k + 1 := by omega
    clear hown hb hlen
    by_cases hlt : k < z
    · have ht : (((n : Int) + (m : Int) + 8) % 64 != 0) = true := by rw [bne_iff_ne]; omega
      have hml : m ≤ 64 := by omega
      have HM := Lib.hid hm
      have HZ := Lib.hid hz
      have HMK := Lib.hid hmk
      clear hm hz hmk
      go_wp2_with (at_builtin; refine wpList_appB _ rfl (.tmp 14) (.tmp 15) 27 rfl w 5 Tryd.infoB Tryd.underlying27 _ _ (accP k) [0] rfl rfl (HO.out.alloc _) (Bs.lit1 _ _ _ _ rfl) (by rw [← HM.out]; simp; omega) (HB.out.alloc hsz _) ?_; intro v1 w1 hown1 hb1)
      go_roundw
      case rel => exact ⟨k + 1, by omega, by rw [accP_succ]; exact hown1, hb1⟩
      case measure =>
        obtain ⟨A1, c1, rfl, _, _⟩ := hown1.shape
        have := HM.out
        have := HMK.out
        simp only [List.length_append, List.length_singleton]
        omega
    · have hkz : k = z := by omega
      have ht : (((n : Int) + (m : Int) + 8) % 64 != 0) = false := by rw [bne_eq_false_iff_eq]; omega
      have e8 : IntKind.u64.wrap (n : Int) * 8 = ((8 * n : Nat) : Int) := by rw [IntKind.wrap_u64]; omega
      have e9 : (n : Int) * 8 = ((8 * n : Nat) : Int) := by omega
      have HE9 := Lib.hid e9
      rw [hkz] at HO
      have HM := Lib.hid hm
      have hml : m ≤ 64 := by omega
      have HML : Hid (m = (accP z).length) := by show _ = _; rw [← hkz]; exact hm
      clear hm hz hmk hkz e8 e9
      go_wp2_with fail
      rw [HE9.out]
      refine (refHigh_any _ (8 * n) (by omega) 8 (by omega)).mono ?_
      intro e w2 h
      obtain ⟨u, he, hu, b2⟩ := h
      subst he
      have HO2 := Lib.hid (HO.out.below b2)
      have HB2 := Lib.hid (below_size HB.out b2)
      have HU := Lib.hid hu
      have hhl : (highI (8 * n) 8).length ≤ 8 := by rw [highI, List.length_reverse]; exact lowI_length _ _
      clear b2 hu HO HB
      go_wp2_with (at_builtin; refine wpList_appB _ rfl (.tmp 17) (.tmp 21) 27 rfl w 5 Tryd.infoB Tryd.underlying27 _ _ (accP z) (highI (8 * n) 8) rfl rfl HO2.out HU.out (by rw [← HML.out]; omega) HB2.out ?_; intro v1 w3 hown1 hb1)
      go_ret
      rw [HA.out] at hown1
      exact ⟨_, rfl, hown1.bs, hb1⟩

theorem refPad_int (w : World) (n : Int) (h : n ≤ 1000000000) :
    Calls Tryd.prog 19 #[.int .i64 n] w (RetBs w (if n < 0 then [] else padB n.toNat)) := by
  by_cases h0 : n < 0
  · rw [if_pos h0]; exact refPad_neg w n h0
  · rw [if_neg h0]
    have := refPad_any w n.toNat (by omega)
    rwa [Int.toNat_of_nonneg (by omega)] at this
theorem Pad_int (w : World) (n : Int) (h : n ≤ 1000000000) :
    Calls Tryd.prog 16 #[.int .i64 n] w (RetBs w (if n < 0 then [] else padB n.toNat)) := by
  by_cases h0 : n < 0
  · rw [if_pos h0]; exact Pad_neg w n h0
  · rw [if_neg h0]
    have := Pad_any w n.toNat (by omega)
    rwa [Int.toNat_of_nonneg (by omega)] at this
end Go.Proofs.YtckpnkohaaebdaaDoor
end
section
namespace Go.Proofs.YtckpnkohaaebdaaDoor
open Go.RowKit
set_option linter.unusedVariables false
set_option maxRecDepth 20000

def zb64 : List UInt8 := List.replicate 64 0
theorem zb64_length : zb64.length = 64 := by simp [zb64]
theorem Tryd.zeroB64 : (Tryd.prog.info? 24).map (·.zero) = some (some (.agg (keyC zb64))) := by kernel_rfl
def chunkB (all : List UInt8) (k : Nat) : List UInt8 := (all.drop (64 * k)).take 64
theorem chunkB_length (all : List UInt8) (k : Nat) (h : 64 * k + 64 ≤ all.length) : (chunkB all k).length = 64 := by simp [chunkB]; omega
theorem chunkB_get (all : List UInt8) (k i : Nat) (h : 64 * k + 64 ≤ all.length) (hi : i < 64) : (chunkB all k)[i]'(by rw [chunkB_length _ _ h]; exact hi) = all[64 * k + i]'(by omega) := by
  simp [chunkB]
theorem chunkB_getD (all : List UInt8) (k i : Nat) (h : 64 * k + 64 ≤ all.length) (hi : i < 64) : (chunkB all k).getD i 0 = all[64 * k + i]'(by omega) := by
  rw [← chunkB_get all k i h hi]
  simp [List.getD_eq_getElem?_getD, chunkB_length all k h, hi]
theorem partly_stepD (l : List UInt8) (k : Nat) (h : k < l.length) : (partly l k).set k (l.getD k 0) = partly l (k + 1) := by
  rw [← partly_step l k h]
  simp [List.getD_eq_getElem?_getD, h]
theorem bytesC_cellD {w : World} {g : Nat} {t : TypeId} {l : List UInt8} (h : RowAt w g t (keyC l)) (j : Nat) (hj : j < l.length) : w.cell? ⟨g, j, none⟩ = some (.int .u8 ((l.getD j 0).toNat : Int)) := by
  rw [bytesC_cell h j hj]
  simp [hj]
theorem foldB_next (all : List UInt8) (st : List UInt32) (k : Nat) : foldB st all (k + 1) = blockW (foldB st all k) (chunkB all k) := rfl
theorem bytesOfW_get (l : List UInt32) : ∀ (q r : Nat), q < l.length → r < 4 → (bytesOfW l).getD (4 * q + r) 0 = byteN (l.getD q 0).toNat (3 - r) := by
  induction l with
  | nil => intro q r h _; simp at h
  | cons x l ih =>
    intro q r hq hr
    have e : bytesOfW (x :: l) = [byteN x.toNat 3, byteN x.toNat 2, byteN x.toNat 1, byteN x.toNat 0] ++ bytesOfW l := rfl
    rw [e]
    rcases q with _ | q
    · rcases r with _ | _ | _ | _ | r
      · rfl
      · rfl
      · rfl
      · rfl
      · omega
    · have h2 := ih q r (by simpa using hq) hr
      rw [show 4 * (q + 1) + r = (4 * q + r) + 4 by omega]
      simp only [List.getD_eq_getElem?_getD] at h2 ⊢
      rw [List.getElem?_append_right (by simp), show 4 * q + r + 4 - [byteN x.toNat 3, byteN x.toNat 2, byteN x.toNat 1, byteN x.toNat 0].length = 4 * q + r by simp, h2]
      simp
theorem byte_shift (x : UInt32) (m e : Nat) (h : 2 ^ m = 256 ^ e) : IntKind.u8.wrap ((x.toNat : Int) / 2 ^ m) = ((byteN x.toNat e).toNat : Int) := by
  have h2 : (2 : Int) ^ m = ((256 ^ e : Nat) : Int) := by rw [← h]; simp
  rw [byteN_toNat, IntKind.wrap_u8, h2]
  simp
theorem shift_of (r : Nat) (hr : r < 4) : 2 ^ (24 - 8 * r) = 256 ^ (3 - r) := by
  rcases r with _ | _ | _ | _ | r
  · rfl
  · rfl
  · rfl
  · rfl
  · omega
theorem zeroKeyLit : Value.agg #[.int .u8 0, .int .u8 0, .int .u8 0, .int .u8 0, .int .u8 0, .int .u8 0, .int .u8 0, .int .u8 0, .int .u8 0, .int .u8 0, .int .u8 0, .int .u8 0, .int .u8 0, .int .u8 0, .int .u8 0, .int .u8 0, .int .u8 0, .int .u8 0, .int .u8 0, .int .u8 0, .int .u8 0, .int .u8 0, .int .u8 0, .int .u8 0, .int .u8 0, .int .u8 0, .int .u8 0, .int .u8 0, .int .u8 0, .int .u8 0, .int .u8 0, .int .u8 0] = .agg (keyC zeroKey) := by kernel_rfl
theorem Tryd.litsS : Value.agg #[.int .u32 1779033703, .int .u32 3144134277, .int .u32 1013904242, .int .u32 2773480762, .int .u32 1359893119, .int .u32 2600822924, .int .u32 528734635, .int .u32 1541459225] = .agg (wordsC squaresW) := by kernel_rfl
theorem OwnB.empty2 (w : World) (base : Nat) (e : TypeId) (h : base ≤ w.heap.size) : OwnB (w.alloc (.cells #[] e)) base e (.slice (some ⟨w.heap.size, 0, none⟩) 0 0) [] := OwnB.lit e [] #[] h rfl (by simp [maxLen])

set_option maxHeartbeats 4000000 in
theorem refDigest_any (w : World) (v : Value) (l : List UInt8) (hb : Bs w v l) (hl : l.length ≤ 1000000) :
    Calls Tryd.prog 22 #[v] w (RetV w (keyV (digestB l))) := by
  have HV := Lib.hid hb
  obtain ⟨A, c, rfl, h1, h2, h3⟩ := hb
  unfold maxLen at h2
  obtain ⟨N, hN, hN1, hN2⟩ := paddedB_blocks l
  obtain ⟨all, hall⟩ : ∃ all, all = paddedB l := ⟨_, rfl⟩
  rw [← hall] at hN
  have HN := Lib.hid hN
  have HA := Lib.hid hall
  have hpl := padB_length l.length
  obtain ⟨sn, hsn⟩ : ∃ sn, sn = foldB squaresW all N := ⟨_, rfl⟩
  have LS : Hid (sn.length = 8) := by show _ = _; rw [hsn, foldB_length _ _ _ squaresW_length]
  obtain ⟨fin, hfin⟩ : ∃ fin, fin = bytesOfW sn := ⟨_, rfl⟩
  have LF : Hid (fin.length = 32) := by show _ = _; rw [hfin, bytesOfW_length, LS.out]
  have hdig : digestB l = fin := by
    rw [hfin, hsn, digestB, ← hall, hN, Nat.mul_div_cancel_left _ (by omega)]
  rw [hdig]
  have HSN := Lib.hid hsn
  have HFIN := Lib.hid hfin
  have hpd : (padB l.length).length ≤ 72 := by omega
  clear h3 hN hall hpl hsn hfin hdig
  go_enter Tryd.func22, Tryd.ntmps22
  go_wp2_with (first
    | ((with_reducible refine wpList_alloc_row (o := ⟨some 2, _, _, _, _, _⟩) rfl 33 rfl (keyC zeroKey) Tryd.zeroK ?_); intro g2 w2 n2)
    | (at_builtin; refine wpList_appB _ rfl (.tmp 10) (.tmp 11) 27 rfl w2 5 Tryd.infoB Tryd.underlying27 _ _ [] l rfl rfl (OwnB.empty2 _ _ _ (Nat.le_refl _)) ((HV.out.below n2.below).below (alloc_below _ _)) (by simp; omega) (alloc_below _ _) ?_; intro v3 w3 own3 b3))
  refine (refPad_any _ l.length (by omega)).mono ?_
  intro e w4 h
  obtain ⟨u, he, hu, b4⟩ := h
  subst he
  have HU := Lib.hid hu
  have HO := Lib.hid (own3.below b4)
  have B4 := Lib.hid (below_size b3 b4)
  have R2 := Lib.hid ((n2.row.kept b3).kept b4)
  have N2 := Lib.hid n2
  clear own3 b3 b4 hu n2
  go_wp2_with (first
    | (at_builtin; refine wpList_appB _ rfl (.tmp 12) (.tmp 15) 27 rfl w2 5 Tryd.infoB Tryd.underlying27 _ _ ([] ++ l) (padB l.length) rfl rfl HO.out HU.out (by simp; omega) B4.out ?_; intro v5 w5 own5 b5)
    | ((with_reducible refine wpList_alloc_row (o := ⟨some 4, _, _, _, _, _⟩) rfl 23 rfl (wordsC (List.replicate 8 0)) Tryd.zero8 ?_); intro g6 w6 n6)
    | ((with_reducible refine wpList_store_row (o := ⟨none, _, _, _, _, _⟩) rfl 23 (.tmp 4) (.tmp 17) rfl g6 23 _ (wordsC squaresW) (by with_unfolding_all rfl) (by with_unfolding_all exact Tryd.litsS) n6.row (by rw [wordsC_size, wordsC_size, squaresW_length, List.length_replicate]) (Tryd.size8l squaresW squaresW_length) (wordsC_one _) ?_); intro w7 p7))
  rw [List.nil_append, show l ++ padB l.length = paddedB l from rfl, ← HA.out] at own5
  have b6 := (laid_put n6 p7).1
  have R25 : Hid (RowAt w5 g2 33 (keyC zeroKey)) := N2.out.row.kept b5
  have BW5 : Hid (Below w.heap.size w w5) := below_size N2.out.below b5
  have B57 := Lib.hid b6
  have S7 : Hid (RowAt w7 g6 23 (wordsC (foldB squaresW all 0))) := p7.row
  obtain ⟨A5, c5, rfl, m1, m2, m3⟩ := own5.bs
  have hNl := HN.out
  obtain ⟨bb, oo, rfl, hcells⟩ := m3 (by omega)
  have HC5 := Lib.hid hcells
  have ltb : bb < w5.heap.size := World.block_lt_of_cell? w5 _ (hcells 0 (by omega))
  have hg6 : w5.heap.size ≤ g6 := Nat.le_of_eq n6.spot.symm
  have hg2 : g2 < w5.heap.size := Nat.lt_of_lt_of_le N2.out.row.lt b5.size
  have hw5 : w.heap.size ≤ w5.heap.size := Nat.le_trans N2.out.below.size b5.size
  have hw2 : w.heap.size ≤ g2 := Nat.le_of_eq N2.out.spot.symm
  have hlen : all.length = 64 * N := hNl
  obtain ⟨len, hle⟩ : ∃ len, len = all.length := ⟨_, rfl⟩
  rw [← hle] at m1 ⊢
  have HLE := Lib.hid hle
  have hle2 : len = 64 * N := by omega
  have HL2 := Lib.hid hle2
  have hlb : len ≤ 1000072 := by omega
  unfold maxLen at m2
  clear b5 b6 own5 n6 p7 N2 R2 B4 HU HO m3 hcells hNl hlen hle hle2 HV
  go_loopw [5] (fun i wr => ∃ k p : Nat, p = 64 * k ∧ k ≤ N ∧ i = .int .i64 p ∧ RowAt wr g6 23 (wordsC (foldB squaresW all k)) ∧ Below w5.heap.size w5 wr) (fun i _ => 2000000 - (intOf i).toNat)
  case atStart => exact ⟨0, 0, rfl, by omega, rfl, S7.out, B57.out⟩
  case round =>
    clear S7 B57
    obtain ⟨k, p, hp, hk, rfl, hr, hb⟩ := hrel
    have R6 := Lib.hid hr
    have HB := Lib.hid hb
    have hp2 : p ≤ len := by rw [HL2.out, hp]; omega
    clear hr hb
    by_cases hlt : k < N
    · have ht : p + 64 ≤ len := by rw [HL2.out, hp]; omega
      have HP := Lib.hid hp
      have hst := foldB_length squaresW all k squaresW_length
      have hst2 := foldB_length squaresW all (k + 1) squaresW_length
      have hblk := foldB_next all squaresW k
      have hcl := chunkB_length all k (by rw [← HLE.out]; omega)
      have HCH : Hid (∀ i (hi : i < 64), ∀ W, Below w5.heap.size w5 W → W.cell? ⟨bb, oo + (p + i), none⟩ = some (.int .u8 (((chunkB all k).getD i 0).toNat : Int))) := by
        intro i hi W hW
        have hx := HC5.out (p + i) (by rw [← HLE.out]; omega)
        rw [chunkB_getD all k i (by rw [← HLE.out]; omega) hi]
        refine (hW.cell (p := ⟨bb, oo + (p + i), none⟩) ltb).trans ?_
        rw [hx]
        simp [HP.out]
      generalize chunkB all k = ch at *
      generalize hs1 : foldB squaresW all k = s1 at *
      generalize hs2 : foldB squaresW all (k + 1) = s2 at *
      have HS1 := Lib.hid hst
      have HS2 := Lib.hid hst2
      have HBK := Lib.hid hblk
      have HCL := Lib.hid hcl
      have HSS2 := Lib.hid hs2
      clear hp hst hst2 hblk hcl hs1 hs2
      go_wp2_with ((with_reducible refine wpList_alloc_row (o := ⟨some 6, _, _, _, _, _⟩) rfl 24 rfl (keyC zb64) Tryd.zeroB64 ?_); intro g8 w8 n8)
      have R68 := Lib.hid (R6.out.kept n8.below)
      have B8 := Lib.hid (below_size HB.out n8.below)
      have R88 : Hid (RowAt w8 g8 24 (keyC (partly ch 0))) := by
        have := n8.row
        rwa [show zb64 = partly ch 0 by rw [partly_zero, HCL.out]; rfl] at this
      have h68 : g6 ≠ g8 := by have := n8.spot; have := R6.out.lt; omega
      have hg8 : w5.heap.size ≤ g8 := by have := n8.spot; have := HB.out.size; omega
      clear n8 R6 HB
      go_loopw [7] (fun i wr => ∃ j : Nat, j ≤ 64 ∧ i = .int .i64 j ∧ RowAt wr g6 23 (wordsC s1) ∧ RowAt wr g8 24 (keyC (partly ch j)) ∧ Below w5.heap.size w5 wr) (fun i _ => 64 - (intOf i).toNat)
      case atStart => exact ⟨0, by omega, rfl, R68.out, R88.out, B8.out⟩
      case round =>
        clear R68 R88 B8
        rename_i k0 _ _ _ _
        obtain ⟨j, hj, rfl, hr6, hr8, hb⟩ := hrel
        have R6 := Lib.hid hr6
        have R8 := Lib.hid hr8
        have HB := Lib.hid hb
        clear hr6 hr8 hb
        by_cases hlj : j < 64
        · have hpl := partly_length ch j (by rw [HCL.out]; omega)
          have hc0 := HCH.out j hlj _ HB.out
          have hc1 := bytesC_cellD R8.out j (by rw [hpl, HCL.out]; exact hlj)
          have hfz := R8.out.frozen j
          have hput := R8.out.put j (.int .u8 ((ch.getD j 0).toNat : Int))
          rw [bytesC_put, partly_stepD ch j (by rw [HCL.out]; exact hlj)] at hput
          have HPT := Lib.hid hput
          generalize ch.getD j 0 = y at hc0 HPT
          generalize (partly ch j).getD j 0 = old at hc1
          have e1 : (p : Int) + (j : Int) < (len : Int) := by omega
          have e2 : (0 : Int) ≤ (p : Int) + (j : Int) := by omega
          have e3 : ((p : Int) + (j : Int)).toNat = p + j := by omega
          have e4 : IntKind.i64.wrap ((p : Int) + (j : Int)) = (p : Int) + (j : Int) := IntWalk.i64_in _ (by omega)
          clear hput hpl
          go_wp2_with fail
          go_roundw
          case rel => exact ⟨j + 1, by omega, by go_num, R6.out.far (by show g6 ≠ g8; exact h68) _, HPT.out, HB.out.setCell hg8 _⟩
          case measure => simp [intOf]; omega
        · have hj64 : j = 64 := by omega
          have R8b : Hid (RowAt wr g8 24 (keyC ch)) := by
            have := R8.out
            rw [hj64, show 64 = ch.length from HCL.out.symm, partly_all] at this
            exact this
          clear hj64 R8 HCH
          go_wp2_with (first
            | (with_reducible refine wpList_load_row (o := ⟨some 37, _, _, _, _, _⟩) rfl 23 (.tmp 4) rfl g6 (by with_unfolding_all rfl) 23 (wordsC s1) (0, 0) (.array 8 22) (by with_unfolding_all exact R6.out) Tryd.underlying23 rfl (Tryd.size8l s1 HS1.out) ?_)
            | (with_reducible refine wpList_load_row (o := ⟨some 38, _, _, _, _, _⟩) rfl 24 (.tmp 6) rfl g8 (by with_unfolding_all rfl) 24 (keyC ch) (0, 0) (.array 64 5) (by with_unfolding_all exact R8b.out) Tryd.underlying24 rfl (Tryd.size64b ch HCL.out) ?_))
          refine (refBlock_any _ s1 ch HS1.out HCL.out).mono ?_
          intro e w10 h
          obtain ⟨he, b10⟩ := h
          subst he
          rw [← HBK.out]
          have R6a := Lib.hid (R6.out.kept b10)
          have Ba := Lib.hid (below_size HB.out b10)
          have hg6s : w5.heap.size ≤ w10.heap.size := Ba.out.size
          clear b10 R6 HB R8b
          go_wp2_with ((with_reducible refine wpList_store_row (o := ⟨none, _, _, _, _, _⟩) rfl 23 (.tmp 4) (.tmp 39) rfl g6 23 _ (wordsC s2) (by with_unfolding_all rfl) (by with_unfolding_all rfl) R6a.out (by rw [wordsC_size, wordsC_size, HS1.out, HS2.out]) (Tryd.size8l s2 HS2.out) (wordsC_one s2) ?_); intro w11 p11)
          go_roundw
          case rel => exact ⟨k + 1, p + 64, by have := HP.out; omega, by omega, by go_num, by rw [HSS2.out]; exact p11.row, p11.below Ba.out hg6s hg6⟩
          case measure => simp [intOf]; omega
    · have hkN : k = N := by omega
      have ht : ¬ (p + 64 ≤ len) := by rw [HL2.out, hp, hkN]; omega
      have S6 : Hid (RowAt wr g6 23 (wordsC sn)) := by
        have := R6.out
        rw [hkN, ← HSN.out] at this
        exact this
      clear hp hkN R6 HC5
      go_wp2_with (first
        | ((with_reducible refine wpList_alloc_row (o := ⟨some 8, _, _, _, _, _⟩) rfl 33 rfl (keyC zeroKey) Tryd.zeroK ?_); intro g12 w12 n12)
        | ((with_reducible refine wpList_store_row (o := ⟨none, _, _, _, _, _⟩) rfl 33 (.tmp 8) (.tmp 40) rfl g12 33 _ (keyC zeroKey) (by with_unfolding_all rfl) (by with_unfolding_all exact zeroKeyLit) n12.row rfl (Tryd.sizeKey _ zeroKey_length) (keyC_one _) ?_); intro w13 p13))
      have b13 := (laid_put n12 p13).1
      have S13 := Lib.hid (S6.out.kept b13)
      have B13 := Lib.hid (below_size HB.out b13)
      have R13 : Hid (RowAt w13 g12 33 (keyC (partly fin 0))) := by
        have := p13.row
        rwa [show zeroKey = partly fin 0 by rw [partly_zero, LF.out]; rfl] at this
      have hg12 : w5.heap.size ≤ g12 := by have := n12.spot; have := HB.out.size; omega
      have h612 : g6 ≠ g12 := by have := n12.spot; have := S6.out.lt; omega
      clear n12 p13 b13 S6 HB
      go_loopw [9] (fun i wr => ∃ j : Nat, j ≤ 32 ∧ i = .int .i64 j ∧ RowAt wr g6 23 (wordsC sn) ∧ RowAt wr g12 33 (keyC (partly fin j)) ∧ Below w5.heap.size w5 wr) (fun i _ => 32 - (intOf i).toNat)
      case atStart => exact ⟨0, by omega, rfl, S13.out, R13.out, B13.out⟩
      case round =>
        clear S13 R13 B13
        rename_i k0 _ _ _ _
        obtain ⟨j, hj, rfl, hr6, hr8, hb⟩ := hrel
        have R6 := Lib.hid hr6
        have R8 := Lib.hid hr8
        have HB := Lib.hid hb
        clear hr6 hr8 hb
        by_cases hlj : j < 32
        · obtain ⟨q, r, hqr, hr⟩ : ∃ q r, j = 4 * q + r ∧ r < 4 := ⟨j / 4, j % 4, by omega, by omega⟩
          have hpl := partly_length fin j (by rw [LF.out]; omega)
          have hc0 := wordsC_cell R6.out q (by rw [LS.out]; omega)
          have hc1 := bytesC_cellD R8.out j (by rw [hpl, LF.out]; exact hlj)
          have hfz := R8.out.frozen j
          have hput := R8.out.put j (.int .u8 ((fin.getD j 0).toNat : Int))
          rw [bytesC_put, partly_stepD fin j (by rw [LF.out]; exact hlj)] at hput
          have HPT := Lib.hid hput
          obtain ⟨m, hm⟩ : ∃ m, m = 24 - 8 * r := ⟨_, rfl⟩
          have hby := byte_shift (sn.getD q 0) m (3 - r) (by rw [hm]; exact shift_of r hr)
          have hget : fin.getD j 0 = byteN (sn.getD q 0).toNat (3 - r) := by rw [HFIN.out, hqr]; exact bytesOfW_get sn q r (by rw [LS.out]; omega) hr
          rw [← hget] at hby
          generalize fin.getD j 0 = y at hby HPT
          generalize (partly fin j).getD j 0 = old at hc1
          generalize sn.getD q 0 = x at hc0 hby
          have hx := x.toNat_lt
          have d1 : (j : Int) / 4 = (q : Int) := by omega
          have d2 : (j : Int) % 4 = (r : Int) := by omega
          have d3 : 24 - 8 * (r : Int) = (m : Int) := by omega
          have d4 : Int.tdiv (j : Int) 4 = (q : Int) := by rw [Int.tdiv_eq_ediv_of_nonneg (by omega)]; omega
          have d5 : Int.tmod (j : Int) 4 = (r : Int) := by rw [Int.tmod_eq_emod_of_nonneg (by omega)]; omega
          have hq8 : (q : Int) < 8 := by omega
          have hm24 : m ≤ 24 := by omega
          clear hput hpl hqr hm hget
          go_wp2_with fail
          go_roundw
          case rel => exact ⟨j + 1, by omega, by go_num, R6.out.far (by show g6 ≠ g12; exact h612) _, HPT.out, HB.out.setCell hg12 _⟩
          case measure => simp [intOf]; omega
        · have hj32 : j = 32 := by omega
          have R8b : Hid (RowAt wr g12 33 (keyC fin)) := by
            have := R8.out
            rw [hj32, show 32 = fin.length from LF.out.symm, partly_all] at this
            exact this
          have R2 : Hid (RowAt wr g2 33 (keyC zeroKey)) := R25.out.kept HB.out
          have BX : Hid (Below w.heap.size w wr) := below_size BW5.out HB.out
          have hsz : w.heap.size ≤ wr.heap.size := BX.out.size
          clear hj32 R8 R25 BW5 HB R6
          go_wp2_with (first
            | (with_reducible refine wpList_load_row (o := ⟨some 57, _, _, _, _, _⟩) rfl 33 (.tmp 8) rfl g12 (by with_unfolding_all rfl) 33 (keyC fin) (0, 0) (.array 32 5) (by with_unfolding_all exact R8b.out) Tryd.underlying33 rfl (Tryd.sizeKey fin LF.out) ?_)
            | ((with_reducible refine wpList_store_row (o := ⟨none, _, _, _, _, _⟩) rfl 33 (.tmp 2) (.tmp 57) rfl g2 33 _ (keyC fin) (by with_unfolding_all rfl) (by with_unfolding_all rfl) R2.out (keyC_same zeroKey_length LF.out) (Tryd.sizeKey fin LF.out) (keyC_one fin) ?_); intro w9 p9))
          refine bodyPost_ret (results_cell_row rfl _ _ g2 33 (keyC fin) (0, 0) (.array 32 5) rfl p9.row Tryd.underlying33 rfl (Tryd.sizeKey fin LF.out)) rfl ⟨rfl, ?_⟩
          exact p9.below BX.out hsz hw2
end Go.Proofs.YtckpnkohaaebdaaDoor
end
