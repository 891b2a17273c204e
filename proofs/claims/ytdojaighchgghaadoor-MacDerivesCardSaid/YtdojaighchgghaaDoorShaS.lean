/-
  Contract of the document's own Block of sha. Conditions: as the theorem names them.
-/
import Derived.Test.YtdojaighchgghaaDoorShaR
namespace Go.Proofs.YtdojaighchgghaaDoor
open Go.RowKit
set_option linter.unusedVariables false
set_option maxRecDepth 20000
set_option pp.deepTerms true
set_option pp.maxSteps 100000

set_option maxHeartbeats 4000000 in
theorem refBlock_any (w : World) (st : List UInt32) (block : List UInt8) (hs : st.length = 8) (hl : block.length = 64) :
    Calls Tryd.prog 17 #[.agg (wordsC st), keyV block] w (RetV w (.agg (wordsC (blockW st block)))) := by
  obtain ⟨fin, hfin⟩ : ∃ fin, fin = blockW st block := ⟨_, rfl⟩
  obtain ⟨ws, hws⟩ : ∃ ws, ws = wordsTo block 64 := ⟨_, rfl⟩
  obtain ⟨s0, hs0⟩ : ∃ s0, s0 = toE st := ⟨_, rfl⟩
  have hwl : ws.length = 64 := by rw [hws, wordsTo_length]
  have hfl : fin.length = 8 := by rw [hfin]; exact blockW_length _ _ hs
  rw [← hfin]
  have HF : Hid (fin = List.zipWith (· + ·) st (ofE (roundsE ws s0 64))) := by rw [hfin, hws, hs0]; rfl
  have HW := Lib.hid hwl
  have HWS := Lib.hid hws
  have HFL := Lib.hid hfl
  have HS := Lib.hid hs
  have HL := Lib.hid hl
  have HS0 := Lib.hid hs0
  clear hfin hws hwl hfl hs hl hs0
  go_enter Tryd.func17, Tryd.ntmps17
  go_wp2_with (first
    | ((with_reducible refine wpList_box_row (o := ⟨some 2, _, _, _, _, _⟩) rfl 23 (.tmp 0) rfl (wordsC st) (by with_unfolding_all rfl) ?_); intro g2 w2 n2)
    | ((with_reducible refine wpList_box_row (o := ⟨some 3, _, _, _, _, _⟩) rfl 24 (.tmp 1) rfl (keyC block) (by with_unfolding_all rfl) ?_); intro g3 w3 n3)
    | ((with_reducible refine wpList_alloc_row (o := ⟨some 4, _, _, _, _, _⟩) rfl 23 rfl (wordsC (List.replicate 8 0)) Tryd.zero8 ?_); intro g4 w4 n4)
    | ((with_reducible refine wpList_alloc_row (o := ⟨some 5, _, _, _, _, _⟩) rfl 66 rfl (wordsC (List.replicate 64 0)) Tryd.zero64 ?_); intro g5 w5 n5)
    | ((with_reducible refine wpList_store_row (o := ⟨none, _, _, _, _, _⟩) rfl 66 (.tmp 5) (.tmp 21) rfl g5 66 _ (wordsC cubesW) (by with_unfolding_all rfl) (by with_unfolding_all exact Tryd.litsK) n5.row (by rw [wordsC_size, wordsC_size, cubesW_length, List.length_replicate]) (Tryd.size64l cubesW cubesW_length) (wordsC_one _) ?_); intro w6 p6)
    | ((with_reducible refine wpList_alloc_row (o := ⟨some 6, _, _, _, _, _⟩) rfl 66 rfl (wordsC (List.replicate 64 0)) Tryd.zero64 ?_); intro g7 w7 n7))
  have e2 := n2.spot
  have e3 := n3.spot
  have e4 := n4.spot
  have e5 := n5.spot
  have e7 := n7.spot
  have z2 := n2.size
  have z3 := n3.size
  have z4 := n4.size
  have z5 := n5.size
  have z6 := p6.size
  have l5 := (laid_put n5 p6).1
  have B7 : Hid (Below w.heap.size w w7) := below_size (below_size (below_size (below_size n2.below n3.below) n4.below) l5) n7.below
  have R2 : Hid (RowAt w7 g2 23 (wordsC st)) := (((n2.row.kept n3.below).kept n4.below).kept l5).kept n7.below
  have R3 : Hid (RowAt w7 g3 24 (keyC block)) := ((n3.row.kept n4.below).kept l5).kept n7.below
  have R4 : Hid (RowAt w7 g4 23 (wordsC (List.replicate 8 0))) := (n4.row.kept l5).kept n7.below
  have R5 : Hid (RowAt w7 g5 66 (wordsC cubesW)) := p6.row.kept n7.below
  have R6 : Hid (RowAt w7 g7 66 (wordsC (partW block 0))) := n7.row
  have hg7 : w.heap.size ≤ g7 := by omega
  have hg4 : w.heap.size ≤ g4 := by omega
  have h27 : g2 ≠ g7 := by omega
  have h37 : g3 ≠ g7 := by omega
  have h47 : g4 ≠ g7 := by omega
  have h57 : g5 ≠ g7 := by omega
  clear n2 n3 n4 n5 p6 n7 l5 e2 e3 e4 e5 e7 z2 z3 z4 z5 z6
  go_loopw [7] (fun i wr => ∃ k : Nat, k ≤ 64 ∧ i = .int .i64 k ∧ RowAt wr g2 23 (wordsC st) ∧ RowAt wr g3 24 (keyC block) ∧ RowAt wr g4 23 (wordsC (List.replicate 8 0)) ∧ RowAt wr g5 66 (wordsC cubesW) ∧ RowAt wr g7 66 (wordsC (partW block k)) ∧ Below w.heap.size w wr) (fun i _ => 64 - (intOf i).toNat)
  case atStart => exact ⟨0, by omega, rfl, R2.out, R3.out, R4.out, R5.out, R6.out, B7.out⟩
  case round =>
    clear R2 R3 R4 R5 R6 B7
    obtain ⟨k, hk, rfl, hr2, hr3, hr4, hr5, hr6, hb⟩ := hrel
    have R2 := Lib.hid hr2
    have R3 := Lib.hid hr3
    have R4 := Lib.hid hr4
    have R5 := Lib.hid hr5
    have R6 := Lib.hid hr6
    have HB := Lib.hid hb
    clear hr2 hr3 hr4 hr5 hr6 hb
    by_cases hlt : k < 64
    · have hln := partW_length block k (by omega)
      have hcell := wordsC_cell R6.out k (by omega)
      have hfz := R6.out.frozen k
      generalize (partW block k).getD k 0 = old at hcell
      have hps := partW_step block k hlt
      by_cases h16 : k < 16
      · rw [if_pos h16, wordOf_four block k (by rw [HL.out]; omega)] at hps
        have c0 := bytesC_cell R3.out (4 * k) (by rw [HL.out]; omega)
        have c1 := bytesC_cell R3.out (4 * k + 1) (by rw [HL.out]; omega)
        have c2 := bytesC_cell R3.out (4 * k + 2) (by rw [HL.out]; omega)
        have c3 := bytesC_cell R3.out (4 * k + 3) (by rw [HL.out]; omega)
        generalize block[4 * k]'(by rw [HL.out]; omega) = b0 at c0 hps
        generalize block[4 * k + 1]'(by rw [HL.out]; omega) = b1 at c1 hps
        generalize block[4 * k + 2]'(by rw [HL.out]; omega) = b2 at c2 hps
        generalize block[4 * k + 3]'(by rw [HL.out]; omega) = b3 at c3 hps
        have hput := R6.out.put k (.int .u32 ((word4 b0 b1 b2 b3).toNat : Int))
        rw [wordsC_put, hps] at hput
        have HP := Lib.hid hput
        have y0 := b0.toNat_lt
        have y1 := b1.toNat_lt
        have y2 := b2.toNat_lt
        have y3 := b3.toNat_lt
        have q0 : (4 * (k : Int)) < 64 := by omega
        have q1 : (4 * (k : Int) + 1) < 64 := by omega
        have q2 : (4 * (k : Int) + 2) < 64 := by omega
        have q3 : (4 * (k : Int) + 3) < 64 := by omega
        have m0 : (4 * (k : Int)).toNat = 4 * k := by omega
        have m1 : (4 * (k : Int) + 1).toNat = 4 * k + 1 := by omega
        have m2 : (4 * (k : Int) + 2).toNat = 4 * k + 2 := by omega
        have m3 : (4 * (k : Int) + 3).toNat = 4 * k + 3 := by omega
        have v0 : (0 : Int) ≤ 4 * (k : Int) := by omega
        have v1 : (0 : Int) ≤ 4 * (k : Int) + 1 := by omega
        have v2 : (0 : Int) ≤ 4 * (k : Int) + 2 := by omega
        have v3 : (0 : Int) ≤ 4 * (k : Int) + 3 := by omega
        have t0 : IntKind.i64.wrap (4 * (k : Int)) = 4 * (k : Int) := IntWalk.i64_in _ (by omega)
        have t1 : IntKind.i64.wrap (4 * (k : Int) + 1) = 4 * (k : Int) + 1 := IntWalk.i64_in _ (by omega)
        have t2 : IntKind.i64.wrap (4 * (k : Int) + 2) = 4 * (k : Int) + 2 := IntWalk.i64_in _ (by omega)
        have t3 : IntKind.i64.wrap (4 * (k : Int) + 3) = 4 * (k : Int) + 3 := IntWalk.i64_in _ (by omega)
        have q4 : (k : Int) < 64 := by omega
        clear hput hps hln
        go_wp2_with fail
        go_still_tail 31, (by kernel_rfl)
        rw [word4_bits]
        change wpList _ _ _ _ _ wr.drew
        clear c0 c1 c2 c3 m0 m1 m2 m3 t0 t1 t2 t3 v0 v1 v2 v3
        go_wp2
        go_roundw
        case rel => exact ⟨k + 1, by omega, by go_num, (R2.out.far h27 _).drew, (R3.out.far h37 _).drew, (R4.out.far h47 _).drew, (R5.out.far h57 _).drew, HP.out.drew, (HB.out.setCell hg7 _).drew⟩
        case measure => simp [intOf]; omega
      · rw [if_neg h16] at hps
        obtain ⟨p1, hp1⟩ : ∃ p, p + 16 = k := ⟨k - 16, by omega⟩
        obtain ⟨p2, hp2⟩ : ∃ p, p + 15 = k := ⟨k - 15, by omega⟩
        obtain ⟨p3, hp3⟩ : ∃ p, p + 7 = k := ⟨k - 7, by omega⟩
        obtain ⟨p4, hp4⟩ : ∃ p, p + 2 = k := ⟨k - 2, by omega⟩
        have hs1 : IntKind.i64.wrap ((k : Int) - 16) = (p1 : Int) := by rw [IntWalk.i64_in _ (by omega)]; omega
        have hs2 : IntKind.i64.wrap ((k : Int) - 15) = (p2 : Int) := by rw [IntWalk.i64_in _ (by omega)]; omega
        have hs3 : IntKind.i64.wrap ((k : Int) - 7) = (p3 : Int) := by rw [IntWalk.i64_in _ (by omega)]; omega
        have hs4 : IntKind.i64.wrap ((k : Int) - 2) = (p4 : Int) := by rw [IntWalk.i64_in _ (by omega)]; omega
        have i2 : (k : Int) - 15 = (p2 : Int) := by omega
        have i4 : (k : Int) - 2 = (p4 : Int) := by omega
        have hc1 := wordsC_cell R6.out p1 (by omega)
        have hc2 := wordsC_cell R6.out p2 (by omega)
        have hc3 := wordsC_cell R6.out p3 (by omega)
        have hc4 := wordsC_cell R6.out p4 (by omega)
        rw [partW_get _ _ _ (by omega)] at hc1 hc2 hc3 hc4
        rw [nextW, show k - 16 = p1 by omega, show k - 15 = p2 by omega, show k - 7 = p3 by omega, show k - 2 = p4 by omega] at hps
        generalize (wordsTo block k).getD p1 0 = x1 at hc1 hps
        generalize (wordsTo block k).getD p2 0 = x2 at hc2 hps
        generalize (wordsTo block k).getD p3 0 = x3 at hc3 hps
        generalize (wordsTo block k).getD p4 0 = x4 at hc4 hps
        obtain ⟨xs, hxs⟩ : ∃ xs, xs = x1 + smallS x2 7 18 3 + x3 + smallS x4 17 19 10 := ⟨_, rfl⟩
        have HXS := Lib.hid hxs
        have hput := fun n => (R6.out.drewN n).put k (.int .u32 (xs.toNat : Int))
        simp only [wordsC_put, hxs] at hput
        rw [hps, ← hxs] at hput
        have HP := Lib.hid hput
        have hq1 : (p1 : Int) < 64 := by omega
        have hq2 : (p2 : Int) < 64 := by omega
        have hq3 : (p3 : Int) < 64 := by omega
        have hq4 : (p4 : Int) < 64 := by omega
        have hq5 : (k : Int) < 64 := by omega
        have b2 := x2.toNat_lt
        have b4 := x4.toNat_lt
        clear hxs hps hput hln hp1 hp2 hp3 hp4
        go_wp2_with fail
        clear i2 i4
        refine region_quiet_tail 29 (by kernel_rfl) (by kernel_rfl) ?_
        simp only [List.take_succ_cons, List.take_zero, List.drop_succ_cons, List.drop_zero]
        repeat (quiet_step (first
          | ((with_reducible refine Calls.quiet_of (turn_any _ x2 7 (by omega) (by omega))))
          | ((with_reducible refine Calls.quiet_of (turn_any _ x2 18 (by omega) (by omega))))
          | ((with_reducible refine Calls.quiet_of (turn_any _ x4 17 (by omega) (by omega))))
          | ((with_reducible refine Calls.quiet_of (turn_any _ x4 19 (by omega) (by omega))))))
        refine wpQuiet_nil ?_
        rintro w' ⟨nq, rfl⟩
        simp only [movr8, movr1024, wrap32, xor32, add32]
        rw [show x1 + (rotr x2 7 ^^^ rotr x2 18 ^^^ movr x2 3) + x3 + (rotr x4 17 ^^^ rotr x4 19 ^^^ movr x4 10) = xs from HXS.out.symm]
        clear hc1 hc2 hc3 hc4 hs1 hs2 hs3 hs4
        have hcell2 : (wr.drewN nq).cell? ⟨g7, k, none⟩ = some (.int .u32 (old.toNat : Int)) := hcell
        have hfz2 : (wr.drewN nq).frozen? ⟨g7, k, none⟩ = false := hfz
        go_wp2
        go_roundw
        case rel => exact ⟨k + 1, by omega, by go_num, (R2.out.drewN nq).far h27 _, (R3.out.drewN nq).far h37 _, (R4.out.drewN nq).far h47 _, (R5.out.drewN nq).far h57 _, HP.out nq, (below_drewN HB.out nq).setCell hg7 _⟩
        case measure => simp [intOf]; omega
    · have hk64 : k = 64 := by omega
      have R6b : Hid (RowAt wr g7 66 (wordsC ws)) := by
        have := R6.out
        rw [hk64, partW, Nat.sub_self, List.replicate_zero, List.append_nil, ← HWS.out] at this
        exact this
      clear R6 R3 hk64
      have E0 : Hid (st.getD 0 0 = s0.a ∧ st.getD 1 0 = s0.b ∧ st.getD 2 0 = s0.c ∧ st.getD 3 0 = s0.d ∧ st.getD 4 0 = s0.e ∧ st.getD 5 0 = s0.f ∧ st.getD 6 0 = s0.g ∧ st.getD 7 0 = s0.h) := by
        rw [HS0.out]; exact ⟨rfl, rfl, rfl, rfl, rfl, rfl, rfl, rfl⟩
      have c0 := wordsC_cell R2.out 0 (by rw [HS.out]; omega)
      have c1 := wordsC_cell R2.out 1 (by rw [HS.out]; omega)
      have c2 := wordsC_cell R2.out 2 (by rw [HS.out]; omega)
      have c3 := wordsC_cell R2.out 3 (by rw [HS.out]; omega)
      have c4 := wordsC_cell R2.out 4 (by rw [HS.out]; omega)
      have c5 := wordsC_cell R2.out 5 (by rw [HS.out]; omega)
      have c6 := wordsC_cell R2.out 6 (by rw [HS.out]; omega)
      have c7 := wordsC_cell R2.out 7 (by rw [HS.out]; omega)
      rw [E0.out.1] at c0
      rw [E0.out.2.1] at c1
      rw [E0.out.2.2.1] at c2
      rw [E0.out.2.2.2.1] at c3
      rw [E0.out.2.2.2.2.1] at c4
      rw [E0.out.2.2.2.2.2.1] at c5
      rw [E0.out.2.2.2.2.2.2.1] at c6
      rw [E0.out.2.2.2.2.2.2.2] at c7
      go_wp2
      have C0 := Lib.hid (And.intro c0 (And.intro c1 (And.intro c2 (And.intro c3 (And.intro c4 (And.intro c5 (And.intro c6 c7)))))))
      clear c0 c1 c2 c3 c4 c5 c6 c7
      rename World => w8
      go_loopw [10, 11, 12, 13, 14, 15, 16, 17, 18] (fun a b c d e f g h i wx => ∃ (k n : Nat) (s : Eight8), k ≤ 64 ∧ i = .int .i64 k ∧ s = roundsE ws s0 k ∧ a = .int .u32 (s.a.toNat : Int) ∧ b = .int .u32 (s.b.toNat : Int) ∧ c = .int .u32 (s.c.toNat : Int) ∧ d = .int .u32 (s.d.toNat : Int) ∧ e = .int .u32 (s.e.toNat : Int) ∧ f = .int .u32 (s.f.toNat : Int) ∧ g = .int .u32 (s.g.toNat : Int) ∧ h = .int .u32 (s.h.toNat : Int) ∧ wx = w8.drewN n) (fun _ _ _ _ _ _ _ _ i _ => 64 - (intOf i).toNat)
      case atStart => exact ⟨0, 0, s0, by omega, rfl, rfl, rfl, rfl, rfl, rfl, rfl, rfl, rfl, rfl, rfl⟩
      case round =>
        rename_i k0 _ _ _ _
        obtain ⟨k, n, s, hk, rfl, hs, rfl, rfl, rfl, rfl, rfl, rfl, rfl, rfl, hwx⟩ := hrel
        rename World => wx
        have HWX := Lib.hid hwx
        have HSS := Lib.hid hs
        by_cases hlt : k < 64
        · have ck : wx.cell? ⟨g5, k, none⟩ = some (.int .u32 ((cubesW.getD k 0).toNat : Int)) := by rw [hwx]; exact wordsC_cell R5.out k (by rw [cubesW_length]; exact hlt)
          have cw : wx.cell? ⟨g7, k, none⟩ = some (.int .u32 ((ws.getD k 0).toNat : Int)) := by rw [hwx]; exact wordsC_cell R6b.out k (by rw [HW.out]; exact hlt)
          have HSN : Hid (roundsE ws s0 (k + 1) = stepE s (cubesW.getD k 0) (ws.getD k 0)) := by rw [hs]; rfl
          generalize cubesW.getD k 0 = kk at ck HSN
          generalize ws.getD k 0 = ww at cw HSN
          have hq : (k : Int) < 64 := by omega
          have hea := s.a.toNat_lt
          have heb := s.e.toNat_lt
          have hne : IntKind.u32.wrap (4294967295 - (s.e.toNat : Int)) = ((4294967295 - s.e).toNat : Int) := by rw [← not32, IntKind.wrap_u32]; omega
          clear hwx hs
          go_wp2_with fail
          go_quiet (first
            | ((with_reducible refine Calls.quiet_of (turn_any _ s.e 6 (by omega) (by omega))))
            | ((with_reducible refine Calls.quiet_of (turn_any _ s.e 11 (by omega) (by omega))))
            | ((with_reducible refine Calls.quiet_of (turn_any _ s.e 25 (by omega) (by omega)))))
          obtain ⟨t1, ht1⟩ : ∃ t1, s.h + bigS s.e 6 11 25 + ((s.e &&& s.f) ^^^ ((4294967295 - s.e) &&& s.g)) + kk + ww = t1 := ⟨_, rfl⟩
          simp only [and32, xor32, sum5]
          rw [show s.h + (rotr s.e 6 ^^^ rotr s.e 11 ^^^ rotr s.e 25) + ((s.e &&& s.f) ^^^ ((4294967295 - s.e) &&& s.g)) + kk + ww = t1 from ht1]
          have HT1 := Lib.hid ht1
          clear ht1 ck cw heb hne
          go_wp2_with fail
          refine (turn_any _ s.a 2 (by omega) (by omega)).mono ?_
          intro e x h
          obtain ⟨he, m1, hx⟩ := h
          subst he hx
          go_wp2_with fail
          refine (turn_any _ s.a 13 (by omega) (by omega)).mono ?_
          intro e x h
          obtain ⟨he, m2, hx⟩ := h
          subst he hx
          go_wp2_with fail
          refine (turn_any _ s.a 22 (by omega) (by omega)).mono ?_
          intro e x h
          obtain ⟨he, m3, hx⟩ := h
          subst he hx
          go_wp2_with fail
          go_roundw
          case rel =>
            refine ⟨k + 1, n + (nq + m1 + m2 + m3), stepE s kk ww, by omega, by go_num, HSN.out.symm, ?_, rfl, rfl, rfl, ?_, rfl, rfl, rfl, by rw [HWX.out, World.drewN_drewN]⟩
            · show Value.int IntKind.u32 _ = Value.int IntKind.u32 ((tOne s kk ww + tTwo s).toNat : Int)
              rw [show tOne s kk ww = t1 from HT1.out]
              simp only [and32, xor32, tTwo, bigS, UInt32.toNat_add]
              refine congrArg (Value.int IntKind.u32) ?_
              omega
            · show Value.int IntKind.u32 _ = Value.int IntKind.u32 ((s.d + tOne s kk ww).toNat : Int)
              rw [show tOne s kk ww = t1 from HT1.out]
              simp only [UInt32.toNat_add]
              refine congrArg (Value.int IntKind.u32) ?_
              omega
          case measure => simp [intOf]; omega
        · have hk64 : k = 64 := by omega
          rw [hk64] at hs
          have HE : Hid (fin = [s0.a + s.a, s0.b + s.b, s0.c + s.c, s0.d + s.d, s0.e + s.e, s0.f + s.f, s0.g + s.g, s0.h + s.h]) := by
            show _ = _
            rw [HF.out, ← hs]
            have e8 : st = [s0.a, s0.b, s0.c, s0.d, s0.e, s0.f, s0.g, s0.h] := by
              obtain ⟨e0, e1, e2, e3, e4, e5, e6, e7⟩ := E0.out
              rw [← e0, ← e1, ← e2, ← e3, ← e4, ← e5, ← e6, ← e7]
              have h8 := HS.out
              match st, h8 with
              | [_, _, _, _, _, _, _, _], _ => rfl
            rw [e8]
            rfl
          have c0 := C0.out.1
          have c1 := C0.out.2.1
          have c2 := C0.out.2.2.1
          have c3 := C0.out.2.2.2.1
          have c4 := C0.out.2.2.2.2.1
          have c5 := C0.out.2.2.2.2.2.1
          have c6 := C0.out.2.2.2.2.2.2.1
          have c7 := C0.out.2.2.2.2.2.2.2
          have R4x : Hid (RowAt wx g4 23 (wordsC (List.replicate 8 0))) := by rw [hwx]; exact R4.out.drewN n
          have BX : Hid (Below w.heap.size w wx) := by rw [hwx]; exact below_drewN HB.out n
          have hsz : w.heap.size ≤ wx.heap.size := BX.out.size
          clear C0 hk64 hs HSS HF R2 R4 R5 R6b HB
          subst hwx
          have HV : Hid (Value.agg #[.int .u32 (((s0.a.toNat : Int) + (s.a.toNat : Int)) % 4294967296), .int .u32 (((s0.b.toNat : Int) + (s.b.toNat : Int)) % 4294967296), .int .u32 (((s0.c.toNat : Int) + (s.c.toNat : Int)) % 4294967296), .int .u32 (((s0.d.toNat : Int) + (s.d.toNat : Int)) % 4294967296), .int .u32 (((s0.e.toNat : Int) + (s.e.toNat : Int)) % 4294967296), .int .u32 (((s0.f.toNat : Int) + (s.f.toNat : Int)) % 4294967296), .int .u32 (((s0.g.toNat : Int) + (s.g.toNat : Int)) % 4294967296), .int .u32 (((s0.h.toNat : Int) + (s.h.toNat : Int)) % 4294967296)] = .agg (wordsC fin)) := by
            show _ = _
            rw [HE.out]
            simp only [add32m]
            rfl
          clear HE
          go_wp2_with ((with_reducible refine wpList_store_row (o := ⟨none, _, _, _, _, _⟩) rfl 23 (.tmp 4) (.tmp 207) rfl g4 23 _ (wordsC fin) (by with_unfolding_all rfl) (by with_unfolding_all exact HV.out) R4x.out (by rw [wordsC_size, wordsC_size, HFL.out, List.length_replicate]) (Tryd.size8l fin HFL.out) (wordsC_one fin) ?_); intro w9 p9)
          refine bodyPost_ret (results_cell_row rfl _ _ g4 23 (wordsC fin) (0, 0) (.array 8 22) rfl p9.row Tryd.underlying23 rfl (Tryd.size8l fin HFL.out)) rfl ⟨rfl, ?_⟩
          exact p9.below BX.out hsz hg4
end Go.Proofs.YtdojaighchgghaaDoor
