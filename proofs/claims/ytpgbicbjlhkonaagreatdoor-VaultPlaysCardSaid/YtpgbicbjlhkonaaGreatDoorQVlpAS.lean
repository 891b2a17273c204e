/-
  Texts that belong together, merged: VpN, VpO. Conditions: as each theorem names them.
-/
import Derived.Test.YtpgbicbjlhkonaaGreatDoorQVlpAR
import Derived.OwnWalk
section
namespace Go.Proofs.YtpgbicbjlhkonaaGreatDoor
open Go.RowKit
set_option linter.unusedVariables false
set_option maxRecDepth 20000

theorem run_v {P : Program} {w : World} {o : Oper} {a : Act} {v : Value} (h : (execOp a.eval o).run P w = .ok (.value v) w) : (execOp a.eval o).run P w = .ok (.value v) w := h
theorem roomV_in {n : Int} (h1 : 1 ≤ n) (h2 : n ≤ 200) : roomV n = 256 * n := by unfold roomV; rw [if_neg (by omega)]
theorem Tryz.builtState (q : Nat) (A : Option Addr) (n c : Nat) : Tryz.prog.built 89 [(0, .int .u64 (q : Int)), (1, .slice A n c)] = some (stateL q (.slice A n c)) := by kernel_rfl
theorem Tryz.run_buildState {w : World} {o : Oper} {a : Act} (x y : Operand) (ho : o.op = .build 89 #[(0, x), (1, y)]) (q : Nat) (v : Value) {A : Option Addr} {n c : Nat} (hv : v = .slice A n c := by rfl) (hx : a.eval x = .int .u64 (q : Int)) (hy : a.eval y = v) :
    (execOp a.eval o).run Tryz.prog w = .ok (.value (.agg (stateL q v))) w := by
  subst hv
  exact run_builtOp 89 #[(0, x), (1, y)] ho _ (by
    have e : ((#[(0, x), (1, y)] : Array (Nat × Operand)).map fun (i, x) => (i, a.eval x)).toList = [(0, .int .u64 (q : Int)), (1, .slice A n c)] := by simp [hx, hy]
    rw [e]
    exact Tryz.builtState q A n c)
theorem not_two : ¬ VTy 85 := by unfold VTy; decide
section
variable {F : Nat → Prop} {xw w : World} {gm g M : Nat} {d : Dev}
set_option maxHeartbeats 8000000 in
theorem save_any (h : VS F xw gm g M d w) (hM : M ≤ 900000000) (hp : d.pend.length ≤ 400000) (at_ n : Int) (vb : Value) (b : List UInt8) (hb : Stay F xw gm g w vb b) :
    Calls Tryz.prog 10 #[.pointer (some ⟨gm, 0, none⟩), .pointer (some ⟨g, 0, none⟩), .int .i64 at_, .int .i64 n, vb] w fun e z => e = .returned (.int .i64 (saveF hdV d at_ n b).1) ∧ VS F xw gm g (M + 3) (saveF hdV d at_ n b).2 z ∧ Lk w z := by
  have HSL : Hid (∀ y, VS F xw gm g M d y → Calls Tryz.prog 30 #[.pointer (some ⟨g, 0, none⟩), .int .i64 at_, .int .i64 n] y fun e z => e = .returned (.tuple #[.agg (if rightV d.now.length at_ n = 0 then twoL g at_.toNat n.toNat else zeroTwo), .int .i64 (rightV d.now.length at_ n)]) ∧ Below y.heap.size y z) := fun y h => slots_any h at_ n
  have HH := Lib.hid h
  have HB := Lib.hid hb
  have hmost := h.ok.most
  obtain ⟨VA, vc, rfl, hc1, hc2, _⟩ := hb w M d h (Lk.refl _)
  unfold maxLen at hc2
  clear h hb
  by_cases hr : rightV d.now.length at_ n = 0
  · obtain ⟨A, N, rfl, rfl, hN1, hN2, hlen⟩ := right_nats hr
    have HSF : Hid (saveF hdV d (A : Int) (N : Int) b = saveR hdV d A N b) := by show _ = _; unfold saveF; rw [if_pos hr]; rfl
    rw [hr, if_pos rfl] at HSL
    simp only [Int.toNat_natCast] at HSL
    rw [HSF.out]
    have HRM := Lib.hid (fun y => room_any y (N : Int))
    rw [roomV_in (by omega) (by omega)] at HRM
    clear hr HSF
    by_cases hbl : 256 * N < b.length
    · have e : Hid (saveR hdV d A N b = (2, d)) := by show _ = _; unfold saveR; rw [if_pos hbl]
      rw [e.out]
      have hd1 : decide (256 * (N : Int) < (b.length : Int)) = true := by simp; omega
      go_enter Tryz.func10, Tryz.ntmps10
      go_wp2_with fail
      obtain ⟨w2, hw2⟩ : ∃ w2, w2 = (w.alloc (.cells #[.pointer (some ⟨gm, 0, none⟩)] 31)).alloc (.cells #[.pointer (some ⟨g, 0, none⟩)] 24) := ⟨_, rfl⟩
      obtain ⟨g6, hg6⟩ : ∃ g6, g6 = w.heap.size + 1 := ⟨_, rfl⟩
      obtain ⟨g5, hg5⟩ : ∃ g5, g5 = w.heap.size := ⟨_, rfl⟩
      have P5 : Hid (Boxed w2 g5 31 (.pointer (some ⟨gm, 0, none⟩))) := by show Boxed _ _ _ _; rw [hw2, hg5]; exact (Boxed.new w _ _).alloc _
      have P6 : Hid (Boxed w2 g6 24 (.pointer (some ⟨g, 0, none⟩))) := by
        show Boxed _ _ _ _
        rw [hw2, hg6]
        have := Boxed.new (w.alloc (.cells #[.pointer (some ⟨gm, 0, none⟩)] 31)) 24 (.pointer (some ⟨g, 0, none⟩))
        rw [World.size_alloc] at this
        exact this
      have B2 : Hid (Below w.heap.size w w2) := by show Below _ _ _; rw [hw2]; exact below_size (alloc_below _ _) (alloc_below _ _)
      rw [← hw2, ← hg6, ← hg5]
      clear hw2 hg6 hg5
      refine (HSL.out w2 (HH.out.kept B2.out)).mono ?_
      rintro e w3 ⟨rfl, b3⟩
      have B3 := Lib.hid (below_size B2.out b3)
      have P53 := Lib.hid (boxed_below P5.out b3)
      have P63 := Lib.hid (boxed_below P6.out b3)
      clear b3 B2 P5 P6 HSL
      go_wp2_with (first | ((with_reducible refine wpList_alloc_row (o := ⟨some 11, _, _, _, _, _⟩) rfl 85 rfl zeroTwo Tryz.zeroTwo_ ?_); intro g11 wa na; have NA := Lib.hid na; clear na) | ((with_reducible refine wpList_store_row (o := ⟨none, _, _, _, _, _⟩) rfl 85 (.tmp 11) (.tmp 23) rfl g11 85 zeroTwo (twoL g A N) (by with_unfolding_all rfl) (by with_unfolding_all rfl) NA.out.row rfl (by with_unfolding_all exact Tryz.sizeTwo) (by with_unfolding_all first | exact twoL_one g A N | exact zeroTwo_one) ?_); intro w4 p4; have V4 := Lib.hid (HH.out.kept (below_size B3.out (laid_put NA.out p4).1)); have L4 := Lib.hid (Lk.of_below (below_size B3.out (laid_put NA.out p4).1)); have P54 := Lib.hid (boxed_below P53.out (laid_put NA.out p4).1); have P64 := Lib.hid (boxed_below P63.out (laid_put NA.out p4).1); have R11 := Lib.hid p4.row; clear p4 NA B3 P53 P63))
      refine (HRM.out _).mono ?_
      rintro e w5 ⟨rfl, b5⟩
      have V5 := Lib.hid (V4.out.kept b5)
      have L5 := Lib.hid (L4.out.kept b5)
      clear b5 V4 L4
      go_wp2
      go_ret
      exact ⟨rfl, V5.out.more (by omega), L5.out⟩
    · have HSR : Hid (saveR hdV d A N b = if (bestV d.now A N hdV).2.2 = 18446744073709551615 then (63, d) else d.run (saveV A N (bestV d.now A N hdV).1 (bestV d.now A N hdV).2.2 b hdV)) := by show _ = _; unfold saveR; rw [if_neg hbl]
      have hd1 : decide (256 * (N : Int) < (b.length : Int)) = false := by simp; omega
      have hd1' : ¬ (256 * (N : Int) < (b.length : Int)) := by omega
      have HNW : Hid (∀ y, VS F xw gm g M d y → Calls Tryz.prog 31 #[.pointer (some ⟨gm, 0, none⟩), .agg (twoL g A N)] y fun e z => ∃ v, e = .returned (.tuple #[.int .i64 ((bestV d.now A N hdV).1 : Int), .agg (stateL (bestV d.now A N hdV).2.2 v)]) ∧ Bs z v (bestV d.now A N hdV).2.1 ∧ U8At z v ∧ VS F xw gm g (M + 2) d z ∧ Lk y z) := fun y h => newest_any h hM A N hN1 hN2 hlen
      have hs1 := bestV_le d.now A N hdV
      have hq1 := bestV_u64 d.now A N hdV
      generalize bestV d.now A N hdV = BV at HSR HNW hs1 hq1
      obtain ⟨s, bb, q⟩ := BV
      simp only at HSR HNW hs1 hq1
      generalize saveR hdV d A N b = SR at HSR ⊢
      go_enter Tryz.func10, Tryz.ntmps10
      go_wp2_with fail
      obtain ⟨w2, hw2⟩ : ∃ w2, w2 = (w.alloc (.cells #[.pointer (some ⟨gm, 0, none⟩)] 31)).alloc (.cells #[.pointer (some ⟨g, 0, none⟩)] 24) := ⟨_, rfl⟩
      obtain ⟨g6, hg6⟩ : ∃ g6, g6 = w.heap.size + 1 := ⟨_, rfl⟩
      obtain ⟨g5, hg5⟩ : ∃ g5, g5 = w.heap.size := ⟨_, rfl⟩
      have P5 : Hid (Boxed w2 g5 31 (.pointer (some ⟨gm, 0, none⟩))) := by show Boxed _ _ _ _; rw [hw2, hg5]; exact (Boxed.new w _ _).alloc _
      have P6 : Hid (Boxed w2 g6 24 (.pointer (some ⟨g, 0, none⟩))) := by
        show Boxed _ _ _ _
        rw [hw2, hg6]
        have := Boxed.new (w.alloc (.cells #[.pointer (some ⟨gm, 0, none⟩)] 31)) 24 (.pointer (some ⟨g, 0, none⟩))
        rw [World.size_alloc] at this
        exact this
      have B2 : Hid (Below w.heap.size w w2) := by show Below _ _ _; rw [hw2]; exact below_size (alloc_below _ _) (alloc_below _ _)
      rw [← hw2, ← hg6, ← hg5]
      clear hw2 hg6 hg5
      refine (HSL.out w2 (HH.out.kept B2.out)).mono ?_
      rintro e w3 ⟨rfl, b3⟩
      have B3 := Lib.hid (below_size B2.out b3)
      have P53 := Lib.hid (boxed_below P5.out b3)
      have P63 := Lib.hid (boxed_below P6.out b3)
      clear b3 B2 P5 P6 HSL
      go_wp2_with (first | ((with_reducible refine wpList_alloc_row (o := ⟨some 11, _, _, _, _, _⟩) rfl 85 rfl zeroTwo Tryz.zeroTwo_ ?_); intro g11 wa na; have NA := Lib.hid na; clear na) | ((with_reducible refine wpList_store_row (o := ⟨none, _, _, _, _, _⟩) rfl 85 (.tmp 11) (.tmp 23) rfl g11 85 zeroTwo (twoL g A N) (by with_unfolding_all rfl) (by with_unfolding_all rfl) NA.out.row rfl (by with_unfolding_all exact Tryz.sizeTwo) (by with_unfolding_all first | exact twoL_one g A N | exact zeroTwo_one) ?_); intro w4 p4; have V4 := Lib.hid (HH.out.kept (below_size B3.out (laid_put NA.out p4).1)); have L4 := Lib.hid (Lk.of_below (below_size B3.out (laid_put NA.out p4).1)); have P54 := Lib.hid (boxed_below P53.out (laid_put NA.out p4).1); have P64 := Lib.hid (boxed_below P63.out (laid_put NA.out p4).1); have R11 := Lib.hid p4.row; clear p4 NA B3 P53 P63))
      refine (HRM.out _).mono ?_
      rintro e w5 ⟨rfl, b5⟩
      have V5 := Lib.hid (V4.out.kept b5)
      have L5 := Lib.hid (L4.out.kept b5)
      have P55 := Lib.hid (boxed_below P54.out b5)
      have P65 := Lib.hid (boxed_below P64.out b5)
      have R15 := Lib.hid (R11.out.kept b5)
      have c5 : w5.cell? ⟨g5, 0, none⟩ = some (.pointer (some ⟨gm, 0, none⟩)) := P55.out.cell
      clear b5 V4 L4 P54 P64 R11 HRM
      go_wp2_with (with_reducible refine wpList_load_row (o := ⟨some 35, _, _, _, _, _⟩) rfl 85 (.tmp 11) rfl g11 (by with_unfolding_all rfl) 85 (twoL g A N) (0, 0) _ (by with_unfolding_all exact R15.out) Tryz.underlying85 rfl (Tryz.sizeTwoL g A N) ?_)
      refine (HNW.out w5 V5.out).mono ?_
      rintro e w6 ⟨v6, rfl, s6, u6, x6, l6⟩
      obtain ⟨V6A, V6c, rfl, _⟩ := s6.shape2
      have X6 := Lib.hid x6
      have L6 := Lib.hid (L5.out.trans l6)
      have P56 := Lib.hid (l6.box P55.out not_metp)
      have P66 := Lib.hid (l6.box P65.out not_devp)
      have R16 := Lib.hid (l6.row R15.out not_two)
      clear s6 u6 x6 l6 V5 L5 P55 P65 R15 c5 HNW
      by_cases hq : q = 18446744073709551615
      · have e : Hid (SR = (63, d)) := by show _ = _; rw [HSR.out, if_pos hq]
        have hq' : (q : Int) = 18446744073709551615 := by omega
        have hqd : decide ((q : Int) = 18446744073709551615) = true := decide_eq_true hq'
        subst hq
        go_wp2_with (first | ((with_reducible refine wpList_alloc_row (o := ⟨some 14, _, _, _, _, _⟩) rfl 89 rfl (stateL 0 (.slice none 0 0)) Tryz.zeroState ?_); intro g14 wa na; have NA := Lib.hid na; clear na) | ((with_reducible refine wpList_store_row (o := ⟨none, _, _, _, _, _⟩) rfl 89 (.tmp 14) (.tmp 38) rfl g14 89 (stateL 0 (.slice none 0 0)) (stateL 18446744073709551615 (.slice V6A bb.length V6c)) (by with_unfolding_all rfl) (by with_unfolding_all rfl) NA.out.row rfl (Tryz.sizeState _ _) (stateL_one 18446744073709551615 _ V6A bb.length V6c rfl) ?_); intro w7 p7; have B7 := Lib.hid (laid_put NA.out p7).1; have R147 := Lib.hid p7.row; have c7 : w7.cell? ⟨g14, 0, none⟩ = some (.int .u64 ((18446744073709551615 : Nat) : Int)) := p7.row.cell 0; clear p7 NA))
        go_ret
        rw [e.out]
        exact ⟨rfl, (X6.out.kept B7.out).more (by omega), L6.out.kept B7.out⟩
      · have e : Hid (SR = d.run (saveV A N s q b hdV)) := by show _ = _; rw [HSR.out, if_neg hq]
        have hqd : decide ((q : Int) = 18446744073709551615) = false := decide_eq_false (by omega)
        have hqd' : ¬ ((q : Int) = 18446744073709551615) := by omega
        obtain ⟨to, hto⟩ : ∃ to, to = 1 - s := ⟨_, rfl⟩
        have HTO := Lib.hid hto
        have hto1 : to ≤ 1 := by omega
        have hwt : IntKind.i64.wrap (1 - (s : Int)) = (to : Int) := by rw [IntWalk.i64_in _ (by omega)]; omega
        have hwq : IntKind.u64.wrap ((q : Int) + 1) = ((q + 1 : Nat) : Int) := by rw [IntKind.wrap_u64]; omega
        clear hto hq
        go_wp2_with (first | ((with_reducible refine wpList_alloc_row (o := ⟨some 14, _, _, _, _, _⟩) rfl 89 rfl (stateL 0 (.slice none 0 0)) Tryz.zeroState ?_); intro g14 wa na; have NA := Lib.hid na; clear na) | ((with_reducible refine wpList_store_row (o := ⟨none, _, _, _, _, _⟩) rfl 89 (.tmp 14) (.tmp 38) rfl g14 89 (stateL 0 (.slice none 0 0)) (stateL q (.slice V6A bb.length V6c)) (by with_unfolding_all rfl) (by with_unfolding_all rfl) NA.out.row rfl (Tryz.sizeState _ _) (stateL_one q _ V6A bb.length V6c rfl) ?_); intro w7 p7; have B7 := Lib.hid (laid_put NA.out p7).1; have R147 := Lib.hid p7.row; have c7 : w7.cell? ⟨g14, 0, none⟩ = some (.int .u64 (q : Int)) := p7.row.cell 0; clear p7 NA))
        have X7 := Lib.hid (X6.out.kept B7.out)
        have L7 := Lib.hid (L6.out.kept B7.out)
        have P57 := Lib.hid (boxed_below P56.out B7.out)
        have P67 := Lib.hid (boxed_below P66.out B7.out)
        have R117 := Lib.hid (R16.out.kept B7.out)
        clear X6 L6 P56 P66 R16 B7 c7 HSR
        refine region_state (N := 61) (Env.start w7) (by kernel_rfl) [(0, .int .i64 (s : Int)), (1, .pointer (some ⟨g11, s * 3, none⟩)), (2, .agg (slotAt g A N s)), (3, .int .i64 (s : Int)), (4, .int .i64 (to : Int)), (5, .pointer (some ⟨g11, to * 3, none⟩)), (6, .agg (slotAt g A N to)), (7, .pointer (some ⟨g14, 0, none⟩)), (8, .int .u64 (q : Int)), (9, .int .u64 ((q + 1 : Nat) : Int)), (10, .slice VA b.length vc), (11, .agg (stateL (q + 1) (.slice VA b.length vc)))] [⟨12, 15, 84, zeroSlot, slotAt g A N s⟩, ⟨13, 16, 84, zeroSlot, slotAt g A N to⟩, ⟨14, 17, 89, stateL 0 (.slice none 0 0), stateL (q + 1) (.slice VA b.length vc)⟩] [42, 43, 44, 45, 46, 47, 48, 49, 50, 51, 52, 53, 15, 16, 17] (by kernel_rfl) (by kernel_rfl) (by rfl) ⟨?_, ?_, ?_, ?_, ?_, ?_, ?_, ?_, ?_, ?_, ?_, ?_, trivial⟩ ⟨?_, ?_, ?_, trivial⟩ ?_
        · refine valE_run 0 _ (fun o ho ac wc h1 h2 hE => ?_)
          obtain rfl := Option.some.inj ho
          have e13 : ac.tmps.getD 13 undef = .int .i64 (s : Int) := h2 13 (by kernel_rfl)
          (unfold execOp; simp only [Act.eval]; go_simp)
        · refine valE_run 1 _ (fun o ho ac wc h1 h2 hE => ?_)
          obtain rfl := Option.some.inj ho
          have e11 : ac.tmps.getD 11 undef = .pointer (some ⟨g11, 0, none⟩) := h2 11 (by kernel_rfl)
          have e42 : ac.tmps.getD 42 undef = .int .i64 (s : Int) := h1 0 _ rfl (by kernel_rfl) 42 rfl
          exact run_idxArr 3 85 84 (.tmp 11) (.tmp 42) rfl g11 2 s e11 e42 (by omega) Tryz.underlying85 (Tryz.sizeSlot g A N)
        · refine valE_run 2 _ (fun o ho ac wc h1 h2 hE => ?_)
          obtain rfl := Option.some.inj ho
          have e43 : ac.tmps.getD 43 undef = .pointer (some ⟨g11, s * 3, none⟩) := h1 1 _ rfl (by kernel_rfl) 43 rfl
          exact Tryz.run_loadTwo (.tmp 43) rfl g11 g A N s hs1 e43 (R117.out.kept hE.below)
        · refine valE_run 3 _ (fun o ho ac wc h1 h2 hE => ?_)
          obtain rfl := Option.some.inj ho
          have e13 : ac.tmps.getD 13 undef = .int .i64 (s : Int) := h2 13 (by kernel_rfl)
          (unfold execOp; simp only [Act.eval]; go_simp)
        · refine valE_run 4 _ (fun o ho ac wc h1 h2 hE => ?_)
          obtain rfl := Option.some.inj ho
          have e45 : ac.tmps.getD 45 undef = .int .i64 (s : Int) := h1 3 _ rfl (by kernel_rfl) 45 rfl
          (unfold execOp; simp only [Act.eval]; go_simp)
        · refine valE_run 5 _ (fun o ho ac wc h1 h2 hE => ?_)
          obtain rfl := Option.some.inj ho
          have e11 : ac.tmps.getD 11 undef = .pointer (some ⟨g11, 0, none⟩) := h2 11 (by kernel_rfl)
          have e46 : ac.tmps.getD 46 undef = .int .i64 (to : Int) := h1 4 _ rfl (by kernel_rfl) 46 rfl
          exact run_idxArr 3 85 84 (.tmp 11) (.tmp 46) rfl g11 2 to e11 e46 (by omega) Tryz.underlying85 (Tryz.sizeSlot g A N)
        · refine valE_run 6 _ (fun o ho ac wc h1 h2 hE => ?_)
          obtain rfl := Option.some.inj ho
          have e47 : ac.tmps.getD 47 undef = .pointer (some ⟨g11, to * 3, none⟩) := h1 5 _ rfl (by kernel_rfl) 47 rfl
          exact Tryz.run_loadTwo (.tmp 47) rfl g11 g A N to (by omega) e47 (R117.out.kept hE.below)
        · refine valE_run 7 _ (fun o ho ac wc h1 h2 hE => ?_)
          obtain rfl := Option.some.inj ho
          have e14 : ac.tmps.getD 14 undef = .pointer (some ⟨g14, 0, none⟩) := h2 14 (by kernel_rfl)
          (unfold execOp; simp only [Act.eval]; go_simp)
        · refine valE_run 8 _ (fun o ho ac wc h1 h2 hE => ?_)
          obtain rfl := Option.some.inj ho
          have e49 : ac.tmps.getD 49 undef = .pointer (some ⟨g14, 0, none⟩) := h1 7 _ rfl (by kernel_rfl) 49 rfl
          have cc : wc.cell? ⟨g14, 0, none⟩ = some (.int .u64 (q : Int)) := (R147.out.kept hE.below).cell 0
          (unfold execOp; simp only [Act.eval]; go_simp)
        · refine valE_run 9 _ (fun o ho ac wc h1 h2 hE => ?_)
          obtain rfl := Option.some.inj ho
          have e50 : ac.tmps.getD 50 undef = .int .u64 (q : Int) := h1 8 _ rfl (by kernel_rfl) 50 rfl
          (unfold execOp; simp only [Act.eval]; go_simp)
        · refine valE_run 10 _ (fun o ho ac wc h1 h2 hE => ?_)
          obtain rfl := Option.some.inj ho
          have e4 : ac.tmps.getD 4 undef = .slice VA b.length vc := h2 4 (by kernel_rfl)
          (unfold execOp; simp only [Act.eval]; go_simp)
        · refine valE_run 11 _ (fun o ho ac wc h1 h2 hE => ?_)
          obtain rfl := Option.some.inj ho
          have e51 : ac.tmps.getD 51 undef = .int .u64 ((q + 1 : Nat) : Int) := h1 9 _ rfl (by kernel_rfl) 51 rfl
          have e52 : ac.tmps.getD 52 undef = .slice VA b.length vc := h1 10 _ rfl (by kernel_rfl) 52 rfl
          exact Tryz.run_buildState (.tmp 51) (.tmp 52) rfl (q + 1) (.slice VA b.length vc) rfl e51 e52
        · exact ⟨⟨_, rfl, rfl, Tryz.zeroSlot_⟩, _, 15, 44, 2, rfl, rfl, by kernel_rfl, by kernel_rfl, rfl, Tryz.sizeSlot _ _ _, slotL_one _ _ _, by kernel_rfl, rfl⟩
        · exact ⟨⟨_, rfl, rfl, Tryz.zeroSlot_⟩, _, 16, 48, 6, rfl, rfl, by kernel_rfl, by kernel_rfl, rfl, Tryz.sizeSlot _ _ _, slotL_one _ _ _, by kernel_rfl, rfl⟩
        · exact ⟨⟨_, rfl, rfl, Tryz.zeroState⟩, _, 17, 53, 11, rfl, rfl, by kernel_rfl, by kernel_rfl, rfl, Tryz.sizeState _ _, stateL_one _ _ VA b.length vc rfl, by kernel_rfl, rfl⟩
        intro G w8 T8
        obtain ⟨g15, hg15⟩ : ∃ g, g = G 12 := ⟨_, rfl⟩
        obtain ⟨g16, hg16⟩ : ∃ g, g = G 13 := ⟨_, rfl⟩
        obtain ⟨g17, hg17⟩ : ∃ g, g = G 14 := ⟨_, rfl⟩
        simp only [List.map_cons, List.map_nil, List.cons_append, List.nil_append, ← hg15, ← hg16, ← hg17] at T8
        simp only [List.map_cons, List.map_nil, List.cons_append, List.nil_append, List.zip_cons_cons, List.zip_nil_right, putAll, ptrE, Act.put, List.setIfInBounds_toArray, List.set_cons_zero, List.set_cons_succ, ← hg15, ← hg16, ← hg17]
        have R15 := Lib.hid (T8.row 0 rfl)
        have R16 := Lib.hid (T8.row 1 rfl)
        have R17 := Lib.hid (T8.row 2 rfl)
        have b8 := T8.below
        have X8 := Lib.hid (X7.out.kept b8)
        have L8 := Lib.hid (L7.out.kept b8)
        have P58 := Lib.hid (boxed_below P57.out b8)
        have P68 := Lib.hid (boxed_below P67.out b8)
        clear T8 b8 X7 L7 P57 P67 R117 R147 hg15 hg16 hg17 G
        go_wp2_with fail
        have b9 := alloc_below w8 (.cells (clos g5 g6 g15 g16 g17).toArray 94)
        have RL : RowAt (w8.alloc (.cells (clos g5 g6 g15 g16 g17).toArray 94)) w8.heap.size 94 (clos g5 g6 g15 g16 g17).toArray := RowAt.new w8 _ _
        have r15 := R15.out.kept b9
        have r16 := R16.out.kept b9
        have r17 := R17.out.kept b9
        have L9 := Lib.hid (L8.out.kept b9)
        rw [HTO.out] at r16
        have HT := Lib.hid (saveTurn_any (X8.out.kept b9) (by omega) hp A N s q hN2 (by omega) hs1 (by omega) (.slice VA b.length vc) b (HB.out.later L9.out) (by omega) _ g5 g6 g15 g16 g17 RL (boxed_below P58.out b9) (boxed_below P68.out b9) r15 r16 r17)
        clear b9 RL r15 r16 r17 X8 L8 R15 R16 R17 P58 P68
        refine HT.out.mono ?_
        rintro e' w10 ⟨rfl, v10, l10⟩
        have V10 := Lib.hid v10
        have L10 := Lib.hid (L9.out.trans l10)
        clear v10 l10 HT L9
        go_wp2
        go_ret
        rw [e.out]
        exact ⟨rfl, V10.out, L10.out⟩
  · have e : Hid (saveF hdV d at_ n b = (rightV d.now.length at_ n, d)) := by show _ = _; unfold saveF; rw [if_neg hr]
    rw [e.out]
    rw [if_neg hr] at HSL
    generalize rightV d.now.length at_ n = r at *
    have hd1 : decide (r = 0) = false := decide_eq_false hr
    have hd2 : (r != 0) = true := by simp [hr]
    go_enter Tryz.func10, Tryz.ntmps10
    go_wp2_with fail
    obtain ⟨w2, hw2⟩ : ∃ w2, w2 = (w.alloc (.cells #[.pointer (some ⟨gm, 0, none⟩)] 31)).alloc (.cells #[.pointer (some ⟨g, 0, none⟩)] 24) := ⟨_, rfl⟩
    obtain ⟨g6, hg6⟩ : ∃ g6, g6 = w.heap.size + 1 := ⟨_, rfl⟩
    obtain ⟨g5, hg5⟩ : ∃ g5, g5 = w.heap.size := ⟨_, rfl⟩
    have P5 : Hid (Boxed w2 g5 31 (.pointer (some ⟨gm, 0, none⟩))) := by show Boxed _ _ _ _; rw [hw2, hg5]; exact (Boxed.new w _ _).alloc _
    have P6 : Hid (Boxed w2 g6 24 (.pointer (some ⟨g, 0, none⟩))) := by
      show Boxed _ _ _ _
      rw [hw2, hg6]
      have := Boxed.new (w.alloc (.cells #[.pointer (some ⟨gm, 0, none⟩)] 31)) 24 (.pointer (some ⟨g, 0, none⟩))
      rw [World.size_alloc] at this
      exact this
    have B2 : Hid (Below w.heap.size w w2) := by show Below _ _ _; rw [hw2]; exact below_size (alloc_below _ _) (alloc_below _ _)
    rw [← hw2, ← hg6, ← hg5]
    clear hw2 hg6 hg5
    refine (HSL.out w2 (HH.out.kept B2.out)).mono ?_
    rintro e w3 ⟨rfl, b3⟩
    have B3 := Lib.hid (below_size B2.out b3)
    have P53 := Lib.hid (boxed_below P5.out b3)
    have P63 := Lib.hid (boxed_below P6.out b3)
    clear b3 B2 P5 P6 HSL
    go_wp2_with (first | ((with_reducible refine wpList_alloc_row (o := ⟨some 11, _, _, _, _, _⟩) rfl 85 rfl zeroTwo Tryz.zeroTwo_ ?_); intro g11 wa na; have NA := Lib.hid na; clear na) | ((with_reducible refine wpList_store_row (o := ⟨none, _, _, _, _, _⟩) rfl 85 (.tmp 11) (.tmp 23) rfl g11 85 zeroTwo zeroTwo (by with_unfolding_all rfl) (by with_unfolding_all rfl) NA.out.row rfl (by with_unfolding_all exact Tryz.sizeTwo) (by with_unfolding_all first | exact twoL_one g A N | exact zeroTwo_one) ?_); intro w4 p4; have V4 := Lib.hid (HH.out.kept (below_size B3.out (laid_put NA.out p4).1)); have L4 := Lib.hid (Lk.of_below (below_size B3.out (laid_put NA.out p4).1)); have P54 := Lib.hid (boxed_below P53.out (laid_put NA.out p4).1); have P64 := Lib.hid (boxed_below P63.out (laid_put NA.out p4).1); have R11 := Lib.hid p4.row; clear p4 NA B3 P53 P63))
    go_ret
    exact ⟨rfl, V4.out.more (by omega), L4.out⟩
end
end Go.Proofs.YtpgbicbjlhkonaaGreatDoor
end
section
namespace Go.Proofs.YtpgbicbjlhkonaaGreatDoor
open Go.RowKit
set_option linter.unusedVariables false
set_option maxRecDepth 20000

section
variable {F : Nat → Prop} {xw w : World} {gm g M : Nat} {d : Dev}
set_option maxHeartbeats 4000000 in
theorem vload_any (h : VS F xw gm g M d w) (hM : M ≤ 900000000) (at_ n : Int) :
    Calls Tryz.prog 22 #[.pointer (some ⟨gm, 0, none⟩), .pointer (some ⟨g, 0, none⟩), .int .i64 at_, .int .i64 n] w fun e z => ∃ v, e = .returned (.tuple #[v, .int .u64 ((loadF hdV d at_ n).2.1 : Int), .int .i64 (loadF hdV d at_ n).2.2]) ∧ Bs z v (loadF hdV d at_ n).1 ∧ U8At z v ∧ VS F xw gm g (M + 2) d z ∧ Lk w z := by
  have HSL : Hid (∀ y, VS F xw gm g M d y → Calls Tryz.prog 30 #[.pointer (some ⟨g, 0, none⟩), .int .i64 at_, .int .i64 n] y fun e z => e = .returned (.tuple #[.agg (if rightV d.now.length at_ n = 0 then twoL g at_.toNat n.toNat else zeroTwo), .int .i64 (rightV d.now.length at_ n)]) ∧ Below y.heap.size y z) := fun y h => slots_any h at_ n
  have HH := Lib.hid h
  have hmost := h.ok.most
  have hok := h.ok
  clear h hok
  by_cases hr : rightV d.now.length at_ n = 0
  · obtain ⟨A, N, rfl, rfl, hN1, hN2, hlen⟩ := right_nats hr
    rw [hr, if_pos rfl] at HSL
    simp only [Int.toNat_natCast] at HSL
    have HLF : Hid (loadF hdV d (A : Int) (N : Int) = if (bestV d.now A N hdV).2.2 = 0 then ([], 0, 62) else ((bestV d.now A N hdV).2.1, (bestV d.now A N hdV).2.2, 0)) := by show _ = _; unfold loadF; rw [if_pos hr]; rfl
    have HNW : Hid (∀ y, VS F xw gm g M d y → Calls Tryz.prog 31 #[.pointer (some ⟨gm, 0, none⟩), .agg (twoL g A N)] y fun e z => ∃ v, e = .returned (.tuple #[.int .i64 ((bestV d.now A N hdV).1 : Int), .agg (stateL (bestV d.now A N hdV).2.2 v)]) ∧ Bs z v (bestV d.now A N hdV).2.1 ∧ U8At z v ∧ VS F xw gm g (M + 2) d z ∧ Lk y z) := fun y h => newest_any h hM A N hN1 hN2 hlen
    have hs1 := bestV_le d.now A N hdV
    have hq1 := bestV_u64 d.now A N hdV
    generalize bestV d.now A N hdV = BV at HLF HNW hs1 hq1
    obtain ⟨s, bb, q⟩ := BV
    simp only at HLF HNW hs1 hq1
    generalize loadF hdV d (A : Int) (N : Int) = LF at HLF ⊢
    clear hr
    by_cases hq : q = 0
    · have e : Hid (LF = ([], 0, 62)) := by show _ = _; rw [HLF.out, if_pos hq]
      subst hq
      go_enter Tryz.func22, Tryz.ntmps22
      go_wp2_with fail
      refine (HSL.out w HH.out).mono ?_
      rintro e w3 ⟨rfl, b3⟩
      have B3 := Lib.hid b3
      clear b3 HSL
      go_wp2_with (first | ((with_reducible refine wpList_alloc_row (o := ⟨some 11, _, _, _, _, _⟩) rfl 85 rfl zeroTwo Tryz.zeroTwo_ ?_); intro g11 wa na; have NA := Lib.hid na; clear na) | ((with_reducible refine wpList_store_row (o := ⟨none, _, _, _, _, _⟩) rfl 85 (.tmp 11) (.tmp 19) rfl g11 85 zeroTwo (twoL g A N) (by with_unfolding_all rfl) (by with_unfolding_all rfl) NA.out.row rfl (by with_unfolding_all exact Tryz.sizeTwo) (by with_unfolding_all first | exact twoL_one g A N | exact zeroTwo_one) ?_); intro w4 p4; have V4 := Lib.hid (HH.out.kept (below_size B3.out (laid_put NA.out p4).1)); have L4 := Lib.hid (Lk.of_below (below_size B3.out (laid_put NA.out p4).1)); have R11 := Lib.hid p4.row; clear p4 NA B3) | (with_reducible refine wpList_load_row (o := ⟨some 26, _, _, _, _, _⟩) rfl 85 (.tmp 11) rfl g11 (by with_unfolding_all rfl) 85 (twoL g A N) (0, 0) _ (by with_unfolding_all exact R11.out) Tryz.underlying85 rfl (Tryz.sizeTwoL g A N) ?_))
      refine (HNW.out w4 V4.out).mono ?_
      rintro e w6 ⟨v6, rfl, s6, u6, x6, l6⟩
      obtain ⟨V6A, V6c, rfl, _⟩ := s6.shape2
      have S6 := Lib.hid s6
      have U6 := Lib.hid u6
      have X6 := Lib.hid x6
      have L6 := Lib.hid (L4.out.trans l6)
      have R16 := Lib.hid (l6.row R11.out not_two)
      clear s6 u6 x6 l6 V4 L4 R11 HNW
      go_wp2_with (first | ((with_reducible refine wpList_alloc_row (o := ⟨some 13, _, _, _, _, _⟩) rfl 89 rfl (stateL 0 (.slice none 0 0)) Tryz.zeroState ?_); intro g14 wa na; have NA := Lib.hid na; clear na) | ((with_reducible refine wpList_store_row (o := ⟨none, _, _, _, _, _⟩) rfl 89 (.tmp 13) (.tmp 29) rfl g14 89 (stateL 0 (.slice none 0 0)) (stateL 0 (.slice V6A bb.length V6c)) (by with_unfolding_all rfl) (by with_unfolding_all rfl) NA.out.row rfl (Tryz.sizeState _ _) (stateL_one 0 _ V6A bb.length V6c rfl) ?_); intro w7 p7; have B7 := Lib.hid (laid_put NA.out p7).1; have R147 := Lib.hid p7.row; have c7 : w7.cell? ⟨g14, 0, none⟩ = some (.int .u64 ((0 : Nat) : Int)) := p7.row.cell 0; clear p7 NA))
      try simp only [Exit.inBlock, Exit.then]
      refine bodyPost_ret (results_tmp3 rfl _ _ _) rfl ?_
      rw [e.out]
      exact ⟨_, rfl, Bs.nil _, U8At.nil _ _ _, X6.out.kept B7.out, L6.out.kept B7.out⟩
    · have e : Hid (LF = (bb, q, 0)) := by show _ = _; rw [HLF.out, if_neg hq]
      have hqd : decide ((q : Int) = 0) = false := decide_eq_false (by omega)
      have hqd' : ¬ ((q : Int) = 0) := by omega
      go_enter Tryz.func22, Tryz.ntmps22
      go_wp2_with fail
      refine (HSL.out w HH.out).mono ?_
      rintro e w3 ⟨rfl, b3⟩
      have B3 := Lib.hid b3
      clear b3 HSL
      go_wp2_with (first | ((with_reducible refine wpList_alloc_row (o := ⟨some 11, _, _, _, _, _⟩) rfl 85 rfl zeroTwo Tryz.zeroTwo_ ?_); intro g11 wa na; have NA := Lib.hid na; clear na) | ((with_reducible refine wpList_store_row (o := ⟨none, _, _, _, _, _⟩) rfl 85 (.tmp 11) (.tmp 19) rfl g11 85 zeroTwo (twoL g A N) (by with_unfolding_all rfl) (by with_unfolding_all rfl) NA.out.row rfl (by with_unfolding_all exact Tryz.sizeTwo) (by with_unfolding_all first | exact twoL_one g A N | exact zeroTwo_one) ?_); intro w4 p4; have V4 := Lib.hid (HH.out.kept (below_size B3.out (laid_put NA.out p4).1)); have L4 := Lib.hid (Lk.of_below (below_size B3.out (laid_put NA.out p4).1)); have R11 := Lib.hid p4.row; clear p4 NA B3) | (with_reducible refine wpList_load_row (o := ⟨some 26, _, _, _, _, _⟩) rfl 85 (.tmp 11) rfl g11 (by with_unfolding_all rfl) 85 (twoL g A N) (0, 0) _ (by with_unfolding_all exact R11.out) Tryz.underlying85 rfl (Tryz.sizeTwoL g A N) ?_))
      refine (HNW.out w4 V4.out).mono ?_
      rintro e w6 ⟨v6, rfl, s6, u6, x6, l6⟩
      obtain ⟨V6A, V6c, rfl, _⟩ := s6.shape2
      have S6 := Lib.hid s6
      have U6 := Lib.hid u6
      have X6 := Lib.hid x6
      have L6 := Lib.hid (L4.out.trans l6)
      have R16 := Lib.hid (l6.row R11.out not_two)
      clear s6 u6 x6 l6 V4 L4 R11 HNW
      go_wp2_with (first | ((with_reducible refine wpList_alloc_row (o := ⟨some 13, _, _, _, _, _⟩) rfl 89 rfl (stateL 0 (.slice none 0 0)) Tryz.zeroState ?_); intro g14 wa na; have NA := Lib.hid na; clear na) | ((with_reducible refine wpList_store_row (o := ⟨none, _, _, _, _, _⟩) rfl 89 (.tmp 13) (.tmp 29) rfl g14 89 (stateL 0 (.slice none 0 0)) (stateL q (.slice V6A bb.length V6c)) (by with_unfolding_all rfl) (by with_unfolding_all rfl) NA.out.row rfl (Tryz.sizeState _ _) (stateL_one q _ V6A bb.length V6c rfl) ?_); intro w7 p7; have B7 := Lib.hid (laid_put NA.out p7).1; have R147 := Lib.hid p7.row; have c7 : w7.cell? ⟨g14, 0, none⟩ = some (.int .u64 ((q : Nat) : Int)) := p7.row.cell 0; clear p7 NA))
      have d7 : w7.cell? ⟨g14, 1, none⟩ = some (.slice V6A bb.length V6c) := R147.out.cell 1
      have X7 := Lib.hid (X6.out.kept B7.out)
      have L7 := Lib.hid (L6.out.kept B7.out)
      have S7 := Lib.hid (S6.out.below B7.out)
      have U7 := Lib.hid (U6.out.below B7.out)
      clear X6 L6 S6 U6 B7 R147
      go_quiet (fail)
      go_wp2_with fail
      try simp only [Exit.inBlock, Exit.then]
      refine bodyPost_ret (results_tmp3 rfl _ _ _) rfl ?_
      rw [e.out]
      have b8 : Below w7.heap.size w7 (w7.drewN nq) := below_drewN (Below.refl _ _) _
      exact ⟨_, rfl, S7.out.below b8, U7.out.below b8, X7.out.kept b8, L7.out.kept b8⟩
  · have e : Hid (loadF hdV d at_ n = ([], 0, rightV d.now.length at_ n)) := by show _ = _; unfold loadF; rw [if_neg hr]
    rw [e.out]
    rw [if_neg hr] at HSL
    generalize rightV d.now.length at_ n = r at *
    have hd1 : decide (r = 0) = false := decide_eq_false hr
    have hd2 : (r != 0) = true := by simp [hr]
    go_enter Tryz.func22, Tryz.ntmps22
    go_wp2_with fail
    refine (HSL.out w HH.out).mono ?_
    rintro e w3 ⟨rfl, b3⟩
    have B3 := Lib.hid b3
    clear b3 HSL
    go_wp2_with (first | ((with_reducible refine wpList_alloc_row (o := ⟨some 11, _, _, _, _, _⟩) rfl 85 rfl zeroTwo Tryz.zeroTwo_ ?_); intro g11 wa na; have NA := Lib.hid na; clear na) | ((with_reducible refine wpList_store_row (o := ⟨none, _, _, _, _, _⟩) rfl 85 (.tmp 11) (.tmp 19) rfl g11 85 zeroTwo zeroTwo (by with_unfolding_all rfl) (by with_unfolding_all rfl) NA.out.row rfl (by with_unfolding_all exact Tryz.sizeTwo) (by with_unfolding_all first | exact twoL_one g A N | exact zeroTwo_one) ?_); intro w4 p4; have V4 := Lib.hid (HH.out.kept (below_size B3.out (laid_put NA.out p4).1)); have L4 := Lib.hid (Lk.of_below (below_size B3.out (laid_put NA.out p4).1)); have R11 := Lib.hid p4.row; clear p4 NA B3))
    try simp only [Exit.inBlock, Exit.then]
    refine bodyPost_ret (results_tmp3 rfl _ _ _) rfl ?_
    exact ⟨_, rfl, Bs.nil _, U8At.nil _ _ _, V4.out.more (by omega), L4.out⟩
set_option maxHeartbeats 8000000 in
theorem recover_any (h : VS F xw gm g M d w) (hM : M ≤ 900000000) (hp : d.pend.length ≤ 400000) (at_ n : Int) :
    Calls Tryz.prog 16 #[.pointer (some ⟨gm, 0, none⟩), .pointer (some ⟨g, 0, none⟩), .int .i64 at_, .int .i64 n] w fun e z => ∃ v, e = .returned (.tuple #[v, .int .u64 ((recF hdV d at_ n).1.2.1 : Int), .int .i64 (recF hdV d at_ n).1.2.2]) ∧ Bs z v (recF hdV d at_ n).1.1 ∧ U8At z v ∧ VS F xw gm g (M + 2) (recF hdV d at_ n).2 z ∧ Lk w z := by
  have HSL : Hid (∀ y, VS F xw gm g M d y → Calls Tryz.prog 30 #[.pointer (some ⟨g, 0, none⟩), .int .i64 at_, .int .i64 n] y fun e z => e = .returned (.tuple #[.agg (if rightV d.now.length at_ n = 0 then twoL g at_.toNat n.toNat else zeroTwo), .int .i64 (rightV d.now.length at_ n)]) ∧ Below y.heap.size y z) := fun y h => slots_any h at_ n
  have HH := Lib.hid h
  have hmost := h.ok.most
  have hok := h.ok
  clear h hok
  by_cases hr : rightV d.now.length at_ n = 0
  · obtain ⟨A, N, rfl, rfl, hN1, hN2, hlen⟩ := right_nats hr
    rw [hr, if_pos rfl] at HSL
    simp only [Int.toNat_natCast] at HSL
    have HRF : Hid (recF hdV d (A : Int) (N : Int) = if (bestV d.now A N hdV).2.2 = 0 then (([], 0, 62), d) else if (d.run (recV d.now A N (bestV d.now A N hdV).1)).1 = 0 then (((bestV d.now A N hdV).2.1, (bestV d.now A N hdV).2.2, 0), (d.run (recV d.now A N (bestV d.now A N hdV).1)).2) else (([], 0, (d.run (recV d.now A N (bestV d.now A N hdV).1)).1), (d.run (recV d.now A N (bestV d.now A N hdV).1)).2)) := by show _ = _; unfold recF; rw [if_pos hr]; rfl
    have HNW : Hid (∀ y, VS F xw gm g M d y → Calls Tryz.prog 31 #[.pointer (some ⟨gm, 0, none⟩), .agg (twoL g A N)] y fun e z => ∃ v, e = .returned (.tuple #[.int .i64 ((bestV d.now A N hdV).1 : Int), .agg (stateL (bestV d.now A N hdV).2.2 v)]) ∧ Bs z v (bestV d.now A N hdV).2.1 ∧ U8At z v ∧ VS F xw gm g (M + 2) d z ∧ Lk y z) := fun y h => newest_any h hM A N hN1 hN2 hlen
    have hs1 := bestV_le d.now A N hdV
    have hq1 := bestV_u64 d.now A N hdV
    generalize bestV d.now A N hdV = BV at HRF HNW hs1 hq1
    obtain ⟨s, bb, q⟩ := BV
    simp only at HRF HNW hs1 hq1
    generalize recF hdV d (A : Int) (N : Int) = RF at HRF ⊢
    clear hr
    by_cases hq : q = 0
    · have e : Hid (RF = (([], 0, 62), d)) := by show _ = _; rw [HRF.out, if_pos hq]
      subst hq
      go_enter Tryz.func16, Tryz.ntmps16
      go_wp2_with fail
      refine (HSL.out w HH.out).mono ?_
      rintro e w3 ⟨rfl, b3⟩
      have B3 := Lib.hid b3
      clear b3 HSL
      go_wp2_with (first | ((with_reducible refine wpList_alloc_row (o := ⟨some 11, _, _, _, _, _⟩) rfl 85 rfl zeroTwo Tryz.zeroTwo_ ?_); intro g11 wa na; have NA := Lib.hid na; clear na) | ((with_reducible refine wpList_store_row (o := ⟨none, _, _, _, _, _⟩) rfl 85 (.tmp 11) (.tmp 21) rfl g11 85 zeroTwo (twoL g A N) (by with_unfolding_all rfl) (by with_unfolding_all rfl) NA.out.row rfl (by with_unfolding_all exact Tryz.sizeTwo) (by with_unfolding_all first | exact twoL_one g A N | exact zeroTwo_one) ?_); intro w4 p4; have V4 := Lib.hid (HH.out.kept (below_size B3.out (laid_put NA.out p4).1)); have L4 := Lib.hid (Lk.of_below (below_size B3.out (laid_put NA.out p4).1)); have R11 := Lib.hid p4.row; clear p4 NA B3) | (with_reducible refine wpList_load_row (o := ⟨some 28, _, _, _, _, _⟩) rfl 85 (.tmp 11) rfl g11 (by with_unfolding_all rfl) 85 (twoL g A N) (0, 0) _ (by with_unfolding_all exact R11.out) Tryz.underlying85 rfl (Tryz.sizeTwoL g A N) ?_))
      refine (HNW.out w4 V4.out).mono ?_
      rintro e w6 ⟨v6, rfl, s6, u6, x6, l6⟩
      obtain ⟨V6A, V6c, rfl, _⟩ := s6.shape2
      have S6 := Lib.hid s6
      have U6 := Lib.hid u6
      have X6 := Lib.hid x6
      have L6 := Lib.hid (L4.out.trans l6)
      have R16 := Lib.hid (l6.row R11.out not_two)
      clear s6 u6 x6 l6 V4 L4 R11 HNW
      go_wp2_with (first | ((with_reducible refine wpList_alloc_row (o := ⟨some 13, _, _, _, _, _⟩) rfl 89 rfl (stateL 0 (.slice none 0 0)) Tryz.zeroState ?_); intro g14 wa na; have NA := Lib.hid na; clear na) | ((with_reducible refine wpList_store_row (o := ⟨none, _, _, _, _, _⟩) rfl 89 (.tmp 13) (.tmp 31) rfl g14 89 (stateL 0 (.slice none 0 0)) (stateL 0 (.slice V6A bb.length V6c)) (by with_unfolding_all rfl) (by with_unfolding_all rfl) NA.out.row rfl (Tryz.sizeState _ _) (stateL_one 0 _ V6A bb.length V6c rfl) ?_); intro w7 p7; have B7 := Lib.hid (laid_put NA.out p7).1; have R147 := Lib.hid p7.row; have c7 : w7.cell? ⟨g14, 0, none⟩ = some (.int .u64 ((0 : Nat) : Int)) := p7.row.cell 0; clear p7 NA))
      try simp only [Exit.inBlock, Exit.then]
      refine bodyPost_ret (results_tmp3 rfl _ _ _) rfl ?_
      rw [e.out]
      exact ⟨_, rfl, Bs.nil _, U8At.nil _ _ _, X6.out.kept B7.out, L6.out.kept B7.out⟩
    · have hqd : decide ((q : Int) = 0) = false := decide_eq_false (by omega)
      have hqd' : ¬ ((q : Int) = 0) := by omega
      rw [if_neg hq] at HRF
      obtain ⟨to, hto⟩ : ∃ to, to = 1 - s := ⟨_, rfl⟩
      have hto1 : to ≤ 1 := by omega
      have hwt : IntKind.i64.wrap (1 - (s : Int)) = (to : Int) := by rw [IntWalk.i64_in _ (by omega)]; omega
      have hlo : A + to * (N + 1) + (N + 1) ≤ d.now.length := by
        have : to * (N + 1) ≤ 1 * (N + 1) := Nat.mul_le_mul_right _ hto1
        omega
      have HCL : Hid (∀ y, VS F xw gm g (M + 2) d y → Calls Tryz.prog 48 #[.agg (slotAt g A N to)] y (RetV y (.bool (cleanV d.now (A + to * (N + 1)) N)))) := fun y h => isClean_any h (A + to * (N + 1)) N hN2 hlo
      have HWP : Hid (∀ y, VS F xw gm g (M + 2) d y → Calls Tryz.prog 41 #[.agg (slotAt g A N to)] y fun e z => e = .returned (.int .i64 (d.run (phase (eraseW (A + to * (N + 1)) N))).1) ∧ VS F xw gm g (M + 2) (d.run (phase (eraseW (A + to * (N + 1)) N))).2 z ∧ Lk y z) := fun y h => wipe_any h (by omega) (A + to * (N + 1)) N hN2 (by omega)
      have HV : Hid (recV d.now A N s = if cleanV d.now (A + to * (N + 1)) N then [] else phase (eraseW (A + to * (N + 1)) N)) := by show _ = _; rw [hto]; rfl
      generalize recV d.now A N s = rv at HV HRF
      generalize cleanV d.now (A + to * (N + 1)) N = cl at HV HCL
      clear hto hq hlo
      cases cl
      · have HV2 : Hid (rv = phase (eraseW (A + to * (N + 1)) N)) := HV.out
        rw [HV2.out] at HRF
        generalize d.run (phase (eraseW (A + to * (N + 1)) N)) = RR at HRF HWP
        obtain ⟨re, rd⟩ := RR
        simp only at HRF HWP
        clear HV HV2
        by_cases he : re = 0
        · have e : Hid (RF = ((bb, q, 0), rd)) := by show _ = _; rw [HRF.out, if_pos he]
          have hed : decide (re = 0) = true := decide_eq_true he
          subst he
          go_enter Tryz.func16, Tryz.ntmps16
          go_wp2_with fail
          refine (HSL.out w HH.out).mono ?_
          rintro e w3 ⟨rfl, b3⟩
          have B3 := Lib.hid b3
          clear b3 HSL
          go_wp2_with (first | ((with_reducible refine wpList_alloc_row (o := ⟨some 11, _, _, _, _, _⟩) rfl 85 rfl zeroTwo Tryz.zeroTwo_ ?_); intro g11 wa na; have NA := Lib.hid na; clear na) | ((with_reducible refine wpList_store_row (o := ⟨none, _, _, _, _, _⟩) rfl 85 (.tmp 11) (.tmp 21) rfl g11 85 zeroTwo (twoL g A N) (by with_unfolding_all rfl) (by with_unfolding_all rfl) NA.out.row rfl (by with_unfolding_all exact Tryz.sizeTwo) (by with_unfolding_all first | exact twoL_one g A N | exact zeroTwo_one) ?_); intro w4 p4; have V4 := Lib.hid (HH.out.kept (below_size B3.out (laid_put NA.out p4).1)); have L4 := Lib.hid (Lk.of_below (below_size B3.out (laid_put NA.out p4).1)); have R11 := Lib.hid p4.row; clear p4 NA B3) | (with_reducible refine wpList_load_row (o := ⟨some 28, _, _, _, _, _⟩) rfl 85 (.tmp 11) rfl g11 (by with_unfolding_all rfl) 85 (twoL g A N) (0, 0) _ (by with_unfolding_all exact R11.out) Tryz.underlying85 rfl (Tryz.sizeTwoL g A N) ?_))
          refine (HNW.out w4 V4.out).mono ?_
          rintro e w6 ⟨v6, rfl, s6, u6, x6, l6⟩
          obtain ⟨V6A, V6c, rfl, _⟩ := s6.shape2
          have S6 := Lib.hid s6
          have U6 := Lib.hid u6
          have X6 := Lib.hid x6
          have L6 := Lib.hid (L4.out.trans l6)
          have R16 := Lib.hid (l6.row R11.out not_two)
          clear s6 u6 x6 l6 V4 L4 R11 HNW
          go_wp2_with (first | ((with_reducible refine wpList_alloc_row (o := ⟨some 13, _, _, _, _, _⟩) rfl 89 rfl (stateL 0 (.slice none 0 0)) Tryz.zeroState ?_); intro g14 wa na; have NA := Lib.hid na; clear na) | ((with_reducible refine wpList_store_row (o := ⟨none, _, _, _, _, _⟩) rfl 89 (.tmp 13) (.tmp 31) rfl g14 89 (stateL 0 (.slice none 0 0)) (stateL q (.slice V6A bb.length V6c)) (by with_unfolding_all rfl) (by with_unfolding_all rfl) NA.out.row rfl (Tryz.sizeState _ _) (stateL_one q _ V6A bb.length V6c rfl) ?_); intro w7 p7; have B7 := Lib.hid (laid_put NA.out p7).1; have R147 := Lib.hid p7.row; have c7 : w7.cell? ⟨g14, 0, none⟩ = some (.int .u64 ((q : Nat) : Int)) := p7.row.cell 0; clear p7 NA) | (with_reducible refine wpList_val (o := ⟨some 37, _, _, _, _, _⟩) rfl (.pointer (some ⟨g11, to * 3, none⟩)) (by exact run_idxArr 3 85 84 (.tmp 11) (.tmp 36) rfl g11 2 to (by with_unfolding_all rfl) (by with_unfolding_all rfl) (by omega) Tryz.underlying85 (Tryz.sizeSlot g A N)) ?_) | (with_reducible refine wpList_val (o := ⟨some 38, _, _, _, _, _⟩) rfl (.agg (slotAt g A N to)) (by exact Tryz.run_loadTwo (.tmp 37) rfl g11 g A N to (by omega) (by with_unfolding_all rfl) (R16.out.kept B7.out)) ?_) | ((with_reducible refine wpList_alloc_row (o := ⟨some 14, _, _, _, _, _⟩) rfl 84 rfl zeroSlot Tryz.zeroSlot_ ?_); intro g15 wb nb; have NB := Lib.hid nb; clear nb) | ((with_reducible refine wpList_store_row (o := ⟨none, _, _, _, _, _⟩) rfl 84 (.tmp 14) (.tmp 38) rfl g15 84 zeroSlot (slotAt g A N to) (by with_unfolding_all rfl) (by with_unfolding_all rfl) NB.out.row (by with_unfolding_all rfl) (by with_unfolding_all exact Tryz.sizeSlot _ _ _) (by with_unfolding_all exact slotL_one _ _ _) ?_); intro w8 p8; have B8 := Lib.hid (below_size B7.out (laid_put NB.out p8).1); have R158 := Lib.hid p8.row; have R148 := Lib.hid (R147.out.kept (laid_put NB.out p8).1); clear p8 NB) | (with_reducible refine wpList_load_row (o := ⟨some 39, _, _, _, _, _⟩) rfl 84 (.tmp 14) rfl g15 (by with_unfolding_all rfl) 84 (slotAt g A N to) (0, 0) _ (by with_unfolding_all exact R158.out) Tryz.underlying84 rfl (by with_unfolding_all exact Tryz.sizeSlot _ _ _) ?_))
          have X8 := Lib.hid (X6.out.kept B8.out)
          have L8 := Lib.hid (L6.out.kept B8.out)
          have S8 := Lib.hid (S6.out.below B8.out)
          have U8 := Lib.hid (U6.out.below B8.out)
          clear X6 L6 S6 U6 B8 B7 R16 R147 c7
          refine (HCL.out w8 X8.out).mono ?_
          rintro e9 w9 ⟨rfl, b9⟩
          have X9 := Lib.hid (X8.out.kept b9)
          have L9 := Lib.hid (L8.out.kept b9)
          have S9 := Lib.hid (S8.out.below b9)
          have U9 := Lib.hid (U8.out.below b9)
          have R149 := Lib.hid (R148.out.kept b9)
          have R159 := Lib.hid (R158.out.kept b9)
          clear b9 X8 L8 S8 U8 R148 R158 HCL
          go_wp2_with (with_reducible refine wpList_load_row (o := ⟨some 42, _, _, _, _, _⟩) rfl 84 (.tmp 14) rfl g15 (by with_unfolding_all rfl) 84 (slotAt g A N to) (0, 0) _ (by with_unfolding_all exact R159.out) Tryz.underlying84 rfl (by with_unfolding_all exact Tryz.sizeSlot _ _ _) ?_)
          refine (HWP.out w9 X9.out).mono ?_
          rintro e10 w10 ⟨rfl, x10, l10⟩
          have X10 := Lib.hid x10
          have L10 := Lib.hid (L9.out.trans l10)
          have S10 := Lib.hid (l10.bs S9.out U9.out)
          have U10 := Lib.hid (l10.u8 U9.out)
          have R1410 := Lib.hid (l10.row R149.out not_state)
          clear x10 l10 X9 L9 S9 U9 R149 R159 HWP
          have d7 : w10.cell? ⟨g14, 1, none⟩ = some (.slice V6A bb.length V6c) := R1410.out.cell 1
          have c7 : w10.cell? ⟨g14, 0, none⟩ = some (.int .u64 (q : Int)) := R1410.out.cell 0
          go_wp2_with fail
          go_quiet (fail)
          go_wp2_with fail
          try simp only [Exit.inBlock, Exit.then]
          refine bodyPost_ret (results_tmp3 rfl _ _ _) rfl ?_
          rw [e.out]
          have b8 : Below w10.heap.size w10 (w10.drewN nq) := below_drewN (Below.refl _ _) _
          exact ⟨_, rfl, S10.out.below b8, U10.out.below b8, X10.out.kept b8, L10.out.kept b8⟩
        · have e : Hid (RF = (([], 0, re), rd)) := by show _ = _; rw [HRF.out, if_neg he]
          have hed : decide (re = 0) = false := decide_eq_false he
          go_enter Tryz.func16, Tryz.ntmps16
          go_wp2_with fail
          refine (HSL.out w HH.out).mono ?_
          rintro e w3 ⟨rfl, b3⟩
          have B3 := Lib.hid b3
          clear b3 HSL
          go_wp2_with (first | ((with_reducible refine wpList_alloc_row (o := ⟨some 11, _, _, _, _, _⟩) rfl 85 rfl zeroTwo Tryz.zeroTwo_ ?_); intro g11 wa na; have NA := Lib.hid na; clear na) | ((with_reducible refine wpList_store_row (o := ⟨none, _, _, _, _, _⟩) rfl 85 (.tmp 11) (.tmp 21) rfl g11 85 zeroTwo (twoL g A N) (by with_unfolding_all rfl) (by with_unfolding_all rfl) NA.out.row rfl (by with_unfolding_all exact Tryz.sizeTwo) (by with_unfolding_all first | exact twoL_one g A N | exact zeroTwo_one) ?_); intro w4 p4; have V4 := Lib.hid (HH.out.kept (below_size B3.out (laid_put NA.out p4).1)); have L4 := Lib.hid (Lk.of_below (below_size B3.out (laid_put NA.out p4).1)); have R11 := Lib.hid p4.row; clear p4 NA B3) | (with_reducible refine wpList_load_row (o := ⟨some 28, _, _, _, _, _⟩) rfl 85 (.tmp 11) rfl g11 (by with_unfolding_all rfl) 85 (twoL g A N) (0, 0) _ (by with_unfolding_all exact R11.out) Tryz.underlying85 rfl (Tryz.sizeTwoL g A N) ?_))
          refine (HNW.out w4 V4.out).mono ?_
          rintro e w6 ⟨v6, rfl, s6, u6, x6, l6⟩
          obtain ⟨V6A, V6c, rfl, _⟩ := s6.shape2
          have S6 := Lib.hid s6
          have U6 := Lib.hid u6
          have X6 := Lib.hid x6
          have L6 := Lib.hid (L4.out.trans l6)
          have R16 := Lib.hid (l6.row R11.out not_two)
          clear s6 u6 x6 l6 V4 L4 R11 HNW
          go_wp2_with (first | ((with_reducible refine wpList_alloc_row (o := ⟨some 13, _, _, _, _, _⟩) rfl 89 rfl (stateL 0 (.slice none 0 0)) Tryz.zeroState ?_); intro g14 wa na; have NA := Lib.hid na; clear na) | ((with_reducible refine wpList_store_row (o := ⟨none, _, _, _, _, _⟩) rfl 89 (.tmp 13) (.tmp 31) rfl g14 89 (stateL 0 (.slice none 0 0)) (stateL q (.slice V6A bb.length V6c)) (by with_unfolding_all rfl) (by with_unfolding_all rfl) NA.out.row rfl (Tryz.sizeState _ _) (stateL_one q _ V6A bb.length V6c rfl) ?_); intro w7 p7; have B7 := Lib.hid (laid_put NA.out p7).1; have R147 := Lib.hid p7.row; have c7 : w7.cell? ⟨g14, 0, none⟩ = some (.int .u64 ((q : Nat) : Int)) := p7.row.cell 0; clear p7 NA) | (with_reducible refine wpList_val (o := ⟨some 37, _, _, _, _, _⟩) rfl (.pointer (some ⟨g11, to * 3, none⟩)) (by exact run_idxArr 3 85 84 (.tmp 11) (.tmp 36) rfl g11 2 to (by with_unfolding_all rfl) (by with_unfolding_all rfl) (by omega) Tryz.underlying85 (Tryz.sizeSlot g A N)) ?_) | (with_reducible refine wpList_val (o := ⟨some 38, _, _, _, _, _⟩) rfl (.agg (slotAt g A N to)) (by exact Tryz.run_loadTwo (.tmp 37) rfl g11 g A N to (by omega) (by with_unfolding_all rfl) (R16.out.kept B7.out)) ?_) | ((with_reducible refine wpList_alloc_row (o := ⟨some 14, _, _, _, _, _⟩) rfl 84 rfl zeroSlot Tryz.zeroSlot_ ?_); intro g15 wb nb; have NB := Lib.hid nb; clear nb) | ((with_reducible refine wpList_store_row (o := ⟨none, _, _, _, _, _⟩) rfl 84 (.tmp 14) (.tmp 38) rfl g15 84 zeroSlot (slotAt g A N to) (by with_unfolding_all rfl) (by with_unfolding_all rfl) NB.out.row (by with_unfolding_all rfl) (by with_unfolding_all exact Tryz.sizeSlot _ _ _) (by with_unfolding_all exact slotL_one _ _ _) ?_); intro w8 p8; have B8 := Lib.hid (below_size B7.out (laid_put NB.out p8).1); have R158 := Lib.hid p8.row; have R148 := Lib.hid (R147.out.kept (laid_put NB.out p8).1); clear p8 NB) | (with_reducible refine wpList_load_row (o := ⟨some 39, _, _, _, _, _⟩) rfl 84 (.tmp 14) rfl g15 (by with_unfolding_all rfl) 84 (slotAt g A N to) (0, 0) _ (by with_unfolding_all exact R158.out) Tryz.underlying84 rfl (by with_unfolding_all exact Tryz.sizeSlot _ _ _) ?_))
          have X8 := Lib.hid (X6.out.kept B8.out)
          have L8 := Lib.hid (L6.out.kept B8.out)
          have S8 := Lib.hid (S6.out.below B8.out)
          have U8 := Lib.hid (U6.out.below B8.out)
          clear X6 L6 S6 U6 B8 B7 R16 R147 c7
          refine (HCL.out w8 X8.out).mono ?_
          rintro e9 w9 ⟨rfl, b9⟩
          have X9 := Lib.hid (X8.out.kept b9)
          have L9 := Lib.hid (L8.out.kept b9)
          have S9 := Lib.hid (S8.out.below b9)
          have U9 := Lib.hid (U8.out.below b9)
          have R149 := Lib.hid (R148.out.kept b9)
          have R159 := Lib.hid (R158.out.kept b9)
          clear b9 X8 L8 S8 U8 R148 R158 HCL
          go_wp2_with (with_reducible refine wpList_load_row (o := ⟨some 42, _, _, _, _, _⟩) rfl 84 (.tmp 14) rfl g15 (by with_unfolding_all rfl) 84 (slotAt g A N to) (0, 0) _ (by with_unfolding_all exact R159.out) Tryz.underlying84 rfl (by with_unfolding_all exact Tryz.sizeSlot _ _ _) ?_)
          refine (HWP.out w9 X9.out).mono ?_
          rintro e10 w10 ⟨rfl, x10, l10⟩
          have X10 := Lib.hid x10
          have L10 := Lib.hid (L9.out.trans l10)
          have S10 := Lib.hid (l10.bs S9.out U9.out)
          have U10 := Lib.hid (l10.u8 U9.out)
          have R1410 := Lib.hid (l10.row R149.out not_state)
          clear x10 l10 X9 L9 S9 U9 R149 R159 HWP
          go_wp2_with fail
          try simp only [Exit.inBlock, Exit.then]
          refine bodyPost_ret (results_tmp3 rfl _ _ _) rfl ?_
          rw [e.out]
          exact ⟨_, rfl, Bs.nil _, U8At.nil _ _ _, X10.out, L10.out⟩
      · have HV2 : Hid (rv = []) := HV.out
        have e : Hid (RF = ((bb, q, 0), d)) := by
          show _ = _
          rw [HRF.out, HV2.out]
          rfl
        clear HV HV2 HWP
        go_enter Tryz.func16, Tryz.ntmps16
        go_wp2_with fail
        refine (HSL.out w HH.out).mono ?_
        rintro e w3 ⟨rfl, b3⟩
        have B3 := Lib.hid b3
        clear b3 HSL
        go_wp2_with (first | ((with_reducible refine wpList_alloc_row (o := ⟨some 11, _, _, _, _, _⟩) rfl 85 rfl zeroTwo Tryz.zeroTwo_ ?_); intro g11 wa na; have NA := Lib.hid na; clear na) | ((with_reducible refine wpList_store_row (o := ⟨none, _, _, _, _, _⟩) rfl 85 (.tmp 11) (.tmp 21) rfl g11 85 zeroTwo (twoL g A N) (by with_unfolding_all rfl) (by with_unfolding_all rfl) NA.out.row rfl (by with_unfolding_all exact Tryz.sizeTwo) (by with_unfolding_all first | exact twoL_one g A N | exact zeroTwo_one) ?_); intro w4 p4; have V4 := Lib.hid (HH.out.kept (below_size B3.out (laid_put NA.out p4).1)); have L4 := Lib.hid (Lk.of_below (below_size B3.out (laid_put NA.out p4).1)); have R11 := Lib.hid p4.row; clear p4 NA B3) | (with_reducible refine wpList_load_row (o := ⟨some 28, _, _, _, _, _⟩) rfl 85 (.tmp 11) rfl g11 (by with_unfolding_all rfl) 85 (twoL g A N) (0, 0) _ (by with_unfolding_all exact R11.out) Tryz.underlying85 rfl (Tryz.sizeTwoL g A N) ?_))
        refine (HNW.out w4 V4.out).mono ?_
        rintro e w6 ⟨v6, rfl, s6, u6, x6, l6⟩
        obtain ⟨V6A, V6c, rfl, _⟩ := s6.shape2
        have S6 := Lib.hid s6
        have U6 := Lib.hid u6
        have X6 := Lib.hid x6
        have L6 := Lib.hid (L4.out.trans l6)
        have R16 := Lib.hid (l6.row R11.out not_two)
        clear s6 u6 x6 l6 V4 L4 R11 HNW
        go_wp2_with (first | ((with_reducible refine wpList_alloc_row (o := ⟨some 13, _, _, _, _, _⟩) rfl 89 rfl (stateL 0 (.slice none 0 0)) Tryz.zeroState ?_); intro g14 wa na; have NA := Lib.hid na; clear na) | ((with_reducible refine wpList_store_row (o := ⟨none, _, _, _, _, _⟩) rfl 89 (.tmp 13) (.tmp 31) rfl g14 89 (stateL 0 (.slice none 0 0)) (stateL q (.slice V6A bb.length V6c)) (by with_unfolding_all rfl) (by with_unfolding_all rfl) NA.out.row rfl (Tryz.sizeState _ _) (stateL_one q _ V6A bb.length V6c rfl) ?_); intro w7 p7; have B7 := Lib.hid (laid_put NA.out p7).1; have R147 := Lib.hid p7.row; have c7 : w7.cell? ⟨g14, 0, none⟩ = some (.int .u64 ((q : Nat) : Int)) := p7.row.cell 0; clear p7 NA) | (with_reducible refine wpList_val (o := ⟨some 37, _, _, _, _, _⟩) rfl (.pointer (some ⟨g11, to * 3, none⟩)) (by exact run_idxArr 3 85 84 (.tmp 11) (.tmp 36) rfl g11 2 to (by with_unfolding_all rfl) (by with_unfolding_all rfl) (by omega) Tryz.underlying85 (Tryz.sizeSlot g A N)) ?_) | (with_reducible refine wpList_val (o := ⟨some 38, _, _, _, _, _⟩) rfl (.agg (slotAt g A N to)) (by exact Tryz.run_loadTwo (.tmp 37) rfl g11 g A N to (by omega) (by with_unfolding_all rfl) (R16.out.kept B7.out)) ?_) | ((with_reducible refine wpList_alloc_row (o := ⟨some 14, _, _, _, _, _⟩) rfl 84 rfl zeroSlot Tryz.zeroSlot_ ?_); intro g15 wb nb; have NB := Lib.hid nb; clear nb) | ((with_reducible refine wpList_store_row (o := ⟨none, _, _, _, _, _⟩) rfl 84 (.tmp 14) (.tmp 38) rfl g15 84 zeroSlot (slotAt g A N to) (by with_unfolding_all rfl) (by with_unfolding_all rfl) NB.out.row (by with_unfolding_all rfl) (by with_unfolding_all exact Tryz.sizeSlot _ _ _) (by with_unfolding_all exact slotL_one _ _ _) ?_); intro w8 p8; have B8 := Lib.hid (below_size B7.out (laid_put NB.out p8).1); have R158 := Lib.hid p8.row; have R148 := Lib.hid (R147.out.kept (laid_put NB.out p8).1); clear p8 NB) | (with_reducible refine wpList_load_row (o := ⟨some 39, _, _, _, _, _⟩) rfl 84 (.tmp 14) rfl g15 (by with_unfolding_all rfl) 84 (slotAt g A N to) (0, 0) _ (by with_unfolding_all exact R158.out) Tryz.underlying84 rfl (by with_unfolding_all exact Tryz.sizeSlot _ _ _) ?_))
        have X8 := Lib.hid (X6.out.kept B8.out)
        have L8 := Lib.hid (L6.out.kept B8.out)
        have S8 := Lib.hid (S6.out.below B8.out)
        have U8 := Lib.hid (U6.out.below B8.out)
        clear X6 L6 S6 U6 B8 B7 R16 R147 c7
        refine (HCL.out w8 X8.out).mono ?_
        rintro e9 w9 ⟨rfl, b9⟩
        have X9 := Lib.hid (X8.out.kept b9)
        have L9 := Lib.hid (L8.out.kept b9)
        have S9 := Lib.hid (S8.out.below b9)
        have U9 := Lib.hid (U8.out.below b9)
        have R149 := Lib.hid (R148.out.kept b9)
        have R159 := Lib.hid (R158.out.kept b9)
        clear b9 X8 L8 S8 U8 R148 R158 HCL
        have d7 : w9.cell? ⟨g14, 1, none⟩ = some (.slice V6A bb.length V6c) := R149.out.cell 1
        have c7 : w9.cell? ⟨g14, 0, none⟩ = some (.int .u64 (q : Int)) := R149.out.cell 0
        go_wp2_with fail
        go_quiet (fail)
        go_wp2_with fail
        try simp only [Exit.inBlock, Exit.then]
        refine bodyPost_ret (results_tmp3 rfl _ _ _) rfl ?_
        rw [e.out]
        have b8 : Below w9.heap.size w9 (w9.drewN nq) := below_drewN (Below.refl _ _) _
        exact ⟨_, rfl, S9.out.below b8, U9.out.below b8, X9.out.kept b8, L9.out.kept b8⟩
  · have e : Hid (recF hdV d at_ n = (([], 0, rightV d.now.length at_ n), d)) := by show _ = _; unfold recF; rw [if_neg hr]
    rw [e.out]
    rw [if_neg hr] at HSL
    generalize rightV d.now.length at_ n = r at *
    have hd1 : decide (r = 0) = false := decide_eq_false hr
    have hd2 : (r != 0) = true := by simp [hr]
    go_enter Tryz.func16, Tryz.ntmps16
    go_wp2_with fail
    refine (HSL.out w HH.out).mono ?_
    rintro e w3 ⟨rfl, b3⟩
    have B3 := Lib.hid b3
    clear b3 HSL
    go_wp2_with (first | ((with_reducible refine wpList_alloc_row (o := ⟨some 11, _, _, _, _, _⟩) rfl 85 rfl zeroTwo Tryz.zeroTwo_ ?_); intro g11 wa na; have NA := Lib.hid na; clear na) | ((with_reducible refine wpList_store_row (o := ⟨none, _, _, _, _, _⟩) rfl 85 (.tmp 11) (.tmp 21) rfl g11 85 zeroTwo zeroTwo (by with_unfolding_all rfl) (by with_unfolding_all rfl) NA.out.row rfl (by with_unfolding_all exact Tryz.sizeTwo) (by with_unfolding_all first | exact twoL_one g A N | exact zeroTwo_one) ?_); intro w4 p4; have V4 := Lib.hid (HH.out.kept (below_size B3.out (laid_put NA.out p4).1)); have L4 := Lib.hid (Lk.of_below (below_size B3.out (laid_put NA.out p4).1)); have R11 := Lib.hid p4.row; clear p4 NA B3))
    try simp only [Exit.inBlock, Exit.then]
    refine bodyPost_ret (results_tmp3 rfl _ _ _) rfl ?_
    exact ⟨_, rfl, Bs.nil _, U8At.nil _ _ _, V4.out.more (by omega), L4.out⟩
end
end Go.Proofs.YtpgbicbjlhkonaaGreatDoor
end
