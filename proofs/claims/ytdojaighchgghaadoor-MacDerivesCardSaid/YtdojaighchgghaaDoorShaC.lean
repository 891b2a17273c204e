/-
  Contract of sha.Block: the compression. Conditions: the table at package level holds what its text lays ('Tabs').
-/
import Derived.Test.YtdojaighchgghaaDoorShaB
import Derived.StillTactics
namespace Go.Proofs.YtdojaighchgghaaDoor
open Go.RowKit
set_option linter.unusedVariables false
set_option maxRecDepth 20000

/-- The two tables at package level hold what the program's text lays. -/
structure Tabs (w : World) : Prop where
  cubes : ∀ j, j < 64 → w.cell? ⟨0, j, none⟩ = some (.int .u32 ((cubesW.getD j 0).toNat : Int))
  squares : ∀ j, j < 8 → w.cell? ⟨1, j, none⟩ = some (.int .u32 ((squaresW.getD j 0).toNat : Int))
theorem Tabs.below {w w' : World} (h : Tabs w) (hb : Below w.heap.size w w') : Tabs w' :=
  ⟨fun j hj => (hb.cell (World.block_lt_of_cell? w _ (h.cubes j hj))).trans (h.cubes j hj), fun j hj => (hb.cell (World.block_lt_of_cell? w _ (h.squares j hj))).trans (h.squares j hj)⟩

theorem not32 (x : UInt32) : 4294967295 - (x.toNat : Int) = ((4294967295 - x).toNat : Int) := by
  have := x.toNat_lt
  rw [UInt32.toNat_sub_of_le _ _ (by rw [UInt32.le_iff_toNat_le]; show x.toNat ≤ 4294967295; omega)]
  show _ = ((4294967295 - x.toNat : Nat) : Int)
  omega

theorem xor_ones (x : UInt32) : (4294967295 : UInt32) ^^^ x = 4294967295 - x := by
  have hx := x.toNat_lt
  apply UInt32.toNat_inj.1
  rw [UInt32.toNat_sub_of_le _ _ (by rw [UInt32.le_iff_toNat_le]; show x.toNat ≤ 4294967295; omega)]
  have h : (4294967295 : UInt32) ^^^ x = ⟨~~~ x.toBitVec⟩ := by
    apply UInt32.toBitVec_inj.1
    rw [UInt32.toBitVec_xor]
    show BitVec.allOnes 32 ^^^ x.toBitVec = _
    rw [BitVec.allOnes_xor]
  rw [h]
  show (~~~ x.toBitVec).toNat = _
  rw [BitVec.toNat_not]
  rfl
theorem flip32 (x : UInt32) : bits .xor .u32 (if IntKind.u32.signed = true then -1 else IntKind.u32.max) (x.toNat : Int) = ((4294967295 - x).toNat : Int) := by
  rw [← xor_ones, ← xor32]
  rfl

theorem add32m (a b : UInt32) : ((a.toNat : Int) + (b.toNat : Int)) % 4294967296 = ((a + b).toNat : Int) := by
  rw [UInt32.toNat_add]; omega

theorem Tryd.zero8 : (Tryd.prog.info? 23).map (·.zero) = some (some (.agg (wordsC (List.replicate 8 0)))) := by kernel_rfl
theorem Tryd.size8 : (Tryd.prog.info? 23).map (·.size) = some 8 := by kernel_rfl
theorem Tryd.size8l (l : List UInt32) (h : l.length = 8) : (Tryd.prog.info? 23).map (·.size) = some (wordsC l).size := by rw [wordsC_size, h]; exact Tryd.size8
theorem Tryd.size64b0 : (Tryd.prog.info? 24).map (·.size) = some 64 := by kernel_rfl
theorem Tryd.size64b (l : List UInt8) (h : l.length = 64) : (Tryd.prog.info? 24).map (·.size) = some (keyC l).size := by rw [keyC_size, h]; exact Tryd.size64b0

/-- The first k sums. -/
def mixed (st l : List UInt32) (k : Nat) : List UInt32 := (List.zipWith (· + ·) st l).take k ++ st.drop k
theorem mixed_length (st l : List UInt32) (k : Nat) (h : st.length = 8) (hl : l.length = 8) (hk : k ≤ 8) : (mixed st l k).length = 8 := by simp [mixed, h, hl]; omega
theorem mixed_zero (st l : List UInt32) : mixed st l 0 = st := by simp [mixed]
theorem mixed_all (st l : List UInt32) (h : st.length = 8) (hl : l.length = 8) : mixed st l 8 = List.zipWith (· + ·) st l := by
  unfold mixed
  rw [List.take_of_length_le (by simp [h, hl]), List.drop_of_length_le (by omega), List.append_nil]
theorem mixed_get (st l : List UInt32) (k : Nat) (h : st.length = 8) (hl : l.length = 8) (hk : k < 8) : (mixed st l k).getD k 0 = st.getD k 0 := by
  unfold mixed
  simp only [List.getD_eq_getElem?_getD]
  rw [List.getElem?_append_right (by simp [h, hl]; omega)]
  simp [h, hl, show min k 8 = k by omega]
theorem mixed_step (st l : List UInt32) (k : Nat) (h : st.length = 8) (hl : l.length = 8) (hk : k < 8) : (mixed st l k).set k (st.getD k 0 + l.getD k 0) = mixed st l (k + 1) := by
  unfold mixed
  have hz : (List.zipWith (· + ·) st l).length = 8 := by simp [h, hl]
  rw [List.set_append_right _ _ (by simp [h, hl]; omega), List.take_succ_eq_append_getElem (by omega), List.append_assoc]
  congr 1
  rw [show k - ((List.zipWith (· + ·) st l).take k).length = 0 by simp [h, hl]; omega, List.drop_eq_getElem_cons (l := st) (i := k) (by omega), List.set_cons_zero]
  simp [h, hl, hk]

theorem Tryd.index8_0 (x : World) (s : Eight8) : (Instr.index 23 (.agg #[.int .u32 (s.a.toNat : Int), .int .u32 (s.b.toNat : Int), .int .u32 (s.c.toNat : Int), .int .u32 (s.d.toNat : Int), .int .u32 (s.e.toNat : Int), .int .u32 (s.f.toNat : Int), .int .u32 (s.g.toNat : Int), .int .u32 (s.h.toNat : Int)]) (.int .i64 0)).run Tryd.prog x = .ok (.int .u32 (s.a.toNat : Int)) x := by kernel_rfl
theorem Tryd.index8_1 (x : World) (s : Eight8) : (Instr.index 23 (.agg #[.int .u32 (s.a.toNat : Int), .int .u32 (s.b.toNat : Int), .int .u32 (s.c.toNat : Int), .int .u32 (s.d.toNat : Int), .int .u32 (s.e.toNat : Int), .int .u32 (s.f.toNat : Int), .int .u32 (s.g.toNat : Int), .int .u32 (s.h.toNat : Int)]) (.int .i64 1)).run Tryd.prog x = .ok (.int .u32 (s.b.toNat : Int)) x := by kernel_rfl
theorem Tryd.index8_2 (x : World) (s : Eight8) : (Instr.index 23 (.agg #[.int .u32 (s.a.toNat : Int), .int .u32 (s.b.toNat : Int), .int .u32 (s.c.toNat : Int), .int .u32 (s.d.toNat : Int), .int .u32 (s.e.toNat : Int), .int .u32 (s.f.toNat : Int), .int .u32 (s.g.toNat : Int), .int .u32 (s.h.toNat : Int)]) (.int .i64 2)).run Tryd.prog x = .ok (.int .u32 (s.c.toNat : Int)) x := by kernel_rfl
theorem Tryd.index8_3 (x : World) (s : Eight8) : (Instr.index 23 (.agg #[.int .u32 (s.a.toNat : Int), .int .u32 (s.b.toNat : Int), .int .u32 (s.c.toNat : Int), .int .u32 (s.d.toNat : Int), .int .u32 (s.e.toNat : Int), .int .u32 (s.f.toNat : Int), .int .u32 (s.g.toNat : Int), .int .u32 (s.h.toNat : Int)]) (.int .i64 3)).run Tryd.prog x = .ok (.int .u32 (s.d.toNat : Int)) x := by kernel_rfl
theorem Tryd.index8_4 (x : World) (s : Eight8) : (Instr.index 23 (.agg #[.int .u32 (s.a.toNat : Int), .int .u32 (s.b.toNat : Int), .int .u32 (s.c.toNat : Int), .int .u32 (s.d.toNat : Int), .int .u32 (s.e.toNat : Int), .int .u32 (s.f.toNat : Int), .int .u32 (s.g.toNat : Int), .int .u32 (s.h.toNat : Int)]) (.int .i64 4)).run Tryd.prog x = .ok (.int .u32 (s.e.toNat : Int)) x := by kernel_rfl
theorem Tryd.index8_5 (x : World) (s : Eight8) : (Instr.index 23 (.agg #[.int .u32 (s.a.toNat : Int), .int .u32 (s.b.toNat : Int), .int .u32 (s.c.toNat : Int), .int .u32 (s.d.toNat : Int), .int .u32 (s.e.toNat : Int), .int .u32 (s.f.toNat : Int), .int .u32 (s.g.toNat : Int), .int .u32 (s.h.toNat : Int)]) (.int .i64 5)).run Tryd.prog x = .ok (.int .u32 (s.f.toNat : Int)) x := by kernel_rfl
theorem Tryd.index8_6 (x : World) (s : Eight8) : (Instr.index 23 (.agg #[.int .u32 (s.a.toNat : Int), .int .u32 (s.b.toNat : Int), .int .u32 (s.c.toNat : Int), .int .u32 (s.d.toNat : Int), .int .u32 (s.e.toNat : Int), .int .u32 (s.f.toNat : Int), .int .u32 (s.g.toNat : Int), .int .u32 (s.h.toNat : Int)]) (.int .i64 6)).run Tryd.prog x = .ok (.int .u32 (s.g.toNat : Int)) x := by kernel_rfl
theorem Tryd.index8_7 (x : World) (s : Eight8) : (Instr.index 23 (.agg #[.int .u32 (s.a.toNat : Int), .int .u32 (s.b.toNat : Int), .int .u32 (s.c.toNat : Int), .int .u32 (s.d.toNat : Int), .int .u32 (s.e.toNat : Int), .int .u32 (s.f.toNat : Int), .int .u32 (s.g.toNat : Int), .int .u32 (s.h.toNat : Int)]) (.int .i64 7)).run Tryd.prog x = .ok (.int .u32 (s.h.toNat : Int)) x := by kernel_rfl
theorem Tryd.index8 (x : World) (s : Eight8) (k : Nat) (hk : k < 8) :
    (Instr.index 23 (.agg #[.int .u32 (s.a.toNat : Int), .int .u32 (s.b.toNat : Int), .int .u32 (s.c.toNat : Int), .int .u32 (s.d.toNat : Int), .int .u32 (s.e.toNat : Int), .int .u32 (s.f.toNat : Int), .int .u32 (s.g.toNat : Int), .int .u32 (s.h.toNat : Int)]) (.int .i64 (k : Int))).run Tryd.prog x = .ok (.int .u32 (((ofE s).getD k 0).toNat : Int)) x := by
  have h : k = 0 ∨ k = 1 ∨ k = 2 ∨ k = 3 ∨ k = 4 ∨ k = 5 ∨ k = 6 ∨ k = 7 := by omega
  rcases h with rfl | rfl | rfl | rfl | rfl | rfl | rfl | rfl
  · exact Tryd.index8_0 x s
  · exact Tryd.index8_1 x s
  · exact Tryd.index8_2 x s
  · exact Tryd.index8_3 x s
  · exact Tryd.index8_4 x s
  · exact Tryd.index8_5 x s
  · exact Tryd.index8_6 x s
  · exact Tryd.index8_7 x s

set_option maxHeartbeats 4000000 in
set_option maxRecDepth 20000 in
theorem Block_any (w : World) (ht : Tabs w) (st : List UInt32) (block : List UInt8) (hs : st.length = 8) (hl : block.length = 64) :
    Calls Tryd.prog 15 #[.agg (wordsC st), keyV block] w (RetV w (.agg (wordsC (blockW st block)))) := by
  obtain ⟨fin, hfin⟩ : ∃ fin, fin = blockW st block := ⟨_, rfl⟩
  obtain ⟨ws, hws⟩ : ∃ ws, ws = wordsTo block 64 := ⟨_, rfl⟩
  obtain ⟨s0, hs0⟩ : ∃ s0, s0 = toE st := ⟨_, rfl⟩
  have hwl : ws.length = 64 := by rw [hws, wordsTo_length]
  have hfl : fin.length = 8 := by rw [hfin]; exact blockW_length _ _ hs
  rw [← hfin]
  have HF : Hid (fin = List.zipWith (· + ·) st (ofE (roundsE ws s0 64))) := by rw [hfin, hws, hs0]; rfl
  have HSP := Lib.hid (spread_any (block := block) · hl)
  rw [← hws] at HSP
  have HW := Lib.hid hwl
  have HFL := Lib.hid hfl
  have HS := Lib.hid hs
  have HL := Lib.hid hl
  have HT := Lib.hid ht
  have HS0 := Lib.hid hs0
  clear hfin hws hwl hfl hs hl ht hs0
  go_enter Tryd.func15, Tryd.ntmps15
  go_wp2_with (first
    | ((with_reducible refine wpList_box_row (o := ⟨some 2, _, _, _, _, _⟩) rfl 23 (.tmp 0) rfl (wordsC st) (by with_unfolding_all rfl) ?_); intro g2 w2 n2)
    | ((with_reducible refine wpList_box_row (o := ⟨some 3, _, _, _, _, _⟩) rfl 24 (.tmp 1) rfl (keyC block) (by with_unfolding_all rfl) ?_); intro g3 w3 n3)
    | ((with_reducible refine wpList_alloc_row (o := ⟨some 4, _, _, _, _, _⟩) rfl 23 rfl (wordsC (List.replicate 8 0)) Tryd.zero8 ?_); intro g4 w4 n4)
    | (with_reducible refine wpList_load_row (o := ⟨some 19, _, _, _, _, _⟩) rfl 24 (.tmp 3) rfl g3 (by with_unfolding_all rfl) 24 (keyC block) (0, 0) (.array 64 5) (by with_unfolding_all exact n3.row.kept n4.below) Tryd.underlying24 rfl (Tryd.size64b block HL.out) ?_)
    | (go_at_call 39; refine (HSP.out _).mono ?_; rintro e w5 ⟨rfl, b5⟩)
    | ((with_reducible refine wpList_alloc_row (o := ⟨some 5, _, _, _, _, _⟩) rfl 66 rfl (wordsC (List.replicate 64 0)) Tryd.zero64 ?_); intro g6 w6 n6)
    | ((with_reducible refine wpList_store_row (o := ⟨none, _, _, _, _, _⟩) rfl 66 (.tmp 5) (.tmp 20) rfl g6 66 _ (wordsC ws) (by with_unfolding_all rfl) (by with_unfolding_all rfl) n6.row (by rw [wordsC_size, wordsC_size, HW.out, List.length_replicate]) (Tryd.size64l ws HW.out) (wordsC_one ws) ?_); intro w7 p7))
  have hw6 : w.heap.size ≤ w6.heap.size := by have := n2.below.size; have := n3.below.size; have := n4.below.size; have := b5.size; have := n6.below.size; omega
  have e2 := n2.spot
  have e3 := n3.spot
  have e4 := n4.spot
  have e6 := n6.spot
  have z2 := n2.size
  have z3 := n3.size
  have z4 := n4.size
  have z5 := b5.size
  have B6 : Below w.heap.size w w6 := below_size (below_size (below_size (below_size n2.below n3.below) n4.below) b5) n6.below
  have B7 : Hid (Below w.heap.size w w7) := p7.below B6 hw6 (by omega)
  have R2 : Hid (RowAt w7 g2 23 (wordsC st)) := ((((n2.row.kept n3.below).kept n4.below).kept b5).kept n6.below).grown p7.grown (by intro h; injection h with h; omega)
  have R4 : Hid (RowAt w7 g4 23 (wordsC (List.replicate 8 0))) := ((n4.row.kept b5).kept n6.below).grown p7.grown (by intro h; injection h with h; omega)
  have R6 : Hid (RowAt w7 g6 66 (wordsC ws)) := p7.row
  have T7 : Hid (Tabs w7) := HT.out.below B7.out
  have hg2 : w.heap.size ≤ g2 := by omega
  have hg4 : w.heap.size ≤ g4 := by omega
  have hg24 : g2 ≠ g4 := by omega
  have hg46 : g2 ≠ g6 := by omega
  clear hw6 e2 e3 e4 e6 z2 z3 z4 z5 B6 n2 n3 n4 b5 n6 p7 HSP HT
  have E0 : Hid (st.getD 0 0 = s0.a ∧ st.getD 1 0 = s0.b ∧ st.getD 2 0 = s0.c ∧ st.getD 3 0 = s0.d ∧ st.getD 4 0 = s0.e ∧ st.getD 5 0 = s0.f ∧ st.getD 6 0 = s0.g ∧ st.getD 7 0 = s0.h) := by
    rw [HS0.out]; exact ⟨rfl, rfl, rfl, rfl, rfl, rfl, rfl, rfl⟩
  have c0 := wordsC_cell R2.out 0 (by rw [HS.out]; omega)
  have c1 := wordsC_cell R2.out 1 (by rw [HS.out]; omega)
  have c2 := wordsC_cell R2.out 2 (by rw [HS.out]; omega)
  have c3 := wordsC_cell R2.out 3 (by rw [HS.out]; omega)
  have c4 := wordsC_cell R2.out 4 (by rw [HS.out]; omega)
  have c5 := wordsC_cell R2.out 5 (by rw [HS.out]; omega)
  have c6 := wordsC_cell R2.out 6 (by rw [HS.out]; omega)
  have c7 := wordsC_cell R2.out 7 (by rw [HS.out]; omega)
  rw [E0.out.1] at c0
  rw [E0.out.2.1] at c1
  rw [E0.out.2.2.1] at c2
  rw [E0.out.2.2.2.1] at c3
  rw [E0.out.2.2.2.2.1] at c4
  rw [E0.out.2.2.2.2.2.1] at c5
  rw [E0.out.2.2.2.2.2.2.1] at c6
  rw [E0.out.2.2.2.2.2.2.2] at c7
  simp only [Act.put, Array.setIfInBounds, List.size_toArray, List.length_cons, List.length_nil]
  go_quiet (fail)
  clear c0 c1 c2 c3 c4 c5 c6 c7 E0
  go_wp2
  go_loopw [6, 7, 8, 9, 10, 11, 12, 13, 37] (fun a b c d e f g h i wr => ∃ (k n : Nat) (s : Eight8), k ≤ 64 ∧ i = .int .i64 k ∧ s = roundsE ws s0 k ∧ a = .int .u32 (s.a.toNat : Int) ∧ b = .int .u32 (s.b.toNat : Int) ∧ c = .int .u32 (s.c.toNat : Int) ∧ d = .int .u32 (s.d.toNat : Int) ∧ e = .int .u32 (s.e.toNat : Int) ∧ f = .int .u32 (s.f.toNat : Int) ∧ g = .int .u32 (s.g.toNat : Int) ∧ h = .int .u32 (s.h.toNat : Int) ∧ wr = w7.drewN n) (fun _ _ _ _ _ _ _ _ i _ => 64 - (intOf i).toNat)
  case atStart => exact ⟨0, nq, s0, by omega, rfl, rfl, rfl, rfl, rfl, rfl, rfl, rfl, rfl, rfl, rfl⟩
  case round =>
    obtain ⟨k, n, s, hk, rfl, hs, rfl, rfl, rfl, rfl, rfl, rfl, rfl, rfl, hwr⟩ := hrel
    have HWR := Lib.hid hwr
    have HSS := Lib.hid hs
    by_cases hlt : k < 64
    · have ck : wr.cell? ⟨0, k, none⟩ = some (.int .u32 ((cubesW.getD k 0).toNat : Int)) := by rw [hwr]; exact T7.out.cubes k hlt
      have cw : wr.cell? ⟨g6, k, none⟩ = some (.int .u32 ((ws.getD k 0).toNat : Int)) := by rw [hwr]; exact wordsC_cell R6.out k (by rw [HW.out]; exact hlt)
      have HSN : Hid (roundsE ws s0 (k + 1) = stepE s (cubesW.getD k 0) (ws.getD k 0)) := by rw [hs]; rfl
      generalize cubesW.getD k 0 = kk at ck HSN
      generalize ws.getD k 0 = ww at cw HSN
      have hq : (k : Int) < 64 := by omega
      have hea := s.a.toNat_lt
      have heb := s.e.toNat_lt
      clear hwr hs
      go_wp2_with fail
      refine wp_region_still_lit (by kernel_rfl) (by kernel_rfl) ?_
      repeat still_step
      still_call ((turned_any _ s.e 6 11 25 (by omega) (by omega) (by omega)).mono fun _ _ h => ⟨h.1, h.2.symm⟩)
      repeat still_step
      refine wpStill_nil ?_
      obtain ⟨t1, ht1⟩ : ∃ t1, s.h + bigS s.e 6 11 25 + ((s.e &&& s.f) ^^^ ((4294967295 - s.e) &&& s.g)) + kk + ww = t1 := ⟨_, rfl⟩
      simp only [flip32, and32, xor32, add32]
      rw [ht1]
      have HT1 := Lib.hid ht1
      clear ht1 ck cw hea heb
      change Exit.then _ _ _ _ wr.drew
      go_wp2_with (go_at_call 40; refine (turned_any _ s.a 2 13 22 (by omega) (by omega) (by omega)).mono ?_; rintro e w' ⟨rfl, rfl⟩)
      go_roundw
      case rel => 
        refine ⟨k + 1, n + 1, stepE s kk ww, by omega, by go_num, HSN.out.symm, ?_, rfl, rfl, rfl, ?_, rfl, rfl, rfl, by rw [HWR.out]; rfl⟩
        · simp only [and32, xor32, add32m]
          rw [← HT1.out]
          rfl
        · simp only [add32m]
          rw [← HT1.out]
          rfl
      case measure => simp [intOf]; omega
    · have hk64 : k = 64 := by omega
      have HS64 : Hid (s = roundsE ws s0 64) := by rw [← hk64]; exact HSS
      have B8 : Hid (Below w.heap.size w wr) := by rw [hwr]; exact below_drewN B7.out n
      have R28 : Hid (RowAt wr g2 23 (wordsC (mixed st (ofE s) 0))) := by rw [hwr, mixed_zero]; exact R2.out
      have R48 : Hid (RowAt wr g4 23 (wordsC (List.replicate 8 0))) := by rw [hwr]; exact R4.out
      clear hwr hs HWR HSS R2 R4 R6 T7 B7 hk64
      go_wp2
      go_loopw [97] (fun i wr => ∃ k : Nat, k ≤ 8 ∧ i = .int .i64 k ∧ RowAt wr g2 23 (wordsC (mixed st (ofE s) k)) ∧ RowAt wr g4 23 (wordsC (List.replicate 8 0)) ∧ Below w.heap.size w wr) (fun i _ => 8 - (intOf i).toNat)
      case atStart => exact ⟨0, by omega, rfl, R28.out, R48.out, B8.out⟩
      case round =>
        clear R28 R48 B8
        rename_i k0 _ _ _ _
        obtain ⟨k, hk8, rfl, hr2, hr4, hb⟩ := hrel
        have R2 := Lib.hid hr2
        have R4 := Lib.hid hr4
        have HB := Lib.hid hb
        clear hr2 hr4 hb
        by_cases hlt8 : k < 8
        · have c0 := wordsC_cell R2.out k (by rw [mixed_length _ _ _ HS.out (ofE_length s) (by omega)]; omega)
          rw [mixed_get _ _ _ HS.out (ofE_length s) hlt8] at c0
          have hfz := R2.out.frozen k
          have hix := fun x => Tryd.index8 x s k hlt8
          have hps := mixed_step st (ofE s) k HS.out (ofE_length s) hlt8
          generalize st.getD k 0 = x1 at c0 hps
          generalize (ofE s).getD k 0 = x2 at hix hps
          obtain ⟨xs, hxs⟩ : ∃ xs, x1 + x2 = xs := ⟨_, rfl⟩
          have hsum : IntKind.u32.wrap ((x1.toNat : Int) + (x2.toNat : Int)) = (xs.toNat : Int) := by rw [add32, hxs]
          have hput := R2.out.put k (.int .u32 (xs.toNat : Int))
          rw [wordsC_put, ← hxs, hps, hxs] at hput
          have HP := Lib.hid hput
          clear hput hps hxs
          go_wp2
          go_roundw
          case rel => exact ⟨k + 1, by omega, by go_num, HP.out, R4.out.far (by show g4 ≠ g2; omega) _, HB.out.setCell hg2 _⟩
          case measure => simp [intOf]; omega
        · have hk88 : k = 8 := by omega
          have HR2 : Hid (RowAt wr g2 23 (wordsC fin)) := by
            have := R2.out
            rw [hk88, mixed_all _ _ HS.out (ofE_length s)] at this
            rw [HF.out, ← HS64.out]
            exact this
          clear hk88
          go_wp2_with (first | (with_reducible refine wpList_load_row rfl 23 (.tmp 2) rfl g2 (by with_unfolding_all rfl) 23 (wordsC fin) (0, 0) (.array 8 22) (by with_unfolding_all exact HR2.out) Tryd.underlying23 rfl (Tryd.size8l fin HFL.out) ?_) | ((with_reducible refine wpList_store_row rfl 23 (.tmp 4) (.tmp 108) rfl g4 23 _ (wordsC fin) (by with_unfolding_all rfl) (by with_unfolding_all rfl) R4.out (by rw [wordsC_size, wordsC_size, HFL.out, List.length_replicate]) (Tryd.size8l fin HFL.out) (wordsC_one fin) ?_); intro w9 p9))
          refine bodyPost_ret (results_cell_row rfl _ _ g4 23 (wordsC fin) (0, 0) (.array 8 22) rfl p9.row Tryd.underlying23 rfl (Tryd.size8l fin HFL.out)) rfl ⟨rfl, ?_⟩
          exact p9.below HB.out HB.out.size hg4
end Go.Proofs.YtdojaighchgghaaDoor
