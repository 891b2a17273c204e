/-
  Texts that belong together, merged: ShaF, ShaG, ShaH, AllocB, ShaI, ShaU, E, MacA, Locks, ShaV. Conditions: as each theorem names them.
-/
import Derived.Test.YtpgbicbjlhkonaaDoorQVltAF
import Derived.Test.YtpgbicbjlhkonaaDoorQVltAB
import Derived.Test.YtpgbicbjlhkonaaDoorQVltAC
import Derived.Test.YtpgbicbjlhkonaaDoorQVltAA
import Derived.Deep.MidRow
import Derived.Laws.Cover3
import Derived.Laws.LoneSync
import Derived.Stop.BytesEq
import Derived.Below
import Derived.Deep.RegionLaw
import Derived.Test.YtpgbicbjlhkonaaDoorProg
import Derived.Conc.MuLone
import Derived.Conc.MuData
import Derived.KernelRfl
import Derived.Defers
import Derived.Deep.AppendLies
section
namespace Go.Proofs.YtpgbicbjlhkonaaDoor
open Go.RowKit Go.Shelf
attribute [local go_sem] Oper.semAt_some
set_option linter.unusedVariables false
set_option maxRecDepth 20000

theorem squares_range {w : World} (h : Tabs w) : w.rangeAt 0 0 (cellsW squaresW) := by
  intro j v hv
  have hj : j < squaresW.length := by
    rcases Nat.lt_or_ge j squaresW.length with hlt | hge
    · exact hlt
    · rw [List.getElem?_eq_none (by rw [cellsW_length]; exact hge)] at hv; cases hv
  have h8 := h.squares j (by rw [squaresW_length] at hj; exact hj)
  rw [Nat.zero_add, h8]
  rw [← hv]
  simp [cellsW, List.getD_eq_getElem?_getD, hj]
theorem block_range {w : World} {b off : Nat} {l : List UInt8} (hc : ∀ j (h : j < l.length), w.cell? ⟨b, off + j, none⟩ = some (.int .u8 (l[j].toNat : Int))) (k : Nat) (hk : 64 * k + 64 ≤ l.length) :
    w.rangeAt b (off + 64 * k) (cellsB ((l.drop (64 * k)).take 64)) := by
  intro j v hv
  have hj : j < 64 := by
    rcases Nat.lt_or_ge j 64 with hlt | hge
    · exact hlt
    · rw [List.getElem?_eq_none (by rw [cellsB_length, List.length_take]; omega)] at hv; cases hv
  rw [Nat.add_assoc, hc (64 * k + j) (by omega), ← hv]
  have hj2 : 64 * k + j < l.length := by omega
  simp [cellsB, hj, hj2]
/-- A post without panics. -/
def NoPanic (Q : Exit → Act → World → Prop) : Exit → Act → World → Prop
  | .panic _, _, _ => False
  | e, a, w => Q e a w
theorem NoPanic.out {Q : Exit → Act → World → Prop} : ∀ (e : Exit) (a : Act) (w : World), NoPanic Q e a w → Q e a w := by
  intro e a w h
  cases e <;> first | exact h | exact h.elim
theorem Tryd.size32F : (Tryd.prog.info? 64).map (·.size) = some 1 := by kernel_rfl
theorem wordsC_same8 {a b : List UInt32} {n : Nat} (ha : a.length = n) (hb : b.length = n) : (wordsC a).size = (wordsC b).size := by rw [wordsC_size, wordsC_size, ha, hb]
theorem bytesOfW_snoc (l : List UInt32) (x : UInt32) : bytesOfW (l ++ [x]) = bytesOfW l ++ (lowB x.toNat 4).reverse := by simp [bytesOfW]
def stepB (all : List UInt8) (N : Nat) (st : List UInt32) (x : Fin N) : List UInt32 := blockW st ((all.drop (64 * x.val)).take 64)
theorem foldl_length (all : List UInt8) (N : Nat) (pre : List (Fin N)) (st : List UInt32) (h : st.length = 8) : (pre.foldl (stepB all N) st).length = 8 := by
  induction pre generalizing st with
  | nil => exact h
  | cons x pre ih => exact ih _ (blockW_length _ _ h)
theorem foldl_all (all : List UInt8) (N : Nat) (st : List UInt32) : (List.finRange N).foldl (stepB all N) st = foldB st all N := by
  have h : ∀ k, k ≤ N → ((List.finRange N).take k).foldl (stepB all N) st = foldB st all k := by
    intro k
    induction k with
    | zero => intro _; simp [foldB]
    | succ k ih =>
      intro hk
      rw [take_fin N k (by omega), List.foldl_append, ih (by omega)]
      rfl
  have h2 := h N (Nat.le_refl _)
  rwa [List.take_of_length_le (by simp)] at h2
theorem run_load_midO {P : Program} {o : Oper} {a : Act} {w : World} (ty : TypeId) (x : Operand) (ho : o.op = .load ty x)
    (b off : Nat) (hx : a.eval x = .pointer (some ⟨b, off, none⟩)) (cs : List Value) (d : TypeDesc) (hc : w.rangeAt b off cs)
    (hu : P.underlying ty = some d) (hd : d.isRow = true) (hi : (P.info? ty).map (·.size) = some cs.length) : (execOp a.eval o).run P w = .ok (.value (.agg cs.toArray)) w := by
  unfold execOp
  simp only [ho, hx, Instr.loadAt, Instr.sureAddr, Sem.run_bind, Sem.run_pure, Result.andThen_ok, run_loadVar_mid w b off ty cs d hc hu hd hi]
theorem paddedB_blocks (l : List UInt8) : ∃ N, (paddedB l).length = 64 * N ∧ 1 ≤ N ∧ 64 * N ≤ l.length + 72 := by
  have h : (paddedB l).length = l.length + (9 + (119 - l.length % 64) % 64) := by rw [paddedB, List.length_append, padB_length]
  exact ⟨(paddedB l).length / 64, by omega, by omega, by omega⟩

set_option maxHeartbeats 2000000 in
theorem digest_any (w : World) (ht : Tabs w) (v : Value) (l : List UInt8) (hb : Bs w v l) (hl : l.length ≤ 1000000) :
    Calls Tryd.prog 59 #[v] w (RetV w (keyV (digestB l))) := by
  have HV := Lib.hid hb
  have HT := Lib.hid ht
  obtain ⟨A, c, rfl, h1, h2, h3⟩ := hb
  unfold maxLen at h2
  obtain ⟨N, hN, hN1, hN2⟩ := paddedB_blocks l
  have HN := Lib.hid hN
  have hdig : Hid (digestB l = bytesOfW (foldB squaresW (paddedB l) N)) := by
    show _ = _
    rw [digestB, hN, Nat.mul_div_cancel_left _ (by omega)]
  clear h3 ht hN
  refine (callsIn_wide (n := 3)).1 ?_
  refine callsIn_of_wp_marks Tryd.func59 rfl trivial ?_ rfl
  simp only [Tryd.ntmps59, List.size_toArray, List.length_cons, List.length_nil, Nat.reduceAdd, Nat.reduceSub, Array.replicate_succ, Array.replicate_zero, List.push_toArray, List.append_toArray, List.nil_append, List.cons_append]
  refine wpIn_wide.2 ?_
  go_wp2_with (first
    | ((with_reducible refine wpList_alloc_row (o := ⟨some 2, _, _, _, _, _⟩) rfl 102 rfl (keyC zeroKey) Tryd.zeroK ?_); intro g1 w1 n1)
    | (with_reducible refine wpList_load_mid (op := ⟨some 8, _, _, _, _, _⟩) rfl 135 (.global 0) rfl 0 0 (by with_unfolding_all rfl) (cellsW squaresW) (.array 8 64) (by with_unfolding_all exact squares_range (HT.out.below n1.below)) Tryd.underlying135 rfl (by with_unfolding_all exact Tryd.size8l squaresW squaresW_length) ?_)
    | ((with_reducible refine wpList_alloc_row (o := ⟨some 3, _, _, _, _, _⟩) rfl 135 rfl (wordsC (List.replicate 8 0)) Tryd.zero8 ?_); intro g3 w3 n3)
    | ((with_reducible refine wpList_store_row (o := ⟨none, _, _, _, _, _⟩) rfl 135 (.tmp 3) (.tmp 8) rfl g3 135 _ (wordsC squaresW) (by with_unfolding_all rfl) (by with_unfolding_all rfl) n3.row (wordsC_same8 (by simp) squaresW_length) (Tryd.size8l squaresW squaresW_length) (wordsC_one squaresW) ?_); intro w4 p4))
  have z1 := n1.size
  have z3 := n3.size
  have e1 := n1.spot
  have e3 := n3.spot
  have b3 := (laid_put n3 p4).1
  have R1 := Lib.hid (n1.row.kept b3)
  have R3 := Lib.hid p4.row
  have B4 := Lib.hid (below_size n1.below b3)
  have hg1 : w.heap.size ≤ g1 := by omega
  have h13 : g1 < g3 := by omega
  clear n1 n3 p4 b3 z1 z3 e1 e3
  refine (Pad_any _ l.length (by omega)).mono ?_
  rintro e w5 ⟨u5, rfl, hu5, b5⟩
  have HU5 := Lib.hid hu5
  have HV5 := Lib.hid (HV.out.below (below_size B4.out b5))
  have R15 := Lib.hid (R1.out.kept b5)
  have R35 := Lib.hid (R3.out.kept b5)
  have B5 := Lib.hid (below_size B4.out b5)
  obtain ⟨A5, c5, rfl, m1, m2, _⟩ := hu5
  clear b5 R1 R3 B4
  go_wp2_with fail
  refine (Join_any _ _ [l, padB l.length] (Bss.two _ _ _ _ _ _ HV5.out HU5.out) (by simp [padB_length]; omega) (by simp)).mono ?_
  rintro e w6 ⟨u6, rfl, hu6, b6⟩
  have b6' := below_size ((Below.refl _ w5).alloc (Nat.le_refl _) _) b6
  have hflat : [l, padB l.length].flatten = paddedB l := by simp [paddedB]
  rw [hflat] at hu6
  have R16 := Lib.hid (R15.out.kept b6')
  have R36 := Lib.hid (R35.out.kept b6')
  have B6 := Lib.hid (below_size B5.out b6')
  obtain ⟨A2, c2, rfl, k1, k2, k3⟩ := hu6
  have hNl := HN.out
  obtain ⟨bb, oo, rfl, hcells⟩ := k3 (by omega)
  rw [hNl] at k1 ⊢
  have HC6 := Lib.hid hcells
  clear hcells k3 hflat b6 b6' R15 R35 B5 HU5 HV5
  go_wp2_with fail
  refine (chunk_any _ bb oo c2 N).mono ?_
  rintro e w7 ⟨q1, q2, rfl, cut, ⟨hq1, hq2⟩, b7⟩
  have R17 := Lib.hid (R16.out.kept b7)
  have R37 := Lib.hid (R36.out.kept b7)
  have B7 := Lib.hid (below_size B6.out b7)
  have CUT := Lib.hid cut
  have lt3 := R36.out.lt
  have lt1 := R16.out.lt
  have HC7 : Hid (∀ (x : Nat) (W : World), KeepsAt (fun k => k = bb) w7 W → x < N → W.rangeAt bb (oo + 64 * x) (cellsB (((paddedB l).drop (64 * x)).take 64))) := fun x W hk hx => block_range (fun j hj => (World.cell?_of_block (w := w7) (w' := W) (a := ⟨bb, oo + j, none⟩) (hk bb rfl)).trans ((b7.cell (p := ⟨bb, oo + j, none⟩) (World.block_lt_of_cell? w6 _ (HC6.out j hj))).trans (HC6.out j hj))) x (by rw [HN.out]; omega)
  have ltb : bb < w7.heap.size := Nat.lt_of_lt_of_le (World.block_lt_of_cell? w6 _ (HC6.out 0 (by rw [HN.out]; omega))) b7.size
  have hb3 : bb ≠ g3 := fun e => by
    have h0 := HC6.out 0 (by rw [HN.out]; omega)
    rw [e, R36.out.cell] at h0
    have h1 := Array.mem_of_getElem? h0
    simp [wordsC, cellsW] at h1
  clear cut b7 R16 R36 B6 HC6
  have l3 := R37.out.lt
  have l1 := R17.out.lt
  go_wp2_with fail
  refine (wpIn_wide (n := 3)).1 ?_
  refine wpIn_rangeFunc_ownH (F := Fence.wide) rfl (by omega) (gf := 79) (lb := #[.pointer (some ⟨q1, 0, none⟩), .pointer (some ⟨q2, 0, none⟩)]) rfl trivial (enters_of Tryd.func79 (by kernel_rfl) rfl)
    (chunk1_stops 2 (by omega) q1 q2 bb oo c2 N k1 k2 w7 CUT.out) keepsAt_t (keepsAt_b CUT.out.lt) (Below.refl _ _) (fun _ => rfl)
    (fun pre W => RowAt W g3 135 (wordsC (pre.foldl (stepB (paddedB l) N) squaresW)) ∧ RowAt W g1 102 (keyC zeroKey) ∧ KeepsAt (fun k => k = bb) w7 W ∧ Below w.heap.size w W ∧ w7.heap.size ≤ W.heap.size)
    (fun _ _ _ => False)
    (fun s X Y row hs hg hr => by
      obtain ⟨i1, i2, i3, i4, i5⟩ := hs
      have hne : ∀ g, g < w7.heap.size → some g ≠ row := fun g hgl e => by have := (hr g e.symm).1; omega
      exact ⟨i1.grown hg (hne _ l3), i2.grown hg (hne _ l1), i3.trans (KeepsAt.of_grown hg (fun k hk => by subst hk; exact ⟨by omega, hne _ ltb⟩)), i4.grown hg (by have := B7.out.size; omega) (fun k e => by have := (hr k e).1; have := B7.out.size; omega), Nat.le_trans i5 hg.size⟩)
    (fun _ _ _ _ _ hs _ _ => hs)
    ⟨R37.out, R17.out, KeepsAt.refl _ _, B7.out, Nat.le_refl _⟩
    (fun x a' W => a' = { tmps := #[.slice A l.length c, undef, .pointer (some ⟨g1, 0, none⟩), .pointer (some ⟨g3, 0, none⟩), .slice (some ⟨bb, oo + 64 * x.val, none⟩) 64 64, undef, undef, undef, .agg (cellsW squaresW).toArray, .slice A l.length c, .slice A l.length c, .int .i64 (l.length : Int), .slice A5 (padB l.length).length c5, .slice (some ⟨w5.heap.size, 0, none⟩) 2 2, .slice (some ⟨bb, oo, none⟩) (64 * N) c2, .func (.func 79) #[] #[.pointer (some ⟨q1, 0, none⟩), .pointer (some ⟨q2, 0, none⟩)], .slice (some ⟨bb, oo + 64 * x.val, none⟩) 64 64, undef, undef, undef, undef, undef, undef, undef, undef, undef, undef, undef, undef, undef, undef, undef, undef, undef, undef, undef], defers := [] })
    (fun x a' _ X Y row hs hg hr => hs)
    ?assign ?body ?done ?stop
  case assign =>
    rintro lo pre x W K hI hK
    gi_wp2
    exact hK _ _ ((KeepsOthers.of_below (Below.refl _ _)).from _) (KeepsAt.refl _ _) hI rfl
  case body =>
    rintro lo pre x a' W hlo hrec ⟨i1, i2, i3, i4, i5⟩ rfl hlt
    obtain ⟨st, hst⟩ : ∃ st, st = pre.foldl (stepB (paddedB l) N) squaresW := ⟨_, rfl⟩
    have hsl : st.length = 8 := by rw [hst]; exact foldl_length _ _ _ _ squaresW_length
    obtain ⟨bk, hbk⟩ : ∃ bk, bk = ((paddedB l).drop (64 * x.val)).take 64 := ⟨_, rfl⟩
    have hxN := x.isLt
    have hbl : bk.length = 64 := by rw [hbk, List.length_take, List.length_drop, HN.out]; omega
    have hnext : (pre ++ [x]).foldl (stepB (paddedB l) N) squaresW = blockW st bk := by rw [List.foldl_append, hst, hbk]; rfl
    have HR : Hid (∀ W', KeepsAt (fun k => k = bb) w7 W' → W'.rangeAt bb (oo + 64 * x.val) (cellsB bk)) := fun W' hk => by rw [hbk]; exact HC7.out x.val W' hk hxN
    rw [← hst] at i1
    have HNX := Lib.hid hnext
    have HSL := Lib.hid hsl
    have HBL := Lib.hid hbl
    have I2 := Lib.hid i2
    have I4 := Lib.hid i4
    clear hnext hsl hbl hst hbk i2 i4 hrec hlt
    gi_wp2
    refine round_region (S := fun W' => RowAt W' g3 135 (wordsC st) ∧ KeepsAt (fun k => k = bb) w7 W') (fin := fun j => j == 5) (by kernel_rfl) (by kernel_rfl) (by rintro ⟨_, _, h⟩; exact h) ?_
    have hS : RowAt W.drew g3 135 (wordsC st) ∧ KeepsAt (fun k => k = bb) w7 W.drew := ⟨i1, i3⟩
    change walkS _ _ _ _ _ _ 6 _ _ _
    refine walkS_take (i := 0) (oi := ⟨some 17, _, _, _, _, _⟩) (v := .agg (wordsC st)) rfl (by kernel_rfl) (by kernel_rfl) (fun _ _ _ h => h) _ _ _ _ (by kernel_rfl) (by kernel_rfl) (Or.inl ⟨by rfl, fun w' hS' => run_load_row _ (.tmp 3) rfl g3 rfl _ (wordsC st) (0, 0) (.array 8 64) hS'.1 Tryd.underlying135 rfl (Tryd.size8l st HSL.out)⟩) hS ?_
    simp only [Act.put, List.setIfInBounds_toArray, List.set_cons_zero, List.set_cons_succ]
    refine walkS_take (i := 1) (oi := ⟨some 18, _, _, _, _, _⟩) (v := .slice (some ⟨bb, oo + 64 * x.val, none⟩) 64 64) rfl (by kernel_rfl) (by kernel_rfl) (fun _ _ _ h => h) _ _ _ _ (by kernel_rfl) (by kernel_rfl) (Or.inl ⟨by rfl, fun w' hS' => (by clear hS hS' i1 i3; go_simp)⟩) hS ?_
    simp only [Act.put, List.setIfInBounds_toArray, List.set_cons_zero, List.set_cons_succ]
    refine walkS_take (i := 2) (oi := ⟨some 19, _, _, _, _, _⟩) (v := .pointer (some ⟨bb, oo + 64 * x.val, none⟩)) rfl (by kernel_rfl) (by kernel_rfl) (fun _ _ _ h => h) _ _ _ _ (by kernel_rfl) (by kernel_rfl) (Or.inl ⟨by rfl, fun w' hS' => (by have ha := run_arrayAt (P := Tryd.prog) w' 137 5 64 (some ⟨bb, oo + 64 * x.val, none⟩) 64 64 Tryd.underlying137 (Nat.le_refl _); clear hS hS' i1 i3; go_simp)⟩) hS ?_
    simp only [Act.put, List.setIfInBounds_toArray, List.set_cons_zero, List.set_cons_succ]
    refine walkS_take (i := 3) (oi := ⟨some 20, _, _, _, _, _⟩) (v := .agg (keyC bk)) rfl (by kernel_rfl) (by kernel_rfl) (fun _ _ _ h => h) _ _ _ _ (by kernel_rfl) (by kernel_rfl) (Or.inl ⟨by rfl, fun w' hS' => run_load_midO _ (.tmp 19) rfl bb (oo + 64 * x.val) rfl (cellsB bk) (.array 64 5) (HR.out _ hS'.2) Tryd.underlying137 rfl (by rw [cellsB_length, HBL.out]; exact Tryd.size64b0)⟩) hS ?_
    simp only [Act.put, List.setIfInBounds_toArray, List.set_cons_zero, List.set_cons_succ]
    refine walkS_only (i := 4) (o := ⟨some 21, _, _, _, _, _⟩) (by kernel_rfl) rfl rfl fun K hK => ?_
    clear hS
    have HT4 : Hid (Tabs W.drew) := HT.out.below I4.out.drew
    have J1 := Lib.hid i1
    have J3 := Lib.hid i3
    clear i1 i3
    go_simp
    refine (Block_any _ HT4.out st bk HSL.out HBL.out).mono ?_
    rintro e W1 ⟨rfl, b1⟩
    have b1' : Below W.heap.size W W1 := below_size (Below.refl _ _).drew b1
    have hk1 : KeepsAt (fun k => k = bb) W W1 := KeepsAt.of_below b1' (fun k hk => by subst hk; omega)
    have hR1 := J1.out.kept b1'
    refine hK _ _ (.inr ⟨hR1, J3.out.trans hk1⟩) ?_
    clear hK K
    refine walkS_only (i := 5) (o := ⟨none, _, _, _, _, _⟩) (by kernel_rfl) rfl rfl fun K hK => ?_
    refine wp_store_row 135 (.tmp 3) (.tmp 21) rfl g3 135 (wordsC st) (wordsC (blockW st bk)) rfl rfl hR1 (wordsC_same8 HSL.out (blockW_length _ _ HSL.out)) (Tryd.size8l _ (blockW_length _ _ HSL.out)) (wordsC_one _) ?_
    intro W2 p2
    refine hK _ _ (.inl rfl) ?_
    clear hK K
    refine walkS_done (by kernel_rfl) ?_ _
    have hko : KeepsOthers W1 W2 := KeepsOthers.of_grownBy p2.grown (fun j o ej hj => by
      injection ej with ej
      subst ej
      rw [show W1.heap[g3]? = _ from hR1] at hj
      cases hj
      rfl)
    have hne : ∀ k, k < w7.heap.size → k ≠ g3 → some k ≠ some g3 := fun k _ h e => h (by injection e)
    have hs1 := b1'.size
    refine ⟨((KeepsOthers.of_below b1').trans hko).from _, ?_, ?_, ?_, ?_, ?_, ?_⟩
    · exact (KeepsAt.of_below b1' (fun k hk => Nat.lt_of_lt_of_le (CUT.out.lt k hk) i5)).trans (KeepsAt.of_grown p2.grown (fun k hk => ⟨by have := CUT.out.lt k hk; omega, by
        intro e
        injection e with e
        rcases hk with h | h <;> omega⟩))
    · rw [HNX.out]; exact p2.row
    · exact (I2.out.kept b1').grown p2.grown (by intro e; injection e with e; omega)
    · exact (J3.out.trans hk1).trans (KeepsAt.of_grown p2.grown (fun k hk => ⟨by subst hk; omega, by
        intro e
        injection e with e
        omega⟩))
    · exact p2.below (below_size I4.out b1') (by have := B7.out.size; omega) (by omega)
    · have := p2.size; omega
  case done =>
    rintro D xs W hD rfl ⟨i1, i2, i3, i4, i5⟩ hKD
    rw [foldl_all] at i1
    obtain ⟨ws, hws⟩ : ∃ ws, ws = foldB squaresW (paddedB l) N := ⟨_, rfl⟩
    have hwl : ws.length = 8 := by rw [hws, foldB_length _ _ _ squaresW_length]
    obtain ⟨fin, hfin⟩ : ∃ fin, fin = digestB l := ⟨_, rfl⟩
    have HFIN : Hid (fin = bytesOfW ws) := by show _ = _; rw [hfin, hdig.out, hws]
    have HFL : Hid (fin.length = 32) := by show _ = _; rw [hfin, digestB_length]
    rw [← hws] at i1
    have HFD := Lib.hid hfin
    have HWL := Lib.hid hwl
    have J1 := Lib.hid i1
    have J2 := Lib.hid i2
    have J4 := Lib.hid i4
    have hDW : D < W.heap.size := (Array.getElem?_eq_some_iff.1 hKD).1
    have hgD : g1 ≠ D := by omega
    have JD := Lib.hid hKD
    clear hws hwl hfin hdig HC7 CUT R17 R37 B7 i1 i2 i3 i4 hKD
    go_wp2_with (first
      | ((with_reducible refine wpList_alloc_row (o := ⟨some 5, _, _, _, _, _⟩) rfl 102 rfl (keyC zeroKey) Tryd.zeroK ?_); intro g5 w8 n8)
      | (with_reducible refine wpList_load_row (o := ⟨some 22, _, _, _, _, _⟩) rfl 135 (.tmp 3) rfl g3 (by with_unfolding_all rfl) 135 (wordsC ws) (0, 0) (.array 8 64) (by with_unfolding_all exact J1.out.kept n8.below) Tryd.underlying135 rfl (Tryd.size8l ws HWL.out) ?_))
    have e8 := n8.spot
    have hWs := J4.out.size
    have hg5 : w.heap.size ≤ g5 := by omega
    have hD5 : D < g5 := by omega
    have h15 : g1 < g5 := by omega
    have K5 : Hid (RowAt w8 g5 102 (keyC (fillB (bytesOfW (ws.take 0)) 32))) := n8.row
    have K1 : Hid (RowAt w8 g1 102 (keyC zeroKey)) := J2.out.kept n8.below
    have KD : Hid (w8.heap[D]? = some (.deferred (some []))) := (n8.below.block D hDW).trans JD.out
    have KB : Hid (Below w.heap.size w w8) := below_size J4.out n8.below
    clear n8 e8 J1 J2 J4 JD
    go_loopw [23] (fun i wr => ∃ k : Nat, k ≤ 8 ∧ i = .int .i64 k ∧ RowAt wr g1 102 (keyC zeroKey) ∧ RowAt wr g5 102 (keyC (fillB (bytesOfW (ws.take k)) 32)) ∧ wr.heap[D]? = some (.deferred (some [])) ∧ Below w.heap.size w wr) (fun i _ => 8 - (intOf i).toNat)
    case atStart => exact ⟨0, by omega, rfl, K1.out, K5.out, KD.out, KB.out⟩
    case round =>
      clear K1 K5 KD KB
      obtain ⟨k, hk, rfl, hr1, hr5, hrD, hb⟩ := hrel
      have R1 := Lib.hid hr1
      have R5 := Lib.hid hr5
      have RD := Lib.hid hrD
      have HB := Lib.hid hb
      clear hr1 hr5 hrD hb
      by_cases hlt : k < 8
      · have hln : (bytesOfW (ws.take k)).length = 4 * k := by rw [bytesOfW_length, List.length_take_of_le (by rw [HWL.out]; omega)]
        have htk : bytesOfW (ws.take (k + 1)) = bytesOfW (ws.take k) ++ (lowB (ws.getD k 0).toNat 4).reverse := by
          rw [List.take_succ_eq_append_getElem (by rw [HWL.out]; omega), bytesOfW_snoc]
          simp [HWL.out, hlt]
        have hix := fun x : World => run_index_arr (P := Tryd.prog) x 135 64 8 (wordsC ws) .i64 .u32 k Tryd.underlying135 Tryd.underlying64 Tryd.size32F hlt _ (wordsC_get ws k (by rw [HWL.out]; omega))
        have hsl := fun x : World => run_sliceArrL (P := Tryd.prog) x 102 5 32 Tryd.underlying102 Tryd.sizeB g5 0 (4 * k) (4 * (k : Int)) (by omega) (by omega)
        rw [Nat.zero_add] at hsl
        have HT2 := Lib.hid htk
        have HLN := Lib.hid hln
        generalize ws.getD k 0 = x at hix HT2
        have hx := x.toNat_lt
        clear htk hln
        have hdl : ((lowB x.toNat 4).reverse).length = 4 := by rw [List.length_reverse, lowB_length]
        have HDL := Lib.hid hdl
        have hq : 4 * (k : Int) < 32 := by omega
        have hw64 : IntKind.u64.wrap (x.toNat : Int) = (x.toNat : Int) := by rw [IntKind.wrap_u64]; omega
        clear hdl
        have hw4 : IntKind.i64.wrap (4 * (k : Int)) = 4 * (k : Int) := IntWalk.i64_in _ (by omega)
        have hg5r : g5 ≤ wr.heap.size := by have := R5.out.lt; omega
        go_wp2_with fail
        refine Code.wp_mono NoPanic.out ?_
        go_region_law (first
          | (go_simp; go_at_call 57; refine (High_in _ x.toNat 4 (by omega) (by omega) (by omega)).mono ?_; rintro e w3 ⟨_, rfl, hbs, b3⟩; have HS := Lib.hid hbs; obtain ⟨A9, c9, rfl, h1, h2, h3⟩ := hbs; clear h1 h2 h3)
          | (refine step_copy_splice rfl (.tmp 29) (.tmp 32) 23 23 rfl 5 Tryd.underlying23 Tryd.sizeB (some ⟨g5, 4 * k, none⟩) A9 (32 - 4 * k) (32 - 4 * k) ((lowB x.toNat 4).reverse).length c9 rfl rfl g5 (4 * k) (cellsB (fillB (bytesOfW (ws.take k)) 32)) 102 (R5.out.drew.kept b3) (cellsB ((lowB x.toNat 4).reverse)) (by rw [cellsB_length, HDL.out]; show 4 = min 4 _; omega) (copy_from HS.out) (by rw [cellsB_length, cellsB_length, fillB_length _ _ (by rw [HLN.out]; omega), HDL.out]; omega) (cellsB_one _) g5 wr ((Below.refl g5 wr).drew.trans (b3.mono hg5r)) (Nat.le_refl _) ?_; intro w4 hr4 hb4))
        have hr5 := hr4.out
        rw [splice_bytes] at hr5
        have hst := fillB_step (bytesOfW (ws.take k)) ((lowB x.toNat 4).reverse) 32 (by rw [HLN.out, HDL.out]; omega)
        rw [HLN.out] at hst
        rw [hst, ← HT2.out] at hr5
        have R5n : Hid (RowAt w4 g5 102 (keyC (fillB (bytesOfW (ws.take (k + 1))) 32))) := hr5
        have HB4 : Hid (Below w.heap.size w w4) := HB.out.trans (hb4.mono hg5)
        have R14 : Hid (RowAt w4 g1 102 (keyC zeroKey)) := R1.out.below hb4 h15
        have RD4 : Hid (w4.heap[D]? = some (.deferred (some []))) := (hb4.block D hD5).trans RD.out
        clear hr5 hr4 hst hb4 hix hsl
        simp only [NoPanic]
        go_wp2
        go_roundw
        case rel => exact ⟨k + 1, by omega, by go_num, R14.out, R5n.out, RD4.out, HB4.out⟩
        case measure => simp [intOf]; omega
      · have hk8 : k = 8 := by omega
        have R53 : Hid (RowAt wr g5 102 (keyC fin)) := by
          have := R5.out
          rw [hk8, List.take_of_length_le (by rw [HWL.out]; omega), ← HFIN.out, fillB_all _ _ HFL.out] at this
          exact this
        clear hk8 R5
        go_wp2_with (first
          | (with_reducible refine wpList_load_row (o := ⟨some 35, _, _, _, _, _⟩) rfl 102 (.tmp 5) rfl g5 (by with_unfolding_all rfl) 102 (keyC fin) (0, 0) (.array 32 5) (by with_unfolding_all exact R53.out) Tryd.underlying102 rfl (Tryd.sizeKey fin HFL.out) ?_)
          | ((with_reducible refine wpList_store_row (o := ⟨none, _, _, _, _, _⟩) rfl 102 (.tmp 2) (.tmp 35) rfl g1 102 _ (keyC fin) (by with_unfolding_all rfl) (by with_unfolding_all rfl) R1.out (keyC_same zeroKey_length HFL.out) (Tryd.sizeKey fin HFL.out) (keyC_one fin) ?_); intro w9 p9))
        have hD9 : w9.heap[D]? = some (.deferred (some [])) := (p9.grown.block D (Array.getElem?_eq_some_iff.1 RD.out).1 (by intro e; injection e with e; omega)).trans RD.out
        have B9 : Below w.heap.size w w9 := p9.below HB.out HB.out.size hg1
        refine ⟨by simp, .inl ⟨_, _, rfl, run_takeDeferred hD9, ?_⟩⟩
        have hD2 : ∀ r, some D = some r → ∃ o : Obj, w9.heap[r]? = some o ∧ o.isCells = false := by
          rintro r e
          cases e
          exact ⟨_, hD9, rfl⟩
        exact ⟨_, results_cell_row rfl _ _ g1 102 (keyC fin) (0, 0) (.array 32 5) rfl (p9.row.grown (grownBy_putObj' w9 D _) (by intro e; injection e with e; omega)) Tryd.underlying102 rfl (Tryd.sizeKey fin HFL.out), by rw [← HFD.out]; rfl, B9.trans (belowK_b (w := w) (Nat.le_refl _) w9 D _ _ (by omega) hD9 rfl rfl)⟩
  case stop =>
    rintro D c pre W _ _ h _
    exact h.elim
end Go.Proofs.YtpgbicbjlhkonaaDoor
end
section
namespace Go.Proofs.YtpgbicbjlhkonaaDoor
open Go.RowKit
set_option linter.unusedVariables false
set_option maxRecDepth 20000

/-- What a Meter holds. -/
def meterC (keep : Bool) (n : Nat) (s : Value) : Array Value := #[.bool keep, .int .i64 (n : Int), .int .i32 0, .int .u32 0, s]

set_option maxHeartbeats 400000 in
theorem New_any (w : World) (keep : Bool) :
    Calls Tryd.prog 11 #[.bool keep] w fun e w' => ∃ g, e = .returned (.pointer (some ⟨g, 0, none⟩)) ∧ NewRow w g 70 (meterC keep 0 (.slice none 0 0)) w' := by
  go_enter Tryd.func11, Tryd.ntmps11
  go_wp2
  go_ret
  exact ⟨_, rfl, NewRow.mk_ w 70 (meterC keep 0 (.slice none 0 0))⟩

set_option maxHeartbeats 400000 in
theorem note_nil (w : World) (v : Value) :
    Calls Tryd.prog 60 #[.pointer none, v] w fun e w' => (∃ x, e = .returned x) ∧ w' = w := by
  go_enter Tryd.func60, Tryd.ntmps60
  go_wp2
  first | go_end0 | refine bodyPost_ret (results_none rfl _ _ _) rfl ?_
  all_goals exact ⟨⟨_, rfl⟩, rfl⟩

set_option maxHeartbeats 400000 in
theorem note_count (w : World) (g n : Nat) (s v : Value) (hn : n ≤ 1000000000) (hr : RowAt w g 70 (meterC false n s)) :
    Calls Tryd.prog 60 #[.pointer (some ⟨g, 0, none⟩), v] w fun e w' => (∃ x, e = .returned x) ∧ RowAt w' g 70 (meterC false (n + 1) s) ∧ w.grownBy w' (some g) := by
  have c0 : w.cell? ⟨g, 0, none⟩ = some (.bool false) := hr.cell 0
  have c1 : w.cell? ⟨g, 1, none⟩ = some (.int .i64 (n : Int)) := hr.cell 1
  have z1 : w.frozen? ⟨g, 1, none⟩ = false := hr.frozen 1
  have hadd := run_call_add (P := Tryd.prog) Tryd.func85 (by kernel_rfl) (by kernel_rfl) (by kernel_rfl) .i64 (by kernel_rfl) (y := 1) (s := ((n + 1 : Nat) : Int)) c1 z1 (by simp [go_sem]; rw [IntWalk.i64_in _ (by omega)])
  have hput := hr.put 1 (.int .i64 ((n + 1 : Nat) : Int))
  have HP : Hid (RowAt (w.setCell ⟨g, 1, none⟩ (.int .i64 ((n + 1 : Nat) : Int))) g 70 (meterC false (n + 1) s)) := hput
  clear hput hr
  go_enter Tryd.func60, Tryd.ntmps60
  go_wp2
  go_end0
  have hp := HP.out
  rw [show ((n + 1 : Nat) : Int) = (n : Int) + 1 by omega] at hp
  exact ⟨⟨_, rfl⟩, hp, ⟨rfl, rfl, rfl, by simp, fun k _ hne => heap_setCell_other w _ k _ (fun h => hne (by rw [h]))⟩⟩

theorem Tabs.grown {w w' : World} {row : Option Nat} (h : Tabs w) (hg : w.grownBy w' row) (h1 : some 1 ≠ row) (h2 : some 0 ≠ row) : Tabs w' :=
  ⟨fun j hj => (World.cell?_of_block (hg.block _ (World.block_lt_of_cell? w _ (h.cubes j hj)) h1)).trans (h.cubes j hj), fun j hj => (World.cell?_of_block (hg.block _ (World.block_lt_of_cell? w _ (h.squares j hj)) h2)).trans (h.squares j hj)⟩
/-- A Meter is no table. -/
theorem Tabs.apart {w : World} (h : Tabs w) {g n : Nat} {t : TypeId} {keep : Bool} {s : Value} (hr : RowAt w g t (meterC keep n s)) : g ≠ 1 ∧ g ≠ 0 := by
  constructor
  · intro e
    subst e
    have h0 := h.cubes 0 (by omega)
    rw [hr.cell 0] at h0
    simp [meterC] at h0
  · intro e
    subst e
    have h0 := h.squares 0 (by omega)
    rw [hr.cell 0] at h0
    simp [meterC] at h0

set_option maxHeartbeats 1000000 in
theorem Sum_count (w : World) (ht : Tabs w) (g n : Nat) (s v : Value) (ls : List (List UInt8)) (hn : n ≤ 1000000000) (hr : RowAt w g 70 (meterC false n s)) (hb : Bss w v ls) (hl : ls.flatten.length ≤ 1000000) (hm : ls.length ≤ 1000000) :
    Calls Tryd.prog 44 #[.pointer (some ⟨g, 0, none⟩), v] w fun e w' => e = .returned (keyV (digestB ls.flatten)) ∧ RowAt w' g 70 (meterC false (n + 1) s) ∧ w.grownBy w' (some g) := by
  have HT := Lib.hid ht
  have HR := Lib.hid hr
  have HB := Lib.hid hb
  have hgl := hr.lt
  have HD : Hid (∀ x, Tabs x → ∀ u, Bs x u ls.flatten → Calls Tryd.prog 59 #[u] x (RetV x (.agg (keyC (digestB ls.flatten))))) := fun x hx u hu => digest_any x hx u ls.flatten hu hl
  obtain ⟨fin, hfin⟩ : ∃ fin, fin = digestB ls.flatten := ⟨_, rfl⟩
  have HFL : Hid (fin.length = 32) := by show _ = _; rw [hfin, digestB_length]
  rw [← hfin] at HD ⊢
  have HJ := Lib.hid (fun x u hu => Join_any x u ls hu (by omega) (by omega))
  clear ht hr hb hfin
  go_enter Tryd.func44, Tryd.ntmps44
  go_wp2_with ((with_reducible refine wpList_alloc_row (o := ⟨some 4, _, _, _, _, _⟩) rfl 102 rfl (keyC zeroKey) Tryd.zeroK ?_); intro g1 w1 n1)
  refine (HJ.out _ _ (HB.out.keep n1.below)).mono ?_
  rintro e w2 ⟨u, rfl, hu, b2⟩
  have HU := Lib.hid hu
  have R1 := Lib.hid (n1.row.kept b2)
  have B2 := Lib.hid (below_size n1.below b2)
  have hg1 : w.heap.size ≤ g1 := Nat.le_of_eq n1.spot.symm
  clear n1 b2 hu HB HJ
  go_wp2_with fail
  refine (HD.out _ (HT.out.below B2.out) _ HU.out).mono ?_
  rintro e w3 ⟨rfl, b3⟩
  have R13 := Lib.hid (R1.out.kept b3)
  have B3 := Lib.hid (below_size B2.out b3)
  clear b3 R1 B2 HU HD
  go_wp2_with (first
    | ((with_reducible refine wpList_alloc_row (o := ⟨some 6, _, _, _, _, _⟩) rfl 102 rfl (keyC zeroKey) Tryd.zeroK ?_); intro g4 w4 n4)
    | ((with_reducible refine wpList_store_row (o := ⟨none, _, _, _, _, _⟩) rfl 102 (.tmp 6) (.tmp 10) rfl g4 102 _ (keyC fin) (by with_unfolding_all rfl) (by with_unfolding_all rfl) n4.row (keyC_same zeroKey_length HFL.out) (Tryd.sizeKey fin HFL.out) (keyC_one fin) ?_); intro w5 p5))
  have b5 := (laid_put n4 p5).1
  have B5 := Lib.hid (below_size B3.out b5)
  have R15 := Lib.hid (R13.out.kept b5)
  have R45 := Lib.hid p5.row
  have hg4 : w.heap.size ≤ g4 := by rw [n4.spot]; exact B3.out.size
  clear b5 n4 p5 B3 R13
  refine (note_count _ g n s _ hn (HR.out.kept B5.out)).mono ?_
  rintro e w6 ⟨⟨xe, rfl⟩, hr6, hg6⟩
  have G6 : Hid (w.grownBy w6 (some g)) := ⟨hg6.os.trans B5.out.os, hg6.tape.trans B5.out.tape, hg6.output.trans B5.out.output, Nat.le_trans B5.out.size hg6.size, fun k hk hne => (hg6.block k (Nat.lt_of_lt_of_le hk B5.out.size) hne).trans (B5.out.block k hk)⟩
  have R16 := Lib.hid (R15.out.grown hg6 (by intro e; injection e with e; omega))
  have R46 := Lib.hid (R45.out.grown hg6 (by intro e; injection e with e; omega))
  have HR6 := Lib.hid hr6
  clear hr6 hg6 R15 R45 B5
  go_wp2_with (first
    | (with_reducible refine wpList_load_row (o := ⟨some 14, _, _, _, _, _⟩) rfl 102 (.tmp 6) rfl g4 (by with_unfolding_all rfl) 102 (keyC fin) (0, 0) (.array 32 5) (by with_unfolding_all exact R46.out) Tryd.underlying102 rfl (Tryd.sizeKey fin HFL.out) ?_)
    | ((with_reducible refine wpList_store_row (o := ⟨none, _, _, _, _, _⟩) rfl 102 (.tmp 4) (.tmp 14) rfl g1 102 _ (keyC fin) (by with_unfolding_all rfl) (by with_unfolding_all rfl) R16.out (keyC_same zeroKey_length HFL.out) (Tryd.sizeKey fin HFL.out) (keyC_one fin) ?_); intro w9 p9))
  refine bodyPost_ret (results_cell_row rfl _ _ g1 102 (keyC fin) (0, 0) (.array 32 5) rfl p9.row Tryd.underlying102 rfl (Tryd.sizeKey fin HFL.out)) rfl ⟨rfl, HR6.out.grown p9.grown (by intro e; injection e with e; omega), ?_⟩
  have q := p9.grown
  exact ⟨q.os.trans G6.out.os, q.tape.trans G6.out.tape, q.output.trans G6.out.output, Nat.le_trans G6.out.size q.size, fun k hk hne => (q.block k (Nat.lt_of_lt_of_le hk G6.out.size) (by intro e; injection e with e; omega)).trans (G6.out.block k hk hne)⟩
end Go.Proofs.YtpgbicbjlhkonaaDoor
end
section
namespace Go.Proofs.YtpgbicbjlhkonaaDoor
open Go.RowKit
set_option linter.unusedVariables false
set_option maxRecDepth 20000

theorem Bs.upto {w : World} {A : Option Addr} {n c : Nat} {l : List UInt8} (h : Bs w (.slice A n c) l) (k : Nat) (hk : k ≤ l.length) : Bs w (.slice A k c) (l.take k) := by
  obtain ⟨A', c', hv, h1, h2, h3⟩ := h
  injection hv with e1 e2 e3
  subst e1 e2 e3
  have hl : (l.take k).length = k := List.length_take_of_le hk
  refine ⟨A, c, by rw [hl], by rw [hl]; omega, h2, fun h0 => ?_⟩
  rw [hl] at h0
  obtain ⟨b, off, hA, hc⟩ := h3 (by omega)
  refine ⟨b, off, hA, fun j hj => ?_⟩
  rw [hl] at hj
  rw [hc j (by omega)]
  simp


theorem abc_a : (ofHighB ((digestB []).take 4) : Int) = 3820012610 := by rw [digest_empty]; rfl
theorem abc_b : (ofHighB (((digestB []).drop 28).take 4) : Int) = 2018687061 := by rw [digest_empty]; rfl
theorem abc_c : (ofHighB ((digestB [97, 98, 99]).take 4) : Int) = 3128432319 := by rw [digest_abc]; rfl
theorem abc_d : (ofHighB (((digestB [97, 98, 99]).drop 28).take 4) : Int) = 4060091821 := by rw [digest_abc]; rfl
theorem Tryd.sizeOfB2 (w : World) : (sizeOf 5).run Tryd.prog w = .ok 1 w := by kernel_rfl
theorem Tryd.eqKeyIn2 (a b : List UInt8) (ha : a.length = 32) (hb : b.length = 32) (w : World) :
    (Op.equalIn 10000 102 (.agg (keyC a)) (.agg (keyC b))).run Tryd.prog w = .ok (a == b) w :=
  run_equalIn_bytes w 9998 102 5 32 Tryd.underlying102 Tryd.underlying5 Tryd.sizeOfB2 a b ha hb
theorem Tryd.eqGuardKey2 : Tryd.prog.eqGuardType Tryd.prog.depth 102 = false := by kernel_rfl
theorem Bss.nil (w : World) : Bss w (.slice none 0 0) [] := ⟨none, 0, rfl, Nat.le_refl _, by simp [maxLen], fun h => absurd h (by simp)⟩
theorem Bss.one (w : World) (e : TypeId) (u : Value) (a : List UInt8) (ha : Bs w u a) : Bss (w.alloc (.cells #[u] e)) (.slice (some ⟨w.heap.size, 0, none⟩) 1 1) [a] :=
  Bss.lit w e [u] [a] rfl (by simp [maxLen]) (fun j h1 h2 => by
    match j, h1 with
    | 0, _ => exact ha)

theorem Sum_is (w : World) (ht : Tabs w) (g n : Nat) (s v : Value) (ls : List (List UInt8)) (d : List UInt8) (hd : d = digestB ls.flatten) (hn : n ≤ 1000000000) (hr : RowAt w g 70 (meterC false n s)) (hb : Bss w v ls) (hl : ls.flatten.length ≤ 1000000) (hm : ls.length ≤ 1000000) :
    Calls Tryd.prog 44 #[.pointer (some ⟨g, 0, none⟩), v] w fun e w' => e = .returned (.agg (keyC d)) ∧ RowAt w' g 70 (meterC false (n + 1) s) ∧ w.grownBy w' (some g) := by
  rw [hd]
  exact Sum_count w ht g n s v ls hn hr hb hl hm
/-- Behind a Sum: the tables, and what was there but for the Meter. -/
theorem sum_tabs {w w' : World} {g n : Nat} {t : TypeId} {s : Value} (ht : Tabs w) (hr : RowAt w g t (meterC false n s)) (hg : w.grownBy w' (some g)) : Tabs w' :=
  ht.grown hg (by intro e; injection e with e; exact (ht.apart hr).1 e.symm) (by intro e; injection e with e; exact (ht.apart hr).2 e.symm)
end Go.Proofs.YtpgbicbjlhkonaaDoor
end
section
namespace Go.Proofs.YtpgbicbjlhkonaaDoor
open Go.RowKit
theorem alloc_below (w : World) (o : Obj) : Below w.heap.size w (w.alloc o) := (Below.refl _ w).alloc (Nat.le_refl _) o
end Go.Proofs.YtpgbicbjlhkonaaDoor
end
section
namespace Go.Proofs.YtpgbicbjlhkonaaDoor
open Go.RowKit
set_option linter.unusedVariables false
set_option maxRecDepth 20000

theorem Bs.meter {w w' : World} {v : Value} {l : List UInt8} {g n k c : Nat} {t : TypeId} {keep : Bool} {A : Option Addr} (h : Bs w v l) (hr : RowAt w g t (meterC keep n (.slice A k c))) (hg : w.grownBy w' (some g)) : Bs w' v l := by
  obtain ⟨B, d, rfl, h1, h2, h3⟩ := h
  refine ⟨B, d, rfl, h1, h2, fun h0 => ?_⟩
  obtain ⟨b, off, hA, hc⟩ := h3 h0
  refine ⟨b, off, hA, fun j hj => ?_⟩
  have hcj := hc j hj
  have hb : b ≠ g := by
    intro e
    subst e
    rw [hr.cell] at hcj
    simp only [meterC] at hcj
    rcases hx : off + j with _ | _ | _ | _ | _ | m <;> rw [hx] at hcj <;> simp at hcj
  exact (World.cell?_of_block (a := ⟨b, off + j, none⟩) (hg.block _ (World.block_lt_of_cell? w _ hcj) (by intro e; injection e with e; exact hb e))).trans hcj
/-- What a call has of a Meter that it made: the Meter's row, the tables, and what was there before. -/
structure Meet (w0 : World) (g n : Nat) (w : World) : Prop where
  below : Below w0.heap.size w0 w
  row : RowAt w g 70 (meterC false n (.slice none 0 0))
  tabs : Tabs w
  far : w0.heap.size ≤ g
theorem Meet.kept {w0 w w' : World} {g n : Nat} (h : Meet w0 g n w) (hb : Below w.heap.size w w') : Meet w0 g n w' :=
  ⟨below_size h.below hb, h.row.kept hb, h.tabs.below hb, h.far⟩
theorem Meet.new {w0 w w' : World} {g : Nat} (ht : Tabs w) (hb : Below w0.heap.size w0 w) (h : NewRow w g 70 (meterC false 0 (.slice none 0 0)) w') : Meet w0 g 0 w' :=
  ⟨below_size hb h.below, h.row, ht.below h.below, by rw [h.spot]; exact hb.size⟩
/-- What a Sum leaves as it was: every row but the Meter's, and all bytes. -/
structure LeftBut (w w' : World) (g : Nat) : Prop where
  row : ∀ x t cs, x ≠ g → RowAt w x t cs → RowAt w' x t cs
  bs : ∀ v l, Bs w v l → Bs w' v l
  size : w.heap.size ≤ w'.heap.size
theorem LeftBut.of {w0 w w' : World} {g n : Nat} (h : Meet w0 g n w) (hg : w.grownBy w' (some g)) : LeftBut w w' g :=
  ⟨fun x t cs hx hr => hr.grown hg (by intro e; injection e with e; exact hx e), fun v l hv => hv.meter h.row hg, hg.size⟩

theorem Sum_meet (w0 w : World) (g n : Nat) (v : Value) (ls : List (List UInt8)) (d : List UInt8) (h : Meet w0 g n w) (hn : n ≤ 1000000000) (hd : d = digestB ls.flatten) (hb : Bss w v ls) (hl : ls.flatten.length ≤ 1000000) (hm : ls.length ≤ 1000000) :
    Calls Tryd.prog 44 #[.pointer (some ⟨g, 0, none⟩), v] w fun e w' => e = .returned (.agg (keyC d)) ∧ Meet w0 g (n + 1) w' ∧ LeftBut w w' g := by
  refine (Sum_is w h.tabs g n _ v ls d hd hn h.row hb hl hm).mono fun e w' hp => ?_
  obtain ⟨he, hr, hg⟩ := hp
  exact ⟨he, ⟨h.below.grown hg h.below.size (fun k e => by injection e with e; rw [← e]; exact h.far), hr, sum_tabs h.tabs h.row hg, h.far⟩, LeftBut.of h hg⟩

theorem Bs.cutAt {w : World} {b off n c : Nat} {l : List UInt8} (h : Bs w (.slice (some ⟨b, off, none⟩) n c) l) (k : Nat) (hk : k ≤ l.length) (hc : c ≠ k) :
    Bs w (.slice (some ⟨b, off + k, none⟩) (l.length - k) (c - k)) (l.drop k) := by
  have h2 := h.cut k hk
  have hadd : (⟨b, off, none⟩ : Addr).add k = ⟨b, off + k, none⟩ := by unfold Addr.add; split <;> simp_all
  rw [if_neg hc, Option.map_some, hadd] at h2
  exact h2
theorem size_alloc (w : World) (o : Obj) : (w.alloc o).heap.size = w.heap.size + 1 := by simp
theorem row32 {w : World} {g : Nat} {t : TypeId} {l : List UInt8} (h : RowAt w g t (keyC l)) (hl : l.length = 32) : Bs w (.slice (some ⟨g, 0, none⟩) 32 32) l := by
  have := row_bs h (by rw [hl]; unfold maxLen; omega)
  rwa [hl] at this
theorem row28 {w : World} {g : Nat} {t : TypeId} {l : List UInt8} (h : RowAt w g t (keyC l)) (hl : l.length = 32) : Bs w (.slice (some ⟨g, 28, none⟩) 4 4) (l.drop 28) := by
  have := Bs.part h 28 4 4 (by omega) (Nat.le_refl _) (by unfold maxLen; omega)
  rwa [List.take_of_length_le (by rw [List.length_drop]; omega)] at this

end Go.Proofs.YtpgbicbjlhkonaaDoor
end
section
namespace Go.Proofs.YtpgbicbjlhkonaaDoor
open Go.RowKit
set_option linter.unusedVariables false
set_option maxRecDepth 20000

def zb64 : List UInt8 := List.replicate 64 0
theorem zb64_length : zb64.length = 64 := by simp [zb64]
theorem Tryd.zeroB64 : (Tryd.prog.info? 137).map (·.zero) = some (some (.agg (keyC zb64))) := by kernel_rfl
def chunkB (all : List UInt8) (k : Nat) : List UInt8 := (all.drop (64 * k)).take 64
theorem chunkB_length (all : List UInt8) (k : Nat) (h : 64 * k + 64 ≤ all.length) : (chunkB all k).length = 64 := by simp [chunkB]; omega
theorem chunkB_get (all : List UInt8) (k i : Nat) (h : 64 * k + 64 ≤ all.length) (hi : i < 64) : (chunkB all k)[i]'(by rw [chunkB_length _ _ h]; exact hi) = all[64 * k + i]'(by omega) := by
  simp [chunkB]
theorem chunkB_getD (all : List UInt8) (k i : Nat) (h : 64 * k + 64 ≤ all.length) (hi : i < 64) : (chunkB all k).getD i 0 = all[64 * k + i]'(by omega) := by
  rw [← chunkB_get all k i h hi]
  simp [List.getD_eq_getElem?_getD, chunkB_length all k h, hi]
theorem partly_stepD (l : List UInt8) (k : Nat) (h : k < l.length) : (partly l k).set k (l.getD k 0) = partly l (k + 1) := by
  rw [← partly_step l k h]
  simp [List.getD_eq_getElem?_getD, h]
theorem bytesC_cellD {w : World} {g : Nat} {t : TypeId} {l : List UInt8} (h : RowAt w g t (keyC l)) (j : Nat) (hj : j < l.length) : w.cell? ⟨g, j, none⟩ = some (.int .u8 ((l.getD j 0).toNat : Int)) := by
  rw [bytesC_cell h j hj]
  simp [hj]
theorem foldB_next (all : List UInt8) (st : List UInt32) (k : Nat) : foldB st all (k + 1) = blockW (foldB st all k) (chunkB all k) := rfl
theorem bytesOfW_get (l : List UInt32) : ∀ (q r : Nat), q < l.length → r < 4 → (bytesOfW l).getD (4 * q + r) 0 = byteN (l.getD q 0).toNat (3 - r) := by
  induction l with
  | nil => intro q r h _; simp at h
  | cons x l ih =>
    intro q r hq hr
    have e : bytesOfW (x :: l) = [byteN x.toNat 3, byteN x.toNat 2, byteN x.toNat 1, byteN x.toNat 0] ++ bytesOfW l := rfl
    rw [e]
    rcases q with _ | q
    · rcases r with _ | _ | _ | _ | r
      · rfl
      · rfl
      · rfl
      · rfl
      · omega
    · have h2 := ih q r (by simpa using hq) hr
      rw [show 4 * (q + 1) + r = (4 * q + r) + 4 by omega]
      simp only [List.getD_eq_getElem?_getD] at h2 ⊢
      rw [List.getElem?_append_right (by simp), show 4 * q + r + 4 - [byteN x.toNat 3, byteN x.toNat 2, byteN x.toNat 1, byteN x.toNat 0].length = 4 * q + r by simp, h2]
      simp
theorem byte_shift (x : UInt32) (m e : Nat) (h : 2 ^ m = 256 ^ e) : IntKind.u8.wrap ((x.toNat : Int) / 2 ^ m) = ((byteN x.toNat e).toNat : Int) := by
  have h2 : (2 : Int) ^ m = ((256 ^ e : Nat) : Int) := by rw [← h]; simp
  rw [byteN_toNat, IntKind.wrap_u8, h2]
  simp
theorem shift_of (r : Nat) (hr : r < 4) : 2 ^ (24 - 8 * r) = 256 ^ (3 - r) := by
  rcases r with _ | _ | _ | _ | r
  · rfl
  · rfl
  · rfl
  · rfl
  · omega
theorem zeroKeyLit : Value.agg #[.int .u8 0, .int .u8 0, .int .u8 0, .int .u8 0, .int .u8 0, .int .u8 0, .int .u8 0, .int .u8 0, .int .u8 0, .int .u8 0, .int .u8 0, .int .u8 0, .int .u8 0, .int .u8 0, .int .u8 0, .int .u8 0, .int .u8 0, .int .u8 0, .int .u8 0, .int .u8 0, .int .u8 0, .int .u8 0, .int .u8 0, .int .u8 0, .int .u8 0, .int .u8 0, .int .u8 0, .int .u8 0, .int .u8 0, .int .u8 0, .int .u8 0, .int .u8 0] = .agg (keyC zeroKey) := by kernel_rfl
theorem Tryd.litsS : Value.agg #[.int .u32 1779033703, .int .u32 3144134277, .int .u32 1013904242, .int .u32 2773480762, .int .u32 1359893119, .int .u32 2600822924, .int .u32 528734635, .int .u32 1541459225] = .agg (wordsC squaresW) := by kernel_rfl
theorem OwnB.empty2 (w : World) (base : Nat) (e : TypeId) (h : base ≤ w.heap.size) : OwnB (w.alloc (.cells #[] e)) base e (.slice (some ⟨w.heap.size, 0, none⟩) 0 0) [] := OwnB.lit e [] #[] h rfl (by simp [maxLen])

end Go.Proofs.YtpgbicbjlhkonaaDoor
end
section
namespace Go.Proofs.YtpgbicbjlhkonaaDoor
open Go.RowKit
set_option linter.unusedVariables false
set_option maxRecDepth 20000

theorem xor_byte (a b : UInt8) : bits .xor .u8 (a.toNat : Int) (b.toNat : Int) = ((a ^^^ b).toNat : Int) := by
  rw [u8_xor_nat _ _ a.toNat_lt b.toNat_lt, UInt8.toNat_xor]
theorem or_byte (a b : UInt8) : bits .or .u8 (a.toNat : Int) (b.toNat : Int) = ((a ||| b).toNat : Int) := by
  rw [u8_or_nat _ _ a.toNat_lt b.toNat_lt, UInt8.toNat_or]


theorem xorB_take (a b : List UInt8) (k : Nat) (ha : k < a.length) (hb : k < b.length) : (xorB a b).take (k + 1) = (xorB a b).take k ++ [a[k] ^^^ b[k]] := by
  have h : k < (xorB a b).length := by rw [xorB_length]; omega
  rw [List.take_succ_eq_append_getElem h, xorB_get a b k h ha hb]


/-- What is gathered of the differences of the first k places (0 stands for what is not there). -/
def gathered (a b : List UInt8) : Nat → UInt8
  | 0 => 0
  | k + 1 => gathered a b k ||| (a.getD k 0 ^^^ b.getD k 0)
theorem or_eq_zero (x y : UInt8) : x ||| y = 0 ↔ x = 0 ∧ y = 0 := by
  constructor
  · intro h
    have h1 : x.toNat ||| y.toNat = 0 := by rw [← UInt8.toNat_or, h]; rfl
    have h2 := Nat.or_eq_zero_iff.1 h1
    exact ⟨UInt8.toNat_inj.1 (by simpa using h2.1), UInt8.toNat_inj.1 (by simpa using h2.2)⟩
  · rintro ⟨rfl, rfl⟩; rfl
theorem xor_eq_zero (x y : UInt8) : x ^^^ y = 0 ↔ x = y := UInt8.xor_eq_zero_iff
theorem gathered_zero (a b : List UInt8) (k : Nat) : gathered a b k = 0 ↔ ∀ j, j < k → a.getD j 0 = b.getD j 0 := by
  induction k with
  | zero => simp [gathered]
  | succ k ih =>
    rw [gathered, or_eq_zero, ih, xor_eq_zero]
    constructor
    · rintro ⟨h1, h2⟩ j hj
      rcases Nat.lt_succ_iff_lt_or_eq.1 hj with h | h
      · exact h1 j h
      · rw [h]; exact h2
    · intro h
      exact ⟨fun j hj => h j (by omega), h k (by omega)⟩
theorem gathered_same (a b : List UInt8) (hl : a.length = b.length) : gathered a b (max a.length b.length) = 0 ↔ a = b := by
  rw [gathered_zero]
  constructor
  · intro h
    apply List.ext_getElem hl
    intro j h1 h2
    have := h j (by omega)
    simpa [List.getD_eq_getElem?_getD, h1, h2] using this
  · rintro rfl j _
    rfl


end Go.Proofs.YtpgbicbjlhkonaaDoor
end
section
namespace Go.Proofs.YtpgbicbjlhkonaaDoor
open Go.RowKit
set_option linter.unusedVariables false
set_option maxRecDepth 20000

def blockK (key : List UInt8) : List UInt8 := fillB (if 64 < key.length then digestB key else key) 64
def mixB (block : List UInt8) (x : UInt8) : List UInt8 := block.map (· ^^^ x)
def macB (key msg : List UInt8) : List UInt8 := digestB (mixB (blockK key) 92 ++ digestB (mixB (blockK key) 54 ++ msg))
theorem blockK_length (key : List UInt8) : (blockK key).length = 64 := by
  unfold blockK
  apply fillB_length
  split
  · rw [digestB_length]; omega
  · omega
theorem mixB_length (b : List UInt8) (x : UInt8) : (mixB b x).length = b.length := by simp [mixB]
theorem macB_length (key msg : List UInt8) : (macB key msg).length = 32 := digestB_length _

theorem grown_refl (w : World) (a : Option Nat) : w.grownBy w a := ⟨rfl, rfl, rfl, Nat.le_refl _, fun _ _ _ => rfl⟩
theorem grown_trans {w x y : World} {a : Option Nat} (h : w.grownBy x a) (k : x.grownBy y a) : w.grownBy y a :=
  ⟨k.os.trans h.os, k.tape.trans h.tape, k.output.trans h.output, Nat.le_trans h.size k.size, fun i hi h1 => (k.block i (Nat.lt_of_lt_of_le hi h.size) h1).trans (h.block i hi h1)⟩
theorem grown_below {w x : World} (a : Option Nat) (h : Below w.heap.size w x) : w.grownBy x a := ⟨h.os, h.tape, h.output, h.size, fun k hk _ => h.block k hk⟩

/-- From w to x with a Meter at g that keeps nothing and was made behind w0: it has counted n; all else that was there at w is as it was. -/
structure Run (w0 w : World) (g n : Nat) (x : World) : Prop where
  below : Below w0.heap.size w0 x
  row : RowAt x g 70 (meterC false n (.slice none 0 0))
  tabs0 : Tabs w0
  far : w0.heap.size ≤ g
  old : w0.heap.size ≤ w.heap.size
  row0 : ∃ n0, RowAt w g 70 (meterC false n0 (.slice none 0 0))
  grown : w.grownBy x (some g)
theorem Run.tabs {w0 w x : World} {g n : Nat} (h : Run w0 w g n x) : Tabs x := h.tabs0.below h.below
theorem Run.self {w0 w x : World} {g n : Nat} (h : Run w0 w g n x) : Run w0 x g n x := ⟨h.below, h.row, h.tabs0, h.far, h.below.size, ⟨n, h.row⟩, grown_refl _ _⟩
theorem Run.new {w0 w x : World} {g : Nat} (ht : Tabs w0) (hb : Below w0.heap.size w0 w) (h : NewRow w g 70 (meterC false 0 (.slice none 0 0)) x) : Run w0 x g 0 x :=
  ⟨below_size hb h.below, h.row, ht, by rw [h.spot]; exact hb.size, (below_size hb h.below).size, ⟨0, h.row⟩, grown_refl _ _⟩
theorem Run.kept {w0 w x y : World} {g n : Nat} (h : Run w0 w g n x) (hb : Below x.heap.size x y) : Run w0 w g n y :=
  ⟨below_size h.below hb, h.row.kept hb, h.tabs0, h.far, h.old, h.row0, grown_trans h.grown (grown_below _ hb)⟩
theorem Run.trans {w0 w x y : World} {g n m : Nat} (h : Run w0 w g n x) (k : Run w0 x g m y) : Run w0 w g m y :=
  ⟨k.below, k.row, h.tabs0, h.far, h.old, h.row0, grown_trans h.grown k.grown⟩
theorem Run.put {w0 w x y : World} {g n i : Nat} {t : TypeId} {cs : Array Value} (h : Run w0 w g n x) (p : PutRow x i t cs y) (hi : w.heap.size ≤ i) (hg : i ≠ g) : Run w0 w g n y :=
  ⟨p.below h.below h.below.size (Nat.le_trans h.old hi), h.row.grown p.grown (by intro e; injection e with e; exact hg e.symm), h.tabs0, h.far, h.old, h.row0,
    ⟨p.grown.os.trans h.grown.os, p.grown.tape.trans h.grown.tape, p.grown.output.trans h.grown.output, Nat.le_trans h.grown.size p.grown.size, fun k hk h1 => (p.grown.block k (Nat.lt_of_lt_of_le hk h.grown.size) (by intro e; injection e with e; omega)).trans (h.grown.block k hk h1)⟩⟩
theorem Run.other {w0 w x : World} {g n k : Nat} {t : TypeId} {cs : Array Value} (h : Run w0 w g n x) (hr : RowAt w k t cs) (hk : k ≠ g) : RowAt x k t cs := hr.grown h.grown (by intro e; injection e with e; exact hk e)
theorem Run.bs {w0 w x : World} {g n : Nat} {v : Value} {l : List UInt8} (h : Run w0 w g n x) (hv : Bs w v l) : Bs x v l := by
  obtain ⟨n0, h0⟩ := h.row0
  exact hv.meter h0 h.grown
theorem Run.size {w0 w x : World} {g n : Nat} (h : Run w0 w g n x) : w.heap.size ≤ x.heap.size := h.grown.size
theorem Run.glt {w0 w x : World} {g n : Nat} (h : Run w0 w g n x) : g < w.heap.size := by
  obtain ⟨n0, h0⟩ := h.row0
  exact h0.lt

theorem Sum_run (w0 w : World) (g n : Nat) (v : Value) (ls : List (List UInt8)) (d : List UInt8) (h : Run w0 w g n w) (hn : n ≤ 1000000000) (hd : d = digestB ls.flatten) (hb : Bss w v ls) (hl : ls.flatten.length ≤ 1000000) (hm : ls.length ≤ 1000000) :
    Calls Tryd.prog 44 #[.pointer (some ⟨g, 0, none⟩), v] w fun e w' => e = .returned (.agg (keyC d)) ∧ Run w0 w g (n + 1) w' := by
  refine (Sum_is w h.tabs g n _ v ls d hd hn h.row hb hl hm).mono fun e w' hp => ?_
  obtain ⟨he, hr, hg⟩ := hp
  exact ⟨he, h.below.grown hg h.below.size (fun k e => by injection e with e; rw [← e]; exact h.far), hr, h.tabs0, h.far, h.old, ⟨n, h.row⟩, hg⟩

theorem zb64_fill (key : List UInt8) (h : key.length ≤ 64) : zb64.take 0 ++ key ++ zb64.drop (0 + key.length) = fillB key 64 := by
  rw [List.take_zero, List.nil_append, Nat.zero_add, zb64, List.drop_replicate, fillB]
theorem zb_copied {w : World} {g : Nat} {t : TypeId} {key : List UInt8} (h : key.length ≤ 64) (hr : w.heap[g]? = some (.cells (splice (cellsB zb64) 0 (cellsB key)).toArray t (0, 0))) : RowAt w g t (keyC (fillB key 64)) := by
  rw [splice_bytes, zb64_fill key h] at hr
  exact hr

def partMix (b : List UInt8) (x : UInt8) (k : Nat) : List UInt8 := mixB (b.take k) x ++ b.drop k
theorem partMix_length (b : List UInt8) (x : UInt8) (k : Nat) (h : k ≤ b.length) : (partMix b x k).length = b.length := by simp [partMix, mixB]; omega
theorem partMix_get (b : List UInt8) (x : UInt8) (k : Nat) (h : k < b.length) : (partMix b x k).getD k 0 = b.getD k 0 := by
  simp only [partMix, List.getD_eq_getElem?_getD]
  rw [List.getElem?_append_right (by simp [mixB]; omega)]
  simp [mixB, Nat.min_eq_left (Nat.le_of_lt h)]
theorem partMix_step (b : List UInt8) (x : UInt8) (k : Nat) (h : k < b.length) : (partMix b x k).set k (b.getD k 0 ^^^ x) = partMix b x (k + 1) := by
  have e1 : (mixB (b.take k) x).length = k := by simp [mixB]; omega
  unfold partMix
  rw [List.set_append_right _ _ (by rw [e1]; exact Nat.le_refl _), e1, Nat.sub_self, List.drop_eq_getElem_cons h, List.set_cons_zero]
  have e2 := List.take_succ_eq_append_getElem (l := b.map (· ^^^ x)) (i := k) (by simpa using h)
  simp only [mixB, List.map_take]
  rw [e2, List.append_assoc]
  simp [List.getD_eq_getElem?_getD, h]
theorem partMix_all (b : List UInt8) (x : UInt8) (n : Nat) (h : b.length = n) : partMix b x n = mixB b x := by
  rw [← h]; simp [partMix, mixB]

end Go.Proofs.YtpgbicbjlhkonaaDoor
end
section
namespace Go.Proofs.YtpgbicbjlhkonaaDoor
open Go.Proofs
theorem muLib : Go.Conc.Locks.MuLib Tryd.prog { lock := 75, unlock := 76, ilock := 83, iunlock := 84, lockSlow := 92, unlockSlow := 95, disable := 88, enable := 90, acquire := 91, relMerge := 93, cas32 := 89, add32 := 94, tMutex := 68, tIMutex := 66, tPMutex := 144, tPIMutex := 149, tPI32 := 151, tUP := 153, tNoCopy := 63, tU32 := 64 } :=
  ⟨Tryd.func75, Tryd.func76, Tryd.func83, Tryd.func84, Tryd.func88, Tryd.func90, Tryd.func91, Tryd.func93, Tryd.func89, Tryd.func94, Tryd.underlying66, Tryd.runUnderlying66, Tryd.sizeOf66, Tryd.isAgg66, Tryd.zeroValue66, Tryd.underlying68, Tryd.runUnderlying68, Tryd.sizeOf68, Tryd.isAgg68, Tryd.zeroValue68, Tryd.underlying144, Tryd.runUnderlying144, Tryd.sizeOf144, Tryd.isAgg144, Tryd.zeroValue144, Tryd.underlying149, Tryd.runUnderlying149, Tryd.sizeOf149, Tryd.isAgg149, Tryd.zeroValue149, Tryd.underlying151, Tryd.runUnderlying151, Tryd.sizeOf151, Tryd.isAgg151, Tryd.zeroValue151, Tryd.underlying153, Tryd.runUnderlying153, Tryd.sizeOf153, Tryd.isAgg153, Tryd.zeroValue153, Tryd.underlying63, Tryd.runUnderlying63, Tryd.sizeOf63, Tryd.isAgg63, Tryd.zeroValue63, Tryd.underlying21, Tryd.runUnderlying21, Tryd.sizeOf21, Tryd.isAgg21, Tryd.zeroValue21, (by kernel_rfl)⟩
end Go.Proofs.YtpgbicbjlhkonaaDoor
end
section
namespace Go.Proofs.YtpgbicbjlhkonaaDoor
open Go.RowKit
set_option linter.unusedVariables false
set_option maxRecDepth 20000

theorem Tryd.infoS : (Tryd.prog.info? 23).map (fun i => (i.zero, i.size, i.bytes)) = some (some (.slice none 0 0), 1, 24) := by kernel_rfl

theorem Add_any (w : World) (g n : Nat) (hn : n ≤ 1000000000) (hc : w.cell? ⟨g, 1, none⟩ = some (.int .i64 (n : Int))) (hz : w.frozen? ⟨g, 1, none⟩ = false) :
    Calls Tryd.prog 77 #[.pointer (some ⟨g, 1, none⟩), .int .i64 1] w fun e w' => (∃ x, e = .returned x) ∧ w' = w.setCell ⟨g, 1, none⟩ (.int .i64 ((n + 1 : Nat) : Int)) := by
  have hadd := run_call_add (P := Tryd.prog) Tryd.func85 (by kernel_rfl) (by kernel_rfl) (by kernel_rfl) .i64 (by kernel_rfl) (y := 1) (s := ((n + 1 : Nat) : Int)) hc hz (by simp [go_sem]; rw [IntWalk.i64_in _ (by omega)])
  go_enter Tryd.func77, Tryd.ntmps77
  go_wp2
  go_ret
  exact ⟨⟨_, rfl⟩, rfl⟩

/-- The row of the lists that a Meter keeps is not the Meter's own. -/
theorem own_apart {w : World} {base n g : Nat} {e t : TypeId} {s : Value} {xs : List Value} {cs : Array Value} (h : w.ownsRow base e 1 s n xs) (hr : RowAt w g t cs) (ht : t ≠ e) : some g ≠ s.ownBlock := by
  rcases h.2 with ⟨rfl, _⟩ | ⟨k, cap, cur, rfl, _, hk, _⟩
  · simp [Value.ownBlock]
  · intro e2
    have : g = k := by simpa [Value.ownBlock] using e2
    subst this
    rw [hr] at hk
    injection hk with hk
    injection hk with h1 h2
    exact ht h2

theorem put_grown (w : World) (g i : Nat) (u : Value) : w.grownBy (w.setCell ⟨g, i, none⟩ u) (some g) :=
  ⟨rfl, rfl, rfl, by simp, fun k _ hne => heap_setCell_other w _ k _ (fun h => hne (by rw [h]))⟩
theorem own_put_other {w : World} {base n g : Nat} {e t : TypeId} {s : Value} {xs : List Value} {cs : Array Value} (h : w.ownsRow base e 1 s n xs) (hr : RowAt w g t cs) (ht : t ≠ e) (i : Nat) (u : Value) : (w.setCell ⟨g, i, none⟩ u).ownsRow base e 1 s n xs :=
  World.ownsRow.kept h (put_grown w g i u) (.inr (fun e2 => own_apart h hr ht e2.symm))
theorem grown_of_alloc (w : World) (o : Obj) (a : Option Nat) : w.grownBy (w.alloc o) a := ⟨rfl, rfl, rfl, by simp, fun k hk _ => Below.heap_alloc w o k hk⟩
/-- Behind a call that writes at two rows at most: all else. -/
structure GrownTwo (w w' : World) (a b : Option Nat) : Prop where
  os : w'.os = w.os
  tape : w'.tape = w.tape
  output : w'.output = w.output
  size : w.heap.size ≤ w'.heap.size
  block : ∀ k, k < w.heap.size → some k ≠ a → some k ≠ b → w'.heap[k]? = w.heap[k]?
theorem GrownTwo.refl (w : World) (a b : Option Nat) : GrownTwo w w a b := ⟨rfl, rfl, rfl, Nat.le_refl _, fun _ _ _ _ => rfl⟩
theorem GrownTwo.fst {w w' w'' : World} {a b : Option Nat} (h : GrownTwo w w' a b) (k : w'.grownBy w'' a) : GrownTwo w w'' a b :=
  ⟨k.os.trans h.os, k.tape.trans h.tape, k.output.trans h.output, Nat.le_trans h.size k.size, fun i hi h1 h2 => (k.block i (Nat.lt_of_lt_of_le hi h.size) h1).trans (h.block i hi h1 h2)⟩
theorem GrownTwo.snd {w w' w'' : World} {a b : Option Nat} (h : GrownTwo w w' a b) (k : w'.grownBy w'' b) : GrownTwo w w'' a b :=
  ⟨k.os.trans h.os, k.tape.trans h.tape, k.output.trans h.output, Nat.le_trans h.size k.size, fun i hi h1 h2 => (k.block i (Nat.lt_of_lt_of_le hi h.size) h2).trans (h.block i hi h1 h2)⟩

set_option maxHeartbeats 1000000 in
theorem note_keep (w : World) (g n base : Nat) (s : Value) (VA : Option Addr) (vn vc : Nat) (vs : List Value) (hn : n ≤ 1000000000) (hr : RowAt w g 70 (meterC true n s)) (ho : w.ownsRow base 23 1 s vs.length vs) (hb : base ≤ w.heap.size) (hm : vs.length ≤ 1000000) :
    Calls Tryd.prog 60 #[.pointer (some ⟨g, 0, none⟩), .slice VA vn vc] w fun e w' => (∃ x, e = .returned x) ∧ ∃ s', RowAt w' g 70 (meterC true (n + 1) s') ∧ w'.ownsRow base 23 1 s' (vs.length + 1) (vs ++ [.slice VA vn vc]) ∧ GrownTwo w w' (some g) s.ownBlock ∧ ∀ b, s'.ownBlock = some b → s.ownBlock = some b ∨ w.heap.size ≤ b := by
  obtain ⟨i0, hi, hz0, hz1, hz2⟩ := info_parts Tryd.infoS
  have c0 : w.cell? ⟨g, 0, none⟩ = some (.bool true) := hr.cell 0
  have c2 : w.cell? ⟨g, 2, none⟩ = some (.int .i32 0) := hr.cell 2
  have z2 : w.frozen? ⟨g, 2, none⟩ = false := hr.frozen 2
  have hgl := hr.lt
  have R1 : Hid (RowAt (w.setCell ⟨g, 2, none⟩ (.int .i32 1)) g 70 #[.bool true, .int .i64 (n : Int), .int .i32 1, .int .u32 0, s]) := hr.put 2 (.int .i32 1)
  have O1 := Lib.hid (own_put_other ho hr (by decide) 2 (.int .i32 1))
  have G1 := Lib.hid ((GrownTwo.refl w (some g) s.ownBlock).fst (put_grown w g 2 (.int .i32 1)))
  have HZ0 := Lib.hid hz0
  have HZ1 := Lib.hid hz1
  have HZ2 := Lib.hid hz2
  have HI := Lib.hid hi
  clear hr ho hz0 hz1 hz2 hi
  go_enter_defers Tryd.func60, Tryd.ntmps60
  go_wp2_with fail
  refine (Go.MuLone.lock_free muLib ⟨g, 2, none⟩ _ c2 z2).mono ?_
  intro e w1 h
  obtain ⟨he, hw⟩ := h
  subst he
  rw [← hw] at R1 O1 G1
  clear hw c0 c2 z2
  have c4 : w1.cell? ⟨g, 4, none⟩ = some s := R1.out.cell 4
  have HNW : Hid (∀ (j : Nat) u, ([.slice VA vn vc] : List Value)[j]? = some u → (w1.alloc (.cells #[.slice VA vn vc] 23)).cell? ((⟨w1.heap.size, 0, none⟩ : Addr).add j) = some u) := by
    intro j u hj
    rcases j with _ | j
    · have h0 := (RowAt.new w1 23 #[.slice VA vn vc]).cell 0
      simp at hj
      subst hj
      exact h0
    · simp at hj
  have HON : Hid (∀ u ∈ ([.slice VA vn vc] : List Value), u.oneCell' = true) := by
    intro u hu
    simp at hu
    rw [hu]
    rfl
  go_wp2_with (at_builtin; go_loud (refine wpList_append_lies _ rfl (.tmp 21) (.tmp 23) 42 rfl base 23 i0 (.slice none 0 0) 1 24 Tryd.underlying42 HI.out HZ0.out HZ1.out HZ2.out rfl (by decide) s vs.length vs rfl (O1.out.alloc _) ⟨w1.heap.size, 0, none⟩ 1 1 [.slice VA vn vc] rfl rfl HNW.out HON.out (by decide) (by unfold maxLen; omega) (by omega) (by have := G1.out.size; simp; omega) _ rfl ?_); intro k2 cap2 w2 own2 hg2 hat2 hk3; have HAT : Hid (∀ b, k2 = b → s.ownBlock = some b ∨ w.heap.size ≤ b) := (by show _; intro b eb; subst eb; rcases hat2 with h | h; exact .inl h; refine .inr ?_; have := G1.out.size; simp at h; omega); have R2 := Lib.hid ((R1.out.alloc (.cells #[.slice VA vn vc] 23)).grown hg2 (own_apart (O1.out.alloc (.cells #[.slice VA vn vc] 23)) (R1.out.alloc (.cells #[.slice VA vn vc] 23)) (by decide))); have c5 : w2.cell? ⟨g, 4, none⟩ = some s := R2.out.cell 4; have z5 : w2.frozen? ⟨g, 4, none⟩ = false := R2.out.frozen 4; have O2 := Lib.hid own2; clear hat2 hk3; clear own2)
  have R3 := Lib.hid (R2.out.put 4 (.slice (some ⟨k2, 0, none⟩) (vs.length + 1) cap2))
  have O3 := Lib.hid (own_put_other O2.out R2.out (by decide) 4 (.slice (some ⟨k2, 0, none⟩) (vs.length + 1) cap2))
  have G3 := Lib.hid (((G1.out.fst (grown_of_alloc w1 (.cells #[.slice VA vn vc] 23) (some g))).snd hg2).fst (put_grown w2 g 4 (.slice (some ⟨k2, 0, none⟩) (vs.length + 1) cap2)))
  clear R1 R2 O1 O2 G1 hg2 c4 c5 z5 HNW HON
  generalize w2.setCell ⟨g, 4, none⟩ (.slice (some ⟨k2, 0, none⟩) (vs.length + 1) cap2) = w3 at *
  refine (Add_any w3 g n hn (R3.out.cell 1) (R3.out.frozen 1)).mono ?_
  intro e w4 h
  obtain ⟨⟨x, he⟩, hw⟩ := h
  subst he
  have R4 := Lib.hid (R3.out.put 1 (.int .i64 ((n + 1 : Nat) : Int)))
  have O4 := Lib.hid (own_put_other O3.out R3.out (by decide) 1 (.int .i64 ((n + 1 : Nat) : Int)))
  have G4 := Lib.hid (G3.out.fst (put_grown w3 g 1 (.int .i64 ((n + 1 : Nat) : Int))))
  rw [← hw] at R4 O4 G4
  clear hw R3 O3 G3
  go_wp2_with fail
  refine leaves_cons (f := 76) (args := #[.pointer (some ⟨g, 2, none⟩)]) (by simp) (by simp [go_sem]) ?_
  refine (Go.MuLone.unlock_deferred muLib ⟨g, 2, none⟩ .returning _ (R4.out.cell 2) (R4.out.frozen 2)).mono ?_
  intro e u' w5 h
  obtain ⟨h1, h2, h3⟩ := h
  subst h1 h2 h3
  refine ⟨_, results_none rfl _ _ _, ⟨_, rfl⟩, _, R4.out.put 2 (.int .i32 0), own_put_other O4.out R4.out (by decide) 2 (.int .i32 0), G4.out.fst (put_grown _ g 2 (.int .i32 0)), fun b hb => HAT.out b (by simpa [Value.ownBlock] using hb)⟩
end Go.Proofs.YtpgbicbjlhkonaaDoor
end
