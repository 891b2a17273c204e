/-
  Texts that belong together, merged: CodJ, CodL. Conditions: as each theorem names them.
-/
import Derived.Test.YtjhhpakaemnemaaQCorAF
import Derived.Test.YtjhhpakaemnemaaQCorAE
import Derived.Laws.Cover3
section
namespace Go.Proofs.Ytjhhpakaemnemaa
open Go.RowKit Go.Shelf
attribute [local go_sem] Oper.semAt_some
set_option linter.unusedVariables false
set_option maxRecDepth 20000

theorem Try.infoKey : (Try.prog.info? 52).map (fun i => (i.zero, i.size, i.bytes)) = some (some (.agg (keyC zeroKey)), 32, 32) := by kernel_rfl
theorem wp_oneKey {w : World} {o : Oper} {a : Act} {K : Act → World → Prop} {Q : Exit → Act → World → Prop} (x : Operand) (ho : o.op = .buildSlice 55 1 #[(0, x)]) (l : List UInt8) (hl : l.length = 32) (hx : a.eval x = .agg (keyC l))
    (h : K (a.put o.dst (.slice (some ⟨w.heap.size, 0, none⟩) 1 1)) (w.alloc (.cells (keyC l) 52))) : o.wp Try.prog a w K Q := by
  obtain ⟨ie, hie, hs⟩ := Option.map_eq_some_iff.1 Try.key32
  obtain ⟨ie2, hie2, hz2⟩ := Option.map_eq_some_iff.1 Try.zeroK
  obtain rfl : ie = ie2 := by rw [hie] at hie2; exact Option.some.inj hie2
  refine wp_buildSlice 55 52 1 _ ho (keyC l) ie (.agg (keyC zeroKey)) Try.underlying55 hie hz2 (by rw [hs]; omega) (by rw [hs]; omega) ?_ h
  have hp : (#[((0 : Nat), x)].map fun (i, x) => (i, a.eval x)).toList = (([l].map fun l => Value.agg (keyC l)).zipIdx 0).map fun x => (x.2, x.1) := by simp [hx]
  rw [hp, hs, show keyC l = ((([l].map fun l => Value.agg (keyC l)).flatMap fun v => v.cells.toList).toArray) by rw [keys_flat]; simp]
  refine Great.fill_whole (by omega) _ _ (fun v hv => ?_) (by simp)
  obtain ⟨l', hm, rfl⟩ := List.mem_map.1 hv
  obtain rfl : l' = l := by simpa using hm
  simp [Value.cells, keyC_size, hl]
def keyAt (B : List UInt8) (x : Nat) : List UInt8 := (B.drop (32 * x)).take 32
theorem cut32_range (n : Nat) : ∀ l : List UInt8, cut32 n l = (List.range n).map (keyAt l) := by
  induction n with
  | zero => intro l; rfl
  | succ n ih =>
    intro l
    rw [cut32, ih, List.range_succ_eq_map, List.map_cons, List.map_map]
    congr 1
    apply List.map_congr_left
    intro x _
    simp only [keyAt, Function.comp, List.drop_drop]
    congr 2
    omega
theorem finRange_map (N : Nat) (f : Nat → List UInt8) : (List.finRange N).map (fun x => f x.val) = (List.range N).map f := by
  apply List.ext_getElem (by simp)
  intro i h1 h2
  simp
theorem Kl.of_own {w : World} {base : Nat} {v : Value} {ks : List (List UInt8)} (h : w.ownsRow base 52 32 v ks.length (cellsB ks.flatten)) (h32 : ∀ l ∈ ks, l.length = 32) : Kl w v ks := by
  rcases h.2 with ⟨rfl, h0⟩ | ⟨g, cap, cur, rfl, _, hg, h1, h2, h3, h4⟩
  · obtain rfl : ks = [] := List.eq_nil_of_length_eq_zero h0
    exact Kl.nil w
  · refine ⟨_, cap, rfl, h1, h2, h32, fun _ => ⟨g, 0, rfl, fun k l hk j u hj => ?_⟩⟩
    have hkl := (List.getElem?_eq_some_iff.1 hk).1
    have hll := h32 l (List.mem_of_getElem? hk)
    have hj2 := (List.getElem?_eq_some_iff.1 hj).1
    rw [cellsB_length, hll] at hj2
    have hp := flat_part ks h32 k l hk
    have hcell := World.ownsRow.cellAt h (k * 32 + j) (by omega)
    rw [Nat.zero_add, hcell, ← hj, ← hp]
    unfold cellsB
    rw [List.getElem?_map, List.getElem?_map, List.getElem?_take, if_pos hj2, List.getElem?_drop]
theorem run_keyL {P : Program} {w : World} {o : Oper} {a : Act} (ty : TypeId) (x : Operand) (ho : o.op = .load ty x) (g k : Nat) (hx : a.eval x = .pointer (some ⟨g, k, none⟩)) (l : List UInt8) (d : TypeDesc) (hc : w.rangeAt g k (cellsB l))
    (hu : P.underlying ty = some d) (hd : d.isRow = true) (hs : (P.info? ty).map (·.size) = some (cellsB l).length) : (execOp a.eval o).run P w = .ok (.value (.agg (keyC l))) w := by
  unfold execOp
  simp only [ho, hx, Instr.loadAt, Instr.sureAddr, Sem.run_bind, Sem.run_pure, Result.andThen_ok, run_loadVar_mid w g k ty (cellsB l) d hc hu hd hs]
  rfl
theorem owned_far {w X : World} {base e sz n : Nat} {v : Value} {xs : List Value} {row : Option Nat} (h : w.ownsRow base e sz v n xs) (hg : w.grownBy X row) (hr : ∀ r, row = some r → ∃ o : Obj, w.heap[r]? = some o ∧ o.isCells = false) : X.ownsRow base e sz v n xs := by
  refine World.ownsRow.kept h hg ?_
  rcases h.2 with ⟨rfl, _⟩ | ⟨g, cap, cur, rfl, _, hc, _⟩
  · exact .inl rfl
  · refine .inr fun hk => ?_
    obtain ⟨o, ho, hf⟩ := hr g hk.symm
    rw [hc] at ho
    cases ho
    simp [Obj.isCells] at hf
theorem grown_past {w X Y : World} {row : Option Nat} {r : Option Nat} (h : w.grownBy X row) (hg : X.grownBy Y r) (hr : ∀ k, r = some k → w.heap.size ≤ k) : w.grownBy Y row :=
  ⟨hg.os.trans h.os, hg.tape.trans h.tape, hg.output.trans h.output, Nat.le_trans h.size hg.size, fun k hk hne => (hg.block k (Nat.lt_of_lt_of_le hk h.size) (fun e => by have := hr k e.symm; omega)).trans (h.block k hk hne)⟩
theorem St.cnt_le (s : St) (m : Int) (h : m ≤ 100) : s.cnt m ≤ 100 := by
  unfold St.cnt
  split
  · omega
  · omega
theorem St.take_mul (s : St) (n : Nat) : (s.take (32 * n)).length = 32 * ((s.take (32 * n)).length / 32) ∧ (s.take (32 * n)).length / 32 ≤ n := by
  rcases s.take_short (32 * n) with h | h
  · rw [h]; omega
  · rw [h]; simp

set_option maxHeartbeats 4000000 in
theorem inKeys_any (w : World) (i : Nat) (s : St) (m : Int) (h : InAt w i s) :
    Calls Try.prog 26 #[.pointer (some ⟨i, 0, none⟩), .int .i64 m] w fun e w' => ∃ v, e = .returned v ∧ Kl w' v (s.keys m) ∧ KyAt w' v ∧ InAt w' i (s.keyS m) ∧ w.grownBy w' (some i) := by
  have HH := Lib.hid h
  clear h
  obtain ⟨M, hM⟩ : ∃ M, M = min m 100 := ⟨_, rfl⟩
  have HN : Hid (∀ w, InAt w i s → Calls Try.prog 54 #[.pointer (some ⟨i, 0, none⟩), .int .i64 M] w fun e w' => e = .returned (.int .i64 (s.cnt M : Int)) ∧ InAt w' i (s.cntS M) ∧ w.grownBy w' (some i)) := fun w h => inCount_any w i s M h
  obtain ⟨C, hC⟩ : ∃ C, C = s.cnt M := ⟨_, rfl⟩
  have hC100 : C ≤ 100 := by rw [hC]; exact s.cnt_le M (by omega)
  obtain ⟨S, hS⟩ : ∃ S, S = s.cntS M := ⟨_, rfl⟩
  have HT : Hid (∀ w, InAt w i S → Calls Try.prog 49 #[.pointer (some ⟨i, 0, none⟩), .int .i64 ((32 * C : Nat) : Int)] w fun e w' => ∃ v, e = .returned v ∧ Bs w' v (S.take (32 * C)) ∧ InAt w' i (S.rest (32 * C)) ∧ w.grownBy w' (some i)) := fun w h => inTake_any w i S (32 * C) h
  have hmul := S.take_mul C
  obtain ⟨B, hB⟩ : ∃ B, B = S.take (32 * C) := ⟨_, rfl⟩
  rw [← hB] at hmul HT
  obtain ⟨N, hN⟩ : ∃ N, N = B.length / 32 := ⟨_, rfl⟩
  rw [← hN] at hmul
  have HBL : Hid (B.length = 32 * N) := hmul.1
  have H1 : Hid (s.keys m = (List.finRange N).map fun x => keyAt B x.val) := by
    show _ = _
    rw [finRange_map, ← cut32_range, hN, hB, hC, hS, hM]
    rfl
  obtain ⟨S2, hS2⟩ : ∃ S2, S2 = S.rest (32 * C) := ⟨_, rfl⟩
  rw [← hS2] at HT
  have H2 : Hid (s.keyS m = S2) := by show _ = _; rw [hS2, hC, hS, hM]; rfl
  have HK32 : Hid (∀ x : Fin N, (keyAt B x.val).length = 32) := fun x => by
    have := x.isLt
    unfold keyAt
    rw [List.length_take, List.length_drop, hmul.1]
    omega
  have hN100 : N ≤ 100 := by omega
  have hwm : IntKind.i64.wrap (32 * (C : Int)) = ((32 * C : Nat) : Int) := by rw [IntWalk.i64_in _ (by omega)]; omega
  rw [← hC, ← hS] at HN
  clear hC hS hB hN hS2 hmul
  have key : (¬ (100 < m) ∧ M = m) ∨ (100 < m ∧ M = 100) := by omega
  clear hM
  rcases key with ⟨hm, rfl⟩ | ⟨hm, rfl⟩
  · refine (callsIn_wide (n := 3)).1 ?_
    refine callsIn_of_wp_marks Try.func26 rfl trivial ?_ rfl
    simp only [Try.ntmps26, List.size_toArray, List.length_cons, List.length_nil, Nat.reduceAdd, Nat.reduceSub, Array.replicate_succ, Array.replicate_zero, List.push_toArray, List.append_toArray, List.nil_append, List.cons_append]
    refine wpIn_wide.2 ?_
    go_wp2_with fail
    obtain ⟨gO, hgO⟩ : ∃ gO, gO = w.heap.size := ⟨_, rfl⟩
    obtain ⟨w1, hw1⟩ : ∃ w1, w1 = w.alloc (.cells #[.slice none 0 0] 55) := ⟨_, rfl⟩
    have BO1 : Hid (Boxed w1 gO 55 (.slice none 0 0)) := by show Boxed _ _ _ _; rw [hw1, hgO]; exact Boxed.new w _ _
    have G1 : Hid (w.grownBy w1 (some i)) := by show World.grownBy _ _ _; rw [hw1]; exact World.grownBy_alloc _ _ _
    have I1 : Hid (InAt w1 i s) := by show InAt _ _ _; rw [hw1]; exact HH.out.kept (alloc_below _ _)
    have hgi : gO ≠ i := by have := HH.out.lt; omega
    have hgw : w.heap.size ≤ gO := Nat.le_of_eq hgO.symm
    rw [← hw1, ← hgO]
    clear hw1 hgO HH
    refine (HN.out _ I1.out).mono ?_
    intro e w2 hh
    obtain ⟨he, hi, hg⟩ := hh
    subst he
    have BO2 := Lib.hid (BO1.out.kept hg (by simp [hgi]))
    have G2 := Lib.hid (G1.out.trans hg)
    have I2 := Lib.hid hi
    clear hi hg BO1 G1 I1 HN
    go_wp2_with fail
    refine (HT.out _ I2.out).mono ?_
    intro e w3 hh
    obtain ⟨v, he, hv, hi, hg⟩ := hh
    subst he
    have BO3 := Lib.hid (BO2.out.kept hg (by simp [hgi]))
    have G3 := Lib.hid (G2.out.trans hg)
    have I3 := Lib.hid hi
    have BS3 := Lib.hid hv
    obtain ⟨A, c, rfl, k1, k2, hcells⟩ := hv
    clear hi hg BO2 G2 I2 HT
    have hBL := HBL.out
    rw [HBL.out] at k1 ⊢
    go_wp2_with fail
    refine (chunk_any _ A c N).mono ?_
    intro e w5 hh
    obtain ⟨q1, q2, he, cut, ⟨hq1, hq2⟩, b5⟩ := hh
    subst he
    have BO5 := Lib.hid (boxed_below BO3.out b5)
    have G5 := Lib.hid (G3.out.trans (grown_any b5 (some i)))
    have I5 := Lib.hid (I3.out.kept b5)
    obtain ⟨bb, oo, hAb, hHC⟩ : ∃ bb oo, (0 < N → A = some ⟨bb, oo, none⟩) ∧ ∀ (x : Fin N), bb < w5.heap.size ∧ bb ≠ gO ∧ w5.rangeAt bb (oo + 32 * x.val) (cellsB (keyAt B x.val)) := by
      by_cases hN0 : 0 < N
      · obtain ⟨bb, oo, hA, hc⟩ := hcells (by omega)
        have hcell : ∀ j (hj : j < B.length), w5.cell? ⟨bb, oo + j, none⟩ = some (.int .u8 (B[j].toNat : Int)) := fun j hj => (b5.cell (World.block_lt_of_cell? w3 _ (hc j hj))).trans (hc j hj)
        have hL := HBL.out
        refine ⟨bb, oo, fun _ => hA, fun x => ⟨World.block_lt_of_cell? w5 _ (hcell 0 (by omega)), fun e => ?_, fun j u hj => ?_⟩⟩
        · have h0 := hcell 0 (by omega)
          rw [e, Nat.add_zero] at h0
          have h1 : RowAt w5 gO 55 #[.slice none 0 0] := BO5.out
          rw [h1.cell] at h0
          rcases oo with _ | oo
          · simp at h0
          · simp at h0
        · have hx := x.isLt
          have hj1 := (List.getElem?_eq_some_iff.1 hj).1
          rw [cellsB_length, HK32.out x] at hj1
          rw [Nat.add_assoc, hcell (32 * x.val + j) (by omega), ← hj]
          have hj2 : 32 * x.val + j < B.length := by omega
          simp [cellsB, keyAt, hj1, hj2]
      · exact ⟨0, 0, fun h => absurd h hN0, fun x => absurd x.isLt (by omega)⟩
    have HAb := Lib.hid hAb
    have HC := Lib.hid hHC
    have CUT := Lib.hid cut
    have hgl : gO < w5.heap.size := (Array.getElem?_eq_some_iff.1 BO5.out).1
    have hq1g : q1 ≠ gO := fun e => by
      have := (Array.getElem?_eq_some_iff.1 BO3.out).1
      omega
    have hq2g : q2 ≠ gO := fun e => by
      have := (Array.getElem?_eq_some_iff.1 BO3.out).1
      omega
    clear cut b5 hcells BS3 BO3 G3 I3 hAb hHC
    go_wp2_with fail
    refine (wpIn_wide (n := 3)).1 ?_
    refine wpIn_rangeFunc_ownH (F := Fence.wide) rfl (by omega) (gf := 75) (lb := #[.pointer (some ⟨q1, 0, none⟩), .pointer (some ⟨q2, 0, none⟩)]) rfl trivial (enters_of Try.func75 (by kernel_rfl) rfl)
      (chunk1_stops 2 (by omega) q1 q2 bb oo c N A HAb.out k1 k2 w5 CUT.out) keepsAt_t (keepsAt_b CUT.out.lt) (Below.refl _ _) (fun _ => rfl)
      (fun pre W => (∃ v, Boxed W gO 55 v ∧ W.ownsRow w5.heap.size 52 32 v pre.length (cellsB (pre.map fun x => keyAt B x.val).flatten)) ∧ w5.grownBy W (some gO))
      (fun _ _ _ => False)
      (fun s X Y row hs hg hr => by
        obtain ⟨⟨v, i1, i2⟩, i3⟩ := hs
        have hne : some gO ≠ row := fun e => by have := (hr gO e.symm).1; omega
        exact ⟨⟨v, i1.kept hg hne, owned_far i2 hg (fun r e => (hr r e).2)⟩, grown_past i3 hg (fun k e => (hr k e).1)⟩)
      (fun _ _ _ _ _ hs _ _ => hs)
      ⟨⟨_, BO5.out, World.ownsRow_nil _ _ _ _⟩, World.grownBy.refl _ _⟩
      (fun x a' W => a' = { tmps := #[.pointer (some ⟨i, 0, none⟩), .int .i64 M, undef, undef, .slice none 0 0, .pointer (some ⟨gO, 0, none⟩), .slice (some ⟨bb, oo + 32 * x.val, none⟩) 32 32, .pointer (some ⟨i, 0, none⟩), .pointer (some ⟨i, 0, none⟩), .int .i64 M, .int .i64 M, .int .i64 (C : Int), .int .i64 (32 * (C : Int)), .slice A (32 * N) c, .func (.func 75) #[] #[.pointer (some ⟨q1, 0, none⟩), .pointer (some ⟨q2, 0, none⟩)], .slice (some ⟨bb, oo + 32 * x.val, none⟩) 32 32, undef, undef, undef, undef, undef, undef, undef], defers := [] })
      (fun x a' _ X Y row hs hg hr => hs)
      ?assign ?body ?done ?stop
    case assign =>
      rintro lo pre x W K hI hK
      gi_wp2
      exact hK _ _ ((KeepsOthers.of_below (Below.refl _ _)).from _) (KeepsAt.refl _ _) hI rfl
    case body =>
      rintro lo pre x a' W hlo hrec ⟨⟨v, hO, hW⟩, hG⟩ rfl hlt
      obtain ⟨kx, hkx⟩ : ∃ kx, kx = keyAt B x.val := ⟨_, rfl⟩
      have L32 : Hid (kx.length = 32) := by show _ = _; rw [hkx]; exact HK32.out x
      have hnext : (pre ++ [x]).map (fun x => keyAt B x.val) = pre.map (fun x => keyAt B x.val) ++ [kx] := by rw [List.map_append, hkx]; rfl
      have HNX := Lib.hid hnext
      obtain ⟨hbl, hbg, hbr⟩ := HC.out x
      rw [← hkx] at hbr
      have HR : Hid (∀ W', w5.grownBy W' (some gO) → W'.rangeAt bb (oo + 32 * x.val) (cellsB kx)) := fun W' hg j u hj => hg.cell (hbr j u hj) (by intro e; injection e with e; exact hbg e)
      obtain ⟨ks, hks⟩ : ∃ ks, ks = pre.map fun x => keyAt B x.val := ⟨_, rfl⟩
      have hkl : ks.length = pre.length := by rw [hks, List.length_map]
      have HKS : Hid (∀ l ∈ ks, l.length = 32) := fun l hl => by
        rw [hks] at hl
        obtain ⟨y, _, rfl⟩ := List.mem_map.1 hl
        exact HK32.out y
      rw [← hks, ← hkl] at hW
      rw [← hks] at HNX
      have hk100 : ks.length ≤ 100 := by omega
      have hsz5 : w5.heap.size ≤ W.heap.size := hG.size
      have HW0 := Lib.hid hW
      have HO0 := Lib.hid hO
      have HG0 := Lib.hid hG
      have HPL := Lib.hid hkl
      obtain ⟨VA, vn, vc, rfl⟩ : ∃ VA vn vc, v = .slice VA vn vc := by
        rcases hW.2 with ⟨rfl, _⟩ | ⟨g, cap, cur, rfl, _⟩ <;> exact ⟨_, _, _, rfl⟩
      clear hkx hnext hbr hks hrec hlt hW hO hG hkl
      gi_wp2
      refine round_region (S := fun W' => Boxed W' gO 55 (.slice VA vn vc) ∧ W'.rangeAt bb (oo + 32 * x.val) (cellsB kx)) (fin := fun j => j == 6) (by kernel_rfl) (by kernel_rfl) (by rintro ⟨_, _, h⟩; exact h) ?_
      have hS : Boxed W.drew gO 55 (.slice VA vn vc) ∧ W.drew.rangeAt bb (oo + 32 * x.val) (cellsB kx) := ⟨HO0.out, HR.out _ (grown_past HG0.out (grown_of_below (Below.refl _ W).drew) (fun k e => by cases e))⟩
      change walkS _ _ _ _ _ _ 7 _ _ _
      refine walkS_take (i := 0) (oi := ⟨some 16, _, _, _, _, _⟩) (v := .slice VA vn vc) rfl (by kernel_rfl) (by kernel_rfl) (fun _ _ _ h => h) _ _ _ _ (by kernel_rfl) (by kernel_rfl) (Or.inl ⟨by rfl, fun w' hS' => (by have c0 := hS'.1.cell; clear hS hS'; go_simp)⟩) hS ?_
      try simp only [Act.put, List.setIfInBounds_toArray, List.set_cons_zero, List.set_cons_succ]
      refine walkS_take (i := 1) (oi := ⟨some 17, _, _, _, _, _⟩) (v := .slice (some ⟨bb, oo + 32 * x.val, none⟩) 32 32) rfl (by kernel_rfl) (by kernel_rfl) (fun _ _ _ h => h) _ _ _ _ (by kernel_rfl) (by kernel_rfl) (Or.inl ⟨by rfl, fun w' hS' => (by clear hS hS'; go_simp)⟩) hS ?_
      try simp only [Act.put, List.setIfInBounds_toArray, List.set_cons_zero, List.set_cons_succ]
      refine walkS_take (i := 2) (oi := ⟨some 18, _, _, _, _, _⟩) (v := .pointer (some ⟨bb, oo + 32 * x.val, none⟩)) rfl (by kernel_rfl) (by kernel_rfl) (fun _ _ _ h => h) _ _ _ _ (by kernel_rfl) (by kernel_rfl) (Or.inl ⟨by rfl, fun w' hS' => (by have ha := run_arrayAt (P := Try.prog) w' 52 5 32 (some ⟨bb, oo + 32 * x.val, none⟩) 32 32 Try.underlying52 (Nat.le_refl _); clear hS hS'; go_simp)⟩) hS ?_
      try simp only [Act.put, List.setIfInBounds_toArray, List.set_cons_zero, List.set_cons_succ]
      refine walkS_take (i := 3) (oi := ⟨some 19, _, _, _, _, _⟩) (v := .agg (keyC kx)) rfl (by kernel_rfl) (by kernel_rfl) (fun _ _ _ h => h) _ _ _ _ (by kernel_rfl) (by kernel_rfl) (Or.inl ⟨by rfl, fun w' hS' => (run_keyL _ (.tmp 18) rfl bb (oo + 32 * x.val) rfl kx (.array 32 5) hS'.2 Try.underlying52 rfl (Try.sizeKeyM kx L32.out))⟩) hS ?_
      try simp only [Act.put, List.setIfInBounds_toArray, List.set_cons_zero, List.set_cons_succ]
      refine walkS_only (i := 4) (o := ⟨some 20, _, _, _, _, _⟩) (by kernel_rfl) rfl rfl fun KK hKK => ?_
      refine wp_oneKey (.tmp 19) rfl kx L32.out rfl ?_
      obtain ⟨W1, hW1⟩ : ∃ W1, W1 = W.drew.alloc (.cells (keyC kx) 52) := ⟨_, rfl⟩
      have hsz : W.drew.heap.size = W.heap.size := rfl
      have B1 : Hid (Below W.heap.size W W1) := by show Below _ _ _; rw [hW1]; exact (Below.refl _ W).drew.alloc (Nat.le_refl _) _
      have R1 : Hid (RowAt W1 W.heap.size 52 (keyC kx)) := by show RowAt _ _ _ _; rw [hW1]; exact RowAt.new W.drew _ _
      have O1 := Lib.hid (owned_far (row := none) HW0.out (grown_of_below B1.out) (fun r e => by cases e))
      have BX1 := Lib.hid (boxed_below HO0.out B1.out)
      have G1 := Lib.hid (grown_past HG0.out (grown_of_below B1.out) (fun k e => by cases e))
      rw [← hW1, hsz]
      refine hKK _ _ (.inr ⟨BX1.out, HR.out _ G1.out⟩) ?_
      clear hKK KK hW1 hS
      try simp only [Act.put, List.setIfInBounds_toArray, List.set_cons_zero, List.set_cons_succ]
      refine walkS_only (i := 5) (o := ⟨some 21, _, _, _, _, _⟩) (by kernel_rfl) rfl rfl fun KK hKK => ?_
      obtain ⟨i0, hi0, hz0, hz1, hz2⟩ := info_parts Try.infoKey
      refine wp_append_own W1 (.tmp 16) (.tmp 20) 55 rfl w5.heap.size 52 i0 (.agg (keyC zeroKey)) 32 32 Try.underlying55 hi0 hz0 hz1 hz2 rfl (by decide) (.slice VA vn vc) ks.length (cellsB ks.flatten) rfl O1.out ⟨W.heap.size, 0, none⟩ 1 1 (cellsB kx) rfl (by rw [cellsB_length, L32.out]) (fun j y hj => ?_) (cellsB_one kx) (by unfold maxLen; omega) (by omega) (Nat.le_trans hsz5 B1.out.size) fun v2 W2 ho2 hg2 _ => ?_
      · have hadd : (⟨W.heap.size, 0, none⟩ : Addr).add j = ⟨W.heap.size, j, none⟩ := by unfold Addr.add; split <;> simp_all
        rw [hadd, R1.out.cell j]
        simpa [keyC] using hj
      clear hi0 hz0 hz1 hz2
      have hoff : some gO ≠ (Value.slice VA vn vc).ownBlock := own_off O1.out BX1.out (by decide)
      have BX2 := Lib.hid (BX1.out.kept hg2 hoff)
      have G2 := Lib.hid (grown_past G1.out hg2 (fun k e => (World.ownsRow.lt O1.out k e).1))
      have HO2 := Lib.hid ho2
      have HG2 := Lib.hid hg2
      have hlo : ∀ k, (Value.slice VA vn vc).ownBlock = some k → w5.heap.size ≤ k := fun k e => (World.ownsRow.lt O1.out k e).1
      have KO2 : Hid (KeepsOthers W1 W2) := KeepsOthers.of_grownBy hg2 (fun j o ej hj => by
        rcases O1.out.2 with ⟨e0, _⟩ | ⟨g, cap, cur, e0, _, hc, _⟩
        · rw [e0] at ej; cases ej
        · rw [e0] at ej
          obtain rfl : g = j := by simpa [Value.ownBlock] using ej
          rw [hj] at hc
          cases hc
          rfl)
      obtain ⟨VA2, vn2, vc2, rfl⟩ : ∃ VA vn vc, v2 = .slice VA vn vc := by
        rcases ho2.2 with ⟨rfl, _⟩ | ⟨g, cap, cur, rfl, _⟩ <;> exact ⟨_, _, _, rfl⟩
      clear ho2 hg2
      refine hKK _ _ (.inr ⟨BX2.out, HR.out _ G2.out⟩) ?_
      clear hKK KK
      try simp only [Act.put, List.setIfInBounds_toArray, List.set_cons_zero, List.set_cons_succ]
      refine walkS_only (i := 6) (o := ⟨none, _, _, _, _, _⟩) (by kernel_rfl) rfl rfl fun KK hKK => ?_
      have c2 := BX2.out.cell
      have f2 := BX2.out.frozen
      have HLO := Lib.hid hlo
      clear hlo hoff
      go_simp
      refine hKK _ _ (.inl rfl) ?_
      refine walkS_done (by kernel_rfl) ?_ _
      have hgs := grownBy_setCell' W2 gO (.slice VA2 vn2 vc2)
      refine ⟨?_, ?_, ⟨_, BX2.out.set _, ?_⟩, ?_⟩
      · exact (((KeepsOthers.of_below B1.out).trans KO2.out).trans (KeepsOthers.setCell _ _ _)).from _
      · exact ((KeepsAt.of_below B1.out (fun k hk => Nat.lt_of_lt_of_le (CUT.out.lt k hk) hsz5)).trans (KeepsAt.of_grown HG2.out (fun k hk => ⟨Nat.lt_of_lt_of_le (CUT.out.lt k hk) (Nat.le_trans hsz5 B1.out.size), fun e => by have := HLO.out k e.symm; have := CUT.out.lt k hk; omega⟩))).trans (KeepsAt.of_grown hgs (fun k hk => ⟨Nat.lt_of_lt_of_le (CUT.out.lt k hk) (Nat.le_trans hsz5 (Nat.le_trans B1.out.size HG2.out.size)), by
          intro e
          injection e with e
          rcases hk with h | h
          · exact hq1g (by rw [← h, e])
          · exact hq2g (by rw [← h, e])⟩))
      · rw [HNX.out, List.length_append, List.length_singleton, ← HPL.out, List.flatten_append]
        simp only [List.flatten_singleton, cellsB_append]
        refine World.ownsRow.kept HO2.out hgs (.inr fun e => ?_)
        exact own_off HO2.out BX2.out (by decide) e.symm
      · exact G2.out.trans hgs
    case done =>
      rintro D xs W hD rfl ⟨⟨v, hO, hW⟩, hG⟩ hK
      rw [List.length_finRange] at hW
      have c1 := hO.cell
      have HW := Lib.hid hW
      have HG := Lib.hid hG
      have HKD := Lib.hid hK
      obtain ⟨VA, vn, vc, rfl⟩ : ∃ VA vn vc, v = .slice VA vn vc := by
        rcases hW.2 with ⟨rfl, _⟩ | ⟨g, cap, cur, rfl, _⟩ <;> exact ⟨_, _, _, rfl⟩
      clear hW hG hO
      go_wp2
      refine ⟨by simp, .inl ⟨_, _, rfl, run_takeDeferred hK, ?_⟩⟩
      have hD2 : ∀ r, some D = some r → ∃ o : Obj, W.heap[r]? = some o ∧ o.isCells = false := by
        rintro r e
        cases e
        exact ⟨_, HKD.out, rfl⟩
      have hpo := grownBy_putObj' W D (.deferred none)
      have hGD := grown_past HG.out hpo (fun k e => by injection e with e; omega)
      refine ⟨_, results_tmp rfl _ _ _, _, rfl, ?_, ?_, ?_, ?_⟩
      · rw [H1.out]
        exact Kl.of_own (ks := (List.finRange N).map fun x => keyAt B x.val) (by rw [List.length_map, List.length_finRange]; exact owned_far HW.out hpo hD2) (fun l hl => by
          obtain ⟨y, _, rfl⟩ := List.mem_map.1 hl
          exact HK32.out y)
      · intro k hk
        rcases (owned_far HW.out hpo hD2).2 with ⟨e0, _⟩ | ⟨g, cap, cur, e0, _, hc, _⟩
        · rw [e0] at hk; cases hk
        · rw [e0] at hk
          obtain rfl : g = k := by simpa [Value.ownBlock] using hk
          exact ⟨cur, hc⟩
      · rw [H2.out]
        exact I5.out.far (show RowAt w5 gO 55 #[.slice none 0 0] from BO5.out) (by decide) hgi hGD
      · exact ⟨hGD.os.trans G5.out.os, hGD.tape.trans G5.out.tape, hGD.output.trans G5.out.output, Nat.le_trans G5.out.size hGD.size, fun k h1 h2 => (hGD.block k (Nat.lt_of_lt_of_le h1 G5.out.size) (by intro e; injection e with e; omega)).trans (G5.out.block k h1 h2)⟩
    case stop =>
      rintro D c pre W _ _ h _
      exact h.elim
  · refine (callsIn_wide (n := 3)).1 ?_
    refine callsIn_of_wp_marks Try.func26 rfl trivial ?_ rfl
    simp only [Try.ntmps26, List.size_toArray, List.length_cons, List.length_nil, Nat.reduceAdd, Nat.reduceSub, Array.replicate_succ, Array.replicate_zero, List.push_toArray, List.append_toArray, List.nil_append, List.cons_append]
    refine wpIn_wide.2 ?_
    go_wp2_with fail
    obtain ⟨gO, hgO⟩ : ∃ gO, gO = w.heap.size := ⟨_, rfl⟩
    obtain ⟨w1, hw1⟩ : ∃ w1, w1 = w.alloc (.cells #[.slice none 0 0] 55) := ⟨_, rfl⟩
    have BO1 : Hid (Boxed w1 gO 55 (.slice none 0 0)) := by show Boxed _ _ _ _; rw [hw1, hgO]; exact Boxed.new w _ _
    have G1 : Hid (w.grownBy w1 (some i)) := by show World.grownBy _ _ _; rw [hw1]; exact World.grownBy_alloc _ _ _
    have I1 : Hid (InAt w1 i s) := by show InAt _ _ _; rw [hw1]; exact HH.out.kept (alloc_below _ _)
    have hgi : gO ≠ i := by have := HH.out.lt; omega
    have hgw : w.heap.size ≤ gO := Nat.le_of_eq hgO.symm
    rw [← hw1, ← hgO]
    clear hw1 hgO HH
    refine (HN.out _ I1.out).mono ?_
    intro e w2 hh
    obtain ⟨he, hi, hg⟩ := hh
    subst he
    have BO2 := Lib.hid (BO1.out.kept hg (by simp [hgi]))
    have G2 := Lib.hid (G1.out.trans hg)
    have I2 := Lib.hid hi
    clear hi hg BO1 G1 I1 HN
    go_wp2_with fail
    refine (HT.out _ I2.out).mono ?_
    intro e w3 hh
    obtain ⟨v, he, hv, hi, hg⟩ := hh
    subst he
    have BO3 := Lib.hid (BO2.out.kept hg (by simp [hgi]))
    have G3 := Lib.hid (G2.out.trans hg)
    have I3 := Lib.hid hi
    have BS3 := Lib.hid hv
    obtain ⟨A, c, rfl, k1, k2, hcells⟩ := hv
    clear hi hg BO2 G2 I2 HT
    have hBL := HBL.out
    rw [HBL.out] at k1 ⊢
    go_wp2_with fail
    refine (chunk_any _ A c N).mono ?_
    intro e w5 hh
    obtain ⟨q1, q2, he, cut, ⟨hq1, hq2⟩, b5⟩ := hh
    subst he
    have BO5 := Lib.hid (boxed_below BO3.out b5)
    have G5 := Lib.hid (G3.out.trans (grown_any b5 (some i)))
    have I5 := Lib.hid (I3.out.kept b5)
    obtain ⟨bb, oo, hAb, hHC⟩ : ∃ bb oo, (0 < N → A = some ⟨bb, oo, none⟩) ∧ ∀ (x : Fin N), bb < w5.heap.size ∧ bb ≠ gO ∧ w5.rangeAt bb (oo + 32 * x.val) (cellsB (keyAt B x.val)) := by
      by_cases hN0 : 0 < N
      · obtain ⟨bb, oo, hA, hc⟩ := hcells (by omega)
        have hcell : ∀ j (hj : j < B.length), w5.cell? ⟨bb, oo + j, none⟩ = some (.int .u8 (B[j].toNat : Int)) := fun j hj => (b5.cell (World.block_lt_of_cell? w3 _ (hc j hj))).trans (hc j hj)
        have hL := HBL.out
        refine ⟨bb, oo, fun _ => hA, fun x => ⟨World.block_lt_of_cell? w5 _ (hcell 0 (by omega)), fun e => ?_, fun j u hj => ?_⟩⟩
        · have h0 := hcell 0 (by omega)
          rw [e, Nat.add_zero] at h0
          have h1 : RowAt w5 gO 55 #[.slice none 0 0] := BO5.out
          rw [h1.cell] at h0
          rcases oo with _ | oo
          · simp at h0
          · simp at h0
        · have hx := x.isLt
          have hj1 := (List.getElem?_eq_some_iff.1 hj).1
          rw [cellsB_length, HK32.out x] at hj1
          rw [Nat.add_assoc, hcell (32 * x.val + j) (by omega), ← hj]
          have hj2 : 32 * x.val + j < B.length := by omega
          simp [cellsB, keyAt, hj1, hj2]
      · exact ⟨0, 0, fun h => absurd h hN0, fun x => absurd x.isLt (by omega)⟩
    have HAb := Lib.hid hAb
    have HC := Lib.hid hHC
    have CUT := Lib.hid cut
    have hgl : gO < w5.heap.size := (Array.getElem?_eq_some_iff.1 BO5.out).1
    have hq1g : q1 ≠ gO := fun e => by
      have := (Array.getElem?_eq_some_iff.1 BO3.out).1
      omega
    have hq2g : q2 ≠ gO := fun e => by
      have := (Array.getElem?_eq_some_iff.1 BO3.out).1
      omega
    clear cut b5 hcells BS3 BO3 G3 I3 hAb hHC
    go_wp2_with fail
    refine (wpIn_wide (n := 3)).1 ?_
    refine wpIn_rangeFunc_ownH (F := Fence.wide) rfl (by omega) (gf := 75) (lb := #[.pointer (some ⟨q1, 0, none⟩), .pointer (some ⟨q2, 0, none⟩)]) rfl trivial (enters_of Try.func75 (by kernel_rfl) rfl)
      (chunk1_stops 2 (by omega) q1 q2 bb oo c N A HAb.out k1 k2 w5 CUT.out) keepsAt_t (keepsAt_b CUT.out.lt) (Below.refl _ _) (fun _ => rfl)
      (fun pre W => (∃ v, Boxed W gO 55 v ∧ W.ownsRow w5.heap.size 52 32 v pre.length (cellsB (pre.map fun x => keyAt B x.val).flatten)) ∧ w5.grownBy W (some gO))
      (fun _ _ _ => False)
      (fun s X Y row hs hg hr => by
        obtain ⟨⟨v, i1, i2⟩, i3⟩ := hs
        have hne : some gO ≠ row := fun e => by have := (hr gO e.symm).1; omega
        exact ⟨⟨v, i1.kept hg hne, owned_far i2 hg (fun r e => (hr r e).2)⟩, grown_past i3 hg (fun k e => (hr k e).1)⟩)
      (fun _ _ _ _ _ hs _ _ => hs)
      ⟨⟨_, BO5.out, World.ownsRow_nil _ _ _ _⟩, World.grownBy.refl _ _⟩
      (fun x a' W => a' = { tmps := #[.pointer (some ⟨i, 0, none⟩), .int .i64 m, undef, undef, .slice none 0 0, .pointer (some ⟨gO, 0, none⟩), .slice (some ⟨bb, oo + 32 * x.val, none⟩) 32 32, .pointer (some ⟨i, 0, none⟩), .pointer (some ⟨i, 0, none⟩), .int .i64 m, .int .i64 100, .int .i64 (C : Int), .int .i64 (32 * (C : Int)), .slice A (32 * N) c, .func (.func 75) #[] #[.pointer (some ⟨q1, 0, none⟩), .pointer (some ⟨q2, 0, none⟩)], .slice (some ⟨bb, oo + 32 * x.val, none⟩) 32 32, undef, undef, undef, undef, undef, undef, undef], defers := [] })
      (fun x a' _ X Y row hs hg hr => hs)
      ?assign ?body ?done ?stop
    case assign =>
      rintro lo pre x W K hI hK
      gi_wp2
      exact hK _ _ ((KeepsOthers.of_below (Below.refl _ _)).from _) (KeepsAt.refl _ _) hI rfl
    case body =>
      rintro lo pre x a' W hlo hrec ⟨⟨v, hO, hW⟩, hG⟩ rfl hlt
      obtain ⟨kx, hkx⟩ : ∃ kx, kx = keyAt B x.val := ⟨_, rfl⟩
      have L32 : Hid (kx.length = 32) := by show _ = _; rw [hkx]; exact HK32.out x
      have hnext : (pre ++ [x]).map (fun x => keyAt B x.val) = pre.map (fun x => keyAt B x.val) ++ [kx] := by rw [List.map_append, hkx]; rfl
      have HNX := Lib.hid hnext
      obtain ⟨hbl, hbg, hbr⟩ := HC.out x
      rw [← hkx] at hbr
      have HR : Hid (∀ W', w5.grownBy W' (some gO) → W'.rangeAt bb (oo + 32 * x.val) (cellsB kx)) := fun W' hg j u hj => hg.cell (hbr j u hj) (by intro e; injection e with e; exact hbg e)
      obtain ⟨ks, hks⟩ : ∃ ks, ks = pre.map fun x => keyAt B x.val := ⟨_, rfl⟩
      have hkl : ks.length = pre.length := by rw [hks, List.length_map]
      have HKS : Hid (∀ l ∈ ks, l.length = 32) := fun l hl => by
        rw [hks] at hl
        obtain ⟨y, _, rfl⟩ := List.mem_map.1 hl
        exact HK32.out y
      rw [← hks, ← hkl] at hW
      rw [← hks] at HNX
      have hk100 : ks.length ≤ 100 := by omega
      have hsz5 : w5.heap.size ≤ W.heap.size := hG.size
      have HW0 := Lib.hid hW
      have HO0 := Lib.hid hO
      have HG0 := Lib.hid hG
      have HPL := Lib.hid hkl
      obtain ⟨VA, vn, vc, rfl⟩ : ∃ VA vn vc, v = .slice VA vn vc := by
        rcases hW.2 with ⟨rfl, _⟩ | ⟨g, cap, cur, rfl, _⟩ <;> exact ⟨_, _, _, rfl⟩
      clear hkx hnext hbr hks hrec hlt hW hO hG hkl
      gi_wp2
      refine round_region (S := fun W' => Boxed W' gO 55 (.slice VA vn vc) ∧ W'.rangeAt bb (oo + 32 * x.val) (cellsB kx)) (fin := fun j => j == 6) (by kernel_rfl) (by kernel_rfl) (by rintro ⟨_, _, h⟩; exact h) ?_
      have hS : Boxed W.drew gO 55 (.slice VA vn vc) ∧ W.drew.rangeAt bb (oo + 32 * x.val) (cellsB kx) := ⟨HO0.out, HR.out _ (grown_past HG0.out (grown_of_below (Below.refl _ W).drew) (fun k e => by cases e))⟩
      change walkS _ _ _ _ _ _ 7 _ _ _
      refine walkS_take (i := 0) (oi := ⟨some 16, _, _, _, _, _⟩) (v := .slice VA vn vc) rfl (by kernel_rfl) (by kernel_rfl) (fun _ _ _ h => h) _ _ _ _ (by kernel_rfl) (by kernel_rfl) (Or.inl ⟨by rfl, fun w' hS' => (by have c0 := hS'.1.cell; clear hS hS'; go_simp)⟩) hS ?_
      try simp only [Act.put, List.setIfInBounds_toArray, List.set_cons_zero, List.set_cons_succ]
      refine walkS_take (i := 1) (oi := ⟨some 17, _, _, _, _, _⟩) (v := .slice (some ⟨bb, oo + 32 * x.val, none⟩) 32 32) rfl (by kernel_rfl) (by kernel_rfl) (fun _ _ _ h => h) _ _ _ _ (by kernel_rfl) (by kernel_rfl) (Or.inl ⟨by rfl, fun w' hS' => (by clear hS hS'; go_simp)⟩) hS ?_
      try simp only [Act.put, List.setIfInBounds_toArray, List.set_cons_zero, List.set_cons_succ]
      refine walkS_take (i := 2) (oi := ⟨some 18, _, _, _, _, _⟩) (v := .pointer (some ⟨bb, oo + 32 * x.val, none⟩)) rfl (by kernel_rfl) (by kernel_rfl) (fun _ _ _ h => h) _ _ _ _ (by kernel_rfl) (by kernel_rfl) (Or.inl ⟨by rfl, fun w' hS' => (by have ha := run_arrayAt (P := Try.prog) w' 52 5 32 (some ⟨bb, oo + 32 * x.val, none⟩) 32 32 Try.underlying52 (Nat.le_refl _); clear hS hS'; go_simp)⟩) hS ?_
      try simp only [Act.put, List.setIfInBounds_toArray, List.set_cons_zero, List.set_cons_succ]
      refine walkS_take (i := 3) (oi := ⟨some 19, _, _, _, _, _⟩) (v := .agg (keyC kx)) rfl (by kernel_rfl) (by kernel_rfl) (fun _ _ _ h => h) _ _ _ _ (by kernel_rfl) (by kernel_rfl) (Or.inl ⟨by rfl, fun w' hS' => (run_keyL _ (.tmp 18) rfl bb (oo + 32 * x.val) rfl kx (.array 32 5) hS'.2 Try.underlying52 rfl (Try.sizeKeyM kx L32.out))⟩) hS ?_
      try simp only [Act.put, List.setIfInBounds_toArray, List.set_cons_zero, List.set_cons_succ]
      refine walkS_only (i := 4) (o := ⟨some 20, _, _, _, _, _⟩) (by kernel_rfl) rfl rfl fun KK hKK => ?_
      refine wp_oneKey (.tmp 19) rfl kx L32.out rfl ?_
      obtain ⟨W1, hW1⟩ : ∃ W1, W1 = W.drew.alloc (.cells (keyC kx) 52) := ⟨_, rfl⟩
      have hsz : W.drew.heap.size = W.heap.size := rfl
      have B1 : Hid (Below W.heap.size W W1) := by show Below _ _ _; rw [hW1]; exact (Below.refl _ W).drew.alloc (Nat.le_refl _) _
      have R1 : Hid (RowAt W1 W.heap.size 52 (keyC kx)) := by show RowAt _ _ _ _; rw [hW1]; exact RowAt.new W.drew _ _
      have O1 := Lib.hid (owned_far (row := none) HW0.out (grown_of_below B1.out) (fun r e => by cases e))
      have BX1 := Lib.hid (boxed_below HO0.out B1.out)
      have G1 := Lib.hid (grown_past HG0.out (grown_of_below B1.out) (fun k e => by cases e))
      rw [← hW1, hsz]
      refine hKK _ _ (.inr ⟨BX1.out, HR.out _ G1.out⟩) ?_
      clear hKK KK hW1 hS
      try simp only [Act.put, List.setIfInBounds_toArray, List.set_cons_zero, List.set_cons_succ]
      refine walkS_only (i := 5) (o := ⟨some 21, _, _, _, _, _⟩) (by kernel_rfl) rfl rfl fun KK hKK => ?_
      obtain ⟨i0, hi0, hz0, hz1, hz2⟩ := info_parts Try.infoKey
      refine wp_append_own W1 (.tmp 16) (.tmp 20) 55 rfl w5.heap.size 52 i0 (.agg (keyC zeroKey)) 32 32 Try.underlying55 hi0 hz0 hz1 hz2 rfl (by decide) (.slice VA vn vc) ks.length (cellsB ks.flatten) rfl O1.out ⟨W.heap.size, 0, none⟩ 1 1 (cellsB kx) rfl (by rw [cellsB_length, L32.out]) (fun j y hj => ?_) (cellsB_one kx) (by unfold maxLen; omega) (by omega) (Nat.le_trans hsz5 B1.out.size) fun v2 W2 ho2 hg2 _ => ?_
      · have hadd : (⟨W.heap.size, 0, none⟩ : Addr).add j = ⟨W.heap.size, j, none⟩ := by unfold Addr.add; split <;> simp_all
        rw [hadd, R1.out.cell j]
        simpa [keyC] using hj
      clear hi0 hz0 hz1 hz2
      have hoff : some gO ≠ (Value.slice VA vn vc).ownBlock := own_off O1.out BX1.out (by decide)
      have BX2 := Lib.hid (BX1.out.kept hg2 hoff)
      have G2 := Lib.hid (grown_past G1.out hg2 (fun k e => (World.ownsRow.lt O1.out k e).1))
      have HO2 := Lib.hid ho2
      have HG2 := Lib.hid hg2
      have hlo : ∀ k, (Value.slice VA vn vc).ownBlock = some k → w5.heap.size ≤ k := fun k e => (World.ownsRow.lt O1.out k e).1
      have KO2 : Hid (KeepsOthers W1 W2) := KeepsOthers.of_grownBy hg2 (fun j o ej hj => by
        rcases O1.out.2 with ⟨e0, _⟩ | ⟨g, cap, cur, e0, _, hc, _⟩
        · rw [e0] at ej; cases ej
        · rw [e0] at ej
          obtain rfl : g = j := by simpa [Value.ownBlock] using ej
          rw [hj] at hc
          cases hc
          rfl)
      obtain ⟨VA2, vn2, vc2, rfl⟩ : ∃ VA vn vc, v2 = .slice VA vn vc := by
        rcases ho2.2 with ⟨rfl, _⟩ | ⟨g, cap, cur, rfl, _⟩ <;> exact ⟨_, _, _, rfl⟩
      clear ho2 hg2
      refine hKK _ _ (.inr ⟨BX2.out, HR.out _ G2.out⟩) ?_
      clear hKK KK
      try simp only [Act.put, List.setIfInBounds_toArray, List.set_cons_zero, List.set_cons_succ]
      refine walkS_only (i := 6) (o := ⟨none, _, _, _, _, _⟩) (by kernel_rfl) rfl rfl fun KK hKK => ?_
      have c2 := BX2.out.cell
      have f2 := BX2.out.frozen
      have HLO := Lib.hid hlo
      clear hlo hoff
      go_simp
      refine hKK _ _ (.inl rfl) ?_
      refine walkS_done (by kernel_rfl) ?_ _
      have hgs := grownBy_setCell' W2 gO (.slice VA2 vn2 vc2)
      refine ⟨?_, ?_, ⟨_, BX2.out.set _, ?_⟩, ?_⟩
      · exact (((KeepsOthers.of_below B1.out).trans KO2.out).trans (KeepsOthers.setCell _ _ _)).from _
      · exact ((KeepsAt.of_below B1.out (fun k hk => Nat.lt_of_lt_of_le (CUT.out.lt k hk) hsz5)).trans (KeepsAt.of_grown HG2.out (fun k hk => ⟨Nat.lt_of_lt_of_le (CUT.out.lt k hk) (Nat.le_trans hsz5 B1.out.size), fun e => by have := HLO.out k e.symm; have := CUT.out.lt k hk; omega⟩))).trans (KeepsAt.of_grown hgs (fun k hk => ⟨Nat.lt_of_lt_of_le (CUT.out.lt k hk) (Nat.le_trans hsz5 (Nat.le_trans B1.out.size HG2.out.size)), by
          intro e
          injection e with e
          rcases hk with h | h
          · exact hq1g (by rw [← h, e])
          · exact hq2g (by rw [← h, e])⟩))
      · rw [HNX.out, List.length_append, List.length_singleton, ← HPL.out, List.flatten_append]
        simp only [List.flatten_singleton, cellsB_append]
        refine World.ownsRow.kept HO2.out hgs (.inr fun e => ?_)
        exact own_off HO2.out BX2.out (by decide) e.symm
      · exact G2.out.trans hgs
    case done =>
      rintro D xs W hD rfl ⟨⟨v, hO, hW⟩, hG⟩ hK
      rw [List.length_finRange] at hW
      have c1 := hO.cell
      have HW := Lib.hid hW
      have HG := Lib.hid hG
      have HKD := Lib.hid hK
      obtain ⟨VA, vn, vc, rfl⟩ : ∃ VA vn vc, v = .slice VA vn vc := by
        rcases hW.2 with ⟨rfl, _⟩ | ⟨g, cap, cur, rfl, _⟩ <;> exact ⟨_, _, _, rfl⟩
      clear hW hG hO
      go_wp2
      refine ⟨by simp, .inl ⟨_, _, rfl, run_takeDeferred hK, ?_⟩⟩
      have hD2 : ∀ r, some D = some r → ∃ o : Obj, W.heap[r]? = some o ∧ o.isCells = false := by
        rintro r e
        cases e
        exact ⟨_, HKD.out, rfl⟩
      have hpo := grownBy_putObj' W D (.deferred none)
      have hGD := grown_past HG.out hpo (fun k e => by injection e with e; omega)
      refine ⟨_, results_tmp rfl _ _ _, _, rfl, ?_, ?_, ?_, ?_⟩
      · rw [H1.out]
        exact Kl.of_own (ks := (List.finRange N).map fun x => keyAt B x.val) (by rw [List.length_map, List.length_finRange]; exact owned_far HW.out hpo hD2) (fun l hl => by
          obtain ⟨y, _, rfl⟩ := List.mem_map.1 hl
          exact HK32.out y)
      · intro k hk
        rcases (owned_far HW.out hpo hD2).2 with ⟨e0, _⟩ | ⟨g, cap, cur, e0, _, hc, _⟩
        · rw [e0] at hk; cases hk
        · rw [e0] at hk
          obtain rfl : g = k := by simpa [Value.ownBlock] using hk
          exact ⟨cur, hc⟩
      · rw [H2.out]
        exact I5.out.far (show RowAt w5 gO 55 #[.slice none 0 0] from BO5.out) (by decide) hgi hGD
      · exact ⟨hGD.os.trans G5.out.os, hGD.tape.trans G5.out.tape, hGD.output.trans G5.out.output, Nat.le_trans G5.out.size hGD.size, fun k h1 h2 => (hGD.block k (Nat.lt_of_lt_of_le h1 G5.out.size) (by intro e; injection e with e; omega)).trans (G5.out.block k h1 h2)⟩
    case stop =>
      rintro D c pre W _ _ h _
      exact h.elim
end Go.Proofs.Ytjhhpakaemnemaa
end
section
namespace Go.Proofs.Ytjhhpakaemnemaa
open Go.RowKit
set_option linter.unusedVariables false
set_option maxRecDepth 20000

def zeroIt : Array Value := #[.int .i64 0, .int .u64 0, .slice none 0 0, .slice none 0 0]
theorem Try.zeroOfIt : (Try.prog.info? 60).map (·.zero) = some (some (.agg zeroIt)) := Try.zeroItem
theorem no_u8I (k n : Int) {w : World} {bv lv : Value} {b : List UInt8} {l : List (List UInt8)} (h1 : Bs w bv b) (h2 : Kl w lv l) : ∀ (j : Nat) (x : Int), (#[.int .i64 k, .int .u64 n, bv, lv] : Array Value)[j]? ≠ some (Value.int .u8 x) := by
  obtain ⟨A, c, rfl, _⟩ := h1
  obtain ⟨B, d, rfl, _⟩ := h2
  intro j x hx
  match j, hx with
  | 0, hx => simp at hx
  | 1, hx => simp at hx
  | 2, hx => simp at hx
  | 3, hx => simp at hx
theorem itC4 (k n : Int) {w : World} {bv lv : Value} {b : List UInt8} {l : List (List UInt8)} (h1 : Bs w bv b) (h2 : Kl w lv l) : ∀ u ∈ (#[.int .i64 k, .int .u64 n, bv, lv] : Array Value).toList, u.oneCell' = true := by
  obtain ⟨A, c, rfl, _⟩ := h1
  obtain ⟨B, d, rfl, _⟩ := h2
  intro u hu
  simp only [List.mem_cons, List.not_mem_nil, or_false] at hu
  rcases hu with rfl | rfl | rfl | rfl <;> rfl
theorem grown_skip {w X Y : World} {i g : Nat} (h : w.grownBy X (some i)) (hg : X.grownBy Y (some g)) (hr : w.heap.size ≤ g) : w.grownBy Y (some i) := grown_past h hg (fun k e => by injection e with e; omega)

set_option maxHeartbeats 1000000 in
theorem read9_any (w : World) (i : Nat) (s : St) (h : InAt w i s) :
    Calls Try.prog 64 #[.pointer (some ⟨i, 0, none⟩)] w fun e w' => ∃ v, e = .returned (.agg #[.int .i64 9, .int .u64 0, v, .slice none 0 0]) ∧ Bs w' v (s.byt 4000) ∧ U8At w' v ∧ InAt w' i (s.bytS 4000) ∧ w.grownBy w' (some i) := by
  have HX := Lib.hid (fun w h => inBytes_any w i s 4000 h)
  have HH := Lib.hid h
  have hil := h.lt
  clear h
  go_enter Try.func64, Try.ntmps64
  go_wp2_with ((with_reducible refine wpList_alloc_row (o := ⟨some 2, _, _, _, _, _⟩) rfl 60 rfl zeroIt Try.zeroOfIt ?_); intro g2 w1 n1)
  have hs := n1.spot
  have hge : w.heap.size ≤ g2 := by omega
  have hne : g2 ≠ i := by omega
  refine (HX.out _ (HH.out.kept n1.below)).mono ?_
  intro e w2 hh
  obtain ⟨v, he, hv, hu, hi, hg⟩ := hh
  subst he
  have R2 := Lib.hid (n1.row.grown hg (by simp [hne]))
  have G2 := Lib.hid ((grown_any n1.below (some i)).trans hg)
  have I2 := Lib.hid hi
  have V2 := Lib.hid hv
  have U2 := Lib.hid hu
  obtain ⟨A, c, rfl, _, _, _⟩ := hv
  clear hi hu hg n1 hs
  obtain ⟨LN, hLN⟩ : ∃ n, n = (s.byt 4000).length := ⟨_, rfl⟩
  rw [← hLN] at V2 U2 ⊢
  have HLN := Lib.hid hLN
  clear hLN
  go_wp2_with ((with_reducible refine wpList_store_row (o := ⟨none, _, _, _, _, _⟩) rfl 60 (.tmp 2) (.tmp 5) rfl g2 60 zeroIt #[.int .i64 9, .int .u64 0, .slice A LN c, .slice none 0 0] (by with_unfolding_all rfl) (by with_unfolding_all rfl) R2.out rfl (by kernel_rfl) (itC4 9 0 V2.out (Kl.nil w2)) ?_); intro w3 p3)
  refine bodyPost_ret (results_cell_row rfl _ _ g2 60 #[.int .i64 9, .int .u64 0, .slice A LN c, .slice none 0 0] (0, 0) _ rfl p3.row Try.underlying60 rfl (by kernel_rfl)) rfl ?_
  have hnu := no_u8I 0 0 (Bs.nil w2) (Kl.nil w2)
  exact ⟨_, rfl, V2.out.turn R2.out hnu p3.grown, U2.out.turn R2.out (by decide) p3.grown, I2.out.far R2.out (by decide) hne p3.grown, grown_skip G2.out p3.grown hge⟩

set_option maxHeartbeats 1000000 in
theorem read32_any (w : World) (i : Nat) (s : St) (h : InAt w i s) :
    Calls Try.prog 66 #[.pointer (some ⟨i, 0, none⟩)] w fun e w' => ∃ v, e = .returned (.agg #[.int .i64 32, .int .u64 0, .slice none 0 0, v]) ∧ Kl w' v (s.keys 100) ∧ KyAt w' v ∧ InAt w' i (s.keyS 100) ∧ w.grownBy w' (some i) := by
  have HX := Lib.hid (fun w h => inKeys_any w i s 100 h)
  have HH := Lib.hid h
  have hil := h.lt
  clear h
  go_enter Try.func66, Try.ntmps66
  go_wp2_with ((with_reducible refine wpList_alloc_row (o := ⟨some 2, _, _, _, _, _⟩) rfl 60 rfl zeroIt Try.zeroOfIt ?_); intro g2 w1 n1)
  have hs := n1.spot
  have hge : w.heap.size ≤ g2 := by omega
  have hne : g2 ≠ i := by omega
  refine (HX.out _ (HH.out.kept n1.below)).mono ?_
  intro e w2 hh
  obtain ⟨v, he, hv, hu, hi, hg⟩ := hh
  subst he
  have R2 := Lib.hid (n1.row.grown hg (by simp [hne]))
  have G2 := Lib.hid ((grown_any n1.below (some i)).trans hg)
  have I2 := Lib.hid hi
  have V2 := Lib.hid hv
  have U2 := Lib.hid hu
  obtain ⟨A, c, rfl, _, _, _, _⟩ := hv
  clear hi hu hg n1 hs
  obtain ⟨LN, hLN⟩ : ∃ n, n = (s.keys 100).length := ⟨_, rfl⟩
  rw [← hLN] at V2 U2 ⊢
  have HLN := Lib.hid hLN
  clear hLN
  go_wp2_with ((with_reducible refine wpList_store_row (o := ⟨none, _, _, _, _, _⟩) rfl 60 (.tmp 2) (.tmp 5) rfl g2 60 zeroIt #[.int .i64 32, .int .u64 0, .slice none 0 0, .slice A LN c] (by with_unfolding_all rfl) (by with_unfolding_all rfl) R2.out rfl (by kernel_rfl) (itC4 32 0 (Bs.nil w2) V2.out) ?_); intro w3 p3)
  refine bodyPost_ret (results_cell_row rfl _ _ g2 60 #[.int .i64 32, .int .u64 0, .slice none 0 0, .slice A LN c] (0, 0) _ rfl p3.row Try.underlying60 rfl (by kernel_rfl)) rfl ?_
  have hnu := no_u8I 0 0 (Bs.nil w2) (Kl.nil w2)
  exact ⟨_, rfl, V2.out.turn R2.out hnu p3.grown, U2.out.grown p3.grown (.inl (U2.out.other R2.out (by decide))), I2.out.far R2.out (by decide) hne p3.grown, grown_skip G2.out p3.grown hge⟩

set_option maxHeartbeats 1000000 in
theorem readN_any (w : World) (i p : Nat) (s : St) (z : Int) (h : InAt w i s) (hp : Boxed w p 3 (.int .i64 z)) (hpi : p ≠ i) :
    Calls Try.prog 69 #[.pointer (some ⟨i, 0, none⟩), .pointer (some ⟨p, 0, none⟩)] w fun e w' => e = .returned (.agg #[.int .i64 z, .int .u64 (s.num z : Int), .slice none 0 0, .slice none 0 0]) ∧ InAt w' i (s.numS z) ∧ w.grownBy w' (some i) := by
  have HX := Lib.hid (fun w h => inNumber_any w i s z h)
  have HH := Lib.hid h
  have HP := Lib.hid hp
  have hil := h.lt
  clear h hp
  go_enter Try.func69, Try.ntmps69
  go_wp2_with ((with_reducible refine wpList_alloc_row (o := ⟨some 3, _, _, _, _, _⟩) rfl 60 rfl zeroIt Try.zeroOfIt ?_); intro g2 w1 n1)
  have hs := n1.spot
  have hge : w.heap.size ≤ g2 := by omega
  have hne : g2 ≠ i := by omega
  have HI1 := Lib.hid (HH.out.kept n1.below)
  have HR1 := Lib.hid n1.row
  have HP1 := Lib.hid (boxed_below HP.out n1.below)
  have HB1 := Lib.hid n1.below
  clear n1 hs HH HP
  refine plain_region (S := fun W => Boxed W p 3 (.int .i64 z) ∧ RowAt W g2 60 zeroIt) (fin := fun j => j == 5) (by kernel_rfl) ?_
  have hS : Boxed w1.drew p 3 (.int .i64 z) ∧ RowAt w1.drew g2 60 zeroIt := ⟨HP1.out, HR1.out⟩
  change walkS _ _ _ _ _ _ 6 _ _ _
  refine walkS_take (i := 0) (oi := ⟨some 4, _, _, _, _, _⟩) (v := .int .i64 z) rfl (by kernel_rfl) (by kernel_rfl) (fun _ _ _ h => h) _ _ _ _ (by kernel_rfl) (by kernel_rfl) (Or.inl ⟨by rfl, fun w' hS' => (by have c0 := hS'.1.cell; clear hS hS'; go_simp)⟩) hS ?_
  try simp only [Act.put, List.setIfInBounds_toArray, List.set_cons_zero, List.set_cons_succ]
  refine walkS_take (i := 1) (oi := ⟨some 5, _, _, _, _, _⟩) (v := .pointer (some ⟨i, 0, none⟩)) rfl (by kernel_rfl) (by kernel_rfl) (fun _ _ _ h => h) _ _ _ _ (by kernel_rfl) (by kernel_rfl) (Or.inl ⟨by rfl, fun w' hS' => (by clear hS hS'; go_simp)⟩) hS ?_
  try simp only [Act.put, List.setIfInBounds_toArray, List.set_cons_zero, List.set_cons_succ]
  refine walkS_take (i := 2) (oi := ⟨some 6, _, _, _, _, _⟩) (v := .int .i64 z) rfl (by kernel_rfl) (by kernel_rfl) (fun _ _ _ h => h) _ _ _ _ (by kernel_rfl) (by kernel_rfl) (Or.inl ⟨by rfl, fun w' hS' => (by have c0 := hS'.1.cell; clear hS hS'; go_simp)⟩) hS ?_
  try simp only [Act.put, List.setIfInBounds_toArray, List.set_cons_zero, List.set_cons_succ]
  refine walkS_only (i := 3) (o := ⟨some 7, _, _, _, _, _⟩) (by kernel_rfl) rfl rfl fun KK hKK => ?_
  clear hS
  go_simp
  refine (HX.out _ HI1.out.drew).mono ?_
  intro e w2 hh
  obtain ⟨he, hi, hg⟩ := hh
  subst he
  have R2 := Lib.hid (HR1.out.drew.grown hg (by simp [hne]))
  have P2 : Boxed w2 p 3 (.int .i64 z) := Boxed.kept (W := w1.drew) HP1.out hg (by simp [hpi])
  have G2 := Lib.hid ((grown_any HB1.out.drew (some i)).trans hg)
  have I2 := Lib.hid hi
  have hS := And.intro P2 R2.out
  refine hKK _ _ (.inr hS) ?_
  clear hKK KK hi hg P2
  try simp only [Act.put, List.setIfInBounds_toArray, List.set_cons_zero, List.set_cons_succ]
  refine walkS_take (i := 4) (oi := ⟨some 8, _, _, _, _, _⟩) (v := .agg #[.int .i64 z, .int .u64 (s.num z : Int), .slice none 0 0, .slice none 0 0]) rfl (by kernel_rfl) (by kernel_rfl) (fun _ _ _ h => h) _ _ _ _ (by kernel_rfl) (by kernel_rfl) (Or.inl ⟨by rfl, fun w' hS' => (by clear hS hS'; go_simp)⟩) hS ?_
  try simp only [Act.put, List.setIfInBounds_toArray, List.set_cons_zero, List.set_cons_succ]
  refine walkS_only (i := 5) (o := ⟨none, _, _, _, _, _⟩) (by kernel_rfl) rfl rfl fun KK hKK => ?_
  refine wp_store_row 60 (.tmp 3) (.tmp 8) rfl g2 60 zeroIt #[.int .i64 z, .int .u64 (s.num z : Int), .slice none 0 0, .slice none 0 0] rfl rfl hS.2 rfl (by kernel_rfl) (itC4 z _ (Bs.nil w2) (Kl.nil w2)) ?_
  intro w3 p3
  refine hKK _ _ (.inl rfl) ?_
  refine walkS_done (by kernel_rfl) ?_ _
  clear hKK KK hS
  go_wp2_with fail
  refine bodyPost_ret (results_cell_row rfl _ _ g2 60 #[.int .i64 z, .int .u64 (s.num z : Int), .slice none 0 0, .slice none 0 0] (0, 0) _ rfl p3.row Try.underlying60 rfl (by kernel_rfl)) rfl ?_
  exact ⟨rfl, I2.out.far R2.out (by decide) hne p3.grown, grown_skip G2.out p3.grown hge⟩
end Go.Proofs.Ytjhhpakaemnemaa
end
