/-
  Texts that belong together, merged: CodJ, CodPa, VpF, Clone. Conditions: as each theorem names them.
-/
import Derived.Test.YtpgbicbjlhkonaaGreatDoorQVlpAN
import Derived.Test.YtpgbicbjlhkonaaGreatDoorQVlpAM
import Derived.Laws.Cover3
import Derived.Test.YtpgbicbjlhkonaaGreatDoorQVlpAL
import Derived.Test.YtpgbicbjlhkonaaGreatDoorQVlpAF
import Derived.Test.YtpgbicbjlhkonaaGreatDoorQVlpAB
import Derived.Test.YtpgbicbjlhkonaaGreatDoorQVlpAG
import Derived.Lib.Hide
import Derived.Lib.SliceRun
section
namespace Go.Proofs.YtpgbicbjlhkonaaGreatDoor
open Go.RowKit Go.Shelf
attribute [local go_sem] Oper.semAt_some
set_option linter.unusedVariables false
set_option maxRecDepth 20000

theorem Tryz.infoKey : (Tryz.prog.info? 117).map (fun i => (i.zero, i.size, i.bytes)) = some (some (.agg (keyC zeroKey)), 32, 32) := by kernel_rfl
theorem wp_oneKey {w : World} {o : Oper} {a : Act} {K : Act → World → Prop} {Q : Exit → Act → World → Prop} (x : Operand) (ho : o.op = .buildSlice 119 1 #[(0, x)]) (l : List UInt8) (hl : l.length = 32) (hx : a.eval x = .agg (keyC l))
    (h : K (a.put o.dst (.slice (some ⟨w.heap.size, 0, none⟩) 1 1)) (w.alloc (.cells (keyC l) 117))) : o.wp Tryz.prog a w K Q := by
  obtain ⟨ie, hie, hs⟩ := Option.map_eq_some_iff.1 Tryz.key32
  obtain ⟨ie2, hie2, hz2⟩ := Option.map_eq_some_iff.1 Tryz.zeroK
  obtain rfl : ie = ie2 := by rw [hie] at hie2; exact Option.some.inj hie2
  refine wp_buildSlice 119 117 1 _ ho (keyC l) ie (.agg (keyC zeroKey)) Tryz.underlying119 hie hz2 (by rw [hs]; omega) (by rw [hs]; omega) ?_ h
  have hp : (#[((0 : Nat), x)].map fun (i, x) => (i, a.eval x)).toList = (([l].map fun l => Value.agg (keyC l)).zipIdx 0).map fun x => (x.2, x.1) := by simp [hx]
  rw [hp, hs, show keyC l = ((([l].map fun l => Value.agg (keyC l)).flatMap fun v => v.cells.toList).toArray) by rw [keys_flat]; simp]
  refine Great.fill_whole (by omega) _ _ (fun v hv => ?_) (by simp)
  obtain ⟨l', hm, rfl⟩ := List.mem_map.1 hv
  obtain rfl : l' = l := by simpa using hm
  simp [Value.cells, keyC_size, hl]
def keyAt (B : List UInt8) (x : Nat) : List UInt8 := (B.drop (32 * x)).take 32
theorem cut32_range (n : Nat) : ∀ l : List UInt8, cut32 n l = (List.range n).map (keyAt l) := by
  induction n with
  | zero => intro l; rfl
  | succ n ih =>
    intro l
    rw [cut32, ih, List.range_succ_eq_map, List.map_cons, List.map_map]
    congr 1
    apply List.map_congr_left
    intro x _
    simp only [keyAt, Function.comp, List.drop_drop]
    congr 2
    omega
theorem finRange_map (N : Nat) (f : Nat → List UInt8) : (List.finRange N).map (fun x => f x.val) = (List.range N).map f := by
  apply List.ext_getElem (by simp)
  intro i h1 h2
  simp
theorem Kl.of_own {w : World} {base : Nat} {v : Value} {ks : List (List UInt8)} (h : w.ownsRow base 117 32 v ks.length (cellsB ks.flatten)) (h32 : ∀ l ∈ ks, l.length = 32) : Kl w v ks := by
  rcases h.2 with ⟨rfl, h0⟩ | ⟨g, cap, cur, rfl, _, hg, h1, h2, h3, h4⟩
  · obtain rfl : ks = [] := List.eq_nil_of_length_eq_zero h0
    exact Kl.nil w
  · refine ⟨_, cap, rfl, h1, h2, h32, fun _ => ⟨g, 0, rfl, fun k l hk j u hj => ?_⟩⟩
    have hkl := (List.getElem?_eq_some_iff.1 hk).1
    have hll := h32 l (List.mem_of_getElem? hk)
    have hj2 := (List.getElem?_eq_some_iff.1 hj).1
    rw [cellsB_length, hll] at hj2
    have hp := flat_part ks h32 k l hk
    have hcell := World.ownsRow.cellAt h (k * 32 + j) (by omega)
    rw [Nat.zero_add, hcell, ← hj, ← hp]
    unfold cellsB
    rw [List.getElem?_map, List.getElem?_map, List.getElem?_take, if_pos hj2, List.getElem?_drop]
theorem run_keyL {P : Program} {w : World} {o : Oper} {a : Act} (ty : TypeId) (x : Operand) (ho : o.op = .load ty x) (g k : Nat) (hx : a.eval x = .pointer (some ⟨g, k, none⟩)) (l : List UInt8) (d : TypeDesc) (hc : w.rangeAt g k (cellsB l))
    (hu : P.underlying ty = some d) (hd : d.isRow = true) (hs : (P.info? ty).map (·.size) = some (cellsB l).length) : (execOp a.eval o).run P w = .ok (.value (.agg (keyC l))) w := by
  unfold execOp
  simp only [ho, hx, Instr.loadAt, Instr.sureAddr, Sem.run_bind, Sem.run_pure, Result.andThen_ok, run_loadVar_mid w g k ty (cellsB l) d hc hu hd hs]
  rfl
theorem owned_far {w X : World} {base e sz n : Nat} {v : Value} {xs : List Value} {row : Option Nat} (h : w.ownsRow base e sz v n xs) (hg : w.grownBy X row) (hr : ∀ r, row = some r → ∃ o : Obj, w.heap[r]? = some o ∧ o.isCells = false) : X.ownsRow base e sz v n xs := by
  refine World.ownsRow.kept h hg ?_
  rcases h.2 with ⟨rfl, _⟩ | ⟨g, cap, cur, rfl, _, hc, _⟩
  · exact .inl rfl
  · refine .inr fun hk => ?_
    obtain ⟨o, ho, hf⟩ := hr g hk.symm
    rw [hc] at ho
    cases ho
    simp [Obj.isCells] at hf
theorem grown_past {w X Y : World} {row : Option Nat} {r : Option Nat} (h : w.grownBy X row) (hg : X.grownBy Y r) (hr : ∀ k, r = some k → w.heap.size ≤ k) : w.grownBy Y row :=
  ⟨hg.os.trans h.os, hg.tape.trans h.tape, hg.output.trans h.output, Nat.le_trans h.size hg.size, fun k hk hne => (hg.block k (Nat.lt_of_lt_of_le hk h.size) (fun e => by have := hr k e.symm; omega)).trans (h.block k hk hne)⟩
theorem St.cnt_le (s : St) (m : Int) (h : m ≤ 100) : s.cnt m ≤ 100 := by
  unfold St.cnt
  split
  · omega
  · omega
theorem St.take_mul (s : St) (n : Nat) : (s.take (32 * n)).length = 32 * ((s.take (32 * n)).length / 32) ∧ (s.take (32 * n)).length / 32 ≤ n := by
  rcases s.take_short (32 * n) with h | h
  · rw [h]; omega
  · rw [h]; simp

set_option maxHeartbeats 4000000 in
theorem inKeys_any (w : World) (i : Nat) (s : St) (m : Int) (h : InAt w i s) :
    Calls Tryz.prog 77 #[.pointer (some ⟨i, 0, none⟩), .int .i64 m] w fun e w' => ∃ v, e = .returned v ∧ Kl w' v (s.keys m) ∧ KyAt w' v ∧ InAt w' i (s.keyS m) ∧ w.grownBy w' (some i) := by
  have HH := Lib.hid h
  clear h
  obtain ⟨M, hM⟩ : ∃ M, M = min m 100 := ⟨_, rfl⟩
  have HN : Hid (∀ w, InAt w i s → Calls Tryz.prog 96 #[.pointer (some ⟨i, 0, none⟩), .int .i64 M] w fun e w' => e = .returned (.int .i64 (s.cnt M : Int)) ∧ InAt w' i (s.cntS M) ∧ w.grownBy w' (some i)) := fun w h => inCount_any w i s M h
  obtain ⟨C, hC⟩ : ∃ C, C = s.cnt M := ⟨_, rfl⟩
  have hC100 : C ≤ 100 := by rw [hC]; exact s.cnt_le M (by omega)
  obtain ⟨S, hS⟩ : ∃ S, S = s.cntS M := ⟨_, rfl⟩
  have HT : Hid (∀ w, InAt w i S → Calls Tryz.prog 94 #[.pointer (some ⟨i, 0, none⟩), .int .i64 ((32 * C : Nat) : Int)] w fun e w' => ∃ v, e = .returned v ∧ Bs w' v (S.take (32 * C)) ∧ InAt w' i (S.rest (32 * C)) ∧ w.grownBy w' (some i)) := fun w h => inTake_any w i S (32 * C) h
  have hmul := S.take_mul C
  obtain ⟨B, hB⟩ : ∃ B, B = S.take (32 * C) := ⟨_, rfl⟩
  rw [← hB] at hmul HT
  obtain ⟨N, hN⟩ : ∃ N, N = B.length / 32 := ⟨_, rfl⟩
  rw [← hN] at hmul
  have HBL : Hid (B.length = 32 * N) := hmul.1
  have H1 : Hid (s.keys m = (List.finRange N).map fun x => keyAt B x.val) := by
    show _ = _
    rw [finRange_map, ← cut32_range, hN, hB, hC, hS, hM]
    rfl
  obtain ⟨S2, hS2⟩ : ∃ S2, S2 = S.rest (32 * C) := ⟨_, rfl⟩
  rw [← hS2] at HT
  have H2 : Hid (s.keyS m = S2) := by show _ = _; rw [hS2, hC, hS, hM]; rfl
  have HK32 : Hid (∀ x : Fin N, (keyAt B x.val).length = 32) := fun x => by
    have := x.isLt
    unfold keyAt
    rw [List.length_take, List.length_drop, hmul.1]
    omega
  have hN100 : N ≤ 100 := by omega
  have hwm : IntKind.i64.wrap (32 * (C : Int)) = ((32 * C : Nat) : Int) := by rw [IntWalk.i64_in _ (by omega)]; omega
  rw [← hC, ← hS] at HN
  clear hC hS hB hN hS2 hmul
  have key : (¬ (100 < m) ∧ M = m) ∨ (100 < m ∧ M = 100) := by omega
  clear hM
  rcases key with ⟨hm, rfl⟩ | ⟨hm, rfl⟩
  · refine (callsIn_wide (n := 3)).1 ?_
    refine callsIn_of_wp_marks Tryz.func77 rfl trivial ?_ rfl
    simp only [Tryz.ntmps77, List.size_toArray, List.length_cons, List.length_nil, Nat.reduceAdd, Nat.reduceSub, Array.replicate_succ, Array.replicate_zero, List.push_toArray, List.append_toArray, List.nil_append, List.cons_append]
    refine wpIn_wide.2 ?_
    go_wp2_with fail
    obtain ⟨gO, hgO⟩ : ∃ gO, gO = w.heap.size := ⟨_, rfl⟩
    obtain ⟨w1, hw1⟩ : ∃ w1, w1 = w.alloc (.cells #[.slice none 0 0] 119) := ⟨_, rfl⟩
    have BO1 : Hid (Boxed w1 gO 119 (.slice none 0 0)) := by show Boxed _ _ _ _; rw [hw1, hgO]; exact Boxed.new w _ _
    have G1 : Hid (w.grownBy w1 (some i)) := by show World.grownBy _ _ _; rw [hw1]; exact World.grownBy_alloc _ _ _
    have I1 : Hid (InAt w1 i s) := by show InAt _ _ _; rw [hw1]; exact HH.out.kept (alloc_below _ _)
    have hgi : gO ≠ i := by have := HH.out.lt; omega
    have hgw : w.heap.size ≤ gO := Nat.le_of_eq hgO.symm
    rw [← hw1, ← hgO]
    clear hw1 hgO HH
    refine (HN.out _ I1.out).mono ?_
    intro e w2 hh
    obtain ⟨he, hi, hg⟩ := hh
    subst he
    have BO2 := Lib.hid (BO1.out.kept hg (by simp [hgi]))
    have G2 := Lib.hid (G1.out.trans hg)
    have I2 := Lib.hid hi
    clear hi hg BO1 G1 I1 HN
    go_wp2_with fail
    refine (HT.out _ I2.out).mono ?_
    intro e w3 hh
    obtain ⟨v, he, hv, hi, hg⟩ := hh
    subst he
    have BO3 := Lib.hid (BO2.out.kept hg (by simp [hgi]))
    have G3 := Lib.hid (G2.out.trans hg)
    have I3 := Lib.hid hi
    have BS3 := Lib.hid hv
    obtain ⟨A, c, rfl, k1, k2, hcells⟩ := hv
    clear hi hg BO2 G2 I2 HT
    have hBL := HBL.out
    rw [HBL.out] at k1 ⊢
    go_wp2_with fail
    refine (chunk_any32 _ A c N).mono ?_
    intro e w5 hh
    obtain ⟨q1, q2, he, cut, ⟨hq1, hq2⟩, b5⟩ := hh
    subst he
    have BO5 := Lib.hid (boxed_below BO3.out b5)
    have G5 := Lib.hid (G3.out.trans (grown_any b5 (some i)))
    have I5 := Lib.hid (I3.out.kept b5)
    obtain ⟨bb, oo, hAb, hHC⟩ : ∃ bb oo, (0 < N → A = some ⟨bb, oo, none⟩) ∧ ∀ (x : Fin N), bb < w5.heap.size ∧ bb ≠ gO ∧ w5.rangeAt bb (oo + 32 * x.val) (cellsB (keyAt B x.val)) := by
      by_cases hN0 : 0 < N
      · obtain ⟨bb, oo, hA, hc⟩ := hcells (by omega)
        have hcell : ∀ j (hj : j < B.length), w5.cell? ⟨bb, oo + j, none⟩ = some (.int .u8 (B[j].toNat : Int)) := fun j hj => (b5.cell (World.block_lt_of_cell? w3 _ (hc j hj))).trans (hc j hj)
        have hL := HBL.out
        refine ⟨bb, oo, fun _ => hA, fun x => ⟨World.block_lt_of_cell? w5 _ (hcell 0 (by omega)), fun e => ?_, fun j u hj => ?_⟩⟩
        · have h0 := hcell 0 (by omega)
          rw [e, Nat.add_zero] at h0
          have h1 : RowAt w5 gO 119 #[.slice none 0 0] := BO5.out
          rw [h1.cell] at h0
          rcases oo with _ | oo
          · simp at h0
          · simp at h0
        · have hx := x.isLt
          have hj1 := (List.getElem?_eq_some_iff.1 hj).1
          rw [cellsB_length, HK32.out x] at hj1
          rw [Nat.add_assoc, hcell (32 * x.val + j) (by omega), ← hj]
          have hj2 : 32 * x.val + j < B.length := by omega
          simp [cellsB, keyAt, hj1, hj2]
      · exact ⟨0, 0, fun h => absurd h hN0, fun x => absurd x.isLt (by omega)⟩
    have HAb := Lib.hid hAb
    have HC := Lib.hid hHC
    have CUT := Lib.hid cut
    have hgl : gO < w5.heap.size := (Array.getElem?_eq_some_iff.1 BO5.out).1
    have hq1g : q1 ≠ gO := fun e => by
      have := (Array.getElem?_eq_some_iff.1 BO3.out).1
      omega
    have hq2g : q2 ≠ gO := fun e => by
      have := (Array.getElem?_eq_some_iff.1 BO3.out).1
      omega
    clear cut b5 hcells BS3 BO3 G3 I3 hAb hHC
    go_wp2_with fail
    refine (wpIn_wide (n := 3)).1 ?_
    refine wpIn_rangeFunc_ownH (F := Fence.wide) rfl (by omega) (gf := 108) (lb := #[.pointer (some ⟨q1, 0, none⟩), .pointer (some ⟨q2, 0, none⟩)]) rfl trivial (enters_of Tryz.func108 (by kernel_rfl) rfl)
      (chunk1_stops32 2 (by omega) q1 q2 bb oo c N A HAb.out k1 k2 w5 CUT.out) keepsAt_t (keepsAt_b CUT.out.lt) (Below.refl _ _) (fun _ => rfl)
      (fun pre W => (∃ v, Boxed W gO 119 v ∧ W.ownsRow w5.heap.size 117 32 v pre.length (cellsB (pre.map fun x => keyAt B x.val).flatten)) ∧ w5.grownBy W (some gO))
      (fun _ _ _ => False)
      (fun s X Y row hs hg hr => by
        obtain ⟨⟨v, i1, i2⟩, i3⟩ := hs
        have hne : some gO ≠ row := fun e => by have := (hr gO e.symm).1; omega
        exact ⟨⟨v, i1.kept hg hne, owned_far i2 hg (fun r e => (hr r e).2)⟩, grown_past i3 hg (fun k e => (hr k e).1)⟩)
      (fun _ _ _ _ _ hs _ _ => hs)
      ⟨⟨_, BO5.out, World.ownsRow_nil _ _ _ _⟩, World.grownBy.refl _ _⟩
      (fun x a' W => a' = { tmps := #[.pointer (some ⟨i, 0, none⟩), .int .i64 M, undef, undef, .slice none 0 0, .pointer (some ⟨gO, 0, none⟩), .slice (some ⟨bb, oo + 32 * x.val, none⟩) 32 32, .pointer (some ⟨i, 0, none⟩), .pointer (some ⟨i, 0, none⟩), .int .i64 M, .int .i64 M, .int .i64 (C : Int), .int .i64 (32 * (C : Int)), .slice A (32 * N) c, .func (.func 108) #[] #[.pointer (some ⟨q1, 0, none⟩), .pointer (some ⟨q2, 0, none⟩)], .slice (some ⟨bb, oo + 32 * x.val, none⟩) 32 32, undef, undef, undef, undef, undef, undef, undef], defers := [] })
      (fun x a' _ X Y row hs hg hr => hs)
      ?assign ?body ?done ?stop
    case assign =>
      rintro lo pre x W K hI hK
      gi_wp2
      exact hK _ _ ((KeepsOthers.of_below (Below.refl _ _)).from _) (KeepsAt.refl _ _) hI rfl
    case body =>
      rintro lo pre x a' W hlo hrec ⟨⟨v, hO, hW⟩, hG⟩ rfl hlt
      obtain ⟨kx, hkx⟩ : ∃ kx, kx = keyAt B x.val := ⟨_, rfl⟩
      have L32 : Hid (kx.length = 32) := by show _ = _; rw [hkx]; exact HK32.out x
      have hnext : (pre ++ [x]).map (fun x => keyAt B x.val) = pre.map (fun x => keyAt B x.val) ++ [kx] := by rw [List.map_append, hkx]; rfl
      have HNX := Lib.hid hnext
      obtain ⟨hbl, hbg, hbr⟩ := HC.out x
      rw [← hkx] at hbr
      have HR : Hid (∀ W', w5.grownBy W' (some gO) → W'.rangeAt bb (oo + 32 * x.val) (cellsB kx)) := fun W' hg j u hj => hg.cell (hbr j u hj) (by intro e; injection e with e; exact hbg e)
      obtain ⟨ks, hks⟩ : ∃ ks, ks = pre.map fun x => keyAt B x.val := ⟨_, rfl⟩
      have hkl : ks.length = pre.length := by rw [hks, List.length_map]
      have HKS : Hid (∀ l ∈ ks, l.length = 32) := fun l hl => by
        rw [hks] at hl
        obtain ⟨y, _, rfl⟩ := List.mem_map.1 hl
        exact HK32.out y
      rw [← hks, ← hkl] at hW
      rw [← hks] at HNX
      have hk100 : ks.length ≤ 100 := by omega
      have hsz5 : w5.heap.size ≤ W.heap.size := hG.size
      have HW0 := Lib.hid hW
      have HO0 := Lib.hid hO
      have HG0 := Lib.hid hG
      have HPL := Lib.hid hkl
      obtain ⟨VA, vn, vc, rfl⟩ : ∃ VA vn vc, v = .slice VA vn vc := by
        rcases hW.2 with ⟨rfl, _⟩ | ⟨g, cap, cur, rfl, _⟩ <;> exact ⟨_, _, _, rfl⟩
      clear hkx hnext hbr hks hrec hlt hW hO hG hkl
      gi_wp2
      refine round_region (S := fun W' => Boxed W' gO 119 (.slice VA vn vc) ∧ W'.rangeAt bb (oo + 32 * x.val) (cellsB kx)) (fin := fun j => j == 6) (by kernel_rfl) (by kernel_rfl) (by rintro ⟨_, _, h⟩; exact h) ?_
      have hS : Boxed W.drew gO 119 (.slice VA vn vc) ∧ W.drew.rangeAt bb (oo + 32 * x.val) (cellsB kx) := ⟨HO0.out, HR.out _ (grown_past HG0.out (grown_of_below (Below.refl _ W).drew) (fun k e => by cases e))⟩
      change walkS _ _ _ _ _ _ 7 _ _ _
      refine walkS_take (i := 0) (oi := ⟨some 16, _, _, _, _, _⟩) (v := .slice VA vn vc) rfl (by kernel_rfl) (by kernel_rfl) (fun _ _ _ h => h) _ _ _ _ (by kernel_rfl) (by kernel_rfl) (Or.inl ⟨by rfl, fun w' hS' => (by have c0 := hS'.1.cell; clear hS hS'; go_simp)⟩) hS ?_
      try simp only [Act.put, List.setIfInBounds_toArray, List.set_cons_zero, List.set_cons_succ]
      refine walkS_take (i := 1) (oi := ⟨some 17, _, _, _, _, _⟩) (v := .slice (some ⟨bb, oo + 32 * x.val, none⟩) 32 32) rfl (by kernel_rfl) (by kernel_rfl) (fun _ _ _ h => h) _ _ _ _ (by kernel_rfl) (by kernel_rfl) (Or.inl ⟨by rfl, fun w' hS' => (by clear hS hS'; go_simp)⟩) hS ?_
      try simp only [Act.put, List.setIfInBounds_toArray, List.set_cons_zero, List.set_cons_succ]
      refine walkS_take (i := 2) (oi := ⟨some 18, _, _, _, _, _⟩) (v := .pointer (some ⟨bb, oo + 32 * x.val, none⟩)) rfl (by kernel_rfl) (by kernel_rfl) (fun _ _ _ h => h) _ _ _ _ (by kernel_rfl) (by kernel_rfl) (Or.inl ⟨by rfl, fun w' hS' => (by have ha := run_arrayAt (P := Tryz.prog) w' 117 5 32 (some ⟨bb, oo + 32 * x.val, none⟩) 32 32 Tryz.underlying117 (Nat.le_refl _); clear hS hS'; go_simp)⟩) hS ?_
      try simp only [Act.put, List.setIfInBounds_toArray, List.set_cons_zero, List.set_cons_succ]
      refine walkS_take (i := 3) (oi := ⟨some 19, _, _, _, _, _⟩) (v := .agg (keyC kx)) rfl (by kernel_rfl) (by kernel_rfl) (fun _ _ _ h => h) _ _ _ _ (by kernel_rfl) (by kernel_rfl) (Or.inl ⟨by rfl, fun w' hS' => (run_keyL _ (.tmp 18) rfl bb (oo + 32 * x.val) rfl kx (.array 32 5) hS'.2 Tryz.underlying117 rfl (Tryz.sizeKeyM kx L32.out))⟩) hS ?_
      try simp only [Act.put, List.setIfInBounds_toArray, List.set_cons_zero, List.set_cons_succ]
      refine walkS_only (i := 4) (o := ⟨some 20, _, _, _, _, _⟩) (by kernel_rfl) rfl rfl fun KK hKK => ?_
      refine wp_oneKey (.tmp 19) rfl kx L32.out rfl ?_
      obtain ⟨W1, hW1⟩ : ∃ W1, W1 = W.drew.alloc (.cells (keyC kx) 117) := ⟨_, rfl⟩
      have hsz : W.drew.heap.size = W.heap.size := rfl
      have B1 : Hid (Below W.heap.size W W1) := by show Below _ _ _; rw [hW1]; exact (Below.refl _ W).drew.alloc (Nat.le_refl _) _
      have R1 : Hid (RowAt W1 W.heap.size 117 (keyC kx)) := by show RowAt _ _ _ _; rw [hW1]; exact RowAt.new W.drew _ _
      have O1 := Lib.hid (owned_far (row := none) HW0.out (grown_of_below B1.out) (fun r e => by cases e))
      have BX1 := Lib.hid (boxed_below HO0.out B1.out)
      have G1 := Lib.hid (grown_past HG0.out (grown_of_below B1.out) (fun k e => by cases e))
      rw [← hW1, hsz]
      refine hKK _ _ (.inr ⟨BX1.out, HR.out _ G1.out⟩) ?_
      clear hKK KK hW1 hS
      try simp only [Act.put, List.setIfInBounds_toArray, List.set_cons_zero, List.set_cons_succ]
      refine walkS_only (i := 5) (o := ⟨some 21, _, _, _, _, _⟩) (by kernel_rfl) rfl rfl fun KK hKK => ?_
      obtain ⟨i0, hi0, hz0, hz1, hz2⟩ := info_parts Tryz.infoKey
      refine wp_append_own W1 (.tmp 16) (.tmp 20) 119 rfl w5.heap.size 117 i0 (.agg (keyC zeroKey)) 32 32 Tryz.underlying119 hi0 hz0 hz1 hz2 rfl (by decide) (.slice VA vn vc) ks.length (cellsB ks.flatten) rfl O1.out ⟨W.heap.size, 0, none⟩ 1 1 (cellsB kx) rfl (by rw [cellsB_length, L32.out]) (fun j y hj => ?_) (cellsB_one kx) (by unfold maxLen; omega) (by omega) (Nat.le_trans hsz5 B1.out.size) fun v2 W2 ho2 hg2 _ => ?_
      · have hadd : (⟨W.heap.size, 0, none⟩ : Addr).add j = ⟨W.heap.size, j, none⟩ := by unfold Addr.add; split <;> simp_all
        rw [hadd, R1.out.cell j]
        simpa [keyC] using hj
      clear hi0 hz0 hz1 hz2
      have hoff : some gO ≠ (Value.slice VA vn vc).ownBlock := own_off O1.out BX1.out (by decide)
      have BX2 := Lib.hid (BX1.out.kept hg2 hoff)
      have G2 := Lib.hid (grown_past G1.out hg2 (fun k e => (World.ownsRow.lt O1.out k e).1))
      have HO2 := Lib.hid ho2
      have HG2 := Lib.hid hg2
      have hlo : ∀ k, (Value.slice VA vn vc).ownBlock = some k → w5.heap.size ≤ k := fun k e => (World.ownsRow.lt O1.out k e).1
      have KO2 : Hid (KeepsOthers W1 W2) := KeepsOthers.of_grownBy hg2 (fun j o ej hj => by
        rcases O1.out.2 with ⟨e0, _⟩ | ⟨g, cap, cur, e0, _, hc, _⟩
        · rw [e0] at ej; cases ej
        · rw [e0] at ej
          obtain rfl : g = j := by simpa [Value.ownBlock] using ej
          rw [hj] at hc
          cases hc
          rfl)
      obtain ⟨VA2, vn2, vc2, rfl⟩ : ∃ VA vn vc, v2 = .slice VA vn vc := by
        rcases ho2.2 with ⟨rfl, _⟩ | ⟨g, cap, cur, rfl, _⟩ <;> exact ⟨_, _, _, rfl⟩
      clear ho2 hg2
      refine hKK _ _ (.inr ⟨BX2.out, HR.out _ G2.out⟩) ?_
      clear hKK KK
      try simp only [Act.put, List.setIfInBounds_toArray, List.set_cons_zero, List.set_cons_succ]
      refine walkS_only (i := 6) (o := ⟨none, _, _, _, _, _⟩) (by kernel_rfl) rfl rfl fun KK hKK => ?_
      have c2 := BX2.out.cell
      have f2 := BX2.out.frozen
      have HLO := Lib.hid hlo
      clear hlo hoff
      go_simp
      refine hKK _ _ (.inl rfl) ?_
      refine walkS_done (by kernel_rfl) ?_ _
      have hgs := grownBy_setCell' W2 gO (.slice VA2 vn2 vc2)
      refine ⟨?_, ?_, ⟨_, BX2.out.set _, ?_⟩, ?_⟩
      · exact (((KeepsOthers.of_below B1.out).trans KO2.out).trans (KeepsOthers.setCell _ _ _)).from _
      · exact ((KeepsAt.of_below B1.out (fun k hk => Nat.lt_of_lt_of_le (CUT.out.lt k hk) hsz5)).trans (KeepsAt.of_grown HG2.out (fun k hk => ⟨Nat.lt_of_lt_of_le (CUT.out.lt k hk) (Nat.le_trans hsz5 B1.out.size), fun e => by have := HLO.out k e.symm; have := CUT.out.lt k hk; omega⟩))).trans (KeepsAt.of_grown hgs (fun k hk => ⟨Nat.lt_of_lt_of_le (CUT.out.lt k hk) (Nat.le_trans hsz5 (Nat.le_trans B1.out.size HG2.out.size)), by
          intro e
          injection e with e
          rcases hk with h | h
          · exact hq1g (by rw [← h, e])
          · exact hq2g (by rw [← h, e])⟩))
      · rw [HNX.out, List.length_append, List.length_singleton, ← HPL.out, List.flatten_append]
        simp only [List.flatten_singleton, cellsB_append]
        refine World.ownsRow.kept HO2.out hgs (.inr fun e => ?_)
        exact own_off HO2.out BX2.out (by decide) e.symm
      · exact G2.out.trans hgs
    case done =>
      rintro D xs W hD rfl ⟨⟨v, hO, hW⟩, hG⟩ hK
      rw [List.length_finRange] at hW
      have c1 := hO.cell
      have HW := Lib.hid hW
      have HG := Lib.hid hG
      have HKD := Lib.hid hK
      obtain ⟨VA, vn, vc, rfl⟩ : ∃ VA vn vc, v = .slice VA vn vc := by
        rcases hW.2 with ⟨rfl, _⟩ | ⟨g, cap, cur, rfl, _⟩ <;> exact ⟨_, _, _, rfl⟩
      clear hW hG hO
      go_wp2
      refine ⟨by simp, .inl ⟨_, _, rfl, run_takeDeferred hK, ?_⟩⟩
      have hD2 : ∀ r, some D = some r → ∃ o : Obj, W.heap[r]? = some o ∧ o.isCells = false := by
        rintro r e
        cases e
        exact ⟨_, HKD.out, rfl⟩
      have hpo := grownBy_putObj' W D (.deferred none)
      have hGD := grown_past HG.out hpo (fun k e => by injection e with e; omega)
      refine ⟨_, results_tmp rfl _ _ _, _, rfl, ?_, ?_, ?_, ?_⟩
      · rw [H1.out]
        exact Kl.of_own (ks := (List.finRange N).map fun x => keyAt B x.val) (by rw [List.length_map, List.length_finRange]; exact owned_far HW.out hpo hD2) (fun l hl => by
          obtain ⟨y, _, rfl⟩ := List.mem_map.1 hl
          exact HK32.out y)
      · intro k hk
        rcases (owned_far HW.out hpo hD2).2 with ⟨e0, _⟩ | ⟨g, cap, cur, e0, _, hc, _⟩
        · rw [e0] at hk; cases hk
        · rw [e0] at hk
          obtain rfl : g = k := by simpa [Value.ownBlock] using hk
          exact ⟨cur, hc⟩
      · rw [H2.out]
        exact I5.out.far (show RowAt w5 gO 119 #[.slice none 0 0] from BO5.out) (by decide) hgi hGD
      · exact ⟨hGD.os.trans G5.out.os, hGD.tape.trans G5.out.tape, hGD.output.trans G5.out.output, Nat.le_trans G5.out.size hGD.size, fun k h1 h2 => (hGD.block k (Nat.lt_of_lt_of_le h1 G5.out.size) (by intro e; injection e with e; omega)).trans (G5.out.block k h1 h2)⟩
    case stop =>
      rintro D c pre W _ _ h _
      exact h.elim
  · refine (callsIn_wide (n := 3)).1 ?_
    refine callsIn_of_wp_marks Tryz.func77 rfl trivial ?_ rfl
    simp only [Tryz.ntmps77, List.size_toArray, List.length_cons, List.length_nil, Nat.reduceAdd, Nat.reduceSub, Array.replicate_succ, Array.replicate_zero, List.push_toArray, List.append_toArray, List.nil_append, List.cons_append]
    refine wpIn_wide.2 ?_
    go_wp2_with fail
    obtain ⟨gO, hgO⟩ : ∃ gO, gO = w.heap.size := ⟨_, rfl⟩
    obtain ⟨w1, hw1⟩ : ∃ w1, w1 = w.alloc (.cells #[.slice none 0 0] 119) := ⟨_, rfl⟩
    have BO1 : Hid (Boxed w1 gO 119 (.slice none 0 0)) := by show Boxed _ _ _ _; rw [hw1, hgO]; exact Boxed.new w _ _
    have G1 : Hid (w.grownBy w1 (some i)) := by show World.grownBy _ _ _; rw [hw1]; exact World.grownBy_alloc _ _ _
    have I1 : Hid (InAt w1 i s) := by show InAt _ _ _; rw [hw1]; exact HH.out.kept (alloc_below _ _)
    have hgi : gO ≠ i := by have := HH.out.lt; omega
    have hgw : w.heap.size ≤ gO := Nat.le_of_eq hgO.symm
    rw [← hw1, ← hgO]
    clear hw1 hgO HH
    refine (HN.out _ I1.out).mono ?_
    intro e w2 hh
    obtain ⟨he, hi, hg⟩ := hh
    subst he
    have BO2 := Lib.hid (BO1.out.kept hg (by simp [hgi]))
    have G2 := Lib.hid (G1.out.trans hg)
    have I2 := Lib.hid hi
    clear hi hg BO1 G1 I1 HN
    go_wp2_with fail
    refine (HT.out _ I2.out).mono ?_
    intro e w3 hh
    obtain ⟨v, he, hv, hi, hg⟩ := hh
    subst he
    have BO3 := Lib.hid (BO2.out.kept hg (by simp [hgi]))
    have G3 := Lib.hid (G2.out.trans hg)
    have I3 := Lib.hid hi
    have BS3 := Lib.hid hv
    obtain ⟨A, c, rfl, k1, k2, hcells⟩ := hv
    clear hi hg BO2 G2 I2 HT
    have hBL := HBL.out
    rw [HBL.out] at k1 ⊢
    go_wp2_with fail
    refine (chunk_any32 _ A c N).mono ?_
    intro e w5 hh
    obtain ⟨q1, q2, he, cut, ⟨hq1, hq2⟩, b5⟩ := hh
    subst he
    have BO5 := Lib.hid (boxed_below BO3.out b5)
    have G5 := Lib.hid (G3.out.trans (grown_any b5 (some i)))
    have I5 := Lib.hid (I3.out.kept b5)
    obtain ⟨bb, oo, hAb, hHC⟩ : ∃ bb oo, (0 < N → A = some ⟨bb, oo, none⟩) ∧ ∀ (x : Fin N), bb < w5.heap.size ∧ bb ≠ gO ∧ w5.rangeAt bb (oo + 32 * x.val) (cellsB (keyAt B x.val)) := by
      by_cases hN0 : 0 < N
      · obtain ⟨bb, oo, hA, hc⟩ := hcells (by omega)
        have hcell : ∀ j (hj : j < B.length), w5.cell? ⟨bb, oo + j, none⟩ = some (.int .u8 (B[j].toNat : Int)) := fun j hj => (b5.cell (World.block_lt_of_cell? w3 _ (hc j hj))).trans (hc j hj)
        have hL := HBL.out
        refine ⟨bb, oo, fun _ => hA, fun x => ⟨World.block_lt_of_cell? w5 _ (hcell 0 (by omega)), fun e => ?_, fun j u hj => ?_⟩⟩
        · have h0 := hcell 0 (by omega)
          rw [e, Nat.add_zero] at h0
          have h1 : RowAt w5 gO 119 #[.slice none 0 0] := BO5.out
          rw [h1.cell] at h0
          rcases oo with _ | oo
          · simp at h0
          · simp at h0
        · have hx := x.isLt
          have hj1 := (List.getElem?_eq_some_iff.1 hj).1
          rw [cellsB_length, HK32.out x] at hj1
          rw [Nat.add_assoc, hcell (32 * x.val + j) (by omega), ← hj]
          have hj2 : 32 * x.val + j < B.length := by omega
          simp [cellsB, keyAt, hj1, hj2]
      · exact ⟨0, 0, fun h => absurd h hN0, fun x => absurd x.isLt (by omega)⟩
    have HAb := Lib.hid hAb
    have HC := Lib.hid hHC
    have CUT := Lib.hid cut
    have hgl : gO < w5.heap.size := (Array.getElem?_eq_some_iff.1 BO5.out).1
    have hq1g : q1 ≠ gO := fun e => by
      have := (Array.getElem?_eq_some_iff.1 BO3.out).1
      omega
    have hq2g : q2 ≠ gO := fun e => by
      have := (Array.getElem?_eq_some_iff.1 BO3.out).1
      omega
    clear cut b5 hcells BS3 BO3 G3 I3 hAb hHC
    go_wp2_with fail
    refine (wpIn_wide (n := 3)).1 ?_
    refine wpIn_rangeFunc_ownH (F := Fence.wide) rfl (by omega) (gf := 108) (lb := #[.pointer (some ⟨q1, 0, none⟩), .pointer (some ⟨q2, 0, none⟩)]) rfl trivial (enters_of Tryz.func108 (by kernel_rfl) rfl)
      (chunk1_stops32 2 (by omega) q1 q2 bb oo c N A HAb.out k1 k2 w5 CUT.out) keepsAt_t (keepsAt_b CUT.out.lt) (Below.refl _ _) (fun _ => rfl)
      (fun pre W => (∃ v, Boxed W gO 119 v ∧ W.ownsRow w5.heap.size 117 32 v pre.length (cellsB (pre.map fun x => keyAt B x.val).flatten)) ∧ w5.grownBy W (some gO))
      (fun _ _ _ => False)
      (fun s X Y row hs hg hr => by
        obtain ⟨⟨v, i1, i2⟩, i3⟩ := hs
        have hne : some gO ≠ row := fun e => by have := (hr gO e.symm).1; omega
        exact ⟨⟨v, i1.kept hg hne, owned_far i2 hg (fun r e => (hr r e).2)⟩, grown_past i3 hg (fun k e => (hr k e).1)⟩)
      (fun _ _ _ _ _ hs _ _ => hs)
      ⟨⟨_, BO5.out, World.ownsRow_nil _ _ _ _⟩, World.grownBy.refl _ _⟩
      (fun x a' W => a' = { tmps := #[.pointer (some ⟨i, 0, none⟩), .int .i64 m, undef, undef, .slice none 0 0, .pointer (some ⟨gO, 0, none⟩), .slice (some ⟨bb, oo + 32 * x.val, none⟩) 32 32, .pointer (some ⟨i, 0, none⟩), .pointer (some ⟨i, 0, none⟩), .int .i64 m, .int .i64 100, .int .i64 (C : Int), .int .i64 (32 * (C : Int)), .slice A (32 * N) c, .func (.func 108) #[] #[.pointer (some ⟨q1, 0, none⟩), .pointer (some ⟨q2, 0, none⟩)], .slice (some ⟨bb, oo + 32 * x.val, none⟩) 32 32, undef, undef, undef, undef, undef, undef, undef], defers := [] })
      (fun x a' _ X Y row hs hg hr => hs)
      ?assign ?body ?done ?stop
    case assign =>
      rintro lo pre x W K hI hK
      gi_wp2
      exact hK _ _ ((KeepsOthers.of_below (Below.refl _ _)).from _) (KeepsAt.refl _ _) hI rfl
    case body =>
      rintro lo pre x a' W hlo hrec ⟨⟨v, hO, hW⟩, hG⟩ rfl hlt
      obtain ⟨kx, hkx⟩ : ∃ kx, kx = keyAt B x.val := ⟨_, rfl⟩
      have L32 : Hid (kx.length = 32) := by show _ = _; rw [hkx]; exact HK32.out x
      have hnext : (pre ++ [x]).map (fun x => keyAt B x.val) = pre.map (fun x => keyAt B x.val) ++ [kx] := by rw [List.map_append, hkx]; rfl
      have HNX := Lib.hid hnext
      obtain ⟨hbl, hbg, hbr⟩ := HC.out x
      rw [← hkx] at hbr
      have HR : Hid (∀ W', w5.grownBy W' (some gO) → W'.rangeAt bb (oo + 32 * x.val) (cellsB kx)) := fun W' hg j u hj => hg.cell (hbr j u hj) (by intro e; injection e with e; exact hbg e)
      obtain ⟨ks, hks⟩ : ∃ ks, ks = pre.map fun x => keyAt B x.val := ⟨_, rfl⟩
      have hkl : ks.length = pre.length := by rw [hks, List.length_map]
      have HKS : Hid (∀ l ∈ ks, l.length = 32) := fun l hl => by
        rw [hks] at hl
        obtain ⟨y, _, rfl⟩ := List.mem_map.1 hl
        exact HK32.out y
      rw [← hks, ← hkl] at hW
      rw [← hks] at HNX
      have hk100 : ks.length ≤ 100 := by omega
      have hsz5 : w5.heap.size ≤ W.heap.size := hG.size
      have HW0 := Lib.hid hW
      have HO0 := Lib.hid hO
      have HG0 := Lib.hid hG
      have HPL := Lib.hid hkl
      obtain ⟨VA, vn, vc, rfl⟩ : ∃ VA vn vc, v = .slice VA vn vc := by
        rcases hW.2 with ⟨rfl, _⟩ | ⟨g, cap, cur, rfl, _⟩ <;> exact ⟨_, _, _, rfl⟩
      clear hkx hnext hbr hks hrec hlt hW hO hG hkl
      gi_wp2
      refine round_region (S := fun W' => Boxed W' gO 119 (.slice VA vn vc) ∧ W'.rangeAt bb (oo + 32 * x.val) (cellsB kx)) (fin := fun j => j == 6) (by kernel_rfl) (by kernel_rfl) (by rintro ⟨_, _, h⟩; exact h) ?_
      have hS : Boxed W.drew gO 119 (.slice VA vn vc) ∧ W.drew.rangeAt bb (oo + 32 * x.val) (cellsB kx) := ⟨HO0.out, HR.out _ (grown_past HG0.out (grown_of_below (Below.refl _ W).drew) (fun k e => by cases e))⟩
      change walkS _ _ _ _ _ _ 7 _ _ _
      refine walkS_take (i := 0) (oi := ⟨some 16, _, _, _, _, _⟩) (v := .slice VA vn vc) rfl (by kernel_rfl) (by kernel_rfl) (fun _ _ _ h => h) _ _ _ _ (by kernel_rfl) (by kernel_rfl) (Or.inl ⟨by rfl, fun w' hS' => (by have c0 := hS'.1.cell; clear hS hS'; go_simp)⟩) hS ?_
      try simp only [Act.put, List.setIfInBounds_toArray, List.set_cons_zero, List.set_cons_succ]
      refine walkS_take (i := 1) (oi := ⟨some 17, _, _, _, _, _⟩) (v := .slice (some ⟨bb, oo + 32 * x.val, none⟩) 32 32) rfl (by kernel_rfl) (by kernel_rfl) (fun _ _ _ h => h) _ _ _ _ (by kernel_rfl) (by kernel_rfl) (Or.inl ⟨by rfl, fun w' hS' => (by clear hS hS'; go_simp)⟩) hS ?_
      try simp only [Act.put, List.setIfInBounds_toArray, List.set_cons_zero, List.set_cons_succ]
      refine walkS_take (i := 2) (oi := ⟨some 18, _, _, _, _, _⟩) (v := .pointer (some ⟨bb, oo + 32 * x.val, none⟩)) rfl (by kernel_rfl) (by kernel_rfl) (fun _ _ _ h => h) _ _ _ _ (by kernel_rfl) (by kernel_rfl) (Or.inl ⟨by rfl, fun w' hS' => (by have ha := run_arrayAt (P := Tryz.prog) w' 117 5 32 (some ⟨bb, oo + 32 * x.val, none⟩) 32 32 Tryz.underlying117 (Nat.le_refl _); clear hS hS'; go_simp)⟩) hS ?_
      try simp only [Act.put, List.setIfInBounds_toArray, List.set_cons_zero, List.set_cons_succ]
      refine walkS_take (i := 3) (oi := ⟨some 19, _, _, _, _, _⟩) (v := .agg (keyC kx)) rfl (by kernel_rfl) (by kernel_rfl) (fun _ _ _ h => h) _ _ _ _ (by kernel_rfl) (by kernel_rfl) (Or.inl ⟨by rfl, fun w' hS' => (run_keyL _ (.tmp 18) rfl bb (oo + 32 * x.val) rfl kx (.array 32 5) hS'.2 Tryz.underlying117 rfl (Tryz.sizeKeyM kx L32.out))⟩) hS ?_
      try simp only [Act.put, List.setIfInBounds_toArray, List.set_cons_zero, List.set_cons_succ]
      refine walkS_only (i := 4) (o := ⟨some 20, _, _, _, _, _⟩) (by kernel_rfl) rfl rfl fun KK hKK => ?_
      refine wp_oneKey (.tmp 19) rfl kx L32.out rfl ?_
      obtain ⟨W1, hW1⟩ : ∃ W1, W1 = W.drew.alloc (.cells (keyC kx) 117) := ⟨_, rfl⟩
      have hsz : W.drew.heap.size = W.heap.size := rfl
      have B1 : Hid (Below W.heap.size W W1) := by show Below _ _ _; rw [hW1]; exact (Below.refl _ W).drew.alloc (Nat.le_refl _) _
      have R1 : Hid (RowAt W1 W.heap.size 117 (keyC kx)) := by show RowAt _ _ _ _; rw [hW1]; exact RowAt.new W.drew _ _
      have O1 := Lib.hid (owned_far (row := none) HW0.out (grown_of_below B1.out) (fun r e => by cases e))
      have BX1 := Lib.hid (boxed_below HO0.out B1.out)
      have G1 := Lib.hid (grown_past HG0.out (grown_of_below B1.out) (fun k e => by cases e))
      rw [← hW1, hsz]
      refine hKK _ _ (.inr ⟨BX1.out, HR.out _ G1.out⟩) ?_
      clear hKK KK hW1 hS
      try simp only [Act.put, List.setIfInBounds_toArray, List.set_cons_zero, List.set_cons_succ]
      refine walkS_only (i := 5) (o := ⟨some 21, _, _, _, _, _⟩) (by kernel_rfl) rfl rfl fun KK hKK => ?_
      obtain ⟨i0, hi0, hz0, hz1, hz2⟩ := info_parts Tryz.infoKey
      refine wp_append_own W1 (.tmp 16) (.tmp 20) 119 rfl w5.heap.size 117 i0 (.agg (keyC zeroKey)) 32 32 Tryz.underlying119 hi0 hz0 hz1 hz2 rfl (by decide) (.slice VA vn vc) ks.length (cellsB ks.flatten) rfl O1.out ⟨W.heap.size, 0, none⟩ 1 1 (cellsB kx) rfl (by rw [cellsB_length, L32.out]) (fun j y hj => ?_) (cellsB_one kx) (by unfold maxLen; omega) (by omega) (Nat.le_trans hsz5 B1.out.size) fun v2 W2 ho2 hg2 _ => ?_
      · have hadd : (⟨W.heap.size, 0, none⟩ : Addr).add j = ⟨W.heap.size, j, none⟩ := by unfold Addr.add; split <;> simp_all
        rw [hadd, R1.out.cell j]
        simpa [keyC] using hj
      clear hi0 hz0 hz1 hz2
      have hoff : some gO ≠ (Value.slice VA vn vc).ownBlock := own_off O1.out BX1.out (by decide)
      have BX2 := Lib.hid (BX1.out.kept hg2 hoff)
      have G2 := Lib.hid (grown_past G1.out hg2 (fun k e => (World.ownsRow.lt O1.out k e).1))
      have HO2 := Lib.hid ho2
      have HG2 := Lib.hid hg2
      have hlo : ∀ k, (Value.slice VA vn vc).ownBlock = some k → w5.heap.size ≤ k := fun k e => (World.ownsRow.lt O1.out k e).1
      have KO2 : Hid (KeepsOthers W1 W2) := KeepsOthers.of_grownBy hg2 (fun j o ej hj => by
        rcases O1.out.2 with ⟨e0, _⟩ | ⟨g, cap, cur, e0, _, hc, _⟩
        · rw [e0] at ej; cases ej
        · rw [e0] at ej
          obtain rfl : g = j := by simpa [Value.ownBlock] using ej
          rw [hj] at hc
          cases hc
          rfl)
      obtain ⟨VA2, vn2, vc2, rfl⟩ : ∃ VA vn vc, v2 = .slice VA vn vc := by
        rcases ho2.2 with ⟨rfl, _⟩ | ⟨g, cap, cur, rfl, _⟩ <;> exact ⟨_, _, _, rfl⟩
      clear ho2 hg2
      refine hKK _ _ (.inr ⟨BX2.out, HR.out _ G2.out⟩) ?_
      clear hKK KK
      try simp only [Act.put, List.setIfInBounds_toArray, List.set_cons_zero, List.set_cons_succ]
      refine walkS_only (i := 6) (o := ⟨none, _, _, _, _, _⟩) (by kernel_rfl) rfl rfl fun KK hKK => ?_
      have c2 := BX2.out.cell
      have f2 := BX2.out.frozen
      have HLO := Lib.hid hlo
      clear hlo hoff
      go_simp
      refine hKK _ _ (.inl rfl) ?_
      refine walkS_done (by kernel_rfl) ?_ _
      have hgs := grownBy_setCell' W2 gO (.slice VA2 vn2 vc2)
      refine ⟨?_, ?_, ⟨_, BX2.out.set _, ?_⟩, ?_⟩
      · exact (((KeepsOthers.of_below B1.out).trans KO2.out).trans (KeepsOthers.setCell _ _ _)).from _
      · exact ((KeepsAt.of_below B1.out (fun k hk => Nat.lt_of_lt_of_le (CUT.out.lt k hk) hsz5)).trans (KeepsAt.of_grown HG2.out (fun k hk => ⟨Nat.lt_of_lt_of_le (CUT.out.lt k hk) (Nat.le_trans hsz5 B1.out.size), fun e => by have := HLO.out k e.symm; have := CUT.out.lt k hk; omega⟩))).trans (KeepsAt.of_grown hgs (fun k hk => ⟨Nat.lt_of_lt_of_le (CUT.out.lt k hk) (Nat.le_trans hsz5 (Nat.le_trans B1.out.size HG2.out.size)), by
          intro e
          injection e with e
          rcases hk with h | h
          · exact hq1g (by rw [← h, e])
          · exact hq2g (by rw [← h, e])⟩))
      · rw [HNX.out, List.length_append, List.length_singleton, ← HPL.out, List.flatten_append]
        simp only [List.flatten_singleton, cellsB_append]
        refine World.ownsRow.kept HO2.out hgs (.inr fun e => ?_)
        exact own_off HO2.out BX2.out (by decide) e.symm
      · exact G2.out.trans hgs
    case done =>
      rintro D xs W hD rfl ⟨⟨v, hO, hW⟩, hG⟩ hK
      rw [List.length_finRange] at hW
      have c1 := hO.cell
      have HW := Lib.hid hW
      have HG := Lib.hid hG
      have HKD := Lib.hid hK
      obtain ⟨VA, vn, vc, rfl⟩ : ∃ VA vn vc, v = .slice VA vn vc := by
        rcases hW.2 with ⟨rfl, _⟩ | ⟨g, cap, cur, rfl, _⟩ <;> exact ⟨_, _, _, rfl⟩
      clear hW hG hO
      go_wp2
      refine ⟨by simp, .inl ⟨_, _, rfl, run_takeDeferred hK, ?_⟩⟩
      have hD2 : ∀ r, some D = some r → ∃ o : Obj, W.heap[r]? = some o ∧ o.isCells = false := by
        rintro r e
        cases e
        exact ⟨_, HKD.out, rfl⟩
      have hpo := grownBy_putObj' W D (.deferred none)
      have hGD := grown_past HG.out hpo (fun k e => by injection e with e; omega)
      refine ⟨_, results_tmp rfl _ _ _, _, rfl, ?_, ?_, ?_, ?_⟩
      · rw [H1.out]
        exact Kl.of_own (ks := (List.finRange N).map fun x => keyAt B x.val) (by rw [List.length_map, List.length_finRange]; exact owned_far HW.out hpo hD2) (fun l hl => by
          obtain ⟨y, _, rfl⟩ := List.mem_map.1 hl
          exact HK32.out y)
      · intro k hk
        rcases (owned_far HW.out hpo hD2).2 with ⟨e0, _⟩ | ⟨g, cap, cur, e0, _, hc, _⟩
        · rw [e0] at hk; cases hk
        · rw [e0] at hk
          obtain rfl : g = k := by simpa [Value.ownBlock] using hk
          exact ⟨cur, hc⟩
      · rw [H2.out]
        exact I5.out.far (show RowAt w5 gO 119 #[.slice none 0 0] from BO5.out) (by decide) hgi hGD
      · exact ⟨hGD.os.trans G5.out.os, hGD.tape.trans G5.out.tape, hGD.output.trans G5.out.output, Nat.le_trans G5.out.size hGD.size, fun k h1 h2 => (hGD.block k (Nat.lt_of_lt_of_le h1 G5.out.size) (by intro e; injection e with e; omega)).trans (G5.out.block k h1 h2)⟩
    case stop =>
      rintro D c pre W _ _ h _
      exact h.elim
end Go.Proofs.YtpgbicbjlhkonaaGreatDoor
end
section
namespace Go.Proofs.YtpgbicbjlhkonaaGreatDoor
open Go.RowKit
set_option linter.unusedVariables false
set_option maxRecDepth 20000

theorem ofLow_cons (b : UInt8) (l : List UInt8) : ofLowB (b :: l) = b.toNat + 256 * ofLowB l := by
  rfl
theorem low_of (l : List UInt8) : lowB (ofLowB l) l.length = l := by
  induction l with
  | nil => rfl
  | cons b l ih =>
    rw [List.length_cons, lowB_cons, ofLow_cons]
    have hb := b.toNat_lt
    congr 1
    · apply UInt8.toNat_inj.1
      rw [byteN_toNat]
      omega
    · rw [show (b.toNat + 256 * ofLowB l) / 256 = ofLowB l by omega]
      exact ih
theorem high_of (l : List UInt8) : (lowB (ofHighB l) l.length).reverse = l := by
  have h := low_of l.reverse
  rw [List.length_reverse] at h
  have e : ofHighB l = ofLowB l.reverse := rfl
  rw [e, h, List.reverse_reverse]
theorem of_high (n s : Nat) (h : n < 256 ^ s) : ofHighB (lowB n s).reverse = n := by
  have e : ofHighB (lowB n s).reverse = ofLowB (lowB n s).reverse.reverse := rfl
  rw [e, List.reverse_reverse, ofLowB_lowB, Nat.mod_eq_of_lt h]
theorem high_length (n s : Nat) : (lowB n s).reverse.length = s := by rw [List.length_reverse, lowB_length]

theorem St.eta0 (s : St) (h : s.e = 0) : s = ⟨s.l, 0⟩ := by cases s; simp only at h; subst h; rfl
theorem take_ok (l r : List UInt8) (n : Nat) (h : n = l.length) : St.take ⟨l ++ r, 0⟩ n = l ∧ St.rest ⟨l ++ r, 0⟩ n = ⟨r, 0⟩ := by
  subst h
  have e : St.taken ⟨l ++ r, 0⟩ l.length = ⟨l ++ r, 0⟩ := by unfold St.taken; rw [if_neg (by rw [List.length_append]; omega)]
  unfold St.take St.rest
  rw [e]
  simp
theorem take_no (s : St) (n : Nat) (h : s.e = 0) (hn : s.l.length < n) : St.take s n = [] ∧ St.rest s n = ⟨[], 3⟩ := by
  unfold St.take St.rest St.taken St.fail
  rw [if_pos hn, if_pos h]
  simp
theorem take_err (s : St) (n : Nat) (h : s.e ≠ 0) : St.take s n = [] ∧ St.rest s n = s := by
  have e : s.taken n = s := by
    unfold St.taken St.fail
    split <;> first | rfl | exact if_neg h
  unfold St.take St.rest
  rw [e, if_neg h, if_neg h]
  exact ⟨rfl, rfl⟩
/-- Either all that was asked is there, or an error stays. -/
theorem rest_cases (s : St) (n : Nat) : (s.e = 0 ∧ n ≤ s.l.length ∧ s.take n = s.l.take n ∧ s.rest n = ⟨s.l.drop n, 0⟩) ∨ ((s.rest n).e ≠ 0 ∧ s.take n = []) := by
  by_cases h : s.e = 0
  · by_cases hn : s.l.length < n
    · obtain ⟨h1, h2⟩ := take_no s n h hn
      exact .inr ⟨by rw [h2]; simp, h1⟩
    · left
      refine ⟨h, by omega, ?_, ?_⟩
      · unfold St.take St.taken; rw [if_neg hn, if_pos h]
      · unfold St.rest St.taken; rw [if_neg hn, if_pos h]
  · obtain ⟨h1, h2⟩ := take_err s n h
    exact .inr ⟨by rw [h2]; exact h, h1⟩
theorem fail_ne (s : St) (x : Int) (hx : x ≠ 0) : (s.fail x).e ≠ 0 := by
  unfold St.fail
  split
  · exact hx
  · assumption
theorem numS_ne (s : St) (z : Int) (h : s.e ≠ 0) : (s.numS z).e ≠ 0 := by
  unfold St.numS
  split
  · rw [(take_err s _ h).2]; exact h
  · exact fail_ne s 51 (by decide)
theorem cntS_ne (s : St) (m : Int) (h : s.e ≠ 0) : (s.cntS m).e ≠ 0 := by
  unfold St.cntS
  split
  · exact fail_ne _ 2 (by decide)
  · exact numS_ne s 2 h
theorem rest_ne (s : St) (n : Nat) (h : s.e ≠ 0) : (s.rest n).e ≠ 0 := by rw [(take_err s n h).2]; exact h
/-- A number that is read: its bytes were there. -/
theorem num_read (s : St) (k : Nat) (hk : isNum k = true) (h : (s.numS k).e = 0) : s.e = 0 ∧ k ≤ s.l.length ∧ s.num k = ofHighB (s.l.take k) ∧ s.numS k = ⟨s.l.drop k, 0⟩ := by
  unfold St.numS at h ⊢
  unfold St.num
  rw [if_pos hk] at h ⊢
  rw [if_pos hk]
  have e : ((k : Int)).toNat = k := by simp
  rw [e] at h ⊢
  rcases rest_cases s k with ⟨h1, h2, h3, h4⟩ | ⟨h1, _⟩
  · refine ⟨h1, h2, ?_, h4⟩
    rw [h3]
    have := inNum_shape k hk
    rw [List.take_of_length_le (l := s.l.take k) (by rw [List.length_take]; omega)]
  · exact absurd h h1
theorem two_read (s : St) (h : (s.numS 2).e = 0) : s.e = 0 ∧ 2 ≤ s.l.length ∧ s.num 2 = ofHighB (s.l.take 2) ∧ s.numS 2 = ⟨s.l.drop 2, 0⟩ := num_read s 2 rfl h
theorem cnt_read (s : St) (m : Int) (h : (s.cntS m).e = 0) : s.e = 0 ∧ 2 ≤ s.l.length ∧ (s.num 2 : Int) ≤ m ∧ s.cnt m = s.num 2 ∧ s.num 2 = ofHighB (s.l.take 2) ∧ s.cntS m = ⟨s.l.drop 2, 0⟩ := by
  unfold St.cntS St.cnt at *
  by_cases hm : (s.num 2 : Int) > m
  · rw [if_pos hm] at h
    exact absurd h (fail_ne _ 2 (by decide))
  · rw [if_neg hm] at h
    rw [if_neg hm, if_neg hm]
    obtain ⟨h1, h2, h3, h4⟩ := two_read s h
    exact ⟨h1, h2, by omega, rfl, h3, h4⟩
theorem put_ok (t : St) (h : t.e = 0) (b : List UInt8) : t.put b = ⟨t.l ++ b, 0⟩ := by unfold St.put; rw [if_pos h]
theorem flat_cut (n : Nat) : ∀ l : List UInt8, l.length = 32 * n → (cut32 n l).flatten = l ∧ (cut32 n l).length = n ∧ ∀ x ∈ cut32 n l, x.length = 32 := by
  induction n with
  | zero => intro l h; have : l = [] := List.eq_nil_of_length_eq_zero (by omega); subst this; simp [cut32]
  | succ n ih =>
    intro l h
    obtain ⟨h1, h2, h3⟩ := ih (l.drop 32) (by rw [List.length_drop]; omega)
    refine ⟨by rw [cut32, List.flatten_cons, h1, List.take_append_drop], by rw [cut32, List.length_cons, h2], fun x hx => ?_⟩
    rw [cut32] at hx
    rcases List.mem_cons.1 hx with rfl | hx
    · rw [List.length_take]; omega
    · exact h3 x hx
theorem cut_flat (ls : List (List UInt8)) (h : ∀ l ∈ ls, l.length = 32) : cut32 ls.length ls.flatten = ls := by
  induction ls with
  | nil => rfl
  | cons l ls ih =>
    have hl := h l List.mem_cons_self
    rw [List.length_cons, cut32, List.flatten_cons, List.take_left' hl, List.drop_left' hl, ih fun m hm => h m (List.mem_cons_of_mem _ hm)]
theorem head_two (s : St) (h : 2 ≤ s.l.length) : (lowB (ofHighB (s.l.take 2)) 2).reverse = s.l.take 2 := by
  have h1 := high_of (s.l.take 2)
  rwa [List.length_take, Nat.min_eq_left h] at h1
theorem fin_zero (s : St) : s.fin = 0 ↔ s.e = 0 ∧ s.l = [] := by
  unfold St.fin
  by_cases h : s.e = 0
  · rw [if_pos h]
    by_cases hl : s.l = []
    · simp [h, hl]
    · simp [hl]
  · rw [if_neg h]
    simp [h]
end Go.Proofs.YtpgbicbjlhkonaaGreatDoor
end
section
namespace Go.Proofs.YtpgbicbjlhkonaaGreatDoor
set_option linter.unusedVariables false
set_option maxRecDepth 20000

def keyL (L : List UInt8) : List UInt8 := (L.drop 18).take 32
def sizeL (L : List UInt8) : Nat := ofHighB ((L.drop 8).take 8)
def bytesL (L : List UInt8) : List UInt8 := (L.drop 256).take (sizeL L)
def loadL (L : List UInt8) : Nat × List UInt8 :=
  if ofHighB ((L.drop 16).take 2) = 1 ∧ ((L.drop 50).take 206).all (· == 0) = true ∧ sizeL L ≤ (L.drop 256).length ∧ digestB (L.take 16 ++ bytesL L) = keyL L then (ofHighB (L.take 8), bytesL L) else (0, [])
theorem cut_at (L : List UInt8) (i j : Nat) : (L.drop i).take j ++ L.drop (i + j) = L.drop i := by
  rw [← List.drop_drop]
  exact List.take_append_drop j _
theorem head_parts {L : List UInt8} (hL : 256 ≤ L.length) : L.take 50 = L.take 8 ++ ((L.drop 8).take 8 ++ ((L.drop 16).take 2 ++ keyL L)) := by
  have e : L = L.take 8 ++ ((L.drop 8).take 8 ++ ((L.drop 16).take 2 ++ (keyL L ++ L.drop 50))) := by
    unfold keyL
    rw [cut_at L 18 32, cut_at L 16 2, cut_at L 8 8, List.take_append_drop]
  have e2 : L = (L.take 8 ++ ((L.drop 8).take 8 ++ ((L.drop 16).take 2 ++ keyL L))) ++ L.drop 50 := by
    conv => lhs; rw [e]
    simp only [List.append_assoc]
  have hl : (L.take 8 ++ ((L.drop 8).take 8 ++ ((L.drop 16).take 2 ++ keyL L))).length = 50 := by
    unfold keyL
    simp only [List.length_append, List.length_take, List.length_drop]
    omega
  conv => lhs; rw [e2]
  rw [List.take_append_of_le_length (by omega), List.take_of_length_le (by omega)]
theorem key_len {L : List UInt8} (hL : 256 ≤ L.length) : (keyL L).length = 32 := by
  unfold keyL
  rw [List.length_take, List.length_drop]
  omega
theorem num_ok (l r : List UInt8) (z : Nat) (hz : isNum (z : Int) = true) (h : z = l.length) : St.num ⟨l ++ r, 0⟩ (z : Int) = ofHighB (l.take 8) ∧ St.numS ⟨l ++ r, 0⟩ (z : Int) = ⟨r, 0⟩ := by
  obtain ⟨h1, h2⟩ := take_ok l r z h
  unfold St.num St.numS
  rw [if_pos hz, if_pos hz, Int.toNat_natCast, h1, h2]
  exact ⟨rfl, rfl⟩
theorem St.fin0 (s : St) (h : s.e ≠ 0) : s.fin ≠ 0 := by
  unfold St.fin
  rw [if_neg h]
  exact h
/-- A head is read. -/
theorem head_reads {L : List UInt8} (hL : 256 ≤ L.length) :
    St.num ⟨L.take 50, 0⟩ 8 = ofHighB (L.take 8) ∧ St.num (St.numS ⟨L.take 50, 0⟩ 8) 8 = sizeL L ∧
    (ofHighB ((L.drop 16).take 2) = 1 → St.keys (St.numS (St.numS ⟨L.take 50, 0⟩ 8) 8) 1 = [keyL L] ∧ St.fin (St.keyS (St.numS (St.numS ⟨L.take 50, 0⟩ 8) 8) 1) = 0) ∧
    (ofHighB ((L.drop 16).take 2) ≠ 1 → St.fin (St.keyS (St.numS (St.numS ⟨L.take 50, 0⟩ 8) 8) 1) ≠ 0) := by
  have l1 : (8 : Nat) = (L.take 8).length := by rw [List.length_take]; omega
  have l2 : (8 : Nat) = ((L.drop 8).take 8).length := by rw [List.length_take, List.length_drop]; omega
  have l3 : (2 : Nat) = ((L.drop 16).take 2).length := by rw [List.length_take, List.length_drop]; omega
  have hk := key_len hL
  rw [head_parts hL]
  obtain ⟨a1, a2⟩ := num_ok (L.take 8) ((L.drop 8).take 8 ++ ((L.drop 16).take 2 ++ keyL L)) 8 rfl l1
  obtain ⟨b1, b2⟩ := num_ok ((L.drop 8).take 8) ((L.drop 16).take 2 ++ keyL L) 8 rfl l2
  obtain ⟨c1, c2⟩ := num_ok ((L.drop 16).take 2) (keyL L) 2 rfl l3
  have a2' : St.numS ⟨L.take 8 ++ ((L.drop 8).take 8 ++ ((L.drop 16).take 2 ++ keyL L)), 0⟩ 8 = ⟨(L.drop 8).take 8 ++ ((L.drop 16).take 2 ++ keyL L), 0⟩ := a2
  have b2' : St.numS ⟨(L.drop 8).take 8 ++ ((L.drop 16).take 2 ++ keyL L), 0⟩ 8 = ⟨(L.drop 16).take 2 ++ keyL L, 0⟩ := b2
  have c1' : St.num ⟨(L.drop 16).take 2 ++ keyL L, 0⟩ 2 = ofHighB ((L.drop 16).take 2) := by
    refine c1.trans ?_
    rw [List.take_of_length_le (by omega)]
  have c2' : St.numS ⟨(L.drop 16).take 2 ++ keyL L, 0⟩ 2 = ⟨keyL L, 0⟩ := c2
  rw [a2', b2']
  refine ⟨?_, ?_, fun h => ?_, fun h => ?_⟩
  · refine a1.trans ?_
    rw [List.take_of_length_le (by omega)]
  · refine b1.trans ?_
    rw [List.take_of_length_le (by omega)]
    rfl
  · have h1 : St.cnt ⟨(L.drop 16).take 2 ++ keyL L, 0⟩ (min 1 100) = 1 := by
      unfold St.cnt
      rw [c1', h]
      rfl
    have h2 : St.cntS ⟨(L.drop 16).take 2 ++ keyL L, 0⟩ (min 1 100) = ⟨keyL L, 0⟩ := by
      unfold St.cntS
      rw [c1', h, c2']
      rfl
    have h3 := take_ok (keyL L) [] 32 hk.symm
    rw [List.append_nil] at h3
    constructor
    · have h4 : St.keyB ⟨(L.drop 16).take 2 ++ keyL L, 0⟩ 1 = keyL L := by
        unfold St.keyB
        rw [h1, h2]
        exact h3.1
      unfold St.keys
      rw [h4, hk]
      show [(keyL L).take 32] = _
      rw [List.take_of_length_le (by omega)]
    · have h5 : St.keyS ⟨(L.drop 16).take 2 ++ keyL L, 0⟩ 1 = ⟨[], 0⟩ := by
        unfold St.keyS
        rw [h1, h2]
        exact h3.2
      rw [h5]
      rfl
  · by_cases h0 : 1 < ofHighB ((L.drop 16).take 2)
    · have h2 : St.cntS ⟨(L.drop 16).take 2 ++ keyL L, 0⟩ (min 1 100) = ⟨[], 2⟩ := by
        unfold St.cntS
        rw [c1', c2', if_pos (show ((ofHighB ((L.drop 16).take 2) : Nat) : Int) > min 1 100 by
          have : (min 1 100 : Int) = 1 := rfl
          omega)]
        rfl
      apply St.fin0
      unfold St.keyS
      rw [h2, (take_err ⟨[], 2⟩ _ (by decide)).2]
      decide
    · have hz : ofHighB ((L.drop 16).take 2) = 0 := by omega
      have h1 : St.cnt ⟨(L.drop 16).take 2 ++ keyL L, 0⟩ (min 1 100) = 0 := by
        unfold St.cnt
        rw [c1', hz]
        rfl
      have h2 : St.cntS ⟨(L.drop 16).take 2 ++ keyL L, 0⟩ (min 1 100) = ⟨keyL L, 0⟩ := by
        unfold St.cntS
        rw [c1', hz, c2']
        rfl
      have h5 : St.keyS ⟨(L.drop 16).take 2 ++ keyL L, 0⟩ 1 = ⟨keyL L, 0⟩ := by
        unfold St.keyS
        rw [h1, h2]
        have h3 := take_ok [] (keyL L) 0 rfl
        exact h3.2
      rw [h5]
      unfold St.fin
      rw [if_pos rfl, if_neg (fun e => by rw [show keyL L = [] from e] at hk; cases hk)]
      decide
theorem two_one {l : List UInt8} (h : l.length = 2) : ofHighB l = 1 ↔ l = (lowB 1 2).reverse := by
  constructor
  · intro e
    have := high_of l
    rw [h, e] at this
    exact this.symm
  · rintro rfl
    rfl
theorem high8_back {l : List UInt8} (h : l.length = 8) : highI (ofHighB l) 8 = l := by
  have := high_of l
  rw [h] at this
  have e : highI (ofHighB l) 8 = (lowB (ofHighB l) 8).reverse := (highI_num2 _ 8 rfl).1
  rw [e]
  exact this
/-- What a load tells is what counts. -/
theorem load_counts (C : List (List UInt8)) (lo n : Nat) (h : (slotB C lo n).length = 256 * (n + 1)) :
    (loadL (slotB C lo n)).1 = (countsV C lo n hdV).2 ∧ ((countsV C lo n hdV).2 ≠ 0 → (loadL (slotB C lo n)).2 = (countsV C lo n hdV).1) := by
  have hc : countsV C lo n hdV = if ofHighB ((slotB C lo n).take 8) = 0 ∨ 256 * n < sizeL (slotB C lo n) then ([], 0) else if (slotB C lo n).take 256 = hdV (ofHighB ((slotB C lo n).take 8)) (bytesL (slotB C lo n)) then (bytesL (slotB C lo n), ofHighB ((slotB C lo n).take 8)) else ([], 0) := rfl
  rw [hc]
  generalize slotB C lo n = L at h
  have hL : 256 ≤ L.length := by omega
  have hR : (L.drop 256).length = 256 * n := by rw [List.length_drop]; omega
  unfold loadL
  rw [hR]
  by_cases hs : 256 * n < sizeL L
  · rw [if_neg (fun e => by omega), if_pos (.inr hs)]
    exact ⟨rfl, fun h => absurd rfl h⟩
  · have hbl : (bytesL L).length = sizeL L := by
      unfold bytesL
      rw [List.length_take]
      omega
    have l1 : (L.take 8).length = 8 := by rw [List.length_take]; omega
    have l2 : ((L.drop 8).take 8).length = 8 := by rw [List.length_take, List.length_drop]; omega
    have l3 : ((L.drop 16).take 2).length = 2 := by rw [List.length_take, List.length_drop]; omega
    have l4 := key_len hL
    have l16 : L.take 16 = L.take 8 ++ (L.drop 8).take 8 := by
      have : L.take (8 + 8) = _ := List.take_add
      exact this
    have hnum : numsV (ofHighB (L.take 8)) (bytesL L) = L.take 16 := by
      unfold numsV
      rw [high8_back l1, hbl, l16]
      congr 1
      exact high8_back l2
    have hhd : hdV (ofHighB (L.take 8)) (bytesL L) = L.take 16 ++ ((lowB 1 2).reverse ++ (digestB (L.take 16 ++ bytesL L) ++ List.replicate 206 0)) := by
      unfold hdV pad
      rw [hd0_len]
      unfold hd0
      rw [hnum]
      simp only [List.flatten_singleton, List.append_assoc]
    have hall : L.take 256 = L.take 16 ++ ((L.drop 16).take 2 ++ (keyL L ++ (L.drop 50).take 206)) := by
      have e1 : L.take (16 + 240) = _ := List.take_add
      have e2 : (L.drop 16).take (2 + 238) = _ := List.take_add
      have e3 : (L.drop 18).take (32 + 206) = _ := List.take_add
      rw [List.drop_drop] at e2 e3
      rw [show (256 : Nat) = 16 + 240 from rfl, e1, show (240 : Nat) = 2 + 238 from rfl, e2, show (16 + 2 : Nat) = 18 from rfl, show (238 : Nat) = 32 + 206 from rfl, e3]
      rfl
    have hdl : (digestB (L.take 16 ++ bytesL L)).length = 32 := digestB_length _
    have lz : ((L.drop 50).take 206).length = 206 := by rw [List.length_take, List.length_drop]; omega
    have key : (L.take 256 = hdV (ofHighB (L.take 8)) (bytesL L)) ↔ (ofHighB ((L.drop 16).take 2) = 1 ∧ ((L.drop 50).take 206).all (· == 0) = true ∧ sizeL L ≤ 256 * n ∧ digestB (L.take 16 ++ bytesL L) = keyL L) := by
      rw [hall, hhd, two_one l3]
      constructor
      · intro e
        have e1 := (List.append_inj e rfl).2
        obtain ⟨e2, e3⟩ := List.append_inj e1 (by rw [l3]; rfl)
        obtain ⟨e4, e5⟩ := List.append_inj e3 (by rw [l4, hdl])
        refine ⟨e2, ?_, by omega, e4.symm⟩
        rw [e5, List.all_eq_true]
        intro y hy
        rw [(List.mem_replicate.1 hy).2]
        rfl
      · rintro ⟨e2, e3, _, e4⟩
        rw [e2, e4]
        congr 3
        rw [List.eq_replicate_iff]
        refine ⟨lz, fun y hy => ?_⟩
        rw [List.all_eq_true] at e3
        exact eq_of_beq (e3 y hy)
    by_cases hq : ofHighB (L.take 8) = 0
    · rw [if_pos (show ofHighB (L.take 8) = 0 ∨ 256 * n < sizeL L from .inl hq)]
      refine ⟨?_, fun h => absurd rfl h⟩
      split
      · exact hq
      · rfl
    · rw [if_neg (show ¬ (ofHighB (L.take 8) = 0 ∨ 256 * n < sizeL L) from fun e => e.elim hq hs)]
      by_cases hk : L.take 256 = hdV (ofHighB (L.take 8)) (bytesL L)
      · rw [if_pos (key.1 hk), if_pos hk]
        exact ⟨rfl, fun _ => rfl⟩
      · rw [if_neg (fun e => hk (key.2 e)), if_neg hk]
        exact ⟨rfl, fun h => absurd rfl h⟩
theorem loadL_u64 (L : List UInt8) : (loadL L).1 < 18446744073709551616 := by
  unfold loadL
  split
  · exact ofHighB_u64 _ (by rw [List.length_take]; omega)
  · show 0 < _; decide
end Go.Proofs.YtpgbicbjlhkonaaGreatDoor
end
section
namespace Go.Proofs.YtpgbicbjlhkonaaGreatDoor
open Go.RowKit
set_option linter.unusedVariables false
set_option maxRecDepth 20000
end Go.Proofs.YtpgbicbjlhkonaaGreatDoor
end
