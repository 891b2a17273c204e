/-
  Contract of mac.Expand. Conditions: as the theorem names them.
-/
import Derived.Test.YtdojaighchgghaaDoorMacI
import Derived.Test.YtdojaighchgghaaDoorE
import Derived.Test.YtdojaighchgghaaDoorRound
namespace Go.Proofs.YtdojaighchgghaaDoor
open Go.RowKit Go.Shelf
attribute [local go_sem] Oper.semAt_some
set_option linter.unusedVariables false
set_option maxRecDepth 20000

theorem MeterStep.box {g M : Nat} {A B : World} (h : MeterStep g M A B) {k : Nat} {t : TypeId} {v : Value} (hb : Boxed A k t v) (ht : t ≠ 83) : Boxed B k t v := by
  obtain ⟨hg, ⟨n, hn⟩, _⟩ := h
  refine hb.kept hg fun e => ?_
  injection e with e
  subst e
  have e := (show A.heap[k]? = _ from hn).symm.trans (show A.heap[k]? = _ from hb)
  injection e with e
  injection e with _ c _
  exact ht c.symm
theorem MeterStep.own {g M base : Nat} {A B : World} (h : MeterStep g M A B) {v : Value} {l : List UInt8} (ho : OwnB A base 5 v l) : OwnB B base 5 v l := by
  obtain ⟨hg, ⟨n, hn⟩, _⟩ := h
  exact World.ownsRow.kept ho hg (.inr fun e => ho.other (show A.heap[g]? = _ from hn) (by decide) e.symm)

theorem run_sliceArrH {P : Program} (w : World) (t e : TypeId) (n : Nat) (ht : P.underlying t = some (.array n e)) (hs : (P.info? e).map (·.size) = some 1) (g h : Nat) (h3 : h ≤ n) :
    (Instr.sliceAt t (.pointer (some ⟨g, 0, none⟩)) none (some (.int .i64 (h : Int))) none).run P w = .ok (.slice (some ⟨g, 0, none⟩) h n) w := by
  obtain ⟨f, hf, hz⟩ := Option.map_eq_some_iff.1 hs
  have hlen : P.arrayLen t = n := by simp [Program.arrayLen, ht]
  have hel : P.elem t = e := by simp [Program.elem, ht]
  rw [run_sliceAt_array_h w t ⟨g, 0, none⟩ (by rw [hlen, hel]; exact ht) .i64 _ (by omega) (by rw [hlen]; omega)]
  have hadd : (⟨g, 0, none⟩ : Addr).add 0 = ⟨g, 0, none⟩ := by unfold Addr.add; split <;> simp_all
  simp [hel, hlen, sizeOf, typeInfo, hf, hz, slicedAt, hadd]
theorem outT_flat (key info : List UInt8) (k : Nat) : (List.range k).flatMap (fun y => tB key info (y + 1)) = outT key info k := by
  induction k with
  | zero => rfl
  | succ k ih => rw [List.range_succ, List.flatMap_append, ih, outT]; simp
theorem take_next (F t : List UInt8) (N : Nat) (ht : t.length = 32) : F.take N ++ t.take (min 32 (N - (F.take N).length)) = (F ++ t).take N := by
  rw [List.take_append]
  congr 1
  rw [List.length_take]
  rcases Nat.le_total F.length N with h | h
  · rw [Nat.min_eq_right h]
    rcases Nat.le_total 32 (N - F.length) with h2 | h2
    · rw [Nat.min_eq_left h2, List.take_of_length_le (by omega), List.take_of_length_le (by omega)]
    · rw [Nat.min_eq_right h2]
  · rw [Nat.min_eq_left h, Nat.sub_self, Nat.min_eq_right (by omega), Nat.sub_eq_zero_of_le h]

set_option maxHeartbeats 4000000 in
theorem macExpand_any (w0 w : World) (g n : Nat) (hr : Run w0 w g n w) (hn : n ≤ 1000000) (key : List UInt8) (hk : key.length = 32) (vi : Value) (info : List UInt8) (hi : Bs w vi info) (hil : info.length ≤ 20000) (N : Nat) (hN : N ≤ 8160) :
    Calls Tryd.prog 34 #[.pointer (some ⟨g, 0, none⟩), keyV key, vi, .int .i64 (N : Int)] w fun e w' => ∃ u n', n' ≤ n + 3 * 255 ∧ e = .returned (.tuple #[u, .int .i64 0]) ∧ Bs w' u ((outT key info ((N + 31) / 32)).take N) ∧ Run w0 w g n' w' := by
  obtain ⟨i0, hin, hz0, hz1, hz2⟩ := info_parts Tryd.infoB
  have HI := Lib.hid hi
  obtain ⟨IA, ic, rfl, _, _, _⟩ := hi
  obtain ⟨Nr, hNr⟩ : ∃ Nr, Nr = (N + 31) / 32 := ⟨_, rfl⟩
  rw [← hNr]
  have hNi : ((N : Int) + 32 - 1) / 32 = (Nr : Int) := by omega
  have hNi2 : ((N : Int) + 31) / 32 = (Nr : Int) := by omega
  have hNb : Nr ≤ 255 := by omega
  have HNR := Lib.hid hNr
  have HR := Lib.hid hr
  have HKL := Lib.hid hk
  clear hr hk hNr
  refine (callsIn_wide (n := 3)).1 ?_
  refine callsIn_of_wp_marks Tryd.func34 rfl trivial ?_ rfl
  simp only [Tryd.ntmps34, List.size_toArray, List.length_cons, List.length_nil, Nat.reduceAdd, Nat.reduceSub, Array.replicate_succ, Array.replicate_zero, List.push_toArray, List.append_toArray, List.nil_append, List.cons_append]
  refine wpIn_wide.2 ?_
  go_wp2_with (first
    | ((with_reducible refine wpList_box_row (o := ⟨some 5, _, _, _, _, _⟩) rfl 33 (.tmp 1) rfl (keyC key) (by with_unfolding_all rfl) ?_); intro g1 w1 n1)
    | ((with_reducible refine wpList_make_own (o := ⟨some 19, _, _, _, _, _⟩) _ rfl (.const (.int .i64 0)) (.tmp 18) 27 rfl w.heap.size 5 i0 (.int .u8 0) 1 Tryd.underlying27 hin hz0 hz1 .i64 .i64 (N : Int) N (by with_unfolding_all rfl) (by with_unfolding_all rfl) rfl (by rw [hz2]; omega) (by unfold maxLen; omega) (by have := n1.below.size; simp; omega) ?_); intro w3 hown hgrow; have hcx := fun o => (((Boxed.new w1 3 (.int .i64 (N : Int))).kept hgrow (by simp)).alloc o).cell)
    | (with_reducible refine wpList_load_row (o := ⟨some 21, _, _, _, _, _⟩) rfl 33 (.tmp 5) rfl g1 (by with_unfolding_all rfl) 33 (keyC key) (0, 0) (.array 32 5) (by with_unfolding_all exact (((n1.row.alloc _).grown hgrow (by simp)).alloc _)) Tryd.underlying33 rfl (Tryd.sizeKey key HKL.out) ?_))
  have BN0 := (Boxed.new w1 3 (.int .i64 (N : Int))).kept hgrow (by simp)
  have z1 := n1.size
  have e1 := n1.spot
  have hgs := hgrow.size
  rw [World.size_alloc] at hgs
  have B3 : Below w.heap.size w w3 := (below_size n1.below ((Below.refl _ _).alloc (Nat.le_refl _) _)).trans (((Below.refl _ _).grown hgrow (Nat.le_refl _) (fun k h => by cases h)).mono (by rw [World.size_alloc]; omega))
  obtain ⟨gN, hgN⟩ : ∃ g, g = w1.heap.size := ⟨_, rfl⟩
  obtain ⟨gO, hgO⟩ : ∃ g, g = w3.heap.size := ⟨_, rfl⟩
  have BN := BN0.alloc (.cells #[.slice (some ⟨gN + 1, 0, none⟩) 0 N] 27)
  have BO := Boxed.new w3 27 (.slice (some ⟨gN + 1, 0, none⟩) 0 N)
  have OW : OwnB (w3.alloc (.cells #[.slice (some ⟨gN + 1, 0, none⟩) 0 N] 27)) w.heap.size 5 (.slice (some ⟨gN + 1, 0, none⟩) 0 N) ([] : List UInt8) := by
    have : OwnB w3 w.heap.size 5 (.slice (some ⟨gN + 1, 0, none⟩) 0 N) ([] : List UInt8) := by
      rw [hgN]
      have h := hown
      rw [World.size_alloc] at h
      exact h
    exact this.alloc _
  have B4 := B3.alloc B3.size (.cells #[.slice (some ⟨gN + 1, 0, none⟩) 0 N] 27)
  rw [← hgN] at BN ⊢
  rw [← hgO] at BO ⊢
  have hNO : gN < gO := by omega
  have hwN : w.heap.size ≤ gN := by omega
  generalize w3.alloc (.cells #[.slice (some ⟨gN + 1, 0, none⟩) 0 N] 27) = w4 at BN BO OW B4 ⊢
  clear BN0 z1 e1 hgs B3 n1 hcx hown hgrow hgN hgO
  refine (expanded_any w0 w w4 g n (HR.out.beneath B4) IA info.length ic key HKL.out Nr).mono ?_
  rintro e w5 ⟨gn, gm, gk, gi, rfl, env, ⟨hk1, hk2, hk3, hk4⟩, b5⟩
  have BN5 := BN.kept (grown_of_below b5) (by simp)
  have BO5 := BO.kept (grown_of_below b5) (by simp)
  have OW5 := OW.below b5
  have B5 := below_size B4 b5
  have ltN := BN.lt
  have ltO := BO.lt
  clear BN BO OW B4 b5
  go_wp2_with fail
  have EV := Lib.hid env
  have hX4 : ¬ (gn = gO) ∧ ¬ (gm = gO) ∧ ¬ (gk = gO) ∧ ¬ (gi = gO) := ⟨by omega, by omega, by omega, by omega⟩
  clear env
  refine (wpIn_wide (n := 3)).1 ?_
  refine wpIn_rangeFunc_R (F := Fence.wide) rfl (by omega) (gf := 70) (lb := #[.pointer (some ⟨gn, 0, none⟩), .pointer (some ⟨gm, 0, none⟩), .pointer (some ⟨gk, 0, none⟩), .pointer (some ⟨gi, 0, none⟩)]) rfl trivial (enters_of Tryd.func70 (by kernel_rfl) rfl)
    (expanded1_tells 2 (by omega) w0 w w5 g n (n + 3 * Nr) gn gm gk gi (.slice IA info.length ic) key info Nr (fun k => k = gO) (fun k hk => by rw [hk]; exact BO5.lt) hX4 HKL.out (fun W h => (HI.out.below B5).below h) (fun _ => HI.out) hil hNb (Nat.le_refl _) (by omega) EV.out)
    (fun A B h k o _ hk ho => h.keeps k o hk ho) bodyKeeps_t (bodyKeeps_b B5.size) (Below.refl _ _) (fun _ => rfl)
    (fun pre W => (Boxed W gN 3 (.int .i64 (N : Int)) ∧ ∃ v, Boxed W gO 27 v ∧ OwnB W w.heap.size 5 v ((pre.flatMap fun y => tB key info (y + 1)).take N)) ∧ (w5.heap.size ≤ W.heap.size ∧ XEnv w0 w W g (n + 3 * Nr) gn gm gk gi (.slice IA info.length ic) key Nr))
    (fun _ _ _ => False)
    (OwnFrom.and (OwnFrom.and (Own.from (boxed_own _ _ _) _) (fun s X Y row hs hg hr => by obtain ⟨v, h1, h2⟩ := hs; exact ⟨v, boxed_row h1 hg (fun r e => (hr r e).2), h2.grown hg (fun r e => (hr r e).2)⟩)) (OwnFrom.and (fun s X Y row hs hg hr => Nat.le_trans hs hg.size) (fun s X Y row hs hg hr => hs.own hg (fun r e => (hr r e).2) (fun r e => Nat.le_trans B5.size (hr r e).1))))
    (fun _ _ _ _ _ hs _ _ => hs)
    (fun s A B hs h => by obtain ⟨⟨h1, v, h2, h3⟩, h4, h5⟩ := hs; exact ⟨⟨h.box h1 (by decide), v, h.box h2 (by decide), h.own h3⟩, Nat.le_trans h4 h.1.size, h5.stepped h⟩)
    (fun _ _ _ _ hs _ => hs)
    ⟨⟨BN5, _, BO5, (by rw [List.flatMap_nil, List.take_nil]; exact OW5)⟩, Nat.le_refl _, EV.out.more (by omega)⟩
    (fun x a' W => ∃ Bx, w5.heap.size ≤ Bx ∧ RowAt W Bx 33 (keyC (tB key info (x + 1))) ∧ a' = { tmps := #[.pointer (some ⟨g, 0, none⟩), keyV key, .slice IA info.length ic, .int .i64 (N : Int), undef, .pointer (some ⟨g1, 0, none⟩), undef, .pointer (some ⟨gN, 0, none⟩), .slice none 0 0, .int .i64 0, .pointer (some ⟨gO, 0, none⟩), .pointer (some ⟨Bx, 0, none⟩), .int .i64 (N : Int), .bool (decide ((N : Int) < 0)), .bool (decide ((N : Int) < 0)), .int .i64 (N : Int), .bool (decide (8160 < (N : Int))), .bool (decide ((N : Int) < 0) || decide (8160 < (N : Int))), .int .i64 (N : Int), .slice (some ⟨gN + 1, 0, none⟩) 0 N, .pointer (some ⟨g, 0, none⟩), .agg (keyC key), .slice IA info.length ic, .int .i64 (N : Int), .int .i64 ((N : Int) + 32), .int .i64 ((N : Int) + 32 - 1), .int .i64 (Nr : Int), .func (.func 70) #[] #[.pointer (some ⟨gn, 0, none⟩), .pointer (some ⟨gm, 0, none⟩), .pointer (some ⟨gk, 0, none⟩), .pointer (some ⟨gi, 0, none⟩)], keyV (tB key info (x + 1)), undef, undef, undef, undef, undef, undef, undef, undef, undef], defers := [] })
    (fun x a' _ X Y row hs hg hr => by
      obtain ⟨Bx, h1, h2, h3⟩ := hs
      refine ⟨Bx, h1, h2.grown hg (fun e => ?_), h3⟩
      obtain ⟨_, o, ho, hc⟩ := hr Bx e.symm
      rw [show X.heap[Bx]? = _ from h2] at ho
      cases ho
      simp [Obj.isCells] at hc)
    ?assign ?body ?done ?stop
  case assign =>
    rintro l pre x W K ⟨⟨hN0, v, hO, hW⟩, hsz, hEnv⟩ hK
    gi_wp2_with (first
      | ((with_reducible refine roundL_alloc_row (o := ⟨some 11, _, _, _, _, _⟩) rfl 33 rfl (keyC zeroKey) Tryd.zeroK ?_); intro gx wx nx)
      | ((with_reducible refine roundL_store_row (o := ⟨none, _, _, _, _, _⟩) rfl 33 (.tmp 11) (.tmp 28) rfl gx 33 _ (keyC (tB key info (x + 1))) (by with_unfolding_all rfl) (by with_unfolding_all rfl) nx.row (keyC_same zeroKey_length (tB_length _ _ _)) (Tryd.sizeKey _ (tB_length _ _ _)) (keyC_one _) ?_); intro wy py))
    obtain ⟨hb, hko⟩ := laid_put nx py
    exact hK _ _ (hko.from _) (BodyKeeps.of_below (Nat.le_trans B5.size hsz) hb)
      ⟨⟨hN0.kept (grown_of_below hb) (by simp), v, hO.kept (grown_of_below hb) (by simp), hW.below hb⟩, Nat.le_trans hsz hb.size, hEnv.below hb⟩
      ⟨gx, by rw [nx.spot]; exact hsz, py.row, rfl⟩
  case body =>
    rintro l pre x a' W hl hrec ⟨⟨hN0, v, hO, hW⟩, hsz, hEnv⟩ ⟨Bx, hBx, hRow, rfl⟩ hlt
    obtain ⟨AO, cO, rfl, hv1, hv2⟩ := hW.shape
    obtain ⟨F, hF⟩ : ∃ F, F = pre.flatMap fun y => tB key info (y + 1) := ⟨_, rfl⟩
    obtain ⟨tk, htk⟩ : ∃ t, t = tB key info (x + 1) := ⟨_, rfl⟩
    have hF2 : (pre ++ [x]).flatMap (fun y => tB key info (y + 1)) = F ++ tk := by rw [List.flatMap_append, hF, htk]; simp
    have htl : tk.length = 32 := by rw [htk]; exact tB_length _ _ _
    have hnext := take_next F tk N htl
    rw [← hF] at hW hv1 hO
    rw [← htk] at hRow
    rw [← htk]
    have hlo : (F.take N).length ≤ N := by rw [List.length_take]; exact Nat.min_le_left _ _
    have HF2 := Lib.hid hF2
    have HTL := Lib.hid htl
    obtain ⟨ko, hko⟩ : ∃ ko, ko = (F.take N).length := ⟨_, rfl⟩
    have HKO := Lib.hid hko
    rw [← hko] at hO hv1 hlo hW hnext
    obtain ⟨m, hm⟩ : ∃ m, m = min 32 (N - ko) := ⟨_, rfl⟩
    rw [← hm] at hnext
    have HNX := Lib.hid hnext
    have HMM : Hid (((32 : Int) ≤ (N : Int) - (ko : Int) ∧ m = 32) ∨ (¬ (32 : Int) ≤ (N : Int) - (ko : Int) ∧ (m : Int) = (N : Int) - (ko : Int))) := by
      rw [hm]
      rcases Nat.le_total 32 (N - ko) with h | h
      · exact .inl ⟨by omega, Nat.min_eq_left h⟩
      · by_cases h2 : N - ko = 32
        · exact .inl ⟨by omega, by omega⟩
        · exact .inr ⟨by omega, by rw [Nat.min_eq_right h]; omega⟩
    have hw1 : IntKind.i64.wrap ((N : Int) - (ko : Int)) = (N : Int) - (ko : Int) := IntWalk.i64_in _ (by omega)
    have hm32 : m ≤ 32 := by rw [hm]; exact Nat.min_le_left _ _
    clear hF htk hF2 htl hko hnext hm
    gi_wp2
    refine round_region (S := fun W' => Boxed W' gN 3 (.int .i64 (N : Int)) ∧ Boxed W' gO 27 (.slice AO ko cO)) (fin := fun j => j == 8) (by kernel_rfl) (by kernel_rfl) (by rintro ⟨_, _, h⟩; exact h) ?_
    have hS : Boxed W.drew gN 3 (.int .i64 (N : Int)) ∧ Boxed W.drew gO 27 (.slice AO ko cO) := ⟨hN0, hO⟩
    change walkS _ _ _ _ _ _ 9 _ _ _
    refine walkS_take (i := 0) (oi := ⟨some 29, _, _, _, _, _⟩) (v := .slice AO ko cO) rfl (by kernel_rfl) (by kernel_rfl) (fun _ _ _ h => h) _ _ _ _ (by kernel_rfl) (by kernel_rfl) (Or.inl ⟨by rfl, fun w' hS' => ?_⟩) hS ?_
    · have c1 := hS'.2.cell
      clear hS' hS hrec hN0 hO hRow hEnv
      go_simp
    simp only [Act.put, List.setIfInBounds_toArray, List.set_cons_zero, List.set_cons_succ]
    refine walkS_take (i := 1) (oi := ⟨some 30, _, _, _, _, _⟩) (v := .int .i64 (N : Int)) rfl (by kernel_rfl) (by kernel_rfl) (fun _ _ _ h => h) _ _ _ _ (by kernel_rfl) (by kernel_rfl) (Or.inl ⟨by rfl, fun w' hS' => ?_⟩) hS ?_
    · have c1 := hS'.1.cell
      clear hS' hS hrec hN0 hO hRow hEnv
      go_simp
    simp only [Act.put, List.setIfInBounds_toArray, List.set_cons_zero, List.set_cons_succ]
    refine walkS_take (i := 2) (oi := ⟨some 31, _, _, _, _, _⟩) (v := .slice AO ko cO) rfl (by kernel_rfl) (by kernel_rfl) (fun _ _ _ h => h) _ _ _ _ (by kernel_rfl) (by kernel_rfl) (Or.inl ⟨by rfl, fun w' hS' => ?_⟩) hS ?_
    · have c1 := hS'.2.cell
      clear hS' hS hrec hN0 hO hRow hEnv
      go_simp
    simp only [Act.put, List.setIfInBounds_toArray, List.set_cons_zero, List.set_cons_succ]
    refine walkS_take (i := 3) (oi := ⟨some 32, _, _, _, _, _⟩) (v := .int .i64 (ko : Int)) rfl (by kernel_rfl) (by kernel_rfl) (fun _ _ _ h => h) _ _ _ _ (by kernel_rfl) (by kernel_rfl) (Or.inl ⟨by rfl, fun w' hS' => ?_⟩) hS ?_
    · clear hS' hS hrec hN0 hO hRow hEnv
      go_simp
    simp only [Act.put, List.setIfInBounds_toArray, List.set_cons_zero, List.set_cons_succ]
    refine walkS_take (i := 4) (oi := ⟨some 33, _, _, _, _, _⟩) (v := .int .i64 ((N : Int) - (ko : Int))) rfl (by kernel_rfl) (by kernel_rfl) (fun _ _ _ h => h) _ _ _ _ (by kernel_rfl) (by kernel_rfl) (Or.inl ⟨by rfl, fun w' hS' => ?_⟩) hS ?_
    · clear hS' hS hrec hN0 hO hRow hEnv
      go_simp
    simp only [Act.put, List.setIfInBounds_toArray, List.set_cons_zero, List.set_cons_succ]
    refine walkS_take (i := 5) (oi := ⟨some 34, _, _, _, _, _⟩) (v := .int .i64 (m : Int)) rfl (by kernel_rfl) (by kernel_rfl) (fun _ _ _ h => h) _ _ _ _ (by kernel_rfl) (by kernel_rfl) (Or.inl ⟨by rfl, fun w' hS' => ?_⟩) hS ?_
    · clear hS' hS hrec hN0 hO hRow hEnv
      have hmm := HMM.out
      rcases hmm with ⟨h1, h2⟩ | ⟨h1, h2⟩
      · go_simp
        omega
      · go_simp
    simp only [Act.put, List.setIfInBounds_toArray, List.set_cons_zero, List.set_cons_succ]
    refine walkS_take (i := 6) (oi := ⟨some 35, _, _, _, _, _⟩) (v := .slice (some ⟨Bx, 0, none⟩) m 32) rfl (by kernel_rfl) (by kernel_rfl) (fun _ _ _ h => h) _ _ _ _ (by kernel_rfl) (by kernel_rfl) (Or.inl ⟨by rfl, fun w' hS' => ?_⟩) hS ?_
    · clear hS' hS hrec hN0 hO hRow hEnv
      have hsl := run_sliceArrH (P := Tryd.prog) w' 33 5 32 Tryd.underlying33 (by kernel_rfl) Bx m hm32
      go_simp
    simp only [Act.put, List.setIfInBounds_toArray, List.set_cons_zero, List.set_cons_succ]
    have HX2 := Lib.hid (Bs.part hRow 0 m 32 (by rw [HTL.out]; omega) hm32 (by unfold maxLen; omega))
    rw [List.drop_zero] at HX2
    refine walkS_only (i := 7) (o := ⟨some 36, _, _, _, _, _⟩) (by kernel_rfl) rfl rfl fun K hK => ?_
    have hsz1 : W.drew.heap.size = W.heap.size := rfl
    have hwsz := B5.size
    refine wp_appG (.tmp 29) (.tmp 35) 27 rfl w.heap.size 5 Tryd.infoB Tryd.underlying27 _ _ (F.take N) (tk.take m) rfl rfl (by exact hW.drew) (by exact HX2.out.drew) (by rw [List.length_take, List.length_take, HTL.out]; omega) (by omega) ?_
    intro v' W2 hW2 hg2
    have hne := hW.other (show W.heap[gO]? = _ from hO) (by decide)
    have hneN := hW.other (show W.heap[gN]? = _ from hN0) (by decide)
    have hO2 : Boxed W2 gO 27 (.slice AO ko cO) := hS.2.kept hg2 hne
    have hN2 : Boxed W2 gN 3 (.int .i64 (N : Int)) := hS.1.kept hg2 hneN
    refine hK _ _ (.inr ⟨hN2, hO2⟩) ?_
    clear hK K
    refine walkS_only (i := 8) (o := ⟨none, _, _, _, _, _⟩) (by kernel_rfl) rfl rfl fun K hK => ?_
    have c2 := hO2.cell
    have f2 := hO2.frozen
    have hfr : ∀ j o, (Value.slice AO ko cO).ownBlock = some j → W.heap[j]? = some o → rowKept o = false ∧ o.isCells = true := fun j o ej hj => by
      obtain ⟨cur, hc⟩ := hW.spot ej
      rw [hj] at hc
      cases hc
      exact ⟨rfl, rfl⟩
    have hg2' : W.grownBy W2 (Value.slice AO ko cO).ownBlock := ⟨hg2.os, hg2.tape, hg2.output, hg2.size, hg2.block⟩
    obtain ⟨A2, cc2, rfl, _, _⟩ := hW2.shape
    obtain ⟨m2, hm2⟩ : ∃ y, y = (F.take N ++ tk.take m).length := ⟨_, rfl⟩
    rw [← hm2] at hW2 ⊢
    rw [HNX.out] at hW2
    clear hm2
    have hgs := grownBy_setCell' W2 gO (.slice A2 m2 cc2)
    have hsp : gO < W2.heap.size := hO2.lt
    have hbel2 : Below w.heap.size W W2 := (Below.refl _ _).grown hg2' (Nat.le_trans hwsz hsz) hW.rows
    have hbel3 : Below w.heap.size W (W2.setCell ⟨gO, 0, none⟩ (.slice A2 m2 cc2)) := hbel2.setCell (by show w.heap.size ≤ gO; omega) _
    have hkeep : ∀ (k : Nat) (o : Obj), W.heap[k]? = some o → rowKept o = true → ¬ k = gO → (W2.setCell ⟨gO, 0, none⟩ (.slice A2 m2 cc2)).heap[k]? = some o := fun k o hk hr hne => by
      have h1 : W2.heap[k]? = some o := (hg2'.block k (Array.getElem?_eq_some_iff.1 hk).1 fun e => by
        have := (hfr k o e.symm hk).1
        rw [hr] at this
        cases this).trans hk
      exact (hgs.block k (Array.getElem?_eq_some_iff.1 h1).1 (fun e => by injection e with e; exact hne e)).trans h1
    have hoth : KeepsOthers W (W2.setCell ⟨gO, 0, none⟩ (.slice A2 m2 cc2)) := (KeepsOthers.of_grownBy hg2' (fun j o ej hj => (hfr j o ej hj).2)).trans (KeepsOthers.setCell _ _ _)
    have HB3 := Lib.hid hbel3
    have HKP := Lib.hid hkeep
    have HOT := Lib.hid hoth
    have HE3 := Lib.hid (hEnv.body hX4 ⟨hbel3, hkeep⟩)
    have HW2 := Lib.hid hW2
    have HN2 := Lib.hid hN2
    have HO2 := Lib.hid hO2
    have HGS := Lib.hid hgs
    clear hbel2 hbel3 hkeep hoth hW2 hN2 hO2 hgs hg2 hg2' hne hneN hfr hW hO hN0 hS hRow hEnv hrec BN5 BO5 OW5
    go_simp
    refine hK _ _ (.inl rfl) ?_
    refine walkS_done (by kernel_rfl) ?_ _
    refine ⟨HOT.out.from _, ⟨HB3.out, HKP.out⟩, ⟨HN2.out.other (by omega) _, _, HO2.out.set _, ?_⟩, ?_, HE3.out⟩
    · rw [HF2.out]
      exact World.ownsRow.kept HW2.out HGS.out (.inr fun e => HW2.out.other (show W2.heap[gO]? = _ from HO2.out) (by decide) e.symm)
    · have := HGS.out.size
      have := HB3.out.size
      omega
  case done =>
    rintro D xs W hD rfl ⟨⟨hN0, v, hO, hW⟩, hsz, hEnv⟩ hK
    rw [outT_flat] at hW
    have c1 := hO.cell
    have HW := Lib.hid hW
    have HEV := Lib.hid hEnv
    clear hW hN0 hO hEnv BN5 BO5 OW5
    go_wp2
    refine ⟨by simp, .inl ⟨_, _, rfl, run_takeDeferred hK, ?_⟩⟩
    have hD2 : ∀ r, some D = some r → ∃ o : Obj, W.heap[r]? = some o ∧ o.isCells = false := by
      rintro r e
      cases e
      exact ⟨_, hK, rfl⟩
    obtain ⟨n', hn', hrun⟩ := HEV.out.run
    exact ⟨_, results_tmp2 rfl _ _ _, v, n', by omega, rfl, (HW.out.grown (grownBy_putObj' W D _) hD2).bs, hrun.beneath (belowK_b (w := w) (Nat.le_refl _) W D _ _ (by have := B5.size; omega) hK rfl rfl)⟩
  case stop =>
    rintro D c pre W _ _ h _
    exact h.elim
end Go.Proofs.YtdojaighchgghaaDoor
