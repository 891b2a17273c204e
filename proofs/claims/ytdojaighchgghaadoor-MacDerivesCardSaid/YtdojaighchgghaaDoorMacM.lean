/-
  Contract of mac.Derive. Conditions: as the theorem names them.
-/
import Derived.Test.YtdojaighchgghaaDoorMacK
import Derived.Test.YtdojaighchgghaaDoorMacJ
namespace Go.Proofs.YtdojaighchgghaaDoor
open Go.RowKit Go.Shelf
attribute [local go_sem] Oper.semAt_some
set_option linter.unusedVariables false
set_option maxRecDepth 20000

def lastT (key info : List UInt8) (pre : List Nat) : List UInt8 := match pre.getLast? with | none => zeroKey | some x => tB key info (x + 1)
theorem lastT_length (key info : List UInt8) (pre : List Nat) : (lastT key info pre).length = 32 := by
  unfold lastT
  split
  · exact zeroKey_length
  · exact tB_length _ _ _
theorem lastT_snoc (key info : List UInt8) (pre : List Nat) (x : Nat) : lastT key info (pre ++ [x]) = tB key info (x + 1) := by simp [lastT]

set_option maxHeartbeats 4000000 in
theorem macDerive_any (w0 w : World) (g n : Nat) (hr : Run w0 w g n w) (hn : n ≤ 1000000) (key : List UInt8) (hk : key.length = 32) (lab : ByteArray) (hlab : lab.size ≤ 1000) (A : Option Addr) (c : Nat) (ls : List (List UInt8))
    (hb : Bss w (.slice A ls.length c) ls) (hls : ls.length ≤ 15) (hl : ∀ b ∈ ls, b.length ≤ 1000) :
    Calls Tryd.prog 36 #[.pointer (some ⟨g, 0, none⟩), keyV key, .string lab, .slice A ls.length c] w fun e w' => ∃ n', n' ≤ n + 3 ∧ e = .returned (.agg (keyC (macB key (infoB lab.data.toList ls ++ [1])))) ∧ Run w0 w g n' w' := by
  obtain ⟨info, hinfo⟩ : ∃ i, i = infoB lab.data.toList ls := ⟨_, rfl⟩
  have HP : Hid (∀ x, Below w.heap.size w x → Calls Tryd.prog 56 #[.string lab, .slice A ls.length c] x (RetBs x info)) := fun x hx => by rw [hinfo]; exact purpose_any x lab hlab A c ls (hb.keep hx) (by omega) hl
  have hil : info.length ≤ 20000 := by
    rw [hinfo, infoB]
    have := partsL_flat (lab.data.toList.take 255) ls hl
    rw [List.length_take] at this
    have : min 255 lab.data.toList.length ≤ 255 := Nat.min_le_left _ _
    omega
  have hT : macB key (info ++ [1]) = lastT key info [0] := by simp [lastT, tB]
  rw [← hinfo, hT]
  have HR := Lib.hid hr
  have HK := Lib.hid hk
  clear hinfo hb hl hr hk hT hlab hls
  refine (callsIn_wide (n := 3)).1 ?_
  refine callsIn_of_wp_marks Tryd.func36 rfl trivial ?_ rfl
  simp only [Tryd.ntmps36, List.size_toArray, List.length_cons, List.length_nil, Nat.reduceAdd, Nat.reduceSub, Array.replicate_succ, Array.replicate_zero, List.push_toArray, List.append_toArray, List.nil_append, List.cons_append]
  refine wpIn_wide.2 ?_
  go_wp2_with (first
    | ((with_reducible refine wpList_box_row (o := ⟨some 5, _, _, _, _, _⟩) rfl 33 (.tmp 1) rfl (keyC key) (by with_unfolding_all rfl) ?_); intro g5 w1 n5)
    | ((with_reducible refine wpList_alloc_row (o := ⟨some 8, _, _, _, _, _⟩) rfl 33 rfl (keyC zeroKey) Tryd.zeroK ?_); intro g8 w2 n8)
    | ((with_reducible refine wpList_alloc_row (o := ⟨some 9, _, _, _, _, _⟩) rfl 33 rfl (keyC zeroKey) Tryd.zeroK ?_); intro g9 w3 n9))
  have s5 := n5.spot
  have s8 := n8.spot
  have s9 := n9.spot
  have z5 := n5.size
  have z8 := n8.size
  have z9 := n9.size
  have B3 := Lib.hid (below_size (below_size n5.below n8.below) n9.below)
  have Q5 := Lib.hid ((n5.row.kept n8.below).kept n9.below)
  have Q8 := Lib.hid (n8.row.kept n9.below)
  have Q9 := Lib.hid n9.row
  have h89 : g8 ≠ g9 := by omega
  have hg8 : w.heap.size ≤ g8 := by omega
  have hg9 : w.heap.size ≤ g9 := by omega
  clear n5 n8 n9 s5 s8 s9 z5 z8 z9
  refine Code.wp_mono NoPanic.out ?_
  refine plain_region (S := fun W' => RowAt W' g5 33 (keyC key)) (fin := fun _ => false) (by kernel_rfl) ?_
  have hS : RowAt w3.drew g5 33 (keyC key) := Q5.out
  change walkS _ _ _ _ _ _ 6 _ _ _
  refine walkS_take (i := 0) (oi := ⟨some 11, _, _, _, _, _⟩) (v := .pointer (some ⟨g, 0, none⟩)) rfl (by kernel_rfl) (by kernel_rfl) (fun _ _ _ h => h) _ _ _ _ (by kernel_rfl) (by kernel_rfl) (Or.inl ⟨by rfl, fun w' hS' => (by clear hS hS'; go_simp)⟩) hS ?_
  simp only [Act.put, List.setIfInBounds_toArray, List.set_cons_zero, List.set_cons_succ]
  refine walkS_take (i := 1) (oi := ⟨some 12, _, _, _, _, _⟩) (v := .agg (keyC key)) rfl (by kernel_rfl) (by kernel_rfl) (fun _ _ _ h => h) _ _ _ _ (by kernel_rfl) (by kernel_rfl) (Or.inl ⟨by rfl, fun w' hS' => run_load_row _ (.tmp 5) rfl g5 rfl _ (keyC key) (0, 0) (.array 32 5) hS' Tryd.underlying33 rfl (Tryd.sizeKey key HK.out)⟩) hS ?_
  simp only [Act.put, List.setIfInBounds_toArray, List.set_cons_zero, List.set_cons_succ]
  refine walkS_take (i := 2) (oi := ⟨some 13, _, _, _, _, _⟩) (v := .string lab) rfl (by kernel_rfl) (by kernel_rfl) (fun _ _ _ h => h) _ _ _ _ (by kernel_rfl) (by kernel_rfl) (Or.inl ⟨by rfl, fun w' hS' => (by clear hS hS'; go_simp)⟩) hS ?_
  simp only [Act.put, List.setIfInBounds_toArray, List.set_cons_zero, List.set_cons_succ]
  refine walkS_take (i := 3) (oi := ⟨some 14, _, _, _, _, _⟩) (v := .slice A ls.length c) rfl (by kernel_rfl) (by kernel_rfl) (fun _ _ _ h => h) _ _ _ _ (by kernel_rfl) (by kernel_rfl) (Or.inl ⟨by rfl, fun w' hS' => (by clear hS hS'; go_simp)⟩) hS ?_
  simp only [Act.put, List.setIfInBounds_toArray, List.set_cons_zero, List.set_cons_succ]
  refine walkS_only (i := 4) (o := ⟨some 15, _, _, _, _, _⟩) (by kernel_rfl) rfl rfl fun K hK => ?_
  have HS := Lib.hid hS
  clear hS
  go_simp
  refine (HP.out _ B3.out.drew).mono ?_
  intro e w4 h
  obtain ⟨u, he, hu, b4⟩ := h
  subst he
  have B4 := Lib.hid (below_size B3.out.drew b4)
  have hS : RowAt w4 g5 33 (keyC key) := HS.out.kept b4
  have T8 := Lib.hid (Q8.out.drew.kept b4)
  have T9 := Lib.hid (Q9.out.drew.kept b4)
  have HU0 := Lib.hid hu
  obtain ⟨IA, ic, rfl, _, _, _⟩ := hu
  refine hK _ _ (.inr hS) ?_
  clear hK K b4 HS Q8 Q9 Q5 B3
  refine walkS_only (i := 5) (o := ⟨some 16, _, _, _, _, _⟩) (by kernel_rfl) rfl rfl fun K hK => ?_
  have R4 := Lib.hid (HR.out.beneath B4.out)
  have HS2 := Lib.hid hS
  clear hS
  go_simp
  refine (expanded_any w0 w w4 g n R4.out IA info.length ic key HK.out 1).mono ?_
  rintro e w5 ⟨gn, gm, gk, gi, rfl, env, ⟨hk1, hk2, hk3, hk4⟩, b5⟩
  have B5 := Lib.hid (below_size B4.out b5)
  have HU5 := Lib.hid (HU0.out.below b5)
  have S8 := Lib.hid (T8.out.kept b5)
  have S9 := Lib.hid (T9.out.kept b5)
  have l8 := T8.out.lt
  have l9 := T9.out.lt
  refine hK _ _ (.inr (HS2.out.kept b5)) (walkS_done (by kernel_rfl) ?_ _)
  simp only [NoPanic]
  have EV := Lib.hid env
  have hX4 : ¬ (gn = g9) ∧ ¬ (gm = g9) ∧ ¬ (gk = g9) ∧ ¬ (gi = g9) := ⟨by omega, by omega, by omega, by omega⟩
  have n89 : g8 ≠ g ∧ g9 ≠ g := ⟨meter_not_key (R4.out.self.kept b5).row S8.out, meter_not_key (R4.out.self.kept b5).row S9.out⟩
  clear hK K env b5 HS2 T8 T9 B4 HP
  go_wp2_with fail
  refine (wpIn_wide (n := 3)).1 ?_
  refine wpIn_rangeFunc_R (F := Fence.wide) rfl (by omega) (gf := 70) (lb := #[.pointer (some ⟨gn, 0, none⟩), .pointer (some ⟨gm, 0, none⟩), .pointer (some ⟨gk, 0, none⟩), .pointer (some ⟨gi, 0, none⟩)]) rfl trivial (enters_of Tryd.func70 (by kernel_rfl) rfl)
    (expanded1_tells 2 (by omega) w0 w w5 g n (n + 3 * 1) gn gm gk gi (.slice IA info.length ic) key info 1 (fun k => k = g9) (fun k hk => by rw [hk]; exact S9.out.lt) hX4 HK.out (fun W h => HU5.out.below h) (fun h => by omega) hil (by omega) (Nat.le_refl _) (by omega) EV.out)
    (fun A B h k o _ hk ho => h.keeps k o hk ho) bodyKeeps_t (bodyKeeps_b B5.out.size) (Below.refl _ _) (fun _ => rfl)
    (fun pre W => (RowAt W g8 33 (keyC zeroKey) ∧ RowAt W g9 33 (keyC (lastT key info pre))) ∧ (w5.heap.size ≤ W.heap.size ∧ XEnv w0 w W g (n + 3 * 1) gn gm gk gi (.slice IA info.length ic) key 1))
    (fun _ _ _ => False)
    (fun s X Y row hs hg hr => by
      obtain ⟨⟨h1, h2⟩, h3, h4⟩ := hs
      have cell : ∀ k cs, RowAt X k 33 cs → RowAt Y k 33 cs := fun k cs h => h.grown hg fun e => by
        obtain ⟨_, o, ho, hc⟩ := hr k e.symm
        rw [show X.heap[k]? = _ from h] at ho
        cases ho
        simp [Obj.isCells] at hc
      exact ⟨⟨cell _ _ h1, cell _ _ h2⟩, Nat.le_trans h3 hg.size, h4.own hg (fun r e => (hr r e).2) (fun r e => Nat.le_trans B5.out.size (hr r e).1)⟩)
    (fun _ _ _ _ _ hs _ _ => hs)
    (fun s A B hs h => by
      obtain ⟨⟨h1, h2⟩, h4, h5⟩ := hs
      exact ⟨⟨h1.grown h.1 (by intro e; injection e with e; exact n89.1 e), h2.grown h.1 (by intro e; injection e with e; exact n89.2 e)⟩, Nat.le_trans h4 h.1.size, h5.stepped h⟩)
    (fun _ _ _ _ hs _ => hs)
    ⟨⟨S8.out, S9.out⟩, Nat.le_refl _, EV.out.more (by omega)⟩
    (fun x a' W => ∃ Bx, w5.heap.size ≤ Bx ∧ RowAt W Bx 33 (keyC (tB key info (x + 1))) ∧ a' = { tmps := #[.pointer (some ⟨g, 0, none⟩), keyV key, .string lab, .slice A ls.length c, undef, .pointer (some ⟨g5, 0, none⟩), undef, undef, .pointer (some ⟨g8, 0, none⟩), .pointer (some ⟨g9, 0, none⟩), .pointer (some ⟨Bx, 0, none⟩), .pointer (some ⟨g, 0, none⟩), .agg (keyC key), .string lab, .slice A ls.length c, .slice IA info.length ic, .func (.func 70) #[] #[.pointer (some ⟨gn, 0, none⟩), .pointer (some ⟨gm, 0, none⟩), .pointer (some ⟨gk, 0, none⟩), .pointer (some ⟨gi, 0, none⟩)], keyV (tB key info (x + 1)), undef, undef], defers := [] })
    (fun x a' _ X Y row hs hg hr => by
      obtain ⟨Bx, h1, h2, h3⟩ := hs
      refine ⟨Bx, h1, h2.grown hg (fun e => ?_), h3⟩
      obtain ⟨_, o, ho, hc⟩ := hr Bx e.symm
      rw [show X.heap[Bx]? = _ from h2] at ho
      cases ho
      simp [Obj.isCells] at hc)
    ?assign ?body ?done ?stop
  case assign =>
    rintro l pre x W K ⟨⟨h8, h9⟩, hsz, hEnv⟩ hK
    gi_wp2_with (first
      | ((with_reducible refine roundL_alloc_row (o := ⟨some 10, _, _, _, _, _⟩) rfl 33 rfl (keyC zeroKey) Tryd.zeroK ?_); intro gx wx nx)
      | ((with_reducible refine roundL_store_row (o := ⟨none, _, _, _, _, _⟩) rfl 33 (.tmp 10) (.tmp 17) rfl gx 33 _ (keyC (tB key info (x + 1))) (by with_unfolding_all rfl) (by with_unfolding_all rfl) nx.row (keyC_same zeroKey_length (tB_length _ _ _)) (Tryd.sizeKey _ (tB_length _ _ _)) (keyC_one _) ?_); intro wy py))
    obtain ⟨hb, hko⟩ := laid_put nx py
    exact hK _ _ (hko.from _) (BodyKeeps.of_below (Nat.le_trans B5.out.size hsz) hb)
      ⟨⟨h8.kept hb, h9.kept hb⟩, Nat.le_trans hsz hb.size, hEnv.below hb⟩
      ⟨gx, by rw [nx.spot]; exact hsz, py.row, by simp [Act.put]⟩
  case body =>
    rintro l pre x a' W hl hrec ⟨⟨h8, h9⟩, hsz, hEnv⟩ ⟨Bx, hBx, hRow, rfl⟩ hlt
    have HL9 : Hid ((lastT key info pre).length = 32) := lastT_length _ _ _
    have LT : Hid ((tB key info (x + 1)).length = 32) := tB_length _ _ _
    have HSN : Hid (lastT key info (pre ++ [x]) = tB key info (x + 1)) := lastT_snoc _ _ _ _
    obtain ⟨tk, htk⟩ : ∃ t, t = tB key info (x + 1) := ⟨_, rfl⟩
    rw [← htk] at hRow LT HSN ⊢
    generalize lastT key info pre = lt at h9 HL9
    clear htk hrec
    gi_wp2_with (first
      | (with_reducible refine roundL_load_row (o := ⟨some 18, _, _, _, _, _⟩) rfl 33 (.tmp 10) rfl Bx (by with_unfolding_all rfl) 33 (keyC tk) (0, 0) (.array 32 5) (by with_unfolding_all exact hRow) Tryd.underlying33 rfl (Tryd.sizeKey tk LT.out) ?_)
      | ((with_reducible refine roundL_store_row (o := ⟨none, _, _, _, _, _⟩) rfl 33 (.tmp 9) (.tmp 18) rfl g9 33 _ (keyC tk) (by with_unfolding_all rfl) (by with_unfolding_all rfl) h9 (keyC_same HL9.out LT.out) (Tryd.sizeKey _ LT.out) (keyC_one _) ?_); intro wy py))
    have hbw : Below w.heap.size W wy := py.below (Below.refl _ _) (Nat.le_trans B5.out.size hsz) hg9
    have hcell : ∀ (j : Nat) (o : Obj), some g9 = some j → W.heap[j]? = some o → o.isCells = true := fun j o ej hj => by
      injection ej with ej
      subst ej
      rw [show W.heap[g9]? = _ from h9] at hj
      cases hj
      rfl
    have hbk : BodyKeeps w (fun k => k = g9) W wy := ⟨hbw, fun k o hk _ hne => (py.grown.block k (Array.getElem?_eq_some_iff.1 hk).1 (fun e => by injection e with e; exact hne e)).trans hk⟩
    refine ⟨(KeepsOthers.of_grownBy py.grown hcell).from _, hbk, ⟨h8.grown py.grown (by intro e; injection e with e; exact h89 e), by rw [HSN.out]; exact py.row⟩, Nat.le_trans hsz hbw.size, hEnv.body hX4 hbk⟩
  case done =>
    rintro D xs W hD rfl ⟨⟨h8, h9⟩, hsz, hEnv⟩ hK
    have HL9 : Hid ((lastT key info (List.range 1)).length = 32) := lastT_length _ _ _
    have HRG : Hid (lastT key info (List.range 1) = lastT key info [0]) := rfl
    have HEV := Lib.hid hEnv
    have hD8 : D ≠ g8 := by have := S8.out.lt; omega
    rw [HRG.out] at h9 HL9
    obtain ⟨lt, hlt⟩ : ∃ t, t = lastT key info [0] := ⟨_, rfl⟩
    rw [← hlt] at h9 HL9
    have HLT := Lib.hid hlt
    clear hlt
    clear hEnv
    go_wp2_with (first
      | (with_reducible refine wpList_load_row (o := ⟨some 19, _, _, _, _, _⟩) rfl 33 (.tmp 9) rfl g9 (by with_unfolding_all rfl) 33 (keyC lt) (0, 0) (.array 32 5) (by with_unfolding_all exact h9) Tryd.underlying33 rfl (Tryd.sizeKey lt HL9.out) ?_)
      | ((with_reducible refine wpList_store_row (o := ⟨none, _, _, _, _, _⟩) rfl 33 (.tmp 8) (.tmp 19) rfl g8 33 _ (keyC lt) (by with_unfolding_all rfl) (by with_unfolding_all rfl) h8 (keyC_same zeroKey_length HL9.out) (Tryd.sizeKey lt HL9.out) (keyC_one _) ?_); intro wy py))
    have hDW : D < W.heap.size := (Array.getElem?_eq_some_iff.1 hK).1
    have hK2 : wy.heap[D]? = some (.deferred (some [])) := (py.grown.block D hDW (fun e => by injection e with e; exact hD8 e)).trans hK
    refine ⟨by simp, .inl ⟨_, _, rfl, run_takeDeferred hK2, ?_⟩⟩
    obtain ⟨n', hn', hrun⟩ := HEV.out.run
    have r8 : RowAt (wy.putObj D (.deferred none)) g8 33 (keyC lt) := (World.putObj_heap_other (by omega)).trans py.row
    have hbw : Below w.heap.size W wy := py.below (Below.refl _ _) (Nat.le_trans B5.out.size hsz) hg8
    have hbd : Below w.heap.size wy (wy.putObj D (.deferred none)) := belowK_b (w := w) (Nat.le_refl _) wy D _ _ (by have := B5.out.size; omega) hK2 rfl rfl
    exact ⟨_, results_cell_row rfl _ _ g8 33 (keyC lt) (0, 0) (.array 32 5) rfl r8 Tryd.underlying33 rfl (Tryd.sizeKey lt HL9.out), n', hn', by rw [HLT.out], (hrun.beneath hbw).beneath hbd⟩
  case stop =>
    rintro D c pre W _ _ h _
    exact h.elim
end Go.Proofs.YtdojaighchgghaaDoor
