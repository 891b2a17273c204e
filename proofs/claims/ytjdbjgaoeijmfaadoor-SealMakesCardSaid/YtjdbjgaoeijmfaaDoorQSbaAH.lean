/-
  Texts that belong together, merged: MacB, Iter. Conditions: as each theorem names them.
-/
import Derived.Test.YtjdbjgaoeijmfaaDoorQSbaAG
import Derived.Test.YtjdbjgaoeijmfaaDoorQSbaAF
import Derived.RangeFuncNested
section
namespace Go.Proofs.YtjdbjgaoeijmfaaDoor
open Go.RowKit
set_option linter.unusedVariables false
set_option maxRecDepth 20000

theorem Bss.run {w0 w x : World} {g n b off c k : Nat} {ls : List (List UInt8)} (h : Run w0 w g n x) (hv : Bss w (.slice (some ⟨b, off, none⟩) k c) ls) (hb : b ≠ g) : Bss x (.slice (some ⟨b, off, none⟩) k c) ls := by
  obtain ⟨A, c', he, h1, h2, h3⟩ := hv
  refine ⟨A, c', he, h1, h2, fun hl => ?_⟩
  obtain ⟨b', off', hA, hc⟩ := h3 hl
  injection he with e1 e2 e3
  rw [hA] at e1
  injection e1 with e1
  injection e1 with e1 e4 e5
  subst e1 e4
  refine ⟨b, off, hA, fun j hj => ?_⟩
  obtain ⟨u, hu, hbu⟩ := hc j hj
  exact ⟨u, (World.cell?_of_block (a := ⟨b, off + j, none⟩) (h.grown.block b (World.block_lt_of_cell? w _ hu) (by intro e; injection e with e; exact hb e))).trans hu, h.bs hbu⟩
/-- The values that a list of lists holds. -/
theorem Bss.vals {w : World} {b off c k : Nat} {ls : List (List UInt8)} (hv : Bss w (.slice (some ⟨b, off, none⟩) k c) ls) (h0 : 0 < ls.length) :
    ∃ vs : List Value, vs.length = ls.length ∧ (∀ j (h : j < vs.length), w.cell? ⟨b, off + j, none⟩ = some vs[j]) ∧ ∀ j (h1 : j < vs.length) (h2 : j < ls.length), Bs w vs[j] ls[j] := by
  obtain ⟨A, c', he, h1, h2, h3⟩ := hv
  obtain ⟨b', off', hA, hc⟩ := h3 h0
  injection he with e1 e2 e3
  rw [hA] at e1
  injection e1 with e1
  injection e1 with e1 e4 e5
  subst e1 e4
  refine ⟨List.ofFn fun j : Fin ls.length => (hc j.val j.isLt).choose, by simp, fun j h => ?_, fun j a b => ?_⟩
  · simp only [List.getElem_ofFn]
    exact (hc j (by simpa using h)).choose_spec.1
  · simp only [List.getElem_ofFn]
    exact (hc j (by simpa using a)).choose_spec.2
theorem Bss.own {w : World} {base : Nat} {e : TypeId} {v : Value} {xs : List Value} {ls : List (List UInt8)} (h : w.ownsRow base e 1 v ls.length xs) (hl : xs.length = ls.length) (hb : ∀ j (h1 : j < xs.length) (h2 : j < ls.length), Bs w xs[j] ls[j]) : Bss w v ls := by
  have hc := fun g hg => World.ownsRow.cells h (g := g) hg
  rcases h.2 with ⟨rfl, h0⟩ | ⟨g, cap, cur, rfl, _, _, h1, h2, _⟩
  · exact ⟨none, 0, by rw [h0], by omega, by simp [maxLen], fun h => by omega⟩
  · refine ⟨_, cap, rfl, h1, h2, fun _ => ⟨g, 0, rfl, fun j hj => ⟨xs[j]'(by omega), ?_, hb j (by omega) hj⟩⟩⟩
    have := hc g rfl j (xs[j]'(by omega)) (by simp [hl, hj])
    have hadd : (⟨g, 0, none⟩ : Addr).add j = ⟨g, 0 + j, none⟩ := by unfold Addr.add; split <;> simp_all
    rwa [hadd] at this
theorem Bs.isSlice {w : World} {v : Value} {l : List UInt8} (h : Bs w v l) : v.oneCell' = true := by
  obtain ⟨A, c, rfl, _⟩ := h
  rfl

set_option maxHeartbeats 4000000 in
theorem macSum_any (w0 w : World) (g n : Nat) (vk : Value) (key : List UInt8) (b off c : Nat) (ls : List (List UInt8)) (h : Run w0 w g n w) (hn : n ≤ 100000000) (hk : Bs w vk key) (hk2 : key.length ≤ 100000)
    (hv : Bss w (.slice (some ⟨b, off, none⟩) ls.length c) ls) (hbg : b ≠ g) (h0 : 0 < ls.length) (hl : ls.flatten.length ≤ 100000) (hm : ls.length ≤ 1000) :
    Calls Tryd.prog 28 #[.pointer (some ⟨g, 0, none⟩), vk, .slice (some ⟨b, off, none⟩) ls.length c] w fun e w' => ∃ n', n' ≤ n + 3 ∧ e = .returned (.agg (keyC (macB key ls.flatten))) ∧ Run w0 w g n' w' := by
  obtain ⟨i0, hi, hz0, hz1, hz2⟩ := info_parts Tryd.infoS
  have HR := Lib.hid h
  have HV := Lib.hid hv
  have HKC := Lib.hid hk
  have hgl := h.glt
  obtain ⟨blk, hblk⟩ : ∃ blk, blk = blockK key := ⟨_, rfl⟩
  have LB : Hid (blk.length = 64) := by show _ = _; rw [hblk, blockK_length]
  have HKB : Hid (∀ x m, Run w0 x g m x → m ≤ 1000000000 → Bs x vk key → Calls Tryd.prog 41 #[.pointer (some ⟨g, 0, none⟩), vk] x fun e w' => ∃ n', n' ≤ m + 1 ∧ e = .returned (.agg (keyC blk)) ∧ Run w0 x g n' w') := fun x m hr hm hb => by rw [hblk]; exact keyBlock_any w0 x g m vk key hr hm hb hk2
  obtain ⟨m1, hm1⟩ : ∃ m1, m1 = mixB blk 54 := ⟨_, rfl⟩
  obtain ⟨m2, hm2⟩ : ∃ m2, m2 = mixB blk 92 := ⟨_, rfl⟩
  have L1 : m1.length = 64 := by rw [hm1, mixB_length, LB.out]
  have L2 : m2.length = 64 := by rw [hm2, mixB_length, LB.out]
  have HM1 : Hid (∀ x, Calls Tryd.prog 43 #[.agg (keyC blk), .int .u8 54] x (RetBs x m1)) := fun x => by rw [hm1]; exact mixed_any x blk 54 LB.out
  have HM2 : Hid (∀ x, Calls Tryd.prog 43 #[.agg (keyC blk), .int .u8 92] x (RetBs x m2)) := fun x => by rw [hm2]; exact mixed_any x blk 92 LB.out
  obtain ⟨d1, hd1⟩ : ∃ d, d = digestB ([m1] ++ ls).flatten := ⟨_, rfl⟩
  have LD1 : Hid (d1.length = 32) := by show _ = _; rw [hd1, digestB_length]
  obtain ⟨d2, hd2⟩ : ∃ d, d = digestB [m2, d1].flatten := ⟨_, rfl⟩
  have LD2 : Hid (d2.length = 32) := by show _ = _; rw [hd2, digestB_length]
  have hfin : macB key ls.flatten = d2 := by
    rw [hd2, hd1, hm1, hm2, hblk, macB]
    simp
  rw [hfin]
  have HD1 := Lib.hid hd1
  have HD2 := Lib.hid hd2
  have HL1 := Lib.hid L1
  have HL2 := Lib.hid L2
  have HI := Lib.hid hi
  have HZ0 := Lib.hid hz0
  have HZ1 := Lib.hid hz1
  have HZ2 := Lib.hid hz2
  obtain ⟨KA, KC, rfl, hk3, hk4, hk5⟩ := hk
  have hbl : b < w.heap.size := by
    obtain ⟨A, c', he, _, _, h3⟩ := hv
    obtain ⟨b', off', hA, hc⟩ := h3 h0
    injection he with e1 e2 e3
    rw [hA] at e1
    injection e1 with e1
    injection e1 with e1 e4 e5
    subst e1
    obtain ⟨u, hu, _⟩ := hc 0 h0
    exact World.block_lt_of_cell? w _ hu
  unfold maxLen at hk4
  clear h hv hk5 hblk hm1 hm2 L1 L2 hd1 hd2 hfin hi hz0 hz1 hz2
  go_enter Tryd.func28, Tryd.ntmps28
  go_wp2_with ((with_reducible refine wpList_alloc_row (o := ⟨some 6, _, _, _, _, _⟩) rfl 23 rfl (keyC zeroKey) Tryd.zeroK ?_); intro g1 w1 n1)
  have R1 := Lib.hid (HR.out.kept n1.below)
  have Q1 := Lib.hid n1.row
  have hg1 : w.heap.size ≤ g1 := Nat.le_of_eq n1.spot.symm
  have s1 := n1.below.size
  have V1 := Lib.hid (HV.out.keep n1.below)
  have K1 := HKC.out.below n1.below
  clear n1 HR HV HKC
  refine (HKB.out _ n R1.out.self (by omega) K1).mono ?_
  intro e w2 h
  obtain ⟨na, hna, he, r2⟩ := h
  subst he
  have R2 := Lib.hid (R1.out.trans r2)
  have Q2 := Lib.hid (r2.other Q1.out (by omega))
  have V2 := Lib.hid (Bss.run r2 V1.out hbg)
  have s2 := r2.size
  clear r2 R1 Q1 V1 K1 HKB
  go_wp2_with (first
    | ((with_reducible refine wpList_alloc_row (o := ⟨some 7, _, _, _, _, _⟩) rfl 75 rfl (keyC zb64) Tryd.zeroB64 ?_); intro g3 w3 n3)
    | ((with_reducible refine wpList_store_row (o := ⟨none, _, _, _, _, _⟩) rfl 75 (.tmp 7) (.tmp 11) rfl g3 75 _ (keyC blk) (by with_unfolding_all rfl) (by with_unfolding_all rfl) n3.row (by rw [keyC_size, keyC_size, zb64_length, LB.out]) (Tryd.size64b blk LB.out) (keyC_one blk) ?_); intro w4 p4)
    | (with_reducible refine wpList_load_row (o := ⟨some 13, _, _, _, _, _⟩) rfl 75 (.tmp 7) rfl g3 (by with_unfolding_all rfl) 75 (keyC blk) (0, 0) (.array 64 5) (by with_unfolding_all exact p4.row) Tryd.underlying75 rfl (Tryd.size64b blk LB.out) ?_))
  have b4 := (laid_put n3 p4).1
  have R4 := Lib.hid (R2.out.kept b4)
  have Q4 := Lib.hid (Q2.out.kept b4)
  have V4 := Lib.hid (V2.out.keep b4)
  have S4 := Lib.hid p4.row
  have h3g : g3 ≠ g := by have := n3.spot; have := R2.out.glt; have := s2; omega
  have h31 : g3 ≠ g1 := by have := n3.spot; have := Q2.out.lt; omega
  have s4 := b4.size
  have hg3 : w.heap.size ≤ g3 := by have := n3.spot; omega
  clear n3 p4 b4 R2 Q2 V2
  refine (HM1.out _).mono ?_
  intro e w5 h
  obtain ⟨u, he, hu, b5⟩ := h
  subst he
  have R5 := Lib.hid (R4.out.kept b5)
  have Q5 := Lib.hid (Q4.out.kept b5)
  have S5 := Lib.hid (S4.out.kept b5)
  have HU := Lib.hid hu
  obtain ⟨vs, hvl, hvc, hvb⟩ := (V4.out.keep b5).vals h0
  have HVC := Lib.hid hvc
  have HVB := Lib.hid hvb
  have HVL := Lib.hid hvl
  have s5 := b5.size
  obtain ⟨UA, uc, rfl, _, _, _⟩ := hu
  have HNW : Hid (∀ (j : Nat) x, vs[j]? = some x → (w5.alloc (.cells #[.slice UA m1.length uc] 24)).cell? ((⟨b, off, none⟩ : Addr).add j) = some x) := by
    intro j x hj
    have hj2 := (List.getElem?_eq_some_iff.1 hj).1
    have hadd : (⟨b, off, none⟩ : Addr).add j = ⟨b, off + j, none⟩ := by unfold Addr.add; split <;> simp_all
    rw [hadd, World.cell?_alloc_lt w5 _ _ (show b < w5.heap.size by omega), HVC.out j hj2, ← hj]
    simp [hj2]
  have HON : Hid (∀ x ∈ vs, x.oneCell' = true) := by
    intro x hx
    obtain ⟨j, hj, rfl⟩ := List.getElem_of_mem hx
    exact (HVB.out j hj (by rw [← HVL.out]; exact hj)).isSlice
  have OL : Hid ((w5.alloc (.cells #[.slice UA m1.length uc] 24)).ownsRow w5.heap.size 24 1 (.slice (some ⟨w5.heap.size, 0, none⟩) 1 1) 1 [.slice UA m1.length uc]) := World.ownsRow_lit w5 #[.slice UA m1.length uc] 1 (Nat.le_refl _) (by unfold maxLen; omega) rfl
  clear hvl hvc hvb b5 R4 Q4 S4 V4
  go_wp2_with (at_builtin; refine wpList_append_own _ rfl (.tmp 15) (.tmp 16) 29 rfl w5.heap.size 24 i0 (.slice none 0 0) 1 24 Tryd.underlying29 HI.out HZ0.out HZ1.out HZ2.out rfl (by decide) _ 1 [.slice UA m1.length uc] rfl OL.out ⟨b, off, none⟩ ls.length c vs rfl (by rw [HVL.out]; omega) HNW.out HON.out (by unfold maxLen; omega) (by omega) (by simp) ?_; intro v6 w6 own6 hg6 hnil6; clear hnil6)
  have hrow6 : ∀ k, Value.ownBlock (.slice (some ⟨w5.heap.size, 0, none⟩) 1 1) = some k → w5.heap.size ≤ k := fun k e => by
    have e2 : w5.heap.size = k := by simpa [Value.ownBlock] using e
    omega
  have b6 : Below w5.heap.size w5 w6 := (alloc_below w5 _).grown hg6 (alloc_below w5 _).size hrow6
  have R6 := Lib.hid (R5.out.kept b6)
  have Q6 := Lib.hid (Q5.out.kept b6)
  have S6 := Lib.hid (S5.out.kept b6)
  have hfl : ([m1] ++ ls).flatten.length = 64 + ls.flatten.length := by rw [List.flatten_append, List.length_append, show [m1].flatten = m1 by simp, HL1.out]
  have hone : ([m1] ++ ls).length = 1 + ls.length := by simp; omega
  have V6 : Hid (Bss w6 v6 ([m1] ++ ls)) := by
    refine Bss.own (xs := [.slice UA m1.length uc] ++ vs) (by rw [hone]; exact own6) (by simp [HVL.out]) fun j h1 h2 => ?_
    rcases j with _ | j
    · exact HU.out.below b6
    · exact (HVB.out j (by simpa using h1) (by simpa using h2)).below b6
  have s6 := b6.size
  clear own6 hg6 b6 HNW HON OL HVC HVB HVL HU R5 Q5 S5
  refine (Sum_run w0 w6 g na v6 ([m1] ++ ls) d1 R6.out.self (by omega) HD1.out V6.out (by rw [hfl]; omega) (by rw [hone]; omega)).mono ?_
  intro e w7 h
  obtain ⟨he, r7⟩ := h
  subst he
  have R7 := Lib.hid (R6.out.trans r7)
  have Q7 := Lib.hid (r7.other Q6.out (by omega))
  have S7 := Lib.hid (r7.other S6.out h3g)
  have s7 := r7.size
  clear r7 R6 Q6 S6 V6 hone hfl hrow6
  go_wp2_with (first
    | ((with_reducible refine wpList_alloc_row (o := ⟨some 8, _, _, _, _, _⟩) rfl 23 rfl (keyC zeroKey) Tryd.zeroK ?_); intro g8 w8 n8)
    | ((with_reducible refine wpList_store_row (o := ⟨none, _, _, _, _, _⟩) rfl 23 (.tmp 8) (.tmp 18) rfl g8 23 _ (keyC d1) (by with_unfolding_all rfl) (by with_unfolding_all rfl) n8.row (keyC_same zeroKey_length LD1.out) (Tryd.sizeKey d1 LD1.out) (keyC_one d1) ?_); intro w9 p9))
  have b9 := (laid_put n8 p9).1
  have R9 := Lib.hid (R7.out.kept b9)
  have Q9 := Lib.hid (Q7.out.kept b9)
  have S9 := Lib.hid (S7.out.kept b9)
  have T9 := Lib.hid p9.row
  have s9 := b9.size
  have hgg : g < w9.heap.size := by omega
  clear n8 p9 b9 R7 Q7 S7
  refine plain_region (S := fun W' => RowAt W' g3 75 (keyC blk)) (fin := fun j => j == 6) (by kernel_rfl) ?_
  have hS : RowAt w9.drew g3 75 (keyC blk) := S9.out
  have HW := Lib.hid ((Below.refl w9.heap.size w9).drew)
  clear S9
  change walkS _ _ _ _ _ _ 7 _ _ _
  refine walkS_take (i := 0) (oi := ⟨some 19, _, _, _, _, _⟩) (v := .pointer (some ⟨g, 0, none⟩)) rfl (by kernel_rfl) (by kernel_rfl) (fun _ _ _ h => h) _ _ _ _ (by kernel_rfl) (by kernel_rfl) (Or.inl ⟨by rfl, fun w' hS' => (by clear hS hS'; go_simp)⟩) hS ?_
  simp only [Act.put, List.setIfInBounds_toArray, List.set_cons_zero, List.set_cons_succ]
  refine walkS_take (i := 1) (oi := ⟨some 20, _, _, _, _, _⟩) (v := .agg (keyC blk)) rfl (by kernel_rfl) (by kernel_rfl) (fun _ _ _ h => h) _ _ _ _ (by kernel_rfl) (by kernel_rfl) (Or.inl ⟨by rfl, fun w' hS' => run_load_row _ (.tmp 7) rfl g3 rfl _ (keyC blk) (0, 0) (.array 64 5) hS' Tryd.underlying75 rfl (Tryd.size64b blk LB.out)⟩) hS ?_
  simp only [Act.put, List.setIfInBounds_toArray, List.set_cons_zero, List.set_cons_succ]
  refine walkS_take (i := 3) (oi := ⟨some 22, _, _, _, _, _⟩) (v := .slice (some ⟨g8, 0, none⟩) 32 32) rfl (by kernel_rfl) (by kernel_rfl) (fun _ _ _ h => h) _ _ _ _ (by kernel_rfl) (by kernel_rfl) (Or.inl ⟨by rfl, fun w' hS' => (by clear hS hS'; go_simp)⟩) hS ?_
  simp only [Act.put, List.setIfInBounds_toArray, List.set_cons_zero, List.set_cons_succ]
  refine walkS_only (i := 2) (o := ⟨some 21, _, _, _, _, _⟩) (by kernel_rfl) rfl rfl fun K hK => ?_
  have HS := Lib.hid hS
  clear hS
  go_simp
  refine (HM2.out _).mono ?_
  intro e w10 h
  obtain ⟨u2, he, hu2, b10⟩ := h
  subst he
  have hS : RowAt w10 g3 75 (keyC blk) := HS.out.kept b10
  have HW1 := Lib.hid (below_size HW.out b10)
  have HU2 := Lib.hid hu2
  obtain ⟨UA2, uc2, hu3, _, _, _⟩ := hu2
  subst hu3
  refine hK _ _ (.inr hS) ?_
  clear hK K b10 HS HW
  refine walkS_only (i := 4) (o := ⟨some 23, _, _, _, _, _⟩) (by kernel_rfl) rfl rfl fun K hK => ?_
  have HS := Lib.hid hS
  clear hS
  go_simp
  have hS := HS.out.kept (alloc_below w10 (.cells #[.slice UA2 m2.length uc2, .slice (some ⟨g8, 0, none⟩) 32 32] 24))
  have HW2 := Lib.hid (below_size HW1.out (alloc_below w10 (.cells #[.slice UA2 m2.length uc2, .slice (some ⟨g8, 0, none⟩) 32 32] 24)))
  have V2 : Hid (Bss (w10.alloc (.cells #[.slice UA2 m2.length uc2, .slice (some ⟨g8, 0, none⟩) 32 32] 24)) (.slice (some ⟨w10.heap.size, 0, none⟩) 2 2) [m2, d1]) := Bss.two _ _ _ _ _ _ HU2.out (row32 (T9.out.kept HW1.out) LD1.out)
  refine hK _ _ (.inr hS) ?_
  clear hK K HS HU2 HW1
  generalize w10.alloc (.cells #[.slice UA2 m2.length uc2, .slice (some ⟨g8, 0, none⟩) 32 32] 24) = w11 at *
  refine walkS_only (i := 5) (o := ⟨some 24, _, _, _, _, _⟩) (by kernel_rfl) rfl rfl fun K hK => ?_
  have HS := Lib.hid hS
  clear hS
  go_simp
  have R11 := Lib.hid (R9.out.kept HW2.out)
  have Q11 := Lib.hid (Q9.out.kept HW2.out)
  refine (Sum_run w0 w11 g (na + 1) _ [m2, d1] d2 R11.out.self (by omega) HD2.out V2.out (by simp [HL2.out, LD1.out]) (by simp)).mono ?_
  intro e w12 h
  obtain ⟨he, r12⟩ := h
  subst he
  have R12 := Lib.hid (R11.out.trans r12)
  have Q12 := Lib.hid (r12.other Q11.out (by omega))
  have hS := r12.other HS.out h3g
  refine hK _ _ (.inr hS) ?_
  clear hK K HS R11 Q11 V2 r12 hS
  refine walkS_only (i := 6) (o := ⟨none, _, _, _, _, _⟩) (by kernel_rfl) rfl rfl fun K hK => ?_
  refine wp_store_row 23 (.tmp 6) (.tmp 24) rfl g1 23 _ (keyC d2) rfl rfl Q12.out (keyC_same zeroKey_length LD2.out) (Tryd.sizeKey d2 LD2.out) (keyC_one d2) ?_
  intro w13 p13
  refine hK _ _ (.inl rfl) ?_
  clear hK K
  refine walkS_done (by kernel_rfl) ?_ _
  go_wp2_with fail
  refine bodyPost_ret (results_cell_row rfl _ _ g1 23 (keyC d2) (0, 0) (.array 32 5) rfl p13.row Tryd.underlying23 rfl (Tryd.sizeKey d2 LD2.out)) rfl ⟨na + 1 + 1, by omega, rfl, ?_⟩
  exact R12.out.put p13 hg1 (by omega)
end Go.Proofs.YtjdbjgaoeijmfaaDoor
end
section
namespace Go.Proofs.YtjdbjgaoeijmfaaDoor
open Go.RowKit
set_option linter.unusedVariables false

/-- The iterator's contract: J stands behind each round; it may say nothing that R turns. -/
def SeqR {α : Type} (F : Fence) (n : Nat) (P : Program) (g : Nat) (lb : Array Value) (encs : α → Array Value) (R Kp : World → World → Prop) (S Sp : List α → Prop) (N : Nat) (w : World) : Prop :=
  ∀ (l : Nat) (J Jx : List α → World → Prop) (W : World), Below w.heap.size w W → AbidesFrom W.heap.size J → AbidesFrom W.heap.size Jx →
    (∀ s A B, J s A → R A B → J s B) → (∀ s A B, Jx s A → R A B → Jx s B) →
    (∀ pre x W1, J pre W1 → pre.length < N → YieldAt F (n - 1) P l (encs x) W1 fun e W' =>
      (e = .returned (.bool true) ∧ J (pre ++ [x]) W' ∧ Kp W1 W') ∨ (e = .returned (.bool false) ∧ Jx (pre ++ [x]) W')) →
    J [] W →
    CallsIn F n P g (#[.func (.yield l) #[] #[]] ++ lb) W fun e W' => (∃ v, e = .returned v) ∧ ((∃ xs, S xs ∧ J xs W') ∨ (∃ pre, Sp pre ∧ Jx pre W'))

variable {F : Fence} {n : Nat} {P : Program}

theorem wpIn_rangeFunc_R {α : Type} {g : Operand} {ps : Array Tmp} {assign body : Code} {Q : Exit → Act → World → Prop} {a : Act} {w : World}
    (hro : F.round = none) (h1 : 1 ≤ n) {gf : Nat} {lb : Array Value} (hg : a.eval g = .func (.func gf) #[] lb) (hFg : F.fn gf) (eg : ∀ args w, (callFunc gf args).run P w = .ok (.enter gf args) w)
    {encs : α → Array Value} {R Kp : World → World → Prop} {S Sp : List α → Prop} {N : Nat} {w0 : World} (hseq : SeqR F (n - 1) P gf lb encs R Kp S Sp N w0)
    (hRk : ∀ A B, R A B → ∀ k o, w.heap.size ≤ k → A.heap[k]? = some o → o.isCells = false → B.heap[k]? = some o)
    (hKt : ∀ {A B C : World}, Kp A B → Kp B C → Kp A C) (hKb : ∀ (W : World) (l : Nat) (o o' : Obj), w.heap.size ≤ l → W.heap[l]? = some o → o.isCells = false → o.isWalk = false → Kp W (W.putObj l o')) (hb0 : Below w0.heap.size w0 w) (hps : ∀ x, (encs x).size = ps.size)
    (I : List α → World → Prop) (Ix : Code → List α → World → Prop) (hI : OwnFrom w.heap.size I) (hIx : ∀ c, OwnFrom w.heap.size (Ix c)) (hIR : ∀ s A B, I s A → R A B → I s B) (hIxR : ∀ c s A B, Ix c s A → R A B → Ix c s B) (h0 : I [] w)
    (Ax : α → Act → World → Prop) (hAx : ∀ x a', OwnFrom w.heap.size (fun (_ : Unit) W => Ax x a' W))
    (hassign : ∀ (l : Nat) (pre : List α) (x : α) (W : World) (K : Act → World → Prop), I pre W → (∀ a' W', KeepsFrom w.heap.size W W' → Kp W W' → I pre W' → Ax x a' W' → K a' W') →
      assign.wpIn (F.inRound l) (n - 1 - 1) P (Exit.then K (fun _ _ _ => False)) { tmps := (ps.zip (encs x)).foldl (fun t (p, v) => t.setIfInBounds p v) a.tmps, defers := [] } W)
    (hbody : ∀ (l : Nat) (pre : List α) (x : α) (a' : Act) (W : World), w.heap.size ≤ l → (∃ r, W.heap[l]? = some (.loop r)) → I pre W → Ax x a' W → pre.length < N → body.wpIn (F.inRound l) (n - 1 - 1) P (ownPostG w.heap.size Kp I Ix (pre ++ [x]) W) a' W)
    (hdone : ∀ (D : Nat) (xs : List α) (W : World), w.heap.size ≤ D → S xs → I xs W → W.heap[D]? = some (.deferred (some [])) → Q .normal { a with defers := { target := .collected D, args := #[] } :: a.defers } W)
    (hstop : ∀ (D : Nat) (c : Code) (pre : List α) (W : World), w.heap.size ≤ D → Sp pre → Ix c pre W → W.heap[D]? = some (.deferred (some [])) → c.wpIn F n P Q { a with defers := { target := .collected D, args := #[] } :: a.defers } W) :
    (Code.rangeFunc g ps assign body).wpIn F n P Q a w := by
  refine wpIn_rangeFunc fun fn hfn => ?_
  rw [hro]
  obtain ⟨B, hB⟩ : ∃ B, B = w.heap.size := ⟨_, rfl⟩
  obtain ⟨rec, hrec⟩ : ∃ rec : LoopState → Option Code → Loop, rec = fun st pe => { state := st, pending := pe, fn, tmps := a.tmps, params := ps, assign, body, defers := B } := ⟨_, rfl⟩
  obtain ⟨W1, hW1⟩ : ∃ W1, W1 = (w.alloc (.deferred (some []))).alloc (.loop (rec .ready none)) := ⟨_, rfl⟩
  have hD0 : W1.heap[B]? = some (.deferred (some [])) := by
    rw [hW1, hB]; exact (Below.heap_alloc _ _ _ (by simp)).trans (World.alloc_heap_new w _)
  have hL0 : W1.heap[B + 1]? = some (.loop (rec .ready none)) := by
    have := World.alloc_heap_new (w.alloc (.deferred (some []))) (.loop (rec .ready none)); rwa [World.size_alloc, ← hB, ← hW1] at this
  have hb1 : Below w.heap.size w W1 := by rw [hW1]; exact ((Below.refl _ w).alloc (Nat.le_refl _) _).alloc (by simp) _
  have hI0 : I [] W1 := by rw [hW1]; exact hI.alloc _ (hI.alloc _ h0)
  refine ⟨B + 1, [{ target := .collected B, args := #[] }], W1, { target := .fn (.func gf) lb, args := #[.func (.yield (B + 1)) #[] #[]] }, W1, gf, #[.func (.yield (B + 1)) #[] #[]] ++ lb, W1,
    by rw [hW1, hrec, hB]; exact run_enterLoop_outer _ _ _ _ _, by simp only [resolve, hg]; simp [go_sem], by intro f' hf'; simp [Target.leads] at hf'; subst hf'; exact hFg, by simp [invoke, go_sem, eg], fun _ => h1, ?_⟩
  have hWB : B + 2 ≤ W1.heap.size := by rw [hW1]; simp only [World.size_alloc]; omega
  clear hW1
  have hBle : w0.heap.size ≤ B := by rw [hB]; exact hb0.size
  have hsz : w.heap.size = B := hB.symm
  rw [hsz] at hI hRk hb1
  simp only [hsz] at hIx hKb hassign hbody hdone hstop hAx
  -- what the loop keeps of its own: its record in a state, and what it has deferred
  obtain ⟨At, hAt⟩ : ∃ At : LoopState → Option Code → World → Prop, At = fun st pe W => W.heap[B + 1]? = some (.loop (rec st pe)) ∧ W.heap[B]? = some (.deferred (some [])) := ⟨_, rfl⟩
  have keep : ∀ {st pe X Y} {row : Option Nat}, At st pe X → X.grownBy Y row → (∀ r, row = some r → W1.heap.size ≤ r ∧ ∃ o : Obj, X.heap[r]? = some o ∧ o.isWalk = true) → At st pe Y := by
    intro st pe X Y row hs hgr hr
    rw [hAt] at hs ⊢
    have far : ∀ k, k ≤ B + 1 → k < X.heap.size → Y.heap[k]? = X.heap[k]? := fun k hk hx => hgr.block k hx fun e => by have := (hr k e.symm).1; omega
    exact ⟨(far _ (Nat.le_refl _) (Array.getElem?_eq_some_iff.1 hs.1).1).trans hs.1, (far _ (Nat.le_succ _) (Array.getElem?_eq_some_iff.1 hs.2).1).trans hs.2⟩
  have keepR : ∀ {st pe X Y}, At st pe X → R X Y → At st pe Y := by
    intro st pe X Y hs hr
    rw [hAt] at hs ⊢
    exact ⟨hRk X Y hr _ _ (Nat.le_succ _) hs.1 rfl, hRk X Y hr _ _ (Nat.le_refl _) hs.2 rfl⟩
  have put : ∀ {st pe X} (st' : LoopState) (pe' : Option Code), At st pe X → At st' pe' (X.putObj (B + 1) (.loop (rec st' pe'))) := by
    intro st pe X st' pe' hs
    rw [hAt] at hs ⊢
    exact ⟨World.putObj_heap_same (Array.getElem?_eq_some_iff.1 hs.1).1, (World.putObj_heap_other (by omega)).trans hs.2⟩
  have keepF : ∀ {st pe X Y}, At st pe X → KeepsFrom B X Y → At st pe Y := by
    intro st pe X Y hs hk
    rw [hAt] at hs ⊢
    exact ⟨hk.same _ _ (Nat.le_succ _) hs.1 rfl, hk.same _ _ (Nat.le_refl _) hs.2 rfl⟩
  have loopOf : ∀ {st pe X}, At st pe X → X.heap[B + 1]? = some (.loop (rec st pe)) := fun hs => by rw [hAt] at hs; exact hs.1
  have defOf : ∀ {st pe X}, At st pe X → X.heap[B]? = some (.deferred (some [])) := fun hs => by rw [hAt] at hs; exact hs.2
  have at0 : At .ready none W1 := by rw [hAt]; exact ⟨hL0, hD0⟩
  have cells : ∀ {X Y : World} {row : Option Nat}, (∀ r, row = some r → W1.heap.size ≤ r ∧ ∃ o : Obj, X.heap[r]? = some o ∧ o.isWalk = true) → (∀ r, row = some r → B ≤ r ∧ ∃ o : Obj, X.heap[r]? = some o ∧ o.isCells = false) :=
    fun hr r e => by obtain ⟨hb, o, ho, hw⟩ := hr r e; exact ⟨by omega, o, ho, Obj.not_cells_of_walk hw⟩
  have hb01 : Below w0.heap.size w0 W1 := hb0.trans (hb1.mono hBle)
  clear hAt hL0 hD0
  refine (hseq (B + 1) (fun pre W => I pre W ∧ At .ready none W) (fun pre W => ∃ c, Ix c pre W ∧ At .done (some c) W) W1 hb01
    (fun s X Y row hs hgr hr => ⟨hI s X Y row hs.1 hgr (cells (Y := Y) hr), keep hs.2 hgr hr⟩)
    (fun s X Y row ⟨c, hs⟩ hgr hr => ⟨c, hIx c s X Y row hs.1 hgr (cells (Y := Y) hr), keep hs.2 hgr hr⟩)
    (fun s X Y hs hr => ⟨hIR s X Y hs.1 hr, keepR hs.2 hr⟩) (fun s X Y ⟨c, hs⟩ hr => ⟨c, hIxR c s X Y hs.1 hr, keepR hs.2 hr⟩) ?_ ⟨hI0, at0⟩).mono ?_
  · rintro pre x X ⟨hi, hat⟩ hlen
    have hy := run_yield (P := P) (args := encs x) (loopOf hat) (by rw [hrec]; exact hps x)
    rw [hrec] at hy
    refine ⟨fn, _, assign, body, hy, roundIn_of_wpIn hfn (hassign _ pre x X _ hi fun a' X2 hkf hkp hi2 hax => ?_)⟩
    have hat2 := keepF hat hkf
    refine ⟨_, run_beginRound (loopOf hat2) (by rw [hrec]), ?_⟩
    have hat3 := put .busy none hat2
    have hkb := hKb X2 (B + 1) _ (.loop (rec .busy none)) (Nat.le_succ _) (loopOf hat2) rfl rfl
    have hi3 := hI.putObj (.loop (rec .busy none)) hi2 (Nat.le_succ _) (loopOf hat2) rfl
    have hax3 := (hAx x a').putObj (s := ()) (.loop (rec .busy none)) hax (Nat.le_succ _) (loopOf hat2) rfl
    have hB3 := hbody (B + 1) pre x a' (X2.putObj (B + 1) (.loop (rec .busy none))) (Nat.le_succ _) ⟨_, loopOf hat3⟩ hi3 hax3 hlen
    have ends : ∀ (jump : Option Code) (Y : World), At .busy none Y → (Instr.endRound (B + 1) jump).run P Y = .ok (.bool jump.isNone) (Y.putObj (B + 1) (.loop (rec (if jump.isNone then .ready else .done) jump))) := fun jump Y hY => by
      have := run_endRound (P := P) jump (loopOf hY)
      rw [hrec] at this ⊢
      exact this
    rw [show ({ rec LoopState.ready none with state := LoopState.busy } : Loop) = rec .busy none by rw [hrec]]
    refine wpIn_mono hB3 ?_
    rintro e a3 Y hp
    have left : ∀ c : Code, KeepsFrom B (X2.putObj (B + 1) (.loop (rec .busy none))) Y → Ix c (pre ++ [x]) Y →
        ∃ W', (Instr.endRound (B + 1) (some c)).run P Y = .ok (.bool false) W' ∧ ∃ c', Ix c' (pre ++ [x]) W' ∧ At .done (some c') W' := fun c hk hx => by
      have hY := keepF hat3 hk
      exact ⟨_, ends (some c) Y hY, c, (hIx c).putObj _ hx (Nat.le_succ _) (loopOf hY) rfl, put .done (some c) hY⟩
    cases e with
    | normal =>
      obtain ⟨hk3, hkp3, hi4⟩ := hp
      have hY := keepF hat3 hk3
      exact ⟨_, _, ends none Y hY, .inl ⟨rfl, ⟨hI.putObj _ hi4 (Nat.le_succ _) (loopOf hY) rfl, put .ready none hY⟩, hKt hkp (hKt (hKt hkb hkp3) (hKb Y (B + 1) _ _ (Nat.le_succ _) (loopOf hY) rfl rfl))⟩⟩
    | ret =>
      obtain ⟨_, h1, h3⟩ := left .ret hp.1 hp.2
      exact ⟨_, _, h1, .inr ⟨rfl, h3⟩⟩
    | exit id =>
      obtain ⟨_, h1, h3⟩ := left (.exit id) hp.1 hp.2
      exact ⟨_, _, h1, .inr ⟨rfl, h3⟩⟩
    | goto t =>
      obtain ⟨_, h1, h3⟩ := left (.goto t) hp.1 hp.2
      exact ⟨_, _, h1, .inr ⟨rfl, h3⟩⟩
    | panic ch => exact hp.elim
    | outgrown => exact hp.elim
  · rintro e W2 ⟨⟨v, rfl⟩, (⟨xs, hS, hi, hat⟩ | ⟨pre, hSp, c, hi, hat⟩)⟩
    · exact ⟨none, _, by have := run_endLoop (P := P) (loopOf hat) (by rw [hrec]; simp); rw [hrec] at this; exact this, hdone _ xs _ (Nat.le_refl _) hS (hI.putObj _ hi (Nat.le_succ _) (loopOf hat) rfl) ((World.putObj_heap_other (by omega)).trans (defOf hat))⟩
    · exact ⟨some c, _, by have := run_endLoop (P := P) (loopOf hat) (by rw [hrec]; simp); rw [hrec] at this; exact this, hstop _ c pre _ (Nat.le_refl _) hSp ((hIx c).putObj _ hi (Nat.le_succ _) (loopOf hat) rfl) ((World.putObj_heap_other (by omega)).trans (defOf hat))⟩
end Go.Proofs.YtjdbjgaoeijmfaaDoor
end
