/-
  Texts that belong together, merged: MacB, MacD, AppD, L. Conditions: as each theorem names them.
-/
import Derived.Test.YtjlhmcnajgafgaaDoorQDrwAE
import Derived.Test.YtjlhmcnajgafgaaDoorQDrwAD
import Derived.Test.YtjlhmcnajgafgaaDoorQDrwAC
import Derived.Lib.AppendZerosOnto
import Derived.Test.YtjlhmcnajgafgaaDoorQDrwAA
section
namespace Go.Proofs.YtjlhmcnajgafgaaDoor
open Go.RowKit
set_option linter.unusedVariables false
set_option maxRecDepth 20000

theorem Bss.run {w0 w x : World} {g n b off c k : Nat} {ls : List (List UInt8)} (h : Run w0 w g n x) (hv : Bss w (.slice (some ⟨b, off, none⟩) k c) ls) (hb : b ≠ g) : Bss x (.slice (some ⟨b, off, none⟩) k c) ls := by
  obtain ⟨A, c', he, h1, h2, h3⟩ := hv
  refine ⟨A, c', he, h1, h2, fun hl => ?_⟩
  obtain ⟨b', off', hA, hc⟩ := h3 hl
  injection he with e1 e2 e3
  rw [hA] at e1
  injection e1 with e1
  injection e1 with e1 e4 e5
  subst e1 e4
  refine ⟨b, off, hA, fun j hj => ?_⟩
  obtain ⟨u, hu, hbu⟩ := hc j hj
  exact ⟨u, (World.cell?_of_block (a := ⟨b, off + j, none⟩) (h.grown.block b (World.block_lt_of_cell? w _ hu) (by intro e; injection e with e; exact hb e))).trans hu, h.bs hbu⟩
/-- The values that a list of lists holds. -/
theorem Bss.vals {w : World} {b off c k : Nat} {ls : List (List UInt8)} (hv : Bss w (.slice (some ⟨b, off, none⟩) k c) ls) (h0 : 0 < ls.length) :
    ∃ vs : List Value, vs.length = ls.length ∧ (∀ j (h : j < vs.length), w.cell? ⟨b, off + j, none⟩ = some vs[j]) ∧ ∀ j (h1 : j < vs.length) (h2 : j < ls.length), Bs w vs[j] ls[j] := by
  obtain ⟨A, c', he, h1, h2, h3⟩ := hv
  obtain ⟨b', off', hA, hc⟩ := h3 h0
  injection he with e1 e2 e3
  rw [hA] at e1
  injection e1 with e1
  injection e1 with e1 e4 e5
  subst e1 e4
  refine ⟨List.ofFn fun j : Fin ls.length => (hc j.val j.isLt).choose, by simp, fun j h => ?_, fun j a b => ?_⟩
  · simp only [List.getElem_ofFn]
    exact (hc j (by simpa using h)).choose_spec.1
  · simp only [List.getElem_ofFn]
    exact (hc j (by simpa using a)).choose_spec.2
theorem Bs.isSlice {w : World} {v : Value} {l : List UInt8} (h : Bs w v l) : v.oneCell' = true := by
  obtain ⟨A, c, rfl, _⟩ := h
  rfl

set_option maxHeartbeats 4000000 in
theorem macSum_any (w0 w : World) (g n : Nat) (vk : Value) (key : List UInt8) (b off c : Nat) (ls : List (List UInt8)) (h : Run w0 w g n w) (hn : n ≤ 100000000) (hk : Bs w vk key) (hk2 : key.length ≤ 100000)
    (hv : Bss w (.slice (some ⟨b, off, none⟩) ls.length c) ls) (hbg : b ≠ g) (h0 : 0 < ls.length) (hl : ls.flatten.length ≤ 100000) (hm : ls.length ≤ 1000) :
    Calls Tryd.prog 28 #[.pointer (some ⟨g, 0, none⟩), vk, .slice (some ⟨b, off, none⟩) ls.length c] w fun e w' => ∃ n', n' ≤ n + 3 ∧ e = .returned (.agg (keyC (macB key ls.flatten))) ∧ Run w0 w g n' w' := by
  obtain ⟨i0, hi, hz0, hz1, hz2⟩ := info_parts Tryd.infoS
  have HR := Lib.hid h
  have HV := Lib.hid hv
  have HKC := Lib.hid hk
  have hgl := h.glt
  obtain ⟨blk, hblk⟩ : ∃ blk, blk = blockK key := ⟨_, rfl⟩
  have LB : Hid (blk.length = 64) := by show _ = _; rw [hblk, blockK_length]
  have HKB : Hid (∀ x m, Run w0 x g m x → m ≤ 1000000000 → Bs x vk key → Calls Tryd.prog 31 #[.pointer (some ⟨g, 0, none⟩), vk] x fun e w' => ∃ n', n' ≤ m + 1 ∧ e = .returned (.agg (keyC blk)) ∧ Run w0 x g n' w') := fun x m hr hm hb => by rw [hblk]; exact keyBlock_any w0 x g m vk key hr hm hb hk2
  obtain ⟨m1, hm1⟩ : ∃ m1, m1 = mixB blk 54 := ⟨_, rfl⟩
  obtain ⟨m2, hm2⟩ : ∃ m2, m2 = mixB blk 92 := ⟨_, rfl⟩
  have L1 : m1.length = 64 := by rw [hm1, mixB_length, LB.out]
  have L2 : m2.length = 64 := by rw [hm2, mixB_length, LB.out]
  have HM1 : Hid (∀ x, Calls Tryd.prog 33 #[.agg (keyC blk), .int .u8 54] x (RetBs x m1)) := fun x => by rw [hm1]; exact mixed_any x blk 54 LB.out
  have HM2 : Hid (∀ x, Calls Tryd.prog 33 #[.agg (keyC blk), .int .u8 92] x (RetBs x m2)) := fun x => by rw [hm2]; exact mixed_any x blk 92 LB.out
  obtain ⟨d1, hd1⟩ : ∃ d, d = digestB ([m1] ++ ls).flatten := ⟨_, rfl⟩
  have LD1 : Hid (d1.length = 32) := by show _ = _; rw [hd1, digestB_length]
  obtain ⟨d2, hd2⟩ : ∃ d, d = digestB [m2, d1].flatten := ⟨_, rfl⟩
  have LD2 : Hid (d2.length = 32) := by show _ = _; rw [hd2, digestB_length]
  have hfin : macB key ls.flatten = d2 := by
    rw [hd2, hd1, hm1, hm2, hblk, macB]
    simp
  rw [hfin]
  have HD1 := Lib.hid hd1
  have HD2 := Lib.hid hd2
  have HL1 := Lib.hid L1
  have HL2 := Lib.hid L2
  have HI := Lib.hid hi
  have HZ0 := Lib.hid hz0
  have HZ1 := Lib.hid hz1
  have HZ2 := Lib.hid hz2
  obtain ⟨KA, KC, rfl, hk3, hk4, hk5⟩ := hk
  have hbl : b < w.heap.size := by
    obtain ⟨A, c', he, _, _, h3⟩ := hv
    obtain ⟨b', off', hA, hc⟩ := h3 h0
    injection he with e1 e2 e3
    rw [hA] at e1
    injection e1 with e1
    injection e1 with e1 e4 e5
    subst e1
    obtain ⟨u, hu, _⟩ := hc 0 h0
    exact World.block_lt_of_cell? w _ hu
  unfold maxLen at hk4
  clear h hv hk5 hblk hm1 hm2 L1 L2 hd1 hd2 hfin hi hz0 hz1 hz2
  go_enter Tryd.func28, Tryd.ntmps28
  go_wp2_with ((with_reducible refine wpList_alloc_row (o := ⟨some 6, _, _, _, _, _⟩) rfl 23 rfl (keyC zeroKey) Tryd.zeroK ?_); intro g1 w1 n1)
  have R1 := Lib.hid (HR.out.kept n1.below)
  have Q1 := Lib.hid n1.row
  have hg1 : w.heap.size ≤ g1 := Nat.le_of_eq n1.spot.symm
  have s1 := n1.below.size
  have V1 := Lib.hid (HV.out.keep n1.below)
  have K1 := HKC.out.below n1.below
  clear n1 HR HV HKC
  refine (HKB.out _ n R1.out.self (by omega) K1).mono ?_
  intro e w2 h
  obtain ⟨na, hna, he, r2⟩ := h
  subst he
  have R2 := Lib.hid (R1.out.trans r2)
  have Q2 := Lib.hid (r2.other Q1.out (by omega))
  have V2 := Lib.hid (Bss.run r2 V1.out hbg)
  have s2 := r2.size
  clear r2 R1 Q1 V1 K1 HKB
  go_wp2_with (first
    | ((with_reducible refine wpList_alloc_row (o := ⟨some 7, _, _, _, _, _⟩) rfl 84 rfl (keyC zb64) Tryd.zeroB64 ?_); intro g3 w3 n3)
    | ((with_reducible refine wpList_store_row (o := ⟨none, _, _, _, _, _⟩) rfl 84 (.tmp 7) (.tmp 11) rfl g3 84 _ (keyC blk) (by with_unfolding_all rfl) (by with_unfolding_all rfl) n3.row (by rw [keyC_size, keyC_size, zb64_length, LB.out]) (Tryd.size64b blk LB.out) (keyC_one blk) ?_); intro w4 p4)
    | (with_reducible refine wpList_load_row (o := ⟨some 13, _, _, _, _, _⟩) rfl 84 (.tmp 7) rfl g3 (by with_unfolding_all rfl) 84 (keyC blk) (0, 0) (.array 64 5) (by with_unfolding_all exact p4.row) Tryd.underlying84 rfl (Tryd.size64b blk LB.out) ?_))
  have b4 := (laid_put n3 p4).1
  have R4 := Lib.hid (R2.out.kept b4)
  have Q4 := Lib.hid (Q2.out.kept b4)
  have V4 := Lib.hid (V2.out.keep b4)
  have S4 := Lib.hid p4.row
  have h3g : g3 ≠ g := by have := n3.spot; have := R2.out.glt; have := s2; omega
  have h31 : g3 ≠ g1 := by have := n3.spot; have := Q2.out.lt; omega
  have s4 := b4.size
  have hg3 : w.heap.size ≤ g3 := by have := n3.spot; omega
  clear n3 p4 b4 R2 Q2 V2
  refine (HM1.out _).mono ?_
  intro e w5 h
  obtain ⟨u, he, hu, b5⟩ := h
  subst he
  have R5 := Lib.hid (R4.out.kept b5)
  have Q5 := Lib.hid (Q4.out.kept b5)
  have S5 := Lib.hid (S4.out.kept b5)
  have HU := Lib.hid hu
  obtain ⟨vs, hvl, hvc, hvb⟩ := (V4.out.keep b5).vals h0
  have HVC := Lib.hid hvc
  have HVB := Lib.hid hvb
  have HVL := Lib.hid hvl
  have s5 := b5.size
  obtain ⟨UA, uc, rfl, _, _, _⟩ := hu
  have HNW : Hid (∀ (j : Nat) x, vs[j]? = some x → (w5.alloc (.cells #[.slice UA m1.length uc] 68)).cell? ((⟨b, off, none⟩ : Addr).add j) = some x) := by
    intro j x hj
    have hj2 := (List.getElem?_eq_some_iff.1 hj).1
    have hadd : (⟨b, off, none⟩ : Addr).add j = ⟨b, off + j, none⟩ := by unfold Addr.add; split <;> simp_all
    rw [hadd, World.cell?_alloc_lt w5 _ _ (show b < w5.heap.size by omega), HVC.out j hj2, ← hj]
    simp [hj2]
  have HON : Hid (∀ x ∈ vs, x.oneCell' = true) := by
    intro x hx
    obtain ⟨j, hj, rfl⟩ := List.getElem_of_mem hx
    exact (HVB.out j hj (by rw [← HVL.out]; exact hj)).isSlice
  have OL : Hid ((w5.alloc (.cells #[.slice UA m1.length uc] 68)).ownsRow w5.heap.size 68 1 (.slice (some ⟨w5.heap.size, 0, none⟩) 1 1) 1 [.slice UA m1.length uc]) := World.ownsRow_lit w5 #[.slice UA m1.length uc] 1 (Nat.le_refl _) (by unfold maxLen; omega) rfl
  clear hvl hvc hvb b5 R4 Q4 S4 V4
  go_wp2_with (at_builtin; refine wpList_append_own _ rfl (.tmp 15) (.tmp 16) 30 rfl w5.heap.size 68 i0 (.slice none 0 0) 1 24 Tryd.underlying30 HI.out HZ0.out HZ1.out HZ2.out rfl (by decide) _ 1 [.slice UA m1.length uc] rfl OL.out ⟨b, off, none⟩ ls.length c vs rfl (by rw [HVL.out]; omega) HNW.out HON.out (by unfold maxLen; omega) (by omega) (by simp) ?_; intro v6 w6 own6 hg6 hnil6; clear hnil6)
  have hrow6 : ∀ k, Value.ownBlock (.slice (some ⟨w5.heap.size, 0, none⟩) 1 1) = some k → w5.heap.size ≤ k := fun k e => by
    have e2 : w5.heap.size = k := by simpa [Value.ownBlock] using e
    omega
  have b6 : Below w5.heap.size w5 w6 := (alloc_below w5 _).grown hg6 (alloc_below w5 _).size hrow6
  have R6 := Lib.hid (R5.out.kept b6)
  have Q6 := Lib.hid (Q5.out.kept b6)
  have S6 := Lib.hid (S5.out.kept b6)
  have hfl : ([m1] ++ ls).flatten.length = 64 + ls.flatten.length := by rw [List.flatten_append, List.length_append, show [m1].flatten = m1 by simp, HL1.out]
  have hone : ([m1] ++ ls).length = 1 + ls.length := by simp; omega
  have V6 : Hid (Bss w6 v6 ([m1] ++ ls)) := by
    refine Bss.own (xs := [.slice UA m1.length uc] ++ vs) (by rw [hone]; exact own6) (by simp [HVL.out]) fun j h1 h2 => ?_
    rcases j with _ | j
    · exact HU.out.below b6
    · exact (HVB.out j (by simpa using h1) (by simpa using h2)).below b6
  have s6 := b6.size
  clear own6 hg6 b6 HNW HON OL HVC HVB HVL HU R5 Q5 S5
  refine (Sum_run w0 w6 g na v6 ([m1] ++ ls) d1 R6.out.self (by omega) HD1.out V6.out (by rw [hfl]; omega) (by rw [hone]; omega)).mono ?_
  intro e w7 h
  obtain ⟨he, r7⟩ := h
  subst he
  have R7 := Lib.hid (R6.out.trans r7)
  have Q7 := Lib.hid (r7.other Q6.out (by omega))
  have S7 := Lib.hid (r7.other S6.out h3g)
  have s7 := r7.size
  clear r7 R6 Q6 S6 V6 hone hfl hrow6
  go_wp2_with (first
    | ((with_reducible refine wpList_alloc_row (o := ⟨some 8, _, _, _, _, _⟩) rfl 23 rfl (keyC zeroKey) Tryd.zeroK ?_); intro g8 w8 n8)
    | ((with_reducible refine wpList_store_row (o := ⟨none, _, _, _, _, _⟩) rfl 23 (.tmp 8) (.tmp 18) rfl g8 23 _ (keyC d1) (by with_unfolding_all rfl) (by with_unfolding_all rfl) n8.row (keyC_same zeroKey_length LD1.out) (Tryd.sizeKey d1 LD1.out) (keyC_one d1) ?_); intro w9 p9))
  have b9 := (laid_put n8 p9).1
  have R9 := Lib.hid (R7.out.kept b9)
  have Q9 := Lib.hid (Q7.out.kept b9)
  have S9 := Lib.hid (S7.out.kept b9)
  have T9 := Lib.hid p9.row
  have s9 := b9.size
  have hgg : g < w9.heap.size := by omega
  clear n8 p9 b9 R7 Q7 S7
  refine plain_region (S := fun W' => RowAt W' g3 84 (keyC blk)) (fin := fun j => j == 6) (by kernel_rfl) ?_
  have hS : RowAt w9.drew g3 84 (keyC blk) := S9.out
  have HW := Lib.hid ((Below.refl w9.heap.size w9).drew)
  clear S9
  change walkS _ _ _ _ _ _ 7 _ _ _
  refine walkS_take (i := 0) (oi := ⟨some 19, _, _, _, _, _⟩) (v := .pointer (some ⟨g, 0, none⟩)) rfl (by kernel_rfl) (by kernel_rfl) (fun _ _ _ h => h) _ _ _ _ (by kernel_rfl) (by kernel_rfl) (Or.inl ⟨by rfl, fun w' hS' => (by clear hS hS'; go_simp)⟩) hS ?_
  simp only [Act.put, List.setIfInBounds_toArray, List.set_cons_zero, List.set_cons_succ]
  refine walkS_take (i := 1) (oi := ⟨some 20, _, _, _, _, _⟩) (v := .agg (keyC blk)) rfl (by kernel_rfl) (by kernel_rfl) (fun _ _ _ h => h) _ _ _ _ (by kernel_rfl) (by kernel_rfl) (Or.inl ⟨by rfl, fun w' hS' => run_load_row _ (.tmp 7) rfl g3 rfl _ (keyC blk) (0, 0) (.array 64 5) hS' Tryd.underlying84 rfl (Tryd.size64b blk LB.out)⟩) hS ?_
  simp only [Act.put, List.setIfInBounds_toArray, List.set_cons_zero, List.set_cons_succ]
  refine walkS_take (i := 3) (oi := ⟨some 22, _, _, _, _, _⟩) (v := .slice (some ⟨g8, 0, none⟩) 32 32) rfl (by kernel_rfl) (by kernel_rfl) (fun _ _ _ h => h) _ _ _ _ (by kernel_rfl) (by kernel_rfl) (Or.inl ⟨by rfl, fun w' hS' => (by clear hS hS'; go_simp)⟩) hS ?_
  simp only [Act.put, List.setIfInBounds_toArray, List.set_cons_zero, List.set_cons_succ]
  refine walkS_only (i := 2) (o := ⟨some 21, _, _, _, _, _⟩) (by kernel_rfl) rfl rfl fun K hK => ?_
  have HS := Lib.hid hS
  clear hS
  go_simp
  refine (HM2.out _).mono ?_
  intro e w10 h
  obtain ⟨u2, he, hu2, b10⟩ := h
  subst he
  have hS : RowAt w10 g3 84 (keyC blk) := HS.out.kept b10
  have HW1 := Lib.hid (below_size HW.out b10)
  have HU2 := Lib.hid hu2
  obtain ⟨UA2, uc2, hu3, _, _, _⟩ := hu2
  subst hu3
  refine hK _ _ (.inr hS) ?_
  clear hK K b10 HS HW
  refine walkS_only (i := 4) (o := ⟨some 23, _, _, _, _, _⟩) (by kernel_rfl) rfl rfl fun K hK => ?_
  have HS := Lib.hid hS
  clear hS
  go_simp
  have hS := HS.out.kept (alloc_below w10 (.cells #[.slice UA2 m2.length uc2, .slice (some ⟨g8, 0, none⟩) 32 32] 68))
  have HW2 := Lib.hid (below_size HW1.out (alloc_below w10 (.cells #[.slice UA2 m2.length uc2, .slice (some ⟨g8, 0, none⟩) 32 32] 68)))
  have V2 : Hid (Bss (w10.alloc (.cells #[.slice UA2 m2.length uc2, .slice (some ⟨g8, 0, none⟩) 32 32] 68)) (.slice (some ⟨w10.heap.size, 0, none⟩) 2 2) [m2, d1]) := Bss.two _ _ _ _ _ _ HU2.out (row32 (T9.out.kept HW1.out) LD1.out)
  refine hK _ _ (.inr hS) ?_
  clear hK K HS HU2 HW1
  generalize w10.alloc (.cells #[.slice UA2 m2.length uc2, .slice (some ⟨g8, 0, none⟩) 32 32] 68) = w11 at *
  refine walkS_only (i := 5) (o := ⟨some 24, _, _, _, _, _⟩) (by kernel_rfl) rfl rfl fun K hK => ?_
  have HS := Lib.hid hS
  clear hS
  go_simp
  have R11 := Lib.hid (R9.out.kept HW2.out)
  have Q11 := Lib.hid (Q9.out.kept HW2.out)
  refine (Sum_run w0 w11 g (na + 1) _ [m2, d1] d2 R11.out.self (by omega) HD2.out V2.out (by simp [HL2.out, LD1.out]) (by simp)).mono ?_
  intro e w12 h
  obtain ⟨he, r12⟩ := h
  subst he
  have R12 := Lib.hid (R11.out.trans r12)
  have Q12 := Lib.hid (r12.other Q11.out (by omega))
  have hS := r12.other HS.out h3g
  refine hK _ _ (.inr hS) ?_
  clear hK K HS R11 Q11 V2 r12 hS
  refine walkS_only (i := 6) (o := ⟨none, _, _, _, _, _⟩) (by kernel_rfl) rfl rfl fun K hK => ?_
  refine wp_store_row 23 (.tmp 6) (.tmp 24) rfl g1 23 _ (keyC d2) rfl rfl Q12.out (keyC_same zeroKey_length LD2.out) (Tryd.sizeKey d2 LD2.out) (keyC_one d2) ?_
  intro w13 p13
  refine hK _ _ (.inl rfl) ?_
  clear hK K
  refine walkS_done (by kernel_rfl) ?_ _
  go_wp2_with fail
  refine bodyPost_ret (results_cell_row rfl _ _ g1 23 (keyC d2) (0, 0) (.array 32 5) rfl p13.row Tryd.underlying23 rfl (Tryd.sizeKey d2 LD2.out)) rfl ⟨na + 1 + 1, by omega, rfl, ?_⟩
  exact R12.out.put p13 hg1 (by omega)
end Go.Proofs.YtjlhmcnajgafgaaDoor
end
section
namespace Go.Proofs.YtjlhmcnajgafgaaDoor
open Go.RowKit
set_option linter.unusedVariables false
set_option maxRecDepth 20000

/-- What a Log that keeps nothing holds. -/
def logC (n : Nat) : Array Value := #[.bool false, .int .i64 (n : Int), .slice none 0 0]
theorem logC_put (n : Nat) : (logC n).setIfInBounds 1 (.int .i64 ((n : Int) + 1)) = logC (n + 1) := by
  simp [logC]

theorem Bs.log {w w' : World} {v : Value} {l : List UInt8} {g n : Nat} {t : TypeId} (h : Bs w v l) (hr : RowAt w g t (logC n)) (hg : w.grownBy w' (some g)) : Bs w' v l := by
  obtain ⟨B, d, rfl, h1, h2, h3⟩ := h
  refine ⟨B, d, rfl, h1, h2, fun h0 => ?_⟩
  obtain ⟨b, off, hA, hc⟩ := h3 h0
  refine ⟨b, off, hA, fun j hj => ?_⟩
  have hcj := hc j hj
  have hb : b ≠ g := by
    intro e
    subst e
    rw [hr.cell] at hcj
    simp only [logC] at hcj
    rcases hx : off + j with _ | _ | _ | m <;> rw [hx] at hcj <;> simp at hcj
  exact (World.cell?_of_block (a := ⟨b, off + j, none⟩) (hg.block _ (World.block_lt_of_cell? w _ hcj) (by intro e; injection e with e; exact hb e))).trans hcj

/-- From w to x with a Log at g that keeps nothing and was made behind w0: it has counted n; all else that was there at w is as it was. -/
structure LogR (w0 w : World) (g n : Nat) (x : World) : Prop where
  below : Below w0.heap.size w0 x
  row : RowAt x g 32 (logC n)
  far : w0.heap.size ≤ g
  old : w0.heap.size ≤ w.heap.size
  row0 : ∃ n0, RowAt w g 32 (logC n0)
  grown : w.grownBy x (some g)
theorem LogR.self {w0 w x : World} {g n : Nat} (h : LogR w0 w g n x) : LogR w0 x g n x := ⟨h.below, h.row, h.far, h.below.size, ⟨n, h.row⟩, grown_refl _ _⟩
theorem LogR.new {w0 x : World} {g n : Nat} (hb : Below w0.heap.size w0 x) (h : RowAt x g 32 (logC n)) (hf : w0.heap.size ≤ g) : LogR w0 x g n x :=
  ⟨hb, h, hf, hb.size, ⟨n, h⟩, grown_refl _ _⟩
theorem LogR.kept {w0 w x y : World} {g n : Nat} (h : LogR w0 w g n x) (hb : Below x.heap.size x y) : LogR w0 w g n y :=
  ⟨below_size h.below hb, h.row.kept hb, h.far, h.old, h.row0, grown_trans h.grown (grown_below _ hb)⟩
theorem LogR.trans {w0 w x y : World} {g n m : Nat} (h : LogR w0 w g n x) (k : LogR w0 x g m y) : LogR w0 w g m y :=
  ⟨k.below, k.row, h.far, h.old, h.row0, grown_trans h.grown k.grown⟩
theorem LogR.put {w0 w x y : World} {g n i : Nat} {t : TypeId} {cs : Array Value} (h : LogR w0 w g n x) (p : PutRow x i t cs y) (hi : w.heap.size ≤ i) (hg : i ≠ g) : LogR w0 w g n y :=
  ⟨p.below h.below h.below.size (Nat.le_trans h.old hi), h.row.grown p.grown (by intro e; injection e with e; exact hg e.symm), h.far, h.old, h.row0,
    ⟨p.grown.os.trans h.grown.os, p.grown.tape.trans h.grown.tape, p.grown.output.trans h.grown.output, Nat.le_trans h.grown.size p.grown.size, fun k hk h1 => (p.grown.block k (Nat.lt_of_lt_of_le hk h.grown.size) (by intro e; injection e with e; omega)).trans (h.grown.block k hk h1)⟩⟩
theorem LogR.count {w0 w x : World} {g n : Nat} (h : LogR w0 w g n x) : LogR w0 w g (n + 1) (x.setCell ⟨g, 1, none⟩ (.int .i64 ((n : Int) + 1))) := by
  have hp := h.row.put 1 (.int .i64 ((n : Int) + 1))
  rw [logC_put] at hp
  exact ⟨h.below.setCell h.far _, hp, h.far, h.old, h.row0, grown_trans h.grown ⟨rfl, rfl, rfl, by simp, fun k _ hne => heap_setCell_other x _ k _ (fun h => hne (by rw [h]))⟩⟩
theorem LogR.other {w0 w x : World} {g n k : Nat} {t : TypeId} {cs : Array Value} (h : LogR w0 w g n x) (hr : RowAt w k t cs) (hk : k ≠ g) : RowAt x k t cs := hr.grown h.grown (by intro e; injection e with e; exact hk e)
theorem LogR.bs {w0 w x : World} {g n : Nat} {v : Value} {l : List UInt8} (h : LogR w0 w g n x) (hv : Bs w v l) : Bs x v l := by
  obtain ⟨n0, h0⟩ := h.row0
  exact hv.log h0 h.grown
theorem LogR.size {w0 w x : World} {g n : Nat} (h : LogR w0 w g n x) : w.heap.size ≤ x.heap.size := h.grown.size
theorem LogR.glt {w0 w x : World} {g n : Nat} (h : LogR w0 w g n x) : g < w.heap.size := by
  obtain ⟨n0, h0⟩ := h.row0
  exact h0.lt

set_option maxHeartbeats 1000000 in
theorem LogSum_run (w0 w : World) (g n : Nat) (v : Value) (l d : List UInt8) (h : LogR w0 w g n w) (hn : n ≤ 1000000000) (hd : d = digestB l) (hb : Bs w v l) (hl : l.length ≤ 140737488352000) :
    Calls Tryd.prog 30 #[.pointer (some ⟨g, 0, none⟩), v] w fun e w' => e = .returned (.agg (keyC d)) ∧ LogR w0 w g (n + 1) w' := by
  have HR := Lib.hid h
  have HB := Lib.hid hb
  have hgl := h.glt
  have LD : Hid (d.length = 32) := by show _ = _; rw [hd, digestB_length]
  have HD : Hid (∀ x u, Bs x u l → Calls Tryd.prog 34 #[u] x (RetV x (.agg (keyC d)))) := fun x u hu => by rw [hd]; exact refDigest_any x u l hu hl
  clear h hb hd
  go_enter Tryd.func30, Tryd.ntmps30
  go_wp2_with ((with_reducible refine wpList_alloc_row (o := ⟨some 4, _, _, _, _, _⟩) rfl 23 rfl (keyC zeroKey) Tryd.zeroK ?_); intro g1 w1 n1; have R1 := Lib.hid (HR.out.kept n1.below); have c0 : w1.cell? ⟨g, 0, none⟩ = some (.bool false) := R1.out.row.cell 0; have c1 : w1.cell? ⟨g, 1, none⟩ = some (.int .i64 (n : Int)) := R1.out.row.cell 1; have z1 : w1.frozen? ⟨g, 1, none⟩ = false := R1.out.row.frozen 1; have hadd : IntKind.i64.wrap ((n : Int) + 1) = (n : Int) + 1 := IntWalk.i64_in _ (by omega))
  have Q1 := Lib.hid n1.row
  have hg1 : w.heap.size ≤ g1 := Nat.le_of_eq n1.spot.symm
  have hgg : g1 ≠ g := by omega
  have R2 := Lib.hid R1.out.count
  have R2s := Lib.hid R1.out.self.count
  have B2 := Lib.hid (R2s.out.bs (HB.out.below n1.below))
  have Q2 := Lib.hid (R2s.out.other Q1.out hgg)
  clear n1 HR HB c0 c1 z1 hadd R1 Q1 R2s
  refine (HD.out _ _ (by exact B2.out)).mono ?_
  intro e w3 h
  obtain ⟨he, b3⟩ := h
  subst he
  have R3 := Lib.hid (R2.out.kept b3)
  have Q3 := Lib.hid (Q2.out.kept b3)
  clear b3 R2 Q2 B2 HD
  go_wp2_with ((with_reducible refine wpList_store_row (o := ⟨none, _, _, _, _, _⟩) rfl 23 (.tmp 4) (.tmp 31) rfl g1 23 _ (keyC d) (by with_unfolding_all rfl) (by with_unfolding_all rfl) Q3.out (keyC_same zeroKey_length LD.out) (Tryd.sizeKey d LD.out) (keyC_one d) ?_); intro w4 p4)
  refine bodyPost_ret (results_cell_row rfl _ _ g1 23 (keyC d) (0, 0) (.array 32 5) rfl p4.row Tryd.underlying23 rfl (Tryd.sizeKey d LD.out)) rfl ⟨rfl, ?_⟩
  exact R3.out.put p4 hg1 hgg
end Go.Proofs.YtjlhmcnajgafgaaDoor
end
section
namespace Go.Proofs.YtjlhmcnajgafgaaDoor
open Go.RowKit
set_option linter.unusedVariables false
set_option maxRecDepth 20000

section
variable {P : Program} (w : World)
theorem run_appD (base : Nat) (t ty e : TypeId) (hinfo : (P.info? e).map (fun i => (i.zero, i.size, i.bytes)) = some (some (.int .u8 0), 1, 1)) (ht : P.underlying t = some (.slice e))
    (v u : Value) (l m : List UInt8) (hown : OwnB w base e v l) (hu : Bs w u m) (hlen : l.length + m.length ≤ 140737488355328) (hbase : base ≤ w.heap.size) :
    ∃ v' w', (Builtin.append_ #[t, t] ty #[v, u]).run P w = .ok v' w' ∧ OwnB w' base e v' (l ++ m) ∧ w.grownBy w' v.ownBlock ∧ (v'.ownBlock = v.ownBlock ∨ ∀ k, v'.ownBlock = some k → w.heap.size ≤ k) := by
  obtain ⟨v', w', hr, ho, hg⟩ := run_appB (P := P) w base t ty e hinfo ht v u l m hown hu hlen hbase
  refine ⟨v', w', hr, ho, hg, ?_⟩
  obtain ⟨i, hi, hz0, hz1, hz2⟩ := info_parts hinfo
  rcases hown.2 with ⟨rfl, h0⟩ | ⟨g, cap, cur, rfl, hbg, hgr, hnc, hcm, hcs, htake⟩
  · obtain ⟨v2, w2, hr2, ho2, _⟩ := run_appB (P := P) w w.heap.size t ty e hinfo ht (.slice none 0 0) u l m ⟨hown.1, .inl ⟨rfl, h0⟩⟩ hu hlen (Nat.le_refl _)
    rw [hr] at hr2
    injection hr2 with e1 e2
    subst e1 e2
    exact .inr ho2.rows
  · obtain ⟨A, c, rfl, h1, h2, h3⟩ := hu
    rcases A with _ | ad
    · have hm : m = [] := by
        rcases m with _ | ⟨b, m⟩
        · rfl
        · obtain ⟨_, _, h, _⟩ := h3 (by simp)
          cases h
      subst hm
      left
      have hr2 : (Builtin.append_ #[t, t] ty #[.slice (some ⟨g, 0, none⟩) l.length cap, .slice none ([] : List UInt8).length c]).run P w = .ok (.slice (some ⟨g, 0, none⟩) l.length cap) w := by
        simp [Builtin.append_, run_underlying ht, sizeOf, typeInfo, hi, Builtin.lenOf, Builtin.firstCells, hnc, storeCells]
      rw [hr] at hr2
      injection hr2 with e1 e2
      rw [e1]
    · have hcells : ∀ j x, (cellsB m)[j]? = some x → w.cell? (ad.add j) = some x := by
        intro j x hx
        have hj : j < m.length := by
          have := (List.getElem?_eq_some_iff.1 hx).1
          rwa [cellsB_length] at this
        obtain ⟨b, off, h, hc⟩ := h3 (by omega)
        injection h with h
        subst h
        rw [cellsB_get m j hj] at hx
        have hadd : (⟨b, off, none⟩ : Addr).add j = ⟨b, off + j, none⟩ := by unfold Addr.add; split <;> simp_all
        rw [hadd, hc j hj, hx]
      by_cases hroom : l.length + m.length ≤ cap
      · left
        have hr2 := run_append_room (P := P) w t ty e i ht hi g l.length cap cur hgr ad m.length c (cellsB m) (by rw [cellsB_length, hz1, Nat.mul_one]) hcells (cellsB_one m) hroom (by rw [cellsB_length, hcs, hz1]; omega)
        rw [hr] at hr2
        injection hr2 with e1 e2
        rw [e1]
        rfl
      · right
        have holds : ∀ j x, (cellsB l)[j]? = some x → w.cell? ((⟨g, 0, none⟩ : Addr).add j) = some x := World.ownsRow.cells hown (g := g) rfl
        have hr2 := run_append_grow (P := P) w t ty e i (.int .u8 0) ht hi hz0 ⟨g, 0, none⟩ l.length cap (cellsB l) (by rw [cellsB_length, hz1, Nat.mul_one]) holds ad m.length c (cellsB m) (by rw [cellsB_length, hz1, Nat.mul_one]) hcells (by omega) (by omega) (growslice_fits (by omega) (by rw [hz2]; omega))
        rw [hr] at hr2
        injection hr2 with e1 e2
        intro k hk
        rw [e1] at hk
        have : w.heap.size = k := by simpa [Value.ownBlock] using hk
        omega
end
section
variable {P : Program} {w : World}
theorem step_appD {ops : Array Oper} {o : Oper} {a : Act} {K : Act → World → Prop} {Q : Exit → Act → World → Prop} {E : Prop} (hgd : o.guard = none) (s x : Operand) (t : TypeId)
    (ho : o.op = .call { callee := .builtin .append, args := #[s, x], argTypes := #[t, t] })
    (base : Nat) (e : TypeId) (hinfo : (P.info? e).map (fun i => (i.zero, i.size, i.bytes)) = some (some (.int .u8 0), 1, 1)) (ht : P.underlying t = some (.slice e))
    (v u : Value) (l m : List UInt8) (hs : a.eval s = v) (hx : a.eval x = u) (hown : OwnB w base e v l) (hu : Bs w u m) (hlen : l.length + m.length ≤ 140737488355328) (hb : base ≤ w.heap.size)
    (h : ∀ v' w', OwnB w' base e v' (l ++ m) → w.grownBy w' v.ownBlock → (v'.ownBlock = v.ownBlock ∨ ∀ k, v'.ownBlock = some k → w.heap.size ≤ k) → K (a.put o.dst v') w') :
    if Region.wanted o (yielded ops a.tmps) = true then Oper.wp P o a w K Q else E := by
  have hw : Region.wanted o (yielded ops a.tmps) = true := by simp [Region.wanted, hgd]
  rw [if_pos hw]
  obtain ⟨v', w', hr, h2, h3, h4⟩ := run_appD (P := P) w base t o.type e hinfo ht v u l m hown hu hlen hb
  unfold Oper.wp execOp
  simp only [ho, resolve, invoke, builtin, Sem.run_bind, Sem.run_pure, Result.andThen_ok, List.map_toArray, List.map_cons, List.map_nil, hs, hx, hr]
  exact h v' w' h2 h3 h4
theorem wpList_appD {ops : Array Oper} {rest : List Oper} {o : Oper} {a : Act} {Q : Exit → Act → World → Prop} (hgd : o.guard = none) (s x : Operand) (t : TypeId)
    (ho : o.op = .call { callee := .builtin .append, args := #[s, x], argTypes := #[t, t] })
    (base : Nat) (e : TypeId) (hinfo : (P.info? e).map (fun i => (i.zero, i.size, i.bytes)) = some (some (.int .u8 0), 1, 1)) (ht : P.underlying t = some (.slice e))
    (v u : Value) (l m : List UInt8) (hs : a.eval s = v) (hx : a.eval x = u) (hown : OwnB w base e v l) (hu : Bs w u m) (hlen : l.length + m.length ≤ 140737488355328) (hb : base ≤ w.heap.size)
    (h : ∀ v' w', OwnB w' base e v' (l ++ m) → w.grownBy w' v.ownBlock → (v'.ownBlock = v.ownBlock ∨ ∀ k, v'.ownBlock = some k → w.heap.size ≤ k) → wpList P ops Q rest (a.put o.dst v') w') : wpList P ops Q (o :: rest) a w := by
  obtain ⟨v', w', hr, h2, h3, h4⟩ := run_appD (P := P) w base t o.type e hinfo ht v u l m hown hu hlen hb
  exact Go.Lib.wpList_append_run w hgd s x t t ho _ _ hs hx v' w' hr (h v' w' h2 h3 h4)
/-- Two of the call's own rows that lie apart. -/
def Apart (v s : Value) : Prop := ∀ k, v.ownBlock = some k → s.ownBlock ≠ some k
theorem Apart.symm {v s : Value} (h : Apart v s) : Apart s v := fun k hk h2 => h k h2 hk
theorem Apart.nil (s : Value) : Apart (.slice none 0 0) s := fun k hk => by simp [Value.ownBlock] at hk
/-- .. and stay so where one grows. -/
theorem Apart.grown {base : Nat} {e : TypeId} {v v' s : Value} {l : List UInt8} (h : Apart v s) (hs : OwnB w base e s l) (hd : v'.ownBlock = v.ownBlock ∨ ∀ k, v'.ownBlock = some k → w.heap.size ≤ k) : Apart v' s := by
  intro k hk
  rcases hd with hd | hd
  · exact h k (by rw [← hd]; exact hk)
  · intro h2
    have := (World.ownsRow.lt hs k h2).2
    have := hd k hk
    omega
theorem OwnB.apart {w' : World} {base : Nat} {e : TypeId} {v s : Value} {l : List UInt8} (h : OwnB w base e s l) (ha : Apart v s) (hg : w.grownBy w' v.ownBlock) : OwnB w' base e s l := by
  refine World.ownsRow.kept h hg ?_
  rcases hv : s.ownBlock with _ | k
  · exact .inl rfl
  · refine .inr fun hk => ?_
    exact ha k (by rw [← hk]) hv
end
end Go.Proofs.YtjlhmcnajgafgaaDoor
end
section
namespace Go.Proofs.YtjlhmcnajgafgaaDoor
open Go.RowKit
set_option linter.unusedVariables false

theorem keyC_put (l : List UInt8) (i : Nat) (b : UInt8) : (keyC l).setIfInBounds i (.int .u8 (b.toNat : Int)) = keyC (l.set i b) := by
  unfold keyC
  rw [← cellsB_set]
  simp
theorem keyC_cell {w : World} {g : Nat} {t : TypeId} {l : List UInt8} (h : RowAt w g t (keyC l)) (i : Nat) (hi : i < l.length) : w.cell? ⟨g, i, none⟩ = some (.int .u8 (l[i].toNat : Int)) := by
  rw [h.cell i]
  have := cellsB_get l i hi
  simpa [keyC] using this
theorem Tryd.buildK (w : World) : (Instr.build 23 #[]).run Tryd.prog w = .ok (keyV zeroKey) w := by kernel_rfl





set_option maxHeartbeats 1000000 in
theorem refBytes_any (w : World) (l : List UInt8) (hl : l.length = 32) :
    Calls Tryd.prog 25 #[keyV l] w (RetBs w l) := by
  have HL := Lib.hid hl
  have hl1 : l.length ≤ 32 := by omega
  have hl2 : 32 ≤ l.length := by omega
  clear hl
  go_enter Tryd.func25, Tryd.ntmps25
  go_wp2_with ((with_reducible refine wpList_box_row (o := ⟨some 1, _, _, _, _, _⟩) rfl 23 (.tmp 0) rfl (keyC l) (by with_unfolding_all rfl) ?_); intro g1 w1 n1)
  go_loopw [3, 4] (fun v i wr => ∃ k : Nat, k ≤ l.length ∧ i = .int .i64 k ∧ OwnB wr w1.heap.size 5 v (l.take k) ∧ Below w1.heap.size w1 wr) (fun _ i _ => l.length - (intOf i).toNat)
  case atStart => exact ⟨0, Nat.zero_le _, rfl, OwnB.nil _ _ _, Below.refl _ _⟩
  case round =>
    obtain ⟨k, hk, rfl, hown, hb⟩ := hrel
    have HO := Lib.hid hown
    have HB := Lib.hid hb
    have hsz := hb.size
    clear hown hb
    by_cases hlt : k < l.length
    · have hcell := keyC_cell (n1.row.kept HB.out) k hlt
      have HT := Lib.hid (List.take_succ_eq_append_getElem hlt)
      go_wp2_with (at_builtin; refine wpList_appB _ rfl (.tmp 9) (.tmp 13) 68 rfl w1 5 Tryd.infoB Tryd.underlying68 _ _ _ [l[k]] rfl rfl (HO.out.alloc _) (Bs.lit1 _ _ _ _ rfl) (by simp; omega) (HB.out.alloc hsz _) ?_; intro v2 w2 hown2 hb2)
      go_roundw
      case rel => exact ⟨k + 1, by omega, by go_num, by rw [HT.out]; exact hown2, hb2⟩
      case measure => simp [intOf]; omega
    · have HO2 : Hid (OwnB wr w1.heap.size 5 u3 l) := by
        have := HO.out; rwa [List.take_of_length_le (by omega)] at this
      go_wp2
      go_ret
      exact ⟨_, rfl, HO2.out.bs, below_size n1.below HB.out⟩
end Go.Proofs.YtjlhmcnajgafgaaDoor
end
