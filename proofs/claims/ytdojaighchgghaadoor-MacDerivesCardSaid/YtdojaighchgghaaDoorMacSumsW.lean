/-
  Contract of mac.Extract; the walk of MacSums. Conditions: what a row hands over.
-/
import Derived.Test.YtdojaighchgghaaDoorMacC
import Derived.Test.YtdojaighchgghaaDoorMacE
namespace Go.Proofs.YtdojaighchgghaaDoor
open Go.RowKit
set_option linter.unusedVariables false
set_option maxRecDepth 20000

/-- The only one that may come up, guarded and wanted. -/
theorem walkS_onlyG3 {P : Program} {md : Region.Mode} {ops : Array Oper} {Q : Exit → Act → World → Prop} {S : World → Prop} {fin : Nat → Bool} {i : Nat} {o : Oper} {m : Nat} {listed : Array Bool} {a : Act} {w : World} (hr : Region.ready md ops listed = [i]) (ho : ops[i]? = some o) (hw : Region.wanted o (yielded ops a.tmps) = true)
    (h : ∀ K : Act → World → Prop, (∀ a' w', (fin i = true ∨ S w') → walkS P md ops Q S fin m (listed.setIfInBounds i true) a' w' → K a' w') → o.wp P a w K Q) : walkS P md ops Q S fin (m + 1) listed a w := by
  refine ⟨fun h0 => by simp [hr] at h0, fun j hj => ?_⟩
  rw [hr] at hj
  obtain rfl : j = i := by simpa using hj
  unfold wpOp
  rw [ho]
  simp only [hw, if_true]
  exact .inl (h _ (fun a' w' h1 h2 => ⟨h1, h2⟩))

set_option maxHeartbeats 1000000 in
theorem extract_any (w0 w : World) (g n : Nat) (vk vb : Value) (key b d : List UInt8) (hd : d = macB key b) (h : Run w0 w g n w) (hn : n ≤ 100000000) (hk : Bs w vk key) (hk2 : key.length ≤ 100000) (hb : Bs w vb b) (hb2 : b.length ≤ 100000) :
    Calls Tryd.prog 32 #[.pointer (some ⟨g, 0, none⟩), vk, vb] w fun e w' => ∃ n', n' ≤ n + 3 ∧ e = .returned (.agg (keyC d)) ∧ Run w0 w g n' w' := by
  have HR := Lib.hid h
  have HVK := Lib.hid hk
  have HVB := Lib.hid hb
  have hgl := h.glt
  have LD : Hid (d.length = 32) := by show _ = _; rw [hd, macB_length]
  have HM : Hid (∀ x m b' c, Run w0 x g m x → m ≤ 100000000 → Bs x vk key → Bss x (.slice (some ⟨b', 0, none⟩) 1 c) [b] → b' ≠ g → Calls Tryd.prog 31 #[.pointer (some ⟨g, 0, none⟩), vk, .slice (some ⟨b', 0, none⟩) 1 c] x fun e w' => ∃ n', n' ≤ m + 3 ∧ e = .returned (.agg (keyC d)) ∧ Run w0 x g n' w') := fun x m b' c hr hm hk hv hbg => by
    have := macSum_any w0 x g m vk key b' 0 c [b] hr hm hk hk2 hv hbg (by simp) (by simpa using hb2) (by simp)
    rwa [show [b].flatten = b by simp, ← hd] at this
  obtain ⟨BA, BC, rfl, x1, x2, x3⟩ := hb
  clear h hk hd x3
  go_enter Tryd.func32, Tryd.ntmps32
  go_wp2_with ((with_reducible refine wpList_alloc_row (o := ⟨some 6, _, _, _, _, _⟩) rfl 33 rfl (keyC zeroKey) Tryd.zeroK ?_); intro g1 w1 n1)
  have R1 := Lib.hid (HR.out.kept n1.below)
  have Q1 := Lib.hid n1.row
  have hg1 : w.heap.size ≤ g1 := Nat.le_of_eq n1.spot.symm
  have K1 := Lib.hid (HVK.out.below n1.below)
  have V1 := Lib.hid (HVB.out.below n1.below)
  have s1 := n1.below.size
  clear n1 HR HVK HVB
  refine (HM.out _ n _ _ (by exact (R1.out.kept (alloc_below _ _)).self) hn (by exact K1.out.below (alloc_below _ _)) (by exact Bss.one _ _ _ _ V1.out) (by omega)).mono ?_
  intro e w2 h
  obtain ⟨na, hna, he, r2⟩ := h
  subst he
  have R2 := Lib.hid ((R1.out.kept (alloc_below _ _)).trans r2)
  have Q2 := Lib.hid (r2.other (Q1.out.kept (alloc_below _ _)) (by omega))
  clear r2 R1 Q1 K1 V1
  go_wp2_with ((with_reducible refine wpList_store_row (o := ⟨none, _, _, _, _, _⟩) rfl 33 (.tmp 6) (.tmp 11) rfl g1 33 _ (keyC d) (by with_unfolding_all rfl) (by with_unfolding_all rfl) Q2.out (keyC_same zeroKey_length LD.out) (Tryd.sizeKey d LD.out) (keyC_one d) ?_); intro w3 p3)
  refine bodyPost_ret (results_cell_row rfl _ _ g1 33 (keyC d) (0, 0) (.array 32 5) rfl p3.row Tryd.underlying33 rfl (Tryd.sizeKey d LD.out)) rfl ⟨na, hna, rfl, ?_⟩
  exact R2.out.put p3 hg1 (by omega)

set_option maxHeartbeats 4000000 in
theorem macSums_walk (w : World) (hq : Tabs w) (vk : Value) (key : List UInt8) (hk : Bs w vk key) (va : Value) (a : List UInt8) (ha : Bs w va a) (vb : Value) (b : List UInt8) (hb : Bs w vb b) :
    Calls Tryd.prog 9 #[vk, va, vb] w (RetV w (.bool true)) := by
  have HQ := Lib.hid hq
  have HVK := Lib.hid hk
  have HVA := Lib.hid ha
  have HVB := Lib.hid hb
  obtain ⟨KA, KC, rfl, k1, k2, k3⟩ := hk
  obtain ⟨AA, AC, rfl, a1, a2, a3⟩ := ha
  obtain ⟨BA, BC, rfl, x1, x2, x3⟩ := hb
  unfold maxLen at k2 a2 x2
  clear hq k3 a3 x3
  by_cases c1 : 200 < key.length
  · have d1 : decide ((200 : Int) < (key.length : Int)) = true := by simp; omega
    go_enter Tryd.func9, Tryd.ntmps9
    go_wp2_with fail
    refine (macAwake_true _ HQ.out).mono ?_
    intro e w1 h
    obtain ⟨he, b1⟩ := h
    subst he
    go_wp2
    go_ret
    exact ⟨rfl, b1⟩
  have d1 : decide ((200 : Int) < (key.length : Int)) = false := by simp; omega
  by_cases c2 : 300 < a.length
  · have d2 : decide ((300 : Int) < (a.length : Int)) = true := by simp; omega
    go_enter Tryd.func9, Tryd.ntmps9
    go_wp2_with fail
    refine (macAwake_true _ HQ.out).mono ?_
    intro e w1 h
    obtain ⟨he, b1⟩ := h
    subst he
    go_wp2
    go_ret
    exact ⟨rfl, b1⟩
  have d2 : decide ((300 : Int) < (a.length : Int)) = false := by simp; omega
  by_cases c3 : 300 < b.length
  · have d3 : decide ((300 : Int) < (b.length : Int)) = true := by simp; omega
    go_enter Tryd.func9, Tryd.ntmps9
    go_wp2_with fail
    refine (macAwake_true _ HQ.out).mono ?_
    intro e w1 h
    obtain ⟨he, b1⟩ := h
    subst he
    go_wp2
    go_ret
    exact ⟨rfl, b1⟩
  have d3 : decide ((300 : Int) < (b.length : Int)) = false := by simp; omega
  obtain ⟨dx, hdx⟩ : ∃ d, d = macB key (a ++ b) := ⟨_, rfl⟩
  obtain ⟨dy, hdy⟩ : ∃ d, d = macB key a := ⟨_, rfl⟩
  have LX : Hid (dx.length = 32) := by show _ = _; rw [hdx, macB_length]
  have LY : Hid (dy.length = 32) := by show _ = _; rw [hdy, macB_length]
  have HM : Hid (∀ x g m v' b' c, Run w x g m x → m ≤ 100000000 → Bs x v' key → Bss x (.slice (some ⟨b', 0, none⟩) 2 c) [a, b] → b' ≠ g → Calls Tryd.prog 31 #[.pointer (some ⟨g, 0, none⟩), v', .slice (some ⟨b', 0, none⟩) 2 c] x fun e w' => ∃ n', n' ≤ m + 3 ∧ e = .returned (.agg (keyC dx)) ∧ Run w x g n' w') := fun x g m v' b' c hr hm hk hv hbg => by
    have := macSum_any w x g m v' key b' 0 c [a, b] hr hm hk (by omega) hv hbg (by simp) (by simp; omega) (by simp)
    rwa [show [a, b].flatten = a ++ b by simp, ← hdx] at this
  have HE : Hid (∀ x g m v' u', Run w x g m x → m ≤ 100000000 → Bs x v' key → Bs x u' a → Calls Tryd.prog 32 #[.pointer (some ⟨g, 0, none⟩), v', u'] x fun e w' => ∃ n', n' ≤ m + 3 ∧ e = .returned (.agg (keyC dy)) ∧ Run w x g n' w') := fun x g m v' u' hr hm hk hu => extract_any w x g m v' u' key a dy hdy hr hm hk (by omega) hu (by omega)
  have HR1 : Hid (∀ x g m v' u', LogR w x g m x → m ≤ 100000000 → Bs x v' key → Bs x u' (([] ++ a) ++ b) → Calls Tryd.prog 33 #[.pointer (some ⟨g, 0, none⟩), v', u'] x fun e w' => ∃ n', n' ≤ m + 3 ∧ e = .returned (.agg (keyC dx)) ∧ LogR w x g n' w') := fun x g m v' u' hr hm hk hu => by
    rw [hdx]
    exact refMacSum_any w x g m v' u' key (a ++ b) hr hm hk (by omega) hu (by simp; omega)
  have HR2 : Hid (∀ x g m v' u', LogR w x g m x → m ≤ 100000000 → Bs x v' key → Bs x u' a → Calls Tryd.prog 33 #[.pointer (some ⟨g, 0, none⟩), v', u'] x fun e w' => ∃ n', n' ≤ m + 3 ∧ e = .returned (.agg (keyC dy)) ∧ LogR w x g n' w') := fun x g m v' u' hr hm hk hu => by
    rw [hdy]
    exact refMacSum_any w x g m v' u' key a hr hm hk (by omega) hu (by omega)
  clear hdx hdy
  go_enter Tryd.func9, Tryd.ntmps9
  go_wp2_with fail
  refine (macAwake_true _ HQ.out).mono ?_
  intro e w1 h
  obtain ⟨he, b1⟩ := h
  subst he
  have B1 := Lib.hid b1
  clear b1
  go_wp2_with fail
  refine (New_any _ false).mono ?_
  intro e w2 h
  obtain ⟨g, he, n2⟩ := h
  subst he
  have R2 := Lib.hid (Run.new HQ.out B1.out n2)
  have hg2 : g < w2.heap.size := n2.row.lt
  clear n2 B1
  go_wp2_with ((with_reducible refine wpList_box_row (o := ⟨some 29, _, _, _, _, _⟩) rfl 41 (.tmp 28) rfl (logC 0) (by with_unfolding_all rfl) ?_); intro gl w3 n3)
  have R3 := Lib.hid (R2.out.kept n3.below)
  have L3 := Lib.hid n3.row
  have hgl : gl ≠ g := by have := n3.spot; omega
  have hgw : w.heap.size ≤ gl := by have := n3.spot; have := R2.out.below.size; omega
  have s3 := n3.below.size
  clear n3 R2
  refine (HM.out _ g 0 _ _ _ (by exact (R3.out.kept (alloc_below _ _)).self) (by omega) (by exact (HVK.out.below R3.out.below).below (alloc_below _ _)) (by exact Bss.two _ _ _ _ _ _ (HVA.out.below R3.out.below) (HVB.out.below R3.out.below)) (by omega)).mono ?_
  intro e w4 h
  obtain ⟨na, hna, he, r4⟩ := h
  subst he
  have R4 := Lib.hid r4.self
  have L4 := Lib.hid (r4.other (L3.out.kept (alloc_below _ _)) hgl)
  have s4 := Nat.le_trans s3 (Nat.le_trans (alloc_below w3 (.cells #[.slice AA a.length AC, .slice BA b.length BC] 27)).size r4.size)
  clear r4 R3 L3
  go_wp2_with (first
    | ((with_reducible refine wpList_alloc_row (o := ⟨some 10, _, _, _, _, _⟩) rfl 33 rfl (keyC zeroKey) Tryd.zeroK ?_); intro g10 w5 n5)
    | ((with_reducible refine wpList_store_row (o := ⟨none, _, _, _, _, _⟩) rfl 33 (.tmp 10) (.tmp 35) rfl g10 33 _ (keyC dx) (by with_unfolding_all rfl) (by with_unfolding_all rfl) n5.row (keyC_same zeroKey_length LX.out) (Tryd.sizeKey dx LX.out) (keyC_one dx) ?_); intro w6 p6; have b6 := (laid_put n5 p6).1; have R6 := Lib.hid (R4.out.kept b6); have L6 := Lib.hid (L4.out.kept b6); have X6 := Lib.hid p6.row; have hxg : g10 ≠ g := (by have := n5.spot; omega); have hxl : g10 ≠ gl := (by have := n5.spot; have := L4.out.lt; omega); have s6 := b6.size; clear n5 p6 b6 R4 L4))
  refine (HE.out _ g na _ _ (by exact R6.out.self) (by omega) (by exact HVK.out.below R6.out.below) (by exact HVA.out.below R6.out.below)).mono ?_
  intro e w7 h
  obtain ⟨nb, hnb, he, r7⟩ := h
  subst he
  have R7 := Lib.hid r7.self
  have L7 := Lib.hid (r7.other L6.out hgl)
  have X7 := Lib.hid (r7.other X6.out hxg)
  have s7 := r7.size
  clear r7 R6 L6 X6
  go_wp2_with (first
    | ((with_reducible refine wpList_alloc_row (o := ⟨some 11, _, _, _, _, _⟩) rfl 33 rfl (keyC zeroKey) Tryd.zeroK ?_); intro g11 w8 n8)
    | ((with_reducible refine wpList_store_row (o := ⟨none, _, _, _, _, _⟩) rfl 33 (.tmp 11) (.tmp 39) rfl g11 33 _ (keyC dy) (by with_unfolding_all rfl) (by with_unfolding_all rfl) n8.row (keyC_same zeroKey_length LY.out) (Tryd.sizeKey dy LY.out) (keyC_one dy) ?_); intro w9 p9; have b9 := (laid_put n8 p9).1; have B9 := Lib.hid (below_size R7.out.below b9); have L9 := Lib.hid (L7.out.kept b9); have X9 := Lib.hid (X7.out.kept b9); have Y9 := Lib.hid p9.row; have hyl : g11 ≠ gl := (by have := n8.spot; have := L7.out.lt; omega); clear n8 p9 b9 R7 L7 X7))
  have G9 := Lib.hid (LogR.new B9.out L9.out hgw)
  have EX : Hid (∀ W, (Op.equalIn 10000 33 (.agg (keyC dx)) (.agg (keyC dx))).run Tryd.prog W = .ok true W) := fun W => by
    have := Tryd.eqKeyIn2 dx dx LX.out LX.out W
    rwa [beq_self_eq_true] at this
  have EY : Hid (∀ W, (Op.equalIn 10000 33 (.agg (keyC dy)) (.agg (keyC dy))).run Tryd.prog W = .ok true W) := fun W => by
    have := Tryd.eqKeyIn2 dy dy LY.out LY.out W
    rwa [beq_self_eq_true] at this
  clear HM HE L9
  refine plain_region (S := fun W' => RowAt W' g10 33 (keyC dx) ∧ RowAt W' g11 33 (keyC dy)) (fin := fun _ => false) (by kernel_rfl) ?_
  have hS : RowAt w9.drew g10 33 (keyC dx) ∧ RowAt w9.drew g11 33 (keyC dy) := ⟨X9.out, Y9.out⟩
  change walkS _ _ _ _ _ _ 22 _ _ _
  refine walkS_take (i := 0) (oi := ⟨some 40, _, _, _, _, _⟩) (v := .bool true) rfl (by kernel_rfl) (by kernel_rfl) (fun _ _ _ h => h) _ _ _ _ (by kernel_rfl) (by kernel_rfl) (Or.inl ⟨by rfl, fun w' hS' => (by clear hS hS'; go_simp)⟩) hS ?_
  simp only [Act.put, List.setIfInBounds_toArray, List.set_cons_zero, List.set_cons_succ]
  refine walkS_take (i := 1) (oi := ⟨some 41, _, _, _, _, _⟩) (v := .bool true) rfl (by kernel_rfl) (by kernel_rfl) (fun _ _ _ h => h) _ _ _ _ (by kernel_rfl) (by kernel_rfl) (Or.inl ⟨by rfl, fun w' hS' => (by clear hS hS'; go_simp)⟩) hS ?_
  simp only [Act.put, List.setIfInBounds_toArray, List.set_cons_zero, List.set_cons_succ]
  refine walkS_take (i := 2) (oi := ⟨some 42, _, _, _, _, _⟩) (v := .agg (keyC dx)) rfl (by kernel_rfl) (by kernel_rfl) (fun _ _ _ h => h) _ _ _ _ (by kernel_rfl) (by kernel_rfl) (Or.inl ⟨by go_simp, fun w' hS' => run_load_row _ (.tmp 10) rfl g10 rfl _ (keyC dx) (0, 0) (.array 32 5) hS'.1 Tryd.underlying33 rfl (Tryd.sizeKey dx LX.out)⟩) hS ?_
  simp only [Act.put, List.setIfInBounds_toArray, List.set_cons_zero, List.set_cons_succ]
  refine walkS_take (i := 3) (oi := ⟨some 43, _, _, _, _, _⟩) (v := .pointer (some ⟨gl, 0, none⟩)) rfl (by kernel_rfl) (by kernel_rfl) (fun _ _ _ h => h) _ _ _ _ (by kernel_rfl) (by kernel_rfl) (Or.inl ⟨by go_simp, fun w' hS' => (by clear hS hS'; go_simp)⟩) hS ?_
  simp only [Act.put, List.setIfInBounds_toArray, List.set_cons_zero, List.set_cons_succ]
  refine walkS_take (i := 4) (oi := ⟨some 44, _, _, _, _, _⟩) (v := .slice KA key.length KC) rfl (by kernel_rfl) (by kernel_rfl) (fun _ _ _ h => h) _ _ _ _ (by kernel_rfl) (by kernel_rfl) (Or.inl ⟨by go_simp, fun w' hS' => (by clear hS hS'; go_simp)⟩) hS ?_
  simp only [Act.put, List.setIfInBounds_toArray, List.set_cons_zero, List.set_cons_succ]
  refine walkS_take (i := 6) (oi := ⟨some 46, _, _, _, _, _⟩) (v := .slice AA a.length AC) rfl (by kernel_rfl) (by kernel_rfl) (fun _ _ _ h => h) _ _ _ _ (by kernel_rfl) (by kernel_rfl) (Or.inl ⟨by go_simp, fun w' hS' => (by clear hS hS'; go_simp)⟩) hS ?_
  simp only [Act.put, List.setIfInBounds_toArray, List.set_cons_zero, List.set_cons_succ]
  refine walkS_take (i := 8) (oi := ⟨some 48, _, _, _, _, _⟩) (v := .slice BA b.length BC) rfl (by kernel_rfl) (by kernel_rfl) (fun _ _ _ h => h) _ _ _ _ (by kernel_rfl) (by kernel_rfl) (Or.inl ⟨by go_simp, fun w' hS' => (by clear hS hS'; go_simp)⟩) hS ?_
  simp only [Act.put, List.setIfInBounds_toArray, List.set_cons_zero, List.set_cons_succ]
  refine walkS_onlyG3 (i := 5) (o := ⟨some 45, _, _, _, _, _⟩) (by kernel_rfl) rfl (by go_simp) fun K hK => ?_
  have HS := Lib.hid hS
  clear hS
  go_simp
  have B10 := Lib.hid (((Below.refl w9.heap.size w9).drew).alloc (Nat.le_refl _) (.cells #[] 5))
  have hS := And.intro (X9.out.kept B10.out) (Y9.out.kept B10.out)
  refine hK _ _ (.inr hS) ?_
  clear hK K HS
  refine walkS_onlyG3 (i := 7) (o := ⟨some 47, _, _, _, _, _⟩) (by kernel_rfl) rfl (by go_simp) fun K hK => ?_
  refine wp_appG (.tmp 45) (.tmp 46) 27 rfl w9.heap.size 5 Tryd.infoB Tryd.underlying27 _ _ [] a rfl rfl (OwnB.empty2 w9.drew w9.heap.size _ (Nat.le_refl _)) ((HVA.out.below B9.out).below B10.out) (by simp; omega) B10.out.size ?_
  intro v47 w11 own47 gr47
  have B11 := Lib.hid (B10.out.grown gr47 B10.out.size (OwnB.empty2 w9.drew w9.heap.size 5 (Nat.le_refl _)).rows)
  have O47 := Lib.hid own47
  clear own47 gr47 hS
  have hS := And.intro (X9.out.kept B11.out) (Y9.out.kept B11.out)
  refine hK _ _ (.inr hS) ?_
  clear hK K B10
  simp only [Act.put, List.setIfInBounds_toArray, List.set_cons_zero, List.set_cons_succ]
  refine walkS_onlyG3 (i := 9) (o := ⟨some 49, _, _, _, _, _⟩) (by kernel_rfl) rfl (by go_simp) fun K hK => ?_
  refine wp_appG (.tmp 47) (.tmp 48) 27 rfl w9.heap.size 5 Tryd.infoB Tryd.underlying27 _ _ ([] ++ a) b rfl rfl O47.out ((HVB.out.below B9.out).below B11.out) (by simp; omega) B11.out.size ?_
  intro v49 w12 own49 gr49
  have B12 := Lib.hid (B11.out.grown gr49 B11.out.size O47.out.rows)
  have U49 := Lib.hid own49.bs
  clear own49 gr49 hS O47
  have hS := And.intro (X9.out.kept B12.out) (Y9.out.kept B12.out)
  refine hK _ _ (.inr hS) ?_
  clear hK K B11
  simp only [Act.put, List.setIfInBounds_toArray, List.set_cons_zero, List.set_cons_succ]
  refine walkS_onlyG3 (i := 10) (o := ⟨some 50, _, _, _, _, _⟩) (by kernel_rfl) rfl (by go_simp) fun K hK => ?_
  have HS := Lib.hid hS
  clear hS
  go_simp
  have G12 := Lib.hid (G9.out.kept B12.out)
  refine (HR1.out w12 gl 0 _ _ G12.out.self (by omega) ((HVK.out.below B9.out).below B12.out) U49.out).mono ?_
  intro e w13 h
  obtain ⟨nc, hnc, he, r13⟩ := h
  subst he
  have G13 := Lib.hid r13.self
  have hS := And.intro (r13.other HS.out.1 hxl) (r13.other HS.out.2 hyl)
  refine hK _ _ (.inr hS) ?_
  clear hK K r13 HS G12 B12 U49
  refine walkS_take (i := 11) (oi := ⟨some 51, _, _, _, _, _⟩) (v := .bool true) rfl (by kernel_rfl) (by kernel_rfl) (fun _ _ _ h => h) _ _ _ _ (by kernel_rfl) (by kernel_rfl) (Or.inl ⟨by go_simp, fun w' hS' => (by have he := EX.out; have hgd := Tryd.eqGuardKey2; clear hS hS'; go_simp)⟩) hS ?_
  simp only [Act.put, List.setIfInBounds_toArray, List.set_cons_zero, List.set_cons_succ]
  refine walkS_take (i := 12) (oi := ⟨some 52, _, _, _, _, _⟩) (v := .bool true) rfl (by kernel_rfl) (by kernel_rfl) (fun _ _ _ h => h) _ _ _ _ (by kernel_rfl) (by kernel_rfl) (Or.inl ⟨by rfl, fun w' hS' => (by clear hS hS'; go_simp)⟩) hS ?_
  simp only [Act.put, List.setIfInBounds_toArray, List.set_cons_zero, List.set_cons_succ]
  refine walkS_take (i := 13) (oi := ⟨some 53, _, _, _, _, _⟩) (v := .bool true) rfl (by kernel_rfl) (by kernel_rfl) (fun _ _ _ h => h) _ _ _ _ (by kernel_rfl) (by kernel_rfl) (Or.inl ⟨by rfl, fun w' hS' => (by clear hS hS'; go_simp)⟩) hS ?_
  simp only [Act.put, List.setIfInBounds_toArray, List.set_cons_zero, List.set_cons_succ]
  refine walkS_take (i := 14) (oi := ⟨some 54, _, _, _, _, _⟩) (v := .agg (keyC dy)) rfl (by kernel_rfl) (by kernel_rfl) (fun _ _ _ h => h) _ _ _ _ (by kernel_rfl) (by kernel_rfl) (Or.inl ⟨by go_simp, fun w' hS' => run_load_row _ (.tmp 11) rfl g11 rfl _ (keyC dy) (0, 0) (.array 32 5) hS'.2 Tryd.underlying33 rfl (Tryd.sizeKey dy LY.out)⟩) hS ?_
  simp only [Act.put, List.setIfInBounds_toArray, List.set_cons_zero, List.set_cons_succ]
  refine walkS_take (i := 15) (oi := ⟨some 55, _, _, _, _, _⟩) (v := .pointer (some ⟨gl, 0, none⟩)) rfl (by kernel_rfl) (by kernel_rfl) (fun _ _ _ h => h) _ _ _ _ (by kernel_rfl) (by kernel_rfl) (Or.inl ⟨by go_simp, fun w' hS' => (by clear hS hS'; go_simp)⟩) hS ?_
  simp only [Act.put, List.setIfInBounds_toArray, List.set_cons_zero, List.set_cons_succ]
  refine walkS_take (i := 16) (oi := ⟨some 56, _, _, _, _, _⟩) (v := .slice KA key.length KC) rfl (by kernel_rfl) (by kernel_rfl) (fun _ _ _ h => h) _ _ _ _ (by kernel_rfl) (by kernel_rfl) (Or.inl ⟨by go_simp, fun w' hS' => (by clear hS hS'; go_simp)⟩) hS ?_
  simp only [Act.put, List.setIfInBounds_toArray, List.set_cons_zero, List.set_cons_succ]
  refine walkS_take (i := 17) (oi := ⟨some 57, _, _, _, _, _⟩) (v := .slice AA a.length AC) rfl (by kernel_rfl) (by kernel_rfl) (fun _ _ _ h => h) _ _ _ _ (by kernel_rfl) (by kernel_rfl) (Or.inl ⟨by go_simp, fun w' hS' => (by clear hS hS'; go_simp)⟩) hS ?_
  simp only [Act.put, List.setIfInBounds_toArray, List.set_cons_zero, List.set_cons_succ]
  refine walkS_onlyG3 (i := 18) (o := ⟨some 58, _, _, _, _, _⟩) (by kernel_rfl) rfl (by go_simp) fun K hK => ?_
  have HS := Lib.hid hS
  clear hS
  go_simp
  refine (HR2.out w13 gl nc _ _ G13.out (by omega) (HVK.out.below G13.out.below) (HVA.out.below G13.out.below)).mono ?_
  intro e w14 h
  obtain ⟨nd, hnd, he, r14⟩ := h
  subst he
  have B14 := Lib.hid r14.below
  have hS := And.intro (r14.other HS.out.1 hxl) (r14.other HS.out.2 hyl)
  refine hK _ _ (.inr hS) ?_
  clear hK K r14 HS G13
  refine walkS_take (i := 19) (oi := ⟨some 59, _, _, _, _, _⟩) (v := .bool true) rfl (by kernel_rfl) (by kernel_rfl) (fun _ _ _ h => h) _ _ _ _ (by kernel_rfl) (by kernel_rfl) (Or.inl ⟨by go_simp, fun w' hS' => (by have he := EY.out; have hgd := Tryd.eqGuardKey2; clear hS hS'; go_simp)⟩) hS ?_
  simp only [Act.put, List.setIfInBounds_toArray, List.set_cons_zero, List.set_cons_succ]
  refine walkS_take (i := 20) (oi := ⟨some 60, _, _, _, _, _⟩) (v := .bool true) rfl (by kernel_rfl) (by kernel_rfl) (fun _ _ _ h => h) _ _ _ _ (by kernel_rfl) (by kernel_rfl) (Or.inl ⟨by rfl, fun w' hS' => (by clear hS hS'; go_simp)⟩) hS ?_
  simp only [Act.put, List.setIfInBounds_toArray, List.set_cons_zero, List.set_cons_succ]
  refine walkS_take (i := 21) (oi := ⟨some 6, _, _, _, _, _⟩) (v := .bool true) rfl (by kernel_rfl) (by kernel_rfl) (fun _ _ _ h => h) _ _ _ _ (by kernel_rfl) (by kernel_rfl) (Or.inl ⟨by rfl, fun w' hS' => (by clear hS hS'; go_simp)⟩) hS ?_
  simp only [Act.put, List.setIfInBounds_toArray, List.set_cons_zero, List.set_cons_succ]
  refine walkS_done (by kernel_rfl) ?_ _
  go_wp2
  go_ret
  exact ⟨rfl, B14.out⟩
end Go.Proofs.YtdojaighchgghaaDoor
