/-
  Texts that belong together, merged: CodQ, CodF, CodT. Conditions: as each theorem names them.
-/
import Derived.Test.YtjhhpakaemnemaaQCorAJ
import Derived.Test.YtjhhpakaemnemaaQCorAE
import Derived.Test.YtjhhpakaemnemaaQCorAC
section
namespace Go.Proofs.Ytjhhpakaemnemaa
open Go.RowKit
set_option linter.unusedVariables false
set_option maxRecDepth 20000

set_option maxHeartbeats 2000000 in
theorem refKeys_same (w : World) (va vb : Value) (L : List (List UInt8)) (ha : Kl w va L) (hb : Kl w vb L) (hL1 : L.length ≤ 1000) :
    Calls Try.prog 25 #[va, vb] w fun e w' => e = .returned (.bool true) ∧ Below w.heap.size w w' := by
  obtain ⟨A, ca, rfl, p1, p2, p3, p4⟩ := ha
  obtain ⟨B, cb, rfl, q1, q2, _, q4⟩ := hb
  have HL := Lib.hid p3
  unfold maxLen at p2 q2
  obtain ⟨n, hn⟩ : ∃ n, n = L.length := ⟨_, rfl⟩
  rw [← hn] at p1 p4 q1 q4 hL1 ⊢
  have HLN := Lib.hid hn
  clear hn p3
  by_cases h0 : 0 < n
  · obtain ⟨ga, oa, rfl, hca⟩ := p4 h0
    obtain ⟨gb, ob, rfl, hcb⟩ := q4 h0
    have RA0 : Hid (∀ (k : Nat) (l : List UInt8), L[k]? = some l → ∀ W, Below w.heap.size w W → W.rangeAt ga (oa + k * 32) (cellsB l)) := fun k l hk W hW j u hj => (hW.cell (World.block_lt_of_cell? w _ (hca k l hk j u hj))).trans (hca k l hk j u hj)
    have RB0 : Hid (∀ (k : Nat) (l : List UInt8), L[k]? = some l → ∀ W, Below w.heap.size w W → W.rangeAt gb (ob + k * 32) (cellsB l)) := fun k l hk W hW j u hj => (hW.cell (World.block_lt_of_cell? w _ (hcb k l hk j u hj))).trans (hcb k l hk j u hj)
    clear p4 q4 hca hcb h0
    go_enter Try.func25, Try.ntmps25
    go_wp2_with fail
    go_loopw [5] (fun v wr => ∃ k : Nat, k ≤ n ∧ v = .int .i64 (k : Int) ∧ Below w.heap.size w wr) (fun v _ => n - (intOf v).toNat)
    case atStart => exact ⟨0, by omega, rfl, Below.refl _ _⟩
    case round =>
      obtain ⟨k, hk, rfl, hE⟩ := hrel
      have E := Lib.hid hE
      clear hE
      by_cases hlt : k < n
      · have hlt2 : (k : Int) < (n : Int) := by omega
        have hw1 : IntKind.i64.wrap ((k : Int) + 1) = (k : Int) + 1 := IntWalk.i64_in _ (by omega)
        have hq0 : ¬ ((k : Int) < 0) := by omega
        obtain ⟨l, hl⟩ : ∃ l, L[k]? = some l := ⟨_, List.getElem?_eq_getElem (by rw [← HLN.out]; exact hlt)⟩
        have LL : Hid (l.length = 32) := HL.out l (List.mem_of_getElem? hl)
        have RA := Lib.hid (RA0.out k l hl)
        have RB := Lib.hid (RB0.out k l hl)
        have heq := fun W => Try.eqKeyIn l l LL.out LL.out W
        rw [beq_self_eq_true] at heq
        have HEQ := Lib.hid heq
        clear hl RA0 RB0 HL heq
        go_wp2_with fail
        refine region_class (fun W => Below w.heap.size w W) E.out.drew (by kernel_rfl) (by kernel_rfl) ?_
        clear E
        refine q_run (by rfl) (v := .slice (some ⟨ga, oa, none⟩) n ca) (fun W hW => by first | rfl | (clear hW; go_simp)) ?_
        try simp only [Act.put, List.setIfInBounds_toArray, List.set_cons_zero, List.set_cons_succ]
        refine q_run (by rfl) (v := .int .i64 (k : Int)) (fun W hW => by first | rfl | (clear hW; go_simp)) ?_
        try simp only [Act.put, List.setIfInBounds_toArray, List.set_cons_zero, List.set_cons_succ]
        refine q_run (by rfl) (v := .pointer (some ⟨ga, oa + k * 32, none⟩)) (fun W hW => by first | rfl | (clear hW; go_simp)) ?_
        try simp only [Act.put, List.setIfInBounds_toArray, List.set_cons_zero, List.set_cons_succ]
        refine q_run (by rfl) (v := .agg (keyC l)) (fun W hW => run_keyL 52 (.tmp 19) rfl ga (oa + k * 32) rfl l _ (RA.out W hW) Try.underlying52 rfl (Try.sizeKeyM l LL.out)) ?_
        try simp only [Act.put, List.setIfInBounds_toArray, List.set_cons_zero, List.set_cons_succ]
        refine q_run (by rfl) (v := .slice (some ⟨gb, ob, none⟩) n cb) (fun W hW => by first | rfl | (clear hW; go_simp)) ?_
        try simp only [Act.put, List.setIfInBounds_toArray, List.set_cons_zero, List.set_cons_succ]
        refine q_run (by rfl) (v := .int .i64 (k : Int)) (fun W hW => by first | rfl | (clear hW; go_simp)) ?_
        try simp only [Act.put, List.setIfInBounds_toArray, List.set_cons_zero, List.set_cons_succ]
        refine q_run (by rfl) (v := .pointer (some ⟨gb, ob + k * 32, none⟩)) (fun W hW => by first | rfl | (clear hW; go_simp)) ?_
        try simp only [Act.put, List.setIfInBounds_toArray, List.set_cons_zero, List.set_cons_succ]
        refine q_run (by rfl) (v := .agg (keyC l)) (fun W hW => run_keyL 52 (.tmp 23) rfl gb (ob + k * 32) rfl l _ (RB.out W hW) Try.underlying52 rfl (Try.sizeKeyM l LL.out)) ?_
        try simp only [Act.put, List.setIfInBounds_toArray, List.set_cons_zero, List.set_cons_succ]
        refine q_run (by rfl) (v := .bool false) (fun W hW => by have he := HEQ.out; have hgd := Try.eqGuardKey; clear hW; go_simp) ?_
        try simp only [Act.put, List.setIfInBounds_toArray, List.set_cons_zero, List.set_cons_succ]
        refine wpQuiet_nil ?_
        intro w7 hw7
        have E7 := Lib.hid hw7
        clear hw7
        go_wp2_with fail
        refine ⟨⟨k + 1, by omega, by congr 1, E7.out⟩, ?_⟩
        show n - ((k : Int) + 1).toNat < n - (k : Int).toNat
        omega
      · have hk2 : k = n := by omega
        clear hlt
        subst hk2
        go_wp2_with fail
        go_ret
        exact ⟨rfl, E.out⟩
  · obtain rfl : n = 0 := by omega
    clear p4 q4 h0
    go_enter Try.func25, Try.ntmps25
    go_wp2_with fail
    go_loopw [5] (fun v wr => v = .int .i64 0 ∧ Below w.heap.size w wr) (fun v _ => 0)
    case atStart => exact ⟨rfl, Below.refl _ _⟩
    case round =>
      obtain ⟨rfl, hE⟩ := hrel
      have E := Lib.hid hE
      clear hE
      go_wp2_with fail
      go_ret
      exact ⟨rfl, E.out⟩

theorem wpList_oneKey {w : World} {ops : Array Oper} {rest : List Oper} {o : Oper} {a : Act} {Q : Exit → Act → World → Prop} (hgd : o.guard = none) (x : Operand) (ho : o.op = .buildSlice 55 1 #[(0, x)]) (l : List UInt8) (hl : l.length = 32) (hx : a.eval x = .agg (keyC l))
    (h : ∀ g w', RowAt w' g 52 (keyC l) → Below w.heap.size w w' → wpList Try.prog ops Q rest (a.put o.dst (.slice (some ⟨g, 0, none⟩) 1 1)) w') : wpList Try.prog ops Q (o :: rest) a w :=
  wpList_plain hgd fun _ hK => wp_oneKey x ho l hl hx (hK _ _ (h w.heap.size _ (RowAt.new w _ _) (alloc_below w _)))
theorem wpList_appKeyO {w0 w : World} {ops : Array Oper} {rest : List Oper} {o : Oper} {a : Act} {Q : Exit → Act → World → Prop} (hgd : o.guard = none) (s x : Operand)
    (ho : o.op = .call { callee := .builtin .append, args := #[s, x], argTypes := #[55, 55] })
    (v : Value) (ls : List (List UInt8)) (l : List UInt8) (n b : Nat) (hs : a.eval s = v) (hx : a.eval x = .slice (some ⟨b, 0, none⟩) 1 1) (hrow : RowAt w b 52 (keyC l)) (hl : l.length = 32) (hls : n = ls.length) (hlen : ls.length ≤ 1000)
    (hown : w.ownsRow w0.heap.size 52 32 v n (cellsB ls.flatten)) (hb : Below w0.heap.size w0 w)
    (h : ∀ v' w', w'.ownsRow w0.heap.size 52 32 v' (n + 1) (cellsB (ls ++ [l]).flatten) → Below w0.heap.size w0 w' → wpList Try.prog ops Q rest (a.put o.dst v') w') : wpList Try.prog ops Q (o :: rest) a w := by
  subst hls
  refine wpList_plain hgd fun _ hK => ?_
  obtain ⟨i0, hi0, hz0, hz1, hz2⟩ := info_parts Try.infoKey
  refine wp_append_own w s x 55 ho w0.heap.size 52 i0 (.agg (keyC zeroKey)) 32 32 Try.underlying55 hi0 hz0 hz1 hz2 rfl (by decide) v ls.length (cellsB ls.flatten) hs hown ⟨b, 0, none⟩ 1 1 (cellsB l) hx (by rw [cellsB_length, hl]) (fun j y hj => ?_) (cellsB_one l) (by unfold maxLen; omega) (by omega) hb.size fun v2 W2 ho2 hg2 _ => ?_
  · have hadd : (⟨b, 0, none⟩ : Addr).add j = ⟨b, j, none⟩ := by unfold Addr.add; split <;> simp_all
    rw [hadd, hrow.cell j]
    simpa [keyC] using hj
  · refine hK _ _ (h v2 W2 ?_ (hb.grown hg2 hb.size fun k e => (World.ownsRow.lt hown k e).1))
    rw [List.flatten_append, List.flatten_singleton, cellsB_append]
    exact ho2
end Go.Proofs.Ytjhhpakaemnemaa
end
section
namespace Go.Proofs.Ytjhhpakaemnemaa
open Go.RowKit
set_option linter.unusedVariables false
set_option maxRecDepth 20000

theorem walkS_onlyH {P : Program} {md : Region.Mode} {ops : Array Oper} {Q : Exit → Act → World → Prop} {S : World → Prop} {fin : Nat → Bool} {i : Nat} {o : Oper} {m : Nat} {listed : Array Bool} {a : Act} {w : World} (hr : Region.ready md ops listed = [i]) (ho : ops[i]? = some o) (hw : Region.wanted o (yielded ops a.tmps) = true)
    (h : ∀ K : Act → World → Prop, (∀ a' w', (fin i = true ∨ S w') → walkS P md ops Q S fin m (listed.setIfInBounds i true) a' w' → K a' w') → o.wp P a w K Q) : walkS P md ops Q S fin (m + 1) listed a w := by
  refine ⟨fun h0 => by simp [hr] at h0, fun j hj => ?_⟩
  rw [hr] at hj
  obtain rfl : j = i := by simpa using hj
  unfold wpOp
  rw [ho]
  simp only [hw, if_true]
  exact .inl (h _ (fun a' w' h1 h2 => ⟨h1, h2⟩))
set_option maxHeartbeats 8000000 in
theorem refAlike_same (w : World) (va vb : Value) (its : List It) (ha : Its w va its) (hb : Its w vb its) (hn : its.length ≤ 1000) (hk : ∀ x ∈ its, x.l.length ≤ 1000) :
    Calls Try.prog 17 #[va, vb] w fun e w' => e = .returned (.bool true) ∧ Below w.heap.size w w' := by
  obtain ⟨bv, lv, ⟨A, c, rfl, p1, p2, p3⟩, hI⟩ := ha
  obtain ⟨bv2, lv2, ⟨B, c2, rfl, r1, r2, r3⟩, hJ⟩ := hb
  have HI := Lib.hid hI
  have HJ := Lib.hid hJ
  have HKL := Lib.hid hk
  unfold maxLen at p2 r2
  obtain ⟨n, hnn⟩ : ∃ n, n = its.length := ⟨_, rfl⟩
  have HN := Lib.hid hnn
  have P3 := Lib.hid p3
  have R3 := Lib.hid r3
  rw [← hnn] at p1 r1 hn ⊢
  clear hI hJ hk p3 r3 hnn
  go_enter Try.func17, Try.ntmps17
  go_wp2_with fail
  go_loopw [5] (fun v wr => ∃ k : Nat, k ≤ n ∧ v = .int .i64 (k : Int) ∧ Below w.heap.size w wr) (fun v _ => n - (intOf v).toNat)
  case atStart => exact ⟨0, by omega, rfl, Below.refl _ _⟩
  case round =>
    obtain ⟨j, hj, rfl, hE⟩ := hrel
    have HB := Lib.hid hE
    clear hE
    by_cases hlt : j < n
    · have hlt2 : (j : Int) < (n : Int) := by omega
      have hw1 : IntKind.i64.wrap ((j : Int) + 1) = (j : Int) + 1 := IntWalk.i64_in _ (by omega)
      have hq0 : ¬ ((j : Int) < 0) := by omega
      obtain ⟨x, hx⟩ : ∃ x, its[j]? = some x := ⟨_, List.getElem?_eq_getElem (by rw [← HN.out]; exact hlt)⟩
      obtain ⟨hb0, hk0, _⟩ := HI.out j x hx
      obtain ⟨hb1, hk1, _⟩ := HJ.out j x hx
      have HXL := Lib.hid (HKL.out x (List.mem_of_getElem? hx))
      obtain ⟨b0, off, rfl, hc⟩ := Its.cells (v := .slice A its.length c) (c := c) P3.out j x hx
      obtain ⟨b1, of1, rfl, hc1⟩ := Its.cells (v := .slice B its.length c2) (c := c2) R3.out j x hx
      have HC := Lib.hid hc
      have HC1 := Lib.hid hc1
      obtain ⟨BV, hBV⟩ : ∃ BV, BV = bv j := ⟨_, rfl⟩
      obtain ⟨LV, hLV⟩ : ∃ LV, LV = lv j := ⟨_, rfl⟩
      obtain ⟨BV2, hBV2⟩ : ∃ BV, BV = bv2 j := ⟨_, rfl⟩
      obtain ⟨LV2, hLV2⟩ : ∃ LV, LV = lv2 j := ⟨_, rfl⟩
      rw [← hBV, ← hLV] at HC
      rw [← hBV2, ← hLV2] at HC1
      have HBB : Hid (Bs w BV x.b) := hBV ▸ hb0
      have HLL : Hid (Kl w LV x.l) := hLV ▸ hk0
      have HBB2 : Hid (Bs w BV2 x.b) := hBV2 ▸ hb1
      have HLL2 : Hid (Kl w LV2 x.l) := hLV2 ▸ hk1
      clear hc hc1 P3 R3 hx hb0 hk0 hb1 hk1 hBV hLV hBV2 hLV2 HI HJ HN HKL
      obtain ⟨BA, bc, rfl, _, _, _⟩ := HBB.out
      obtain ⟨LA, lc, rfl, _, _, _, _⟩ := HLL.out
      obtain ⟨BA2, bc2, rfl, _, _, _⟩ := HBB2.out
      obtain ⟨LA2, lc2, rfl, _, _, _, _⟩ := HLL2.out
      go_wp2_with fail
      refine plain_region (S := fun W => Below w.heap.size w W) (fin := fun _ => false) (by kernel_rfl) ?_
      have hS : Below w.heap.size w wr.drew := HB.out.drew
      change walkS _ _ _ _ _ _ 52 _ _ _
      refine walkS_take (i := 0) (oi := ⟨some 17, _, _, _, _, _⟩) (v := .slice (some ⟨b0, off, none⟩) n c) rfl (by kernel_rfl) (by kernel_rfl) (fun _ _ _ h => h) _ _ _ _ (by kernel_rfl) (by kernel_rfl) (Or.inl ⟨by rfl, fun w' hS' => (by clear hS hS'; go_simp)⟩) hS ?_
      try simp only [Act.put, List.setIfInBounds_toArray, List.set_cons_zero, List.set_cons_succ]
      refine walkS_take (i := 1) (oi := ⟨some 18, _, _, _, _, _⟩) (v := .int .i64 (j : Int)) rfl (by kernel_rfl) (by kernel_rfl) (fun _ _ _ h => h) _ _ _ _ (by kernel_rfl) (by kernel_rfl) (Or.inl ⟨by rfl, fun w' hS' => (by clear hS hS'; go_simp)⟩) hS ?_
      try simp only [Act.put, List.setIfInBounds_toArray, List.set_cons_zero, List.set_cons_succ]
      refine walkS_take (i := 2) (oi := ⟨some 19, _, _, _, _, _⟩) (v := .pointer (some ⟨b0, off + j * 4, none⟩)) rfl (by kernel_rfl) (by kernel_rfl) (fun _ _ _ h => h) _ _ _ _ (by kernel_rfl) (by kernel_rfl) (Or.inl ⟨by rfl, fun w' hS' => (by clear hS hS'; go_simp)⟩) hS ?_
      try simp only [Act.put, List.setIfInBounds_toArray, List.set_cons_zero, List.set_cons_succ]
      refine walkS_take (i := 3) (oi := ⟨some 20, _, _, _, _, _⟩) (v := .pointer (some ⟨b0, off + j * 4, none⟩)) rfl (by kernel_rfl) (by kernel_rfl) (fun _ _ _ h => h) _ _ _ _ (by kernel_rfl) (by kernel_rfl) (Or.inl ⟨by rfl, fun w' hS' => (by clear hS hS'; go_simp)⟩) hS ?_
      try simp only [Act.put, List.setIfInBounds_toArray, List.set_cons_zero, List.set_cons_succ]
      refine walkS_take (i := 4) (oi := ⟨some 21, _, _, _, _, _⟩) (v := .int .i64 x.k) rfl (by kernel_rfl) (by kernel_rfl) (fun _ _ _ h => h) _ _ _ _ (by kernel_rfl) (by kernel_rfl) (Or.inl ⟨by rfl, fun w' hS' => (by have c0 := HC.out w' hS' 0 _ rfl; rw [Nat.add_zero] at c0; clear hS hS'; go_simp)⟩) hS ?_
      try simp only [Act.put, List.setIfInBounds_toArray, List.set_cons_zero, List.set_cons_succ]
      refine walkS_take (i := 5) (oi := ⟨some 22, _, _, _, _, _⟩) (v := .slice (some ⟨b1, of1, none⟩) n c2) rfl (by kernel_rfl) (by kernel_rfl) (fun _ _ _ h => h) _ _ _ _ (by kernel_rfl) (by kernel_rfl) (Or.inl ⟨by rfl, fun w' hS' => (by clear hS hS'; go_simp)⟩) hS ?_
      try simp only [Act.put, List.setIfInBounds_toArray, List.set_cons_zero, List.set_cons_succ]
      refine walkS_take (i := 6) (oi := ⟨some 23, _, _, _, _, _⟩) (v := .int .i64 (j : Int)) rfl (by kernel_rfl) (by kernel_rfl) (fun _ _ _ h => h) _ _ _ _ (by kernel_rfl) (by kernel_rfl) (Or.inl ⟨by rfl, fun w' hS' => (by clear hS hS'; go_simp)⟩) hS ?_
      try simp only [Act.put, List.setIfInBounds_toArray, List.set_cons_zero, List.set_cons_succ]
      refine walkS_take (i := 7) (oi := ⟨some 24, _, _, _, _, _⟩) (v := .pointer (some ⟨b1, of1 + j * 4, none⟩)) rfl (by kernel_rfl) (by kernel_rfl) (fun _ _ _ h => h) _ _ _ _ (by kernel_rfl) (by kernel_rfl) (Or.inl ⟨by rfl, fun w' hS' => (by clear hS hS'; go_simp)⟩) hS ?_
      try simp only [Act.put, List.setIfInBounds_toArray, List.set_cons_zero, List.set_cons_succ]
      refine walkS_take (i := 8) (oi := ⟨some 25, _, _, _, _, _⟩) (v := .pointer (some ⟨b1, of1 + j * 4, none⟩)) rfl (by kernel_rfl) (by kernel_rfl) (fun _ _ _ h => h) _ _ _ _ (by kernel_rfl) (by kernel_rfl) (Or.inl ⟨by rfl, fun w' hS' => (by clear hS hS'; go_simp)⟩) hS ?_
      try simp only [Act.put, List.setIfInBounds_toArray, List.set_cons_zero, List.set_cons_succ]
      refine walkS_take (i := 9) (oi := ⟨some 26, _, _, _, _, _⟩) (v := .int .i64 x.k) rfl (by kernel_rfl) (by kernel_rfl) (fun _ _ _ h => h) _ _ _ _ (by kernel_rfl) (by kernel_rfl) (Or.inl ⟨by rfl, fun w' hS' => (by have c0 := HC1.out w' hS' 0 _ rfl; rw [Nat.add_zero] at c0; clear hS hS'; go_simp)⟩) hS ?_
      try simp only [Act.put, List.setIfInBounds_toArray, List.set_cons_zero, List.set_cons_succ]
      refine walkS_take (i := 10) (oi := ⟨some 27, _, _, _, _, _⟩) (v := .bool false) rfl (by kernel_rfl) (by kernel_rfl) (fun _ _ _ h => h) _ _ _ _ (by kernel_rfl) (by kernel_rfl) (Or.inl ⟨by rfl, fun w' hS' => (by clear hS hS'; go_simp)⟩) hS ?_
      try simp only [Act.put, List.setIfInBounds_toArray, List.set_cons_zero, List.set_cons_succ]
      refine walkS_take (i := 11) (oi := ⟨some 28, _, _, _, _, _⟩) (v := .bool false) rfl (by kernel_rfl) (by kernel_rfl) (fun _ _ _ h => h) _ _ _ _ (by kernel_rfl) (by kernel_rfl) (Or.inl ⟨by rfl, fun w' hS' => (by clear hS hS'; go_simp)⟩) hS ?_
      try simp only [Act.put, List.setIfInBounds_toArray, List.set_cons_zero, List.set_cons_succ]
      refine walkS_take (i := 12) (oi := ⟨some 29, _, _, _, _, _⟩) (v := .slice (some ⟨b0, off, none⟩) n c) rfl (by kernel_rfl) (by kernel_rfl) (fun _ _ _ h => h) _ _ _ _ (by kernel_rfl) (by kernel_rfl) (Or.inl ⟨by rfl, fun w' hS' => (by clear hS hS'; go_simp)⟩) hS ?_
      try simp only [Act.put, List.setIfInBounds_toArray, List.set_cons_zero, List.set_cons_succ]
      refine walkS_take (i := 13) (oi := ⟨some 30, _, _, _, _, _⟩) (v := .int .i64 (j : Int)) rfl (by kernel_rfl) (by kernel_rfl) (fun _ _ _ h => h) _ _ _ _ (by kernel_rfl) (by kernel_rfl) (Or.inl ⟨by rfl, fun w' hS' => (by clear hS hS'; go_simp)⟩) hS ?_
      try simp only [Act.put, List.setIfInBounds_toArray, List.set_cons_zero, List.set_cons_succ]
      refine walkS_take (i := 14) (oi := ⟨some 31, _, _, _, _, _⟩) (v := .pointer (some ⟨b0, off + j * 4, none⟩)) rfl (by kernel_rfl) (by kernel_rfl) (fun _ _ _ h => h) _ _ _ _ (by kernel_rfl) (by kernel_rfl) (Or.inl ⟨by rfl, fun w' hS' => (by clear hS hS'; go_simp)⟩) hS ?_
      try simp only [Act.put, List.setIfInBounds_toArray, List.set_cons_zero, List.set_cons_succ]
      refine walkS_take (i := 15) (oi := ⟨some 32, _, _, _, _, _⟩) (v := .pointer (some ⟨b0, off + j * 4 + 1, none⟩)) rfl (by kernel_rfl) (by kernel_rfl) (fun _ _ _ h => h) _ _ _ _ (by kernel_rfl) (by kernel_rfl) (Or.inl ⟨by rfl, fun w' hS' => (by clear hS hS'; go_simp)⟩) hS ?_
      try simp only [Act.put, List.setIfInBounds_toArray, List.set_cons_zero, List.set_cons_succ]
      refine walkS_take (i := 16) (oi := ⟨some 33, _, _, _, _, _⟩) (v := .int .u64 (x.n : Int)) rfl (by kernel_rfl) (by kernel_rfl) (fun _ _ _ h => h) _ _ _ _ (by kernel_rfl) (by kernel_rfl) (Or.inl ⟨by rfl, fun w' hS' => (by have c0 := HC.out w' hS' 1 _ rfl; clear hS hS'; go_simp)⟩) hS ?_
      try simp only [Act.put, List.setIfInBounds_toArray, List.set_cons_zero, List.set_cons_succ]
      refine walkS_take (i := 17) (oi := ⟨some 34, _, _, _, _, _⟩) (v := .slice (some ⟨b1, of1, none⟩) n c2) rfl (by kernel_rfl) (by kernel_rfl) (fun _ _ _ h => h) _ _ _ _ (by kernel_rfl) (by kernel_rfl) (Or.inl ⟨by rfl, fun w' hS' => (by clear hS hS'; go_simp)⟩) hS ?_
      try simp only [Act.put, List.setIfInBounds_toArray, List.set_cons_zero, List.set_cons_succ]
      refine walkS_take (i := 18) (oi := ⟨some 35, _, _, _, _, _⟩) (v := .int .i64 (j : Int)) rfl (by kernel_rfl) (by kernel_rfl) (fun _ _ _ h => h) _ _ _ _ (by kernel_rfl) (by kernel_rfl) (Or.inl ⟨by rfl, fun w' hS' => (by clear hS hS'; go_simp)⟩) hS ?_
      try simp only [Act.put, List.setIfInBounds_toArray, List.set_cons_zero, List.set_cons_succ]
      refine walkS_take (i := 19) (oi := ⟨some 36, _, _, _, _, _⟩) (v := .pointer (some ⟨b1, of1 + j * 4, none⟩)) rfl (by kernel_rfl) (by kernel_rfl) (fun _ _ _ h => h) _ _ _ _ (by kernel_rfl) (by kernel_rfl) (Or.inl ⟨by rfl, fun w' hS' => (by clear hS hS'; go_simp)⟩) hS ?_
      try simp only [Act.put, List.setIfInBounds_toArray, List.set_cons_zero, List.set_cons_succ]
      refine walkS_take (i := 20) (oi := ⟨some 37, _, _, _, _, _⟩) (v := .pointer (some ⟨b1, of1 + j * 4 + 1, none⟩)) rfl (by kernel_rfl) (by kernel_rfl) (fun _ _ _ h => h) _ _ _ _ (by kernel_rfl) (by kernel_rfl) (Or.inl ⟨by rfl, fun w' hS' => (by clear hS hS'; go_simp)⟩) hS ?_
      try simp only [Act.put, List.setIfInBounds_toArray, List.set_cons_zero, List.set_cons_succ]
      refine walkS_take (i := 21) (oi := ⟨some 38, _, _, _, _, _⟩) (v := .int .u64 (x.n : Int)) rfl (by kernel_rfl) (by kernel_rfl) (fun _ _ _ h => h) _ _ _ _ (by kernel_rfl) (by kernel_rfl) (Or.inl ⟨by rfl, fun w' hS' => (by have c0 := HC1.out w' hS' 1 _ rfl; clear hS hS'; go_simp)⟩) hS ?_
      try simp only [Act.put, List.setIfInBounds_toArray, List.set_cons_zero, List.set_cons_succ]
      refine walkS_take (i := 22) (oi := ⟨some 39, _, _, _, _, _⟩) (v := .bool false) rfl (by kernel_rfl) (by kernel_rfl) (fun _ _ _ h => h) _ _ _ _ (by kernel_rfl) (by kernel_rfl) (Or.inl ⟨by rfl, fun w' hS' => (by clear hS hS'; go_simp)⟩) hS ?_
      try simp only [Act.put, List.setIfInBounds_toArray, List.set_cons_zero, List.set_cons_succ]
      refine walkS_take (i := 23) (oi := ⟨some 40, _, _, _, _, _⟩) (v := .bool false) rfl (by kernel_rfl) (by kernel_rfl) (fun _ _ _ h => h) _ _ _ _ (by kernel_rfl) (by kernel_rfl) (Or.inl ⟨by rfl, fun w' hS' => (by clear hS hS'; go_simp)⟩) hS ?_
      try simp only [Act.put, List.setIfInBounds_toArray, List.set_cons_zero, List.set_cons_succ]
      refine walkS_take (i := 24) (oi := ⟨some 41, _, _, _, _, _⟩) (v := .bool false) rfl (by kernel_rfl) (by kernel_rfl) (fun _ _ _ h => h) _ _ _ _ (by kernel_rfl) (by kernel_rfl) (Or.inl ⟨by rfl, fun w' hS' => (by clear hS hS'; go_simp)⟩) hS ?_
      try simp only [Act.put, List.setIfInBounds_toArray, List.set_cons_zero, List.set_cons_succ]
      refine walkS_take (i := 25) (oi := ⟨some 42, _, _, _, _, _⟩) (v := .slice (some ⟨b0, off, none⟩) n c) rfl (by kernel_rfl) (by kernel_rfl) (fun _ _ _ h => h) _ _ _ _ (by kernel_rfl) (by kernel_rfl) (Or.inl ⟨by rfl, fun w' hS' => (by clear hS hS'; go_simp)⟩) hS ?_
      try simp only [Act.put, List.setIfInBounds_toArray, List.set_cons_zero, List.set_cons_succ]
      refine walkS_take (i := 26) (oi := ⟨some 43, _, _, _, _, _⟩) (v := .int .i64 (j : Int)) rfl (by kernel_rfl) (by kernel_rfl) (fun _ _ _ h => h) _ _ _ _ (by kernel_rfl) (by kernel_rfl) (Or.inl ⟨by rfl, fun w' hS' => (by clear hS hS'; go_simp)⟩) hS ?_
      try simp only [Act.put, List.setIfInBounds_toArray, List.set_cons_zero, List.set_cons_succ]
      refine walkS_take (i := 27) (oi := ⟨some 44, _, _, _, _, _⟩) (v := .pointer (some ⟨b0, off + j * 4, none⟩)) rfl (by kernel_rfl) (by kernel_rfl) (fun _ _ _ h => h) _ _ _ _ (by kernel_rfl) (by kernel_rfl) (Or.inl ⟨by rfl, fun w' hS' => (by clear hS hS'; go_simp)⟩) hS ?_
      try simp only [Act.put, List.setIfInBounds_toArray, List.set_cons_zero, List.set_cons_succ]
      refine walkS_take (i := 28) (oi := ⟨some 45, _, _, _, _, _⟩) (v := .pointer (some ⟨b0, off + j * 4 + 2, none⟩)) rfl (by kernel_rfl) (by kernel_rfl) (fun _ _ _ h => h) _ _ _ _ (by kernel_rfl) (by kernel_rfl) (Or.inl ⟨by rfl, fun w' hS' => (by clear hS hS'; go_simp)⟩) hS ?_
      try simp only [Act.put, List.setIfInBounds_toArray, List.set_cons_zero, List.set_cons_succ]
      refine walkS_take (i := 29) (oi := ⟨some 46, _, _, _, _, _⟩) (v := .slice BA x.b.length bc) rfl (by kernel_rfl) (by kernel_rfl) (fun _ _ _ h => h) _ _ _ _ (by kernel_rfl) (by kernel_rfl) (Or.inl ⟨by rfl, fun w' hS' => (by have c0 := HC.out w' hS' 2 _ rfl; clear hS hS'; go_simp)⟩) hS ?_
      try simp only [Act.put, List.setIfInBounds_toArray, List.set_cons_zero, List.set_cons_succ]
      refine walkS_take (i := 30) (oi := ⟨some 47, _, _, _, _, _⟩) (v := .slice (some ⟨b1, of1, none⟩) n c2) rfl (by kernel_rfl) (by kernel_rfl) (fun _ _ _ h => h) _ _ _ _ (by kernel_rfl) (by kernel_rfl) (Or.inl ⟨by rfl, fun w' hS' => (by clear hS hS'; go_simp)⟩) hS ?_
      try simp only [Act.put, List.setIfInBounds_toArray, List.set_cons_zero, List.set_cons_succ]
      refine walkS_take (i := 31) (oi := ⟨some 48, _, _, _, _, _⟩) (v := .int .i64 (j : Int)) rfl (by kernel_rfl) (by kernel_rfl) (fun _ _ _ h => h) _ _ _ _ (by kernel_rfl) (by kernel_rfl) (Or.inl ⟨by rfl, fun w' hS' => (by clear hS hS'; go_simp)⟩) hS ?_
      try simp only [Act.put, List.setIfInBounds_toArray, List.set_cons_zero, List.set_cons_succ]
      refine walkS_take (i := 32) (oi := ⟨some 49, _, _, _, _, _⟩) (v := .pointer (some ⟨b1, of1 + j * 4, none⟩)) rfl (by kernel_rfl) (by kernel_rfl) (fun _ _ _ h => h) _ _ _ _ (by kernel_rfl) (by kernel_rfl) (Or.inl ⟨by rfl, fun w' hS' => (by clear hS hS'; go_simp)⟩) hS ?_
      try simp only [Act.put, List.setIfInBounds_toArray, List.set_cons_zero, List.set_cons_succ]
      refine walkS_take (i := 33) (oi := ⟨some 50, _, _, _, _, _⟩) (v := .pointer (some ⟨b1, of1 + j * 4 + 2, none⟩)) rfl (by kernel_rfl) (by kernel_rfl) (fun _ _ _ h => h) _ _ _ _ (by kernel_rfl) (by kernel_rfl) (Or.inl ⟨by rfl, fun w' hS' => (by clear hS hS'; go_simp)⟩) hS ?_
      try simp only [Act.put, List.setIfInBounds_toArray, List.set_cons_zero, List.set_cons_succ]
      refine walkS_take (i := 34) (oi := ⟨some 51, _, _, _, _, _⟩) (v := .slice BA2 x.b.length bc2) rfl (by kernel_rfl) (by kernel_rfl) (fun _ _ _ h => h) _ _ _ _ (by kernel_rfl) (by kernel_rfl) (Or.inl ⟨by rfl, fun w' hS' => (by have c0 := HC1.out w' hS' 2 _ rfl; clear hS hS'; go_simp)⟩) hS ?_
      try simp only [Act.put, List.setIfInBounds_toArray, List.set_cons_zero, List.set_cons_succ]
      refine walkS_onlyH (i := 35) (o := ⟨some 52, _, _, _, _, _⟩) (by kernel_rfl) rfl (by rfl) fun KK hKK => ?_
      go_simp
      refine (same_yes _ _ _ x.b (HBB.out.below hS) (HBB2.out.below hS)).mono ?_
      intro e w4 hh
      obtain ⟨he, b4⟩ := hh
      subst he
      have hS2 : Below w.heap.size w w4 := below_size hS b4
      clear hS b4
      have hS := hS2
      clear hS2
      refine hKK _ _ (.inr hS) ?_
      clear hKK KK
      try simp only [Act.put, List.setIfInBounds_toArray, List.set_cons_zero, List.set_cons_succ]
      refine walkS_take (i := 36) (oi := ⟨some 53, _, _, _, _, _⟩) (v := .bool false) rfl (by kernel_rfl) (by kernel_rfl) (fun _ _ _ h => h) _ _ _ _ (by kernel_rfl) (by kernel_rfl) (Or.inl ⟨by rfl, fun w' hS' => (by clear hS hS'; go_simp)⟩) hS ?_
      try simp only [Act.put, List.setIfInBounds_toArray, List.set_cons_zero, List.set_cons_succ]
      refine walkS_take (i := 37) (oi := ⟨some 54, _, _, _, _, _⟩) (v := .bool false) rfl (by kernel_rfl) (by kernel_rfl) (fun _ _ _ h => h) _ _ _ _ (by kernel_rfl) (by kernel_rfl) (Or.inl ⟨by rfl, fun w' hS' => (by clear hS hS'; go_simp)⟩) hS ?_
      try simp only [Act.put, List.setIfInBounds_toArray, List.set_cons_zero, List.set_cons_succ]
      refine walkS_take (i := 38) (oi := ⟨some 55, _, _, _, _, _⟩) (v := .bool false) rfl (by kernel_rfl) (by kernel_rfl) (fun _ _ _ h => h) _ _ _ _ (by kernel_rfl) (by kernel_rfl) (Or.inl ⟨by rfl, fun w' hS' => (by clear hS hS'; go_simp)⟩) hS ?_
      try simp only [Act.put, List.setIfInBounds_toArray, List.set_cons_zero, List.set_cons_succ]
      refine walkS_take (i := 39) (oi := ⟨some 56, _, _, _, _, _⟩) (v := .slice (some ⟨b0, off, none⟩) n c) rfl (by kernel_rfl) (by kernel_rfl) (fun _ _ _ h => h) _ _ _ _ (by kernel_rfl) (by kernel_rfl) (Or.inl ⟨by rfl, fun w' hS' => (by clear hS hS'; go_simp)⟩) hS ?_
      try simp only [Act.put, List.setIfInBounds_toArray, List.set_cons_zero, List.set_cons_succ]
      refine walkS_take (i := 40) (oi := ⟨some 57, _, _, _, _, _⟩) (v := .int .i64 (j : Int)) rfl (by kernel_rfl) (by kernel_rfl) (fun _ _ _ h => h) _ _ _ _ (by kernel_rfl) (by kernel_rfl) (Or.inl ⟨by rfl, fun w' hS' => (by clear hS hS'; go_simp)⟩) hS ?_
      try simp only [Act.put, List.setIfInBounds_toArray, List.set_cons_zero, List.set_cons_succ]
      refine walkS_take (i := 41) (oi := ⟨some 58, _, _, _, _, _⟩) (v := .pointer (some ⟨b0, off + j * 4, none⟩)) rfl (by kernel_rfl) (by kernel_rfl) (fun _ _ _ h => h) _ _ _ _ (by kernel_rfl) (by kernel_rfl) (Or.inl ⟨by rfl, fun w' hS' => (by clear hS hS'; go_simp)⟩) hS ?_
      try simp only [Act.put, List.setIfInBounds_toArray, List.set_cons_zero, List.set_cons_succ]
      refine walkS_take (i := 42) (oi := ⟨some 59, _, _, _, _, _⟩) (v := .pointer (some ⟨b0, off + j * 4 + 3, none⟩)) rfl (by kernel_rfl) (by kernel_rfl) (fun _ _ _ h => h) _ _ _ _ (by kernel_rfl) (by kernel_rfl) (Or.inl ⟨by rfl, fun w' hS' => (by clear hS hS'; go_simp)⟩) hS ?_
      try simp only [Act.put, List.setIfInBounds_toArray, List.set_cons_zero, List.set_cons_succ]
      refine walkS_take (i := 43) (oi := ⟨some 60, _, _, _, _, _⟩) (v := .slice LA x.l.length lc) rfl (by kernel_rfl) (by kernel_rfl) (fun _ _ _ h => h) _ _ _ _ (by kernel_rfl) (by kernel_rfl) (Or.inl ⟨by rfl, fun w' hS' => (by have c0 := HC.out w' hS' 3 _ rfl; clear hS hS'; go_simp)⟩) hS ?_
      try simp only [Act.put, List.setIfInBounds_toArray, List.set_cons_zero, List.set_cons_succ]
      refine walkS_take (i := 44) (oi := ⟨some 61, _, _, _, _, _⟩) (v := .slice (some ⟨b1, of1, none⟩) n c2) rfl (by kernel_rfl) (by kernel_rfl) (fun _ _ _ h => h) _ _ _ _ (by kernel_rfl) (by kernel_rfl) (Or.inl ⟨by rfl, fun w' hS' => (by clear hS hS'; go_simp)⟩) hS ?_
      try simp only [Act.put, List.setIfInBounds_toArray, List.set_cons_zero, List.set_cons_succ]
      refine walkS_take (i := 45) (oi := ⟨some 62, _, _, _, _, _⟩) (v := .int .i64 (j : Int)) rfl (by kernel_rfl) (by kernel_rfl) (fun _ _ _ h => h) _ _ _ _ (by kernel_rfl) (by kernel_rfl) (Or.inl ⟨by rfl, fun w' hS' => (by clear hS hS'; go_simp)⟩) hS ?_
      try simp only [Act.put, List.setIfInBounds_toArray, List.set_cons_zero, List.set_cons_succ]
      refine walkS_take (i := 46) (oi := ⟨some 63, _, _, _, _, _⟩) (v := .pointer (some ⟨b1, of1 + j * 4, none⟩)) rfl (by kernel_rfl) (by kernel_rfl) (fun _ _ _ h => h) _ _ _ _ (by kernel_rfl) (by kernel_rfl) (Or.inl ⟨by rfl, fun w' hS' => (by clear hS hS'; go_simp)⟩) hS ?_
      try simp only [Act.put, List.setIfInBounds_toArray, List.set_cons_zero, List.set_cons_succ]
      refine walkS_take (i := 47) (oi := ⟨some 64, _, _, _, _, _⟩) (v := .pointer (some ⟨b1, of1 + j * 4 + 3, none⟩)) rfl (by kernel_rfl) (by kernel_rfl) (fun _ _ _ h => h) _ _ _ _ (by kernel_rfl) (by kernel_rfl) (Or.inl ⟨by rfl, fun w' hS' => (by clear hS hS'; go_simp)⟩) hS ?_
      try simp only [Act.put, List.setIfInBounds_toArray, List.set_cons_zero, List.set_cons_succ]
      refine walkS_take (i := 48) (oi := ⟨some 65, _, _, _, _, _⟩) (v := .slice LA2 x.l.length lc2) rfl (by kernel_rfl) (by kernel_rfl) (fun _ _ _ h => h) _ _ _ _ (by kernel_rfl) (by kernel_rfl) (Or.inl ⟨by rfl, fun w' hS' => (by have c0 := HC1.out w' hS' 3 _ rfl; clear hS hS'; go_simp)⟩) hS ?_
      try simp only [Act.put, List.setIfInBounds_toArray, List.set_cons_zero, List.set_cons_succ]
      refine walkS_onlyH (i := 49) (o := ⟨some 66, _, _, _, _, _⟩) (by kernel_rfl) rfl (by rfl) fun KK hKK => ?_
      go_simp
      refine (refKeys_same _ _ _ x.l (HLL.out.below hS) (HLL2.out.below hS) HXL.out).mono ?_
      intro e w5 hh
      obtain ⟨he, b5⟩ := hh
      subst he
      have hS2 : Below w.heap.size w w5 := below_size hS b5
      clear hS b5
      have hS := hS2
      clear hS2
      refine hKK _ _ (.inr hS) ?_
      clear hKK KK
      try simp only [Act.put, List.setIfInBounds_toArray, List.set_cons_zero, List.set_cons_succ]
      refine walkS_take (i := 50) (oi := ⟨some 67, _, _, _, _, _⟩) (v := .bool false) rfl (by kernel_rfl) (by kernel_rfl) (fun _ _ _ h => h) _ _ _ _ (by kernel_rfl) (by kernel_rfl) (Or.inl ⟨by rfl, fun w' hS' => (by clear hS hS'; go_simp)⟩) hS ?_
      try simp only [Act.put, List.setIfInBounds_toArray, List.set_cons_zero, List.set_cons_succ]
      refine walkS_take (i := 51) (oi := ⟨some 68, _, _, _, _, _⟩) (v := .bool false) rfl (by kernel_rfl) (by kernel_rfl) (fun _ _ _ h => h) _ _ _ _ (by kernel_rfl) (by kernel_rfl) (Or.inl ⟨by rfl, fun w' hS' => (by clear hS hS'; go_simp)⟩) hS ?_
      try simp only [Act.put, List.setIfInBounds_toArray, List.set_cons_zero, List.set_cons_succ]
      refine walkS_done (by kernel_rfl) ?_ _
      go_wp2_with fail
      refine ⟨⟨j + 1, by omega, by congr 1, hS⟩, ?_⟩
      show n - ((j : Int) + 1).toNat < n - (j : Int).toNat
      omega
    · have hk2 : j = n := by omega
      clear hlt
      subst hk2
      go_wp2_with fail
      go_ret
      exact ⟨rfl, HB.out⟩
end Go.Proofs.Ytjhhpakaemnemaa
end
section
namespace Go.Proofs.Ytjhhpakaemnemaa
open Go.RowKit
set_option linter.unusedVariables false
set_option maxRecDepth 20000

theorem St.key_len (s : St) : s.key.length = 32 := by
  unfold St.key
  split
  · assumption
  · exact zeroKey_length
theorem St.keys_le (s : St) (m : Int) : (s.keys m).length ≤ 100 := by
  have h1 := s.cnt_le (min m 100) (by omega)
  have h2 := (s.cntS (min m 100)).take_mul (s.cnt (min m 100))
  unfold St.keys
  rw [cut32_range, List.length_map, List.length_range]
  have h3 : (s.keyB m).length / 32 ≤ s.cnt (min m 100) := h2.2
  omega
theorem keys_next (B : List UInt8) (j : Nat) : (List.range (j + 1)).map (keyAt B) = (List.range j).map (keyAt B) ++ [keyAt B j] := by
  rw [List.range_succ, List.map_append]; rfl
set_option maxHeartbeats 4000000 in
theorem riKeysIn (w : World) (r : Nat) (bv : Value) (b : List UInt8) (s : St) (m : Int) (hbl : b.length ≤ 1000000000) (h : RiAt w r bv b s) :
    Calls Try.prog 27 #[.pointer (some ⟨r, 0, none⟩), .int .i64 m] w fun e w' => ∃ v, e = .returned v ∧ (Kl w' v (s.keys m) ∧ KyAt w' v ∧ ∀ k, v.ownBlock = some k → w.heap.size ≤ k) ∧ RiAt w' r bv b (s.keyS m) ∧ w.grownBy w' (some r) := by
  have HH := Lib.hid h
  have HN := Lib.hid (fun w h => riNumber_any w r bv b s 2 hbl h)
  obtain ⟨t1, t2⟩ := cap_take s m 100 32
  have hlt := s.num_lt
  obtain ⟨N, hN⟩ : ∃ N, N = s.num 2 := ⟨_, rfl⟩
  obtain ⟨S, hS⟩ : ∃ S, S = s.numS 2 := ⟨_, rfl⟩
  have hw : IntKind.i64.wrap (N : Int) = (N : Int) := IntWalk.i64_in _ (by omega)
  have hw32 : IntKind.i64.wrap (32 * (N : Int)) = ((32 * N : Nat) : Int) := by rw [IntWalk.i64_in _ (by omega)]; omega
  have hcap : s.cap m 100 = if (N : Int) > m ∨ (N : Int) > 100 then S.fail 2 else S := by rw [hN, hS]; rfl
  obtain ⟨C, hC⟩ : ∃ C, C = s.cap m 100 := ⟨_, rfl⟩
  have HT := Lib.hid (fun w h => riTake_any w r bv b C (32 * N) (by omega) hbl h)
  have HF := Lib.hid (fun w h => riFail_any w r bv b S 2 (by decide) h)
  rw [← hC] at t1 t2 hcap
  rw [← hN] at t1 t2 HN
  rw [← hS] at HN
  have hmul := (s.cntS (min m 100)).take_mul (s.cnt (min m 100))
  obtain ⟨B, hB⟩ : ∃ B, B = C.take (32 * N) := ⟨_, rfl⟩
  obtain ⟨S2, hS2⟩ : ∃ S2, S2 = C.rest (32 * N) := ⟨_, rfl⟩
  rw [← hB] at t1 HT
  rw [← hS2] at t2 HT
  rw [← t1] at hmul
  obtain ⟨n, hn⟩ : ∃ n, n = B.length / 32 := ⟨_, rfl⟩
  rw [← hn] at hmul
  have HBL : Hid (B.length = 32 * n) := hmul.1
  have hn100 : n ≤ 100 := by have := s.cnt_le (min m 100) (by omega); omega
  have H1 : Hid (s.keys m = (List.range n).map (keyAt B)) := by
    show _ = _
    rw [← cut32_range, hn, t1]
    rfl
  have H2 : Hid (s.keyS m = S2) := t2.symm
  have HK32 : Hid (∀ j, j < n → (keyAt B j).length = 32) := fun j hj => by
    unfold keyAt
    rw [List.length_take, List.length_drop, hmul.1]
    omega
  clear h t1 t2 hN hS hC hlt hB hS2 hn hmul
  -- CASES
  by_cases hm : m < (N : Int)
  · have hCF : C = S.fail 2 := by rw [hcap, if_pos (.inl hm)]
    subst hCF
    clear hcap
    go_enter Try.func27, Try.ntmps27
    go_wp2_with fail
    refine (HN.out _ HH.out).mono ?_
    intro e w1 hh
    obtain ⟨he, hi, hg⟩ := hh
    subst he
    have I1 := Lib.hid hi
    have G1 := Lib.hid hg
    clear hi hg
    go_wp2_with fail
    refine (HF.out _ I1.out).mono ?_
    intro e w2 hh
    obtain ⟨he, hi, hg⟩ := hh
    subst he
    have I2 := Lib.hid hi
    have G2 := Lib.hid (G1.out.trans hg)
    clear hi hg
    go_wp2_with fail
    refine (HT.out _ I2.out).mono ?_
    intro e w3 hh
    obtain ⟨v, he, hv, hi, hg⟩ := hh
    subst he
    have I3 := Lib.hid hi
    have G3 := Lib.hid (G2.out.trans hg)
    have V3 := Lib.hid hv
    obtain ⟨A, c, rfl, k1, k2, _⟩ := hv
    rw [HBL.out] at k1
    unfold maxLen at k2
    have V3' : Hid (Bs w3 (.slice A (32 * n) c) B) := by have := V3.out; rw [HBL.out] at this; exact this
    rw [HBL.out]
    clear hi hg HN HT HH V3 HF I1 G1 I2 G2
    go_wp2_with fail
    go_loopw [7, 8] (fun v i wr => ∃ j p : Nat, p = 32 * j ∧ j ≤ n ∧ i = .int .i64 (p : Int) ∧ wr.ownsRow w3.heap.size 52 32 v j (cellsB ((List.range j).map (keyAt B)).flatten) ∧ Below w3.heap.size w3 wr) (fun _ i _ => 32 * n - (intOf i).toNat)
    case atStart => exact ⟨0, 0, rfl, by omega, rfl, World.ownsRow_nil _ _ _ _, Below.refl _ _⟩
    case round =>
      obtain ⟨j, p, hp, hj, rfl, hO, hE⟩ := hrel
      have HO := Lib.hid hO
      have HB := Lib.hid hE
      obtain ⟨VA, vn, vc, rfl⟩ : ∃ VA vn vc, u7 = .slice VA vn vc := by
        rcases hO.2 with ⟨rfl, _⟩ | ⟨g, cap, cur, rfl, _⟩ <;> exact ⟨_, _, _, rfl⟩
      clear hO hE
      have hw1 : IntKind.i64.wrap ((p : Int) + 32) = (p : Int) + 32 := IntWalk.i64_in _ (by omega)
      have HP := Lib.hid hp
      by_cases hlt : j < n
      · have hq : (p : Int) + 32 ≤ 32 * (n : Int) := by omega
        have hb0 : (0 : Int) ≤ (p : Int) := by omega
        have hb1 : (p : Int) ≤ (p : Int) + 32 := by omega
        have hb2 : (p : Int) + 32 ≤ (c : Int) := by omega
        have hb3 : (0 : Int) ≤ (p : Int) + 32 := by omega
        have hb4 : ((p : Int) + 32).toNat = p + 32 := by omega
        have hb5 : p + 32 - p = 32 := by omega
        have L32 := Lib.hid (HK32.out j hlt)
        have hct := (V3'.out.cut p (by rw [HBL.out]; omega)).fore 32 (by rw [List.length_drop, HBL.out]; omega)
        rw [if_neg (by omega), hp, ← keyAt, ← hp] at hct
        have HCT := Lib.hid hct
        obtain ⟨kx, hkx⟩ : ∃ kx, kx = keyAt B j := ⟨_, rfl⟩
        have HNX : Hid ((List.range (j + 1)).map (keyAt B) = (List.range j).map (keyAt B) ++ [kx]) := by show _ = _; rw [keys_next, hkx]
        rw [← hkx] at HCT L32
        obtain ⟨ks, hks⟩ : ∃ ks, ks = (List.range j).map (keyAt B) := ⟨_, rfl⟩
        have hkl : j = ks.length := by rw [hks]; simp
        have HKL := Lib.hid hkl
        have hk100 : ks.length ≤ 1000 := by omega
        rw [← hks] at HNX HO
        clear hct hkx hp hks hkl
        go_wp2_with fail
        refine (refToKey_full _ _ _ (HCT.out.below HB.out) L32.out).mono ?_
        intro e w4 hh
        obtain ⟨he, b4⟩ := hh
        subst he
        have B4 := Lib.hid (below_size HB.out b4)
        have O4 := Lib.hid (owned_far (row := none) HO.out (grown_of_below b4) (fun r e => by cases e))
        clear b4 HB HO
        go_wp2_with (first
          | ((with_reducible refine wpList_alloc_row (o := ⟨some 9, _, _, _, _, _⟩) rfl 52 rfl (keyC zeroKey) Try.zeroK ?_); intro g9 w5 n5)
          | ((with_reducible refine wpList_store_row (o := ⟨none, _, _, _, _, _⟩) rfl 52 (.tmp 9) (.tmp 41) rfl g9 52 (keyC zeroKey) (keyC kx) (by with_unfolding_all rfl) (by with_unfolding_all rfl) n5.row (keyC_same zeroKey_length L32.out) (Try.sizeKey _ L32.out) (keyC_one _) ?_); intro w6 p6; have hb6 : Below w4.heap.size w4 w6 := p6.below n5.below n5.below.size (by rw [n5.spot]; exact Nat.le_refl _); have B6 := Lib.hid (below_size B4.out hb6); have O6 := Lib.hid (owned_far (row := none) O4.out (grown_of_below hb6) (fun r e => by cases e)))
          | (with_reducible refine wpList_load_row (o := ⟨some 44, _, _, _, _, _⟩) rfl 52 (.tmp 9) rfl g9 (by with_unfolding_all rfl) 52 (keyC kx) (0, 0) (.array 32 5) (by with_unfolding_all exact p6.row) Try.underlying52 rfl (Try.sizeKey kx L32.out) ?_)
          | ((with_reducible refine wpList_oneKey (o := ⟨some 45, _, _, _, _, _⟩) rfl (.tmp 44) rfl kx L32.out (by with_unfolding_all rfl) ?_); intro g7 w7 r7 b7; have B7 := Lib.hid (below_size B6.out b7); have O7 := Lib.hid (owned_far (row := none) O6.out (grown_of_below b7) (fun r e => by cases e)))
          | ((with_reducible refine wpList_appKeyO (w0 := w3) (o := ⟨some 46, _, _, _, _, _⟩) rfl (.tmp 43) (.tmp 45) rfl (.slice VA vn vc) ks kx j g7 (by with_unfolding_all rfl) (by with_unfolding_all rfl) r7 L32.out HKL.out hk100 O7.out B7.out ?_); intro v8 w8 o8 b8))
        refine ⟨⟨j + 1, p + 32, by have := HP.out; omega, by omega, by congr 1, by rw [HNX.out]; exact o8, b8⟩, ?_⟩
        show 32 * n - ((p : Int) + 32).toNat < 32 * n - (p : Int).toNat
        omega
      · obtain rfl : j = n := by omega
        have hq : ¬ ((p : Int) + 32 ≤ 32 * (j : Int)) := by omega
        clear hlt hp
        go_wp2_with fail
        go_ret
        refine ⟨_, rfl, ⟨?_, fun k hk => ?_, fun k hk => Nat.le_trans G3.out.size (World.ownsRow.lt HO.out k hk).1⟩, by rw [H2.out]; exact I3.out.kept HB.out, G3.out.trans (grown_any HB.out (some r))⟩
        rotate_left
        · rcases HO.out.2 with ⟨e0, _⟩ | ⟨g, cap, cur, e0, _, hc, _⟩
          · rw [e0] at hk; cases hk
          · rw [e0] at hk
            obtain rfl : g = k := by simpa [Value.ownBlock] using hk
            exact ⟨cur, hc⟩
        rw [H1.out]
        exact Kl.of_own (ks := (List.range j).map (keyAt B)) (by rw [List.length_map, List.length_range]; exact HO.out) (fun l hl => by
          obtain ⟨x, hx, rfl⟩ := List.mem_map.1 hl
          exact HK32.out x (List.mem_range.1 hx))
  · by_cases hk : (100 : Int) < (N : Int)
    · have hCF : C = S.fail 2 := by rw [hcap, if_pos (.inr hk)]
      subst hCF
      clear hcap
      go_enter Try.func27, Try.ntmps27
      go_wp2_with fail
      refine (HN.out _ HH.out).mono ?_
      intro e w1 hh
      obtain ⟨he, hi, hg⟩ := hh
      subst he
      have I1 := Lib.hid hi
      have G1 := Lib.hid hg
      clear hi hg
      go_wp2_with fail
      refine (HF.out _ I1.out).mono ?_
      intro e w2 hh
      obtain ⟨he, hi, hg⟩ := hh
      subst he
      have I2 := Lib.hid hi
      have G2 := Lib.hid (G1.out.trans hg)
      clear hi hg
      go_wp2_with fail
      refine (HT.out _ I2.out).mono ?_
      intro e w3 hh
      obtain ⟨v, he, hv, hi, hg⟩ := hh
      subst he
      have I3 := Lib.hid hi
      have G3 := Lib.hid (G2.out.trans hg)
      have V3 := Lib.hid hv
      obtain ⟨A, c, rfl, k1, k2, _⟩ := hv
      rw [HBL.out] at k1
      unfold maxLen at k2
      have V3' : Hid (Bs w3 (.slice A (32 * n) c) B) := by have := V3.out; rw [HBL.out] at this; exact this
      rw [HBL.out]
      clear hi hg HN HT HH V3 HF I1 G1 I2 G2
      go_wp2_with fail
      go_loopw [7, 8] (fun v i wr => ∃ j p : Nat, p = 32 * j ∧ j ≤ n ∧ i = .int .i64 (p : Int) ∧ wr.ownsRow w3.heap.size 52 32 v j (cellsB ((List.range j).map (keyAt B)).flatten) ∧ Below w3.heap.size w3 wr) (fun _ i _ => 32 * n - (intOf i).toNat)
      case atStart => exact ⟨0, 0, rfl, by omega, rfl, World.ownsRow_nil _ _ _ _, Below.refl _ _⟩
      case round =>
        obtain ⟨j, p, hp, hj, rfl, hO, hE⟩ := hrel
        have HO := Lib.hid hO
        have HB := Lib.hid hE
        obtain ⟨VA, vn, vc, rfl⟩ : ∃ VA vn vc, u7 = .slice VA vn vc := by
          rcases hO.2 with ⟨rfl, _⟩ | ⟨g, cap, cur, rfl, _⟩ <;> exact ⟨_, _, _, rfl⟩
        clear hO hE
        have hw1 : IntKind.i64.wrap ((p : Int) + 32) = (p : Int) + 32 := IntWalk.i64_in _ (by omega)
        have HP := Lib.hid hp
        by_cases hlt : j < n
        · have hq : (p : Int) + 32 ≤ 32 * (n : Int) := by omega
          have hb0 : (0 : Int) ≤ (p : Int) := by omega
          have hb1 : (p : Int) ≤ (p : Int) + 32 := by omega
          have hb2 : (p : Int) + 32 ≤ (c : Int) := by omega
          have hb3 : (0 : Int) ≤ (p : Int) + 32 := by omega
          have hb4 : ((p : Int) + 32).toNat = p + 32 := by omega
          have hb5 : p + 32 - p = 32 := by omega
          have L32 := Lib.hid (HK32.out j hlt)
          have hct := (V3'.out.cut p (by rw [HBL.out]; omega)).fore 32 (by rw [List.length_drop, HBL.out]; omega)
          rw [if_neg (by omega), hp, ← keyAt, ← hp] at hct
          have HCT := Lib.hid hct
          obtain ⟨kx, hkx⟩ : ∃ kx, kx = keyAt B j := ⟨_, rfl⟩
          have HNX : Hid ((List.range (j + 1)).map (keyAt B) = (List.range j).map (keyAt B) ++ [kx]) := by show _ = _; rw [keys_next, hkx]
          rw [← hkx] at HCT L32
          obtain ⟨ks, hks⟩ : ∃ ks, ks = (List.range j).map (keyAt B) := ⟨_, rfl⟩
          have hkl : j = ks.length := by rw [hks]; simp
          have HKL := Lib.hid hkl
          have hk100 : ks.length ≤ 1000 := by omega
          rw [← hks] at HNX HO
          clear hct hkx hp hks hkl
          go_wp2_with fail
          refine (refToKey_full _ _ _ (HCT.out.below HB.out) L32.out).mono ?_
          intro e w4 hh
          obtain ⟨he, b4⟩ := hh
          subst he
          have B4 := Lib.hid (below_size HB.out b4)
          have O4 := Lib.hid (owned_far (row := none) HO.out (grown_of_below b4) (fun r e => by cases e))
          clear b4 HB HO
          go_wp2_with (first
            | ((with_reducible refine wpList_alloc_row (o := ⟨some 9, _, _, _, _, _⟩) rfl 52 rfl (keyC zeroKey) Try.zeroK ?_); intro g9 w5 n5)
            | ((with_reducible refine wpList_store_row (o := ⟨none, _, _, _, _, _⟩) rfl 52 (.tmp 9) (.tmp 41) rfl g9 52 (keyC zeroKey) (keyC kx) (by with_unfolding_all rfl) (by with_unfolding_all rfl) n5.row (keyC_same zeroKey_length L32.out) (Try.sizeKey _ L32.out) (keyC_one _) ?_); intro w6 p6; have hb6 : Below w4.heap.size w4 w6 := p6.below n5.below n5.below.size (by rw [n5.spot]; exact Nat.le_refl _); have B6 := Lib.hid (below_size B4.out hb6); have O6 := Lib.hid (owned_far (row := none) O4.out (grown_of_below hb6) (fun r e => by cases e)))
            | (with_reducible refine wpList_load_row (o := ⟨some 44, _, _, _, _, _⟩) rfl 52 (.tmp 9) rfl g9 (by with_unfolding_all rfl) 52 (keyC kx) (0, 0) (.array 32 5) (by with_unfolding_all exact p6.row) Try.underlying52 rfl (Try.sizeKey kx L32.out) ?_)
            | ((with_reducible refine wpList_oneKey (o := ⟨some 45, _, _, _, _, _⟩) rfl (.tmp 44) rfl kx L32.out (by with_unfolding_all rfl) ?_); intro g7 w7 r7 b7; have B7 := Lib.hid (below_size B6.out b7); have O7 := Lib.hid (owned_far (row := none) O6.out (grown_of_below b7) (fun r e => by cases e)))
            | ((with_reducible refine wpList_appKeyO (w0 := w3) (o := ⟨some 46, _, _, _, _, _⟩) rfl (.tmp 43) (.tmp 45) rfl (.slice VA vn vc) ks kx j g7 (by with_unfolding_all rfl) (by with_unfolding_all rfl) r7 L32.out HKL.out hk100 O7.out B7.out ?_); intro v8 w8 o8 b8))
          refine ⟨⟨j + 1, p + 32, by have := HP.out; omega, by omega, by congr 1, by rw [HNX.out]; exact o8, b8⟩, ?_⟩
          show 32 * n - ((p : Int) + 32).toNat < 32 * n - (p : Int).toNat
          omega
        · obtain rfl : j = n := by omega
          have hq : ¬ ((p : Int) + 32 ≤ 32 * (j : Int)) := by omega
          clear hlt hp
          go_wp2_with fail
          go_ret
          refine ⟨_, rfl, ⟨?_, fun k hk => ?_, fun k hk => Nat.le_trans G3.out.size (World.ownsRow.lt HO.out k hk).1⟩, by rw [H2.out]; exact I3.out.kept HB.out, G3.out.trans (grown_any HB.out (some r))⟩
          rotate_left
          · rcases HO.out.2 with ⟨e0, _⟩ | ⟨g, cap, cur, e0, _, hc, _⟩
            · rw [e0] at hk; cases hk
            · rw [e0] at hk
              obtain rfl : g = k := by simpa [Value.ownBlock] using hk
              exact ⟨cur, hc⟩
          rw [H1.out]
          exact Kl.of_own (ks := (List.range j).map (keyAt B)) (by rw [List.length_map, List.length_range]; exact HO.out) (fun l hl => by
            obtain ⟨x, hx, rfl⟩ := List.mem_map.1 hl
            exact HK32.out x (List.mem_range.1 hx))
    · have hCF : C = S := by rw [hcap, if_neg (by omega)]
      subst hCF
      clear hcap HF
      go_enter Try.func27, Try.ntmps27
      go_wp2_with fail
      refine (HN.out _ HH.out).mono ?_
      intro e w1 hh
      obtain ⟨he, hi, hg⟩ := hh
      subst he
      have I1 := Lib.hid hi
      have G1 := Lib.hid hg
      clear hi hg
      go_wp2_with fail
      refine (HT.out _ I1.out).mono ?_
      intro e w3 hh
      obtain ⟨v, he, hv, hi, hg⟩ := hh
      subst he
      have I3 := Lib.hid hi
      have G3 := Lib.hid (G1.out.trans hg)
      have V3 := Lib.hid hv
      obtain ⟨A, c, rfl, k1, k2, _⟩ := hv
      rw [HBL.out] at k1
      unfold maxLen at k2
      have V3' : Hid (Bs w3 (.slice A (32 * n) c) B) := by have := V3.out; rw [HBL.out] at this; exact this
      rw [HBL.out]
      clear hi hg HN HT HH V3 I1 G1
      go_wp2_with fail
      go_loopw [7, 8] (fun v i wr => ∃ j p : Nat, p = 32 * j ∧ j ≤ n ∧ i = .int .i64 (p : Int) ∧ wr.ownsRow w3.heap.size 52 32 v j (cellsB ((List.range j).map (keyAt B)).flatten) ∧ Below w3.heap.size w3 wr) (fun _ i _ => 32 * n - (intOf i).toNat)
      case atStart => exact ⟨0, 0, rfl, by omega, rfl, World.ownsRow_nil _ _ _ _, Below.refl _ _⟩
      case round =>
        obtain ⟨j, p, hp, hj, rfl, hO, hE⟩ := hrel
        have HO := Lib.hid hO
        have HB := Lib.hid hE
        obtain ⟨VA, vn, vc, rfl⟩ : ∃ VA vn vc, u7 = .slice VA vn vc := by
          rcases hO.2 with ⟨rfl, _⟩ | ⟨g, cap, cur, rfl, _⟩ <;> exact ⟨_, _, _, rfl⟩
        clear hO hE
        have hw1 : IntKind.i64.wrap ((p : Int) + 32) = (p : Int) + 32 := IntWalk.i64_in _ (by omega)
        have HP := Lib.hid hp
        by_cases hlt : j < n
        · have hq : (p : Int) + 32 ≤ 32 * (n : Int) := by omega
          have hb0 : (0 : Int) ≤ (p : Int) := by omega
          have hb1 : (p : Int) ≤ (p : Int) + 32 := by omega
          have hb2 : (p : Int) + 32 ≤ (c : Int) := by omega
          have hb3 : (0 : Int) ≤ (p : Int) + 32 := by omega
          have hb4 : ((p : Int) + 32).toNat = p + 32 := by omega
          have hb5 : p + 32 - p = 32 := by omega
          have L32 := Lib.hid (HK32.out j hlt)
          have hct := (V3'.out.cut p (by rw [HBL.out]; omega)).fore 32 (by rw [List.length_drop, HBL.out]; omega)
          rw [if_neg (by omega), hp, ← keyAt, ← hp] at hct
          have HCT := Lib.hid hct
          obtain ⟨kx, hkx⟩ : ∃ kx, kx = keyAt B j := ⟨_, rfl⟩
          have HNX : Hid ((List.range (j + 1)).map (keyAt B) = (List.range j).map (keyAt B) ++ [kx]) := by show _ = _; rw [keys_next, hkx]
          rw [← hkx] at HCT L32
          obtain ⟨ks, hks⟩ : ∃ ks, ks = (List.range j).map (keyAt B) := ⟨_, rfl⟩
          have hkl : j = ks.length := by rw [hks]; simp
          have HKL := Lib.hid hkl
          have hk100 : ks.length ≤ 1000 := by omega
          rw [← hks] at HNX HO
          clear hct hkx hp hks hkl
          go_wp2_with fail
          refine (refToKey_full _ _ _ (HCT.out.below HB.out) L32.out).mono ?_
          intro e w4 hh
          obtain ⟨he, b4⟩ := hh
          subst he
          have B4 := Lib.hid (below_size HB.out b4)
          have O4 := Lib.hid (owned_far (row := none) HO.out (grown_of_below b4) (fun r e => by cases e))
          clear b4 HB HO
          go_wp2_with (first
            | ((with_reducible refine wpList_alloc_row (o := ⟨some 9, _, _, _, _, _⟩) rfl 52 rfl (keyC zeroKey) Try.zeroK ?_); intro g9 w5 n5)
            | ((with_reducible refine wpList_store_row (o := ⟨none, _, _, _, _, _⟩) rfl 52 (.tmp 9) (.tmp 41) rfl g9 52 (keyC zeroKey) (keyC kx) (by with_unfolding_all rfl) (by with_unfolding_all rfl) n5.row (keyC_same zeroKey_length L32.out) (Try.sizeKey _ L32.out) (keyC_one _) ?_); intro w6 p6; have hb6 : Below w4.heap.size w4 w6 := p6.below n5.below n5.below.size (by rw [n5.spot]; exact Nat.le_refl _); have B6 := Lib.hid (below_size B4.out hb6); have O6 := Lib.hid (owned_far (row := none) O4.out (grown_of_below hb6) (fun r e => by cases e)))
            | (with_reducible refine wpList_load_row (o := ⟨some 44, _, _, _, _, _⟩) rfl 52 (.tmp 9) rfl g9 (by with_unfolding_all rfl) 52 (keyC kx) (0, 0) (.array 32 5) (by with_unfolding_all exact p6.row) Try.underlying52 rfl (Try.sizeKey kx L32.out) ?_)
            | ((with_reducible refine wpList_oneKey (o := ⟨some 45, _, _, _, _, _⟩) rfl (.tmp 44) rfl kx L32.out (by with_unfolding_all rfl) ?_); intro g7 w7 r7 b7; have B7 := Lib.hid (below_size B6.out b7); have O7 := Lib.hid (owned_far (row := none) O6.out (grown_of_below b7) (fun r e => by cases e)))
            | ((with_reducible refine wpList_appKeyO (w0 := w3) (o := ⟨some 46, _, _, _, _, _⟩) rfl (.tmp 43) (.tmp 45) rfl (.slice VA vn vc) ks kx j g7 (by with_unfolding_all rfl) (by with_unfolding_all rfl) r7 L32.out HKL.out hk100 O7.out B7.out ?_); intro v8 w8 o8 b8))
          refine ⟨⟨j + 1, p + 32, by have := HP.out; omega, by omega, by congr 1, by rw [HNX.out]; exact o8, b8⟩, ?_⟩
          show 32 * n - ((p : Int) + 32).toNat < 32 * n - (p : Int).toNat
          omega
        · obtain rfl : j = n := by omega
          have hq : ¬ ((p : Int) + 32 ≤ 32 * (j : Int)) := by omega
          clear hlt hp
          go_wp2_with fail
          go_ret
          refine ⟨_, rfl, ⟨?_, fun k hk => ?_, fun k hk => Nat.le_trans G3.out.size (World.ownsRow.lt HO.out k hk).1⟩, by rw [H2.out]; exact I3.out.kept HB.out, G3.out.trans (grown_any HB.out (some r))⟩
          rotate_left
          · rcases HO.out.2 with ⟨e0, _⟩ | ⟨g, cap, cur, e0, _, hc, _⟩
            · rw [e0] at hk; cases hk
            · rw [e0] at hk
              obtain rfl : g = k := by simpa [Value.ownBlock] using hk
              exact ⟨cur, hc⟩
          rw [H1.out]
          exact Kl.of_own (ks := (List.range j).map (keyAt B)) (by rw [List.length_map, List.length_range]; exact HO.out) (fun l hl => by
            obtain ⟨x, hx, rfl⟩ := List.mem_map.1 hl
            exact HK32.out x (List.mem_range.1 hx))
theorem riKeys_any (w : World) (r : Nat) (bv : Value) (b : List UInt8) (s : St) (m : Int) (hbl : b.length ≤ 1000000000) (h : RiAt w r bv b s) :
    Calls Try.prog 27 #[.pointer (some ⟨r, 0, none⟩), .int .i64 m] w fun e w' => ∃ v, e = .returned v ∧ Kl w' v (s.keys m) ∧ RiAt w' r bv b (s.keyS m) ∧ w.grownBy w' (some r) :=
  (riKeysIn w r bv b s m hbl h).mono fun _ _ ⟨v, h1, h2, h3⟩ => ⟨v, h1, h2.1, h3⟩
end Go.Proofs.Ytjhhpakaemnemaa
end
