/-
  Contracts of slices.Clone of sectors and of writes, and of a device's Copy. Conditions: as each theorem names them.
-/
import Derived.Test.YtenmgpijhaalbaaDevF
import Derived.Lib.SliceRun
namespace Go.Proofs.Ytenmgpijhaalbaa
open Go.RowKit
set_option linter.unusedVariables false
set_option maxRecDepth 20000

set_option maxHeartbeats 1000000 in
theorem cloneS_any (w : World) (v : Value) (n : Nat) (xs : List Value) (h : w.ownsRow 0 67 256 v n xs) (h1 : ∀ u ∈ xs, u.oneCell' = true) (hn : n ≤ 1000000) :
    Calls Try.prog 35 #[v] w fun e w' => ∃ v', e = .returned v' ∧ w'.ownsRow w.heap.size 67 256 v' n xs ∧ Below w.heap.size w w' := by
  have HH := Lib.hid h
  have H1 := Lib.hid h1
  rcases h.2 with ⟨rfl, h0⟩ | ⟨g, c, cur, rfl, _, hg, hc1, hc2, hc3, hc4⟩
  · have hq : ∀ (w : World), (binOp .eql 54 (.slice none 0 0) (.slice none 0 0)).run Try.prog w = .ok (.bool true) w := fun w => Lib.run_eql_slice_nil w _ _ none 0 0 0 0 Try.underlying54
    have hx : xs = [] := List.eq_nil_of_length_eq_zero (by rw [h.1, h0])
    subst h0 hx
    clear h h1
    go_enter Try.func35, Try.ntmps35
    go_wp2
    go_ret
    exact ⟨_, rfl, World.ownsRow_nil _ _ _ _, Below.refl _ _⟩
  · have hq : ∀ (w : World), (binOp .eql 54 (.slice (some ⟨g, 0, none⟩) n c) (.slice none 0 0)).run Try.prog w = .ok (.bool false) w := fun w => Lib.run_eql_slice_nil w _ _ (some ⟨g, 0, none⟩) n c 0 0 Try.underlying54
    have hlt : g < w.heap.size := RowAt.lt hg
    have E : Hid ((w.alloc (.cells #[] 67)).ownsRow w.heap.size 67 256 (.slice (some ⟨w.heap.size, 0, none⟩) 0 0) 0 []) := World.ownsRow_lit (base := w.heap.size) (e := 67) (size := 256) w #[] 0 (Nat.le_refl _) (by simp [maxLen]) rfl
    have HB : Hid (Below w.heap.size w (w.alloc (.cells #[] 67))) := (Below.refl _ w).alloc (Nat.le_refl _) (.cells #[] 67)
    have HS : Hid (∀ j u, xs[j]? = some u → (w.alloc (.cells #[] 67)).cell? ((⟨g, 0, none⟩ : Addr).add j) = some u) := by
      intro j u hj
      have hadd : (⟨g, 0, none⟩ : Addr).add j = ⟨g, j, none⟩ := by unfold Addr.add; split <;> simp_all
      rw [hadd, HB.out.cell (p := ⟨g, j, none⟩) hlt, RowAt.cell hg]
      have : (cur.toList.take (n * 256))[j]? = some u := by rw [hc4]; exact hj
      rw [List.getElem?_take] at this
      split at this
      · simpa using this
      · cases this
    have hln := h.1
    obtain ⟨ifo, hifo, hz0, hz1, hz2⟩ := info_parts Try.infoSector
    clear h h1 hg hc4
    go_enter Try.func35, Try.ntmps35
    go_wp2_with (at_builtin; refine wpList_append_own_at _ (o := ⟨some 7, _, _, _, _, _⟩) rfl (.tmp 5) (.tmp 6) 54 rfl w.heap.size 67 ifo (.agg (cellsB zeroSec).toArray) 256 256 Try.underlying54 hifo hz0 hz1 hz2 (by kernel_rfl) (by decide) _ 0 [] rfl E.out ⟨g, 0, none⟩ n c xs rfl hln HS.out H1.out (by unfold maxLen; omega) (by omega) HB.out.size ?_; intro v6 w6 own6 g6 _ at6)
    go_ret
    have e1 : 0 + n = n := Nat.zero_add n
    rw [e1, List.nil_append] at own6
    refine ⟨_, rfl, own6, HB.out.trans ⟨g6.os, g6.tape, g6.output, g6.size, fun k hk => ?_⟩⟩
    refine g6.block k (Nat.lt_of_lt_of_le hk HB.out.size) fun e => ?_
    have h3 : k = w.heap.size := Option.some.inj e
    omega

set_option maxHeartbeats 1000000 in
theorem cloneW_any (w : World) (v : Value) (n : Nat) (xs : List Value) (h : w.ownsRow 0 69 257 v n xs) (h1 : ∀ u ∈ xs, u.oneCell' = true) (hn : n ≤ 1000000) :
    Calls Try.prog 36 #[v] w fun e w' => ∃ v', e = .returned v' ∧ w'.ownsRow w.heap.size 69 257 v' n xs ∧ Below w.heap.size w w' := by
  have HH := Lib.hid h
  have H1 := Lib.hid h1
  rcases h.2 with ⟨rfl, h0⟩ | ⟨g, c, cur, rfl, _, hg, hc1, hc2, hc3, hc4⟩
  · have hq : ∀ (w : World), (binOp .eql 55 (.slice none 0 0) (.slice none 0 0)).run Try.prog w = .ok (.bool true) w := fun w => Lib.run_eql_slice_nil w _ _ none 0 0 0 0 Try.underlying55
    have hx : xs = [] := List.eq_nil_of_length_eq_zero (by rw [h.1, h0])
    subst h0 hx
    clear h h1
    go_enter Try.func36, Try.ntmps36
    go_wp2
    go_ret
    exact ⟨_, rfl, World.ownsRow_nil _ _ _ _, Below.refl _ _⟩
  · have hq : ∀ (w : World), (binOp .eql 55 (.slice (some ⟨g, 0, none⟩) n c) (.slice none 0 0)).run Try.prog w = .ok (.bool false) w := fun w => Lib.run_eql_slice_nil w _ _ (some ⟨g, 0, none⟩) n c 0 0 Try.underlying55
    have hlt : g < w.heap.size := RowAt.lt hg
    have E : Hid ((w.alloc (.cells #[] 69)).ownsRow w.heap.size 69 257 (.slice (some ⟨w.heap.size, 0, none⟩) 0 0) 0 []) := World.ownsRow_lit (base := w.heap.size) (e := 69) (size := 257) w #[] 0 (Nat.le_refl _) (by simp [maxLen]) rfl
    have HB : Hid (Below w.heap.size w (w.alloc (.cells #[] 69))) := (Below.refl _ w).alloc (Nat.le_refl _) (.cells #[] 69)
    have HS : Hid (∀ j u, xs[j]? = some u → (w.alloc (.cells #[] 69)).cell? ((⟨g, 0, none⟩ : Addr).add j) = some u) := by
      intro j u hj
      have hadd : (⟨g, 0, none⟩ : Addr).add j = ⟨g, j, none⟩ := by unfold Addr.add; split <;> simp_all
      rw [hadd, HB.out.cell (p := ⟨g, j, none⟩) hlt, RowAt.cell hg]
      have : (cur.toList.take (n * 257))[j]? = some u := by rw [hc4]; exact hj
      rw [List.getElem?_take] at this
      split at this
      · simpa using this
      · cases this
    have hln := h.1
    obtain ⟨ifo, hifo, hz0, hz1, hz2⟩ := info_parts Try.infoWrite
    clear h h1 hg hc4
    go_enter Try.func36, Try.ntmps36
    go_wp2_with (at_builtin; refine wpList_append_own_at _ (o := ⟨some 7, _, _, _, _, _⟩) rfl (.tmp 5) (.tmp 6) 55 rfl w.heap.size 69 ifo (.agg zeroWr) 257 264 Try.underlying55 hifo hz0 hz1 hz2 (by kernel_rfl) (by decide) _ 0 [] rfl E.out ⟨g, 0, none⟩ n c xs rfl hln HS.out H1.out (by unfold maxLen; omega) (by omega) HB.out.size ?_; intro v6 w6 own6 g6 _ at6)
    go_ret
    have e1 : 0 + n = n := Nat.zero_add n
    rw [e1, List.nil_append] at own6
    refine ⟨_, rfl, own6, HB.out.trans ⟨g6.os, g6.tape, g6.output, g6.size, fun k hk => ?_⟩⟩
    refine g6.block k (Nat.lt_of_lt_of_le hk HB.out.size) fun e => ?_
    have h3 : k = w.heap.size := Option.some.inj e
    omega
theorem own_some2 {w : World} {base n sz : Nat} {e : TypeId} {v : Value} {xs : List Value} (h : w.ownsRow base e sz v n xs) (hn : 1 ≤ n) : ∃ g c, v = .slice (some ⟨g, 0, none⟩) n c ∧ base ≤ g ∧ g < w.heap.size := by
  rcases h.2 with ⟨_, h0⟩ | ⟨g, c, cur, rfl, hb, hg, _⟩
  · omega
  · exact ⟨g, c, rfl, hb, RowAt.lt hg⟩
theorem own_base {w : World} {base b2 n sz : Nat} {e : TypeId} {v : Value} {xs : List Value} (h : w.ownsRow base e sz v n xs) (hb : b2 ≤ base) : w.ownsRow b2 e sz v n xs := by
  refine ⟨h.1, ?_⟩
  rcases h.2 with h1 | ⟨g, c, cur, h1, h2, h3⟩
  · exact .inl h1
  · exact .inr ⟨g, c, cur, h1, Nat.le_trans hb h2, h3⟩
theorem own_kept {w w' : World} {base n sz : Nat} {e : TypeId} {v : Value} {xs : List Value} (h : w.ownsRow base e sz v n xs) (hb : Below w.heap.size w w') : w'.ownsRow base e sz v n xs := (Turns.of_below (fun _ => False) hb).own h fun _ _ h => h
theorem Try.builtDevAll (u v x : Value) (hu : ∃ A n c, u = .slice A n c) (hv : ∃ A n c, v = .slice A n c) (hx : ∃ A n c, x = .slice A n c) (t : Bool) (l : Int) (b : Bool) : Try.prog.built 59 [(0, u), (1, v), (2, x), (3, .agg #[.bool t, .int .i64 l, .bool b])] = some #[u, v, x, .bool t, .int .i64 l, .bool b] := by
  obtain ⟨A, n, c, rfl⟩ := hu
  obtain ⟨A2, n2, c2, rfl⟩ := hv
  obtain ⟨A3, n3, c3, rfl⟩ := hx
  kernel_rfl
theorem fuse_range {w : World} {g gn cn gs cs : Nat} {vp : Value} {d : Dev} (h : DevIs w g gn cn gs cs vp d) : w.rangeAt g 3 [.bool d.there, .int .i64 d.left, .bool d.burnt] := by
  intro j v hj
  match j, hj with
  | 0, hj => exact h.cell 3 _ hj
  | 1, hj => exact h.cell 4 _ hj
  | 2, hj => exact h.cell 5 _ hj
set_option maxHeartbeats 2000000 in
theorem devCopy_any (w : World) (g gn cn gs cs : Nat) (vp : Value) (d : Dev) (h : DevIs w g gn cn gs cs vp d) (hp : d.pend.length ≤ 1000000) :
    Calls Try.prog 19 #[.pointer (some ⟨g, 0, none⟩)] w fun e w' => ∃ g' gn' cn' gs' cs' vp', e = .returned (.pointer (some ⟨g', 0, none⟩)) ∧ DevIs w' g' gn' cn' gs' cs' vp' d ∧ (∀ k, Foot g' gn' gs' vp' k → w.heap.size ≤ k) ∧ Below w.heap.size w w' := by
  have HH := Lib.hid h
  obtain ⟨A, c, hvp⟩ := h.vp_shape
  have HV := Lib.hid hvp
  clear h hvp
  have hle := HH.out.ok.most
  go_enter Try.func19, Try.ntmps19
  go_wp2_with fail
  have hS : Below w.heap.size w w.drew := (Below.refl _ _).drew
  refine plain_region (S := fun W => Below w.heap.size w W) (fin := fun _ => false) (by kernel_rfl) ?_
  change walkS _ _ _ _ _ _ 22 _ _ _
  refine walkS_take (i := 0) (oi := ⟨some 5, _, _, _, _, _⟩) (v := (.pointer (some ⟨g, 0, none⟩))) rfl (by kernel_rfl) (by kernel_rfl) (fun _ _ _ h => h) _ _ _ _ (by kernel_rfl) (by kernel_rfl) (Or.inl ⟨by rfl, fun w' hS' => (by clear hS hS'; go_simp)⟩) hS ?_
  try simp only [Act.put, List.setIfInBounds_toArray, List.set_cons_zero, List.set_cons_succ]
  refine walkS_take (i := 1) (oi := ⟨some 6, _, _, _, _, _⟩) (v := (.pointer (some ⟨g, 0, none⟩))) rfl (by kernel_rfl) (by kernel_rfl) (fun _ _ _ h => h) _ _ _ _ (by kernel_rfl) (by kernel_rfl) (Or.inl ⟨by rfl, fun w' hS' => (by clear hS hS'; go_simp)⟩) hS ?_
  try simp only [Act.put, List.setIfInBounds_toArray, List.set_cons_zero, List.set_cons_succ]
  refine walkS_take (i := 2) (oi := ⟨some 7, _, _, _, _, _⟩) (v := (.pointer (some ⟨g, 0, none⟩))) rfl (by kernel_rfl) (by kernel_rfl) (fun _ _ _ h => h) _ _ _ _ (by kernel_rfl) (by kernel_rfl) (Or.inl ⟨by rfl, fun w' hS' => (by clear hS hS'; go_simp)⟩) hS ?_
  try simp only [Act.put, List.setIfInBounds_toArray, List.set_cons_zero, List.set_cons_succ]
  refine walkS_take (i := 3) (oi := ⟨some 8, _, _, _, _, _⟩) (v := (.slice (some ⟨gn, 0, none⟩) d.now.length cn)) rfl (by kernel_rfl) (by kernel_rfl) (fun _ _ _ h => h) _ _ _ _ (by kernel_rfl) (by kernel_rfl) (Or.inl ⟨by rfl, fun w' hS' => (by have h1 := (HH.out.kept hS').cell 0 _ rfl; clear hS hS'; go_simp)⟩) hS ?_
  try simp only [Act.put, List.setIfInBounds_toArray, List.set_cons_zero, List.set_cons_succ]
  refine walkS_take (i := 5) (oi := ⟨some 10, _, _, _, _, _⟩) (v := (.pointer (some ⟨g, 0, none⟩))) rfl (by kernel_rfl) (by kernel_rfl) (fun _ _ _ h => h) _ _ _ _ (by kernel_rfl) (by kernel_rfl) (Or.inl ⟨by rfl, fun w' hS' => (by clear hS hS'; go_simp)⟩) hS ?_
  try simp only [Act.put, List.setIfInBounds_toArray, List.set_cons_zero, List.set_cons_succ]
  refine walkS_take (i := 6) (oi := ⟨some 11, _, _, _, _, _⟩) (v := (.pointer (some ⟨g, 0, none⟩))) rfl (by kernel_rfl) (by kernel_rfl) (fun _ _ _ h => h) _ _ _ _ (by kernel_rfl) (by kernel_rfl) (Or.inl ⟨by rfl, fun w' hS' => (by clear hS hS'; go_simp)⟩) hS ?_
  try simp only [Act.put, List.setIfInBounds_toArray, List.set_cons_zero, List.set_cons_succ]
  refine walkS_take (i := 7) (oi := ⟨some 12, _, _, _, _, _⟩) (v := (.pointer (some ⟨g, 1, none⟩))) rfl (by kernel_rfl) (by kernel_rfl) (fun _ _ _ h => h) _ _ _ _ (by kernel_rfl) (by kernel_rfl) (Or.inl ⟨by rfl, fun w' hS' => (by clear hS hS'; go_simp)⟩) hS ?_
  try simp only [Act.put, List.setIfInBounds_toArray, List.set_cons_zero, List.set_cons_succ]
  refine walkS_take (i := 8) (oi := ⟨some 13, _, _, _, _, _⟩) (v := (.slice (some ⟨gs, 0, none⟩) d.now.length cs)) rfl (by kernel_rfl) (by kernel_rfl) (fun _ _ _ h => h) _ _ _ _ (by kernel_rfl) (by kernel_rfl) (Or.inl ⟨by rfl, fun w' hS' => (by have h1 := (HH.out.kept hS').cell 1 _ rfl; clear hS hS'; go_simp)⟩) hS ?_
  try simp only [Act.put, List.setIfInBounds_toArray, List.set_cons_zero, List.set_cons_succ]
  refine walkS_take (i := 10) (oi := ⟨some 15, _, _, _, _, _⟩) (v := (.pointer (some ⟨g, 0, none⟩))) rfl (by kernel_rfl) (by kernel_rfl) (fun _ _ _ h => h) _ _ _ _ (by kernel_rfl) (by kernel_rfl) (Or.inl ⟨by rfl, fun w' hS' => (by clear hS hS'; go_simp)⟩) hS ?_
  try simp only [Act.put, List.setIfInBounds_toArray, List.set_cons_zero, List.set_cons_succ]
  refine walkS_take (i := 11) (oi := ⟨some 16, _, _, _, _, _⟩) (v := (.pointer (some ⟨g, 0, none⟩))) rfl (by kernel_rfl) (by kernel_rfl) (fun _ _ _ h => h) _ _ _ _ (by kernel_rfl) (by kernel_rfl) (Or.inl ⟨by rfl, fun w' hS' => (by clear hS hS'; go_simp)⟩) hS ?_
  try simp only [Act.put, List.setIfInBounds_toArray, List.set_cons_zero, List.set_cons_succ]
  refine walkS_take (i := 12) (oi := ⟨some 17, _, _, _, _, _⟩) (v := (.pointer (some ⟨g, 2, none⟩))) rfl (by kernel_rfl) (by kernel_rfl) (fun _ _ _ h => h) _ _ _ _ (by kernel_rfl) (by kernel_rfl) (Or.inl ⟨by rfl, fun w' hS' => (by clear hS hS'; go_simp)⟩) hS ?_
  try simp only [Act.put, List.setIfInBounds_toArray, List.set_cons_zero, List.set_cons_succ]
  refine walkS_take (i := 13) (oi := ⟨some 18, _, _, _, _, _⟩) (v := vp) rfl (by kernel_rfl) (by kernel_rfl) (fun _ _ _ h => h) _ _ _ _ (by kernel_rfl) (by kernel_rfl) (Or.inl ⟨by rfl, fun w' hS' => (by have h1 := (HH.out.kept hS').cell 2 _ rfl; clear hS hS'; go_simp)⟩) hS ?_
  try simp only [Act.put, List.setIfInBounds_toArray, List.set_cons_zero, List.set_cons_succ]
  refine walkS_take (i := 15) (oi := ⟨some 20, _, _, _, _, _⟩) (v := (.pointer (some ⟨g, 0, none⟩))) rfl (by kernel_rfl) (by kernel_rfl) (fun _ _ _ h => h) _ _ _ _ (by kernel_rfl) (by kernel_rfl) (Or.inl ⟨by rfl, fun w' hS' => (by clear hS hS'; go_simp)⟩) hS ?_
  try simp only [Act.put, List.setIfInBounds_toArray, List.set_cons_zero, List.set_cons_succ]
  refine walkS_take (i := 16) (oi := ⟨some 21, _, _, _, _, _⟩) (v := (.pointer (some ⟨g, 0, none⟩))) rfl (by kernel_rfl) (by kernel_rfl) (fun _ _ _ h => h) _ _ _ _ (by kernel_rfl) (by kernel_rfl) (Or.inl ⟨by rfl, fun w' hS' => (by clear hS hS'; go_simp)⟩) hS ?_
  try simp only [Act.put, List.setIfInBounds_toArray, List.set_cons_zero, List.set_cons_succ]
  refine walkS_take (i := 17) (oi := ⟨some 22, _, _, _, _, _⟩) (v := (.pointer (some ⟨g, 3, none⟩))) rfl (by kernel_rfl) (by kernel_rfl) (fun _ _ _ h => h) _ _ _ _ (by kernel_rfl) (by kernel_rfl) (Or.inl ⟨by rfl, fun w' hS' => (by clear hS hS'; go_simp)⟩) hS ?_
  try simp only [Act.put, List.setIfInBounds_toArray, List.set_cons_zero, List.set_cons_succ]
  refine walkS_take (i := 18) (oi := ⟨some 23, _, _, _, _, _⟩) (v := (.agg #[.bool d.there, .int .i64 d.left, .bool d.burnt])) rfl (by kernel_rfl) (by kernel_rfl) (fun _ _ _ h => h) _ _ _ _ (by kernel_rfl) (by kernel_rfl) (Or.inl ⟨by rfl, fun w' hS' => (run_load_range 57 (.tmp 22) rfl 3 [.bool d.there, .int .i64 d.left, .bool d.burnt] _ (by with_unfolding_all rfl) (fuse_range (HH.out.kept hS')) Try.underlying57 rfl (by kernel_rfl))⟩) hS ?_
  try simp only [Act.put, List.setIfInBounds_toArray, List.set_cons_zero, List.set_cons_succ]
  refine walkS_only (i := 4) (o := ⟨some 9, _, _, _, _, _⟩) (by kernel_rfl) rfl rfl fun KK hKK => ?_
  go_simp
  refine (cloneS_any _ _ d.now.length _ (HH.out.kept hS).now (cellsB_one _) (by omega)).mono ?_
  rintro e w1 ⟨v1, rfl, o1, b1⟩
  have B1 := below_size hS b1
  refine hKK _ _ (.inr B1) ?_
  try simp only [Act.put, List.setIfInBounds_toArray, List.set_cons_zero, List.set_cons_succ]
  clear hKK KK
  have O1 := Lib.hid (own_base o1 hS.size)
  obtain ⟨gn', cn', rfl, hn1, hn2⟩ := own_some2 o1 HH.out.ok.least
  have hn3 : w.heap.size ≤ gn' := Nat.le_trans hS.size hn1
  clear o1 b1 hS hn1
  refine walkS_only (i := 9) (o := ⟨some 14, _, _, _, _, _⟩) (by kernel_rfl) rfl rfl fun KK hKK => ?_
  go_simp
  refine (cloneS_any _ _ d.now.length _ (HH.out.kept B1).sure (cellsB_one _) (by omega)).mono ?_
  rintro e w2 ⟨v2, rfl, o2, b2⟩
  have B2 := below_size B1 b2
  refine hKK _ _ (.inr B2) ?_
  try simp only [Act.put, List.setIfInBounds_toArray, List.set_cons_zero, List.set_cons_succ]
  clear hKK KK
  have O2 := Lib.hid (own_base o2 B1.size)
  have O1' := Lib.hid (own_kept O1.out b2)
  obtain ⟨gs', cs', rfl, hs1, hs2⟩ := own_some2 o2 HH.out.ok.least
  have hs3 : w.heap.size ≤ gs' := Nat.le_trans B1.size hs1
  have hne : gn' ≠ gs' := by omega
  clear o2 b2 O1 B1 hs1 hn2 hs2
  refine walkS_only (i := 14) (o := ⟨some 19, _, _, _, _, _⟩) (by kernel_rfl) rfl rfl fun KK hKK => ?_
  go_simp
  refine (cloneW_any _ _ d.pend.length _ (HH.out.kept B2).pend (wrC_one _) hp).mono ?_
  rintro e w3 ⟨vp', rfl, o3, b3⟩
  have B3 := below_size B2 b3
  refine hKK _ _ (.inr B3) ?_
  try simp only [Act.put, List.setIfInBounds_toArray, List.set_cons_zero, List.set_cons_succ]
  clear hKK KK
  have O3 := Lib.hid (own_base o3 B2.size)
  have O1 := Lib.hid (own_kept O1'.out b3)
  have O2' := Lib.hid (own_kept O2.out b3)
  have hv3 : ∃ A n c, vp' = .slice A n c := by
    rcases o3.2 with ⟨rfl, _⟩ | ⟨_, _, _, rfl, _⟩
    · exact ⟨_, _, _, rfl⟩
    · exact ⟨_, _, _, rfl⟩
  clear o3 b3 O1' O2 B2
  refine walkS_only (i := 19) (o := ⟨some 24, _, _, _, _, _⟩) (by kernel_rfl) rfl rfl fun KK hKK => ?_
  refine wp_val (.agg #[.slice (some ⟨gn', 0, none⟩) d.now.length cn', .slice (some ⟨gs', 0, none⟩) d.now.length cs', vp', .bool d.there, .int .i64 d.left, .bool d.burnt]) (by exact run_builtOp 59 #[(0, .tmp 9), (1, .tmp 14), (2, .tmp 19), (3, .tmp 23)] rfl _ (by with_unfolding_all exact Try.builtDevAll _ _ _ ⟨_, _, _, rfl⟩ ⟨_, _, _, rfl⟩ hv3 _ _ _)) ?_
  refine hKK _ _ (.inr B3) ?_
  try simp only [Act.put, List.setIfInBounds_toArray, List.set_cons_zero, List.set_cons_succ]
  clear hKK KK
  refine walkS_only (i := 20) (o := ⟨some 25, _, _, _, _, _⟩) (by kernel_rfl) rfl rfl fun KK hKK => ?_
  refine wp_box_row 59 (.tmp 24) rfl #[.slice (some ⟨gn', 0, none⟩) d.now.length cn', .slice (some ⟨gs', 0, none⟩) d.now.length cs', vp', .bool d.there, .int .i64 d.left, .bool d.burnt] (by with_unfolding_all rfl) ?_
  intro g' w4 n4
  have B4 := below_size B3 n4.below
  have N4 := Lib.hid n4
  clear n4
  refine hKK _ _ (.inr B4) ?_
  try simp only [Act.put, List.setIfInBounds_toArray, List.set_cons_zero, List.set_cons_succ]
  clear hKK KK
  refine walkS_only (i := 21) (o := ⟨some 2, _, _, _, _, _⟩) (by kernel_rfl) rfl rfl fun KK hKK => ?_
  go_simp
  refine hKK _ _ (.inr B4) ?_
  clear hKK KK
  refine walkS_done (by kernel_rfl) ?_ _
  go_wp2
  go_ret
  have bb := N4.out.below
  refine ⟨g', gn', cn', gs', cs', vp', rfl, ⟨N4.out.row, own_base (own_kept O1.out bb) (Nat.zero_le _), own_base (own_kept O2'.out bb) (Nat.zero_le _), own_base (own_kept O3.out bb) (Nat.zero_le _), hne, HH.out.ok⟩, fun k hk => ?_, B4⟩
  rcases hk with rfl | rfl | rfl | hk
  · rw [N4.out.spot]
    exact B3.size
  · exact hn3
  · exact hs3
  · exact (World.ownsRow.lt O3.out k hk).1
end Go.Proofs.Ytenmgpijhaalbaa
