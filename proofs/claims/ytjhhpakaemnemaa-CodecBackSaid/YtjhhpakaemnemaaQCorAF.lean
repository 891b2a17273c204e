/-
  Texts that belong together, merged: CodZ, CodD, CodI. Conditions: as each theorem names them.
-/
import Derived.Test.YtjhhpakaemnemaaQCorAE
import Derived.Deep.Onto
import Derived.Test.YtjhhpakaemnemaaQCorAD
import Derived.Laws.CopyRow
import Derived.Test.YtjhhpakaemnemaaQCorAB
import Derived.RangeFuncNested
section
namespace Go.Proofs.Ytjhhpakaemnemaa
open Go.RowKit
set_option linter.unusedVariables false
set_option maxRecDepth 20000

theorem pos_cases (z : Int) (h : badK z = false) : ∃ p : Nat, posK z = p ∧ p < 6 ∧ z = kindAt p := by
  unfold badK posK at h
  unfold posK
  split at h
  · rename_i e; subst e; exact ⟨0, rfl, by omega, rfl⟩
  split at h
  · rename_i e; subst e; exact ⟨1, rfl, by omega, rfl⟩
  split at h
  · rename_i e; subst e; exact ⟨2, rfl, by omega, rfl⟩
  split at h
  · rename_i e; subst e; exact ⟨3, rfl, by omega, rfl⟩
  split at h
  · rename_i e; subst e; exact ⟨4, rfl, by omega, rfl⟩
  split at h
  · rename_i e; subst e; exact ⟨5, rfl, by omega, rfl⟩
  · simp at h
theorem encS_take (its : List It) (j : Nat) (x : It) (h : its[j]? = some x) : encS (its.take (j + 1)) = (encS (its.take j)).item x := by
  unfold encS
  rw [List.take_add_one, h, List.foldl_append]
  rfl
theorem encS_length (its : List It) (h : ∀ x ∈ its, ∀ l ∈ x.l, l.length = 32) : (encS its).l.length ≤ 4002 * its.length := by
  have key : ∀ (its : List It) (s : St), (∀ x ∈ its, ∀ l ∈ x.l, l.length = 32) → (its.foldl St.item s).l.length ≤ s.l.length + 4002 * its.length := by
    intro its
    induction its with
    | nil => intro s _; simp
    | cons x its ih =>
      intro s h
      have h1 := ih (s.item x) fun y hy => h y (List.mem_cons_of_mem _ hy)
      have h2 := s.item_length x (h x List.mem_cons_self)
      rw [List.foldl_cons, List.length_cons]
      omega
  have := key its ⟨[], 0⟩ h
  simpa [encS] using this
theorem any_range (its : List It) (f : It → Bool) : (List.range its.length).any (fun j => f (its.getD j default)) = its.any f := by
  have e : its = (List.range its.length).map (fun j => its.getD j default) := by
    apply List.ext_getElem (by simp)
    intro i h1 h2
    simp [List.getElem?_eq_getElem h1]
  conv => rhs; rw [e]
  rw [List.any_map]
  rfl
theorem itC_one (w : World) (x : It) (bv lv : Value) (h1 : Bs w bv x.b) (h2 : Kl w lv x.l) : ∀ u ∈ itC x bv lv, u.oneCell' = true := by
  obtain ⟨A, c, rfl, _⟩ := h1
  obtain ⟨B, d, rfl, _⟩ := h2
  intro u hu
  simp only [itC, List.mem_cons, List.not_mem_nil, or_false] at hu
  rcases hu with rfl | rfl | rfl | rfl <;> rfl
theorem WaysAt.range {w : World} {gw ow wc : Nat} {ps : Nat → Nat} (h : WaysAt w (.slice (some ⟨gw, ow, none⟩) 6 wc) ps) (p : Nat) (hp : p < 6) : w.rangeAt gw (ow + p * 3) (wayC p (ps p)) := by
  obtain ⟨⟨A, c, hv, _, _, h3⟩, _⟩ := h
  injection hv with e1 _ _
  obtain ⟨b, off, hA, hc⟩ := h3 (by omega)
  rw [hA] at e1
  injection e1 with e1
  injection e1 with e1 e2 _
  subst e1 e2
  exact hc p hp
theorem WaysAt.wcell {w : World} {gw ow wc : Nat} {ps : Nat → Nat} (h : WaysAt w (.slice (some ⟨gw, ow, none⟩) 6 wc) ps) (p : Nat) (hp : p < 6) : w.cell? ⟨gw, ow + p * 3 + 1, none⟩ = some (wayW p (ps p)) := h.range p hp 1 _ rfl
theorem WaysAt.rcell {w : World} {gw ow wc : Nat} {ps : Nat → Nat} (h : WaysAt w (.slice (some ⟨gw, ow, none⟩) 6 wc) ps) (p : Nat) (hp : p < 6) : w.cell? ⟨gw, ow + p * 3 + 2, none⟩ = some (wayR p (ps p)) := h.range p hp 2 _ rfl
theorem wayW_cases (p q : Nat) (hp : p < 6) : (p = 0 ∧ wayW p q = .func (.func 63) #[] #[]) ∨ (p = 1 ∧ wayW p q = .func (.func 65) #[] #[]) ∨ (2 ≤ p ∧ wayW p q = .func (.func 68) #[] #[.pointer (some ⟨q, 0, none⟩)]) := by
  unfold wayW
  by_cases h0 : p = 0
  · exact .inl ⟨h0, if_pos h0⟩
  · by_cases h1 : p = 1
    · exact .inr (.inl ⟨h1, by rw [if_neg h0, if_pos h1]⟩)
    · exact .inr (.inr ⟨by omega, by rw [if_neg h0, if_neg h1]⟩)
theorem wayR_cases (p q : Nat) (hp : p < 6) : (p = 0 ∧ wayR p q = .func (.func 64) #[] #[]) ∨ (p = 1 ∧ wayR p q = .func (.func 66) #[] #[]) ∨ (2 ≤ p ∧ wayR p q = .func (.func 69) #[] #[.pointer (some ⟨q, 0, none⟩)]) := by
  unfold wayR
  by_cases h0 : p = 0
  · exact .inl ⟨h0, if_pos h0⟩
  · by_cases h1 : p = 1
    · exact .inr (.inl ⟨h1, by rw [if_neg h0, if_pos h1]⟩)
    · exact .inr (.inr ⟨by omega, by rw [if_neg h0, if_neg h1]⟩)
theorem kind_ne (p : Nat) (h2 : 2 ≤ p) (hp : p < 6) : kindAt p ≠ 9 ∧ kindAt p ≠ 32 := by
  match p, h2, hp with
  | 2, _, _ => exact ⟨by decide, by decide⟩
  | 3, _, _ => exact ⟨by decide, by decide⟩
  | 4, _, _ => exact ⟨by decide, by decide⟩
  | 5, _, _ => exact ⟨by decide, by decide⟩
theorem Boxed.of_row {w : World} {g : Nat} {t : TypeId} {v : Value} (h : RowAt w g t #[v]) : Boxed w g t v := h
theorem Try.zeroItem : (Try.prog.info? 60).map (·.zero) = some (some (.agg #[.int .i64 0, .int .u64 0, .slice none 0 0, .slice none 0 0])) := by kernel_rfl

/-- What Encode hands back. -/
def EncRet (w : World) (its : List It) (e : Ending) (w' : World) : Prop :=
  (its.any (fun x => badK x.k) = true ∧ e = .returned (.tuple #[.slice none 0 0, .int .i64 51])) ∨ (its.any (fun x => badK x.k) = false ∧ ∃ u, e = .returned (.tuple #[u, .int .i64 (encS its).e]) ∧ OwnB w' w.heap.size 5 u (encS its).l)
set_option maxHeartbeats 4000000 in
theorem encode_any (w : World) (v : Value) (its : List It) (h : Its w v its) (hl : its.length ≤ 1000) :
    Calls Try.prog 11 #[v] w fun e w' => Below w.heap.size w w' ∧ EncRet w its e w' := by
  have HH := Lib.hid h
  obtain ⟨bv, lv, hR, hI⟩ := h
  have HI := Lib.hid hI
  have HR := Lib.hid hR
  have H32 : Hid (∀ x ∈ its, ∀ l ∈ x.l, l.length = 32) := fun x hx l hl => by
    obtain ⟨j, hj⟩ := List.mem_iff_getElem?.1 hx
    obtain ⟨_, _, _, _, _, h4, _⟩ := (hI j x hj).2.1
    exact h4 l hl
  have HW := Lib.hid (fun w => ways_any w)
  obtain ⟨A, c, rfl, q1, q2, q3⟩ := hR
  unfold maxLen at q2
  have HCON : Hid (∀ W q wv ps, Below w.heap.size w W → Boxed W q 78 wv → WaysAt W wv ps → Calls Try.prog 39 #[.slice A its.length c, .func (.func 40) #[] #[.pointer (some ⟨q, 0, none⟩)]] W (RetV W (.bool (its.any fun x => badK x.k)))) := fun W q wv ps hb hq hw => by
    rw [← any_range]
    exact hasItem_any W _ its.length q _ (fun j => badK (its.getD j default).k) (HR.out.below hb) (fun _ => rfl) fun j wr hj hbr => encode1_any wr q wv ps _ _ _ _ (boxed_below hq hbr) (hw.below hbr)
  clear hI
  go_enter Try.func11, Try.ntmps11
  go_wp2_with fail
  refine (HW.out _).mono ?_
  intro e w1 hh
  obtain ⟨wv, ps, he, hwv, b1⟩ := hh
  subst he
  have AL1 := alloc_below w1 (.cells #[wv] 78)
  have HWV := Lib.hid (hwv.below AL1)
  have B2 := Lib.hid (below_size b1 AL1)
  have HBX := Lib.hid (Boxed.new w1 78 wv)
  obtain ⟨⟨WA, wc, rfl, _, _, hWA⟩, _⟩ := hwv
  obtain ⟨gw, ow, rfl, _⟩ := hWA (by omega)
  clear b1 AL1 HW hWA
  obtain ⟨g4, hg4⟩ : ∃ g4, g4 = w1.heap.size := ⟨_, rfl⟩
  rw [← hg4] at HBX
  obtain ⟨w2, hw2⟩ : ∃ w2, w2 = w1.alloc (.cells #[.slice (some ⟨gw, ow, none⟩) 6 wc] 78) := ⟨_, rfl⟩
  rw [← hw2] at HBX B2 HWV
  have HW2 := Lib.hid hw2
  have HG4 := Lib.hid hg4
  clear hw2 hg4
  go_wp2_with fail
  rw [← HW2.out, ← HG4.out]
  refine (HCON.out _ _ _ _ B2.out HBX.out HWV.out).mono ?_
  intro e w3 hh
  obtain ⟨he, b3⟩ := hh
  subst he
  have B3 := Lib.hid (below_size B2.out b3)
  have HBX3 := Lib.hid (boxed_below HBX.out b3)
  have HWV3 := Lib.hid (HWV.out.below b3)
  clear b3 HBX B2 HCON HW2 HG4
  cases hany : its.any (fun x => badK x.k) with
  | true =>
    go_wp2_with fail
    go_ret2
    exact ⟨B3.out, .inl ⟨hany, rfl⟩⟩
  | false =>
    have HNB : Hid (∀ (j : Nat) x, its[j]? = some x → badK x.k = false) := fun j x hx => by
      have := List.any_eq_false.1 hany x (List.mem_of_getElem? hx)
      simpa using this
    have HANY := Lib.hid hany
    clear hany
    have AL3 := alloc_below w3 (.cells #[.slice none 0 0, .int .i64 0] 66)
    have HO4 : Hid (OutAt (w3.alloc (.cells #[.slice none 0 0, .int .i64 0] 66)) w3.heap.size (.slice none 0 0) (encS (its.take 0))) := ⟨RowAt.new w3 _ _, OwnB.nil _ _ _⟩
    obtain ⟨o, ho⟩ : ∃ o, o = w3.heap.size := ⟨_, rfl⟩
    rw [← ho] at HO4
    have HO := Lib.hid ho
    have BAL := Lib.hid AL3
    clear AL3 ho
    go_wp2_with fail
    rw [← HO.out]
    go_loopw [16] (fun i wr => ∃ (j : Nat) (v' : Value), j ≤ its.length ∧ i = .int .i64 (j : Int) ∧ OutAt wr o v' (encS (its.take j)) ∧ Below w3.heap.size w3 wr ∧ (∀ k, v'.ownBlock = some k → w3.heap.size ≤ k)) (fun i _ => its.length - (intOf i).toNat)
    case atStart => exact ⟨0, _, by omega, rfl, HO4.out, BAL.out, fun k hk => by cases hk⟩
    case round =>
      clear HO4 BAL
      obtain ⟨j, v', hj, rfl, hO, hB, hV⟩ := hrel
      have HOj := Lib.hid hO
      have HB := Lib.hid hB
      have HV := Lib.hid hV
      clear hO hB hV
      by_cases hlt : j < its.length
      · have hlt2 : (j : Int) < (its.length : Int) := by omega
        have hw1 : IntKind.i64.wrap ((j : Int) + 1) = (j : Int) + 1 := IntWalk.i64_in _ (by omega)
        have hq0 : ¬ ((j : Int) < 0) := by omega
        obtain ⟨x, hx⟩ : ∃ x, its[j]? = some x := ⟨_, List.getElem?_eq_getElem hlt⟩
        have hgx : its.getD j default = x := by rw [List.getD_eq_getElem?_getD, hx]; rfl
        obtain ⟨hb0, hk0, hn0⟩ := HI.out j x hx
        have HN := Lib.hid hn0
        have B0r : Hid (Below w.heap.size w wr) := B3.out.trans (HB.out.mono B3.out.size)
        obtain ⟨b, off, rfl, hc⟩ := q3 (by omega)
        have HRj : Hid (wr.rangeAt b (off + j * 4) (itC x (bv j) (lv j))) := fun i u hu => by
          have h1 := hc j hlt i u (by simp only [hgx]; exact hu)
          exact (B0r.out.cell (p := ⟨b, off + j * 4 + i, none⟩) (World.block_lt_of_cell? w _ h1)).trans h1
        have HBb := Lib.hid (hb0.below B0r.out)
        have HKk := Lib.hid (hk0.below B0r.out)
        have HLb : Hid (0 < x.b.length → ∀ k, (bv j).ownBlock = some k → k < w.heap.size) := fun h => hb0.low h
        have HLk : Hid (0 < x.l.length → ∀ k, (lv j).ownBlock = some k → k < w.heap.size) := fun h => hk0.low h
        have H1C := Lib.hid (itC_one w x (bv j) (lv j) hb0 hk0)
        obtain ⟨p, hp1, hp2, hp3⟩ := pos_cases x.k (HNB.out j x hx)
        have HE := Lib.hid (encS_take its j x hx)
        have HL : Hid ((encS (its.take j)).l.length ≤ 1000000000) := by
          have h1 := encS_length (its.take j) fun x hx => H32.out x (List.mem_of_mem_take hx)
          rw [List.length_take_of_le (by omega)] at h1
          show _ ≤ _
          omega
        obtain ⟨s, hs⟩ : ∃ s, s = encS (its.take j) := ⟨_, rfl⟩
        rw [← hs] at HE HL HOj
        obtain ⟨BV, hBV⟩ : ∃ BV, BV = bv j := ⟨_, rfl⟩
        obtain ⟨LV, hLV⟩ : ∃ LV, LV = lv j := ⟨_, rfl⟩
        rw [← hBV] at HRj HBb HLb H1C
        rw [← hLV] at HRj HKk HLk H1C
        have HBXr := Lib.hid (boxed_below HBX3.out HB.out)
        have HWVr := Lib.hid (HWV3.out.below HB.out)
        have HSO : Hid (w.heap.size ≤ w3.heap.size) := B3.out.size
        have HPK := Lib.hid hp1
        have HPZ := Lib.hid hp3
        clear hc q3 hx hgx hb0 hk0 hn0 hs hBV hLV hp1 hp3
        go_wp2_with (first
          | (with_reducible refine wpList_loadR (o := ⟨some 19, _, _, _, _, _⟩) rfl 60 (.tmp 18) rfl b (off + j * 4) (by with_unfolding_all rfl) (itC x BV LV) _ HRj.out Try.underlying60 rfl (by kernel_rfl) ?_)
          | ((with_reducible refine wpList_alloc_row (o := ⟨some 7, _, _, _, _, _⟩) rfl 60 rfl #[.int .i64 0, .int .u64 0, .slice none 0 0, .slice none 0 0] Try.zeroItem ?_); intro g7 w7 n7)
          | ((with_reducible refine wpList_store_row (o := ⟨none, _, _, _, _, _⟩) rfl 60 (.tmp 7) (.tmp 19) rfl g7 60 #[.int .i64 0, .int .u64 0, .slice none 0 0, .slice none 0 0] (itC x BV LV).toArray (by with_unfolding_all rfl) (by with_unfolding_all rfl) n7.row rfl (by kernel_rfl) (by simpa using H1C.out) ?_); intro w8 p8))
        have HX8 := Lib.hid (laid_put n7 p8).1
        have R8 := Lib.hid p8.row
        have hpi : (p : Int) < 6 := by omega
        have hpn : ¬ ((p : Int) < 0) := by omega
        have HOf : Hid (∀ u : Value, (∀ k, u.ownBlock = some k → k < w.heap.size) → Off o v' u) := fun u hu k hk => by
          have h1 := hu k hk
          have h2 := HSO.out
          have h3 := HO.out
          refine ⟨by omega, fun e => ?_⟩
          have := HV.out k e
          omega
        have HCF : Hid (∀ W, WaysAt W (.slice (some ⟨gw, ow, none⟩) 6 wc) ps → Calls Try.prog 41 #[.slice (some ⟨gw, ow, none⟩) 6 wc, .int .i64 x.k] W (RetV W (.int .i64 (p : Int)))) := fun W h => by
          have h1 := find_any W _ ps x.k h
          rwa [HPK.out] at h1
        clear n7 p8 HRj
        refine plain_region (S := fun W => Boxed W g4 78 (.slice (some ⟨gw, ow, none⟩) 6 wc) ∧ RowAt W g7 60 (itC x BV LV).toArray ∧ WaysAt W (.slice (some ⟨gw, ow, none⟩) 6 wc) ps) (fin := fun _ => false) (by kernel_rfl) ?_
        have hS : Boxed w8.drew g4 78 (.slice (some ⟨gw, ow, none⟩) 6 wc) ∧ RowAt w8.drew g7 60 (itC x BV LV).toArray ∧ WaysAt w8.drew (.slice (some ⟨gw, ow, none⟩) 6 wc) ps := ⟨boxed_below HBXr.out HX8.out.drew, R8.out, HWVr.out.below HX8.out.drew⟩
        change walkS _ _ _ _ _ _ 11 _ _ _
        refine walkS_take (i := 0) (oi := ⟨some 20, _, _, _, _, _⟩) (v := .slice (some ⟨gw, ow, none⟩) 6 wc) rfl (by kernel_rfl) (by kernel_rfl) (fun _ _ _ h => h) _ _ _ _ (by kernel_rfl) (by kernel_rfl) (Or.inl ⟨by rfl, fun w' hS' => (by have c0 := hS'.1.cell; clear hS hS'; go_simp)⟩) hS ?_
        try simp only [Act.put, List.setIfInBounds_toArray, List.set_cons_zero, List.set_cons_succ]
        refine walkS_take (i := 1) (oi := ⟨some 21, _, _, _, _, _⟩) (v := .slice (some ⟨gw, ow, none⟩) 6 wc) rfl (by kernel_rfl) (by kernel_rfl) (fun _ _ _ h => h) _ _ _ _ (by kernel_rfl) (by kernel_rfl) (Or.inl ⟨by rfl, fun w' hS' => (by have c0 := hS'.1.cell; clear hS hS'; go_simp)⟩) hS ?_
        try simp only [Act.put, List.setIfInBounds_toArray, List.set_cons_zero, List.set_cons_succ]
        refine walkS_take (i := 2) (oi := ⟨some 22, _, _, _, _, _⟩) (v := .pointer (some ⟨g7, 0, none⟩)) rfl (by kernel_rfl) (by kernel_rfl) (fun _ _ _ h => h) _ _ _ _ (by kernel_rfl) (by kernel_rfl) (Or.inl ⟨by rfl, fun w' hS' => (by clear hS hS'; go_simp)⟩) hS ?_
        try simp only [Act.put, List.setIfInBounds_toArray, List.set_cons_zero, List.set_cons_succ]
        refine walkS_take (i := 3) (oi := ⟨some 23, _, _, _, _, _⟩) (v := .int .i64 x.k) rfl (by kernel_rfl) (by kernel_rfl) (fun _ _ _ h => h) _ _ _ _ (by kernel_rfl) (by kernel_rfl) (Or.inl ⟨by rfl, fun w' hS' => (by have c0 : w'.cell? ⟨g7, 0, none⟩ = some (.int .i64 x.k) := hS'.2.1.cell 0; clear hS hS'; go_simp)⟩) hS ?_
        try simp only [Act.put, List.setIfInBounds_toArray, List.set_cons_zero, List.set_cons_succ]
        refine walkS_take (i := 8) (oi := ⟨some 28, _, _, _, _, _⟩) (v := .pointer (some ⟨o, 0, none⟩)) rfl (by kernel_rfl) (by kernel_rfl) (fun _ _ _ h => h) _ _ _ _ (by kernel_rfl) (by kernel_rfl) (Or.inl ⟨by rfl, fun w' hS' => (by clear hS hS'; go_simp)⟩) hS ?_
        try simp only [Act.put, List.setIfInBounds_toArray, List.set_cons_zero, List.set_cons_succ]
        refine walkS_take (i := 9) (oi := ⟨some 29, _, _, _, _, _⟩) (v := .agg (itC x BV LV).toArray) rfl (by kernel_rfl) (by kernel_rfl) (fun _ _ _ h => h) _ _ _ _ (by kernel_rfl) (by kernel_rfl) (Or.inl ⟨by rfl, fun w' hS' => (run_load_row 60 (.tmp 7) rfl g7 rfl 60 (itC x BV LV).toArray (0, 0) _ hS'.2.1 Try.underlying60 rfl (by kernel_rfl))⟩) hS ?_
        try simp only [Act.put, List.setIfInBounds_toArray, List.set_cons_zero, List.set_cons_succ]
        refine walkS_only (i := 4) (o := ⟨some 24, _, _, _, _, _⟩) (by kernel_rfl) rfl rfl fun KK hKK => ?_
        go_simp
        refine (HCF.out _ hS.2.2).mono ?_
        intro e w9 hh
        obtain ⟨he, b9⟩ := hh
        subst he
        have B9 : Hid (Below wr.heap.size wr w9) := below_size HX8.out.drew b9
        have hS2 := And.intro (boxed_below hS.1 b9) (And.intro (hS.2.1.kept b9) (hS.2.2.below b9))
        clear hS
        have hS := hS2
        clear hS2
        refine hKK _ _ (.inr hS) ?_
        clear hKK KK
        try simp only [Act.put, List.setIfInBounds_toArray, List.set_cons_zero, List.set_cons_succ]
        refine walkS_take (i := 5) (oi := ⟨some 25, _, _, _, _, _⟩) (v := .pointer (some ⟨gw, ow + p * 3, none⟩)) rfl (by kernel_rfl) (by kernel_rfl) (fun _ _ _ h => h) _ _ _ _ (by kernel_rfl) (by kernel_rfl) (Or.inl ⟨by rfl, fun w' hS' => (by clear hS hS'; go_simp)⟩) hS ?_
        try simp only [Act.put, List.setIfInBounds_toArray, List.set_cons_zero, List.set_cons_succ]
        refine walkS_take (i := 6) (oi := ⟨some 26, _, _, _, _, _⟩) (v := .pointer (some ⟨gw, ow + p * 3 + 1, none⟩)) rfl (by kernel_rfl) (by kernel_rfl) (fun _ _ _ h => h) _ _ _ _ (by kernel_rfl) (by kernel_rfl) (Or.inl ⟨by rfl, fun w' hS' => (by clear hS hS'; go_simp)⟩) hS ?_
        try simp only [Act.put, List.setIfInBounds_toArray, List.set_cons_zero, List.set_cons_succ]
        refine walkS_take (i := 7) (oi := ⟨some 27, _, _, _, _, _⟩) (v := wayW p (ps p)) rfl (by kernel_rfl) (by kernel_rfl) (fun _ _ _ h => h) _ _ _ _ (by kernel_rfl) (by kernel_rfl) (Or.inl ⟨by rfl, fun w' hS' => (by have c0 := hS'.2.2.wcell p hp2; clear hS hS'; go_simp)⟩) hS ?_
        try simp only [Act.put, List.setIfInBounds_toArray, List.set_cons_zero, List.set_cons_succ]
        have HOr := Lib.hid (HOj.out.kept B9.out)
        have HB9 := Lib.hid (HBb.out.below B9.out)
        have HK9 := Lib.hid (HKk.out.below B9.out)
        refine walkS_only (i := 10) (o := ⟨some 30, _, _, _, _, _⟩) (by kernel_rfl) rfl rfl fun KK hKK => ?_
        have HRow9 := Lib.hid hS.2.1
        clear hS
        have HG : Hid (∀ w10 v10, OutAt w10 o v10 (s.item x) → OutStep w9 w10 o v' v10 → OutAt w10 o v10 (encS (its.take (j + 1))) ∧ Below w3.heap.size w3 w10 ∧ (∀ k, v10.ownBlock = some k → w3.heap.size ≤ k) ∧ (Boxed w10 g4 78 (.slice (some ⟨gw, ow, none⟩) 6 wc) ∧ RowAt w10 g7 60 (itC x BV LV).toArray ∧ WaysAt w10 (.slice (some ⟨gw, ow, none⟩) 6 wc) ps)) := fun w10 v10 h10 s10 => by
          have hq := s10.base (HB.out.trans (B9.out.mono HB.out.size)) (Nat.le_trans HB.out.size B9.out.size) (Nat.le_of_eq HO.out.symm) HV.out
          have hb3 : Below w3.heap.size w3 w10 := hq.1
          have hne : g7 ≠ o := fun e => by
            have h1 := HRow9.out
            have h2 := HOr.out.1
            rw [e] at h1
            have e2 := h1.symm.trans h2
            injection e2 with e2
            injection e2 with _ e2 _
            exact absurd e2 (by decide)
          have hne2 : v'.ownBlock ≠ some g7 := fun e => HOr.out.2.other HRow9.out (by decide) e.symm
          exact ⟨by rw [HE.out]; exact h10, hq.1, hq.2, boxed_below HBX3.out hb3, s10.keeps HRow9.out hne hne2, HWV3.out.below hb3⟩
        have hwc := wayW_cases p (ps p) hp2
        have HPW := Lib.hid (HWVr.out.below B9.out)
        rcases hwc with ⟨h0, hF⟩ | ⟨h0, hF⟩ | ⟨h0, hF⟩
        · have HIT : Hid (s.item x = s.wByt x.b) := by show _ = _; unfold St.item; rw [if_pos (by rw [HPZ.out, h0]; rfl)]
          rw [hF]
          go_simp
          refine (write9_any w9 o v' s x.k x.n BV LV x.b HOr.out HB9.out (fun h => HOf.out _ (HLb.out h)) HL.out).mono ?_
          intro e w10 hh
          obtain ⟨he, v10, h10, s10⟩ := hh
          subst he
          rw [← HIT.out] at h10
          obtain ⟨g1, g2, g3, g4'⟩ := HG.out _ _ h10 s10
          have H1 := Lib.hid g1
          have H2 := Lib.hid g2
          have H3 := Lib.hid g3
          refine hKK _ _ (.inr g4') (walkS_done (by kernel_rfl) ?_ _)
          clear hKK KK h10 s10 g1 g2 g3 g4' HG
          go_wp2_with fail
          go_roundw
          case rel => exact ⟨j + 1, v10, by omega, by go_num, H1.out, H2.out, H3.out⟩
          case measure => simp [intOf]; omega
        · have HIT : Hid (s.item x = s.wKey x.l) := by show _ = _; unfold St.item; rw [if_neg (by rw [HPZ.out, h0]; decide), if_pos (by rw [HPZ.out, h0]; rfl)]
          rw [hF]
          go_simp
          refine (write32_any w9 o v' s x.k x.n BV LV x.l HOr.out HK9.out (fun h => HOf.out _ (HLk.out h)) HL.out).mono ?_
          intro e w10 hh
          obtain ⟨he, v10, h10, s10⟩ := hh
          subst he
          rw [← HIT.out] at h10
          obtain ⟨g1, g2, g3, g4'⟩ := HG.out _ _ h10 s10
          have H1 := Lib.hid g1
          have H2 := Lib.hid g2
          have H3 := Lib.hid g3
          refine hKK _ _ (.inr g4') (walkS_done (by kernel_rfl) ?_ _)
          clear hKK KK h10 s10 g1 g2 g3 g4' HG
          go_wp2_with fail
          go_roundw
          case rel => exact ⟨j + 1, v10, by omega, by go_num, H1.out, H2.out, H3.out⟩
          case measure => simp [intOf]; omega
        · have hkn := kind_ne p h0 hp2
          have HIT : Hid (s.item x = s.wNum x.n x.k) := by show _ = _; unfold St.item; rw [if_neg (by rw [HPZ.out]; exact hkn.1), if_neg (by rw [HPZ.out]; exact hkn.2)]
          rw [hF]
          go_simp
          refine (writeN_any w9 o (ps p) v' s x.k x.k x.n BV LV HN.out HOr.out (by rw [HPZ.out]; exact HPW.out.2 p h0 hp2) HL.out).mono ?_
          intro e w10 hh
          obtain ⟨he, v10, h10, s10⟩ := hh
          subst he
          rw [← HIT.out] at h10
          obtain ⟨g1, g2, g3, g4'⟩ := HG.out _ _ h10 s10
          have H1 := Lib.hid g1
          have H2 := Lib.hid g2
          have H3 := Lib.hid g3
          refine hKK _ _ (.inr g4') (walkS_done (by kernel_rfl) ?_ _)
          clear hKK KK h10 s10 g1 g2 g3 g4' HG
          go_wp2_with fail
          go_roundw
          case rel => exact ⟨j + 1, v10, by omega, by go_num, H1.out, H2.out, H3.out⟩
          case measure => simp [intOf]; omega
      · have hj2 : j = its.length := by omega
        subst hj2
        rw [List.take_length] at HOj
        have hle := encS_length its H32.out
        have HD := Lib.hid (outDone_any wr o v' (encS its) HOj.out (by omega))
        go_wp2_with fail
        refine HD.out.mono ?_
        intro e w9 hh
        obtain ⟨u, he, ho, b9⟩ := hh
        subst he
        have HU := Lib.hid ho
        have B9 := Lib.hid ((B3.out.trans (HB.out.mono B3.out.size)).trans (b9.mono (Nat.le_trans B3.out.size HB.out.size)))
        obtain ⟨UA, uc, rfl, _, _⟩ := ho.shape
        clear ho b9
        go_wp2_with fail
        go_ret2
        exact ⟨B9.out, .inr ⟨HANY.out, _, rfl, World.ownsRow.mono HU.out (Nat.le_trans B3.out.size HB.out.size)⟩⟩
end Go.Proofs.Ytjhhpakaemnemaa
end
section
namespace Go.Proofs.Ytjhhpakaemnemaa
open Go.RowKit
set_option linter.unusedVariables false
set_option maxRecDepth 20000

theorem Try.infoBy : (Try.prog.info? 5).map (fun i => (i.zero, i.size, i.bytes)) = some (some (.int .u8 0), 1, 1) := by kernel_rfl
set_option maxHeartbeats 1000000 in
theorem inBytes_any (w : World) (i : Nat) (s : St) (m : Int) (h : InAt w i s) :
    Calls Try.prog 21 #[.pointer (some ⟨i, 0, none⟩), .int .i64 m] w fun e w' => ∃ v, e = .returned v ∧ Bs w' v (s.byt m) ∧ U8At w' v ∧ InAt w' i (s.bytS m) ∧ w.grownBy w' (some i) := by
  have HH := Lib.hid h
  clear h
  obtain ⟨M, hM⟩ : ∃ M, M = min m 4000 := ⟨_, rfl⟩
  have HN : Hid (∀ w, InAt w i s → Calls Try.prog 54 #[.pointer (some ⟨i, 0, none⟩), .int .i64 M] w fun e w' => e = .returned (.int .i64 (s.cnt M : Int)) ∧ InAt w' i (s.cntS M) ∧ w.grownBy w' (some i)) := fun w h => inCount_any w i s M h
  obtain ⟨C, hC⟩ : ∃ C, C = s.cnt M := ⟨_, rfl⟩
  obtain ⟨S, hS⟩ : ∃ S, S = s.cntS M := ⟨_, rfl⟩
  have HT : Hid (∀ w, InAt w i S → Calls Try.prog 49 #[.pointer (some ⟨i, 0, none⟩), .int .i64 (C : Int)] w fun e w' => ∃ v, e = .returned v ∧ Bs w' v (S.take C) ∧ InAt w' i (S.rest C) ∧ w.grownBy w' (some i)) := fun w h => inTake_any w i S C h
  have H1 : Hid (s.byt m = S.take C) := by show _ = _; rw [hC, hS, hM]; rfl
  have H2 : Hid (s.bytS m = S.rest C) := by show _ = _; rw [hC, hS, hM]; rfl
  have HL : Hid ((S.take C).length ≤ 65536) := by
    have h1 := S.take_length C
    have h2 := s.cnt_lt M
    show _ ≤ _
    omega
  rw [← hC, ← hS] at HN
  clear hC hS
  have key : (¬ (4000 < m) ∧ M = m) ∨ (4000 < m ∧ M = 4000) := by omega
  clear hM
  rcases key with ⟨hm, rfl⟩ | ⟨hm, rfl⟩
  all_goals
    go_enter Try.func21, Try.ntmps21
    go_wp2_with fail
    refine (HN.out _ HH.out).mono ?_
    intro e w1 hh
    obtain ⟨he, hi, hg⟩ := hh
    subst he
    have HI1 := Lib.hid hi
    have HG1 := Lib.hid hg
    clear hi hg
    go_wp2_with fail
    refine (HT.out _ HI1.out).mono ?_
    intro e w2 hh
    obtain ⟨v, he, hv, hi, hg⟩ := hh
    subst he
    have HI2 := Lib.hid hi
    have HG2 := Lib.hid (HG1.out.trans hg)
    have HV := Lib.hid hv
    obtain ⟨A, c, rfl, _, _, _⟩ := hv
    clear hi hg
    have HO : Hid (OwnB w2 w2.heap.size 5 (.slice none 0 0) []) := OwnB.nil _ _ _
    go_wp2_with (at_builtin; go_loud (refine wpList_appB _ (o := ⟨some 13, _, _, _, _, _⟩) rfl (.const (.slice none 0 0)) (.tmp 12) 25 rfl w2 5 Try.infoBy Try.underlying25 _ _ [] _ rfl rfl HO.out HV.out (by have := HL.out; rw [List.length_nil]; omega) (Below.refl _ _) ?_); intro v6 w6 own6 b6)
    go_ret
    exact ⟨_, rfl, by rw [H1.out]; exact own6.bs, U8At.of own6, by rw [H2.out]; exact HI2.out.kept b6, HG2.out.trans (grown_any b6 _)⟩

/-- copy of a key, or of nothing, over a key's row. -/
theorem run_copyKey {P : Program} (w : World) (dT ty elem : TypeId) (hu : P.underlying dT = some (.slice elem)) (hs : (P.info? elem).map (·.size) = some 1) (g : Nat) (t : TypeId) (v : Value) (l : List UInt8) (hv : Bs w v l) (hl : l.length = 32 ∨ l = []) (hr : RowAt w g t (keyC zeroKey)) :
    ∃ n w', (Builtin.copy_ #[dT, dT] ty #[.slice (some ⟨g, 0, none⟩) 32 32, v]).run P w = .ok (goInt n) w' ∧ PutRow w g t (keyC (if l.length = 32 then l else zeroKey)) w' := by
  obtain ⟨A, c, rfl, h1, h2, h3⟩ := hv
  rcases hl with hl | rfl
  · obtain ⟨b, off, rfl, hc⟩ := h3 (by omega)
    have h := run_copy_row (P := P) w dT dT ty elem g 0 32 32 ⟨b, off, none⟩ l.length c (keyC zeroKey) t (cellsB l) hu hs hr (by rw [cellsB_length, hl]; rfl) (fun j x hx => by
      have hj := (List.getElem?_eq_some_iff.1 hx).1
      rw [cellsB_length] at hj
      rw [cellsB_get l j hj] at hx
      have hadd : (⟨b, off, none⟩ : Addr).add j = ⟨b, off + j, none⟩ := by unfold Addr.add; split <;> simp_all
      rw [hadd, hc j hj, hx]) (by rw [cellsB_length, hl, keyC_size, zeroKey_length]; omega) (cellsB_one l)
    have e : ((keyC zeroKey).toList.take 0 ++ cellsB l ++ (keyC zeroKey).toList.drop (0 + (cellsB l).length)).toArray = keyC l := by
      rw [List.drop_eq_nil_of_le (by rw [cellsB_length, hl, Array.length_toList, keyC_size, zeroKey_length]; omega)]
      simp [keyC]
    rw [e] at h
    rw [if_pos hl]
    exact ⟨_, _, h, setRow_put hr⟩
  · have e1 : (if ([] : List UInt8).length = 32 then [] else zeroKey) = zeroKey := rfl
    rw [e1]
    rcases A with _ | ad
    · obtain ⟨iz, hz, hsz⟩ := Option.map_eq_some_iff.1 hs
      refine ⟨0, w, ?_, ⟨hr, World.grownBy.refl _ _, rfl⟩⟩
      simp [Builtin.copy_, run_underlying hu, Builtin.lenOf, Builtin.firstCells, sizeOf, typeInfo, hz, storeCells]
    · have h := run_copy_row (P := P) w dT dT ty elem g 0 32 32 ad 0 c (keyC zeroKey) t [] hu hs hr rfl (fun j x hx => by cases hx) (by simp) (by simp)
      have e : ((keyC zeroKey).toList.take 0 ++ [] ++ (keyC zeroKey).toList.drop (0 + ([] : List Value).length)).toArray = keyC zeroKey := by simp
      rw [e] at h
      exact ⟨_, _, h, setRow_put hr⟩

set_option maxHeartbeats 1000000 in
theorem inKey_any (w : World) (i : Nat) (s : St) (h : InAt w i s) :
    Calls Try.prog 23 #[.pointer (some ⟨i, 0, none⟩)] w fun e w' => e = .returned (.agg (keyC s.key)) ∧ InAt w' i (s.rest 32) ∧ w.grownBy w' (some i) := by
  have HH := Lib.hid h
  clear h
  have HT : Hid (∀ w, InAt w i s → Calls Try.prog 49 #[.pointer (some ⟨i, 0, none⟩), .int .i64 32] w fun e w' => ∃ v, e = .returned v ∧ Bs w' v (s.take 32) ∧ InAt w' i (s.rest 32) ∧ w.grownBy w' (some i)) := fun w h => inTake_any w i s 32 h
  go_enter Try.func23, Try.ntmps23
  go_wp2_with (first
    | ((with_reducible refine wpList_alloc_row (o := ⟨some 2, _, _, _, _, _⟩) rfl 52 rfl (keyC zeroKey) Try.zeroK ?_); intro g2 w1 n1)
    | ((with_reducible refine wpList_alloc_row (o := ⟨some 3, _, _, _, _, _⟩) rfl 52 rfl (keyC zeroKey) Try.zeroK ?_); intro g3 w2 n2))
  have hsz := n1.size
  have hs1 := n1.spot
  have hs2 := n2.spot
  have hil : i < w.heap.size := by obtain ⟨v, hr, _⟩ := HH.out; exact hr.lt
  have hb2 : Below w.heap.size w w2 := below_size n1.below n2.below
  have HI2 := Lib.hid (HH.out.kept hb2)
  have HB2 := Lib.hid hb2
  have R2 := Lib.hid (n1.row.kept n2.below)
  have R3 := Lib.hid n2.row
  have hne2 : g2 ≠ i := by omega
  have hne3 : g3 ≠ i := by omega
  have hne : g2 ≠ g3 := by omega
  have h2w : w.heap.size ≤ g2 := by omega
  have h3w : w.heap.size ≤ g3 := by omega
  have HK : Hid (s.key = if (s.take 32).length = 32 then s.take 32 else zeroKey) := rfl
  have HS := Lib.hid (s.take_short 32)
  clear n1 n2 hs1 hs2 hsz hb2 HH
  refine plain_region (S := fun _ => True) (fin := fun _ => false) (by kernel_rfl) ?_
  change walkS _ _ _ _ _ _ 4 _ _ _
  refine walkS_take (i := 0) (oi := ⟨some 4, _, _, _, _, _⟩) (v := .slice (some ⟨g3, 0, none⟩) 32 32) rfl (by kernel_rfl) (by kernel_rfl) (fun _ _ _ h => h) _ _ _ _ (by kernel_rfl) (by kernel_rfl) (Or.inl ⟨by rfl, fun w' _ => (by go_simp)⟩) trivial ?_
  try simp only [Act.put, List.setIfInBounds_toArray, List.set_cons_zero, List.set_cons_succ]
  refine walkS_take (i := 1) (oi := ⟨some 5, _, _, _, _, _⟩) (v := .pointer (some ⟨i, 0, none⟩)) rfl (by kernel_rfl) (by kernel_rfl) (fun _ _ _ h => h) _ _ _ _ (by kernel_rfl) (by kernel_rfl) (Or.inl ⟨by rfl, fun w' _ => (by go_simp)⟩) trivial ?_
  try simp only [Act.put, List.setIfInBounds_toArray, List.set_cons_zero, List.set_cons_succ]
  refine walkS_only (i := 2) (o := ⟨some 6, _, _, _, _, _⟩) (by kernel_rfl) rfl rfl fun KK hKK => ?_
  go_simp
  refine (HT.out _ HI2.out.drew).mono ?_
  intro e w3 hh
  obtain ⟨v, he, hv, hi, hg⟩ := hh
  subst he
  refine hKK _ _ (.inr trivial) ?_
  clear hKK KK
  try simp only [Act.put, List.setIfInBounds_toArray, List.set_cons_zero, List.set_cons_succ]
  have R23 := Lib.hid (R2.out.drew.grown hg (by simp [hne2]))
  have R33 := Lib.hid (R3.out.drew.grown hg (by simp [hne3]))
  have HI3 := Lib.hid hi
  have HG3 : Hid (w.grownBy w3 (some i)) := ((grown_any HB2.out.drew (some i)).trans hg)
  obtain ⟨nn, w4, hcp, pr⟩ := run_copyKey (P := Try.prog) w3 25 3 5 Try.underlying25 (by kernel_rfl) g3 52 v _ hv HS.out R33.out
  rw [← HK.out] at pr
  have R34 := Lib.hid pr.row
  have R24 := Lib.hid (R23.out.grown pr.grown (by simp [hne]))
  have HI4 : Hid (InAt w4 i (s.rest 32)) := HI3.out.far R33.out (by decide) hne3 pr.grown
  have HG4 : Hid (w.grownBy w4 (some i)) := ⟨pr.grown.os.trans HG3.out.os, pr.grown.tape.trans HG3.out.tape, pr.grown.output.trans HG3.out.output, Nat.le_trans HG3.out.size pr.grown.size, fun k h1 h2 => (pr.grown.block k (Nat.lt_of_lt_of_le h1 HG3.out.size) (by intro e; injection e with e; omega)).trans (HG3.out.block k h1 h2)⟩
  have HCP := Lib.hid hcp
  obtain ⟨A, c, rfl, _, _, _⟩ := hv
  have LK : Hid (s.key.length = 32) := by
    show _ = _
    rw [HK.out]
    split
    · assumption
    · exact zeroKey_length
  obtain ⟨key, hkey⟩ : ∃ k, k = s.key := ⟨_, rfl⟩
  have HKY := Lib.hid hkey
  rw [← hkey] at LK R34
  clear hkey HK HS R23 R33 HI3 HG3 hcp pr hi hg R2 R3
  refine walkS_only (i := 3) (o := ⟨some 7, _, _, _, _, _⟩) (by kernel_rfl) rfl rfl fun KK hKK => ?_
  unfold Oper.wp execOp
  simp only [resolve, invoke, builtin, Sem.run_bind, Sem.run_pure, Result.andThen_ok, List.map_toArray, List.map_cons, List.map_nil]
  go_simp
  rw [HCP.out]
  refine hKK _ _ (.inr trivial) (walkS_done (by kernel_rfl) ?_ _)
  clear hKK KK HCP
  go_wp2_with (first
    | (with_reducible refine wpList_load_row (o := ⟨some 8, _, _, _, _, _⟩) rfl 52 (.tmp 3) rfl g3 (by with_unfolding_all rfl) 52 (keyC key) (0, 0) (.array 32 5) (by with_unfolding_all exact R34.out) Try.underlying52 rfl (Try.sizeKey key LK.out) ?_)
    | ((with_reducible refine wpList_store_row (o := ⟨none, _, _, _, _, _⟩) rfl 52 (.tmp 2) (.tmp 8) rfl g2 52 (keyC zeroKey) (keyC key) (by with_unfolding_all rfl) (by with_unfolding_all rfl) R24.out (keyC_same zeroKey_length LK.out) (Try.sizeKey _ LK.out) (keyC_one _) ?_); intro w5 p5))
  refine bodyPost_ret (results_cell_row rfl _ _ g2 52 (keyC key) (0, 0) (.array 32 5) rfl p5.row Try.underlying52 rfl (Try.sizeKey _ LK.out)) rfl ?_
  refine ⟨by rw [HKY.out], HI4.out.far R24.out (by decide) hne2 p5.grown, ⟨p5.grown.os.trans HG4.out.os, p5.grown.tape.trans HG4.out.tape, p5.grown.output.trans HG4.out.output, Nat.le_trans HG4.out.size p5.grown.size, fun k h1 h2 => (p5.grown.block k (Nat.lt_of_lt_of_le h1 HG4.out.size) (by intro e; injection e with e; omega)).trans (HG4.out.block k h1 h2)⟩⟩

set_option maxHeartbeats 1000000 in
theorem inEnd_any (w : World) (i : Nat) (s : St) (h : InAt w i s) :
    Calls Try.prog 28 #[.pointer (some ⟨i, 0, none⟩)] w fun e w' => e = .returned (.int .i64 s.fin) ∧ w = w' := by
  obtain ⟨l, y⟩ := s
  obtain ⟨v, hr, hv, _⟩ := h
  have c0 : w.cell? ⟨i, 0, none⟩ = some v := hr.cell 0
  have c1 : w.cell? ⟨i, 1, none⟩ = some (.int .i64 y) := hr.cell 1
  obtain ⟨A, c, rfl, _, _, _⟩ := hv
  clear hr
  simp only at c0 c1
  by_cases hy : y = 0
  · subst hy
    by_cases hl : l = []
    · subst hl
      have HF : Hid ((St.mk [] 0).fin = 0) := by show _ = _; unfold St.fin; rw [if_pos rfl, if_pos rfl]
      go_enter Try.func28, Try.ntmps28
      go_wp2
      go_ret
      exact ⟨by rw [HF.out]; rfl, rfl⟩
    · have hp : 0 < l.length := List.length_pos_iff.2 hl
      have hd : decide ((0 : Int) < (l.length : Int)) = true := by simp; omega
      have HF : Hid ((St.mk l 0).fin = 50) := by show _ = _; unfold St.fin; rw [if_pos rfl, if_neg hl]
      clear hl
      go_enter Try.func28, Try.ntmps28
      go_wp2
      go_ret
      exact ⟨by rw [HF.out]; rfl, rfl⟩
  · have hd : decide (y = 0) = false := by simp [hy]
    have HF : Hid ((St.mk l y).fin = y) := by show _ = _; unfold St.fin; rw [if_neg hy]
    go_enter Try.func28, Try.ntmps28
    go_wp2
    go_ret
    exact ⟨by rw [HF.out]; rfl, rfl⟩

set_option maxHeartbeats 1000000 in
theorem read_any (w : World) (v : Value) (l : List UInt8) (h : Bs w v l) (hl : l.length ≤ 140737488355000) :
    Calls Try.prog 18 #[v] w fun e w' => ∃ i, e = .returned (.pointer (some ⟨i, 0, none⟩)) ∧ w.heap.size ≤ i ∧ InAt w' i ⟨l, 0⟩ ∧ Below w.heap.size w w' := by
  have HC := Lib.hid (clone_any w v l h hl)
  obtain ⟨A, c, rfl, _, _, _⟩ := h
  go_enter Try.func18, Try.ntmps18
  go_wp2_with fail
  refine HC.out.mono ?_
  intro e w1 hh
  obtain ⟨v1, he, ho, b1⟩ := hh
  subst he
  have HO := Lib.hid ho
  have HB := Lib.hid b1
  obtain ⟨A1, c1, rfl, _, _⟩ := ho.shape
  clear ho b1
  go_wp2
  go_ret
  refine ⟨_, rfl, HB.out.size, ⟨_, RowAt.new w1 91 #[.slice A1 l.length c1, .int .i64 0], HO.out.bs.alloc _, (U8At.of HO.out).below (alloc_below _ _)⟩, below_size HB.out (alloc_below _ _)⟩
end Go.Proofs.Ytjhhpakaemnemaa
end
section
namespace Go.Proofs.Ytjhhpakaemnemaa
open Go.RowKit Go.Shelf
attribute [local go_sem] Oper.semAt_some
set_option linter.unusedVariables false
set_option maxRecDepth 20000

/-- What Chunk's function has captured: the bytes, and how many each time. -/
structure Cut (w : World) (b1 b2 : Nat) (A : Option Addr) (cap N : Nat) : Prop where
  list : Boxed w b1 25 (.slice A (32 * N) cap)
  size : Boxed w b2 3 (.int .i64 32)
def CutAt (b1 b2 : Nat) (k : Nat) : Prop := k = b1 ∨ k = b2
theorem Cut.kept {w w' : World} {b1 b2 cap N : Nat} {A : Option Addr} (h : Cut w b1 b2 A cap N) (hk : KeepsAt (CutAt b1 b2) w w') : Cut w' b1 b2 A cap N :=
  ⟨(hk b1 (.inl rfl)).trans h.list, (hk b2 (.inr rfl)).trans h.size⟩
theorem Cut.lt {w : World} {b1 b2 cap N : Nat} {A : Option Addr} (h : Cut w b1 b2 A cap N) : ∀ k, CutAt b1 b2 k → k < w.heap.size := by
  rintro k (rfl | rfl)
  · exact h.list.lt
  · exact h.size.lt
theorem Cut.below {w w' : World} {b1 b2 cap N : Nat} {A : Option Addr} (h : Cut w b1 b2 A cap N) (hb : Below w.heap.size w w') : Cut w' b1 b2 A cap N :=
  h.kept (KeepsAt.of_below hb h.lt)

theorem take_fin (N k : Nat) (h : k < N) : (List.finRange N).take (k + 1) = (List.finRange N).take k ++ [⟨k, h⟩] := by
  rw [List.take_succ_eq_append_getElem (by simpa using h)]
  simp

set_option maxHeartbeats 2000000 in
theorem chunk1_stops (n : Nat) (hn : 1 ≤ n) (b1 b2 b off cap N : Nat) (A : Option Addr) (hA : 0 < N → A = some ⟨b, off, none⟩) (hcap : 32 * N ≤ cap) (hmax : cap ≤ maxLen) (w : World) (env : Cut w b1 b2 A cap N) :
    SeqStopsK Fence.wide n Try.prog 75 #[.pointer (some ⟨b1, 0, none⟩), .pointer (some ⟨b2, 0, none⟩)]
      (fun x : Fin N => #[.slice (some ⟨b, off + 32 * x.val, none⟩) 32 32]) (KeepsAt (CutAt b1 b2)) (fun ys => ys = List.finRange N) (fun _ => True) N w := by
  intro l J Jx W hW hJ hJx hY h0
  unfold maxLen at hmax
  have env0 : Cut W b1 b2 A cap N := env.below hW
  have EV := Lib.hid env0
  have HJ := Lib.hid hJ
  have HY := Lib.hid hY
  obtain ⟨L, hL⟩ : ∃ L, L = 32 * N := ⟨_, rfl⟩
  rw [← hL] at hcap
  have HL := Lib.hid hL
  clear env env0 hW hJ hJx hY hL
  refine callsIn_of_wp Try.func75 rfl trivial ?_ rfl
  simp only [Try.ntmps75, List.size_toArray, List.length_cons, List.length_nil, Nat.reduceAdd, Nat.reduceSub, Array.replicate_succ, Array.replicate_zero, List.push_toArray, List.append_toArray, List.nil_append, List.cons_append]
  gi_wp2
  gi_loopw [4] (fun i wr => ∃ k p : Nat, k ≤ N ∧ Hid (p = 32 * k) ∧ i = .int .i64 p ∧ J ((List.finRange N).take k) wr ∧ Cut wr b1 b2 A cap N) (fun i _ => L - (intOf i).toNat)
  case atStart => exact ⟨0, 0, Nat.zero_le _, rfl, rfl, h0, EV.out⟩
  case round =>
    clear h0 EV
    obtain ⟨k, p, hk, HP, rfl, hJs, hev⟩ := hrel
    have hd1 := hev.list.cell
    have hd2 := hev.size.cell
    rw [← HL.out] at hd1
    have EV := Lib.hid hev
    have HJs := Lib.hid hJs
    clear hev hJs
    by_cases hlt : k < N
    · rw [hA (by omega)] at hd1
      obtain ⟨fn, tmps, assign, body, hy, hR⟩ := HY.out _ ⟨k, hlt⟩ wr.drew (HJ.out _ _ _ none HJs.out (grown_of_below (Below.refl _ _).drew) (fun r e => by cases e)) (by simp; omega)
      have hpl : p + 32 ≤ L := by have := HP.out; have := HL.out; omega
      have hne : ¬ cap = p := by omega
      have hlt2 : (p : Int) < (L : Int) := by omega
      dsimp only at hy
      have hoff : off + 32 * k = off + p := by have := HP.out; omega
      rw [hoff] at hy
      have hd3 : wr.drew.cell? ⟨b1, 0, none⟩ = some (.slice (some ⟨b, off, none⟩) L cap) := hd1
      have hd4 : wr.drew.cell? ⟨b2, 0, none⟩ = some (.int .i64 32) := hd2
      have hle1 : (p : Int) ≤ (L : Int) := by omega
      have hmin : (32 : Int) ≤ ((L - p : Nat) : Int) := by omega
      have hpl2 := hpl
      gi_wp2
      gi_region
      all_goals (
        have hmn : ¬ (((L - p : Nat) : Int) < 32) := by omega
        try simp only [if_neg hmn]
        gi_wp2
        refine hR.mono ?_
        rintro e W3 (⟨rfl, hJ3, hk3⟩ | ⟨rfl, hJx3⟩)
        · have EV3 := (EV.out.below (Below.refl _ _).drew).kept hk3
          have hd5 := EV3.size.cell
          gi_wp2
          go_roundw
          case rel => exact ⟨k + 1, p + 32, by omega, by have := HP.out; show p + 32 = _; omega, by go_num, by rw [take_fin N k hlt]; exact hJ3, EV3⟩
          case measure => simp [intOf]; omega
        · gi_wp2
          refine bodyPost_ret (results_none rfl _ _ _) rfl ?_
          exact ⟨⟨_, rfl⟩, .inr ⟨_, trivial, hJx3⟩⟩)
    · have hpl : p = L := by
        have h1 := HP.out
        have h2 := HL.out
        have h3 : k = N := by omega
        subst h3; omega
      have hge : ¬ (p : Int) < (L : Int) := by omega
      have hkN : (List.finRange N).take k = List.finRange N := List.take_of_length_le (by simp; omega)
      have HJ5 : Hid (J (List.finRange N) wr) := by rw [← hkN]; exact HJs
      gi_wp2
      go_end0
      exact ⟨⟨_, rfl⟩, .inl HJ5.out⟩

set_option maxHeartbeats 400000 in
theorem chunk_any (w : World) (A : Option Addr) (cap N : Nat) :
    Calls Try.prog 56 #[.slice A (32 * N) cap, .int .i64 32] w fun e w' => ∃ b1 b2 : Nat,
      e = .returned (.func (.func 75) #[] #[.pointer (some ⟨b1, 0, none⟩), .pointer (some ⟨b2, 0, none⟩)]) ∧ Cut w' b1 b2 A cap N ∧ (w.heap.size ≤ b1 ∧ w.heap.size ≤ b2) ∧ Below w.heap.size w w' := by
  go_enter Try.func56, Try.ntmps56
  go_wp2
  go_ret
  have bb : Below w.heap.size w (w.alloc (.cells #[.slice A (32 * N) cap] 25)) := (Below.refl _ _).alloc (Nat.le_refl _) _
  have h2 := Boxed.new (w.alloc (.cells #[.slice A (32 * N) cap] 25)) 3 (.int .i64 32)
  rw [World.size_alloc] at h2
  exact ⟨w.heap.size, w.heap.size + 1, rfl, ⟨(Boxed.new w 25 (.slice A (32 * N) cap)).alloc _, h2⟩, ⟨Nat.le_refl _, Nat.le_succ _⟩, bb.alloc bb.size _⟩
end Go.Proofs.Ytjhhpakaemnemaa
end
