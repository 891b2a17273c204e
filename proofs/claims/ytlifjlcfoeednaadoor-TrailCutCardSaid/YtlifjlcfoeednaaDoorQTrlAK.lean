/-
  Texts that belong together, merged: TrlJ, TrlK, Build0. Conditions: as each theorem names them.
-/
import Derived.Test.YtlifjlcfoeednaaDoorQTrlAJ
import Derived.Test.YtlifjlcfoeednaaDoorQTrlAI
import Derived.Test.YtlifjlcfoeednaaDoorQTrlAG
import Derived.Laws.Tables
section
namespace Go.Proofs.YtlifjlcfoeednaaDoor
open Go.RowKit
set_option linter.unusedVariables false
set_option maxRecDepth 20000

/-- What a call that turns a past leaves: another list. -/
def DocAns (w0 : World) (rs : List (Nat × TypeId × Array Value)) (i gd : Nat) (r : Value) (L : List (List UInt8 × Nat)) (e : Ending) (x : World) : Prop :=
  ∃ v ex, e = .returned r ∧ Doc w0 (rs.set i (gd, 50, #[v])) i gd v L ex x
theorem row_single {w : World} {g : Nat} {t : TypeId} {s : List UInt8 × Nat} (h : RowAt w g t (trC s.1 s.2)) : Row_ w (fun _ => True) (.slice (some ⟨g, 0, none⟩) 1 1) [s].length (trF [s]) := by
  refine ⟨_, 1, rfl, Nat.le_refl _, by simp [maxLen], fun _ => ⟨g, 0, rfl, trivial, fun j u hj => ?_⟩⟩
  rw [trF_single] at hj
  rw [h.cell, Nat.zero_add, trC, List.getElem?_toArray]
  exact hj
theorem share2n {P : Program} {md : Region.Mode} {ops : Array Oper} {Q : Exit → Act → World → Prop} {fin : Nat → Bool} {SS : World → Prop} {w : World} {m m' : Nat} {listed L' : Array Bool} {a : Act} {A : Value → Nat → Nat → Act} (Φ : Value → Nat → Nat → World → Prop)
    (hgo : ∀ u g k x, Φ u g k x → walkS P md ops Q SS fin m' L' (A u g k) x) (h : (∀ u g k x, Φ u g k x → walkS P md ops Q SS fin m' L' (A u g k) x) → walkS P md ops Q SS fin m listed a w) : walkS P md ops Q SS fin m listed a w := h hgo
set_option maxHeartbeats 8000000 in
theorem refPastAdd_env (w0 w : World) (rs ex : List (Nat × TypeId × Array Value)) (i gd : Nat) (v : Value) (L : List (List UInt8 × Nat)) (hD : Doc w0 rs i gd v L ex w) (t : List UInt8 × Nat) (ht : t.1.length = 32) (hn : t.2 < 4294967296) :
    Calls Tryd.prog 14 #[.pointer (some ⟨gd, 0, none⟩), .agg (trC t.1 t.2)] w (DocAns w0 rs i gd (.int .i64 (addX L t)) (addL L t)) := by
  have E0 := Lib.hid hD.env
  have HI := Lib.hid hD.at_
  have LT := Lib.hid ht
  have HL := Lib.hid hD.list
  have OK := Lib.hid hD.ok
  have OK2 : Hid (TOk (addL L t)) := hD.ok.added t ht hn
  obtain ⟨A, c0, hv⟩ := hD.shape
  obtain ⟨N, hN⟩ : ∃ N, N = L.length := ⟨_, rfl⟩
  rw [← hN] at hv
  have hN64 : N ≤ 64 := by rw [hN]; exact hD.ok.few
  have HH : Hid (HeadsOk L) := hD.ok.heads
  have HN : Hid (L.length = N) := hN.symm
  have SAME : Hid (∀ x r, addL L t = L → Env w0 (rs ++ ex) x → DocAns w0 rs i gd r (addL L t) (.returned r) x) := fun x r h hx => by
    rw [h]
    exact ⟨v, ex, rfl, by rw [set_id HI.out]; exact hx, OK.out, by rw [set_id HI.out]; exact HI.out, HL.out⟩
  have CV : Hid (∀ x rs' k, Env w0 rs' x → rs'[k]? = some (gd, 50, #[v]) → x.cell? ⟨gd, 0, none⟩ = some (.slice A N c0)) := fun x rs' k h1 h2 => by
    rw [← hv]
    exact h1.cellV k h2 0 v rfl
  have ROW : Hid (0 < N → ∃ g cur, A = some ⟨g, 0, none⟩ ∧ RowAt w g 36 cur ∧ cur.toList.take (L.length * 33) = trF L) := fun h => by
    obtain ⟨g, c, cur, h1, h2, h3⟩ := hD.row (by omega)
    rw [hv] at h1
    injection h1 with h4 h5 h6
    exact ⟨g, cur, h4, h2, h3⟩
  by_cases hA : 64 ≤ N
  · have hx : addX L t = 63 := by rw [addX, if_pos (by omega)]
    have hl : addL L t = L := by rw [addL, hx]; rfl
    have hA2 : (64 : Int) ≤ (N : Int) := by omega
    have SA := Lib.hid (fun x => SAME.out x (.int .i64 63) hl)
    rw [hx]
    clear hD hv hN ht hx hl SAME OK OK2 HH HN ROW
    go_enter Tryd.func14, Tryd.ntmps14
    go_wp2_with ((with_reducible refine wpE_box (o := ⟨some 3, _, _, _, _, _⟩) rfl 36 (.tmp 1) rfl (trC t.1 t.2) (by with_unfolding_all rfl) E0.out ?_); intro g3 w1 T1; have E1 := Lib.hid T1; clear T1; have c1 := CV.out _ _ (i + 1) E1.out (at_left HI.out))
    go_ret
    exact SA.out _ E1.out.tl
  have hA2 : ¬ ((64 : Int) ≤ (N : Int)) := by omega
  have APP : Hid (addX L t = 0 → ∀ r x v' ex' g', r = Value.int .i64 0 → tlEx 36 v' (L ++ [t]) ex' → Env w0 (rs ++ ex') x → g' = x.setCell ⟨gd, 0, none⟩ v' → DocAns w0 rs i gd r (addL L t) (.returned r) g') := fun h r x v' ex' g' hr h1 h2 h3 => by
    have he : addL L t = L ++ [t] := by rw [addL, if_pos h]
    have h4 := h2.cellTo (cs := #[v']) i (at_left HI.out) 0 v' rfl
    rw [set_left HI.out] at h4
    subst h3
    exact ⟨v', ex', rfl, h4, OK2.out, set_at HI.out, by rw [he]; exact h1⟩
  have STEP : addX L t = 0 → ∀ (K : Act → World → Prop), True := fun _ _ => trivial
  clear STEP
  have SUB : Hid (∀ (g3 : Nat) (x : World) (l k : List (Nat × TypeId × Array Value)), Env w0 ((l ++ (g3, 36, trC t.1 t.2) :: (rs ++ ex)) ++ k) x → Env w0 ((g3, 36, trC t.1 t.2) :: rs) x) := fun g3 x l k h => h.less (by
    rw [List.append_assoc, List.cons_append, List.append_assoc]
    exact ((List.sublist_append_left rs _).cons_cons _).trans (List.sublist_append_right _ _))
  have RD : Hid (∀ (g3 : Nat) (x : World) (l k : List (Nat × TypeId × Array Value)), Env w0 ((l ++ (g3, 36, trC t.1 t.2) :: (rs ++ ex)) ++ k) x → Row_ x (fun _ => True) (.slice A N c0) L.length (trF L)) := fun g3 x l k h => by
    rw [← hv]
    refine tl_read (rs := rs) HL.out HH.out (h.less ?_)
    rw [List.append_assoc, List.cons_append]
    exact (((List.sublist_append_left (rs ++ ex) _).trans (List.sublist_cons_self _ _))).trans (List.sublist_append_right _ _)
  have SL : Hid (∀ (g3 gb : Nat) (ex2 : List (Nat × TypeId × Array Value)), (rs ++ ex2).Sublist (([(gb, 36, trC t.1 t.2)] ++ (g3, 36, trC t.1 t.2) :: (rs ++ ex)) ++ ex2)) := fun g3 gb ex2 =>
    ((((List.sublist_append_left rs ex).trans (List.sublist_cons_self _ _)).trans (List.sublist_append_right _ _))).append (List.Sublist.refl _)
  have HT1 : Hid (HeadsOk [t]) := fun x hx => by rw [List.mem_singleton.1 hx]; exact ht
  have CVB : Hid (∀ x, Env w0 rs x → x.cell? ⟨gd, 0, none⟩ = some (.slice A N c0)) := fun x h => CV.out x rs i h HI.out
  by_cases hB : 0 < N
  · obtain ⟨z, hz, hlz⟩ := last_get (L := L) (by omega)
    obtain ⟨g, cur, rfl, hr, h5⟩ := ROW.out hB
    have hc := tl_num HH.out h5 hz
    obtain ⟨M, hM⟩ : ∃ M, M = N - 1 := ⟨_, rfl⟩
    rw [← hN, ← hM] at hc
    have CZ : Hid (∀ x, Below w.heap.size w x → x.cell? ⟨g, M * 33 + 32, none⟩ = some (.int .u32 (z.2 : Int))) := fun x hx => by rw [(hr.kept hx).cell]; exact hc
    have hz2 := (hD.ok.num hz).1
    have hw1 : IntKind.i64.wrap ((N : Int) - 1) = (M : Int) := by rw [IntWalk.i64_in _ (by omega)]; omega
    obtain ⟨k, hk⟩ : ∃ k, k = (z.2 + 1) % 4294967296 := ⟨_, rfl⟩
    have hw2 : IntKind.u32.wrap ((z.2 : Int) + 1) = (k : Int) := by rw [IntKind.wrap_u32]; omega
    have hB2 : (0 : Int) < (N : Int) := by omega
    have hMN : M < N := by omega
    have hA3 : ¬ (64 ≤ N) := hA
    by_cases hC : t.2 = k
    · have hx : addX L t = 0 := by rw [addX, if_neg (by omega), if_neg]; rintro ⟨_, h⟩; rw [hlz, ← hk] at h; exact h hC
      have HX := Lib.hid hx
      have AP := Lib.hid (APP.out hx)
      rw [hx]
      subst hC
      clear hD hv hN ht hx hz hlz hk hM hz2 hr h5 hc OK OK2 SAME APP ROW
      go_enter Tryd.func14, Tryd.ntmps14
      go_wp2_with ((with_reducible refine wpList_box_row (o := ⟨some 3, _, _, _, _, _⟩) rfl 36 (.tmp 1) rfl (trC t.1 t.2) (by with_unfolding_all rfl) ?_); intro g3 w1 n1; have E1 := Lib.hid (E0.out.new n1); have c1 := CVB.out _ (E1.out.tl.less (List.sublist_append_left _ _)); have c2 := CZ.out _ n1.below; have c3 := E1.out.cellV 0 rfl 32 _ (trC_32 _ _ LT.out); clear n1)
      refine wp_region_still_lit (by kernel_rfl) (by kernel_rfl) ?_
      repeat still_step
      refine wpStill_nil ?_
      change Exit.then _ _ _ _ w1.drew
      have E2 := Lib.hid E1.out.drew
      clear E1 E0 c1 c2 c3
      generalize w1.drew = w2 at E2 ⊢
      go_wp2_with fail
      have E5 : Hid (Env w0 (([] ++ (g3, 36, trC t.1 t.2) :: (rs ++ ex)) ++ []) w2.drew) := by show Env _ _ _; rw [List.append_nil, List.nil_append]; exact E2.out.drew
      refine plain_region (S := fun x => Env w0 ((g3, 36, trC t.1 t.2) :: rs) x) (fin := fun k => k == 12) (by kernel_rfl) ?_
      generalize w2.drew = x5 at E5 ⊢
      have hS := SUB.out _ _ _ _ E5.out
      change walkS _ _ _ _ _ _ 13 _ _ _
      refine walkS_take (i := 0) (oi := ⟨some 36, _, _, _, _, _⟩) (v := .pointer (some ⟨gd, 0, none⟩)) rfl (by kernel_rfl) (by kernel_rfl) (fun _ _ _ h => h) _ _ _ _ (by kernel_rfl) (by kernel_rfl) (Or.inl ⟨by rfl, fun w' hS' => (by first | rfl | (clear hS hS'; go_simp))⟩) hS ?_
      try simp only [Act.put, List.setIfInBounds_toArray, List.set_cons_zero, List.set_cons_succ]
      refine walkS_take (i := 2) (oi := ⟨some 38, _, _, _, _, _⟩) (v := .pointer (some ⟨gd, 0, none⟩)) rfl (by kernel_rfl) (by kernel_rfl) (fun _ _ _ h => h) _ _ _ _ (by kernel_rfl) (by kernel_rfl) (Or.inl ⟨by rfl, fun w' hS' => (by first | rfl | (clear hS hS'; go_simp))⟩) hS ?_
      try simp only [Act.put, List.setIfInBounds_toArray, List.set_cons_zero, List.set_cons_succ]
      refine walkS_take (i := 3) (oi := ⟨some 39, _, _, _, _, _⟩) (v := .pointer (some ⟨gd, 0, none⟩)) rfl (by kernel_rfl) (by kernel_rfl) (fun _ _ _ h => h) _ _ _ _ (by kernel_rfl) (by kernel_rfl) (Or.inl ⟨by rfl, fun w' hS' => (by first | rfl | (clear hS hS'; go_simp))⟩) hS ?_
      try simp only [Act.put, List.setIfInBounds_toArray, List.set_cons_zero, List.set_cons_succ]
      refine walkS_take (i := 4) (oi := ⟨some 40, _, _, _, _, _⟩) (v := .pointer (some ⟨gd, 0, none⟩)) rfl (by kernel_rfl) (by kernel_rfl) (fun _ _ _ h => h) _ _ _ _ (by kernel_rfl) (by kernel_rfl) (Or.inl ⟨by rfl, fun w' hS' => (by first | rfl | (clear hS hS'; go_simp))⟩) hS ?_
      try simp only [Act.put, List.setIfInBounds_toArray, List.set_cons_zero, List.set_cons_succ]
      refine walkS_take (i := 5) (oi := ⟨some 41, _, _, _, _, _⟩) (v := .slice (some ⟨g, 0, none⟩) N c0) rfl (by kernel_rfl) (by kernel_rfl) (fun _ _ _ h => h) _ _ _ _ (by kernel_rfl) (by kernel_rfl) (Or.inl ⟨by rfl, fun w' hS' => (by have c := CV.out _ _ (i + 1) hS' HI.out; clear hS hS'; go_simp)⟩) hS ?_
      try simp only [Act.put, List.setIfInBounds_toArray, List.set_cons_zero, List.set_cons_succ]
      refine walkS_take (i := 7) (oi := ⟨some 43, _, _, _, _, _⟩) (v := .agg (trC t.1 t.2)) rfl (by kernel_rfl) (by kernel_rfl) (fun _ _ _ h => h) _ _ _ _ (by kernel_rfl) (by kernel_rfl) (Or.inl ⟨by rfl, fun w' hS' => (run_load_row 36 (.tmp 3) rfl g3 rfl 36 (trC t.1 t.2) (0, 0) _ (hS'.row 0 rfl) Tryd.underlying36 rfl (Tryd.sizeR _ _ LT.out))⟩) hS ?_
      try simp only [Act.put, List.setIfInBounds_toArray, List.set_cons_zero, List.set_cons_succ]
      clear hS
      apply share2n (A := fun u gb k0 => ⟨#[.pointer (some ⟨gd, 0, none⟩), .agg (trC t.1 t.2), undef, .pointer (some ⟨g3, 0, none⟩), .int .i64 0, .pointer (some ⟨gd, 0, none⟩), .pointer (some ⟨gd, 0, none⟩), .pointer (some ⟨gd, 0, none⟩), .slice (some ⟨g, 0, none⟩) N c0, .int .i64 (N : Int), .bool false, .pointer (some ⟨gd, 0, none⟩), .pointer (some ⟨gd, 0, none⟩), .pointer (some ⟨gd, 0, none⟩), .slice (some ⟨g, 0, none⟩) N c0, .int .i64 (N : Int), .bool true, .bool true, .pointer (some ⟨gd, 0, none⟩), .pointer (some ⟨gd, 0, none⟩), .pointer (some ⟨gd, 0, none⟩), .slice (some ⟨g, 0, none⟩) N c0, .pointer (some ⟨gd, 0, none⟩), .pointer (some ⟨gd, 0, none⟩), .pointer (some ⟨gd, 0, none⟩), .slice (some ⟨g, 0, none⟩) N c0, .int .i64 (N : Int), .int .i64 (M : Int), .pointer (some ⟨g, M * 33, none⟩), .pointer (some ⟨g, M * 33 + 32, none⟩), .int .u32 (z.2 : Int), .int .u32 (t.2 : Int), .pointer (some ⟨g3, 32, none⟩), .int .u32 (t.2 : Int), .bool false, .bool false, .pointer (some ⟨gd, 0, none⟩), .slice (some ⟨k0, 0, none⟩) 0 0, .pointer (some ⟨gd, 0, none⟩), .pointer (some ⟨gd, 0, none⟩), .pointer (some ⟨gd, 0, none⟩), .slice (some ⟨g, 0, none⟩) N c0, u, .agg (trC t.1 t.2), .slice (some ⟨gb, 0, none⟩) 1 1, undef, undef, undef], []⟩) (L' := #[true, true, true, true, true, true, true, true, true, false, false, false, false]) (m' := 4) (fun u gb k0 x => ∃ ex', tlEx 36 u L ex' ∧ Env w0 (([(gb, 36, trC t.1 t.2)] ++ (g3, 36, trC t.1 t.2) :: (rs ++ ex)) ++ ex') x)
      case h =>
        intro HGO0
        have HGO := Lib.hid HGO0
        clear HGO0
        refine walkS_two (i := 1) (j := 8) (by kernel_rfl) rfl rfl rfl rfl (fun KK hKK => ?_) (fun KK hKK => ?_)
        ·
          go_simp
          have n1 := NewRow.mk_ x5 36 #[]
          have E1q := Lib.hid (E5.out.newTail n1)
          clear n1
          generalize x5.alloc (.cells #[] 36) = z1 at E1q ⊢
          generalize x5.heap.size = k0 at E1q ⊢
          have hS := SUB.out _ _ [] _ E1q.out
          refine hKK _ _ (.inr hS) ?_
          clear hKK KK hS
          try simp only [Act.put]
          try simp only [List.setIfInBounds_toArray]
          try simp only [List.set_cons_succ]
          try simp only [List.set_cons_zero]
          refine walkS_two (i := 6) (j := 8) (by kernel_rfl) rfl rfl rfl rfl (fun KK hKK => ?_) (fun KK hKK => ?_)
          ·
            refine wp_appTl (rs := [] ++ (g3, 36, trC t.1 t.2) :: (rs ++ ex)) (ex := [(k0, 36, #[])]) (.tmp 37) (.tmp 41) 48 rfl 36 Tryd.infoR Tryd.underlying48 _ _ [] L rfl rfl (HeadsOk.zeros 0) HH.out (RD.out _ _ [] _ E1q.out) (tlEx.empty _ _) E1q.out (by have h := HN.out; show 0 + L.length ≤ 1000; omega) fun u y2 ex1 hx h1 => ?_
            rw [List.nil_append] at hx
            have X1 := Lib.hid hx
            have E2q := Lib.hid h1
            clear hx h1
            have hS := SUB.out _ _ [] _ E2q.out
            refine hKK _ _ (.inr hS) ?_
            clear hKK KK hS
            try simp only [Act.put]
            try simp only [List.setIfInBounds_toArray]
            try simp only [List.set_cons_succ]
            try simp only [List.set_cons_zero]
            refine walkS_only (i := 8) (o := ⟨some 44, _, _, _, _, _⟩) (by kernel_rfl) rfl rfl fun KK hKK => ?_
            refine wp_oneRow 48 36 (.tmp 43) rfl (trL t.1 t.2) 33 36 (.agg (trC zeroKey 0)) rfl (trL_length _ _ LT.out) (by omega) (by omega) Tryd.underlying48 Tryd.infoR fun gb y3 n3 => ?_
            have E3q : Hid (Env w0 (([(gb, 36, trC t.1 t.2)] ++ (g3, 36, trC t.1 t.2) :: (rs ++ ex)) ++ ex1) y3) := Lib.hid (E2q.out.new n3)
            clear n3
            have hS := SUB.out _ _ [(gb, 36, trC t.1 t.2)] _ E3q.out
            refine hKK _ _ (.inr hS) ?_
            clear hKK KK hS
            exact HGO.out u gb k0 _ ⟨_, X1.out, E3q.out⟩
          ·
            refine wp_oneRow 48 36 (.tmp 43) rfl (trL t.1 t.2) 33 36 (.agg (trC zeroKey 0)) rfl (trL_length _ _ LT.out) (by omega) (by omega) Tryd.underlying48 Tryd.infoR fun gb y4 n4 => ?_
            have E4q : Hid (Env w0 (([(gb, 36, trC t.1 t.2)] ++ (g3, 36, trC t.1 t.2) :: (rs ++ ex)) ++ [(k0, 36, #[])]) y4) := Lib.hid (E1q.out.new n4)
            clear n4
            have hS := SUB.out _ _ [(gb, 36, trC t.1 t.2)] _ E4q.out
            refine hKK _ _ (.inr hS) ?_
            clear hKK KK hS
            try simp only [Act.put]
            try simp only [List.setIfInBounds_toArray]
            try simp only [List.set_cons_succ]
            try simp only [List.set_cons_zero]
            refine walkS_only (i := 6) (o := ⟨some 42, _, _, _, _, _⟩) (by kernel_rfl) rfl rfl fun KK hKK => ?_
            refine wp_appTl (rs := [(gb, 36, trC t.1 t.2)] ++ (g3, 36, trC t.1 t.2) :: (rs ++ ex)) (ex := [(k0, 36, #[])]) (.tmp 37) (.tmp 41) 48 rfl 36 Tryd.infoR Tryd.underlying48 _ _ [] L rfl rfl (HeadsOk.zeros 0) HH.out (RD.out _ _ [(gb, 36, trC t.1 t.2)] _ E4q.out) (tlEx.empty _ _) E4q.out (by have h := HN.out; show 0 + L.length ≤ 1000; omega) fun u y5 ex1 hx h1 => ?_
            rw [List.nil_append] at hx
            have X1 := Lib.hid hx
            have E5q := Lib.hid h1
            clear hx h1
            have hS := SUB.out _ _ [(gb, 36, trC t.1 t.2)] _ E5q.out
            refine hKK _ _ (.inr hS) ?_
            clear hKK KK hS
            exact HGO.out u gb k0 _ ⟨_, X1.out, E5q.out⟩
        ·
          refine wp_oneRow 48 36 (.tmp 43) rfl (trL t.1 t.2) 33 36 (.agg (trC zeroKey 0)) rfl (trL_length _ _ LT.out) (by omega) (by omega) Tryd.underlying48 Tryd.infoR fun gb y6 n6 => ?_
          have E6q : Hid (Env w0 (([(gb, 36, trC t.1 t.2)] ++ (g3, 36, trC t.1 t.2) :: (rs ++ ex)) ++ []) y6) := Lib.hid (E5.out.new n6)
          clear n6
          have hS := SUB.out _ _ [(gb, 36, trC t.1 t.2)] _ E6q.out
          refine hKK _ _ (.inr hS) ?_
          clear hKK KK hS
          try simp only [Act.put]
          try simp only [List.setIfInBounds_toArray]
          try simp only [List.set_cons_succ]
          try simp only [List.set_cons_zero]
          refine walkS_only (i := 1) (o := ⟨some 37, _, _, _, _, _⟩) (by kernel_rfl) rfl rfl fun KK hKK => ?_
          go_simp
          have n7 := NewRow.mk_ y6 36 #[]
          have E7q := Lib.hid (E6q.out.newTail n7)
          clear n7
          generalize y6.alloc (.cells #[] 36) = z1 at E7q ⊢
          generalize y6.heap.size = k0 at E7q ⊢
          have hS := SUB.out _ _ [(gb, 36, trC t.1 t.2)] _ E7q.out
          refine hKK _ _ (.inr hS) ?_
          clear hKK KK hS
          try simp only [Act.put]
          try simp only [List.setIfInBounds_toArray]
          try simp only [List.set_cons_succ]
          try simp only [List.set_cons_zero]
          refine walkS_only (i := 6) (o := ⟨some 42, _, _, _, _, _⟩) (by kernel_rfl) rfl rfl fun KK hKK => ?_
          refine wp_appTl (rs := [(gb, 36, trC t.1 t.2)] ++ (g3, 36, trC t.1 t.2) :: (rs ++ ex)) (ex := [(k0, 36, #[])]) (.tmp 37) (.tmp 41) 48 rfl 36 Tryd.infoR Tryd.underlying48 _ _ [] L rfl rfl (HeadsOk.zeros 0) HH.out (RD.out _ _ [(gb, 36, trC t.1 t.2)] _ E7q.out) (tlEx.empty _ _) E7q.out (by have h := HN.out; show 0 + L.length ≤ 1000; omega) fun u y8 ex1 hx h1 => ?_
          rw [List.nil_append] at hx
          have X1 := Lib.hid hx
          have E8q := Lib.hid h1
          clear hx h1
          have hS := SUB.out _ _ [(gb, 36, trC t.1 t.2)] _ E8q.out
          refine hKK _ _ (.inr hS) ?_
          clear hKK KK hS
          exact HGO.out u gb k0 _ ⟨_, X1.out, E8q.out⟩
      case hgo =>
        intro u gb k0 x6 hx
        obtain ⟨ex1, hx1, hx2⟩ := hx
        have X6 := Lib.hid hx1
        have E6 := Lib.hid hx2
        clear hx1 hx2 E5
        refine walkS_only (i := 9) (o := ⟨some 45, _, _, _, _, _⟩) (by kernel_rfl) rfl rfl fun KK hKK => ?_
        refine wp_appTl (rs := [(gb, 36, trC t.1 t.2)] ++ (g3, 36, trC t.1 t.2) :: (rs ++ ex)) (ex := ex1) (.tmp 42) (.tmp 44) 48 rfl 36 Tryd.infoR Tryd.underlying48 _ _ L [t] rfl rfl HH.out HT1.out (row_single (E6.out.row 0 rfl)) X6.out E6.out (by have h := HN.out; show L.length + 1 ≤ 1000; omega) fun u2 x7 ex2 hx h1 => ?_
        have X7 := Lib.hid hx
        have E7 := Lib.hid h1
        clear hx h1 E6 X6
        obtain ⟨A2, c2, rfl, _⟩ := tl_shape X7.out
        have hS := SUB.out _ _ [(gb, 36, trC t.1 t.2)] _ E7.out
        refine hKK _ _ (.inr hS) ?_
        clear hKK KK hS
        try simp only [Act.put]
        try simp only [List.setIfInBounds_toArray]
        try simp only [List.set_cons_succ]
        try simp only [List.set_cons_zero]
        refine walkS_only (i := 10) (o := ⟨some 46, _, _, _, _, _⟩) (by kernel_rfl) rfl rfl fun KK hKK => ?_
        go_simp
        have hS := SUB.out _ _ [(gb, 36, trC t.1 t.2)] _ E7.out
        refine hKK _ _ (.inr hS) ?_
        clear hKK KK hS
        try simp only [List.setIfInBounds_toArray, List.set_cons_zero, List.set_cons_succ]
        refine walkS_only (i := 11) (o := ⟨some 47, _, _, _, _, _⟩) (by kernel_rfl) rfl rfl fun KK hKK => ?_
        go_simp
        have hS := SUB.out _ _ [(gb, 36, trC t.1 t.2)] _ E7.out
        refine hKK _ _ (.inr hS) ?_
        clear hKK KK hS
        try simp only [List.setIfInBounds_toArray, List.set_cons_zero, List.set_cons_succ]
        refine walkS_only (i := 12) (o := ⟨none, _, _, _, _, _⟩) (by kernel_rfl) rfl rfl fun KK hKK => ?_
        have E8 : Hid (Env w0 (rs ++ ex2) x7) := E7.out.less (SL.out _ _ _)
        have f8 := E8.out.fzV i (at_left HI.out) 0
        have c8 := CV.out _ _ i E8.out (at_left HI.out)
        go_simp
        refine hKK _ _ (.inl rfl) (walkS_done (by kernel_rfl) ?_ _)
        clear hKK KK E7 f8 c8
        go_wp2_with fail
        go_ret
        exact AP.out _ _ _ _ _ rfl X7.out E8.out (by simp)
    · have hx : addX L t = 1 := by rw [addX, if_neg (by omega), if_pos]; exact ⟨by omega, by rw [hlz, ← hk]; exact hC⟩
      have hl : addL L t = L := by rw [addL, hx]; rfl
      have SA := Lib.hid (fun x => SAME.out x (.int .i64 1) hl)
      rw [hx]
      have hC1 : ((k : Int) == (t.2 : Int)) = false := beq_eq_false_iff_ne.2 (by omega)
      have hC2 : ¬ ((k : Int) = (t.2 : Int)) := by omega
      have hC3 : ¬ (k = t.2) := by omega
      clear hD hv hN ht hx hl hz hlz hk hM hz2 hr h5 hc OK OK2 SAME APP ROW
      go_enter Tryd.func14, Tryd.ntmps14
      go_wp2_with ((with_reducible refine wpList_box_row (o := ⟨some 3, _, _, _, _, _⟩) rfl 36 (.tmp 1) rfl (trC t.1 t.2) (by with_unfolding_all rfl) ?_); intro g3 w1 n1; have E1 := Lib.hid (E0.out.new n1); have c1 := CVB.out _ (E1.out.tl.less (List.sublist_append_left _ _)); have c2 := CZ.out _ n1.below; have c3 := E1.out.cellV 0 rfl 32 _ (trC_32 _ _ LT.out); clear n1)
      refine wp_region_still_lit (by kernel_rfl) (by kernel_rfl) ?_
      repeat still_step
      refine wpStill_nil ?_
      change Exit.then _ _ _ _ w1.drew
      have E2 := Lib.hid E1.out.drew
      clear E1 E0 c1 c2 c3
      generalize w1.drew = w2 at E2 ⊢
      go_wp2_with fail
      go_ret
      exact SA.out _ E2.out.tl
  · have hN0 : N = 0 := by omega
    have hx : addX L t = 0 := by rw [addX, if_neg (by omega), if_neg]; rintro ⟨h, _⟩; omega
    have AP := Lib.hid (APP.out hx)
    rw [hx]
    subst hN0
    clear hD hv hN ht hx OK OK2 SAME APP ROW hA hA2 hB hN64
    go_enter Tryd.func14, Tryd.ntmps14
    go_wp2_with ((with_reducible refine wpList_box_row (o := ⟨some 3, _, _, _, _, _⟩) rfl 36 (.tmp 1) rfl (trC t.1 t.2) (by with_unfolding_all rfl) ?_); intro g3 w1 n1; have E1 := Lib.hid (E0.out.new n1); have c1 := CVB.out _ (E1.out.tl.less (List.sublist_append_left _ _)); clear n1)
    refine plain_region (S := fun x => Env w0 ((g3, 36, trC t.1 t.2) :: (rs ++ ex)) x) (fin := fun _ => false) (by kernel_rfl) ?_
    have hS := E1.out.drew
    change walkS _ _ _ _ _ _ 25 _ _ _
    refine walkS_take (i := 0) (oi := ⟨some 11, _, _, _, _, _⟩) (v := .pointer (some ⟨gd, 0, none⟩)) rfl (by kernel_rfl) (by kernel_rfl) (fun _ _ _ h => h) _ _ _ _ (by kernel_rfl) (by kernel_rfl) (Or.inl ⟨by rfl, fun w' hS' => (by first | rfl | (clear hS hS'; go_simp))⟩) hS ?_
    try simp only [Act.put, List.setIfInBounds_toArray, List.set_cons_zero, List.set_cons_succ]
    refine walkS_take (i := 1) (oi := ⟨some 12, _, _, _, _, _⟩) (v := .pointer (some ⟨gd, 0, none⟩)) rfl (by kernel_rfl) (by kernel_rfl) (fun _ _ _ h => h) _ _ _ _ (by kernel_rfl) (by kernel_rfl) (Or.inl ⟨by rfl, fun w' hS' => (by first | rfl | (clear hS hS'; go_simp))⟩) hS ?_
    try simp only [Act.put, List.setIfInBounds_toArray, List.set_cons_zero, List.set_cons_succ]
    refine walkS_take (i := 2) (oi := ⟨some 13, _, _, _, _, _⟩) (v := .pointer (some ⟨gd, 0, none⟩)) rfl (by kernel_rfl) (by kernel_rfl) (fun _ _ _ h => h) _ _ _ _ (by kernel_rfl) (by kernel_rfl) (Or.inl ⟨by rfl, fun w' hS' => (by first | rfl | (clear hS hS'; go_simp))⟩) hS ?_
    try simp only [Act.put, List.setIfInBounds_toArray, List.set_cons_zero, List.set_cons_succ]
    refine walkS_take (i := 3) (oi := ⟨some 14, _, _, _, _, _⟩) (v := .slice A 0 c0) rfl (by kernel_rfl) (by kernel_rfl) (fun _ _ _ h => h) _ _ _ _ (by kernel_rfl) (by kernel_rfl) (Or.inl ⟨by rfl, fun w' hS' => (by have c := CVB.out _ (hS'.tl.less (List.sublist_append_left _ _)); clear hS hS'; go_simp)⟩) hS ?_
    try simp only [Act.put, List.setIfInBounds_toArray, List.set_cons_zero, List.set_cons_succ]
    refine walkS_take (i := 4) (oi := ⟨some 15, _, _, _, _, _⟩) (v := .int .i64 0) rfl (by kernel_rfl) (by kernel_rfl) (fun _ _ _ h => h) _ _ _ _ (by kernel_rfl) (by kernel_rfl) (Or.inl ⟨by rfl, fun w' hS' => (by first | rfl | (clear hS hS'; go_simp))⟩) hS ?_
    try simp only [Act.put, List.setIfInBounds_toArray, List.set_cons_zero, List.set_cons_succ]
    refine walkS_take (i := 5) (oi := ⟨some 16, _, _, _, _, _⟩) (v := .bool false) rfl (by kernel_rfl) (by kernel_rfl) (fun _ _ _ h => h) _ _ _ _ (by kernel_rfl) (by kernel_rfl) (Or.inl ⟨by rfl, fun w' hS' => (by first | rfl | (clear hS hS'; go_simp))⟩) hS ?_
    try simp only [Act.put, List.setIfInBounds_toArray, List.set_cons_zero, List.set_cons_succ]
    refine walkS_take (i := 6) (oi := ⟨some 17, _, _, _, _, _⟩) (v := .bool false) rfl (by kernel_rfl) (by kernel_rfl) (fun _ _ _ h => h) _ _ _ _ (by kernel_rfl) (by kernel_rfl) (Or.inl ⟨by rfl, fun w' hS' => (by first | rfl | (clear hS hS'; go_simp))⟩) hS ?_
    try simp only [Act.put, List.setIfInBounds_toArray, List.set_cons_zero, List.set_cons_succ]
    refine walkS_take (i := 7) (oi := ⟨some 18, _, _, _, _, _⟩) (v := undef) rfl (by kernel_rfl) (by kernel_rfl) (fun _ _ _ h => h) _ _ _ _ (by kernel_rfl) (by kernel_rfl) (Or.inr ⟨by rfl, rfl⟩) hS ?_
    try simp only [Act.put, List.setIfInBounds_toArray, List.set_cons_zero, List.set_cons_succ]
    refine walkS_take (i := 8) (oi := ⟨some 19, _, _, _, _, _⟩) (v := undef) rfl (by kernel_rfl) (by kernel_rfl) (fun _ _ _ h => h) _ _ _ _ (by kernel_rfl) (by kernel_rfl) (Or.inr ⟨by rfl, rfl⟩) hS ?_
    try simp only [Act.put, List.setIfInBounds_toArray, List.set_cons_zero, List.set_cons_succ]
    refine walkS_take (i := 9) (oi := ⟨some 20, _, _, _, _, _⟩) (v := undef) rfl (by kernel_rfl) (by kernel_rfl) (fun _ _ _ h => h) _ _ _ _ (by kernel_rfl) (by kernel_rfl) (Or.inr ⟨by rfl, rfl⟩) hS ?_
    try simp only [Act.put, List.setIfInBounds_toArray, List.set_cons_zero, List.set_cons_succ]
    refine walkS_take (i := 10) (oi := ⟨some 21, _, _, _, _, _⟩) (v := undef) rfl (by kernel_rfl) (by kernel_rfl) (fun _ _ _ h => h) _ _ _ _ (by kernel_rfl) (by kernel_rfl) (Or.inr ⟨by rfl, rfl⟩) hS ?_
    try simp only [Act.put, List.setIfInBounds_toArray, List.set_cons_zero, List.set_cons_succ]
    refine walkS_take (i := 11) (oi := ⟨some 22, _, _, _, _, _⟩) (v := undef) rfl (by kernel_rfl) (by kernel_rfl) (fun _ _ _ h => h) _ _ _ _ (by kernel_rfl) (by kernel_rfl) (Or.inr ⟨by rfl, rfl⟩) hS ?_
    try simp only [Act.put, List.setIfInBounds_toArray, List.set_cons_zero, List.set_cons_succ]
    refine walkS_take (i := 12) (oi := ⟨some 23, _, _, _, _, _⟩) (v := undef) rfl (by kernel_rfl) (by kernel_rfl) (fun _ _ _ h => h) _ _ _ _ (by kernel_rfl) (by kernel_rfl) (Or.inr ⟨by rfl, rfl⟩) hS ?_
    try simp only [Act.put, List.setIfInBounds_toArray, List.set_cons_zero, List.set_cons_succ]
    refine walkS_take (i := 13) (oi := ⟨some 24, _, _, _, _, _⟩) (v := undef) rfl (by kernel_rfl) (by kernel_rfl) (fun _ _ _ h => h) _ _ _ _ (by kernel_rfl) (by kernel_rfl) (Or.inr ⟨by rfl, rfl⟩) hS ?_
    try simp only [Act.put, List.setIfInBounds_toArray, List.set_cons_zero, List.set_cons_succ]
    refine walkS_take (i := 14) (oi := ⟨some 25, _, _, _, _, _⟩) (v := undef) rfl (by kernel_rfl) (by kernel_rfl) (fun _ _ _ h => h) _ _ _ _ (by kernel_rfl) (by kernel_rfl) (Or.inr ⟨by rfl, rfl⟩) hS ?_
    try simp only [Act.put, List.setIfInBounds_toArray, List.set_cons_zero, List.set_cons_succ]
    refine walkS_take (i := 15) (oi := ⟨some 26, _, _, _, _, _⟩) (v := undef) rfl (by kernel_rfl) (by kernel_rfl) (fun _ _ _ h => h) _ _ _ _ (by kernel_rfl) (by kernel_rfl) (Or.inr ⟨by rfl, rfl⟩) hS ?_
    try simp only [Act.put, List.setIfInBounds_toArray, List.set_cons_zero, List.set_cons_succ]
    refine walkS_take (i := 16) (oi := ⟨some 27, _, _, _, _, _⟩) (v := undef) rfl (by kernel_rfl) (by kernel_rfl) (fun _ _ _ h => h) _ _ _ _ (by kernel_rfl) (by kernel_rfl) (Or.inr ⟨by rfl, rfl⟩) hS ?_
    try simp only [Act.put, List.setIfInBounds_toArray, List.set_cons_zero, List.set_cons_succ]
    refine walkS_take (i := 17) (oi := ⟨some 28, _, _, _, _, _⟩) (v := undef) rfl (by kernel_rfl) (by kernel_rfl) (fun _ _ _ h => h) _ _ _ _ (by kernel_rfl) (by kernel_rfl) (Or.inr ⟨by rfl, rfl⟩) hS ?_
    try simp only [Act.put, List.setIfInBounds_toArray, List.set_cons_zero, List.set_cons_succ]
    refine walkS_take (i := 18) (oi := ⟨some 29, _, _, _, _, _⟩) (v := undef) rfl (by kernel_rfl) (by kernel_rfl) (fun _ _ _ h => h) _ _ _ _ (by kernel_rfl) (by kernel_rfl) (Or.inr ⟨by rfl, rfl⟩) hS ?_
    try simp only [Act.put, List.setIfInBounds_toArray, List.set_cons_zero, List.set_cons_succ]
    refine walkS_take (i := 19) (oi := ⟨some 30, _, _, _, _, _⟩) (v := undef) rfl (by kernel_rfl) (by kernel_rfl) (fun _ _ _ h => h) _ _ _ _ (by kernel_rfl) (by kernel_rfl) (Or.inr ⟨by rfl, rfl⟩) hS ?_
    try simp only [Act.put, List.setIfInBounds_toArray, List.set_cons_zero, List.set_cons_succ]
    refine walkS_take (i := 20) (oi := ⟨some 31, _, _, _, _, _⟩) (v := undef) rfl (by kernel_rfl) (by kernel_rfl) (fun _ _ _ h => h) _ _ _ _ (by kernel_rfl) (by kernel_rfl) (Or.inr ⟨by rfl, rfl⟩) hS ?_
    try simp only [Act.put, List.setIfInBounds_toArray, List.set_cons_zero, List.set_cons_succ]
    refine walkS_take (i := 21) (oi := ⟨some 32, _, _, _, _, _⟩) (v := undef) rfl (by kernel_rfl) (by kernel_rfl) (fun _ _ _ h => h) _ _ _ _ (by kernel_rfl) (by kernel_rfl) (Or.inr ⟨by rfl, rfl⟩) hS ?_
    try simp only [Act.put, List.setIfInBounds_toArray, List.set_cons_zero, List.set_cons_succ]
    refine walkS_take (i := 22) (oi := ⟨some 33, _, _, _, _, _⟩) (v := undef) rfl (by kernel_rfl) (by kernel_rfl) (fun _ _ _ h => h) _ _ _ _ (by kernel_rfl) (by kernel_rfl) (Or.inr ⟨by rfl, rfl⟩) hS ?_
    try simp only [Act.put, List.setIfInBounds_toArray, List.set_cons_zero, List.set_cons_succ]
    refine walkS_take (i := 23) (oi := ⟨some 34, _, _, _, _, _⟩) (v := undef) rfl (by kernel_rfl) (by kernel_rfl) (fun _ _ _ h => h) _ _ _ _ (by kernel_rfl) (by kernel_rfl) (Or.inr ⟨by rfl, rfl⟩) hS ?_
    try simp only [Act.put, List.setIfInBounds_toArray, List.set_cons_zero, List.set_cons_succ]
    refine walkS_only (i := 24) (o := ⟨some 35, _, _, _, _, _⟩) (by kernel_rfl) rfl rfl fun KK hKK => ?_
    go_simp
    refine hKK _ _ (.inr hS) (walkS_done (by kernel_rfl) ?_ _)
    clear hKK KK c1
    have E2 := Lib.hid hS
    clear E1 E0 hS
    generalize w1.drew = w2 at E2 ⊢
    go_wp2_with fail
    have E5 : Hid (Env w0 (([] ++ (g3, 36, trC t.1 t.2) :: (rs ++ ex)) ++ []) w2.drew) := by show Env _ _ _; rw [List.append_nil, List.nil_append]; exact E2.out.drew
    refine plain_region (S := fun x => Env w0 ((g3, 36, trC t.1 t.2) :: rs) x) (fin := fun k => k == 12) (by kernel_rfl) ?_
    generalize w2.drew = x5 at E5 ⊢
    have hS := SUB.out _ _ _ _ E5.out
    change walkS _ _ _ _ _ _ 13 _ _ _
    refine walkS_take (i := 0) (oi := ⟨some 36, _, _, _, _, _⟩) (v := .pointer (some ⟨gd, 0, none⟩)) rfl (by kernel_rfl) (by kernel_rfl) (fun _ _ _ h => h) _ _ _ _ (by kernel_rfl) (by kernel_rfl) (Or.inl ⟨by rfl, fun w' hS' => (by first | rfl | (clear hS hS'; go_simp))⟩) hS ?_
    try simp only [Act.put, List.setIfInBounds_toArray, List.set_cons_zero, List.set_cons_succ]
    refine walkS_take (i := 2) (oi := ⟨some 38, _, _, _, _, _⟩) (v := .pointer (some ⟨gd, 0, none⟩)) rfl (by kernel_rfl) (by kernel_rfl) (fun _ _ _ h => h) _ _ _ _ (by kernel_rfl) (by kernel_rfl) (Or.inl ⟨by rfl, fun w' hS' => (by first | rfl | (clear hS hS'; go_simp))⟩) hS ?_
    try simp only [Act.put, List.setIfInBounds_toArray, List.set_cons_zero, List.set_cons_succ]
    refine walkS_take (i := 3) (oi := ⟨some 39, _, _, _, _, _⟩) (v := .pointer (some ⟨gd, 0, none⟩)) rfl (by kernel_rfl) (by kernel_rfl) (fun _ _ _ h => h) _ _ _ _ (by kernel_rfl) (by kernel_rfl) (Or.inl ⟨by rfl, fun w' hS' => (by first | rfl | (clear hS hS'; go_simp))⟩) hS ?_
    try simp only [Act.put, List.setIfInBounds_toArray, List.set_cons_zero, List.set_cons_succ]
    refine walkS_take (i := 4) (oi := ⟨some 40, _, _, _, _, _⟩) (v := .pointer (some ⟨gd, 0, none⟩)) rfl (by kernel_rfl) (by kernel_rfl) (fun _ _ _ h => h) _ _ _ _ (by kernel_rfl) (by kernel_rfl) (Or.inl ⟨by rfl, fun w' hS' => (by first | rfl | (clear hS hS'; go_simp))⟩) hS ?_
    try simp only [Act.put, List.setIfInBounds_toArray, List.set_cons_zero, List.set_cons_succ]
    refine walkS_take (i := 5) (oi := ⟨some 41, _, _, _, _, _⟩) (v := .slice A 0 c0) rfl (by kernel_rfl) (by kernel_rfl) (fun _ _ _ h => h) _ _ _ _ (by kernel_rfl) (by kernel_rfl) (Or.inl ⟨by rfl, fun w' hS' => (by have c := CV.out _ _ (i + 1) hS' HI.out; clear hS hS'; go_simp)⟩) hS ?_
    try simp only [Act.put, List.setIfInBounds_toArray, List.set_cons_zero, List.set_cons_succ]
    refine walkS_take (i := 7) (oi := ⟨some 43, _, _, _, _, _⟩) (v := .agg (trC t.1 t.2)) rfl (by kernel_rfl) (by kernel_rfl) (fun _ _ _ h => h) _ _ _ _ (by kernel_rfl) (by kernel_rfl) (Or.inl ⟨by rfl, fun w' hS' => (run_load_row 36 (.tmp 3) rfl g3 rfl 36 (trC t.1 t.2) (0, 0) _ (hS'.row 0 rfl) Tryd.underlying36 rfl (Tryd.sizeR _ _ LT.out))⟩) hS ?_
    try simp only [Act.put, List.setIfInBounds_toArray, List.set_cons_zero, List.set_cons_succ]
    clear hS
    apply share2n (A := fun u gb k0 => ⟨#[.pointer (some ⟨gd, 0, none⟩), .agg (trC t.1 t.2), undef, .pointer (some ⟨g3, 0, none⟩), .int .i64 0, .pointer (some ⟨gd, 0, none⟩), .pointer (some ⟨gd, 0, none⟩), .pointer (some ⟨gd, 0, none⟩), .slice A 0 c0, .int .i64 0, .bool false, .pointer (some ⟨gd, 0, none⟩), .pointer (some ⟨gd, 0, none⟩), .pointer (some ⟨gd, 0, none⟩), .slice A 0 c0, .int .i64 0, .bool false, .bool false, undef, undef, undef, undef, undef, undef, undef, undef, undef, undef, undef, undef, undef, undef, undef, undef, undef, .bool false, .pointer (some ⟨gd, 0, none⟩), .slice (some ⟨k0, 0, none⟩) 0 0, .pointer (some ⟨gd, 0, none⟩), .pointer (some ⟨gd, 0, none⟩), .pointer (some ⟨gd, 0, none⟩), .slice A 0 c0, u, .agg (trC t.1 t.2), .slice (some ⟨gb, 0, none⟩) 1 1, undef, undef, undef], []⟩) (L' := #[true, true, true, true, true, true, true, true, true, false, false, false, false]) (m' := 4) (fun u gb k0 x => ∃ ex', tlEx 36 u L ex' ∧ Env w0 (([(gb, 36, trC t.1 t.2)] ++ (g3, 36, trC t.1 t.2) :: (rs ++ ex)) ++ ex') x)
    case h =>
      intro HGO0
      have HGO := Lib.hid HGO0
      clear HGO0
      refine walkS_two (i := 1) (j := 8) (by kernel_rfl) rfl rfl rfl rfl (fun KK hKK => ?_) (fun KK hKK => ?_)
      ·
        go_simp
        have n1 := NewRow.mk_ x5 36 #[]
        have E1q := Lib.hid (E5.out.newTail n1)
        clear n1
        generalize x5.alloc (.cells #[] 36) = z1 at E1q ⊢
        generalize x5.heap.size = k0 at E1q ⊢
        have hS := SUB.out _ _ [] _ E1q.out
        refine hKK _ _ (.inr hS) ?_
        clear hKK KK hS
        try simp only [Act.put]
        try simp only [List.setIfInBounds_toArray]
        try simp only [List.set_cons_succ]
        try simp only [List.set_cons_zero]
        refine walkS_two (i := 6) (j := 8) (by kernel_rfl) rfl rfl rfl rfl (fun KK hKK => ?_) (fun KK hKK => ?_)
        ·
          refine wp_appTl (rs := [] ++ (g3, 36, trC t.1 t.2) :: (rs ++ ex)) (ex := [(k0, 36, #[])]) (.tmp 37) (.tmp 41) 48 rfl 36 Tryd.infoR Tryd.underlying48 _ _ [] L rfl rfl (HeadsOk.zeros 0) HH.out (RD.out _ _ [] _ E1q.out) (tlEx.empty _ _) E1q.out (by have h := HN.out; show 0 + L.length ≤ 1000; omega) fun u y2 ex1 hx h1 => ?_
          rw [List.nil_append] at hx
          have X1 := Lib.hid hx
          have E2q := Lib.hid h1
          clear hx h1
          have hS := SUB.out _ _ [] _ E2q.out
          refine hKK _ _ (.inr hS) ?_
          clear hKK KK hS
          try simp only [Act.put]
          try simp only [List.setIfInBounds_toArray]
          try simp only [List.set_cons_succ]
          try simp only [List.set_cons_zero]
          refine walkS_only (i := 8) (o := ⟨some 44, _, _, _, _, _⟩) (by kernel_rfl) rfl rfl fun KK hKK => ?_
          refine wp_oneRow 48 36 (.tmp 43) rfl (trL t.1 t.2) 33 36 (.agg (trC zeroKey 0)) rfl (trL_length _ _ LT.out) (by omega) (by omega) Tryd.underlying48 Tryd.infoR fun gb y3 n3 => ?_
          have E3q : Hid (Env w0 (([(gb, 36, trC t.1 t.2)] ++ (g3, 36, trC t.1 t.2) :: (rs ++ ex)) ++ ex1) y3) := Lib.hid (E2q.out.new n3)
          clear n3
          have hS := SUB.out _ _ [(gb, 36, trC t.1 t.2)] _ E3q.out
          refine hKK _ _ (.inr hS) ?_
          clear hKK KK hS
          exact HGO.out u gb k0 _ ⟨_, X1.out, E3q.out⟩
        ·
          refine wp_oneRow 48 36 (.tmp 43) rfl (trL t.1 t.2) 33 36 (.agg (trC zeroKey 0)) rfl (trL_length _ _ LT.out) (by omega) (by omega) Tryd.underlying48 Tryd.infoR fun gb y4 n4 => ?_
          have E4q : Hid (Env w0 (([(gb, 36, trC t.1 t.2)] ++ (g3, 36, trC t.1 t.2) :: (rs ++ ex)) ++ [(k0, 36, #[])]) y4) := Lib.hid (E1q.out.new n4)
          clear n4
          have hS := SUB.out _ _ [(gb, 36, trC t.1 t.2)] _ E4q.out
          refine hKK _ _ (.inr hS) ?_
          clear hKK KK hS
          try simp only [Act.put]
          try simp only [List.setIfInBounds_toArray]
          try simp only [List.set_cons_succ]
          try simp only [List.set_cons_zero]
          refine walkS_only (i := 6) (o := ⟨some 42, _, _, _, _, _⟩) (by kernel_rfl) rfl rfl fun KK hKK => ?_
          refine wp_appTl (rs := [(gb, 36, trC t.1 t.2)] ++ (g3, 36, trC t.1 t.2) :: (rs ++ ex)) (ex := [(k0, 36, #[])]) (.tmp 37) (.tmp 41) 48 rfl 36 Tryd.infoR Tryd.underlying48 _ _ [] L rfl rfl (HeadsOk.zeros 0) HH.out (RD.out _ _ [(gb, 36, trC t.1 t.2)] _ E4q.out) (tlEx.empty _ _) E4q.out (by have h := HN.out; show 0 + L.length ≤ 1000; omega) fun u y5 ex1 hx h1 => ?_
          rw [List.nil_append] at hx
          have X1 := Lib.hid hx
          have E5q := Lib.hid h1
          clear hx h1
          have hS := SUB.out _ _ [(gb, 36, trC t.1 t.2)] _ E5q.out
          refine hKK _ _ (.inr hS) ?_
          clear hKK KK hS
          exact HGO.out u gb k0 _ ⟨_, X1.out, E5q.out⟩
      ·
        refine wp_oneRow 48 36 (.tmp 43) rfl (trL t.1 t.2) 33 36 (.agg (trC zeroKey 0)) rfl (trL_length _ _ LT.out) (by omega) (by omega) Tryd.underlying48 Tryd.infoR fun gb y6 n6 => ?_
        have E6q : Hid (Env w0 (([(gb, 36, trC t.1 t.2)] ++ (g3, 36, trC t.1 t.2) :: (rs ++ ex)) ++ []) y6) := Lib.hid (E5.out.new n6)
        clear n6
        have hS := SUB.out _ _ [(gb, 36, trC t.1 t.2)] _ E6q.out
        refine hKK _ _ (.inr hS) ?_
        clear hKK KK hS
        try simp only [Act.put]
        try simp only [List.setIfInBounds_toArray]
        try simp only [List.set_cons_succ]
        try simp only [List.set_cons_zero]
        refine walkS_only (i := 1) (o := ⟨some 37, _, _, _, _, _⟩) (by kernel_rfl) rfl rfl fun KK hKK => ?_
        go_simp
        have n7 := NewRow.mk_ y6 36 #[]
        have E7q := Lib.hid (E6q.out.newTail n7)
        clear n7
        generalize y6.alloc (.cells #[] 36) = z1 at E7q ⊢
        generalize y6.heap.size = k0 at E7q ⊢
        have hS := SUB.out _ _ [(gb, 36, trC t.1 t.2)] _ E7q.out
        refine hKK _ _ (.inr hS) ?_
        clear hKK KK hS
        try simp only [Act.put]
        try simp only [List.setIfInBounds_toArray]
        try simp only [List.set_cons_succ]
        try simp only [List.set_cons_zero]
        refine walkS_only (i := 6) (o := ⟨some 42, _, _, _, _, _⟩) (by kernel_rfl) rfl rfl fun KK hKK => ?_
        refine wp_appTl (rs := [(gb, 36, trC t.1 t.2)] ++ (g3, 36, trC t.1 t.2) :: (rs ++ ex)) (ex := [(k0, 36, #[])]) (.tmp 37) (.tmp 41) 48 rfl 36 Tryd.infoR Tryd.underlying48 _ _ [] L rfl rfl (HeadsOk.zeros 0) HH.out (RD.out _ _ [(gb, 36, trC t.1 t.2)] _ E7q.out) (tlEx.empty _ _) E7q.out (by have h := HN.out; show 0 + L.length ≤ 1000; omega) fun u y8 ex1 hx h1 => ?_
        rw [List.nil_append] at hx
        have X1 := Lib.hid hx
        have E8q := Lib.hid h1
        clear hx h1
        have hS := SUB.out _ _ [(gb, 36, trC t.1 t.2)] _ E8q.out
        refine hKK _ _ (.inr hS) ?_
        clear hKK KK hS
        exact HGO.out u gb k0 _ ⟨_, X1.out, E8q.out⟩
    case hgo =>
      intro u gb k0 x6 hx
      obtain ⟨ex1, hx1, hx2⟩ := hx
      have X6 := Lib.hid hx1
      have E6 := Lib.hid hx2
      clear hx1 hx2 E5
      refine walkS_only (i := 9) (o := ⟨some 45, _, _, _, _, _⟩) (by kernel_rfl) rfl rfl fun KK hKK => ?_
      refine wp_appTl (rs := [(gb, 36, trC t.1 t.2)] ++ (g3, 36, trC t.1 t.2) :: (rs ++ ex)) (ex := ex1) (.tmp 42) (.tmp 44) 48 rfl 36 Tryd.infoR Tryd.underlying48 _ _ L [t] rfl rfl HH.out HT1.out (row_single (E6.out.row 0 rfl)) X6.out E6.out (by have h := HN.out; show L.length + 1 ≤ 1000; omega) fun u2 x7 ex2 hx h1 => ?_
      have X7 := Lib.hid hx
      have E7 := Lib.hid h1
      clear hx h1 E6 X6
      obtain ⟨A2, c2, rfl, _⟩ := tl_shape X7.out
      have hS := SUB.out _ _ [(gb, 36, trC t.1 t.2)] _ E7.out
      refine hKK _ _ (.inr hS) ?_
      clear hKK KK hS
      try simp only [Act.put]
      try simp only [List.setIfInBounds_toArray]
      try simp only [List.set_cons_succ]
      try simp only [List.set_cons_zero]
      refine walkS_only (i := 10) (o := ⟨some 46, _, _, _, _, _⟩) (by kernel_rfl) rfl rfl fun KK hKK => ?_
      go_simp
      have hS := SUB.out _ _ [(gb, 36, trC t.1 t.2)] _ E7.out
      refine hKK _ _ (.inr hS) ?_
      clear hKK KK hS
      try simp only [List.setIfInBounds_toArray, List.set_cons_zero, List.set_cons_succ]
      refine walkS_only (i := 11) (o := ⟨some 47, _, _, _, _, _⟩) (by kernel_rfl) rfl rfl fun KK hKK => ?_
      go_simp
      have hS := SUB.out _ _ [(gb, 36, trC t.1 t.2)] _ E7.out
      refine hKK _ _ (.inr hS) ?_
      clear hKK KK hS
      try simp only [List.setIfInBounds_toArray, List.set_cons_zero, List.set_cons_succ]
      refine walkS_only (i := 12) (o := ⟨none, _, _, _, _, _⟩) (by kernel_rfl) rfl rfl fun KK hKK => ?_
      have E8 : Hid (Env w0 (rs ++ ex2) x7) := E7.out.less (SL.out _ _ _)
      have f8 := E8.out.fzV i (at_left HI.out) 0
      have c8 := CV.out _ _ i E8.out (at_left HI.out)
      go_simp
      refine hKK _ _ (.inl rfl) (walkS_done (by kernel_rfl) ?_ _)
      clear hKK KK E7 f8 c8
      go_wp2_with fail
      go_ret
      exact AP.out _ _ _ _ _ rfl X7.out E8.out (by simp)
end Go.Proofs.YtlifjlcfoeednaaDoor
end
section
namespace Go.Proofs.YtlifjlcfoeednaaDoor
open Go.RowKit
set_option linter.unusedVariables false
set_option maxRecDepth 20000

set_option maxHeartbeats 8000000 in
theorem refPastForget_env (w0 w : World) (rs ex : List (Nat × TypeId × Array Value)) (i gd : Nat) (v : Value) (L : List (List UInt8 × Nat)) (hD : Doc w0 rs i gd v L ex w) (n : Nat) (hn : n < 4294967296) :
    Calls Tryd.prog 18 #[.pointer (some ⟨gd, 0, none⟩), .int .u32 (n : Int)] w (DocAns w0 rs i gd (.tuple #[]) (L.drop (goneT L n))) := by
  have E0 := Lib.hid hD.env
  have HI := Lib.hid hD.at_
  have HL := Lib.hid hD.list
  obtain ⟨hG1, hG2, hG3⟩ := gone_spec n L
  have OK2 : Hid (TOk (L.drop (goneT L n))) := hD.ok.drop _
  obtain ⟨G, hG⟩ : ∃ G, G = goneT L n := ⟨_, rfl⟩
  rw [← hG] at hG1 hG2 hG3 OK2 ⊢
  obtain ⟨A, c0, hv⟩ := hD.shape
  obtain ⟨N, hN⟩ : ∃ N, N = L.length := ⟨_, rfl⟩
  rw [← hN] at hv hG1
  have hN64 : N ≤ 64 := by rw [hN]; exact hD.ok.few
  have HH : Hid (HeadsOk L) := hD.ok.heads
  have H2 := Lib.hid hG2
  have H3 : Hid (G = N - 1 ∨ ∃ t, L[G]? = some t ∧ n ≤ t.2) := by rw [hN]; exact hG3
  have GET : Hid (∀ j, j < N → ∃ t, L[j]? = some t) := fun j hj => ⟨_, List.getElem?_eq_getElem (by omega)⟩
  obtain ⟨D, hDD⟩ : ∃ D : Nat → List (List UInt8 × Nat), D = fun j => (L.take j).drop G := ⟨_, rfl⟩
  have HDJ : Hid (∀ j, HeadsOk (D j)) := fun j => by rw [hDD]; exact (hD.ok.heads.take j).drop G
  have DN : Hid (∀ j, (D j).length ≤ 64) := fun j => by
    rw [hDD]
    show ((L.take j).drop G).length ≤ 64
    rw [List.length_drop, List.length_take]
    omega
  have D0 : Hid (D 0 = []) := by rw [hDD]; show (L.take 0).drop G = []; simp
  have DE : Hid (∀ j, j < G → D (j + 1) = D j) := fun j hj => by
    rw [hDD]
    show (L.take (j + 1)).drop G = (L.take j).drop G
    rw [List.drop_eq_nil_of_le (by rw [List.length_take]; omega), List.drop_eq_nil_of_le (by rw [List.length_take]; omega)]
  have DS : Hid (∀ j x, G ≤ j → L[j]? = some x → D (j + 1) = D j ++ [x]) := fun j x hj hx => by
    have hlt := (List.getElem?_eq_some_iff.1 hx).1
    rw [hDD]
    show (L.take (j + 1)).drop G = (L.take j).drop G ++ [x]
    rw [List.take_add_one, hx, List.drop_append_of_le_length (by rw [List.length_take]; omega)]
    rfl
  have DL : Hid (D N = L.drop G) := by rw [hDD]; show (L.take N).drop G = _; rw [hN, List.take_length]
  have CVB : Hid (∀ x k, Env w0 ((rs ++ ex) ++ k) x → x.cell? ⟨gd, 0, none⟩ = some (.slice A N c0)) := fun x k h => by
    rw [← hv]
    exact h.cellV i (at_left (at_left hD.at_)) 0 v rfl
  have ROW : Hid (0 < N → ∃ g cur, A = some ⟨g, 0, none⟩ ∧ (∀ x k, Env w0 ((rs ++ ex) ++ k) x → RowAt x g 36 cur) ∧ cur.toList.take (L.length * 33) = trF L) := fun h => by
    obtain ⟨A', c', hv', hs⟩ := tl_shape hD.list
    rw [hv, ← hN] at hv'
    injection hv' with h4 h5 h6
    obtain ⟨g, cap, cur, hA, he, _, _, h9⟩ := hs (by omega)
    refine ⟨g, cur, by rw [h4, hA], fun x k hx => (hx.rows (g, 36, cur) ?_).1, h9⟩
    rw [he]
    exact List.mem_append_left _ (List.mem_append_right _ (List.mem_singleton.2 rfl))
  have FIN : Hid (∀ x u k, tlEx 36 u (D N) k → Env w0 ((rs ++ ex) ++ k) x → DocAns w0 rs i gd (.tuple #[]) (L.drop G) (.returned (.tuple #[])) (x.setCell ⟨gd, 0, none⟩ u)) := fun x u k h1 h2 => by
    rw [DL.out] at h1
    have h3 : Env w0 (rs ++ k) x := h2.less ((List.sublist_append_left rs ex).append (List.Sublist.refl _))
    have h4 := h3.cellTo (cs := #[u]) i (at_left HI.out) 0 u rfl
    rw [set_left HI.out] at h4
    exact ⟨u, k, rfl, h4, OK2.out, set_at HI.out, h1⟩
  have hwN : IntKind.i64.wrap ((N : Int) - 1) = (N : Int) - 1 := IntWalk.i64_in _ (by omega)
  have E1 : Hid (Env w0 ((rs ++ ex) ++ []) w) := by show Env _ _ _; rw [List.append_nil]; exact E0.out
  clear hD hv hN hG hG2 hG3 hDD OK2 DL E0
  go_enter Tryd.func18, Tryd.ntmps18
  go_wp2_with fail
  go_loopw [4, 5, 6] (fun u p q wr => ∃ (j : Nat) (ex1 : List (Nat × TypeId × Array Value)), j ≤ N ∧ q = .int .i64 (j : Int) ∧ tlEx 36 u (D j) ex1 ∧ p = .bool (decide (j ≤ G)) ∧ Env w0 ((rs ++ ex) ++ ex1) wr) (fun _ _ q _ => N - (intOf q).toNat)
  case atStart => exact ⟨0, [], by omega, rfl, by rw [D0.out]; exact tlEx.nil _, by simp, E1.out⟩
  case round =>
    clear E1
    obtain ⟨j, ex1, hj, rfl, hX, rfl, hE⟩ := hrel
    have X := Lib.hid hX
    have E := Lib.hid hE
    clear hX hE
    have cv := CVB.out _ _ E.out
    by_cases hlt : j < N
    · have hlt2 : (j : Int) < (N : Int) := by omega
      have hw1 : IntKind.i64.wrap ((j : Int) + 1) = (j : Int) + 1 := IntWalk.i64_in _ (by omega)
      obtain ⟨x, hx⟩ := GET.out j hlt
      obtain ⟨g, cur, rfl, hrow, h5⟩ := ROW.out (by omega)
      have hr := hrow _ _ E.out
      have c2 : wr.cell? ⟨g, j * 33 + 32, none⟩ = some (.int .u32 (x.2 : Int)) := by rw [hr.cell]; exact tl_num HH.out h5 hx
      have LX : Hid (x.1.length = 32) := HH.out x (List.mem_of_getElem? hx)
      have SZ : Hid ((Tryd.prog.info? 36).map (·.size) = some (tr1 x).length) := by show _ = _; rw [tr1, trL_length _ _ LX.out]; exact Tryd.sizeR33
      have RG : Hid (wr.rangeAt g (j * 33) (tr1 x)) := by
        have h := rangeAt_row (k := j * 33) (n := (tr1 x).length) hr
        rw [tl_part HH.out h5 hx] at h
        exact h
      have HX1 : Hid (HeadsOk [x]) := fun y hy => by rw [List.mem_singleton.1 hy]; exact LX.out
      have LDN : Hid ((D j).length + [x].length ≤ 1000) := by have h := DN.out j; show (D j).length + 1 ≤ 1000; omega
      by_cases hjG : j < G
      · have h2 := H2.out j x hjG hx
        have hnx : ¬ (n ≤ x.2) := by omega
        have hnl : ((j : Int) == (N : Int) - 1) = false := beq_eq_false_iff_ne.2 (by omega)
        have hnl2 : ¬ ((j : Int) = (N : Int) - 1) := by omega
        have hb : decide (j ≤ G) = true := decide_eq_true (by omega)
        have hb2 : decide (j + 1 ≤ G) = true := decide_eq_true (by omega)
        have HB2 := Lib.hid hb2
        have NX := Lib.hid (DE.out j hjG)
        rw [hb]
        clear hx hr hrow h5 hb hb2 h2 ROW
        go_wp2_with (with_reducible refine wpList_val (o := ⟨some 21, _, _, _, _, _⟩) rfl _ (run_idxAt0 33 48 36 (.tmp 19) (.tmp 20) rfl g N c0 j (by with_unfolding_all rfl) (by with_unfolding_all rfl) hlt Tryd.underlying48 Tryd.sizeR33) ?_)
        try go_roundw
        · exact ⟨j + 1, ex1, by omega, by congr 1, by rw [NX.out]; exact X.out, by rw [HB2.out], E.out⟩
        · show N - ((j : Int) + 1).toNat < N - (j : Int).toNat
          omega
      · have NX := Lib.hid (DS.out j x (by omega) hx)
        have hb2 : decide (j + 1 ≤ G) = false := decide_eq_false (by omega)
        have NB := Lib.hid hb2
        by_cases hnx : n ≤ x.2
        · generalize decide (j ≤ G) = bb
          clear hx hr hrow h5 ROW hb2
          go_wp2_with (first
            | (with_reducible refine wpList_val (o := ⟨some 21, _, _, _, _, _⟩) rfl _ (run_idxAt0 33 48 36 (.tmp 19) (.tmp 20) rfl g N c0 j (by with_unfolding_all rfl) (by with_unfolding_all rfl) hlt Tryd.underlying48 Tryd.sizeR33) ?_)
            | (with_reducible refine wpList_val (o := ⟨some 44, _, _, _, _, _⟩) rfl _ (run_idxAt0 33 48 36 (.tmp 42) (.tmp 43) rfl g N c0 j (by with_unfolding_all rfl) (by with_unfolding_all rfl) hlt Tryd.underlying48 Tryd.sizeR33) ?_)
            | (with_reducible refine wpList_load_mid (op := ⟨some 45, _, _, _, _, _⟩) rfl 36 (.tmp 44) rfl g (j * 33) (by with_unfolding_all rfl) (tr1 x) _ RG.out Tryd.underlying36 rfl SZ.out ?_)
            | ((with_reducible refine wpList_oneRow (o := ⟨some 46, _, _, _, _, _⟩) rfl 48 36 (.tmp 45) rfl (trL x.1 x.2) 33 36 (.agg (trC zeroKey 0)) (by with_unfolding_all rfl) (trL_length _ _ LX.out) (by omega) (by omega) Tryd.underlying48 Tryd.infoR ?_); intro gb w2 n2; have E2 : Hid (Env w0 (((gb, 36, trC x.1 x.2) :: (rs ++ ex)) ++ ex1) w2) := Lib.hid (E.out.new n2); clear n2)
            | (at_builtin; refine wpList_appTl (rs := (gb, 36, trC x.1 x.2) :: (rs ++ ex)) (ex := ex1) rfl (.tmp 38) (.tmp 46) 48 rfl 36 Tryd.infoR Tryd.underlying48 _ _ (D j) [x] rfl rfl (HDJ.out j) HX1.out (row_single (E2.out.row 0 rfl)) X.out E2.out LDN.out ?_; intro u3 w3 ex3 hx3 hE3; have X3 := Lib.hid hx3; have E3 := Lib.hid hE3; clear hx3 hE3))
          try go_roundw
          · exact ⟨j + 1, ex3, by omega, by congr 1, by rw [NX.out]; exact X3.out, by rw [NB.out], E3.out.tl⟩
          · show N - ((j : Int) + 1).toNat < N - (j : Int).toNat
            omega
        · by_cases hnl : (j : Int) = (N : Int) - 1
          · have hnl2 : ((j : Int) == (N : Int) - 1) = true := beq_iff_eq.2 hnl
            have HNL := Lib.hid hnl2
            obtain ⟨M, hM⟩ : ∃ M : Int, M = (N : Int) - 1 := ⟨_, rfl⟩
            have hjM : ((j : Int) == M) = true := by rw [hM]; exact hnl2
            have hwM : IntKind.i64.wrap ((N : Int) - 1) = M := by rw [hM]; exact hwN
            generalize decide (j ≤ G) = bb
            clear hx hr hrow h5 ROW hb2 hnl2 hnl hwN hM
            go_wp2_with (first
              | (with_reducible refine wpList_val (o := ⟨some 21, _, _, _, _, _⟩) rfl _ (run_idxAt0 33 48 36 (.tmp 19) (.tmp 20) rfl g N c0 j (by with_unfolding_all rfl) (by with_unfolding_all rfl) hlt Tryd.underlying48 Tryd.sizeR33) ?_)
              | (with_reducible refine wpList_val (o := ⟨some 44, _, _, _, _, _⟩) rfl _ (run_idxAt0 33 48 36 (.tmp 42) (.tmp 43) rfl g N c0 j (by with_unfolding_all rfl) (by with_unfolding_all rfl) hlt Tryd.underlying48 Tryd.sizeR33) ?_)
              | (with_reducible refine wpList_load_mid (op := ⟨some 45, _, _, _, _, _⟩) rfl 36 (.tmp 44) rfl g (j * 33) (by with_unfolding_all rfl) (tr1 x) _ RG.out Tryd.underlying36 rfl SZ.out ?_)
              | ((with_reducible refine wpList_oneRow (o := ⟨some 46, _, _, _, _, _⟩) rfl 48 36 (.tmp 45) rfl (trL x.1 x.2) 33 36 (.agg (trC zeroKey 0)) (by with_unfolding_all rfl) (trL_length _ _ LX.out) (by omega) (by omega) Tryd.underlying48 Tryd.infoR ?_); intro gb w2 n2; have E2 : Hid (Env w0 (((gb, 36, trC x.1 x.2) :: (rs ++ ex)) ++ ex1) w2) := Lib.hid (E.out.new n2); clear n2)
              | (at_builtin; refine wpList_appTl (rs := (gb, 36, trC x.1 x.2) :: (rs ++ ex)) (ex := ex1) rfl (.tmp 38) (.tmp 46) 48 rfl 36 Tryd.infoR Tryd.underlying48 _ _ (D j) [x] rfl rfl (HDJ.out j) HX1.out (row_single (E2.out.row 0 rfl)) X.out E2.out LDN.out ?_; intro u3 w3 ex3 hx3 hE3; have X3 := Lib.hid hx3; have E3 := Lib.hid hE3; clear hx3 hE3))
            try go_roundw
            · exact ⟨j + 1, ex3, by omega, by congr 1, by rw [NX.out]; exact X3.out, by rw [NB.out], E3.out.tl⟩
            · show N - ((j : Int) + 1).toNat < N - (j : Int).toNat
              omega
          · have hnl2 : ((j : Int) == (N : Int) - 1) = false := beq_eq_false_iff_ne.2 hnl
            have hjg : ¬ (j ≤ G) := fun h => by
              have e : j = G := by omega
              rcases H3.out with h3 | ⟨t, h3, h4⟩
              · omega
              · rw [← e, hx] at h3
                obtain rfl : x = t := Option.some.inj h3
                exact hnx h4
            have hb : decide (j ≤ G) = false := decide_eq_false hjg
            rw [hb]
            clear hx hr hrow h5 ROW hb2 hb
            go_wp2_with (first
              | (with_reducible refine wpList_val (o := ⟨some 21, _, _, _, _, _⟩) rfl _ (run_idxAt0 33 48 36 (.tmp 19) (.tmp 20) rfl g N c0 j (by with_unfolding_all rfl) (by with_unfolding_all rfl) hlt Tryd.underlying48 Tryd.sizeR33) ?_)
              | (with_reducible refine wpList_val (o := ⟨some 44, _, _, _, _, _⟩) rfl _ (run_idxAt0 33 48 36 (.tmp 42) (.tmp 43) rfl g N c0 j (by with_unfolding_all rfl) (by with_unfolding_all rfl) hlt Tryd.underlying48 Tryd.sizeR33) ?_)
              | (with_reducible refine wpList_load_mid (op := ⟨some 45, _, _, _, _, _⟩) rfl 36 (.tmp 44) rfl g (j * 33) (by with_unfolding_all rfl) (tr1 x) _ RG.out Tryd.underlying36 rfl SZ.out ?_)
              | ((with_reducible refine wpList_oneRow (o := ⟨some 46, _, _, _, _, _⟩) rfl 48 36 (.tmp 45) rfl (trL x.1 x.2) 33 36 (.agg (trC zeroKey 0)) (by with_unfolding_all rfl) (trL_length _ _ LX.out) (by omega) (by omega) Tryd.underlying48 Tryd.infoR ?_); intro gb w2 n2; have E2 : Hid (Env w0 (((gb, 36, trC x.1 x.2) :: (rs ++ ex)) ++ ex1) w2) := Lib.hid (E.out.new n2); clear n2)
              | (at_builtin; refine wpList_appTl (rs := (gb, 36, trC x.1 x.2) :: (rs ++ ex)) (ex := ex1) rfl (.tmp 38) (.tmp 46) 48 rfl 36 Tryd.infoR Tryd.underlying48 _ _ (D j) [x] rfl rfl (HDJ.out j) HX1.out (row_single (E2.out.row 0 rfl)) X.out E2.out LDN.out ?_; intro u3 w3 ex3 hx3 hE3; have X3 := Lib.hid hx3; have E3 := Lib.hid hE3; clear hx3 hE3))
            try go_roundw
            · exact ⟨j + 1, ex3, by omega, by congr 1, by rw [NX.out]; exact X3.out, by rw [NB.out], E3.out.tl⟩
            · show N - ((j : Int) + 1).toNat < N - (j : Int).toNat
              omega
    · have hjN : j = N := by omega
      clear hlt hj
      subst hjN
      have f := E.out.fzV i (at_left (at_left HI.out)) 0
      obtain ⟨A2, c2, hu, _⟩ := tl_shape X.out
      have FF := Lib.hid (FIN.out _ _ _ X.out E.out)
      rw [hu] at FF ⊢
      clear X hu FIN
      go_wp2_with fail
      exact bodyPost_end (results_none rfl _ _ _) rfl FF.out
end Go.Proofs.YtlifjlcfoeednaaDoor
end
section
namespace Go.Proofs.YtlifjlcfoeednaaDoor
open Go.RowKit
set_option linter.unusedVariables false
set_option maxRecDepth 20000

/-- A type's zero is built. -/
theorem wpList_build0 {P : Program} {w : World} {ops : Array Oper} {rest : List Oper} {o : Oper} {a : Act} {Q : Exit → Act → World → Prop} (hgd : o.guard = none) (ty : TypeId) (ho : o.op = .build ty #[]) (z : Array Value)
    (hb : P.built ty [] = some z) (h : wpList P ops Q rest (a.put o.dst (.agg z)) w) : wpList P ops Q (o :: rest) a w :=
  wpList_plain hgd fun _ hK => by
    have hr := run_build (P := P) w ty #[] z hb
    unfold Oper.wp execOp
    simp only [ho]
    simp [hr]
    exact hK _ _ h
end Go.Proofs.YtlifjlcfoeednaaDoor
end
