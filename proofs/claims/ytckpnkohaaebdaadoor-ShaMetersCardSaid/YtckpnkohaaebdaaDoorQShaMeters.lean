/-
  ShaMeters: for every input the call returns true, and each argument reads as it read before. Conditions: none beyond the given statement's own (the package-level tables that its row lists hold what the program's text lays: the card ties that).
-/
import Derived.Test.YtckpnkohaaebdaaDoorQShmAI
import Derived.Test.YtckpnkohaaebdaaDoorQShmAJ
import Derived.Test.YtckpnkohaaebdaaDoorQShmAB
import Derived.ProofKit
import Derived.OpenShut
import Derived.ShutString
import Derived.ChangeOld
import Derived.Deep.DeepHandedRow
section
namespace Go.Proofs.YtckpnkohaaebdaaDoor
open Go.RowKit
set_option linter.unusedVariables false
set_option maxRecDepth 20000

theorem share_x {P : Program} {md : Region.Mode} {ops : Array Oper} {Q : Exit → Act → World → Prop} {fin : Nat → Bool} {SS : World → Prop} {w : World} {m : Nat} {listed : Array Bool} {a : Act} {A : Nat → Nat → Act} (Φ : Nat → Nat → World → Prop)
    (hgo : ∀ g k w', Φ g k w' → Q .normal (A g k) w') (h : (∀ g k w', Φ g k w' → Q .normal (A g k) w') → walkS P md ops Q SS fin m listed a w) : walkS P md ops Q SS fin m listed a w := h hgo
theorem share_y {P : Program} {md : Region.Mode} {ops : Array Oper} {Q : Exit → Act → World → Prop} {fin : Nat → Bool} {SS : World → Prop} {w : World} {m : Nat} {listed : Array Bool} {a : Act} {A : Nat → Value → Value → Nat → Act} (Φ : Nat → Value → Value → Nat → World → Prop)
    (hgo : ∀ g u v k w', Φ g u v k w' → Q .normal (A g u v k) w') (h : (∀ g u v k w', Φ g u v k w' → Q .normal (A g u v k) w') → walkS P md ops Q SS fin m listed a w) : walkS P md ops Q SS fin m listed a w := h hgo
theorem wp_appD {P : Program} {w : World} {o : Oper} {a : Act} {K : Act → World → Prop} {Q : Exit → Act → World → Prop} (s x : Operand) (t : TypeId)
    (ho : o.op = .call { callee := .builtin .append, args := #[s, x], argTypes := #[t, t] })
    (base : Nat) (e : TypeId) (hinfo : (P.info? e).map (fun i => (i.zero, i.size, i.bytes)) = some (some (.int .u8 0), 1, 1)) (ht : P.underlying t = some (.slice e))
    (v u : Value) (l m : List UInt8) (hs : a.eval s = v) (hx : a.eval x = u) (hown : OwnB w base e v l) (hu : Bs w u m) (hlen : l.length + m.length ≤ 140737488355328) (hb : base ≤ w.heap.size)
    (h : ∀ v' w', OwnB w' base e v' (l ++ m) → w.grownBy w' v.ownBlock → K (a.put o.dst v') w') : o.wp P a w K Q := by
  obtain ⟨v', w', hr, h2, h3, _⟩ := run_appD (P := P) w base t o.type e hinfo ht v u l m hown hu hlen hb
  unfold Oper.wp execOp
  simp only [ho, resolve, invoke, builtin, Sem.run_bind, Sem.run_pure, Result.andThen_ok, List.map_toArray, List.map_cons, List.map_nil, hs, hx, hr]
  exact h v' w' h2 h3

/-- The pairs of the first 2k lists, put together. -/
def prs (L : List (List UInt8)) (k : Nat) : List (List UInt8) := (List.range k).map fun r => inX L (2 * r) ++ inX L (2 * r + 1)
theorem prs_length (L : List (List UInt8)) (k : Nat) : (prs L k).length = k := by simp [prs]
theorem prs_next (L : List (List UInt8)) (k : Nat) : prs L (k + 1) = prs L k ++ [inX L (2 * k) ++ inX L (2 * k + 1)] := by simp [prs, List.range_succ]
theorem inX_get {L : List (List UInt8)} {k : Nat} (h : k < L.length) : L[k] = inX L k := by
  unfold inX
  rw [List.getD_eq_getElem?_getD, List.getElem?_eq_getElem h]
  rfl
def Short (ls : List (List UInt8)) : Prop := ∀ l ∈ ls, l.length ≤ 400
theorem Short.next {ls : List (List UInt8)} {a b : List UInt8} (h : Short ls) (ha : a.length ≤ 200) (hb : b.length ≤ 200) : Short (ls ++ [a ++ b]) := by
  intro l hl
  rcases List.mem_append.1 hl with hl | hl
  · exact h l hl
  · have : l = a ++ b := by simpa using hl
    rw [this, List.length_append]
    omega

set_option maxHeartbeats 8000000 in
theorem shaMeters_walk (w : World) (hq : Tabs w) (v : Value) (L : List (List UInt8)) (hb : Bss w v L) (kp : Bool) :
    Calls Tryd.prog 5 #[v, .bool kp] w (RetV w (.bool true)) := by
  have HQ := Lib.hid hq
  have HV := Lib.hid hb
  obtain ⟨A, c, rfl, h1, h2, h3⟩ := hb
  unfold maxLen at h2
  have H3 := Lib.hid h3
  clear hq h3
  by_cases a0 : 12 < L.length
  · have d0 : decide (12 < (L.length : Int)) = true := by simp; omega
    go_enter Tryd.func5, Tryd.ntmps5
    go_wp2_with fail
    refine (awake_true _ HQ.out).mono ?_
    intro e w1 h
    obtain ⟨he, b1⟩ := h
    subst he
    have B1 := Lib.hid b1
    clear b1
    go_wp2
    go_ret
    exact ⟨rfl, B1.out⟩
  have d0 : decide (12 < (L.length : Int)) = false := by simp; omega
  have hn12 : L.length ≤ 12 := by omega
  clear a0
  go_enter Tryd.func5, Tryd.ntmps5
  go_wp2_with fail
  refine (awake_true _ HQ.out).mono ?_
  intro e w1 h
  obtain ⟨he, b1⟩ := h
  subst he
  have B1 := Lib.hid b1
  clear b1
  go_wp2_with fail
  refine (New_any _ kp).mono ?_
  intro e w2 h
  obtain ⟨gm, he, n2⟩ := h
  subst he
  have N2 := Lib.hid n2
  clear n2
  go_wp2_with ((with_reducible refine wpList_box_row (o := ⟨some 34, _, _, _, _, _⟩) rfl 41 (.tmp 33) rfl (logK kp 0 (.slice none 0 0)) (by with_unfolding_all rfl) ?_); intro gl w3 n3; have N3 := Lib.hid n3; clear n3)
  have JO : Hid (Jo kp w gm gl 0 0 [] [] w3) := by
    have h1 := N2.out.spot
    have h2 := N3.out.spot
    have h3 := N2.out.size
    have h4 := B1.out.size
    exact Jo.new HQ.out (below_size (below_size B1.out N2.out.below) N3.out.below) (by omega) (by omega) (by omega) (N2.out.row.kept N3.out.below) N3.out.row
  have hgw : w.heap.size ≤ gm := JO.out.far.1
  have hglw : w.heap.size ≤ gl := JO.out.far.2
  have NEml : Hid (gm ≠ gl) := JO.out.ne
  clear N2 N3 B1
  go_loopw [9] (fun i wr => ∃ (k p : Nat), p = 2 * k ∧ p ≤ L.length ∧ i = .int .i64 (p : Int) ∧ Jo kp w gm gl k k (prs L k) (prs L k) wr ∧ Short (prs L k)) (fun i _ => 12 - (intOf i).toNat)
  case atStart => exact ⟨0, 0, rfl, by omega, rfl, JO.out, fun l hl => by simp [prs] at hl⟩
  case round =>
    clear JO
    obtain ⟨k, p, hp, hpl, rfl, hJ, hS⟩ := hrel
    have J := Lib.hid hJ
    have SH := Lib.hid hS
    have HP := Lib.hid hp
    clear hJ hS
    have hw1 : IntKind.i64.wrap ((p : Int) + 1) = (p : Int) + 1 := IntWalk.i64_in _ (by omega)
    have hw2 : IntKind.i64.wrap ((p : Int) + 2) = (p : Int) + 2 := IntWalk.i64_in _ (by omega)
    by_cases hlt : p + 1 < L.length
    · have dl : decide ((p : Int) + 1 < (L.length : Int)) = true := by simp; omega
      obtain ⟨b, off, rfl, hc⟩ := H3.out (by omega)
      have e0 : (p : Int) < (L.length : Int) := by omega
      have e1 : (p : Int) + 1 < (L.length : Int) := by omega
      have e2 : (0 : Int) ≤ (p : Int) + 1 := by omega
      have e3 : ((p : Int) + 1).toNat = p + 1 := by omega
      have e4 : ¬ ((p : Int) < 0) := by omega
      have e5 : ¬ ((p : Int) + 1 < 0) := by omega
      obtain ⟨u0, hc0, hb0⟩ := hc p (by omega)
      obtain ⟨u1, hc1, hb1⟩ := hc (p + 1) hlt
      rw [inX_get] at hb0 hb1
      obtain ⟨x, hx⟩ : ∃ x, x = inX L p := ⟨_, rfl⟩
      obtain ⟨y, hy⟩ : ∃ y, y = inX L (p + 1) := ⟨_, rfl⟩
      rw [← hx] at hb0
      rw [← hy] at hb1
      have HPR : Hid (prs L (k + 1) = prs L k ++ [x ++ y]) := by show _ = _; rw [prs_next, hx, hy, hp]
      have HC0 : Hid (∀ W, Below w.heap.size w W → W.cell? ⟨b, off + p, none⟩ = some u0) := fun W hW => (hW.cell (p := ⟨b, off + p, none⟩) (World.block_lt_of_cell? w _ hc0)).trans hc0
      have HC1 : Hid (∀ W, Below w.heap.size w W → W.cell? ⟨b, off + (p + 1), none⟩ = some u1) := fun W hW => (hW.cell (p := ⟨b, off + (p + 1), none⟩) (World.block_lt_of_cell? w _ hc1)).trans hc1
      have HB0 := Lib.hid hb0
      have HB1 := Lib.hid hb1
      obtain ⟨XA, xc, rfl, _⟩ := id hb0
      obtain ⟨YA, yc, rfl, _⟩ := id hb1
      have c0 := HC0.out _ J.out.below
      have c1 := HC1.out _ J.out.below
      have hbt : b < w.heap.size := World.block_lt_of_cell? w _ hc0
      clear hc hc0 hc1 hb0 hb1 hx hy hp
      by_cases hx2 : 200 < x.length
      · have dx : decide (200 < (x.length : Int)) = true := by simp; omega
        have BW := Lib.hid J.out.below
        clear J SH H3
        go_wp2_with fail
        go_ret
        exact ⟨rfl, BW.out⟩
      · have dx : decide (200 < (x.length : Int)) = false := by simp; omega
        by_cases hy2 : 200 < y.length
        · have dy : decide (200 < (y.length : Int)) = true := by simp; omega
          have BW := Lib.hid J.out.below
          clear J SH H3
          go_wp2_with fail
          go_ret
          exact ⟨rfl, BW.out⟩
        · have dy : decide (200 < (y.length : Int)) = false := by simp; omega
          have hxl : x.length ≤ 200 := by omega
          have hyl : y.length ≤ 200 := by omega
          clear hx2 hy2
          go_wp2_with fail
          obtain ⟨d, hd⟩ : ∃ d, d = digestB (x ++ y) := ⟨_, rfl⟩
          have LD : Hid (d.length = 32) := by show _ = _; rw [hd, digestB_length]
          obtain ⟨m0, hm0⟩ : ∃ m0, m0 = prs L k := ⟨_, rfl⟩
          obtain ⟨m1, hm1⟩ : ∃ m1, m1 = prs L (k + 1) := ⟨_, rfl⟩
          have HM1 := Lib.hid hm1
          have HPR2 : Hid (m1 = m0 ++ [x ++ y]) := by show _ = _; rw [hm1, hm0, HPR.out]
          have hk12 : k ≤ 6 := by have := HP.out; omega
          have hm0l : m0.length ≤ 6 := by rw [hm0, prs_length]; exact hk12
          rw [← hm0] at J SH
          have CS : Hid (∀ W v, Jo kp w gm gl k k m0 m0 W → Bss W v [x, y] → Calls Tryd.prog 21 #[.pointer (some ⟨gm, 0, none⟩), v] W fun e w' => e = .returned (.agg (keyC d)) ∧ Jo kp w gm gl (k + 1) k m1 m0 w' ∧ LeftJ W w' gm) := fun W v h1 h2 => by
            have hf : [x, y].flatten = x ++ y := by simp
            have := h1.sumM v [x, y] (by omega) (by omega) h2 (by rw [hf, List.length_append]; omega) (by simp)
            rwa [hf, ← hd, ← HPR2.out] at this
          have CL : Hid (∀ W v, Jo kp w gm gl (k + 1) k m1 m0 W → Bs W v (x ++ y) → Calls Tryd.prog 23 #[.pointer (some ⟨gl, 0, none⟩), v] W fun e w' => e = .returned (.agg (keyC d)) ∧ Jo kp w gm gl (k + 1) (k + 1) m1 m1 w' ∧ LeftJ W w' gl) := fun W v h1 h2 => by
            have := h1.sumL v (x ++ y) d (by omega) (by omega) hd h2 (by rw [List.length_append]; omega)
            rwa [← HPR2.out] at this
          have SH1 : Hid (Short m1) := by show Short _; rw [HPR2.out]; exact SH.out.next hxl hyl
          have LA : Hid (∀ W, Below w.heap.size w W → Bss (W.alloc (.cells #[.slice XA x.length xc, .slice YA y.length yc] 27)) (.slice (some ⟨W.heap.size, 0, none⟩) 2 2) [x, y]) := fun W hW => Bss.two _ _ _ _ _ _ (HB0.out.below hW) (HB1.out.below hW)
          have NX2 : Hid (p + 2 ≤ L.length) := by show _ ≤ _; omega
          have HP2 : Hid (p + 2 = 2 * (k + 1)) := by have := HP.out; show _ = _; omega
          clear hm0 hm1 hd HPR HP SH c0 c1 H3
          have KD := Lib.hid (J.out.kept (w' := wr.drew) ((Below.refl _ _).drew))
          have GM : Hid (gm < wr.drew.heap.size) := by obtain ⟨s, hr⟩ := KD.out.mt.row; exact hr.lt
          have GL : Hid (gl < wr.drew.heap.size) := by obtain ⟨s, hr⟩ := KD.out.lg.row; exact hr.lt
          have HZ : Hid (w.heap.size ≤ wr.drew.heap.size) := KD.out.below.size
          clear J
          refine plain_region (S := fun W => Below w.heap.size w W) (fin := fun _ => false) (by kernel_rfl) ?_
          apply share_x (fun gb gk X => Jo kp w gm gl (k + 1) k m1 m0 X ∧ RowAt X gk 33 (keyC d) ∧ gk ≠ gm ∧ gk ≠ gl)
          case h =>
            intro HGO
            have HG := Lib.hid HGO
            clear HGO
            have hS : Below w.heap.size w wr.drew := KD.out.below
            refine walkS_take (i := 0) (oi := ⟨some 58, _, _, _, _, _⟩) (v := .pointer (some ⟨gm, 0, none⟩)) rfl (by kernel_rfl) (by kernel_rfl) (fun _ _ _ h => h) _ _ _ _ (by kernel_rfl) (by kernel_rfl) (Or.inl ⟨by rfl, fun w' hS' => (by clear HG hS hS'; go_simp)⟩) hS ?_
            try simp only [Act.put, List.setIfInBounds_toArray, List.set_cons_zero, List.set_cons_succ]
            refine walkS_take (i := 1) (oi := ⟨some 59, _, _, _, _, _⟩) (v := .slice (some ⟨b, off, none⟩) L.length c) rfl (by kernel_rfl) (by kernel_rfl) (fun _ _ _ h => h) _ _ _ _ (by kernel_rfl) (by kernel_rfl) (Or.inl ⟨by rfl, fun w' hS' => (by clear HG hS hS'; go_simp)⟩) hS ?_
            try simp only [Act.put, List.setIfInBounds_toArray, List.set_cons_zero, List.set_cons_succ]
            refine walkS_take (i := 2) (oi := ⟨some 60, _, _, _, _, _⟩) (v := .int .i64 (p : Int)) rfl (by kernel_rfl) (by kernel_rfl) (fun _ _ _ h => h) _ _ _ _ (by kernel_rfl) (by kernel_rfl) (Or.inl ⟨by rfl, fun w' hS' => (by clear HG hS hS'; go_simp)⟩) hS ?_
            try simp only [Act.put, List.setIfInBounds_toArray, List.set_cons_zero, List.set_cons_succ]
            refine walkS_take (i := 3) (oi := ⟨some 61, _, _, _, _, _⟩) (v := .pointer (some ⟨b, off + p, none⟩)) rfl (by kernel_rfl) (by kernel_rfl) (fun _ _ _ h => h) _ _ _ _ (by kernel_rfl) (by kernel_rfl) (Or.inl ⟨by rfl, fun w' hS' => (by clear HG hS hS'; go_simp)⟩) hS ?_
            try simp only [Act.put, List.setIfInBounds_toArray, List.set_cons_zero, List.set_cons_succ]
            refine walkS_take (i := 4) (oi := ⟨some 62, _, _, _, _, _⟩) (v := .slice XA x.length xc) rfl (by kernel_rfl) (by kernel_rfl) (fun _ _ _ h => h) _ _ _ _ (by kernel_rfl) (by kernel_rfl) (Or.inl ⟨by rfl, fun w' hS' => (by have c0 := HC0.out w' hS'; clear HG hS hS'; go_simp)⟩) hS ?_
            try simp only [Act.put, List.setIfInBounds_toArray, List.set_cons_zero, List.set_cons_succ]
            refine walkS_take (i := 5) (oi := ⟨some 63, _, _, _, _, _⟩) (v := .slice (some ⟨b, off, none⟩) L.length c) rfl (by kernel_rfl) (by kernel_rfl) (fun _ _ _ h => h) _ _ _ _ (by kernel_rfl) (by kernel_rfl) (Or.inl ⟨by rfl, fun w' hS' => (by clear HG hS hS'; go_simp)⟩) hS ?_
            try simp only [Act.put, List.setIfInBounds_toArray, List.set_cons_zero, List.set_cons_succ]
            refine walkS_take (i := 6) (oi := ⟨some 64, _, _, _, _, _⟩) (v := .int .i64 (p : Int)) rfl (by kernel_rfl) (by kernel_rfl) (fun _ _ _ h => h) _ _ _ _ (by kernel_rfl) (by kernel_rfl) (Or.inl ⟨by rfl, fun w' hS' => (by clear HG hS hS'; go_simp)⟩) hS ?_
            try simp only [Act.put, List.setIfInBounds_toArray, List.set_cons_zero, List.set_cons_succ]
            refine walkS_take (i := 7) (oi := ⟨some 65, _, _, _, _, _⟩) (v := .int .i64 ((p : Int) + 1)) rfl (by kernel_rfl) (by kernel_rfl) (fun _ _ _ h => h) _ _ _ _ (by kernel_rfl) (by kernel_rfl) (Or.inl ⟨by rfl, fun w' hS' => (by clear HG hS hS'; go_simp)⟩) hS ?_
            try simp only [Act.put, List.setIfInBounds_toArray, List.set_cons_zero, List.set_cons_succ]
            refine walkS_take (i := 8) (oi := ⟨some 66, _, _, _, _, _⟩) (v := .pointer (some ⟨b, off + (p + 1), none⟩)) rfl (by kernel_rfl) (by kernel_rfl) (fun _ _ _ h => h) _ _ _ _ (by kernel_rfl) (by kernel_rfl) (Or.inl ⟨by rfl, fun w' hS' => (by clear HG hS hS'; go_simp)⟩) hS ?_
            try simp only [Act.put, List.setIfInBounds_toArray, List.set_cons_zero, List.set_cons_succ]
            refine walkS_take (i := 9) (oi := ⟨some 67, _, _, _, _, _⟩) (v := .slice YA y.length yc) rfl (by kernel_rfl) (by kernel_rfl) (fun _ _ _ h => h) _ _ _ _ (by kernel_rfl) (by kernel_rfl) (Or.inl ⟨by rfl, fun w' hS' => (by have c0 := HC1.out w' hS'; clear HG hS hS'; go_simp)⟩) hS ?_
            try simp only [Act.put, List.setIfInBounds_toArray, List.set_cons_zero, List.set_cons_succ]
            refine walkS_two (i := 10) (j := 12) (oi := ⟨some 68, _, _, _, _, _⟩) (oj := ⟨some 10, _, _, _, _, _⟩) (by kernel_rfl) rfl rfl rfl rfl (fun KK hKK => ?_) (fun KK hKK => ?_)
            · go_simp
              obtain ⟨gb, hgb⟩ : ∃ gb, gb = wr.heap.size := ⟨_, rfl⟩
              rw [← hgb]
              have HGB := Lib.hid hgb
              clear hgb
              refine hKK _ _ (.inr (below_size hS (alloc_below _ _))) ?_
              clear hKK KK
              try simp only [Act.put, List.setIfInBounds_toArray, List.set_cons_zero, List.set_cons_succ]
              refine walkS_two (i := 11) (j := 12) (oi := ⟨some 69, _, _, _, _, _⟩) (oj := ⟨some 10, _, _, _, _, _⟩) (by kernel_rfl) rfl rfl rfl rfl (fun KK hKK => ?_) (fun KK hKK => ?_)
              · go_simp
                refine (CS.out _ _ (by exact KD.out.kept (alloc_below _ _)) (by exact (by have h0 := HGB.out; subst h0; exact LA.out wr.drew KD.out.below))).mono ?_
                intro e xc h
                obtain ⟨he, jc, lc⟩ := h
                subst he
                refine hKK _ _ (.inr jc.below) ?_
                clear hKK KK
                try simp only [Act.put, List.setIfInBounds_toArray, List.set_cons_zero, List.set_cons_succ]
                refine walkS_only (i := 12) (o := ⟨some 10, _, _, _, _, _⟩) (by kernel_rfl) rfl rfl fun KK hKK => ?_
                refine wp_alloc_row 33 rfl (keyC zeroKey) Tryd.zeroK fun gk xa na => ?_
                refine hKK _ _ (.inr (below_size jc.below na.below)) ?_
                clear hKK KK
                try simp only [Act.put, List.setIfInBounds_toArray, List.set_cons_zero, List.set_cons_succ]
                have hgm : gk ≠ gm := by have := GM.out; have := na.spot; have := lc.size; have := size_alloc; simp at *; omega
                have hgl : gk ≠ gl := by have := GL.out; have := na.spot; have := lc.size; have := size_alloc; simp at *; omega
                have hgk : w.heap.size ≤ gk := by have := HZ.out; have := na.spot; have := lc.size; have := size_alloc; simp at *; omega
                have rkk : RowAt xa gk 33 (keyC zeroKey) := na.row
                have jx : Jo kp w gm gl (k + 1) k m1 m0 xa := jc.kept na.below
                refine walkS_only (i := 13) (o := ⟨none, _, _, _, _, _⟩) (by kernel_rfl) rfl rfl fun KK hKK => ?_
                refine wp_store_row 33 (.tmp 10) (.tmp 69) (by with_unfolding_all rfl) gk 33 (keyC zeroKey) (keyC d) (by with_unfolding_all rfl) (by with_unfolding_all rfl) rkk (keyC_same zeroKey_length LD.out) (Tryd.sizeKey d LD.out) (keyC_one d) fun xs ps => ?_
                have jz := jx.put rkk ps hgm hgl hgk (by decide) (by decide)
                refine hKK _ _ (.inr jz.below) (walkS_done (by kernel_rfl) ?_ _)
                exact HG.out gb gk xs ⟨jz, ps.row, hgm, hgl⟩
              · refine wp_alloc_row 33 rfl (keyC zeroKey) Tryd.zeroK fun gk xa na => ?_
                refine hKK _ _ (.inr (below_size (below_size hS (alloc_below _ _)) na.below)) ?_
                clear hKK KK
                try simp only [Act.put, List.setIfInBounds_toArray, List.set_cons_zero, List.set_cons_succ]
                refine walkS_only (i := 11) (o := ⟨some 69, _, _, _, _, _⟩) (by kernel_rfl) rfl rfl fun KK hKK => ?_
                go_simp
                refine (CS.out _ _ (by exact (KD.out.kept (alloc_below _ _)).kept na.below) (by exact (by have h0 := HGB.out; subst h0; exact (LA.out wr.drew KD.out.below).keep na.below))).mono ?_
                intro e xc h
                obtain ⟨he, jc, lc⟩ := h
                subst he
                refine hKK _ _ (.inr jc.below) ?_
                clear hKK KK
                try simp only [Act.put, List.setIfInBounds_toArray, List.set_cons_zero, List.set_cons_succ]
                have hgm : gk ≠ gm := by have := GM.out; have := na.spot; simp at *; omega
                have hgl : gk ≠ gl := by have := GL.out; have := na.spot; simp at *; omega
                have hgk : w.heap.size ≤ gk := by have := HZ.out; have := na.spot; simp at *; omega
                have rkk : RowAt xc gk 33 (keyC zeroKey) := lc.row _ _ _ (by have := GM.out; have := na.spot; simp at *; omega) (by decide) na.row
                have jx : Jo kp w gm gl (k + 1) k m1 m0 xc := jc
                refine walkS_only (i := 13) (o := ⟨none, _, _, _, _, _⟩) (by kernel_rfl) rfl rfl fun KK hKK => ?_
                refine wp_store_row 33 (.tmp 10) (.tmp 69) (by with_unfolding_all rfl) gk 33 (keyC zeroKey) (keyC d) (by with_unfolding_all rfl) (by with_unfolding_all rfl) rkk (keyC_same zeroKey_length LD.out) (Tryd.sizeKey d LD.out) (keyC_one d) fun xs ps => ?_
                have jz := jx.put rkk ps hgm hgl hgk (by decide) (by decide)
                refine hKK _ _ (.inr jz.below) (walkS_done (by kernel_rfl) ?_ _)
                exact HG.out gb gk xs ⟨jz, ps.row, hgm, hgl⟩
            · refine wp_alloc_row 33 rfl (keyC zeroKey) Tryd.zeroK fun gk xa na => ?_
              refine hKK _ _ (.inr (below_size hS na.below)) ?_
              clear hKK KK
              try simp only [Act.put, List.setIfInBounds_toArray, List.set_cons_zero, List.set_cons_succ]
              refine walkS_only (i := 10) (o := ⟨some 68, _, _, _, _, _⟩) (by kernel_rfl) rfl rfl fun KK hKK => ?_
              go_simp
              refine hKK _ _ (.inr (below_size (below_size hS na.below) (alloc_below _ _))) ?_
              clear hKK KK
              try simp only [Act.put, List.setIfInBounds_toArray, List.set_cons_zero, List.set_cons_succ]
              refine walkS_only (i := 11) (o := ⟨some 69, _, _, _, _, _⟩) (by kernel_rfl) rfl rfl fun KK hKK => ?_
              go_simp
              refine (CS.out _ _ (by exact (KD.out.kept na.below).kept (alloc_below _ _)) (by exact LA.out xa (below_size KD.out.below na.below))).mono ?_
              intro e xc h
              obtain ⟨he, jc, lc⟩ := h
              subst he
              refine hKK _ _ (.inr jc.below) ?_
              clear hKK KK
              try simp only [Act.put, List.setIfInBounds_toArray, List.set_cons_zero, List.set_cons_succ]
              have hgm : gk ≠ gm := by have := GM.out; have := na.spot; omega
              have hgl : gk ≠ gl := by have := GL.out; have := na.spot; omega
              have hgk : w.heap.size ≤ gk := by have := HZ.out; have := na.spot; omega
              have rkk : RowAt xc gk 33 (keyC zeroKey) := lc.row _ _ _ (by have := GM.out; have := na.spot; omega) (by decide) (na.row.kept (alloc_below _ _))
              have jx : Jo kp w gm gl (k + 1) k m1 m0 xc := jc
              refine walkS_only (i := 13) (o := ⟨none, _, _, _, _, _⟩) (by kernel_rfl) rfl rfl fun KK hKK => ?_
              refine wp_store_row 33 (.tmp 10) (.tmp 69) (by with_unfolding_all rfl) gk 33 (keyC zeroKey) (keyC d) (by with_unfolding_all rfl) (by with_unfolding_all rfl) rkk (keyC_same zeroKey_length LD.out) (Tryd.sizeKey d LD.out) (keyC_one d) fun xs ps => ?_
              have jz := jx.put rkk ps hgm hgl hgk (by decide) (by decide)
              refine hKK _ _ (.inr jz.below) (walkS_done (by kernel_rfl) ?_ _)
              exact HG.out _ gk xs ⟨jz, ps.row, hgm, hgl⟩
          intro gb6 g10 w6 hΦ
          obtain ⟨j6, r6, nm6, nl6⟩ := hΦ
          have J6 := Lib.hid j6
          have R6 := Lib.hid r6
          have NM6 : Hid (g10 ≠ gm) := nm6
          have NL6 : Hid (g10 ≠ gl) := nl6
          clear j6 r6 nm6 nl6 KD GM GL HZ CS LA
          go_wp2_with fail
          have KD := Lib.hid (J6.out.kept (w' := w6.drew) ((Below.refl _ _).drew))
          have RD : Hid (RowAt w6.drew g10 33 (keyC d)) := R6.out
          have GM : Hid (gm < w6.drew.heap.size) := by obtain ⟨s, hr⟩ := KD.out.mt.row; exact hr.lt
          have GL : Hid (gl < w6.drew.heap.size) := by obtain ⟨s, hr⟩ := KD.out.lg.row; exact hr.lt
          have G10 : Hid (g10 < w6.drew.heap.size) := RD.out.lt
          have HZ : Hid (w.heap.size ≤ w6.drew.heap.size) := KD.out.below.size
          clear J6 R6
          refine plain_region (S := fun W => Below w.heap.size w W) (fin := fun _ => false) (by kernel_rfl) ?_
          apply share_y (fun gb va vb gk X => Jo kp w gm gl (k + 1) (k + 1) m1 m1 X ∧ RowAt X g10 33 (keyC d) ∧ RowAt X gk 33 (keyC d))
          case h =>
            intro HGO
            have HG := Lib.hid HGO
            clear HGO
            have hS : Below w.heap.size w w6.drew := KD.out.below
            refine walkS_take (i := 0) (oi := ⟨some 70, _, _, _, _, _⟩) (v := .pointer (some ⟨gl, 0, none⟩)) rfl (by kernel_rfl) (by kernel_rfl) (fun _ _ _ h => h) _ _ _ _ (by kernel_rfl) (by kernel_rfl) (Or.inl ⟨by rfl, fun w' hS' => (by clear HG hS hS'; go_simp)⟩) hS ?_
            try simp only [Act.put, List.setIfInBounds_toArray, List.set_cons_zero, List.set_cons_succ]
            refine walkS_take (i := 2) (oi := ⟨some 72, _, _, _, _, _⟩) (v := .slice (some ⟨b, off, none⟩) L.length c) rfl (by kernel_rfl) (by kernel_rfl) (fun _ _ _ h => h) _ _ _ _ (by kernel_rfl) (by kernel_rfl) (Or.inl ⟨by rfl, fun w' hS' => (by clear HG hS hS'; go_simp)⟩) hS ?_
            try simp only [Act.put, List.setIfInBounds_toArray, List.set_cons_zero, List.set_cons_succ]
            refine walkS_take (i := 3) (oi := ⟨some 73, _, _, _, _, _⟩) (v := .int .i64 (p : Int)) rfl (by kernel_rfl) (by kernel_rfl) (fun _ _ _ h => h) _ _ _ _ (by kernel_rfl) (by kernel_rfl) (Or.inl ⟨by rfl, fun w' hS' => (by clear HG hS hS'; go_simp)⟩) hS ?_
            try simp only [Act.put, List.setIfInBounds_toArray, List.set_cons_zero, List.set_cons_succ]
            refine walkS_take (i := 4) (oi := ⟨some 74, _, _, _, _, _⟩) (v := .pointer (some ⟨b, off + p, none⟩)) rfl (by kernel_rfl) (by kernel_rfl) (fun _ _ _ h => h) _ _ _ _ (by kernel_rfl) (by kernel_rfl) (Or.inl ⟨by rfl, fun w' hS' => (by clear HG hS hS'; go_simp)⟩) hS ?_
            try simp only [Act.put, List.setIfInBounds_toArray, List.set_cons_zero, List.set_cons_succ]
            refine walkS_take (i := 5) (oi := ⟨some 75, _, _, _, _, _⟩) (v := .slice XA x.length xc) rfl (by kernel_rfl) (by kernel_rfl) (fun _ _ _ h => h) _ _ _ _ (by kernel_rfl) (by kernel_rfl) (Or.inl ⟨by rfl, fun w' hS' => (by have c0 := HC0.out w' hS'; clear HG hS hS'; go_simp)⟩) hS ?_
            try simp only [Act.put, List.setIfInBounds_toArray, List.set_cons_zero, List.set_cons_succ]
            refine walkS_take (i := 7) (oi := ⟨some 77, _, _, _, _, _⟩) (v := .slice (some ⟨b, off, none⟩) L.length c) rfl (by kernel_rfl) (by kernel_rfl) (fun _ _ _ h => h) _ _ _ _ (by kernel_rfl) (by kernel_rfl) (Or.inl ⟨by rfl, fun w' hS' => (by clear HG hS hS'; go_simp)⟩) hS ?_
            try simp only [Act.put, List.setIfInBounds_toArray, List.set_cons_zero, List.set_cons_succ]
            refine walkS_take (i := 8) (oi := ⟨some 78, _, _, _, _, _⟩) (v := .int .i64 (p : Int)) rfl (by kernel_rfl) (by kernel_rfl) (fun _ _ _ h => h) _ _ _ _ (by kernel_rfl) (by kernel_rfl) (Or.inl ⟨by rfl, fun w' hS' => (by clear HG hS hS'; go_simp)⟩) hS ?_
            try simp only [Act.put, List.setIfInBounds_toArray, List.set_cons_zero, List.set_cons_succ]
            refine walkS_take (i := 9) (oi := ⟨some 79, _, _, _, _, _⟩) (v := .int .i64 ((p : Int) + 1)) rfl (by kernel_rfl) (by kernel_rfl) (fun _ _ _ h => h) _ _ _ _ (by kernel_rfl) (by kernel_rfl) (Or.inl ⟨by rfl, fun w' hS' => (by clear HG hS hS'; go_simp)⟩) hS ?_
            try simp only [Act.put, List.setIfInBounds_toArray, List.set_cons_zero, List.set_cons_succ]
            refine walkS_take (i := 10) (oi := ⟨some 80, _, _, _, _, _⟩) (v := .pointer (some ⟨b, off + (p + 1), none⟩)) rfl (by kernel_rfl) (by kernel_rfl) (fun _ _ _ h => h) _ _ _ _ (by kernel_rfl) (by kernel_rfl) (Or.inl ⟨by rfl, fun w' hS' => (by clear HG hS hS'; go_simp)⟩) hS ?_
            try simp only [Act.put, List.setIfInBounds_toArray, List.set_cons_zero, List.set_cons_succ]
            refine walkS_take (i := 11) (oi := ⟨some 81, _, _, _, _, _⟩) (v := .slice YA y.length yc) rfl (by kernel_rfl) (by kernel_rfl) (fun _ _ _ h => h) _ _ _ _ (by kernel_rfl) (by kernel_rfl) (Or.inl ⟨by rfl, fun w' hS' => (by have c0 := HC1.out w' hS'; clear HG hS hS'; go_simp)⟩) hS ?_
            try simp only [Act.put, List.setIfInBounds_toArray, List.set_cons_zero, List.set_cons_succ]
            have B0 : Below w6.drew.heap.size w6.drew w6.drew := Below.refl _ _
            refine walkS_two (i := 1) (j := 14) (oi := ⟨some 71, _, _, _, _, _⟩) (oj := ⟨some 11, _, _, _, _, _⟩) (by kernel_rfl) rfl rfl rfl rfl (fun KK hKK => ?_) (fun KK hKK => ?_)
            · go_simp
              obtain ⟨gb, hgb⟩ : ∃ gb, gb = w6.heap.size := ⟨_, rfl⟩
              rw [← hgb]
              have HGB := Lib.hid hgb
              clear hgb
              have B1 : Below w6.drew.heap.size w6.drew (w6.drew.alloc (.cells #[] 5)) := below_size B0 (alloc_below _ _)
              have V1 : OwnB (w6.drew.alloc (.cells #[] 5)) w6.drew.heap.size 5 (.slice (some ⟨gb, 0, none⟩) 0 0) [] := by have h0 := HGB.out; subst h0; exact OwnB.empty2 _ _ _ (B0.size)
              refine hKK _ _ (.inr (below_size KD.out.below B1)) ?_
              clear hKK KK
              try simp only [Act.put, List.setIfInBounds_toArray, List.set_cons_zero, List.set_cons_succ]
              refine walkS_two (i := 6) (j := 14) (oi := ⟨some 76, _, _, _, _, _⟩) (oj := ⟨some 11, _, _, _, _, _⟩) (by kernel_rfl) rfl rfl rfl rfl (fun KK hKK => ?_) (fun KK hKK => ?_)
              · refine wp_appD (.tmp 71) (.tmp 75) 27 rfl w6.drew.heap.size 5 Tryd.infoB Tryd.underlying27 _ _ [] x (by with_unfolding_all rfl) (by with_unfolding_all rfl) V1 (HB0.out.below (below_size KD.out.below B1)) (by simp; omega) (B1.size) fun va x2 o2 g2 => ?_
                have B2 : Below w6.drew.heap.size w6.drew x2 := B1.grown g2 B1.size V1.rows
                refine hKK _ _ (.inr (below_size KD.out.below B2)) ?_
                clear hKK KK
                try simp only [Act.put, List.setIfInBounds_toArray, List.set_cons_zero, List.set_cons_succ]
                refine walkS_two (i := 12) (j := 14) (oi := ⟨some 82, _, _, _, _, _⟩) (oj := ⟨some 11, _, _, _, _, _⟩) (by kernel_rfl) rfl rfl rfl rfl (fun KK hKK => ?_) (fun KK hKK => ?_)
                · refine wp_appD (.tmp 76) (.tmp 81) 27 rfl w6.drew.heap.size 5 Tryd.infoB Tryd.underlying27 _ _ ([] ++ x) y (by with_unfolding_all rfl) (by with_unfolding_all rfl) o2 (HB1.out.below (below_size KD.out.below B2)) (by simp; omega) (B2.size) fun vb x3 o3 g3 => ?_
                  have B3 : Below w6.drew.heap.size w6.drew x3 := B2.grown g3 B2.size o2.rows
                  refine hKK _ _ (.inr (below_size KD.out.below B3)) ?_
                  clear hKK KK
                  try simp only [Act.put, List.setIfInBounds_toArray, List.set_cons_zero, List.set_cons_succ]
                  refine walkS_two (i := 13) (j := 14) (oi := ⟨some 83, _, _, _, _, _⟩) (oj := ⟨some 11, _, _, _, _, _⟩) (by kernel_rfl) rfl rfl rfl rfl (fun KK hKK => ?_) (fun KK hKK => ?_)
                  · go_simp
                    refine (CL.out _ _ (by exact KD.out.kept B3) (by have := o3.bs; rwa [List.nil_append] at this)).mono ?_
                    intro e xc h
                    obtain ⟨he, jc, lc⟩ := h
                    subst he
                    refine hKK _ _ (.inr jc.below) ?_
                    clear hKK KK
                    try simp only [Act.put, List.setIfInBounds_toArray, List.set_cons_zero, List.set_cons_succ]
                    refine walkS_only (i := 14) (o := ⟨some 11, _, _, _, _, _⟩) (by kernel_rfl) rfl rfl fun KK hKK => ?_
                    refine wp_alloc_row 33 rfl (keyC zeroKey) Tryd.zeroK fun gk xa na => ?_
                    have hgka : w6.drew.heap.size ≤ gk := by have := na.spot; have := B3.size; have := lc.size; omega
                    refine hKK _ _ (.inr (below_size (jc).below na.below)) ?_
                    clear hKK KK
                    try simp only [Act.put, List.setIfInBounds_toArray, List.set_cons_zero, List.set_cons_succ]
                    have hgk : w6.drew.heap.size ≤ gk := by exact hgka
                    have hgm : gk ≠ gm := by have := GM.out; omega
                    have hgl : gk ≠ gl := by have := GL.out; omega
                    have hg1 : g10 ≠ gk := by have := G10.out; omega
                    have hgw : w.heap.size ≤ gk := Nat.le_trans HZ.out hgk
                    have rkk : RowAt xa gk 33 (keyC zeroKey) := na.row
                    have jx : Jo kp w gm gl (k + 1) (k + 1) m1 m1 xa := (jc).kept na.below
                    have rx : RowAt xa g10 33 (keyC d) := (lc.row _ _ _ NL6.out (by decide) (RD.out.kept B3)).kept na.below
                    refine walkS_only (i := 15) (o := ⟨none, _, _, _, _, _⟩) (by kernel_rfl) rfl rfl fun KK hKK => ?_
                    refine wp_store_row 33 (.tmp 11) (.tmp 83) (by with_unfolding_all rfl) gk 33 (keyC zeroKey) (keyC d) (by with_unfolding_all rfl) (by with_unfolding_all rfl) rkk (keyC_same zeroKey_length LD.out) (Tryd.sizeKey d LD.out) (keyC_one d) fun xs ps => ?_
                    have jz := jx.put rkk ps hgm hgl hgw (by decide) (by decide)
                    refine hKK _ _ (.inr jz.below) (walkS_done (by kernel_rfl) ?_ _)
                    exact HG.out gb va vb gk xs ⟨jz, rx.grown ps.grown (by intro e; injection e with e; exact hg1 e), ps.row⟩
                  · refine wp_alloc_row 33 rfl (keyC zeroKey) Tryd.zeroK fun gk xa na => ?_
                    have hgka : w6.drew.heap.size ≤ gk := by have := na.spot; have := B3.size; first | omega | (simp at *; omega)
                    have B5 : Below w6.drew.heap.size w6.drew xa := below_size B3 na.below
                    have V5 : OwnB xa w6.drew.heap.size 5 vb ([] ++ x ++ y) := o3.below na.below
                    refine hKK _ _ (.inr (below_size KD.out.below B5)) ?_
                    clear hKK KK
                    try simp only [Act.put, List.setIfInBounds_toArray, List.set_cons_zero, List.set_cons_succ]
                    refine walkS_only (i := 13) (o := ⟨some 83, _, _, _, _, _⟩) (by kernel_rfl) rfl rfl fun KK hKK => ?_
                    go_simp
                    refine (CL.out _ _ (by exact KD.out.kept B5) (by have := V5.bs; rwa [List.nil_append] at this)).mono ?_
                    intro e xc h
                    obtain ⟨he, jc, lc⟩ := h
                    subst he
                    refine hKK _ _ (.inr jc.below) ?_
                    clear hKK KK
                    try simp only [Act.put, List.setIfInBounds_toArray, List.set_cons_zero, List.set_cons_succ]
                    have hgk : w6.drew.heap.size ≤ gk := by exact hgka
                    have hgm : gk ≠ gm := by have := GM.out; omega
                    have hgl : gk ≠ gl := by have := GL.out; omega
                    have hg1 : g10 ≠ gk := by have := G10.out; omega
                    have hgw : w.heap.size ≤ gk := Nat.le_trans HZ.out hgk
                    have rkk : RowAt xc gk 33 (keyC zeroKey) := lc.row _ _ _ (by have := GL.out; omega) (by decide) (na.row)
                    have jx : Jo kp w gm gl (k + 1) (k + 1) m1 m1 xc := jc
                    have rx : RowAt xc g10 33 (keyC d) := lc.row _ _ _ NL6.out (by decide) (RD.out.kept B5)
                    refine walkS_only (i := 15) (o := ⟨none, _, _, _, _, _⟩) (by kernel_rfl) rfl rfl fun KK hKK => ?_
                    refine wp_store_row 33 (.tmp 11) (.tmp 83) (by with_unfolding_all rfl) gk 33 (keyC zeroKey) (keyC d) (by with_unfolding_all rfl) (by with_unfolding_all rfl) rkk (keyC_same zeroKey_length LD.out) (Tryd.sizeKey d LD.out) (keyC_one d) fun xs ps => ?_
                    have jz := jx.put rkk ps hgm hgl hgw (by decide) (by decide)
                    refine hKK _ _ (.inr jz.below) (walkS_done (by kernel_rfl) ?_ _)
                    exact HG.out gb va vb gk xs ⟨jz, rx.grown ps.grown (by intro e; injection e with e; exact hg1 e), ps.row⟩
                · refine wp_alloc_row 33 rfl (keyC zeroKey) Tryd.zeroK fun gk xa na => ?_
                  have hgka : w6.drew.heap.size ≤ gk := by have := na.spot; have := B2.size; first | omega | (simp at *; omega)
                  have B7 : Below w6.drew.heap.size w6.drew xa := below_size B2 na.below
                  have V7 : OwnB xa w6.drew.heap.size 5 va ([] ++ x) := o2.below na.below
                  refine hKK _ _ (.inr (below_size KD.out.below B7)) ?_
                  clear hKK KK
                  try simp only [Act.put, List.setIfInBounds_toArray, List.set_cons_zero, List.set_cons_succ]
                  refine walkS_only (i := 12) (o := ⟨some 82, _, _, _, _, _⟩) (by kernel_rfl) rfl rfl fun KK hKK => ?_
                  refine wp_appD (.tmp 76) (.tmp 81) 27 rfl w6.drew.heap.size 5 Tryd.infoB Tryd.underlying27 _ _ ([] ++ x) y (by with_unfolding_all rfl) (by with_unfolding_all rfl) V7 (HB1.out.below (below_size KD.out.below B7)) (by simp; omega) (B7.size) fun vb x8 o8 g8 => ?_
                  have B8 : Below w6.drew.heap.size w6.drew x8 := B7.grown g8 B7.size V7.rows
                  have rk8 : RowAt x8 gk 33 (keyC zeroKey) := RowAt.grown (na.row) g8 (own_apart V7 (na.row) (by decide))
                  refine hKK _ _ (.inr (below_size KD.out.below B8)) ?_
                  clear hKK KK
                  try simp only [Act.put, List.setIfInBounds_toArray, List.set_cons_zero, List.set_cons_succ]
                  refine walkS_only (i := 13) (o := ⟨some 83, _, _, _, _, _⟩) (by kernel_rfl) rfl rfl fun KK hKK => ?_
                  go_simp
                  refine (CL.out _ _ (by exact KD.out.kept B8) (by have := o8.bs; rwa [List.nil_append] at this)).mono ?_
                  intro e xc h
                  obtain ⟨he, jc, lc⟩ := h
                  subst he
                  refine hKK _ _ (.inr jc.below) ?_
                  clear hKK KK
                  try simp only [Act.put, List.setIfInBounds_toArray, List.set_cons_zero, List.set_cons_succ]
                  have hgk : w6.drew.heap.size ≤ gk := by exact hgka
                  have hgm : gk ≠ gm := by have := GM.out; omega
                  have hgl : gk ≠ gl := by have := GL.out; omega
                  have hg1 : g10 ≠ gk := by have := G10.out; omega
                  have hgw : w.heap.size ≤ gk := Nat.le_trans HZ.out hgk
                  have rkk : RowAt xc gk 33 (keyC zeroKey) := lc.row _ _ _ (by have := GL.out; omega) (by decide) (rk8)
                  have jx : Jo kp w gm gl (k + 1) (k + 1) m1 m1 xc := jc
                  have rx : RowAt xc g10 33 (keyC d) := lc.row _ _ _ NL6.out (by decide) (RD.out.kept B8)
                  refine walkS_only (i := 15) (o := ⟨none, _, _, _, _, _⟩) (by kernel_rfl) rfl rfl fun KK hKK => ?_
                  refine wp_store_row 33 (.tmp 11) (.tmp 83) (by with_unfolding_all rfl) gk 33 (keyC zeroKey) (keyC d) (by with_unfolding_all rfl) (by with_unfolding_all rfl) rkk (keyC_same zeroKey_length LD.out) (Tryd.sizeKey d LD.out) (keyC_one d) fun xs ps => ?_
                  have jz := jx.put rkk ps hgm hgl hgw (by decide) (by decide)
                  refine hKK _ _ (.inr jz.below) (walkS_done (by kernel_rfl) ?_ _)
                  exact HG.out gb va vb gk xs ⟨jz, rx.grown ps.grown (by intro e; injection e with e; exact hg1 e), ps.row⟩
              · refine wp_alloc_row 33 rfl (keyC zeroKey) Tryd.zeroK fun gk xa na => ?_
                have hgka : w6.drew.heap.size ≤ gk := by have := na.spot; have := B1.size; first | omega | (simp at *; omega)
                have B10 : Below w6.drew.heap.size w6.drew xa := below_size B1 na.below
                have V10 : OwnB xa w6.drew.heap.size 5 (.slice (some ⟨gb, 0, none⟩) 0 0) [] := V1.below na.below
                refine hKK _ _ (.inr (below_size KD.out.below B10)) ?_
                clear hKK KK
                try simp only [Act.put, List.setIfInBounds_toArray, List.set_cons_zero, List.set_cons_succ]
                refine walkS_only (i := 6) (o := ⟨some 76, _, _, _, _, _⟩) (by kernel_rfl) rfl rfl fun KK hKK => ?_
                refine wp_appD (.tmp 71) (.tmp 75) 27 rfl w6.drew.heap.size 5 Tryd.infoB Tryd.underlying27 _ _ [] x (by with_unfolding_all rfl) (by with_unfolding_all rfl) V10 (HB0.out.below (below_size KD.out.below B10)) (by simp; omega) (B10.size) fun va x11 o11 g11 => ?_
                have B11 : Below w6.drew.heap.size w6.drew x11 := B10.grown g11 B10.size V10.rows
                have rk11 : RowAt x11 gk 33 (keyC zeroKey) := RowAt.grown (na.row) g11 (own_apart V10 (na.row) (by decide))
                refine hKK _ _ (.inr (below_size KD.out.below B11)) ?_
                clear hKK KK
                try simp only [Act.put, List.setIfInBounds_toArray, List.set_cons_zero, List.set_cons_succ]
                refine walkS_only (i := 12) (o := ⟨some 82, _, _, _, _, _⟩) (by kernel_rfl) rfl rfl fun KK hKK => ?_
                refine wp_appD (.tmp 76) (.tmp 81) 27 rfl w6.drew.heap.size 5 Tryd.infoB Tryd.underlying27 _ _ ([] ++ x) y (by with_unfolding_all rfl) (by with_unfolding_all rfl) o11 (HB1.out.below (below_size KD.out.below B11)) (by simp; omega) (B11.size) fun vb x12 o12 g12 => ?_
                have B12 : Below w6.drew.heap.size w6.drew x12 := B11.grown g12 B11.size o11.rows
                have rk12 : RowAt x12 gk 33 (keyC zeroKey) := RowAt.grown (rk11) g12 (own_apart o11 (rk11) (by decide))
                refine hKK _ _ (.inr (below_size KD.out.below B12)) ?_
                clear hKK KK
                try simp only [Act.put, List.setIfInBounds_toArray, List.set_cons_zero, List.set_cons_succ]
                refine walkS_only (i := 13) (o := ⟨some 83, _, _, _, _, _⟩) (by kernel_rfl) rfl rfl fun KK hKK => ?_
                go_simp
                refine (CL.out _ _ (by exact KD.out.kept B12) (by have := o12.bs; rwa [List.nil_append] at this)).mono ?_
                intro e xc h
                obtain ⟨he, jc, lc⟩ := h
                subst he
                refine hKK _ _ (.inr jc.below) ?_
                clear hKK KK
                try simp only [Act.put, List.setIfInBounds_toArray, List.set_cons_zero, List.set_cons_succ]
                have hgk : w6.drew.heap.size ≤ gk := by exact hgka
                have hgm : gk ≠ gm := by have := GM.out; omega
                have hgl : gk ≠ gl := by have := GL.out; omega
                have hg1 : g10 ≠ gk := by have := G10.out; omega
                have hgw : w.heap.size ≤ gk := Nat.le_trans HZ.out hgk
                have rkk : RowAt xc gk 33 (keyC zeroKey) := lc.row _ _ _ (by have := GL.out; omega) (by decide) (rk12)
                have jx : Jo kp w gm gl (k + 1) (k + 1) m1 m1 xc := jc
                have rx : RowAt xc g10 33 (keyC d) := lc.row _ _ _ NL6.out (by decide) (RD.out.kept B12)
                refine walkS_only (i := 15) (o := ⟨none, _, _, _, _, _⟩) (by kernel_rfl) rfl rfl fun KK hKK => ?_
                refine wp_store_row 33 (.tmp 11) (.tmp 83) (by with_unfolding_all rfl) gk 33 (keyC zeroKey) (keyC d) (by with_unfolding_all rfl) (by with_unfolding_all rfl) rkk (keyC_same zeroKey_length LD.out) (Tryd.sizeKey d LD.out) (keyC_one d) fun xs ps => ?_
                have jz := jx.put rkk ps hgm hgl hgw (by decide) (by decide)
                refine hKK _ _ (.inr jz.below) (walkS_done (by kernel_rfl) ?_ _)
                exact HG.out gb va vb gk xs ⟨jz, rx.grown ps.grown (by intro e; injection e with e; exact hg1 e), ps.row⟩
            · refine wp_alloc_row 33 rfl (keyC zeroKey) Tryd.zeroK fun gk xa na => ?_
              have hgka : w6.drew.heap.size ≤ gk := by have := na.spot; have := B0.size; first | omega | (simp at *; omega)
              have B14 : Below w6.drew.heap.size w6.drew xa := below_size B0 na.below
              refine hKK _ _ (.inr (below_size KD.out.below B14)) ?_
              clear hKK KK
              try simp only [Act.put, List.setIfInBounds_toArray, List.set_cons_zero, List.set_cons_succ]
              refine walkS_only (i := 1) (o := ⟨some 71, _, _, _, _, _⟩) (by kernel_rfl) rfl rfl fun KK hKK => ?_
              go_simp
              have B15 : Below w6.drew.heap.size w6.drew (xa.alloc (.cells #[] 5)) := below_size B14 (alloc_below _ _)
              have V15 : OwnB (xa.alloc (.cells #[] 5)) w6.drew.heap.size 5 (.slice (some ⟨xa.heap.size, 0, none⟩) 0 0) [] := OwnB.empty2 _ _ _ (B14.size)
              refine hKK _ _ (.inr (below_size KD.out.below B15)) ?_
              clear hKK KK
              try simp only [Act.put, List.setIfInBounds_toArray, List.set_cons_zero, List.set_cons_succ]
              refine walkS_only (i := 6) (o := ⟨some 76, _, _, _, _, _⟩) (by kernel_rfl) rfl rfl fun KK hKK => ?_
              refine wp_appD (.tmp 71) (.tmp 75) 27 rfl w6.drew.heap.size 5 Tryd.infoB Tryd.underlying27 _ _ [] x (by with_unfolding_all rfl) (by with_unfolding_all rfl) V15 (HB0.out.below (below_size KD.out.below B15)) (by simp; omega) (B15.size) fun va x16 o16 g16 => ?_
              have B16 : Below w6.drew.heap.size w6.drew x16 := B15.grown g16 B15.size V15.rows
              have rk16 : RowAt x16 gk 33 (keyC zeroKey) := RowAt.grown ((na.row).kept (alloc_below _ _)) g16 (own_apart V15 ((na.row).kept (alloc_below _ _)) (by decide))
              refine hKK _ _ (.inr (below_size KD.out.below B16)) ?_
              clear hKK KK
              try simp only [Act.put, List.setIfInBounds_toArray, List.set_cons_zero, List.set_cons_succ]
              refine walkS_only (i := 12) (o := ⟨some 82, _, _, _, _, _⟩) (by kernel_rfl) rfl rfl fun KK hKK => ?_
              refine wp_appD (.tmp 76) (.tmp 81) 27 rfl w6.drew.heap.size 5 Tryd.infoB Tryd.underlying27 _ _ ([] ++ x) y (by with_unfolding_all rfl) (by with_unfolding_all rfl) o16 (HB1.out.below (below_size KD.out.below B16)) (by simp; omega) (B16.size) fun vb x17 o17 g17 => ?_
              have B17 : Below w6.drew.heap.size w6.drew x17 := B16.grown g17 B16.size o16.rows
              have rk17 : RowAt x17 gk 33 (keyC zeroKey) := RowAt.grown (rk16) g17 (own_apart o16 (rk16) (by decide))
              refine hKK _ _ (.inr (below_size KD.out.below B17)) ?_
              clear hKK KK
              try simp only [Act.put, List.setIfInBounds_toArray, List.set_cons_zero, List.set_cons_succ]
              refine walkS_only (i := 13) (o := ⟨some 83, _, _, _, _, _⟩) (by kernel_rfl) rfl rfl fun KK hKK => ?_
              go_simp
              refine (CL.out _ _ (by exact KD.out.kept B17) (by have := o17.bs; rwa [List.nil_append] at this)).mono ?_
              intro e xc h
              obtain ⟨he, jc, lc⟩ := h
              subst he
              refine hKK _ _ (.inr jc.below) ?_
              clear hKK KK
              try simp only [Act.put, List.setIfInBounds_toArray, List.set_cons_zero, List.set_cons_succ]
              have hgk : w6.drew.heap.size ≤ gk := by exact hgka
              have hgm : gk ≠ gm := by have := GM.out; omega
              have hgl : gk ≠ gl := by have := GL.out; omega
              have hg1 : g10 ≠ gk := by have := G10.out; omega
              have hgw : w.heap.size ≤ gk := Nat.le_trans HZ.out hgk
              have rkk : RowAt xc gk 33 (keyC zeroKey) := lc.row _ _ _ (by have := GL.out; omega) (by decide) (rk17)
              have jx : Jo kp w gm gl (k + 1) (k + 1) m1 m1 xc := jc
              have rx : RowAt xc g10 33 (keyC d) := lc.row _ _ _ NL6.out (by decide) (RD.out.kept B17)
              refine walkS_only (i := 15) (o := ⟨none, _, _, _, _, _⟩) (by kernel_rfl) rfl rfl fun KK hKK => ?_
              refine wp_store_row 33 (.tmp 11) (.tmp 83) (by with_unfolding_all rfl) gk 33 (keyC zeroKey) (keyC d) (by with_unfolding_all rfl) (by with_unfolding_all rfl) rkk (keyC_same zeroKey_length LD.out) (Tryd.sizeKey d LD.out) (keyC_one d) fun xs ps => ?_
              have jz := jx.put rkk ps hgm hgl hgw (by decide) (by decide)
              refine hKK _ _ (.inr jz.below) (walkS_done (by kernel_rfl) ?_ _)
              exact HG.out _ va vb gk xs ⟨jz, rx.grown ps.grown (by intro e; injection e with e; exact hg1 e), ps.row⟩
          intro gb7 va7 vb7 g11 w7 hΦ
          obtain ⟨j7, r7, s7⟩ := hΦ
          have J7 := Lib.hid j7
          have R7 := Lib.hid r7
          have S7 := Lib.hid s7
          clear j7 r7 s7 KD RD GM GL G10 HZ CL
          have heq := fun w => Tryd.eqKeyIn2 d d LD.out LD.out w
          rw [beq_self_eq_true] at heq
          go_wp2_with (first
            | (with_reducible refine wpList_load_row (o := ⟨some 84, _, _, _, _, _⟩) rfl 33 (.tmp 10) rfl g10 (by with_unfolding_all rfl) 33 (keyC d) (0, 0) (.array 32 5) (by with_unfolding_all exact R7.out) Tryd.underlying33 rfl (Tryd.sizeKey d LD.out) ?_)
            | (with_reducible refine wpList_load_row (o := ⟨some 85, _, _, _, _, _⟩) rfl 33 (.tmp 11) rfl g11 (by with_unfolding_all rfl) 33 (keyC d) (0, 0) (.array 32 5) (by with_unfolding_all exact S7.out) Tryd.underlying33 rfl (Tryd.sizeKey d LD.out) ?_))
          go_roundw
          case rel => exact ⟨k + 1, p + 2, HP2.out, NX2.out, by go_num, by rw [← HM1.out]; exact J7.out, by rw [← HM1.out]; exact SH1.out⟩
          case measure => simp [intOf]; omega
    · have dl : decide ((p : Int) + 1 < (L.length : Int)) = false := by simp; omega
      obtain ⟨M, hM⟩ : ∃ M, M = prs L k := ⟨_, rfl⟩
      have hml : M.length ≤ 6 := by rw [hM, prs_length]; omega
      rw [← hM] at J SH
      have ML : Hid (M.length ≤ 1000000) := by show _ ≤ _; omega
      have MS : Hid (∀ l ∈ M, l.length ≤ 1000000) := fun l hl => by have := SH.out l hl; omega
      obtain ⟨sm, hr⟩ := J.out.mt.row
      have RM := Lib.hid hr
      have hk6 : k ≤ 6 := by omega
      clear hM hml SH HP H3 hr
      go_wp2_with fail
      refine (Count_row wr gm k _ RM.out (by rfl)).mono ?_
      intro e w7 h
      obtain ⟨he, hw7⟩ := h
      subst he hw7
      clear RM
      go_wp2_with fail
      refine (J.out.inputs ML.out MS.out).mono ?_
      intro e w8 h
      obtain ⟨v8, he, hv8, b8⟩ := h
      subst he
      have J8 := Lib.hid (J.out.kept b8)
      have V8 := Lib.hid hv8
      clear b8 hv8 J
      obtain ⟨VA, vc, rfl, _⟩ := id V8.out
      go_wp2_with fail
      refine (J8.out.alike ML.out MS.out).mono ?_
      intro e w9 h
      obtain ⟨hal, b9⟩ := h
      have J9 := Lib.hid (J8.out.kept b9)
      have V9 := Lib.hid (V8.out.keep b9)
      clear b9 J8 V8
      rcases hal with ⟨hn1, he⟩ | ⟨j, i, a, b, hf1, he, ha, hbb⟩
      · subst he
        have N1 := Lib.hid hn1
        clear hn1
        go_wp2_with fail
        refine (J9.out.logAlike ML.out MS.out).mono ?_
        intro e w10 h
        obtain ⟨hal, b10⟩ := h
        have J10 := Lib.hid (J9.out.kept b10)
        have V10 := Lib.hid (V9.out.keep b10)
        clear b10 J9 V9
        rcases hal with ⟨_, he⟩ | ⟨_, _, _, _, hf, _⟩
        case inr => exact absurd N1.out hf.not
        subst he
        go_wp2_with fail
        refine (Count_nil _).mono ?_
        intro e w11 h
        obtain ⟨he, hw11⟩ := h
        subst he hw11
        go_wp2_with fail
        refine (Inputs_nil _).mono ?_
        intro e w12 h
        obtain ⟨he, hw12⟩ := h
        subst he hw12
        go_wp2_with fail
        refine (Alike_nil _ J10.out.tabs).mono ?_
        intro e w13 h
        obtain ⟨hal, b13⟩ := h
        rcases hal with ⟨_, he⟩ | ⟨_, _, _, _, hf, _⟩
        case inr => exact absurd hf.len (by simp)
        subst he
        have J13 := Lib.hid (J10.out.kept b13)
        have V13 := Lib.hid (V10.out.keep b13)
        clear b13 J10 V10
        obtain ⟨sl, hrl, hbl⟩ := J13.out.logIn
        have c1 : w13.cell? ⟨gl, 1, none⟩ = some (.int .i64 (k : Int)) := hrl.cell 1
        have c2 : w13.cell? ⟨gl, 2, none⟩ = some sl := hrl.cell 2
        have BL := Lib.hid hbl
        obtain ⟨SA, sc, rfl, _⟩ := id BL.out
        clear hrl hbl
        have LQ := Lib.hid (refLists_eq w13 _ _ _ _ V13.out BL.out)
        rw [beq_self_eq_true] at LQ
        go_wp2_with fail
        refine LQ.out.mono ?_
        intro e w14 h
        obtain ⟨he, b14⟩ := h
        subst he
        have B14 := Lib.hid (below_size J13.out.below b14)
        clear b14 c1 c2 LQ BL V13 J13
        go_wp2_with fail
        refine (same_yes _ _ _ [] (Bs.nil _) (Bs.nil _)).mono ?_
        intro e w15 h
        obtain ⟨he, b15⟩ := h
        subst he
        have B15 := Lib.hid (below_size B14.out b15)
        clear b15 B14
        go_wp2_with fail
        refine (same_yes _ _ _ [] (Bs.nil _) (Bs.nil _)).mono ?_
        intro e w16 h
        obtain ⟨he, b16⟩ := h
        subst he
        have B16 := Lib.hid (below_size B15.out b16)
        clear b16 B15
        go_wp2_with fail
        go_ret
        exact ⟨rfl, B16.out⟩
      · subst he
        have F1 := Lib.hid hf1
        obtain ⟨xx, hxx⟩ : ∃ xx, xx = inX (keptL kp M) j := ⟨_, rfl⟩
        obtain ⟨yy, hyy⟩ : ∃ yy, yy = inX (keptL kp M) i := ⟨_, rfl⟩
        rw [← hxx] at ha
        rw [← hyy] at hbb
        have HXX := Lib.hid hxx
        have HYY := Lib.hid hyy
        clear hxx hyy
        have HA := Lib.hid ha
        have HB := Lib.hid hbb
        clear hf1 ha hbb
        obtain ⟨AA, ac, rfl, _⟩ := id HA.out
        obtain ⟨BA, bc, rfl, _⟩ := id HB.out
        go_wp2_with fail
        refine (J9.out.logAlike ML.out MS.out).mono ?_
        intro e w10 h
        obtain ⟨hal, b10⟩ := h
        have J10 := Lib.hid (J9.out.kept b10)
        have V10 := Lib.hid (V9.out.keep b10)
        have HA2 := Lib.hid (HA.out.below b10)
        have HB2 := Lib.hid (HB.out.below b10)
        clear b10 J9 V9 HA HB
        rcases hal with ⟨hn, _⟩ | ⟨j2, i2, a2, b2, hf2, he, ha2, hb2⟩
        case inl => exact absurd hn F1.out.not
        subst he
        obtain ⟨e1, e2⟩ := F1.out.one hf2
        subst e1 e2
        rw [← HXX.out] at ha2
        rw [← HYY.out] at hb2
        have HA3 := Lib.hid ha2
        have HB3 := Lib.hid hb2
        clear hf2 ha2 hb2 HXX HYY
        clear F1
        obtain ⟨A3, ac3, rfl, _⟩ := id HA3.out
        obtain ⟨B3, bc3, rfl, _⟩ := id HB3.out
        go_wp2_with fail
        refine (Count_nil _).mono ?_
        intro e w11 h
        obtain ⟨he, hw11⟩ := h
        subst he hw11
        go_wp2_with fail
        refine (Inputs_nil _).mono ?_
        intro e w12 h
        obtain ⟨he, hw12⟩ := h
        subst he hw12
        go_wp2_with fail
        refine (Alike_nil _ J10.out.tabs).mono ?_
        intro e w13 h
        obtain ⟨hal, b13⟩ := h
        rcases hal with ⟨_, he⟩ | ⟨_, _, _, _, hf, _⟩
        case inr => exact absurd hf.len (by simp)
        subst he
        have J13 := Lib.hid (J10.out.kept b13)
        have V13 := Lib.hid (V10.out.keep b13)
        have HA2b := Lib.hid (HA2.out.below b13)
        have HB2b := Lib.hid (HB2.out.below b13)
        have HA3b := Lib.hid (HA3.out.below b13)
        have HB3b := Lib.hid (HB3.out.below b13)
        clear HA2 HB2 HA3 HB3
        clear b13 J10 V10
        obtain ⟨sl, hrl, hbl⟩ := J13.out.logIn
        have c1 : w13.cell? ⟨gl, 1, none⟩ = some (.int .i64 (k : Int)) := hrl.cell 1
        have c2 : w13.cell? ⟨gl, 2, none⟩ = some sl := hrl.cell 2
        have BL := Lib.hid hbl
        obtain ⟨SA, sc, rfl, _⟩ := id BL.out
        clear hrl hbl
        have LQ := Lib.hid (refLists_eq w13 _ _ _ _ V13.out BL.out)
        rw [beq_self_eq_true] at LQ
        go_wp2_with fail
        refine LQ.out.mono ?_
        intro e w14 h
        obtain ⟨he, b14⟩ := h
        subst he
        have B14 := Lib.hid (below_size J13.out.below b14)
        have HA2c := Lib.hid (HA2b.out.below b14)
        have HB2c := Lib.hid (HB2b.out.below b14)
        have HA3c := Lib.hid (HA3b.out.below b14)
        have HB3c := Lib.hid (HB3b.out.below b14)
        clear HA2b HB2b HA3b HB3b
        clear b14 c1 c2 LQ BL V13 J13
        go_wp2_with fail
        refine (same_yes _ _ _ xx HA2c.out HA3c.out).mono ?_
        intro e w15 h
        obtain ⟨he, b15⟩ := h
        subst he
        have B15 := Lib.hid (below_size B14.out b15)
        have HB2d := Lib.hid (HB2c.out.below b15)
        have HB3d := Lib.hid (HB3c.out.below b15)
        clear b15 B14
        go_wp2_with fail
        refine (same_yes _ _ _ yy HB2d.out HB3d.out).mono ?_
        intro e w16 h
        obtain ⟨he, b16⟩ := h
        subst he
        have B16 := Lib.hid (below_size B15.out b16)
        clear b16 B15
        go_wp2_with fail
        go_ret
        exact ⟨rfl, B16.out⟩
end Go.Proofs.YtckpnkohaaebdaaDoor
end
section
namespace Go.Proofs.YtckpnkohaaebdaaDoor.shaMeters
open Go.ChangeShapes Go.WideShapes Go.ChangeAt Go.RowKit
open Go.ChangeMaps (open_string shut_string)
set_option linter.unusedVariables false

theorem own : ownKnob Tryd.prog.godebug = none := by kernel_rfl
theorem laidOut : laidOutB Tryd.prog = true := by kernel_rfl

theorem laid_met (os : Os) : laidMet Tryd.prog Rows.shaMetersRow.laid ((laidWorld os).forCall (fun _ _ => 0) ⟨#[], #[.slice none 0 0, .bool false], []⟩).memory :=
  laidMet_of_run' 8 (by kernel_rfl) (by kernel_rfl)
theorem reads (os : Os) {H : Type} (enc : TypeId × Value → H) : ∃ places, DataW.whole enc Tryd.prog ((laidWorld os).forCall (fun _ _ => 0) ⟨#[], #[.slice none 0 0, .bool false], []⟩).memory Tryd.f5.params.toList Rows.shaMetersSpec.vars false #[.slice none 0 0, .bool false].toList 8 = some ([.nil, .lit (.bool false)], [], places) :=
  ⟨[], by kernel_rfl⟩

set_option maxRecDepth 100000 in
theorem contract (H : Type) (enc : TypeId × Value → H) (W : World) (base : Nat) (args : Array Value) (ds gs : List (DataW H)) (before : List MemPlace)
    (hval0 : ∀ (j : Nat) t v, Tryd.f5.params[j]? = some t → args[j]? = some v → Value.okWide Tryd.prog W .any base t v)
    (hW : DataW.Whole enc Tryd.prog Tryd.f5.params.toList Rows.shaMetersSpec.vars false W args.toList ds gs before) (hL : laidMetH Tryd.prog Rows.shaMetersRow.laid W) :
    Calls Tryd.prog 5 args W fun e W' => ∃ v, e = .returned v ∧ Rows.shaMetersSpec.post enc Tryd.prog Tryd.f5 false true false false W args v W' := by
  have hq := tables hL
  have hval : ∀ (j : Nat) t v, Tryd.f5.params[j]? = some t → args[j]? = some v → Value.okWide Tryd.prog W .any base t v := hval0
  have hW' := hW
  obtain ⟨p, q, hA0, hV, rfl, hfz, hnd⟩ := hW
  have hA : DataW.TrodAll enc Tryd.prog W 0 (fun _ => true) true Tryd.f5.params.toList args.toList ds p := hA0
  rw [Tryd.params5] at hA hval
  obtain ⟨v0, vs0, d0, ds0, p0, q0, hargs, rfl, rfl, h0, r0⟩ := trodAll_cons hA
  obtain ⟨v1, vs1, d1, ds1, p1, q1, rfl, rfl, rfl, h1, r1⟩ := trodAll_cons r0
  obtain ⟨rfl, rfl, rfl⟩ := trodAll_nil r1
  obtain rfl : args = #[v0, v1] := by cases args; simp_all
  obtain ⟨rfl, rfl⟩ := trodVars_none hV
  obtain ⟨a0, len0, cap0, rfl⟩ := okWide_slice Tryd.underlying38 (hval 0 38 v0 rfl rfl)
  have k0 := h0
  have lt0 : ∀ x ∈ p0, x.block < W.heap.size := by obtain ⟨m, hm⟩ := k0; exact DataW.trod_lt m _ _ _ hm
  obtain ⟨l0, w0⟩ : ∃ l, Bss W (.slice a0 len0 cap0) l := by
    obtain ⟨fuel, hf⟩ := h0
    obtain ⟨v, l, hcs, hk⟩ := open_bss Tryd.underlying38 Tryd.underlying27 Tryd.underlying5 (by kernel_rfl) (by kernel_rfl) hf
    simp [Value.cells] at hcs
    subst hcs
    exact ⟨l, hk⟩
  obtain ⟨a1, rfl, rfl, rfl⟩ := open_bool Tryd.underlying4 (hval 1 4 v1 rfl rfl) h1
  clear hA0 hval0
  refine (shaMeters_walk W hq _ l0 w0 a1).mono fun e W' ⟨he, bel⟩ => ?_
  subst he
  exact ⟨_, rfl, _, _, _, [], _, [], hW', trodAll_mk1 (shut_bool Tryd.underlying4 _), (trodAll_cons_mk (Below.trod laidOut (by kernel_rfl) (of_decide_eq_true (by kernel_rfl)) k0 bel lt0) (trodAll_cons_mk (shut_bool Tryd.underlying4 a1) trodAll_mk0)), rfl, bel.frame _, fun h => by cases h⟩

set_option maxRecDepth 100000 in
theorem lifted (os : Os) (started : os.Started) (H : Type) (enc : TypeId × Value → H) (F : Stop.Interp) :
    ReturnsInHanded {} Tryd.checked os 5 .any ((OpenSpec.ofChange Rows.shaMetersSpec).preRow enc Tryd.prog Tryd.f5 Rows.shaMetersRow.domain false Rows.shaMetersRow.laid) (((OpenSpec.ofChange Rows.shaMetersSpec).at F).post enc Tryd.prog Tryd.f5 false true false false) := by
  obtain ⟨places, hx⟩ := reads os enc
  refine returnsInHanded_of_row (C := Tryd.checked) (s := OpenSpec.ofChange Rows.shaMetersSpec) own started (by kernel_rfl) Tryd.func5
    (witness_row_at (enc := enc) (C := Tryd.checked) false (laidWorld os) #[.slice none 0 0, .bool false] rfl (by kernel_rfl) (by kernel_rfl) (by kernel_rfl)
      (OpenSpec.preRow_of_cond 8 hx (by kernel_rfl) (fun k hk => by cases hk) (by kernel_rfl) (laid_met os))) ?_
  intro W base args ds gs before hval hW _ _ _ hL _ _
  exact contract H enc W base args ds gs before hval hW hL

theorem said : Rows.ShaMetersSaid :=
  OpenClaim.holds_of_cond 5 Tryd.f5 rfl rfl rfl rfl rfl rfl rfl ⟨rfl, rfl, rfl, rfl, rfl⟩ rfl rfl rfl rfl rfl (by kernel_rfl) Tryd.func5 (by kernel_rfl)
    (of_decide_eq_true (by kernel_rfl)) (by unfold Func.isWrapper; first | (rw [if_pos (by decide +kernel)]; kernel_rfl) | (rw [if_neg (by decide +kernel)]; exact ⟨rfl, rfl⟩))
    (fun os started H enc _ F => by rw [OpenClaim.pre_eq_preRow]; exact lifted os started H enc F)

theorem noStand : (Tryd.f5.params.toList.all fun t => Tryd.prog.wantsStandIn t == false) = true := by kernel_rfl
theorem plain (f : FuncId) (fn : Func) (hf : Tryd.pinned.checked.prog.funcNamed "cablegram/cablegramlaw02.ShaMeters" = some f) (hfn : Tryd.pinned.checked.prog.funcs[f]? = some fn) :
    false = Tryd.pinned.checked.prog.looks [] ∧ ∀ (j : Nat) t, fn.params[j]? = some t → Tryd.pinned.checked.prog.wantsStandIn t = false := by
  obtain rfl : f = 5 := Option.some.inj ((show Tryd.prog.funcNamed "cablegram/cablegramlaw02.ShaMeters" = some 5 by kernel_rfl).symm.trans hf) |>.symm
  obtain rfl : fn = Tryd.f5 := (Option.some.inj (Tryd.func5.symm.trans hfn)).symm
  refine ⟨by kernel_rfl, fun j t ht => ?_⟩
  have hm : t ∈ Tryd.f5.params.toList := by simpa using Array.mem_of_getElem? ht
  exact beq_iff_eq.1 (List.all_eq_true.1 noStand t hm)

theorem proved : Rows.ShaMetersCardSaid :=
  Claim7.holds_tied_plain_at .later [] _ _ _ _ said (fun _ h => by cases h) (by kernel_rfl) (fun _ h => by cases h) shaMeters_row_tie rfl ⟨rfl, rfl⟩ (by kernel_rfl) rfl plain (by kernel_rfl)
#print axioms proved
end Go.Proofs.YtckpnkohaaebdaaDoor.shaMeters
end
