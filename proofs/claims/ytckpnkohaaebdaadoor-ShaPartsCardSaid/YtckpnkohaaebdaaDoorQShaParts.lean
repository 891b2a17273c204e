/-
  ShaParts: for every input the call returns true, and each argument reads as it read before. Conditions: none beyond the given statement's own (the package-level tables that its row lists hold what the program's text lays: the card ties that).
-/
import Derived.Test.YtckpnkohaaebdaaDoorQShpAE
import Derived.Test.YtckpnkohaaebdaaDoorQShpAF
import Derived.Test.YtckpnkohaaebdaaDoorQShpAB
import Derived.ProofKit
import Derived.OpenShut
import Derived.ShutString
import Derived.ChangeOld
import Derived.Deep.DeepHandedRow
section
namespace Go.Proofs.YtckpnkohaaebdaaDoor
open Go.RowKit
set_option linter.unusedVariables false
set_option maxRecDepth 20000

theorem loose_share2 {P : Program} {md : Region.Mode} {ops : Array Oper} {Q : Exit → Act → World → Prop} {fin : Nat → Bool} {SS : World → Prop} {w : World} {m : Nat} {listed : Array Bool} {a : Act} {A : Nat → Nat → Act} (Φ : Nat → Nat → World → Prop)
    (hgo : ∀ g k w', Φ g k w' → Q .normal (A g k) w') (h : (∀ g k w', Φ g k w' → Q .normal (A g k) w') → walkS P md ops Q SS fin m listed a w) : walkS P md ops Q SS fin m listed a w := h hgo
theorem parts3 (l : List UInt8) (p q : Nat) (h : p ≤ q) : [l.take p, (l.drop p).take (q - p), l.drop q].flatten = l := by
  simp only [List.flatten_cons, List.flatten_nil, List.append_nil]
  have : (l.drop p).take (q - p) ++ l.drop q = l.drop p := by
    have e : l.drop q = (l.drop p).drop (q - p) := by rw [List.drop_drop]; congr 1; omega
    rw [e, List.take_append_drop]
  rw [this, List.take_append_drop]
theorem parts2 (l : List UInt8) (q : Nat) : [l.take q, [], l.drop q].flatten = l := by simp
theorem al_same (l : List UInt8) {j i : Nat} (h : FirstAl [l, l, l] j i) : False := by
  have h1 := h.lt
  have h2 := h.len
  refine h.ne ?_
  have e : ∀ k, k < 3 → inX [l, l, l] k = l := by
    intro k hk
    match k, hk with
    | 0, _ => rfl
    | 1, _ => rfl
    | 2, _ => rfl
  simp at h2
  rw [e j (by omega), e i (by omega)]
theorem bss3 (w : World) (u0 u1 u2 : Value) (a b c : List UInt8) (h0 : Bs w u0 a) (h1 : Bs w u1 b) (h2 : Bs w u2 c) : Bss (w.alloc (.cells #[u0, u1, u2] 27)) (.slice (some ⟨w.heap.size, 0, none⟩) 3 3) [a, b, c] :=
  Bss.lit w 27 [u0, u1, u2] [a, b, c] rfl (by simp [maxLen]) (fun j h1' h2' => by
    match j, h1' with
    | 0, _ => exact h0
    | 1, _ => exact h1
    | 2, _ => exact h2)
set_option maxHeartbeats 4000000 in
theorem shaParts_walk (w : World) (hq : Tabs w) (v : Value) (l : List UInt8) (hb : Bs w v l) (i : Int) (hi : -9223372036854775808 ≤ i ∧ i ≤ 9223372036854775807) (j : Int) (hj : -9223372036854775808 ≤ j ∧ j ≤ 9223372036854775807) :
    Calls Tryd.prog 6 #[v, .int .i64 i, .int .i64 j] w (RetV w (.bool true)) := by
  have HQ := Lib.hid hq
  have HV := Lib.hid hb
  obtain ⟨A, c, rfl, h1, h2, h3⟩ := hb
  unfold maxLen at h2
  have hl1 : l.length ≤ 9223372036854775807 := by omega
  clear hq h3
  by_cases a0 : 500 < l.length
  · have d0 : decide (500 < (l.length : Int)) = true := by simp; omega
    clear h2 h1
    go_enter Tryd.func6, Tryd.ntmps6
    go_wp2_with fail
    refine (awake_true _ HQ.out).mono ?_
    intro e w1 h
    obtain ⟨he, b1⟩ := h
    subst he
    have B1 := Lib.hid b1
    clear b1
    go_wp2
    go_ret
    exact ⟨rfl, B1.out⟩
  have d0 : decide (500 < (l.length : Int)) = false := by simp; omega
  by_cases a1 : i < 0
  · have d1 : decide (i < 0) = true := by simp; omega
    clear h2 h1 a0
    go_enter Tryd.func6, Tryd.ntmps6
    go_wp2_with fail
    refine (awake_true _ HQ.out).mono ?_
    intro e w1 h
    obtain ⟨he, b1⟩ := h
    subst he
    have B1 := Lib.hid b1
    clear b1
    go_wp2
    go_ret
    exact ⟨rfl, B1.out⟩
  have d1 : decide (i < 0) = false := by simp; omega
  by_cases a2 : j < i
  · have d2 : decide (j < i) = true := by simp; omega
    clear h2 h1 a0 a1
    go_enter Tryd.func6, Tryd.ntmps6
    go_wp2_with fail
    refine (awake_true _ HQ.out).mono ?_
    intro e w1 h
    obtain ⟨he, b1⟩ := h
    subst he
    have B1 := Lib.hid b1
    clear b1
    go_wp2
    go_ret
    exact ⟨rfl, B1.out⟩
  have d2 : decide (j < i) = false := by simp; omega
  obtain ⟨p, rfl⟩ : ∃ p : Nat, i = p := ⟨i.toNat, by omega⟩
  obtain ⟨q, rfl⟩ : ∃ q : Nat, j = q := ⟨j.toNat, by omega⟩
  by_cases a3 : l.length < q
  · have d3 : decide (l.length < q) = true := by simp; omega
    have d4 : l.length < q := a3
    have d5 : ¬ q < p := by omega
    clear h2 h1 a0 a1 a2
    go_enter Tryd.func6, Tryd.ntmps6
    go_wp2_with fail
    refine (awake_true _ HQ.out).mono ?_
    intro e w1 h
    obtain ⟨he, b1⟩ := h
    subst he
    have B1 := Lib.hid b1
    clear b1
    go_wp2
    go_ret
    exact ⟨rfl, B1.out⟩
  have d3 : decide (l.length < q) = false := by simp; omega
  have d4 : ¬ l.length < q := a3
  have d5 : ¬ q < p := by omega
  have d6 : p ≤ q := by omega
  have d7 : q ≤ l.length := by omega
  have d8 : p ≤ c := by omega
  have d9 : q ≤ c := by omega
  have d10 : l.length ≤ 500 := by omega
  obtain ⟨d, hd⟩ : ∃ d, d = digestB l := ⟨_, rfl⟩
  have LD : Hid (d.length = 32) := by show _ = _; rw [hd, digestB_length]
  have F1 : Hid ([l].flatten = l) := by show _ = _; simp
  have F2 : Hid ([l.take p, (l.drop p).take (q - p), l.drop q].flatten = l) := parts3 l p q d6
  have F3 : Hid ([l.take q, [], l.drop q].flatten = l) := parts2 l q
  have HL5 := Lib.hid d10
  have CS : Hid (∀ W gm n v old ls, MeetK w gm n old W → n ≤ 5 → old.length ≤ 5 → ls.length ≤ 5 → Bss W v ls → ls.flatten = l → Calls Tryd.prog 21 #[.pointer (some ⟨gm, 0, none⟩), v] W fun e w' => e = .returned (.agg (keyC d)) ∧ MeetK w gm (n + 1) (old ++ [l]) w' ∧ LeftK W w' gm) := fun W gm n v old ls h1 h2 h3 h4 h5 h6 => by
    have := Sum_keep w W gm n v old ls h1 (by omega) (by omega) h5 (by rw [h6]; omega) (by omega)
    rwa [h6, ← hd] at this
  obtain ⟨X1, hX1⟩ : ∃ X1, X1 = (if c = p then A else Option.map (fun x => x.add p) A) := ⟨_, rfl⟩
  obtain ⟨X2, hX2⟩ : ∃ X2, X2 = (if c = q then A else Option.map (fun x => x.add q) A) := ⟨_, rfl⟩
  have EX1 := Lib.hid hX1
  have EX2 := Lib.hid hX2
  have SP : Hid (∀ W, Below w.heap.size w W → Bs W (.slice A p c) (l.take p) ∧ Bs W (.slice X1 (q - p) (c - p)) ((l.drop p).take (q - p)) ∧ Bs W (.slice X2 (l.length - q) (c - q)) (l.drop q) ∧ Bs W (.slice A q c) (l.take q)) := fun W hW => by
    have hv := HV.out.below hW
    rw [hX1, hX2]
    refine ⟨hv.upto p (by omega), ?_, hv.cut q d7, hv.upto q d7⟩
    have := (hv.cut p (by omega)).upto (q - p) (by rw [List.length_drop]; omega)
    exact this
  have LA : Hid (∀ W, Below w.heap.size w W → Bss (W.alloc (.cells #[.slice A p c, .slice X1 (q - p) (c - p), .slice X2 (l.length - q) (c - q)] 27)) (.slice (some ⟨W.heap.size, 0, none⟩) 3 3) [l.take p, (l.drop p).take (q - p), l.drop q]) := fun W hW => bss3 _ _ _ _ _ _ _ (SP.out _ hW).1 (SP.out _ hW).2.1 (SP.out _ hW).2.2.1
  have LB : Hid (∀ W, Below w.heap.size w W → Bss (W.alloc (.cells #[.slice A q c, .slice none 0 0, .slice X2 (l.length - q) (c - q)] 27)) (.slice (some ⟨W.heap.size, 0, none⟩) 3 3) [l.take q, [], l.drop q]) := fun W hW => bss3 _ _ _ _ _ _ _ (SP.out _ hW).2.2.2 (Bs.nil W) (SP.out _ hW).2.2.1
  clear hX1 hX2 hd h1 h2 a0 a1 a2 a3 hi hj
  go_enter Tryd.func6, Tryd.ntmps6
  go_wp2_with fail
  refine (awake_true _ HQ.out).mono ?_
  intro e w1 h
  obtain ⟨he, b1⟩ := h
  subst he
  have B1 := Lib.hid b1
  clear b1
  go_wp2_with fail
  refine (New_any _ true).mono ?_
  intro e w2 h
  obtain ⟨gm, he, n2⟩ := h
  subst he
  have K2 := Lib.hid (MeetK.new HQ.out B1.out n2)
  clear n2 B1
  go_wp2_with fail
  refine (CS.out _ gm 0 _ [] [l] (by exact K2.out.kept (alloc_below _ _)) (by omega) (by simp) (by simp) (by exact Bss.one _ _ _ _ (HV.out.below K2.out.below)) F1.out).mono ?_
  intro e w3 h
  obtain ⟨he, k3, _⟩ := h
  subst he
  have K3 := Lib.hid k3
  clear k3 K2
  go_wp2_with (first
    | ((with_reducible refine wpList_alloc_row (o := ⟨some 9, _, _, _, _, _⟩) rfl 33 rfl (keyC zeroKey) Tryd.zeroK ?_); intro g9 x4 n4; have N4 := Lib.hid n4; clear n4)
    | ((with_reducible refine wpList_store_row (o := ⟨none, _, _, _, _, _⟩) rfl 33 (.tmp 9) (.tmp 40) rfl g9 33 (keyC zeroKey) (keyC d) (by with_unfolding_all rfl) (by with_unfolding_all rfl) (by with_unfolding_all exact N4.out.row) (keyC_same zeroKey_length LD.out) (Tryd.sizeKey d LD.out) (keyC_one d) ?_); intro w5 p4; have b5 := (laid_put N4.out p4).1; have K5 := Lib.hid (K3.out.kept b5); have R9 := Lib.hid p4.row; have NE9 : Hid (g9 ≠ gm) := (by have := N4.out.spot; have h2 := K3.out.rows; obtain ⟨s, vs, hr, _⟩ := h2; have := hr.lt; show _ ≠ _; omega); clear b5 p4 K3 N4))
  have NEg9 := NE9
  have KD := Lib.hid (K5.out.kept (w' := w5.drew) ((Below.refl _ _).drew))
  have RDg9 : Hid (RowAt w5.drew g9 33 (keyC d)) := R9.out
  have GL : Hid (gm < w5.drew.heap.size) := by obtain ⟨s, vs, hr, _⟩ := KD.out.rows; exact hr.lt
  have HZ : Hid (w.heap.size ≤ w5.drew.heap.size) := KD.out.below.size
  refine plain_region (S := fun _ => True) (fin := fun _ => false) (by kernel_rfl) ?_
  apply loose_share2 (fun gb gk x => MeetK w gm 2 [l, l] x ∧ RowAt x g9 33 (keyC d) ∧ RowAt x gk 33 (keyC d) ∧ gk ≠ gm ∧ gk ≠ g9)
  case h =>
    intro HGO
    have HG := Lib.hid HGO
    clear HGO
    refine walkS_take (i := 0) (oi := ⟨some 41, _, _, _, _, _⟩) (v := .pointer (some ⟨gm, 0, none⟩)) rfl (by kernel_rfl) (by kernel_rfl) (fun _ _ _ h => h) _ _ _ _ (by kernel_rfl) (by kernel_rfl) (Or.inl ⟨by rfl, fun w' hS' => (by clear HG hS'; go_simp)⟩) trivial ?_
    try simp only [Act.put, List.setIfInBounds_toArray, List.set_cons_zero, List.set_cons_succ]
    refine walkS_take (i := 1) (oi := ⟨some 42, _, _, _, _, _⟩) (v := .slice A l.length c) rfl (by kernel_rfl) (by kernel_rfl) (fun _ _ _ h => h) _ _ _ _ (by kernel_rfl) (by kernel_rfl) (Or.inl ⟨by rfl, fun w' hS' => (by clear HG hS'; go_simp)⟩) trivial ?_
    try simp only [Act.put, List.setIfInBounds_toArray, List.set_cons_zero, List.set_cons_succ]
    refine walkS_take (i := 2) (oi := ⟨some 43, _, _, _, _, _⟩) (v := .int .i64 (p : Int)) rfl (by kernel_rfl) (by kernel_rfl) (fun _ _ _ h => h) _ _ _ _ (by kernel_rfl) (by kernel_rfl) (Or.inl ⟨by rfl, fun w' hS' => (by clear HG hS'; go_simp)⟩) trivial ?_
    try simp only [Act.put, List.setIfInBounds_toArray, List.set_cons_zero, List.set_cons_succ]
    refine walkS_take (i := 3) (oi := ⟨some 44, _, _, _, _, _⟩) (v := .slice A p c) rfl (by kernel_rfl) (by kernel_rfl) (fun _ _ _ h => h) _ _ _ _ (by kernel_rfl) (by kernel_rfl) (Or.inl ⟨by rfl, fun w' hS' => (by clear HG hS'; go_simp)⟩) trivial ?_
    try simp only [Act.put, List.setIfInBounds_toArray, List.set_cons_zero, List.set_cons_succ]
    refine walkS_take (i := 4) (oi := ⟨some 45, _, _, _, _, _⟩) (v := .slice A l.length c) rfl (by kernel_rfl) (by kernel_rfl) (fun _ _ _ h => h) _ _ _ _ (by kernel_rfl) (by kernel_rfl) (Or.inl ⟨by rfl, fun w' hS' => (by clear HG hS'; go_simp)⟩) trivial ?_
    try simp only [Act.put, List.setIfInBounds_toArray, List.set_cons_zero, List.set_cons_succ]
    refine walkS_take (i := 5) (oi := ⟨some 46, _, _, _, _, _⟩) (v := .int .i64 (p : Int)) rfl (by kernel_rfl) (by kernel_rfl) (fun _ _ _ h => h) _ _ _ _ (by kernel_rfl) (by kernel_rfl) (Or.inl ⟨by rfl, fun w' hS' => (by clear HG hS'; go_simp)⟩) trivial ?_
    try simp only [Act.put, List.setIfInBounds_toArray, List.set_cons_zero, List.set_cons_succ]
    refine walkS_take (i := 6) (oi := ⟨some 47, _, _, _, _, _⟩) (v := .int .i64 (q : Int)) rfl (by kernel_rfl) (by kernel_rfl) (fun _ _ _ h => h) _ _ _ _ (by kernel_rfl) (by kernel_rfl) (Or.inl ⟨by rfl, fun w' hS' => (by clear HG hS'; go_simp)⟩) trivial ?_
    try simp only [Act.put, List.setIfInBounds_toArray, List.set_cons_zero, List.set_cons_succ]
    refine walkS_take (i := 7) (oi := ⟨some 48, _, _, _, _, _⟩) (v := .slice X1 (q - p) (c - p)) rfl (by kernel_rfl) (by kernel_rfl) (fun _ _ _ h => h) _ _ _ _ (by kernel_rfl) (by kernel_rfl) (Or.inl ⟨by rfl, fun w' hS' => (by clear HG hS'; rw [EX1.out]; go_simp)⟩) trivial ?_
    try simp only [Act.put, List.setIfInBounds_toArray, List.set_cons_zero, List.set_cons_succ]
    refine walkS_take (i := 8) (oi := ⟨some 49, _, _, _, _, _⟩) (v := .slice A l.length c) rfl (by kernel_rfl) (by kernel_rfl) (fun _ _ _ h => h) _ _ _ _ (by kernel_rfl) (by kernel_rfl) (Or.inl ⟨by rfl, fun w' hS' => (by clear HG hS'; go_simp)⟩) trivial ?_
    try simp only [Act.put, List.setIfInBounds_toArray, List.set_cons_zero, List.set_cons_succ]
    refine walkS_take (i := 9) (oi := ⟨some 50, _, _, _, _, _⟩) (v := .int .i64 (q : Int)) rfl (by kernel_rfl) (by kernel_rfl) (fun _ _ _ h => h) _ _ _ _ (by kernel_rfl) (by kernel_rfl) (Or.inl ⟨by rfl, fun w' hS' => (by clear HG hS'; go_simp)⟩) trivial ?_
    try simp only [Act.put, List.setIfInBounds_toArray, List.set_cons_zero, List.set_cons_succ]
    refine walkS_take (i := 10) (oi := ⟨some 51, _, _, _, _, _⟩) (v := .slice X2 (l.length - q) (c - q)) rfl (by kernel_rfl) (by kernel_rfl) (fun _ _ _ h => h) _ _ _ _ (by kernel_rfl) (by kernel_rfl) (Or.inl ⟨by rfl, fun w' hS' => (by clear HG hS'; rw [EX2.out]; go_simp)⟩) trivial ?_
    try simp only [Act.put, List.setIfInBounds_toArray, List.set_cons_zero, List.set_cons_succ]
    refine walkS_two (i := 11) (j := 13) (oi := ⟨some 52, _, _, _, _, _⟩) (oj := ⟨some 10, _, _, _, _, _⟩) (by kernel_rfl) rfl rfl rfl rfl (fun KK hKK => ?_) (fun KK hKK => ?_)
    · go_simp
      obtain ⟨gb, hgb⟩ : ∃ gb, gb = w5.heap.size := ⟨_, rfl⟩
      rw [← hgb]
      have HGB := Lib.hid hgb
      clear hgb
      refine hKK _ _ (.inr trivial) ?_
      clear hKK KK
      try simp only [Act.put, List.setIfInBounds_toArray, List.set_cons_zero, List.set_cons_succ]
      refine walkS_two (i := 12) (j := 13) (oi := ⟨some 53, _, _, _, _, _⟩) (oj := ⟨some 10, _, _, _, _, _⟩) (by kernel_rfl) rfl rfl rfl rfl (fun KK hKK => ?_) (fun KK hKK => ?_)
      · go_simp
        refine (CS.out _ gm 1 _ [l] [l.take p, (l.drop p).take (q - p), l.drop q] (by exact KD.out.kept (alloc_below _ _)) (by omega) (by simp) (by simp) (by exact (by have h0 := HGB.out; subst h0; exact LA.out w5.drew (KD.out.below))) F2.out).mono ?_
        intro e xc h
        obtain ⟨he, kc, lc⟩ := h
        subst he
        refine hKK _ _ (.inr trivial) ?_
        clear hKK KK
        try simp only [Act.put, List.setIfInBounds_toArray, List.set_cons_zero, List.set_cons_succ]
        refine walkS_only (i := 13) (o := ⟨some 10, _, _, _, _, _⟩) (by kernel_rfl) rfl rfl fun KK hKK => ?_
        refine wp_alloc_row 33 rfl (keyC zeroKey) Tryd.zeroK fun gk xa na => ?_
        refine hKK _ _ (.inr trivial) ?_
        clear hKK KK
        try simp only [Act.put, List.setIfInBounds_toArray, List.set_cons_zero, List.set_cons_succ]
        have hgm : gk ≠ gm := by have := GL.out; have := na.spot; have := lc.size; have := size_alloc; simp at *; omega
        have hgw : w.heap.size ≤ gk := by have := HZ.out; have := na.spot; have := lc.size; have := size_alloc; simp at *; omega
        have hgrg9 : gk ≠ g9 := by have := RDg9.out.lt; have := GL.out; have := na.spot; have := lc.size; have := size_alloc; simp at *; omega
        have rkk : RowAt xa gk 33 (keyC zeroKey) := na.row
        refine walkS_only (i := 14) (o := ⟨none, _, _, _, _, _⟩) (by kernel_rfl) rfl rfl fun KK hKK => ?_
        refine wp_store_row 33 (.tmp 10) (.tmp 53) (by with_unfolding_all rfl) gk 33 (keyC zeroKey) (keyC d) (by with_unfolding_all rfl) (by with_unfolding_all rfl) rkk (keyC_same zeroKey_length LD.out) (Tryd.sizeKey d LD.out) (keyC_one d) fun xs ps => ?_
        refine hKK _ _ (.inr trivial) (walkS_done (by kernel_rfl) ?_ _)
        exact HG.out gb gk xs ⟨MeetK.put (kc.kept na.below) rkk ps hgm hgw (by decide) (by decide), ((lc.row _ _ _ NEg9.out (by decide) (RDg9.out.kept (alloc_below _ _))).kept na.below).grown ps.grown (by intro e; injection e with e; exact hgrg9 e.symm), ps.row, hgm, hgrg9⟩
      · refine wp_alloc_row 33 rfl (keyC zeroKey) Tryd.zeroK fun gk xa na => ?_
        refine hKK _ _ (.inr trivial) ?_
        clear hKK KK
        try simp only [Act.put, List.setIfInBounds_toArray, List.set_cons_zero, List.set_cons_succ]
        refine walkS_only (i := 12) (o := ⟨some 53, _, _, _, _, _⟩) (by kernel_rfl) rfl rfl fun KK hKK => ?_
        go_simp
        refine (CS.out _ gm 1 _ [l] [l.take p, (l.drop p).take (q - p), l.drop q] (by exact (KD.out.kept (alloc_below _ _)).kept na.below) (by omega) (by simp) (by simp) (by exact (by have h0 := HGB.out; subst h0; exact (LA.out w5.drew (KD.out.below)).keep na.below)) F2.out).mono ?_
        intro e xc h
        obtain ⟨he, kc, lc⟩ := h
        subst he
        refine hKK _ _ (.inr trivial) ?_
        clear hKK KK
        try simp only [Act.put, List.setIfInBounds_toArray, List.set_cons_zero, List.set_cons_succ]
        have hgm : gk ≠ gm := by have := GL.out; have := na.spot; simp at *; omega
        have hgw : w.heap.size ≤ gk := by have := HZ.out; have := na.spot; simp at *; omega
        have hgrg9 : gk ≠ g9 := by have := RDg9.out.lt; have := GL.out; have := na.spot; simp at *; omega
        have rkk : RowAt xc gk 33 (keyC zeroKey) := lc.row _ _ _ hgm (by decide) na.row
        refine walkS_only (i := 14) (o := ⟨none, _, _, _, _, _⟩) (by kernel_rfl) rfl rfl fun KK hKK => ?_
        refine wp_store_row 33 (.tmp 10) (.tmp 53) (by with_unfolding_all rfl) gk 33 (keyC zeroKey) (keyC d) (by with_unfolding_all rfl) (by with_unfolding_all rfl) rkk (keyC_same zeroKey_length LD.out) (Tryd.sizeKey d LD.out) (keyC_one d) fun xs ps => ?_
        refine hKK _ _ (.inr trivial) (walkS_done (by kernel_rfl) ?_ _)
        exact HG.out gb gk xs ⟨MeetK.put (kc) rkk ps hgm hgw (by decide) (by decide), (lc.row _ _ _ NEg9.out (by decide) ((RDg9.out.kept (alloc_below _ _)).kept na.below)).grown ps.grown (by intro e; injection e with e; exact hgrg9 e.symm), ps.row, hgm, hgrg9⟩
    · refine wp_alloc_row 33 rfl (keyC zeroKey) Tryd.zeroK fun gk xa na => ?_
      refine hKK _ _ (.inr trivial) ?_
      clear hKK KK
      try simp only [Act.put, List.setIfInBounds_toArray, List.set_cons_zero, List.set_cons_succ]
      refine walkS_only (i := 11) (o := ⟨some 52, _, _, _, _, _⟩) (by kernel_rfl) rfl rfl fun KK hKK => ?_
      go_simp
      refine hKK _ _ (.inr trivial) ?_
      clear hKK KK
      try simp only [Act.put, List.setIfInBounds_toArray, List.set_cons_zero, List.set_cons_succ]
      refine walkS_only (i := 12) (o := ⟨some 53, _, _, _, _, _⟩) (by kernel_rfl) rfl rfl fun KK hKK => ?_
      go_simp
      refine (CS.out _ gm 1 _ [l] [l.take p, (l.drop p).take (q - p), l.drop q] (by exact (KD.out.kept na.below).kept (alloc_below _ _)) (by omega) (by simp) (by simp) (by exact LA.out xa (below_size KD.out.below na.below)) F2.out).mono ?_
      intro e xc h
      obtain ⟨he, kc, lc⟩ := h
      subst he
      refine hKK _ _ (.inr trivial) ?_
      clear hKK KK
      try simp only [Act.put, List.setIfInBounds_toArray, List.set_cons_zero, List.set_cons_succ]
      have hgm : gk ≠ gm := by have := GL.out; have := na.spot; omega
      have hgw : w.heap.size ≤ gk := by have := HZ.out; have := na.spot; omega
      have hgrg9 : gk ≠ g9 := by have := RDg9.out.lt; have := GL.out; have := na.spot; omega
      have rkk : RowAt xc gk 33 (keyC zeroKey) := lc.row _ _ _ hgm (by decide) (na.row.kept (alloc_below _ _))
      refine walkS_only (i := 14) (o := ⟨none, _, _, _, _, _⟩) (by kernel_rfl) rfl rfl fun KK hKK => ?_
      refine wp_store_row 33 (.tmp 10) (.tmp 53) (by with_unfolding_all rfl) gk 33 (keyC zeroKey) (keyC d) (by with_unfolding_all rfl) (by with_unfolding_all rfl) rkk (keyC_same zeroKey_length LD.out) (Tryd.sizeKey d LD.out) (keyC_one d) fun xs ps => ?_
      refine hKK _ _ (.inr trivial) (walkS_done (by kernel_rfl) ?_ _)
      exact HG.out _ gk xs ⟨MeetK.put (kc) rkk ps hgm hgw (by decide) (by decide), (lc.row _ _ _ NEg9.out (by decide) ((RDg9.out.kept na.below).kept (alloc_below _ _))).grown ps.grown (by intro e; injection e with e; exact hgrg9 e.symm), ps.row, hgm, hgrg9⟩
  intro gb6 g10 w6 hΦ
  obtain ⟨k6, r69, r6a, nm, n9⟩ := hΦ
  have K6 := Lib.hid k6
  have R69 := Lib.hid r69
  have R6a := Lib.hid r6a
  have NEg10 : Hid (g10 ≠ gm) := nm
  clear k6 r69 r6a nm n9 K5 R9 KD RDg9 GL HZ
  go_wp2_with fail
  have KD := Lib.hid (K6.out.kept (w' := w6.drew) ((Below.refl _ _).drew))
  have RDg9 : Hid (RowAt w6.drew g9 33 (keyC d)) := R69.out
  have RDg10 : Hid (RowAt w6.drew g10 33 (keyC d)) := R6a.out
  have GL : Hid (gm < w6.drew.heap.size) := by obtain ⟨s, vs, hr, _⟩ := KD.out.rows; exact hr.lt
  have HZ : Hid (w.heap.size ≤ w6.drew.heap.size) := KD.out.below.size
  refine plain_region (S := fun _ => True) (fin := fun _ => false) (by kernel_rfl) ?_
  apply loose_share2 (fun gb gk x => MeetK w gm 3 [l, l, l] x ∧ RowAt x g9 33 (keyC d) ∧ RowAt x g10 33 (keyC d) ∧ RowAt x gk 33 (keyC d) ∧ gk ≠ gm ∧ gk ≠ g9 ∧ gk ≠ g10)
  case h =>
    intro HGO
    have HG := Lib.hid HGO
    clear HGO
    refine walkS_take (i := 0) (oi := ⟨some 54, _, _, _, _, _⟩) (v := .pointer (some ⟨gm, 0, none⟩)) rfl (by kernel_rfl) (by kernel_rfl) (fun _ _ _ h => h) _ _ _ _ (by kernel_rfl) (by kernel_rfl) (Or.inl ⟨by rfl, fun w' hS' => (by clear HG hS'; go_simp)⟩) trivial ?_
    try simp only [Act.put, List.setIfInBounds_toArray, List.set_cons_zero, List.set_cons_succ]
    refine walkS_take (i := 1) (oi := ⟨some 55, _, _, _, _, _⟩) (v := .slice A l.length c) rfl (by kernel_rfl) (by kernel_rfl) (fun _ _ _ h => h) _ _ _ _ (by kernel_rfl) (by kernel_rfl) (Or.inl ⟨by rfl, fun w' hS' => (by clear HG hS'; go_simp)⟩) trivial ?_
    try simp only [Act.put, List.setIfInBounds_toArray, List.set_cons_zero, List.set_cons_succ]
    refine walkS_take (i := 2) (oi := ⟨some 56, _, _, _, _, _⟩) (v := .int .i64 (q : Int)) rfl (by kernel_rfl) (by kernel_rfl) (fun _ _ _ h => h) _ _ _ _ (by kernel_rfl) (by kernel_rfl) (Or.inl ⟨by rfl, fun w' hS' => (by clear HG hS'; go_simp)⟩) trivial ?_
    try simp only [Act.put, List.setIfInBounds_toArray, List.set_cons_zero, List.set_cons_succ]
    refine walkS_take (i := 3) (oi := ⟨some 57, _, _, _, _, _⟩) (v := .slice A q c) rfl (by kernel_rfl) (by kernel_rfl) (fun _ _ _ h => h) _ _ _ _ (by kernel_rfl) (by kernel_rfl) (Or.inl ⟨by rfl, fun w' hS' => (by clear HG hS'; go_simp)⟩) trivial ?_
    try simp only [Act.put, List.setIfInBounds_toArray, List.set_cons_zero, List.set_cons_succ]
    refine walkS_take (i := 4) (oi := ⟨some 58, _, _, _, _, _⟩) (v := .slice A l.length c) rfl (by kernel_rfl) (by kernel_rfl) (fun _ _ _ h => h) _ _ _ _ (by kernel_rfl) (by kernel_rfl) (Or.inl ⟨by rfl, fun w' hS' => (by clear HG hS'; go_simp)⟩) trivial ?_
    try simp only [Act.put, List.setIfInBounds_toArray, List.set_cons_zero, List.set_cons_succ]
    refine walkS_take (i := 5) (oi := ⟨some 59, _, _, _, _, _⟩) (v := .int .i64 (q : Int)) rfl (by kernel_rfl) (by kernel_rfl) (fun _ _ _ h => h) _ _ _ _ (by kernel_rfl) (by kernel_rfl) (Or.inl ⟨by rfl, fun w' hS' => (by clear HG hS'; go_simp)⟩) trivial ?_
    try simp only [Act.put, List.setIfInBounds_toArray, List.set_cons_zero, List.set_cons_succ]
    refine walkS_take (i := 6) (oi := ⟨some 60, _, _, _, _, _⟩) (v := .slice X2 (l.length - q) (c - q)) rfl (by kernel_rfl) (by kernel_rfl) (fun _ _ _ h => h) _ _ _ _ (by kernel_rfl) (by kernel_rfl) (Or.inl ⟨by rfl, fun w' hS' => (by clear HG hS'; rw [EX2.out]; go_simp)⟩) trivial ?_
    try simp only [Act.put, List.setIfInBounds_toArray, List.set_cons_zero, List.set_cons_succ]
    refine walkS_two (i := 7) (j := 9) (oi := ⟨some 61, _, _, _, _, _⟩) (oj := ⟨some 11, _, _, _, _, _⟩) (by kernel_rfl) rfl rfl rfl rfl (fun KK hKK => ?_) (fun KK hKK => ?_)
    · go_simp
      obtain ⟨gb, hgb⟩ : ∃ gb, gb = w6.heap.size := ⟨_, rfl⟩
      rw [← hgb]
      have HGB := Lib.hid hgb
      clear hgb
      refine hKK _ _ (.inr trivial) ?_
      clear hKK KK
      try simp only [Act.put, List.setIfInBounds_toArray, List.set_cons_zero, List.set_cons_succ]
      refine walkS_two (i := 8) (j := 9) (oi := ⟨some 62, _, _, _, _, _⟩) (oj := ⟨some 11, _, _, _, _, _⟩) (by kernel_rfl) rfl rfl rfl rfl (fun KK hKK => ?_) (fun KK hKK => ?_)
      · go_simp
        refine (CS.out _ gm 2 _ [l, l] [l.take q, [], l.drop q] (by exact KD.out.kept (alloc_below _ _)) (by omega) (by simp) (by simp) (by exact (by have h0 := HGB.out; subst h0; exact LB.out w6.drew (KD.out.below))) F3.out).mono ?_
        intro e xc h
        obtain ⟨he, kc, lc⟩ := h
        subst he
        refine hKK _ _ (.inr trivial) ?_
        clear hKK KK
        try simp only [Act.put, List.setIfInBounds_toArray, List.set_cons_zero, List.set_cons_succ]
        refine walkS_only (i := 9) (o := ⟨some 11, _, _, _, _, _⟩) (by kernel_rfl) rfl rfl fun KK hKK => ?_
        refine wp_alloc_row 33 rfl (keyC zeroKey) Tryd.zeroK fun gk xa na => ?_
        refine hKK _ _ (.inr trivial) ?_
        clear hKK KK
        try simp only [Act.put, List.setIfInBounds_toArray, List.set_cons_zero, List.set_cons_succ]
        have hgm : gk ≠ gm := by have := GL.out; have := na.spot; have := lc.size; have := size_alloc; simp at *; omega
        have hgw : w.heap.size ≤ gk := by have := HZ.out; have := na.spot; have := lc.size; have := size_alloc; simp at *; omega
        have hgrg9 : gk ≠ g9 := by have := RDg9.out.lt; have := GL.out; have := na.spot; have := lc.size; have := size_alloc; simp at *; omega
        have hgrg10 : gk ≠ g10 := by have := RDg10.out.lt; have := GL.out; have := na.spot; have := lc.size; have := size_alloc; simp at *; omega
        have rkk : RowAt xa gk 33 (keyC zeroKey) := na.row
        refine walkS_only (i := 10) (o := ⟨none, _, _, _, _, _⟩) (by kernel_rfl) rfl rfl fun KK hKK => ?_
        refine wp_store_row 33 (.tmp 11) (.tmp 62) (by with_unfolding_all rfl) gk 33 (keyC zeroKey) (keyC d) (by with_unfolding_all rfl) (by with_unfolding_all rfl) rkk (keyC_same zeroKey_length LD.out) (Tryd.sizeKey d LD.out) (keyC_one d) fun xs ps => ?_
        refine hKK _ _ (.inr trivial) (walkS_done (by kernel_rfl) ?_ _)
        exact HG.out gb gk xs ⟨MeetK.put (kc.kept na.below) rkk ps hgm hgw (by decide) (by decide), ((lc.row _ _ _ NEg9.out (by decide) (RDg9.out.kept (alloc_below _ _))).kept na.below).grown ps.grown (by intro e; injection e with e; exact hgrg9 e.symm), ((lc.row _ _ _ NEg10.out (by decide) (RDg10.out.kept (alloc_below _ _))).kept na.below).grown ps.grown (by intro e; injection e with e; exact hgrg10 e.symm), ps.row, hgm, hgrg9, hgrg10⟩
      · refine wp_alloc_row 33 rfl (keyC zeroKey) Tryd.zeroK fun gk xa na => ?_
        refine hKK _ _ (.inr trivial) ?_
        clear hKK KK
        try simp only [Act.put, List.setIfInBounds_toArray, List.set_cons_zero, List.set_cons_succ]
        refine walkS_only (i := 8) (o := ⟨some 62, _, _, _, _, _⟩) (by kernel_rfl) rfl rfl fun KK hKK => ?_
        go_simp
        refine (CS.out _ gm 2 _ [l, l] [l.take q, [], l.drop q] (by exact (KD.out.kept (alloc_below _ _)).kept na.below) (by omega) (by simp) (by simp) (by exact (by have h0 := HGB.out; subst h0; exact (LB.out w6.drew (KD.out.below)).keep na.below)) F3.out).mono ?_
        intro e xc h
        obtain ⟨he, kc, lc⟩ := h
        subst he
        refine hKK _ _ (.inr trivial) ?_
        clear hKK KK
        try simp only [Act.put, List.setIfInBounds_toArray, List.set_cons_zero, List.set_cons_succ]
        have hgm : gk ≠ gm := by have := GL.out; have := na.spot; simp at *; omega
        have hgw : w.heap.size ≤ gk := by have := HZ.out; have := na.spot; simp at *; omega
        have hgrg9 : gk ≠ g9 := by have := RDg9.out.lt; have := GL.out; have := na.spot; simp at *; omega
        have hgrg10 : gk ≠ g10 := by have := RDg10.out.lt; have := GL.out; have := na.spot; simp at *; omega
        have rkk : RowAt xc gk 33 (keyC zeroKey) := lc.row _ _ _ hgm (by decide) na.row
        refine walkS_only (i := 10) (o := ⟨none, _, _, _, _, _⟩) (by kernel_rfl) rfl rfl fun KK hKK => ?_
        refine wp_store_row 33 (.tmp 11) (.tmp 62) (by with_unfolding_all rfl) gk 33 (keyC zeroKey) (keyC d) (by with_unfolding_all rfl) (by with_unfolding_all rfl) rkk (keyC_same zeroKey_length LD.out) (Tryd.sizeKey d LD.out) (keyC_one d) fun xs ps => ?_
        refine hKK _ _ (.inr trivial) (walkS_done (by kernel_rfl) ?_ _)
        exact HG.out gb gk xs ⟨MeetK.put (kc) rkk ps hgm hgw (by decide) (by decide), (lc.row _ _ _ NEg9.out (by decide) ((RDg9.out.kept (alloc_below _ _)).kept na.below)).grown ps.grown (by intro e; injection e with e; exact hgrg9 e.symm), (lc.row _ _ _ NEg10.out (by decide) ((RDg10.out.kept (alloc_below _ _)).kept na.below)).grown ps.grown (by intro e; injection e with e; exact hgrg10 e.symm), ps.row, hgm, hgrg9, hgrg10⟩
    · refine wp_alloc_row 33 rfl (keyC zeroKey) Tryd.zeroK fun gk xa na => ?_
      refine hKK _ _ (.inr trivial) ?_
      clear hKK KK
      try simp only [Act.put, List.setIfInBounds_toArray, List.set_cons_zero, List.set_cons_succ]
      refine walkS_only (i := 7) (o := ⟨some 61, _, _, _, _, _⟩) (by kernel_rfl) rfl rfl fun KK hKK => ?_
      go_simp
      refine hKK _ _ (.inr trivial) ?_
      clear hKK KK
      try simp only [Act.put, List.setIfInBounds_toArray, List.set_cons_zero, List.set_cons_succ]
      refine walkS_only (i := 8) (o := ⟨some 62, _, _, _, _, _⟩) (by kernel_rfl) rfl rfl fun KK hKK => ?_
      go_simp
      refine (CS.out _ gm 2 _ [l, l] [l.take q, [], l.drop q] (by exact (KD.out.kept na.below).kept (alloc_below _ _)) (by omega) (by simp) (by simp) (by exact LB.out xa (below_size KD.out.below na.below)) F3.out).mono ?_
      intro e xc h
      obtain ⟨he, kc, lc⟩ := h
      subst he
      refine hKK _ _ (.inr trivial) ?_
      clear hKK KK
      try simp only [Act.put, List.setIfInBounds_toArray, List.set_cons_zero, List.set_cons_succ]
      have hgm : gk ≠ gm := by have := GL.out; have := na.spot; omega
      have hgw : w.heap.size ≤ gk := by have := HZ.out; have := na.spot; omega
      have hgrg9 : gk ≠ g9 := by have := RDg9.out.lt; have := GL.out; have := na.spot; omega
      have hgrg10 : gk ≠ g10 := by have := RDg10.out.lt; have := GL.out; have := na.spot; omega
      have rkk : RowAt xc gk 33 (keyC zeroKey) := lc.row _ _ _ hgm (by decide) (na.row.kept (alloc_below _ _))
      refine walkS_only (i := 10) (o := ⟨none, _, _, _, _, _⟩) (by kernel_rfl) rfl rfl fun KK hKK => ?_
      refine wp_store_row 33 (.tmp 11) (.tmp 62) (by with_unfolding_all rfl) gk 33 (keyC zeroKey) (keyC d) (by with_unfolding_all rfl) (by with_unfolding_all rfl) rkk (keyC_same zeroKey_length LD.out) (Tryd.sizeKey d LD.out) (keyC_one d) fun xs ps => ?_
      refine hKK _ _ (.inr trivial) (walkS_done (by kernel_rfl) ?_ _)
      exact HG.out _ gk xs ⟨MeetK.put (kc) rkk ps hgm hgw (by decide) (by decide), (lc.row _ _ _ NEg9.out (by decide) ((RDg9.out.kept na.below).kept (alloc_below _ _))).grown ps.grown (by intro e; injection e with e; exact hgrg9 e.symm), (lc.row _ _ _ NEg10.out (by decide) ((RDg10.out.kept na.below).kept (alloc_below _ _))).grown ps.grown (by intro e; injection e with e; exact hgrg10 e.symm), ps.row, hgm, hgrg9, hgrg10⟩
  intro gb7 g11 w7 hΦ
  obtain ⟨k7, r79, r7a, r7b, _, _, _⟩ := hΦ
  have K7 := Lib.hid k7
  have R79 := Lib.hid r79
  have R7a := Lib.hid r7a
  have R7b := Lib.hid r7b
  clear k7 r79 r7a r7b K6 R69 R6a KD RDg9 RDg10 GL HZ
  go_wp2_with fail
  refine (Alike_keep _ w7 gm 3 [l, l, l] K7.out (by simp) (by have := HL5.out; intro x hx; simp at hx; subst hx; omega)).mono ?_
  intro e w8 h
  obtain ⟨hal, b8⟩ := h
  rcases hal with ⟨_, he⟩ | ⟨jx, ix, _, _, hf, _, _, _⟩
  case inr => exact absurd hf (fun hf => al_same l hf)
  subst he
  have K8 := Lib.hid (K7.out.kept b8)
  have R89 := Lib.hid (R79.out.kept b8)
  have R8a := Lib.hid (R7a.out.kept b8)
  have R8b := Lib.hid (R7b.out.kept b8)
  clear b8 K7 R79 R7a R7b
  obtain ⟨sv, vsv, rv, _⟩ := K8.out.rows
  have RV := Lib.hid rv
  clear rv
  go_wp2_with fail
  refine (Count_row w8 gm 3 _ RV.out (by rfl)).mono ?_
  intro e w9 h
  obtain ⟨he, hw9⟩ := h
  subst he hw9
  have heq := fun w => Tryd.eqKeyIn2 d d LD.out LD.out w
  rw [beq_self_eq_true] at heq
  have hgd := Tryd.eqGuardKey2
  go_wp2_with (first
    | (with_reducible refine wpListG_load_row (o := ⟨some 73, _, _, _, _, _⟩) 33 (.tmp 9) rfl (by with_unfolding_all rfl) g9 (by with_unfolding_all rfl) 33 (keyC d) (.array 32 5) (by with_unfolding_all exact R89.out) Tryd.underlying33 rfl (Tryd.sizeKey d LD.out) ?_)
    | (with_reducible refine wpListG_load_row (o := ⟨some 74, _, _, _, _, _⟩) 33 (.tmp 10) rfl (by with_unfolding_all rfl) g10 (by with_unfolding_all rfl) 33 (keyC d) (.array 32 5) (by with_unfolding_all exact R8a.out) Tryd.underlying33 rfl (Tryd.sizeKey d LD.out) ?_)
    | (with_reducible refine wpListG_load_row (o := ⟨some 78, _, _, _, _, _⟩) 33 (.tmp 9) rfl (by with_unfolding_all rfl) g9 (by with_unfolding_all rfl) 33 (keyC d) (.array 32 5) (by with_unfolding_all exact R89.out) Tryd.underlying33 rfl (Tryd.sizeKey d LD.out) ?_)
    | (with_reducible refine wpListG_load_row (o := ⟨some 79, _, _, _, _, _⟩) 33 (.tmp 11) rfl (by with_unfolding_all rfl) g11 (by with_unfolding_all rfl) 33 (keyC d) (.array 32 5) (by with_unfolding_all exact R8b.out) Tryd.underlying33 rfl (Tryd.sizeKey d LD.out) ?_))
  go_ret
  exact ⟨rfl, K8.out.below⟩
end Go.Proofs.YtckpnkohaaebdaaDoor
end
section
namespace Go.Proofs.YtckpnkohaaebdaaDoor.shaParts
open Go.ChangeShapes Go.WideShapes Go.ChangeAt Go.RowKit
open Go.ChangeMaps (open_string shut_string)
set_option linter.unusedVariables false

theorem own : ownKnob Tryd.prog.godebug = none := by kernel_rfl
theorem laidOut : laidOutB Tryd.prog = true := by kernel_rfl

theorem laid_met (os : Os) : laidMet Tryd.prog Rows.shaPartsRow.laid ((laidWorld os).forCall (fun _ _ => 0) ⟨#[], #[.slice none 0 0, .int .i64 0, .int .i64 0], []⟩).memory :=
  laidMet_of_run' 8 (by kernel_rfl) (by kernel_rfl)
theorem reads (os : Os) {H : Type} (enc : TypeId × Value → H) : ∃ places, DataW.whole enc Tryd.prog ((laidWorld os).forCall (fun _ _ => 0) ⟨#[], #[.slice none 0 0, .int .i64 0, .int .i64 0], []⟩).memory Tryd.f6.params.toList Rows.shaPartsSpec.vars false #[.slice none 0 0, .int .i64 0, .int .i64 0].toList 8 = some ([.nil, .lit (.int .i64 0), .lit (.int .i64 0)], [], places) :=
  ⟨[], by kernel_rfl⟩

set_option maxRecDepth 100000 in
theorem contract (H : Type) (enc : TypeId × Value → H) (W : World) (base : Nat) (args : Array Value) (ds gs : List (DataW H)) (before : List MemPlace)
    (hval0 : ∀ (j : Nat) t v, Tryd.f6.params[j]? = some t → args[j]? = some v → Value.okWide Tryd.prog W .any base t v)
    (hW : DataW.Whole enc Tryd.prog Tryd.f6.params.toList Rows.shaPartsSpec.vars false W args.toList ds gs before) (hL : laidMetH Tryd.prog Rows.shaPartsRow.laid W) :
    Calls Tryd.prog 6 args W fun e W' => ∃ v, e = .returned v ∧ Rows.shaPartsSpec.post enc Tryd.prog Tryd.f6 false true false false W args v W' := by
  have hq := tables hL
  have hval : ∀ (j : Nat) t v, Tryd.f6.params[j]? = some t → args[j]? = some v → Value.okWide Tryd.prog W .any base t v := hval0
  have hW' := hW
  obtain ⟨p, q, hA0, hV, rfl, hfz, hnd⟩ := hW
  have hA : DataW.TrodAll enc Tryd.prog W 0 (fun _ => true) true Tryd.f6.params.toList args.toList ds p := hA0
  rw [Tryd.params6] at hA hval
  obtain ⟨v0, vs0, d0, ds0, p0, q0, hargs, rfl, rfl, h0, r0⟩ := trodAll_cons hA
  obtain ⟨v1, vs1, d1, ds1, p1, q1, rfl, rfl, rfl, h1, r1⟩ := trodAll_cons r0
  obtain ⟨v2, vs2, d2, ds2, p2, q2, rfl, rfl, rfl, h2, r2⟩ := trodAll_cons r1
  obtain ⟨rfl, rfl, rfl⟩ := trodAll_nil r2
  obtain rfl : args = #[v0, v1, v2] := by cases args; simp_all
  obtain ⟨rfl, rfl⟩ := trodVars_none hV
  obtain ⟨a0, len0, cap0, rfl⟩ := okWide_slice Tryd.underlying27 (hval 0 27 v0 rfl rfl)
  have k0 := h0
  have lt0 : ∀ x ∈ p0, x.block < W.heap.size := by obtain ⟨m, hm⟩ := k0; exact DataW.trod_lt m _ _ _ hm
  obtain ⟨l0, w0⟩ : ∃ l, Bs W (.slice a0 len0 cap0) l := by
    obtain ⟨fuel, hf⟩ := h0
    rcases open_ints Tryd.underlying27 Tryd.underlying5 (by kernel_rfl) hf with ⟨hcs, _⟩ | ⟨x, l, c, zs, hcs, _, hl, hm, hz, _, hcell, hwz⟩
    · simp [Value.cells] at hcs
      obtain ⟨rfl, rfl, rfl⟩ := hcs
      exact ⟨[], Bs.nil W⟩
    · simp [Value.cells] at hcs
      obtain ⟨rfl, rfl, rfl⟩ := hcs
      exact bs_of_ints hl hm (by simpa using hz) hcell hwz
  obtain ⟨a1, rfl, rfl, rfl, w1⟩ := open_int Tryd.underlying3 (hval 1 3 v1 rfl rfl) h1
  obtain ⟨a2, rfl, rfl, rfl, w2⟩ := open_int Tryd.underlying3 (hval 2 3 v2 rfl rfl) h2
  clear hA0 hval0
  refine (shaParts_walk W hq _ l0 w0 a1 (i64_of_wf w1) a2 (i64_of_wf w2)).mono fun e W' ⟨he, bel⟩ => ?_
  subst he
  exact ⟨_, rfl, _, _, _, [], _, [], hW', trodAll_mk1 (shut_bool Tryd.underlying4 _), (trodAll_cons_mk (Below.trod laidOut (by kernel_rfl) (of_decide_eq_true (by kernel_rfl)) k0 bel lt0) (trodAll_cons_mk (shut_int Tryd.underlying3 w1) (trodAll_cons_mk (shut_int Tryd.underlying3 w2) trodAll_mk0))), rfl, bel.frame _, fun h => by cases h⟩

set_option maxRecDepth 100000 in
theorem lifted (os : Os) (started : os.Started) (H : Type) (enc : TypeId × Value → H) (F : Stop.Interp) :
    ReturnsInHanded {} Tryd.checked os 6 .any ((OpenSpec.ofChange Rows.shaPartsSpec).preRow enc Tryd.prog Tryd.f6 Rows.shaPartsRow.domain false Rows.shaPartsRow.laid) (((OpenSpec.ofChange Rows.shaPartsSpec).at F).post enc Tryd.prog Tryd.f6 false true false false) := by
  obtain ⟨places, hx⟩ := reads os enc
  refine returnsInHanded_of_row (C := Tryd.checked) (s := OpenSpec.ofChange Rows.shaPartsSpec) own started (by kernel_rfl) Tryd.func6
    (witness_row_at (enc := enc) (C := Tryd.checked) false (laidWorld os) #[.slice none 0 0, .int .i64 0, .int .i64 0] rfl (by kernel_rfl) (by kernel_rfl) (by kernel_rfl)
      (OpenSpec.preRow_of_cond 8 hx (by kernel_rfl) (fun k hk => by cases hk) (by kernel_rfl) (laid_met os))) ?_
  intro W base args ds gs before hval hW _ _ _ hL _ _
  exact contract H enc W base args ds gs before hval hW hL

theorem said : Rows.ShaPartsSaid :=
  OpenClaim.holds_of_cond 6 Tryd.f6 rfl rfl rfl rfl rfl rfl rfl ⟨rfl, rfl, rfl, rfl, rfl⟩ rfl rfl rfl rfl rfl (by kernel_rfl) Tryd.func6 (by kernel_rfl)
    (of_decide_eq_true (by kernel_rfl)) (by unfold Func.isWrapper; first | (rw [if_pos (by decide +kernel)]; kernel_rfl) | (rw [if_neg (by decide +kernel)]; exact ⟨rfl, rfl⟩))
    (fun os started H enc _ F => by rw [OpenClaim.pre_eq_preRow]; exact lifted os started H enc F)

theorem noStand : (Tryd.f6.params.toList.all fun t => Tryd.prog.wantsStandIn t == false) = true := by kernel_rfl
theorem plain (f : FuncId) (fn : Func) (hf : Tryd.pinned.checked.prog.funcNamed "cablegram/cablegramlaw02.ShaParts" = some f) (hfn : Tryd.pinned.checked.prog.funcs[f]? = some fn) :
    false = Tryd.pinned.checked.prog.looks [] ∧ ∀ (j : Nat) t, fn.params[j]? = some t → Tryd.pinned.checked.prog.wantsStandIn t = false := by
  obtain rfl : f = 6 := Option.some.inj ((show Tryd.prog.funcNamed "cablegram/cablegramlaw02.ShaParts" = some 6 by kernel_rfl).symm.trans hf) |>.symm
  obtain rfl : fn = Tryd.f6 := (Option.some.inj (Tryd.func6.symm.trans hfn)).symm
  refine ⟨by kernel_rfl, fun j t ht => ?_⟩
  have hm : t ∈ Tryd.f6.params.toList := by simpa using Array.mem_of_getElem? ht
  exact beq_iff_eq.1 (List.all_eq_true.1 noStand t hm)

theorem proved : Rows.ShaPartsCardSaid :=
  Claim7.holds_tied_plain_at .later [] _ _ _ _ said (fun _ h => by cases h) (by kernel_rfl) (fun _ h => by cases h) shaParts_row_tie rfl ⟨rfl, rfl⟩ (by kernel_rfl) rfl plain (by kernel_rfl)
#print axioms proved
end Go.Proofs.YtckpnkohaaebdaaDoor.shaParts
end
