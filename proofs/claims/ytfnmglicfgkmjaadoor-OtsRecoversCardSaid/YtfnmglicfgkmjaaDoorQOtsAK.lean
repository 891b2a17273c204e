/-
  Texts that belong together, merged: OtsE, OtsF, Once. Conditions: as each theorem names them.
-/
import Derived.Test.YtfnmglicfgkmjaaDoorQOtsAJ
import Derived.Test.YtfnmglicfgkmjaaDoorChecked
import Derived.Tactics
import Derived.Tactics2
import Derived.Defers
import Derived.Laws.Pointers
import Derived.Laws.LoneSync
import Derived.RegionTactic
import Derived.RegionCalls
import Derived.ChangeAlike
import Derived.Test.YtfnmglicfgkmjaaDoorQOtsAA
section
namespace Go.Proofs.YtfnmglicfgkmjaaDoor
open Go.RowKit
set_option linter.unusedVariables false
set_option maxRecDepth 20000

theorem wpList_build_signer {w : World} {ops : Array Oper} {rest : List Oper} {o : Oper} {a : Act} {Q : Exit → Act → World → Prop} (hgd : o.guard = none) (x y z : Operand) (ho : o.op = .build 79 #[(0, x), (1, y), (2, z)]) (g : Nat) (s t : List UInt8) (hx : a.eval x = .pointer (some ⟨g, 0, none⟩)) (hy : a.eval y = .agg (keyC s)) (hz : a.eval z = .agg (keyC t)) (hs : s.length = 32) (ht : t.length = 32)
    (h : wpList Tryd.prog ops Q rest (a.put o.dst (.agg (sgC g s t 0 0 zeroKey))) w) : wpList Tryd.prog ops Q (o :: rest) a w := by
  refine wpList_plain hgd fun _ hK => ?_
  unfold Oper.wp execOp
  simp [ho, hx, hy, hz, build_signer w g s t hs ht]
  exact hK _ _ h
set_option maxHeartbeats 2000000 in
theorem signer_env (w0 W : World) (rs : List (Nat × TypeId × Array Value)) (g : Nat) (s t : List UInt8) (hs : s.length = 32) (ht : t.length = 32) (hE : Env w0 rs W) :
    Calls Tryd.prog 14 #[.pointer (some ⟨g, 0, none⟩), .agg (keyC s), .agg (keyC t)] W fun e x => ∃ b, e = .returned (.pointer (some ⟨b, 0, none⟩)) ∧ Env w0 ((b, 79, sgC g s t 0 0 zeroKey) :: rs) x := by
  have Ls := Lib.hid hs
  have Lt := Lib.hid ht
  have E0 := Lib.hid hE
  clear hs ht hE
  go_enter Tryd.func14, Tryd.ntmps14
  go_wp2_with (first
    | ((with_reducible refine wpE_box (o := ⟨some 4, _, _, _, _, _⟩) rfl 23 (.tmp 1) rfl (keyC s) (by with_unfolding_all rfl) E0.out ?_); intro g1 w1 T1; have E1 := Lib.hid T1; clear T1)
    | ((with_reducible refine wpE_box (o := ⟨some 5, _, _, _, _, _⟩) rfl 23 (.tmp 2) rfl (keyC t) (by with_unfolding_all rfl) E1.out ?_); intro g2 w2 T2; have E2 := Lib.hid T2; clear T2)
    | (with_reducible refine wpE_load (o := ⟨some 8, _, _, _, _, _⟩) rfl 23 (.tmp 4) rfl 1 g1 23 (keyC s) _ (by with_unfolding_all rfl) (by with_unfolding_all rfl) Tryd.underlying23 rfl (Tryd.sizeKey _ Ls.out) E2.out ?_)
    | (with_reducible refine wpE_load (o := ⟨some 9, _, _, _, _, _⟩) rfl 23 (.tmp 5) rfl 0 g2 23 (keyC t) _ (by with_unfolding_all rfl) (by with_unfolding_all rfl) Tryd.underlying23 rfl (Tryd.sizeKey _ Lt.out) E2.out ?_)
    | (with_reducible refine wpList_build_signer (o := ⟨some 10, _, _, _, _, _⟩) rfl (.tmp 7) (.tmp 8) (.tmp 9) rfl g s t (by with_unfolding_all rfl) (by with_unfolding_all rfl) (by with_unfolding_all rfl) Ls.out Lt.out ?_)
    | ((with_reducible refine wpE_box (o := ⟨some 11, _, _, _, _, _⟩) rfl 79 (.tmp 10) rfl (sgC g s t 0 0 zeroKey) (by with_unfolding_all rfl) E2.out ?_); intro b w3 T3; have E3 := Lib.hid T3; clear T3))
  go_ret
  exact ⟨b, rfl, E3.out.less (List.Sublist.cons_cons _ ((List.sublist_cons_self _ _).trans (List.sublist_cons_self _ _)))⟩
theorem derive_env (w0 w : World) (ht : Tabs w0) (rs : List (Nat × TypeId × Array Value)) (m g n : Nat) (hE : Env w0 rs w) (hm : rs[m]? = some (g, 66, mC n)) (hn : n ≤ 900000) (s : List UInt8) (hs : s.length = 32) (z : Int) (A : Option Addr) (c : Nat) (hb : Bss w (.slice A 1 c) [numB z]) :
    Calls Tryd.prog 42 #[.pointer (some ⟨g, 0, none⟩), .agg (keyC s), .string ⟨#[99, 104, 97, 105, 110]⟩, .slice A 1 c] w fun e w' => ∃ n', n' ≤ n + 3 ∧ e = .returned (.agg (keyC (beginB s z))) ∧ Env w0 (rs.set m (g, 66, mC n')) w' :=
  (macDerive_any w0 w g n (hE.toRun ht hm) (by omega) s hs ⟨#[99, 104, 97, 105, 110]⟩ (by decide) A c [numB z] hb (by simp) (by simp [numB_length])).mono fun _ _ ⟨n', h1, h2, h3⟩ => ⟨n', h1, h2, hE.ofRun hm h3⟩
theorem Bss.lit1 (w : World) (u : Value) (a : List UInt8) (h : Bs w u a) : Bss (w.alloc (.cells #[u] 68)) (.slice (some ⟨w.heap.size, 0, none⟩) 1 1) [a] := by
  have hb := alloc_below w (.cells #[u] 68)
  refine ⟨_, _, rfl, Nat.le_refl _, by unfold maxLen; simp, fun _ => ⟨w.heap.size, 0, rfl, fun j hj => ?_⟩⟩
  have hr := (RowAt.new w 68 #[u]).cell
  match j, hj with
  | 0, _ => exact ⟨u, by rw [Nat.zero_add, hr]; rfl, h.below hb⟩
/-- Three things that come about, one continuation. -/
theorem share3 {P : Program} {md : Region.Mode} {ops : Array Oper} {Q : Exit → Act → World → Prop} {fin : Nat → Bool} {SS : World → Prop} {w : World} {m m' : Nat} {listed L' : Array Bool} {a : Act} {A : Value → Value → Nat → Act} (Φ : Value → Value → Nat → World → Prop)
    (hgo : ∀ u v g x, Φ u v g x → walkS P md ops Q SS fin m' L' (A u v g) x) (h : (∀ u v g x, Φ u v g x → walkS P md ops Q SS fin m' L' (A u v g) x) → walkS P md ops Q SS fin m listed a w) : walkS P md ops Q SS fin m listed a w := h hgo

set_option maxHeartbeats 8000000 in
theorem reached_env (w0 w : World) (ht : Tabs w0) (rs : List (Nat × TypeId × Array Value)) (m g n i b : Nat) (hE : Env w0 rs w) (hm : rs[m]? = some (g, 66, mC n)) (hn : n ≤ 800000) (s t q : List UInt8) (d e0 : Int) (hs : s.length = 32) (htl : t.length = 32)
    (hi : rs[i]? = some (b, 79, sgC g s t d e0 q)) (c k : Nat) (hc : c ≤ 1000) (hk : k ≤ 1000) :
    Calls Tryd.prog 30 #[.pointer (some ⟨b, 0, none⟩), .int .i64 (c : Int), .int .i64 (k : Int)] w fun e w' => ∃ n', n' ≤ n + 3 + k ∧ e = .returned (.agg (keyC (alongB t (c : Int) 0 (beginB s (c : Int)) k))) ∧ Env w0 (rs.set m (g, 66, mC n')) w' := by
  have HT := Lib.hid ht
  have HM := Lib.hid hm
  have HI := Lib.hid hi
  have E0 := Lib.hid hE
  have LS := Lib.hid hs
  have LT := Lib.hid htl
  have hmi : m ≠ i := fun e => by
    rw [← e, hm] at hi
    injection hi with hi
    injection hi with _ hi
    injection hi with hi
    exact absurd hi (by decide)
  obtain ⟨v0, hv0⟩ : ∃ v, v = beginB s (c : Int) := ⟨_, rfl⟩
  have LV : Hid (v0.length = 32) := by show _ = _; rw [hv0]; exact beginB_length _ _
  obtain ⟨v1, hv1⟩ : ∃ v, v = alongB t (c : Int) 0 v0 k := ⟨_, rfl⟩
  have LV1 : Hid (v1.length = 32) := by show _ = _; rw [hv1]; exact alongB_length _ _ _ _ LV.out _
  obtain ⟨nb, hnb⟩ : ∃ z, z = numB (c : Int) := ⟨_, rfl⟩
  have CN : Hid (∀ w, Calls Tryd.prog 24 #[.int .i64 (c : Int)] w (RetBs w nb)) := fun w => by rw [hnb]; exact number_any w c (by omega)
  have LN : Hid (nb.length = 1 + 1) := by show _ = _; rw [hnb]; exact numB_length _
  have CD : Hid (∀ x rs' m' A cc, Env w0 rs' x → rs'[m']? = some (g, 66, mC n) → Bss x (.slice A 1 cc) [nb] → Calls Tryd.prog 42 #[.pointer (some ⟨g, 0, none⟩), .agg (keyC s), .string ⟨#[99, 104, 97, 105, 110]⟩, .slice A 1 cc] x fun e w' => ∃ n', n' ≤ n + 3 ∧ e = .returned (.agg (keyC v0)) ∧ Env w0 (rs'.set m' (g, 66, mC n')) w') := fun x rs' m' A cc h1 h2 h3 => by
    rw [hv0]
    rw [hnb] at h3
    exact derive_env w0 x HT.out rs' m' g n h1 h2 (by omega) s LS.out c A cc h3
  have CA : Hid (∀ x rs' m' n', Env w0 rs' x → rs'[m']? = some (g, 66, mC n') → n' ≤ 900000 → Calls Tryd.prog 12 #[.pointer (some ⟨g, 0, none⟩), .agg (keyC t), .int .i64 (c : Int), .int .i64 0, .int .i64 (k : Int), .agg (keyC v0)] x fun e w' => e = .returned (.agg (keyC v1)) ∧ Env w0 (rs'.set m' (g, 66, mC (n' + k))) w') := fun x rs' m' n' h1 h2 h3 => by
    rw [hv1]
    exact along_env w0 x HT.out rs' m' g n' h1 h2 t v0 LT.out LV.out c 0 k (by omega) (by omega) (by omega) k (by omega) hk (by omega)
  rw [← hv0, ← hv1]
  clear ht hm hi hE hs htl hv0 hv1 hnb
  go_enter Tryd.func30, Tryd.ntmps30
  go_wp2_with ((with_reducible refine wpE_alloc (o := ⟨some 6, _, _, _, _, _⟩) rfl 23 rfl (keyC zeroKey) Tryd.zeroK E0.out ?_); intro g6 w1 T1; have E1 := Lib.hid T1; clear T1)
  clear E0
  refine plain_region (S := fun x => Env w0 [(b, 79, sgC g s t d e0 q)] x) (fin := fun _ => false) (by kernel_rfl) ?_
  have sub : ∀ (l : List (Nat × TypeId × Array Value)) x, (∃ j, l[j]? = some (b, 79, sgC g s t d e0 q)) → Env w0 l x → Env w0 [(b, 79, sgC g s t d e0 q)] x := fun l x ⟨j, hj⟩ h => h.less (List.singleton_sublist.2 (List.mem_of_getElem? hj))
  have SUB := Lib.hid sub
  clear sub
  have hS : Env w0 [(b, 79, sgC g s t d e0 q)] w1.drew := SUB.out _ _ ⟨i + 1, HI.out⟩ E1.out.drew
  change walkS _ _ _ _ _ _ 14 _ _ _
  refine walkS_take (i := 0) (oi := ⟨some 8, _, _, _, _, _⟩) (v := .pointer (some ⟨b, 0, none⟩)) rfl (by kernel_rfl) (by kernel_rfl) (fun _ _ _ h => h) _ _ _ _ (by kernel_rfl) (by kernel_rfl) (Or.inl ⟨by rfl, fun w' hS' => (by clear hS hS'; go_simp)⟩) hS ?_
  try simp only [Act.put, List.setIfInBounds_toArray, List.set_cons_zero, List.set_cons_succ]
  refine walkS_take (i := 1) (oi := ⟨some 9, _, _, _, _, _⟩) (v := .pointer (some ⟨b, 0, none⟩)) rfl (by kernel_rfl) (by kernel_rfl) (fun _ _ _ h => h) _ _ _ _ (by kernel_rfl) (by kernel_rfl) (Or.inl ⟨by rfl, fun w' hS' => (by clear hS hS'; go_simp)⟩) hS ?_
  try simp only [Act.put, List.setIfInBounds_toArray, List.set_cons_zero, List.set_cons_succ]
  refine walkS_take (i := 2) (oi := ⟨some 10, _, _, _, _, _⟩) (v := .pointer (some ⟨b, 0, none⟩)) rfl (by kernel_rfl) (by kernel_rfl) (fun _ _ _ h => h) _ _ _ _ (by kernel_rfl) (by kernel_rfl) (Or.inl ⟨by rfl, fun w' hS' => (by clear hS hS'; go_simp)⟩) hS ?_
  try simp only [Act.put, List.setIfInBounds_toArray, List.set_cons_zero, List.set_cons_succ]
  refine walkS_take (i := 3) (oi := ⟨some 11, _, _, _, _, _⟩) (v := .pointer (some ⟨g, 0, none⟩)) rfl (by kernel_rfl) (by kernel_rfl) (fun _ _ _ h => h) _ _ _ _ (by kernel_rfl) (by kernel_rfl) (Or.inl ⟨by rfl, fun w' hS' => (by have c := hS'.cellV 0 rfl 0 _ (sgC_0 g s t q d e0); clear hS hS'; go_simp)⟩) hS ?_
  try simp only [Act.put, List.setIfInBounds_toArray, List.set_cons_zero, List.set_cons_succ]
  refine walkS_take (i := 4) (oi := ⟨some 12, _, _, _, _, _⟩) (v := .pointer (some ⟨b, 0, none⟩)) rfl (by kernel_rfl) (by kernel_rfl) (fun _ _ _ h => h) _ _ _ _ (by kernel_rfl) (by kernel_rfl) (Or.inl ⟨by rfl, fun w' hS' => (by clear hS hS'; go_simp)⟩) hS ?_
  try simp only [Act.put, List.setIfInBounds_toArray, List.set_cons_zero, List.set_cons_succ]
  refine walkS_take (i := 5) (oi := ⟨some 13, _, _, _, _, _⟩) (v := .pointer (some ⟨b, 0, none⟩)) rfl (by kernel_rfl) (by kernel_rfl) (fun _ _ _ h => h) _ _ _ _ (by kernel_rfl) (by kernel_rfl) (Or.inl ⟨by rfl, fun w' hS' => (by clear hS hS'; go_simp)⟩) hS ?_
  try simp only [Act.put, List.setIfInBounds_toArray, List.set_cons_zero, List.set_cons_succ]
  refine walkS_take (i := 6) (oi := ⟨some 14, _, _, _, _, _⟩) (v := .pointer (some ⟨b, 1, none⟩)) rfl (by kernel_rfl) (by kernel_rfl) (fun _ _ _ h => h) _ _ _ _ (by kernel_rfl) (by kernel_rfl) (Or.inl ⟨by rfl, fun w' hS' => (by clear hS hS'; go_simp)⟩) hS ?_
  try simp only [Act.put, List.setIfInBounds_toArray, List.set_cons_zero, List.set_cons_succ]
  refine walkS_take (i := 7) (oi := ⟨some 15, _, _, _, _, _⟩) (v := .agg (keyC s)) rfl (by kernel_rfl) (by kernel_rfl) (fun _ _ _ h => h) _ _ _ _ (by kernel_rfl) (by kernel_rfl) (Or.inl ⟨by rfl, fun w' hS' => (run_partK 23 (.tmp 14) rfl b 1 rfl 79 _ s _ (hS'.row 0 rfl) (sgC_seed g s t q d e0 LS.out) Tryd.underlying23 rfl (Tryd.sizeKeyM s LS.out))⟩) hS ?_
  try simp only [Act.put, List.setIfInBounds_toArray, List.set_cons_zero, List.set_cons_succ]
  refine walkS_take (i := 8) (oi := ⟨some 16, _, _, _, _, _⟩) (v := .int .i64 (c : Int)) rfl (by kernel_rfl) (by kernel_rfl) (fun _ _ _ h => h) _ _ _ _ (by kernel_rfl) (by kernel_rfl) (Or.inl ⟨by rfl, fun w' hS' => (by clear hS hS'; go_simp)⟩) hS ?_
  try simp only [Act.put, List.setIfInBounds_toArray, List.set_cons_zero, List.set_cons_succ]
  clear hS
  apply share3 (A := fun u v g7 => ⟨#[.pointer (some ⟨b, 0, none⟩), .int .i64 (c : Int), .int .i64 (k : Int), undef, undef, undef, .pointer (some ⟨g6, 0, none⟩), .pointer (some ⟨g7, 0, none⟩), .pointer (some ⟨b, 0, none⟩), .pointer (some ⟨b, 0, none⟩), .pointer (some ⟨b, 0, none⟩), .pointer (some ⟨g, 0, none⟩), .pointer (some ⟨b, 0, none⟩), .pointer (some ⟨b, 0, none⟩), .pointer (some ⟨b, 1, none⟩), .agg (keyC s), .int .i64 (c : Int), u, v, .agg (keyC v0), undef, undef, undef, undef, undef, undef, undef, undef, undef, undef, undef, undef], []⟩) (L' := #[true, true, true, true, true, true, true, true, true, true, true, true, true, false]) (m' := 1) (fun u v g7 x => ∃ n', n' ≤ n + 3 ∧ Env w0 ((g7, 23, keyC zeroKey) :: (g6, 23, keyC zeroKey) :: rs.set m (g, 66, mC n')) x)
  case h =>
    intro HGO0
    have HGO := Lib.hid HGO0
    clear HGO0
    refine walkS_two (i := 9) (j := 12) (oi := ⟨some 17, _, _, _, _, _⟩) (oj := ⟨some 7, _, _, _, _, _⟩) (by kernel_rfl) rfl rfl rfl rfl (fun KK hKK => ?_) (fun KK hKK => ?_)
    · go_simp
      refine (CN.out _).mono ?_
      intro e w4 h
      obtain ⟨u2, he, hu2, b3⟩ := h
      subst he
      have E1 := Lib.hid (E1.out.drew.call b3)
      have Hu2 := Lib.hid hu2
      obtain ⟨Au2, cu2, rfl, _, _, _⟩ := hu2
      refine hKK _ _ (.inr (SUB.out _ _ ⟨i + 1, HI.out⟩ E1.out)) ?_
      clear hKK KK
      try simp only [Act.put, List.setIfInBounds_toArray, List.set_cons_zero, List.set_cons_succ]
      refine walkS_two (i := 10) (j := 12) (oi := ⟨some 18, _, _, _, _, _⟩) (oj := ⟨some 7, _, _, _, _, _⟩) (by kernel_rfl) rfl rfl rfl rfl (fun KK hKK => ?_) (fun KK hKK => ?_)
      · go_simp
        have V6 := Lib.hid (Bss.lit1 _ _ nb Hu2.out)
        have E5 := Lib.hid (E1.out.call (alloc_below _ (.cells #[.slice Au2 nb.length cu2] 68)))
        refine hKK _ _ (.inr (SUB.out _ _ ⟨i + 1, HI.out⟩ E5.out)) ?_
        clear hKK KK
        try simp only [Act.put, List.setIfInBounds_toArray, List.set_cons_zero, List.set_cons_succ]
        refine walkS_two (i := 11) (j := 12) (oi := ⟨some 19, _, _, _, _, _⟩) (oj := ⟨some 7, _, _, _, _, _⟩) (by kernel_rfl) rfl rfl rfl rfl (fun KK hKK => ?_) (fun KK hKK => ?_)
        · go_simp
          refine (CD.out _ _ (m + 1) _ _ E5.out HM.out V6.out).mono ?_
          intro e w9 h
          obtain ⟨n8, hn8, he, tE7⟩ := h
          subst he
          simp only [List.set_cons_succ] at tE7
          have E7 := Lib.hid tE7
          clear tE7
          refine hKK _ _ (.inr (SUB.out _ _ ⟨i + 1, by simp only [List.getElem?_cons_succ]; rw [List.getElem?_set, if_neg hmi]; exact HI.out⟩ E7.out)) ?_
          clear hKK KK
          try simp only [Act.put, List.setIfInBounds_toArray, List.set_cons_zero, List.set_cons_succ]
          refine walkS_only (i := 12) (o := ⟨some 7, _, _, _, _, _⟩) (by kernel_rfl) rfl rfl fun KK hKK => ?_
          refine wp_alloc_row 23 rfl (keyC zeroKey) Tryd.zeroK fun g11 w12 ng11 => ?_
          have E10 := Lib.hid (E7.out.new ng11)
          refine hKK _ _ (.inr (SUB.out _ _ ⟨i + 2, by simp only [List.getElem?_cons_succ]; rw [List.getElem?_set, if_neg hmi]; exact HI.out⟩ E10.out)) ?_
          clear hKK KK
          try simp only [Act.put, List.setIfInBounds_toArray, List.set_cons_zero, List.set_cons_succ]
          exact walkS_listed (by kernel_rfl) (HGO.out _ _ _ _ ⟨_, hn8, E10.out⟩)
        · refine wp_alloc_row 23 rfl (keyC zeroKey) Tryd.zeroK fun g14 w15 ng14 => ?_
          have E13 := Lib.hid (E5.out.new ng14)
          have YE13 := Lib.hid (V6.out.keep ng14.below)
          refine hKK _ _ (.inr (SUB.out _ _ ⟨i + 2, HI.out⟩ E13.out)) ?_
          clear hKK KK
          try simp only [Act.put, List.setIfInBounds_toArray, List.set_cons_zero, List.set_cons_succ]
          refine walkS_only (i := 11) (o := ⟨some 19, _, _, _, _, _⟩) (by kernel_rfl) rfl rfl fun KK hKK => ?_
          go_simp
          refine (CD.out _ _ (m + 2) _ _ E13.out HM.out YE13.out).mono ?_
          intro e w18 h
          obtain ⟨n17, hn17, he, tE16⟩ := h
          subst he
          simp only [List.set_cons_succ] at tE16
          have E16 := Lib.hid tE16
          clear tE16
          refine hKK _ _ (.inr (SUB.out _ _ ⟨i + 2, by simp only [List.getElem?_cons_succ]; rw [List.getElem?_set, if_neg hmi]; exact HI.out⟩ E16.out)) ?_
          clear hKK KK
          try simp only [Act.put, List.setIfInBounds_toArray, List.set_cons_zero, List.set_cons_succ]
          exact walkS_listed (by kernel_rfl) (HGO.out _ _ _ _ ⟨_, hn17, E16.out⟩)
      · refine wp_alloc_row 23 rfl (keyC zeroKey) Tryd.zeroK fun g20 w21 ng20 => ?_
        have E19 := Lib.hid (E1.out.new ng20)
        have XE19 := Lib.hid (Hu2.out.below ng20.below)
        refine hKK _ _ (.inr (SUB.out _ _ ⟨i + 2, HI.out⟩ E19.out)) ?_
        clear hKK KK
        try simp only [Act.put, List.setIfInBounds_toArray, List.set_cons_zero, List.set_cons_succ]
        refine walkS_only (i := 10) (o := ⟨some 18, _, _, _, _, _⟩) (by kernel_rfl) rfl rfl fun KK hKK => ?_
        go_simp
        have V23 := Lib.hid (Bss.lit1 _ _ nb XE19.out)
        have E22 := Lib.hid (E19.out.call (alloc_below _ (.cells #[.slice Au2 nb.length cu2] 68)))
        refine hKK _ _ (.inr (SUB.out _ _ ⟨i + 2, HI.out⟩ E22.out)) ?_
        clear hKK KK
        try simp only [Act.put, List.setIfInBounds_toArray, List.set_cons_zero, List.set_cons_succ]
        refine walkS_only (i := 11) (o := ⟨some 19, _, _, _, _, _⟩) (by kernel_rfl) rfl rfl fun KK hKK => ?_
        go_simp
        refine (CD.out _ _ (m + 2) _ _ E22.out HM.out V23.out).mono ?_
        intro e w26 h
        obtain ⟨n25, hn25, he, tE24⟩ := h
        subst he
        simp only [List.set_cons_succ] at tE24
        have E24 := Lib.hid tE24
        clear tE24
        refine hKK _ _ (.inr (SUB.out _ _ ⟨i + 2, by simp only [List.getElem?_cons_succ]; rw [List.getElem?_set, if_neg hmi]; exact HI.out⟩ E24.out)) ?_
        clear hKK KK
        try simp only [Act.put, List.setIfInBounds_toArray, List.set_cons_zero, List.set_cons_succ]
        exact walkS_listed (by kernel_rfl) (HGO.out _ _ _ _ ⟨_, hn25, E24.out⟩)
    · refine wp_alloc_row 23 rfl (keyC zeroKey) Tryd.zeroK fun g28 w29 ng28 => ?_
      have E27 := Lib.hid (E1.out.drew.new ng28)
      refine hKK _ _ (.inr (SUB.out _ _ ⟨i + 2, HI.out⟩ E27.out)) ?_
      clear hKK KK
      try simp only [Act.put, List.setIfInBounds_toArray, List.set_cons_zero, List.set_cons_succ]
      refine walkS_only (i := 9) (o := ⟨some 17, _, _, _, _, _⟩) (by kernel_rfl) rfl rfl fun KK hKK => ?_
      go_simp
      refine (CN.out _).mono ?_
      intro e w33 h
      obtain ⟨u31, he, hu31, b32⟩ := h
      subst he
      have E30 := Lib.hid (E27.out.call b32)
      have Hu31 := Lib.hid hu31
      obtain ⟨Au31, cu31, rfl, _, _, _⟩ := hu31
      refine hKK _ _ (.inr (SUB.out _ _ ⟨i + 2, HI.out⟩ E30.out)) ?_
      clear hKK KK
      try simp only [Act.put, List.setIfInBounds_toArray, List.set_cons_zero, List.set_cons_succ]
      refine walkS_only (i := 10) (o := ⟨some 18, _, _, _, _, _⟩) (by kernel_rfl) rfl rfl fun KK hKK => ?_
      go_simp
      have V35 := Lib.hid (Bss.lit1 _ _ nb Hu31.out)
      have E34 := Lib.hid (E30.out.call (alloc_below _ (.cells #[.slice Au31 nb.length cu31] 68)))
      refine hKK _ _ (.inr (SUB.out _ _ ⟨i + 2, HI.out⟩ E34.out)) ?_
      clear hKK KK
      try simp only [Act.put, List.setIfInBounds_toArray, List.set_cons_zero, List.set_cons_succ]
      refine walkS_only (i := 11) (o := ⟨some 19, _, _, _, _, _⟩) (by kernel_rfl) rfl rfl fun KK hKK => ?_
      go_simp
      refine (CD.out _ _ (m + 2) _ _ E34.out HM.out V35.out).mono ?_
      intro e w38 h
      obtain ⟨n37, hn37, he, tE36⟩ := h
      subst he
      simp only [List.set_cons_succ] at tE36
      have E36 := Lib.hid tE36
      clear tE36
      refine hKK _ _ (.inr (SUB.out _ _ ⟨i + 2, by simp only [List.getElem?_cons_succ]; rw [List.getElem?_set, if_neg hmi]; exact HI.out⟩ E36.out)) ?_
      clear hKK KK
      try simp only [Act.put, List.setIfInBounds_toArray, List.set_cons_zero, List.set_cons_succ]
      exact walkS_listed (by kernel_rfl) (HGO.out _ _ _ _ ⟨_, hn37, E36.out⟩)
  case hgo =>
    intro u v g7 x h
    obtain ⟨n1, hn1, hE⟩ := h
    have E2 := Lib.hid hE
    clear hE
    refine walkS_only (i := 13) (o := ⟨none, _, _, _, _, _⟩) (by kernel_rfl) rfl rfl fun KK hKK => ?_
    refine wp_store_row 23 (.tmp 7) (.tmp 19) rfl g7 23 (keyC zeroKey) (keyC v0) rfl rfl (E2.out.row 0 rfl) (keyC_same zeroKey_length LV.out) (Tryd.sizeKey v0 LV.out) (keyC_one v0) fun w7 p7 => ?_
    have E3 := Lib.hid (E2.out.put 0 rfl p7)
    simp only [List.set_cons_zero] at E3
    refine hKK _ _ (.inr (SUB.out _ _ ⟨i + 2, by simp only [List.getElem?_cons_succ]; rw [List.getElem?_set, if_neg hmi]; exact HI.out⟩ E3.out)) (walkS_done (by kernel_rfl) ?_ _)
    clear hKK KK p7 E2
    go_wp2_with fail
    have HI2 : Hid (((g7, 23, keyC v0) :: (g6, 23, keyC zeroKey) :: rs.set m (g, 66, mC n1))[i + 2]? = some (b, 79, sgC g s t d e0 q)) := by
      show _ = _
      simp only [List.getElem?_cons_succ]
      rw [List.getElem?_set, if_neg hmi]
      exact HI.out
    refine region_class_tail 11 (Env w0 ((g7, 23, keyC v0) :: (g6, 23, keyC zeroKey) :: rs.set m (g, 66, mC n1))) E3.out.drew (by kernel_rfl) (by kernel_rfl) ?_
    simp only [List.take_succ_cons, List.take_zero, List.drop_succ_cons, List.drop_zero]
    refine q_run (by rfl) (v := .pointer (some ⟨b, 0, none⟩)) (fun W hW => by clear hW; go_simp) ?_
    try simp only [Act.put, List.setIfInBounds_toArray, List.set_cons_zero, List.set_cons_succ]
    refine q_run (by rfl) (v := .pointer (some ⟨b, 0, none⟩)) (fun W hW => by clear hW; go_simp) ?_
    try simp only [Act.put, List.setIfInBounds_toArray, List.set_cons_zero, List.set_cons_succ]
    refine q_run (by rfl) (v := .pointer (some ⟨b, 0, none⟩)) (fun W hW => by clear hW; go_simp) ?_
    try simp only [Act.put, List.setIfInBounds_toArray, List.set_cons_zero, List.set_cons_succ]
    refine q_run (by rfl) (v := .pointer (some ⟨g, 0, none⟩)) (fun W hW => by have c := hW.cellV (i + 2) HI2.out 0 _ (sgC_0 g s t q d e0); clear hW; go_simp) ?_
    try simp only [Act.put, List.setIfInBounds_toArray, List.set_cons_zero, List.set_cons_succ]
    refine q_run (by rfl) (v := .pointer (some ⟨b, 0, none⟩)) (fun W hW => by clear hW; go_simp) ?_
    try simp only [Act.put, List.setIfInBounds_toArray, List.set_cons_zero, List.set_cons_succ]
    refine q_run (by rfl) (v := .pointer (some ⟨b, 0, none⟩)) (fun W hW => by clear hW; go_simp) ?_
    try simp only [Act.put, List.setIfInBounds_toArray, List.set_cons_zero, List.set_cons_succ]
    refine q_run (by rfl) (v := .pointer (some ⟨b, 33, none⟩)) (fun W hW => by clear hW; go_simp) ?_
    try simp only [Act.put, List.setIfInBounds_toArray, List.set_cons_zero, List.set_cons_succ]
    refine q_run (by rfl) (v := .agg (keyC t)) (fun W hW => run_partK 23 (.tmp 26) rfl b 33 rfl 79 _ t _ (hW.row (i + 2) HI2.out) (sgC_tag g s t q d e0 LS.out LT.out) Tryd.underlying23 rfl (Tryd.sizeKeyM t LT.out)) ?_
    try simp only [Act.put, List.setIfInBounds_toArray, List.set_cons_zero, List.set_cons_succ]
    refine q_run (by rfl) (v := .int .i64 (c : Int)) (fun W hW => by clear hW; go_simp) ?_
    try simp only [Act.put, List.setIfInBounds_toArray, List.set_cons_zero, List.set_cons_succ]
    refine q_run (by rfl) (v := .int .i64 (k : Int)) (fun W hW => by clear hW; go_simp) ?_
    try simp only [Act.put, List.setIfInBounds_toArray, List.set_cons_zero, List.set_cons_succ]
    refine qE_load (by rfl) _ (.tmp 7) rfl 0 g7 23 (keyC v0) _ rfl rfl Tryd.underlying23 rfl (Tryd.sizeKey _ LV.out) ?_
    try simp only [Act.put, List.setIfInBounds_toArray, List.set_cons_zero, List.set_cons_succ]
    refine wpQuiet_nil ?_
    intro w8 T8
    have E8 := Lib.hid T8
    clear T8 E3
    go_wp2_with fail
    refine (CA.out _ _ (m + 2) n1 E8.out (by simp only [List.getElem?_cons_succ]; exact set_at HM.out) (by omega)).mono ?_
    intro e w9 h
    obtain ⟨he, h9⟩ := h
    subst he
    simp only [List.set_cons_succ, List.set_set] at h9
    have E9 := Lib.hid h9
    clear h9 E8
    go_wp2_with ((with_reducible refine wpE_store (o := ⟨none, _, _, _, _, _⟩) rfl 23 (.tmp 6) (.tmp 31) rfl 1 g6 23 (keyC zeroKey) (keyC v1) (by with_unfolding_all rfl) (by with_unfolding_all rfl) (by with_unfolding_all rfl) (keyC_same zeroKey_length LV1.out) (Tryd.sizeKey _ LV1.out) (keyC_one _) E9.out ?_); intro w10 T10; simp only [List.set_cons_zero, List.set_cons_succ] at T10; have E10 := Lib.hid T10; clear T10)
    exact bodyPost_ret (results_cell_row rfl _ _ g6 23 (keyC v1) (0, 0) (.array 32 5) rfl (E10.out.row 1 rfl) Tryd.underlying23 rfl (Tryd.sizeKey _ LV1.out)) rfl ⟨n1 + k, by omega, rfl, E10.out.tl.tl⟩
end Go.Proofs.YtfnmglicfgkmjaaDoor
end
section
namespace Go.Proofs.YtfnmglicfgkmjaaDoor
open Go.RowKit
set_option linter.unusedVariables false
set_option maxRecDepth 20000

theorem Env.grown {w0 w w' : World} {rs : List (Nat × TypeId × Array Value)} {row : Option Nat} (h : Env w0 rs w) (hg : w.grownBy w' row) (hr : ∀ r ∈ rs, some r.1 ≠ row) (h0 : ∀ k, row = some k → w0.heap.size ≤ k) : Env w0 rs w' :=
  ⟨h.below.grown hg h.below.size h0, fun r hm => ⟨(h.rows r hm).1.grown hg (hr r hm), (h.rows r hm).2⟩, h.apart⟩
theorem OwnSs.one (w : World) (base : Nat) (hb : base ≤ w.heap.size) (u : Value) (a : List UInt8) (ha : El base w u a) :
    OwnSs (w.alloc (.cells #[u] 68)) base (.slice (some ⟨w.heap.size, 0, none⟩) 1 1) [a] :=
  ⟨[u], World.ownsRow_lit (base := base) (e := 68) (size := 1) w #[u] 1 hb (by unfold maxLen; omega) rfl, rfl, fun j h1 h2 => by
    match j, h1 with
    | 0, _ => exact ha.below (alloc_below _ _)⟩
/-- The row of a list of lists is none of another type. -/
theorem OwnSs.off {w : World} {base k : Nat} {v : Value} {ls : List (List UInt8)} {t : TypeId} {cs : Array Value} (h : OwnSs w base v ls) (hr : RowAt w k t cs) (ht : t ≠ 68) : some k ≠ v.ownBlock := by
  obtain ⟨xs, h1, _, _⟩ := h
  rcases h1.2 with ⟨rfl, _⟩ | ⟨g, cap, cur, rfl, _, hg, _⟩
  · intro e; cases e
  · intro e
    have : k = g := by simpa [Value.ownBlock] using e
    subst this
    have h2 : w.heap[k]? = some (.cells cs t (0, 0)) := hr
    rw [hg] at h2
    injection h2 with h2
    injection h2 with _ h2 _
    exact ht h2.symm
theorem OwnSs.rows {w0 w : World} {base : Nat} {v : Value} {ls : List (List UInt8)} {rs : List (Nat × TypeId × Array Value)} (h : OwnSs w base v ls) (hE : Env w0 rs w) (hB : ∀ r ∈ rs, r.1 < base ∨ r.2.1 ≠ 68) : ∀ r ∈ rs, some r.1 ≠ v.ownBlock := by
  intro r hr
  rcases hB r hr with h1 | h1
  · intro e
    obtain ⟨xs, h2, _, _⟩ := h
    have := (World.ownsRow.lt h2 r.1 e.symm).1
    omega
  · exact h.off (hE.rows r hr).1 h1
/-- append of one more. -/
theorem wpList_appSs1 {P : Program} {w : World} {ops : Array Oper} {rest : List Oper} {o : Oper} {a : Act} {Q : Exit → Act → World → Prop} (hgd : o.guard = none) (s x : Operand) (t : TypeId)
    (ho : o.op = .call { callee := .builtin .append, args := #[s, x], argTypes := #[t, t] })
    (base : Nat) (hinfo : (P.info? 68).map (fun i => (i.zero, i.size, i.bytes)) = some (some (.slice none 0 0), 1, 24)) (ht : P.underlying t = some (.slice 68))
    (v u1 : Value) (g : Nat) (ls : List (List UInt8)) (b1 : List UInt8) (hs : a.eval s = v) (hx : a.eval x = .slice (some ⟨g, 0, none⟩) 1 1) (hg : RowAt w g 68 #[u1])
    (hown : OwnSs w base v ls) (h1 : El base w u1 b1) (hlen : ls.length ≤ 1000000) (hb : base ≤ w.heap.size)
    (h : ∀ v' w', OwnSs w' base v' (ls ++ [b1]) → w.grownBy w' v.ownBlock → (∀ k, v.ownBlock = some k → base ≤ k) → wpList P ops Q rest (a.put o.dst v') w') : wpList P ops Q (o :: rest) a w := by
  obtain ⟨i0, hi, hz0, hz1, hz2⟩ := info_parts hinfo
  obtain ⟨xs, hx1, hx2, hx3⟩ := hown
  refine wpList_append_own _ hgd s x t ho base 68 i0 (.slice none 0 0) 1 24 ht hi hz0 hz1 hz2 rfl (by decide) v ls.length xs hs hx1 ⟨g, 0, none⟩ 1 1 [u1] hx rfl (fun j y hj => ?_) (fun y hy => ?_) (by unfold maxLen; omega) (by omega) hb ?_
  · have hj2 := (List.getElem?_eq_some_iff.1 hj).1
    have hadd : (⟨g, 0, none⟩ : Addr).add j = ⟨g, j, none⟩ := by unfold Addr.add; split <;> simp_all
    rw [hadd, hg.cell j]
    simpa using hj
  · obtain rfl : y = u1 := by simpa using hy
    exact h1.1.isSlice2
  · intro v' w' ho' hg' _
    refine h v' w' ⟨xs ++ [u1], by rw [List.length_append]; exact ho', by simp [hx2], fun j a1 a2 => ?_⟩ hg' (fun k hk => (World.ownsRow.lt hx1 k hk).1)
    rcases Nat.lt_or_ge j xs.length with hlt | hge
    · rw [List.getElem_append_left hlt, List.getElem_append_left (by omega)]
      exact (hx3 j hlt (by omega)).grown hx1 hg'
    · obtain rfl : j = xs.length := by rw [List.length_append] at a1; simp at a1; omega
      have e1 : (xs ++ [u1])[xs.length] = u1 := by simp
      have e2 : (ls ++ [b1])[xs.length] = b1 := by simp [hx2]
      rw [e1, e2]
      exact h1.grown hx1 hg'
/-- A key of a row of keys, as a slice. -/
theorem part_bs {w : World} {g : Nat} {t : TypeId} {ls : List (List UInt8)} (h : RowAt w g t (keyC ls.flatten)) (hls : ∀ l ∈ ls, l.length = 32) (k : Nat) (l : List UInt8) (hk : ls[k]? = some l) : Bs w (.slice (some ⟨g, k * 32, none⟩) 32 32) l := by
  have hl : l.length = 32 := hls l (List.mem_of_getElem? hk)
  have hp := flat_part ls hls k l hk
  refine ⟨_, 32, by rw [hl], by omega, by unfold maxLen; omega, fun _ => ⟨g, k * 32, rfl, fun j hj => ?_⟩⟩
  rw [h.cell]
  have e : l[j]? = ls.flatten[k * 32 + j]? := by rw [← hp, List.getElem?_take, if_pos (by omega), List.getElem?_drop]
  rw [List.getElem?_eq_getElem hj] at e
  have hlt := (List.getElem?_eq_some_iff.1 e.symm).1
  rw [keyC_at _ _ hlt, List.getD_eq_getElem?_getD, ← e]
  rfl
theorem El.of {w : World} {base b off n c : Nat} {l : List UInt8} {t : TypeId} {cs : Array Value} (h : Bs w (.slice (some ⟨b, off, none⟩) n c) l) (hr : RowAt w b t cs) (ht : t ≠ 68) : El base w (.slice (some ⟨b, off, none⟩) n c) l :=
  ⟨h, fun _ b' off' n' c' e => by
    injection e with e1 _ _
    injection e1 with e1
    injection e1 with e1 _ _
    subst e1
    exact .inr ⟨_, _, _, hr, ht⟩⟩

set_option maxHeartbeats 4000000 in
theorem joined_env (w0 w : World) (ht : Tabs w0) (rs : List (Nat × TypeId × Array Value)) (m g n : Nat) (hE : Env w0 rs w) (hm : rs[m]? = some (g, 66, mC n)) (hn : n ≤ 900000000) (tag : List UInt8) (ltag : tag.length = 32)
    (e ge cap : Nat) (ls : List (List UInt8)) (hls : ∀ l ∈ ls, l.length = 32) (hlen : ls.length ≤ 1000) (he : rs[e]? = some (ge, 23, keyC ls.flatten)) :
    Calls Tryd.prog 31 #[.pointer (some ⟨g, 0, none⟩), .agg (keyC tag), .slice (some ⟨ge, 0, none⟩) ls.length cap] w fun x w' => x = .returned (.agg (keyC (digestB (tag ++ ls.flatten)))) ∧ Env w0 (rs.set m (g, 66, mC (n + 1))) w' := by
  have HT := Lib.hid ht
  have HM := Lib.hid hm
  have E0 := Lib.hid hE
  have LT := Lib.hid ltag
  have HLS := Lib.hid hls
  have HEE := Lib.hid he
  have HB : Hid (∀ r ∈ rs, r.1 < w.heap.size) := fun r hr => (hE.rows r hr).1.lt
  have HW := Lib.hid hE.below.size
  obtain ⟨d, hd⟩ : ∃ d, d = digestB (([tag] ++ ls.take ls.length).flatten) := ⟨_, rfl⟩
  have hfin : digestB (tag ++ ls.flatten) = d := by rw [hd, List.take_length]; simp
  have LD : Hid (d.length = 32) := by show _ = _; rw [hd]; exact digestB_length _
  have HD := Lib.hid hd
  rw [hfin]
  clear ht hm hE ltag hls he hd hfin
  go_enter Tryd.func31, Tryd.ntmps31
  go_wp2_with (first
    | ((with_reducible refine wpList_box_row (o := ⟨some 4, _, _, _, _, _⟩) rfl 23 (.tmp 1) rfl (keyC tag) (by with_unfolding_all rfl) ?_); intro g4 w1 n4; have E1 := Lib.hid (E0.out.new n4); have z4 := n4.below.size; clear n4)
    | ((with_reducible refine wpList_alloc_row (o := ⟨some 6, _, _, _, _, _⟩) rfl 23 rfl (keyC zeroKey) Tryd.zeroK ?_); intro g6 w2 n6; have E2 := Lib.hid (E1.out.new n6); have z6 := n6.below.size; clear n6))
  have hsz : w.heap.size ≤ w2.heap.size := by omega
  have HBB : Hid (∀ r ∈ ((g6, 23, keyC zeroKey) :: (g4, 23, keyC tag) :: rs), r.1 < w.heap.size ∨ r.2.1 ≠ 68) := fun r hr => by
    rcases List.mem_cons.1 hr with rfl | hr
    · exact .inr (show (23 : Nat) ≠ 68 from by decide)
    rcases List.mem_cons.1 hr with rfl | hr
    · exact .inr (show (23 : Nat) ≠ 68 from by decide)
    · exact .inl (HB.out r hr)
  clear z4 z6 HB
  have S2 : Hid (OwnSs (w2.alloc (.cells #[.slice (some ⟨g4, 0, none⟩) 32 32] 68)) w.heap.size (.slice (some ⟨w2.heap.size, 0, none⟩) 1 1) ([tag] ++ ls.take 0)) := by
    show OwnSs _ _ _ _
    rw [List.take_zero, List.append_nil]
    exact OwnSs.one w2 w.heap.size hsz _ tag (El.of (E2.out.arr 1 rfl 32 LT.out (by omega)) (E2.out.row 1 rfl) (by decide))
  have E3 := Lib.hid (E2.out.call (alloc_below w2 (.cells #[.slice (some ⟨g4, 0, none⟩) 32 32] 68)))
  have hz3 : w.heap.size ≤ (w2.alloc (.cells #[.slice (some ⟨g4, 0, none⟩) 32 32] 68)).heap.size := Nat.le_trans hsz (alloc_below w2 _).size
  clear E0 E1 E2
  go_loopw [7, 13] (fun v i wr => ∃ j : Nat, j ≤ ls.length ∧ i = .int .i64 (j : Int) ∧ OwnSs wr w.heap.size v ([tag] ++ ls.take j) ∧ Env w0 ((g6, 23, keyC zeroKey) :: (g4, 23, keyC tag) :: rs) wr ∧ w.heap.size ≤ wr.heap.size) (fun _ i _ => ls.length - (intOf i).toNat)
  case atStart => exact ⟨0, by omega, rfl, S2.out, E3.out, hz3⟩
  case round =>
    clear S2 E3 hz3
    obtain ⟨j, hj, rfl, hS, hE, hz⟩ := hrel
    have E := Lib.hid hE
    have SS := Lib.hid hS
    clear hE hS
    by_cases hlt : j < ls.length
    · have hlt2 : (j : Int) < (ls.length : Int) := by omega
      have hw1 : IntKind.i64.wrap ((j : Int) + 1) = (j : Int) + 1 := IntWalk.i64_in _ (by omega)
      have hq0 : ¬ ((j : Int) < 0) := by omega
      obtain ⟨l, hl⟩ : ∃ l, ls[j]? = some l := ⟨_, List.getElem?_eq_getElem hlt⟩
      have HE2 : Hid (((g6, 23, keyC zeroKey) :: (g4, 23, keyC tag) :: rs)[e + 2]? = some (ge, 23, keyC ls.flatten)) := HEE.out
      have PB := Lib.hid (El.of (base := w.heap.size) (part_bs (E.out.row (e + 2) HE2.out) HLS.out j l hl) (E.out.row (e + 2) HE2.out) (by decide))
      have HTK : Hid ([tag] ++ ls.take j ++ [l] = [tag] ++ ls.take (j + 1)) := by
        show _ = _
        rw [List.take_add_one, hl]
        simp
      have HL := Lib.hid hl
      clear hl
      have bel := alloc_below wr (.cells #[.slice (some ⟨ge, j * 32, none⟩) 32 32] 68)
      have hz5 : w.heap.size ≤ (wr.alloc (.cells #[.slice (some ⟨ge, j * 32, none⟩) 32 32] 68)).heap.size := Nat.le_trans hz bel.size
      have BEL := Lib.hid bel
      have HZ := Lib.hid hz5
      clear bel hz5
      go_wp2_with (at_builtin; refine wpList_appSs1 (o := ⟨some 22, _, _, _, _, _⟩) rfl (.tmp 16) (.tmp 21) 30 rfl w.heap.size Tryd.infoS Tryd.underlying30 _ _ wr.heap.size ([tag] ++ ls.take j) l rfl rfl (by exact RowAt.new wr _ _) (SS.out.below BEL.out) (PB.out.below BEL.out) (by simp; omega) HZ.out ?_; intro v5 w5 own5 gr5 ow5; have E5 := Lib.hid ((E.out.call BEL.out).grown gr5 ((SS.out.below BEL.out).rows (E.out.call BEL.out) HBB.out) (fun k hk => Nat.le_trans HW.out (ow5 k hk))); have S5 := Lib.hid (HTK.out ▸ own5); have hz6 := Nat.le_trans HZ.out gr5.size; clear own5 gr5 ow5)
      refine ⟨⟨j + 1, by omega, by congr 1, S5.out, E5.out, hz6⟩, ?_⟩
      show ls.length - ((j : Int) + 1).toNat < ls.length - (j : Int).toNat
      omega
    · have hj2 : j = ls.length := by omega
      clear hlt
      subst hj2
      have BS := Lib.hid SS.out.bss
      have HFL : Hid (([tag] ++ ls.take ls.length).flatten.length ≤ 1000000) := by
        show _ ≤ _
        rw [List.take_length]
        simp only [List.singleton_append, List.flatten_cons, List.length_append, flat_length ls HLS.out, LT.out]
        omega
      obtain ⟨B, bc, rfl, _, _, _⟩ := SS.out.bss
      have hlen1 : ([tag] ++ ls.take ls.length).length = ls.length + 1 := by simp
      rw [hlen1] at BS ⊢
      clear SS HBB hlen1
      go_wp2_with fail
      refine (Sum_env (m := m + 2) (n := n) E.out HT.out (by simp only [List.getElem?_cons_succ]; exact HM.out) _ ([tag] ++ ls.take ls.length) d (by omega) HD.out BS.out HFL.out (by simp; omega)).mono ?_
      intro x w6 h
      obtain ⟨he, h6⟩ := h
      subst he
      simp only [List.set_cons_succ] at h6
      have E6 := Lib.hid h6
      clear h6 E BS
      go_wp2_with ((with_reducible refine wpE_store (o := ⟨none, _, _, _, _, _⟩) rfl 23 (.tmp 6) (.tmp 26) rfl 0 g6 23 (keyC zeroKey) (keyC d) (by with_unfolding_all rfl) (by with_unfolding_all rfl) (by with_unfolding_all rfl) (keyC_same zeroKey_length LD.out) (Tryd.sizeKey _ LD.out) (keyC_one _) E6.out ?_); intro w7 T7; simp only [List.set_cons_zero] at T7; have E7 := Lib.hid T7; clear T7)
      exact bodyPost_ret (results_cell_row rfl _ _ g6 23 (keyC d) (0, 0) (.array 32 5) rfl (E7.out.row 0 rfl) Tryd.underlying23 rfl (Tryd.sizeKey _ LD.out)) rfl ⟨rfl, E7.out.tl.tl⟩
end Go.Proofs.YtfnmglicfgkmjaaDoor
end
section
namespace Go.Proofs.YtfnmglicfgkmjaaDoor
open Go.RowKit
set_option linter.unusedVariables false

theorem race_disable (w : World) : (callFunc 75 #[]).run Tryd.prog w = .ok (.value (.tuple #[])) w := run_call_mark0 Tryd.func75 (by kernel_rfl) (by kernel_rfl) (by kernel_rfl) .disable (by kernel_rfl) w
theorem race_enable (w : World) : (callFunc 77 #[]).run Tryd.prog w = .ok (.value (.tuple #[])) w := run_call_mark0 Tryd.func77 (by kernel_rfl) (by kernel_rfl) (by kernel_rfl) .enable (by kernel_rfl) w
theorem race_acquire (a : Addr) (w : World) : (callFunc 78 #[.pointer (some a)]).run Tryd.prog w = .ok (.value (.tuple #[])) w := run_call_marked Tryd.func78 (by kernel_rfl) (by kernel_rfl) (by kernel_rfl) .acquire (by kernel_rfl) a w
theorem race_release (a : Addr) (w : World) : (callFunc 80 #[.pointer (some a)]).run Tryd.prog w = .ok (.value (.tuple #[])) w := run_call_marked Tryd.func80 (by kernel_rfl) (by kernel_rfl) (by kernel_rfl) .releaseMerge (by kernel_rfl) a w

theorem once_store (a : Addr) (x : Value) (u : FrameMode) (w : World) (hc : w.cell? a = some x) (hz : w.frozen? a = false) :
    CallsD Tryd.prog 56 #[.pointer (some a), .bool true] u w fun e u' w' => u' = u ∧ (e = .returned (.tuple #[]) ∧ w' = w.drew.setCell a (.int .u32 1)) := by
  have hc' : w.drew.cell? a = some x := by go_simp
  have hz' : w.drew.frozen? a = false := by go_simp
  have hst := run_call_store (P := Tryd.prog) Tryd.func68 (by kernel_rfl) (by kernel_rfl) (by kernel_rfl) (by kernel_rfl) (k := .u32) (y := 1) hc' hz'
  go_enter_d Tryd.func56, Tryd.ntmps56
  go_wp2
  go_region_calls
  all_goals (go_end0; exact ⟨rfl, rfl⟩)

set_option maxRecDepth 100000 in
theorem once_unlock (a : Addr) (u : FrameMode) (w : World) (hc : w.cell? a = some (.int .i32 1)) (hz : w.frozen? a = false) :
    CallsD Tryd.prog 49 #[.pointer (some a)] u w fun e u' w' => u' = u ∧ (e = .returned (.tuple #[]) ∧ w' = w.setCell a (.int .i32 0)) := by
  have hd := race_disable
  have he := race_enable
  have hr := race_release
  have hadd := run_call_add (P := Tryd.prog) Tryd.func81 (by kernel_rfl) (by kernel_rfl) (by kernel_rfl) .i32 (by kernel_rfl) (y := -1) (s := 0) hc hz (by simp [go_sem]; rfl)
  have hcv := run_convert_to_unsafe (P := Tryd.prog) (src := 123) (dst := 127) Tryd.underlying123 Tryd.underlying127 (by kernel_rfl) hc
  go_enter_d Tryd.func49, Tryd.ntmps49
  go_wp2
  go_end0
  go_wp2
  go_end0
  exact ⟨rfl, rfl⟩

set_option maxRecDepth 100000 in
theorem once_lock (a : Addr) (w : World) (hc : w.cell? a = some (.int .i32 0)) (hz : w.frozen? a = false) :
    Calls Tryd.prog 48 #[.pointer (some a)] w fun e w' => e = .returned (.tuple #[]) ∧ w' = w.setCell a (.int .i32 1) := by
  have hd := race_disable
  have he := race_enable
  have ha := race_acquire
  have hcas := run_call_cas_hit (P := Tryd.prog) Tryd.func76 (by kernel_rfl) (by kernel_rfl) (by kernel_rfl) .i32 (by kernel_rfl) (y := 1) hc hz
  have hc' : (w.setCell a (.int .i32 1)).cell? a = some (.int .i32 1) := World.cell?_setCell_same w a _ hc
  have hcv := run_convert_to_unsafe (P := Tryd.prog) (src := 123) (dst := 127) Tryd.underlying123 Tryd.underlying127 (by kernel_rfl) hc'
  go_enter Tryd.func48, Tryd.ntmps48
  go_wp2
  first | go_end0 | (simp only [Exit.inBlock, Exit.then]; refine bodyPost_ret (results_none rfl _ _ _) rfl ?_) | refine bodyPost_ret (results_none rfl _ _ _) rfl ?_
  go_wp2
  go_end0
  exact ⟨rfl, rfl⟩

set_option maxRecDepth 100000 in
set_option maxHeartbeats 1600000 in
theorem once_slow (b off fn : Nat) (lb : Array Value) (hent : ∀ args w, (callFunc fn args).run Tryd.prog w = .ok (.enter fn args) w) (w : World)
    (h0 : w.cell? ⟨b, off, none⟩ = some (.int .u32 0)) (h1 : w.cell? ⟨b, off + 1, none⟩ = some (.int .i32 0)) (f0 : w.frozen? ⟨b, off, none⟩ = false) (f1 : w.frozen? ⟨b, off + 1, none⟩ = false)
    (G : World → Prop) (hf : Calls Tryd.prog fn lb (w.setCell ⟨b, off + 1, none⟩ (.int .i32 1)) fun e w' => e = .returned (.tuple #[]) ∧ G w')
    (hG : ∀ w', G w' → w'.cell? ⟨b, off, none⟩ = some (.int .u32 0) ∧ w'.frozen? ⟨b, off, none⟩ = false ∧ w'.cell? ⟨b, off + 1, none⟩ = some (.int .i32 1) ∧ w'.frozen? ⟨b, off + 1, none⟩ = false) :
    Calls Tryd.prog 41 #[.pointer (some ⟨b, off, none⟩), .func (.func fn) #[] lb] w fun e w' => e = .returned (.tuple #[]) ∧ ∃ x, G x ∧ w' = (x.drew.setCell ⟨b, off, none⟩ (.int .u32 1)).setCell ⟨b, off + 1, none⟩ (.int .i32 0) := by
  have hl := run_call_load (P := Tryd.prog) Tryd.func55 (by kernel_rfl) (by kernel_rfl) (by kernel_rfl) .u32 (by kernel_rfl) (w := w.setCell ⟨b, off + 1, none⟩ (.int .i32 1)) (a := ⟨b, off, none⟩) (x := 0) ((World.cell?_setCell_other _ ⟨b, off + 1, none⟩ ⟨b, off, none⟩ _ (by simp)).trans h0)
  have hnot : ∀ (x : Bool) (w : World), (Op.unary .not (.bool x)).run Tryd.prog w = .ok (.bool (!x)) w := fun _ _ => rfl
  have HF := Lib.hid hf
  have HG := Lib.hid hG
  clear hf hG
  go_enter_defers Tryd.func41, Tryd.ntmps41
  go_wp2_with (first
    | (go_at_call 48; refine (once_lock ⟨b, off + 1, none⟩ _ (by go_simp) (by go_simp)).mono ?_; rintro e w' ⟨rfl, rfl⟩)
    | (go_at_call 40; go_in))
  refine HF.out.mono ?_
  intro e x h
  obtain ⟨he, hg⟩ := h
  subst he
  obtain ⟨k0, z0, k1, z1⟩ := HG.out x hg
  have HGX := Lib.hid hg
  clear hg HG HF hl
  go_wp2
  refine leaves_cons (f := 56) (args := #[.pointer (some ⟨b, off, none⟩), .bool true]) (by simp) (by simp [go_sem]) ?_
  refine (once_store ⟨b, off, none⟩ (.int .u32 0) .returning _ k0 z0).mono ?_
  rintro e u' w'' ⟨rfl, rfl, rfl⟩
  refine leaves_cons (f := 49) (args := #[.pointer (some ⟨b, off + 1, none⟩)]) (by simp [settle]) (by simp [go_sem]) ?_
  refine (once_unlock ⟨b, off + 1, none⟩ _ _ ?_ (by simp [z1])).mono ?_
  · refine (World.cell?_setCell_other _ ⟨b, off, none⟩ ⟨b, off + 1, none⟩ _ (by simp)).trans ?_
    rw [World.cell?_drew]
    exact k1
  rintro e u' w'' ⟨rfl, rfl, rfl⟩
  simp [Leaves, settle, results, Tryd.results41]
  exact ⟨x, HGX.out, rfl⟩

/-- Do, the first time. -/
theorem once_first (b off fn : Nat) (lb : Array Value) (hent : ∀ args w, (callFunc fn args).run Tryd.prog w = .ok (.enter fn args) w) (w : World)
    (h0 : w.cell? ⟨b, off, none⟩ = some (.int .u32 0)) (h1 : w.cell? ⟨b, off + 1, none⟩ = some (.int .i32 0)) (f0 : w.frozen? ⟨b, off, none⟩ = false) (f1 : w.frozen? ⟨b, off + 1, none⟩ = false)
    (G : World → Prop) (hf : Calls Tryd.prog fn lb (w.setCell ⟨b, off + 1, none⟩ (.int .i32 1)) fun e w' => e = .returned (.tuple #[]) ∧ G w')
    (hG : ∀ w', G w' → w'.cell? ⟨b, off, none⟩ = some (.int .u32 0) ∧ w'.frozen? ⟨b, off, none⟩ = false ∧ w'.cell? ⟨b, off + 1, none⟩ = some (.int .i32 1) ∧ w'.frozen? ⟨b, off + 1, none⟩ = false) :
    Calls Tryd.prog 28 #[.pointer (some ⟨b, off, none⟩), .func (.func fn) #[] lb] w fun e w' => e = .returned (.tuple #[]) ∧ ∃ x, G x ∧ w' = (x.drew.setCell ⟨b, off, none⟩ (.int .u32 1)).setCell ⟨b, off + 1, none⟩ (.int .i32 0) := by
  have hl := run_call_load (P := Tryd.prog) Tryd.func55 (by kernel_rfl) (by kernel_rfl) (by kernel_rfl) .u32 (by kernel_rfl) h0
  have hnot : ∀ (x : Bool) (w : World), (Op.unary .not (.bool x)).run Tryd.prog w = .ok (.bool (!x)) w := fun _ _ => rfl
  have HS := Lib.hid (once_slow b off fn lb hent w h0 h1 f0 f1 G hf hG)
  clear hent h0 h1 f0 f1 hf hG
  go_enter Tryd.func28, Tryd.ntmps28
  go_wp2_with (first
    | (go_at_call 41; refine HS.out.mono ?_; rintro e w' ⟨rfl, hx⟩)
    | (go_at_call 40; go_in))
  go_end0
  exact ⟨rfl, hx⟩

/-- Do, done already. -/
theorem once_done (a : Addr) (fv : Value) (w : World) (h0 : w.cell? a = some (.int .u32 1)) :
    Calls Tryd.prog 28 #[.pointer (some a), fv] w fun e w' => e = .returned (.tuple #[]) ∧ w' = w := by
  have hl := run_call_load (P := Tryd.prog) Tryd.func55 (by kernel_rfl) (by kernel_rfl) (by kernel_rfl) .u32 (by kernel_rfl) h0
  have hnot : ∀ (x : Bool) (w : World), (Op.unary .not (.bool x)).run Tryd.prog w = .ok (.bool (!x)) w := fun _ _ => rfl
  go_enter Tryd.func28, Tryd.ntmps28
  go_wp2
  go_end0
  exact ⟨rfl, rfl⟩
end Go.Proofs.YtfnmglicfgkmjaaDoor
end
