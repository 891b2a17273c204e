/-
  Texts that belong together, merged: DrwB, DrwS, DrwD, DrwC. Conditions: as each theorem names them.
-/
import Derived.Test.YtjlhmcnajgafgaaDoorQDrwAJ
section
namespace Go.Proofs.YtjlhmcnajgafgaaDoor
open Go.RowKit
set_option linter.unusedVariables false
set_option maxRecDepth 20000

set_option maxHeartbeats 400000 in
theorem left_any (w0 w : World) (rs : List (Nat × TypeId × Array Value)) (i b : Nat) (hE : Env w0 rs w) (s : List UInt8) (k : Nat) (hs : s.length = 32) (hi : rs[i]? = some (b, 35, srcC s k)) (hk : k ≤ 18446744073709551615) (l : Nat) (hl : l = 18446744073709551615 - k) :
    Calls Tryd.prog 14 #[.pointer (some ⟨b, 0, none⟩)] w (RetV w (.int .u64 (l : Int))) := by
  have c := hE.cellV i hi 32 _ (srcC_32 s k hs)
  have hw : IntKind.u64.wrap (18446744073709551615 - (k : Int)) = (l : Int) := by rw [IntKind.wrap_u64]; omega
  clear hl hk
  go_enter Tryd.func14, Tryd.ntmps14
  go_wp2
  go_ret
  exact ⟨rfl, Below.refl _ _⟩

set_option maxHeartbeats 8000000 in
theorem next_env (w0 w : World) (ht : Tabs w0) (rs : List (Nat × TypeId × Array Value)) (m g n i b : Nat) (hE : Env w0 rs w) (hm : rs[m]? = some (g, 65, mC n)) (hn : n ≤ 900000) (s : List UInt8) (k : Nat) (hs : s.length = 32) (hi : rs[i]? = some (b, 35, srcC s k)) (hk : k < 18446744073709551615) (lab : ByteArray) (hlab : lab.size ≤ 1000) :
    Calls Tryd.prog 7 #[.pointer (some ⟨b, 0, none⟩), .pointer (some ⟨g, 0, none⟩), .string lab] w fun e w' => ∃ n', n' ≤ n + 3 ∧ e = .returned (.tuple #[.agg (keyC (drawB s k lab)), .int .i64 0]) ∧ Env w0 ((rs.set m (g, 65, mC n')).set i (b, 35, srcC s (k + 1))) w' := by
  have HT := Lib.hid ht
  have HM := Lib.hid hm
  have HI := Lib.hid hi
  have E0 := Lib.hid hE
  have LS := Lib.hid hs
  have hmi : m ≠ i := fun e => by
    rw [← e, hm] at hi
    injection hi with hi
    injection hi with _ hi
    injection hi with hi
    exact absurd hi (by decide)
  have NMI := Lib.hid hmi
  obtain ⟨v0, hv0⟩ : ∃ v, v = drawB s k lab := ⟨_, rfl⟩
  have LV : Hid (v0.length = 32) := by show _ = _; rw [hv0]; exact drawB_length _ _ _
  obtain ⟨nb, hnb⟩ : ∃ z, z = hi8 k := ⟨_, rfl⟩
  have LN : Hid (nb.length = 8) := by show _ = _; rw [hnb]; exact hi8_length _
  have CN : Hid (∀ w, Calls Tryd.prog 16 #[.int .u64 (k : Int), .int .i64 8] w (RetBs w nb)) := fun w => by rw [hnb]; exact hi8_any w k (by omega)
  have CD : Hid (∀ x rs' m' A cc, Env w0 rs' x → rs'[m']? = some (g, 65, mC n) → Bss x (.slice A 1 cc) [nb] → Calls Tryd.prog 15 #[.pointer (some ⟨g, 0, none⟩), .agg (keyC s), .string lab, .slice A 1 cc] x fun e w' => ∃ n', n' ≤ n + 3 ∧ e = .returned (.agg (keyC v0)) ∧ Env w0 (rs'.set m' (g, 65, mC n')) w') := fun x rs' m' A cc h1 h2 h3 => by
    rw [hv0, drawB, ← hnb]
    exact macKey_env w0 x HT.out rs' m' g n h1 h2 hn s LS.out lab hlab [nb] (by simp) (by simp [LN.out]) A cc h3
  obtain ⟨l, hl⟩ : ∃ l, l = 18446744073709551615 - k := ⟨_, rfl⟩
  have hl0 : ¬ ((l : Int) = 0) := by omega
  have hl1 : ((l : Int) == 0) = false := by simpa using hl0
  have CL : Hid (∀ x rs' i', Env w0 rs' x → rs'[i']? = some (b, 35, srcC s k) → Calls Tryd.prog 14 #[.pointer (some ⟨b, 0, none⟩)] x (RetV x (.int .u64 (l : Int)))) := fun x rs' i' h1 h2 => left_any w0 x rs' i' b h1 s k LS.out h2 (by omega) l hl
  obtain ⟨k1, hk1⟩ : ∃ k1, k1 = k + 1 := ⟨_, rfl⟩
  have hw1 : IntKind.u64.wrap ((k : Int) + 1) = (k1 : Int) := by rw [IntKind.wrap_u64]; omega
  have hkm : ¬ ((k : Int) = 18446744073709551615) := by omega
  have hkm1 : ((k : Int) == 18446744073709551615) = false := by simpa using hkm
  rw [← hv0, ← hk1]
  clear ht hm hi hE hs hmi hv0 hnb hk hlab hk1 hl
  go_enter Tryd.func7, Tryd.ntmps7
  go_wp2_with ((with_reducible refine wpE_alloc (o := ⟨some 6, _, _, _, _, _⟩) rfl 23 rfl (keyC zeroKey) Tryd.zeroK E0.out ?_); intro g6 w1 T1; have E1 := Lib.hid T1; clear T1)
  refine (CL.out _ _ (i + 1) E1.out HI.out).mono ?_
  intro e w2 h
  obtain ⟨he, b2⟩ := h
  subst he
  have E2 := Lib.hid (E1.out.call b2)
  clear b2 E1 E0
  go_wp2_with fail
  refine plain_region (S := fun x => Env w0 [(b, 35, srcC s k)] x) (fin := fun _ => false) (by kernel_rfl) ?_
  have sub : ∀ (l : List (Nat × TypeId × Array Value)) x, (∃ j, l[j]? = some (b, 35, srcC s k)) → Env w0 l x → Env w0 [(b, 35, srcC s k)] x := fun l x ⟨j, hj⟩ h => h.less (List.singleton_sublist.2 (List.mem_of_getElem? hj))
  have SUB := Lib.hid sub
  clear sub
  have hS : Env w0 [(b, 35, srcC s k)] w2.drew := SUB.out _ _ ⟨i + 1, HI.out⟩ E2.out.drew
  change walkS _ _ _ _ _ _ 15 _ _ _
  refine walkS_take (i := 0) (oi := ⟨some 13, _, _, _, _, _⟩) (v := .pointer (some ⟨g, 0, none⟩)) rfl (by kernel_rfl) (by kernel_rfl) (fun _ _ _ h => h) _ _ _ _ (by kernel_rfl) (by kernel_rfl) (Or.inl ⟨by rfl, fun w' hS' => (by first | rfl | (clear hS hS'; go_simp))⟩) hS ?_
  try simp only [Act.put, List.setIfInBounds_toArray, List.set_cons_zero, List.set_cons_succ]
  refine walkS_take (i := 1) (oi := ⟨some 14, _, _, _, _, _⟩) (v := .pointer (some ⟨b, 0, none⟩)) rfl (by kernel_rfl) (by kernel_rfl) (fun _ _ _ h => h) _ _ _ _ (by kernel_rfl) (by kernel_rfl) (Or.inl ⟨by rfl, fun w' hS' => (by first | rfl | (clear hS hS'; go_simp))⟩) hS ?_
  try simp only [Act.put, List.setIfInBounds_toArray, List.set_cons_zero, List.set_cons_succ]
  refine walkS_take (i := 2) (oi := ⟨some 15, _, _, _, _, _⟩) (v := .pointer (some ⟨b, 0, none⟩)) rfl (by kernel_rfl) (by kernel_rfl) (fun _ _ _ h => h) _ _ _ _ (by kernel_rfl) (by kernel_rfl) (Or.inl ⟨by rfl, fun w' hS' => (by first | rfl | (clear hS hS'; go_simp))⟩) hS ?_
  try simp only [Act.put, List.setIfInBounds_toArray, List.set_cons_zero, List.set_cons_succ]
  refine walkS_take (i := 3) (oi := ⟨some 16, _, _, _, _, _⟩) (v := .pointer (some ⟨b, 0, none⟩)) rfl (by kernel_rfl) (by kernel_rfl) (fun _ _ _ h => h) _ _ _ _ (by kernel_rfl) (by kernel_rfl) (Or.inl ⟨by rfl, fun w' hS' => (by first | rfl | (clear hS hS'; go_simp))⟩) hS ?_
  try simp only [Act.put, List.setIfInBounds_toArray, List.set_cons_zero, List.set_cons_succ]
  refine walkS_take (i := 4) (oi := ⟨some 17, _, _, _, _, _⟩) (v := .agg (keyC s)) rfl (by kernel_rfl) (by kernel_rfl) (fun _ _ _ h => h) _ _ _ _ (by kernel_rfl) (by kernel_rfl) (Or.inl ⟨by rfl, fun w' hS' => (run_partK 23 (.tmp 16) rfl b 0 rfl 35 _ s _ (hS'.row 0 rfl) (srcC_seed s k) Tryd.underlying23 rfl (Tryd.sizeKeyM s LS.out))⟩) hS ?_
  try simp only [Act.put, List.setIfInBounds_toArray, List.set_cons_zero, List.set_cons_succ]
  refine walkS_take (i := 5) (oi := ⟨some 18, _, _, _, _, _⟩) (v := .string lab) rfl (by kernel_rfl) (by kernel_rfl) (fun _ _ _ h => h) _ _ _ _ (by kernel_rfl) (by kernel_rfl) (Or.inl ⟨by rfl, fun w' hS' => (by first | rfl | (clear hS hS'; go_simp))⟩) hS ?_
  try simp only [Act.put, List.setIfInBounds_toArray, List.set_cons_zero, List.set_cons_succ]
  refine walkS_take (i := 6) (oi := ⟨some 19, _, _, _, _, _⟩) (v := .pointer (some ⟨b, 0, none⟩)) rfl (by kernel_rfl) (by kernel_rfl) (fun _ _ _ h => h) _ _ _ _ (by kernel_rfl) (by kernel_rfl) (Or.inl ⟨by rfl, fun w' hS' => (by first | rfl | (clear hS hS'; go_simp))⟩) hS ?_
  try simp only [Act.put, List.setIfInBounds_toArray, List.set_cons_zero, List.set_cons_succ]
  refine walkS_take (i := 7) (oi := ⟨some 20, _, _, _, _, _⟩) (v := .pointer (some ⟨b, 0, none⟩)) rfl (by kernel_rfl) (by kernel_rfl) (fun _ _ _ h => h) _ _ _ _ (by kernel_rfl) (by kernel_rfl) (Or.inl ⟨by rfl, fun w' hS' => (by first | rfl | (clear hS hS'; go_simp))⟩) hS ?_
  try simp only [Act.put, List.setIfInBounds_toArray, List.set_cons_zero, List.set_cons_succ]
  refine walkS_take (i := 8) (oi := ⟨some 21, _, _, _, _, _⟩) (v := .pointer (some ⟨b, 32, none⟩)) rfl (by kernel_rfl) (by kernel_rfl) (fun _ _ _ h => h) _ _ _ _ (by kernel_rfl) (by kernel_rfl) (Or.inl ⟨by rfl, fun w' hS' => (by first | rfl | (clear hS hS'; go_simp))⟩) hS ?_
  try simp only [Act.put, List.setIfInBounds_toArray, List.set_cons_zero, List.set_cons_succ]
  refine walkS_take (i := 9) (oi := ⟨some 22, _, _, _, _, _⟩) (v := .int .u64 (k : Int)) rfl (by kernel_rfl) (by kernel_rfl) (fun _ _ _ h => h) _ _ _ _ (by kernel_rfl) (by kernel_rfl) (Or.inl ⟨by rfl, fun w' hS' => (by have c := hS'.cellV 0 rfl 32 _ (srcC_32 s k LS.out); clear hS hS'; go_simp)⟩) hS ?_
  try simp only [Act.put, List.setIfInBounds_toArray, List.set_cons_zero, List.set_cons_succ]
  clear hS
  apply shared3 (A := fun u v g8 => ⟨#[.pointer (some ⟨b, 0, none⟩), .pointer (some ⟨g, 0, none⟩), .string lab, undef, undef, undef, .pointer (some ⟨g6, 0, none⟩), .int .i64 0, .pointer (some ⟨g8, 0, none⟩), .pointer (some ⟨b, 0, none⟩), .int .u64 (l : Int), .bool false, undef, .pointer (some ⟨g, 0, none⟩), .pointer (some ⟨b, 0, none⟩), .pointer (some ⟨b, 0, none⟩), .pointer (some ⟨b, 0, none⟩), .agg (keyC s), .string lab, .pointer (some ⟨b, 0, none⟩), .pointer (some ⟨b, 0, none⟩), .pointer (some ⟨b, 32, none⟩), .int .u64 (k : Int), u, v, .agg (keyC v0), undef, undef, undef, undef, undef, undef, undef, undef], []⟩) (L' := #[true, true, true, true, true, true, true, true, true, true, true, true, true, true, false]) (m' := 1) (fun u v g8 x => ∃ n', n' ≤ n + 3 ∧ Env w0 ((g8, 23, keyC zeroKey) :: (g6, 23, keyC zeroKey) :: rs.set m (g, 65, mC n')) x)
  case h =>
    intro HGO0
    have HGO := Lib.hid HGO0
    clear HGO0
    refine walkS_two (i := 10) (j := 13) (oi := ⟨some 23, _, _, _, _, _⟩) (oj := ⟨some 8, _, _, _, _, _⟩) (by kernel_rfl) rfl rfl rfl rfl (fun KK hKK => ?_) (fun KK hKK => ?_)
    · go_simp
      refine (CN.out _).mono ?_
      intro e w4q h
      obtain ⟨u2q, he, hu2q, b3q⟩ := h
      subst he
      have E1q := Lib.hid (E2.out.drew.call b3q)
      have Hu2q := Lib.hid hu2q
      obtain ⟨Au2q, cu2q, rfl, _, _, _⟩ := hu2q
      refine hKK _ _ (.inr (SUB.out _ _ ⟨i + 1, HI.out⟩ E1q.out)) ?_
      clear hKK KK
      try simp only [Act.put, List.setIfInBounds_toArray, List.set_cons_zero, List.set_cons_succ]
      refine walkS_two (i := 11) (j := 13) (oi := ⟨some 24, _, _, _, _, _⟩) (oj := ⟨some 8, _, _, _, _, _⟩) (by kernel_rfl) rfl rfl rfl rfl (fun KK hKK => ?_) (fun KK hKK => ?_)
      · go_simp
        have V6q := Lib.hid (Bss.only _ _ nb Hu2q.out)
        have E5q := Lib.hid (E1q.out.call (alloc_below _ (.cells #[.slice Au2q nb.length cu2q] 68)))
        refine hKK _ _ (.inr (SUB.out _ _ ⟨i + 1, HI.out⟩ E5q.out)) ?_
        clear hKK KK
        try simp only [Act.put, List.setIfInBounds_toArray, List.set_cons_zero, List.set_cons_succ]
        refine walkS_two (i := 12) (j := 13) (oi := ⟨some 25, _, _, _, _, _⟩) (oj := ⟨some 8, _, _, _, _, _⟩) (by kernel_rfl) rfl rfl rfl rfl (fun KK hKK => ?_) (fun KK hKK => ?_)
        · go_simp
          refine (CD.out _ _ (m + 1) _ _ E5q.out HM.out V6q.out).mono ?_
          intro e w9q h
          obtain ⟨n8q, hn8q, he, tE7q⟩ := h
          subst he
          simp only [List.set_cons_succ] at tE7q
          have E7q := Lib.hid tE7q
          clear tE7q
          refine hKK _ _ (.inr (SUB.out _ _ ⟨i + 1, by simp only [List.getElem?_cons_succ]; rw [List.getElem?_set, if_neg NMI.out]; exact HI.out⟩ E7q.out)) ?_
          clear hKK KK
          try simp only [Act.put, List.setIfInBounds_toArray, List.set_cons_zero, List.set_cons_succ]
          refine walkS_only (i := 13) (o := ⟨some 8, _, _, _, _, _⟩) (by kernel_rfl) rfl rfl fun KK hKK => ?_
          refine wp_alloc_row 23 rfl (keyC zeroKey) Tryd.zeroK fun g11q w12q ng11q => ?_
          have E10q := Lib.hid (E7q.out.new ng11q)
          refine hKK _ _ (.inr (SUB.out _ _ ⟨i + 2, by simp only [List.getElem?_cons_succ]; rw [List.getElem?_set, if_neg NMI.out]; exact HI.out⟩ E10q.out)) ?_
          clear hKK KK
          try simp only [Act.put, List.setIfInBounds_toArray, List.set_cons_zero, List.set_cons_succ]
          exact walkS_listed (by kernel_rfl) (HGO.out _ _ _ _ ⟨_, hn8q, E10q.out⟩)
        · refine wp_alloc_row 23 rfl (keyC zeroKey) Tryd.zeroK fun g14q w15q ng14q => ?_
          have E13q := Lib.hid (E5q.out.new ng14q)
          have YE13q := Lib.hid (V6q.out.keep ng14q.below)
          refine hKK _ _ (.inr (SUB.out _ _ ⟨i + 2, HI.out⟩ E13q.out)) ?_
          clear hKK KK
          try simp only [Act.put, List.setIfInBounds_toArray, List.set_cons_zero, List.set_cons_succ]
          refine walkS_only (i := 12) (o := ⟨some 25, _, _, _, _, _⟩) (by kernel_rfl) rfl rfl fun KK hKK => ?_
          go_simp
          refine (CD.out _ _ (m + 2) _ _ E13q.out HM.out YE13q.out).mono ?_
          intro e w18q h
          obtain ⟨n17q, hn17q, he, tE16q⟩ := h
          subst he
          simp only [List.set_cons_succ] at tE16q
          have E16q := Lib.hid tE16q
          clear tE16q
          refine hKK _ _ (.inr (SUB.out _ _ ⟨i + 2, by simp only [List.getElem?_cons_succ]; rw [List.getElem?_set, if_neg NMI.out]; exact HI.out⟩ E16q.out)) ?_
          clear hKK KK
          try simp only [Act.put, List.setIfInBounds_toArray, List.set_cons_zero, List.set_cons_succ]
          exact walkS_listed (by kernel_rfl) (HGO.out _ _ _ _ ⟨_, hn17q, E16q.out⟩)
      · refine wp_alloc_row 23 rfl (keyC zeroKey) Tryd.zeroK fun g20q w21q ng20q => ?_
        have E19q := Lib.hid (E1q.out.new ng20q)
        have XE19q := Lib.hid (Hu2q.out.below ng20q.below)
        refine hKK _ _ (.inr (SUB.out _ _ ⟨i + 2, HI.out⟩ E19q.out)) ?_
        clear hKK KK
        try simp only [Act.put, List.setIfInBounds_toArray, List.set_cons_zero, List.set_cons_succ]
        refine walkS_only (i := 11) (o := ⟨some 24, _, _, _, _, _⟩) (by kernel_rfl) rfl rfl fun KK hKK => ?_
        go_simp
        have V23q := Lib.hid (Bss.only _ _ nb XE19q.out)
        have E22q := Lib.hid (E19q.out.call (alloc_below _ (.cells #[.slice Au2q nb.length cu2q] 68)))
        refine hKK _ _ (.inr (SUB.out _ _ ⟨i + 2, HI.out⟩ E22q.out)) ?_
        clear hKK KK
        try simp only [Act.put, List.setIfInBounds_toArray, List.set_cons_zero, List.set_cons_succ]
        refine walkS_only (i := 12) (o := ⟨some 25, _, _, _, _, _⟩) (by kernel_rfl) rfl rfl fun KK hKK => ?_
        go_simp
        refine (CD.out _ _ (m + 2) _ _ E22q.out HM.out V23q.out).mono ?_
        intro e w26q h
        obtain ⟨n25q, hn25q, he, tE24q⟩ := h
        subst he
        simp only [List.set_cons_succ] at tE24q
        have E24q := Lib.hid tE24q
        clear tE24q
        refine hKK _ _ (.inr (SUB.out _ _ ⟨i + 2, by simp only [List.getElem?_cons_succ]; rw [List.getElem?_set, if_neg NMI.out]; exact HI.out⟩ E24q.out)) ?_
        clear hKK KK
        try simp only [Act.put, List.setIfInBounds_toArray, List.set_cons_zero, List.set_cons_succ]
        exact walkS_listed (by kernel_rfl) (HGO.out _ _ _ _ ⟨_, hn25q, E24q.out⟩)
    · refine wp_alloc_row 23 rfl (keyC zeroKey) Tryd.zeroK fun g28q w29q ng28q => ?_
      have E27q := Lib.hid (E2.out.drew.new ng28q)
      refine hKK _ _ (.inr (SUB.out _ _ ⟨i + 2, HI.out⟩ E27q.out)) ?_
      clear hKK KK
      try simp only [Act.put, List.setIfInBounds_toArray, List.set_cons_zero, List.set_cons_succ]
      refine walkS_only (i := 10) (o := ⟨some 23, _, _, _, _, _⟩) (by kernel_rfl) rfl rfl fun KK hKK => ?_
      go_simp
      refine (CN.out _).mono ?_
      intro e w33q h
      obtain ⟨u31q, he, hu31q, b32q⟩ := h
      subst he
      have E30q := Lib.hid (E27q.out.call b32q)
      have Hu31q := Lib.hid hu31q
      obtain ⟨Au31q, cu31q, rfl, _, _, _⟩ := hu31q
      refine hKK _ _ (.inr (SUB.out _ _ ⟨i + 2, HI.out⟩ E30q.out)) ?_
      clear hKK KK
      try simp only [Act.put, List.setIfInBounds_toArray, List.set_cons_zero, List.set_cons_succ]
      refine walkS_only (i := 11) (o := ⟨some 24, _, _, _, _, _⟩) (by kernel_rfl) rfl rfl fun KK hKK => ?_
      go_simp
      have V35q := Lib.hid (Bss.only _ _ nb Hu31q.out)
      have E34q := Lib.hid (E30q.out.call (alloc_below _ (.cells #[.slice Au31q nb.length cu31q] 68)))
      refine hKK _ _ (.inr (SUB.out _ _ ⟨i + 2, HI.out⟩ E34q.out)) ?_
      clear hKK KK
      try simp only [Act.put, List.setIfInBounds_toArray, List.set_cons_zero, List.set_cons_succ]
      refine walkS_only (i := 12) (o := ⟨some 25, _, _, _, _, _⟩) (by kernel_rfl) rfl rfl fun KK hKK => ?_
      go_simp
      refine (CD.out _ _ (m + 2) _ _ E34q.out HM.out V35q.out).mono ?_
      intro e w38q h
      obtain ⟨n37q, hn37q, he, tE36q⟩ := h
      subst he
      simp only [List.set_cons_succ] at tE36q
      have E36q := Lib.hid tE36q
      clear tE36q
      refine hKK _ _ (.inr (SUB.out _ _ ⟨i + 2, by simp only [List.getElem?_cons_succ]; rw [List.getElem?_set, if_neg NMI.out]; exact HI.out⟩ E36q.out)) ?_
      clear hKK KK
      try simp only [Act.put, List.setIfInBounds_toArray, List.set_cons_zero, List.set_cons_succ]
      exact walkS_listed (by kernel_rfl) (HGO.out _ _ _ _ ⟨_, hn37q, E36q.out⟩)
  case hgo =>
    intro u v g8 x h
    obtain ⟨n1, hn1, hE⟩ := h
    have E2 := Lib.hid hE
    clear hE
    refine walkS_only (i := 14) (o := ⟨none, _, _, _, _, _⟩) (by kernel_rfl) rfl rfl fun KK hKK => ?_
    refine wp_store_row 23 (.tmp 8) (.tmp 25) rfl g8 23 (keyC zeroKey) (keyC v0) rfl rfl (E2.out.row 0 rfl) (keyC_same zeroKey_length LV.out) (Tryd.sizeKey v0 LV.out) (keyC_one v0) fun w7 p7 => ?_
    have E3 := Lib.hid (E2.out.put 0 rfl p7)
    simp only [List.set_cons_zero] at E3
    have HI2 : Hid (((g8, 23, keyC v0) :: (g6, 23, keyC zeroKey) :: rs.set m (g, 65, mC n1))[i + 2]? = some (b, 35, srcC s k)) := by
      show _ = _
      simp only [List.getElem?_cons_succ]
      rw [List.getElem?_set, if_neg NMI.out]
      exact HI.out
    refine hKK _ _ (.inr (SUB.out _ _ ⟨i + 2, HI2.out⟩ E3.out)) (walkS_done (by kernel_rfl) ?_ _)
    clear hKK KK p7 E2
    have E4 : Hid (Env w0 ((g8, 23, keyC v0) :: (g6, 23, keyC zeroKey) :: (rs.set m (g, 65, mC n1)).set i (b, 35, srcC s k1)) (w7.setCell ⟨b, 32, none⟩ (.int .u64 (k1 : Int)))) := by
      have h := E3.out.cellTo (i + 2) HI2.out 32 (.int .u64 (k1 : Int)) (srcC_set s k LS.out k1)
      simp only [List.set_cons_succ] at h
      exact Lib.hid h
    have c3 := E3.out.cellV (i + 2) HI2.out 32 _ (srcC_32 s k LS.out)
    have f3 := E3.out.fzV (i + 2) HI2.out 32
    go_wp2_with (first
      | (with_reducible refine wpE_load (o := ⟨some 33, _, _, _, _, _⟩) rfl 23 (.tmp 8) rfl 0 g8 23 (keyC v0) _ (by with_unfolding_all rfl) (by with_unfolding_all rfl) Tryd.underlying23 rfl (Tryd.sizeKey _ LV.out) E4.out ?_)
      | ((with_reducible refine wpE_store (o := ⟨none, _, _, _, _, _⟩) rfl 23 (.tmp 6) (.tmp 33) rfl 1 g6 23 (keyC zeroKey) (keyC v0) (by with_unfolding_all rfl) (by with_unfolding_all rfl) (by with_unfolding_all rfl) (keyC_same zeroKey_length LV.out) (Tryd.sizeKey _ LV.out) (keyC_one _) E4.out ?_); intro w10 T10; simp only [List.set_cons_zero, List.set_cons_succ] at T10; have E10 := Lib.hid T10; clear T10))
    exact bodyPost_ret (ret_row_tmp rfl _ g6 23 (keyC v0) (.array 32 5) rfl (E10.out.row 1 rfl) Tryd.underlying23 rfl (Tryd.sizeKey _ LV.out)) rfl ⟨n1, hn1, rfl, E10.out.tl.tl⟩

set_option maxHeartbeats 2000000 in
theorem next_not (w0 w : World) (rs : List (Nat × TypeId × Array Value)) (i b : Nat) (hE : Env w0 rs w) (s : List UInt8) (k : Nat) (hs : s.length = 32) (hi : rs[i]? = some (b, 35, srcC s k)) (hk : k = 18446744073709551615) (M : Value) (lab : ByteArray) :
    Calls Tryd.prog 7 #[.pointer (some ⟨b, 0, none⟩), M, .string lab] w (RetV w (.tuple #[.agg (keyC zeroKey), .int .i64 70])) := by
  have HI := Lib.hid hi
  have E0 := Lib.hid (Env.start w)
  have LS := Lib.hid hs
  have CL : Hid (∀ x, Below w.heap.size w x → Calls Tryd.prog 14 #[.pointer (some ⟨b, 0, none⟩)] x (RetV x (.int .u64 0))) := fun x hx => left_any w0 x rs i b (hE.call hx) s k LS.out HI.out (by omega) 0 (by omega)
  clear hi hE hs hk
  go_enter Tryd.func7, Tryd.ntmps7
  go_wp2_with ((with_reducible refine wpE_alloc (o := ⟨some 6, _, _, _, _, _⟩) rfl 23 rfl (keyC zeroKey) Tryd.zeroK E0.out ?_); intro g6 w1 T1; have E1 := Lib.hid T1; clear T1)
  refine (CL.out _ E1.out.below).mono ?_
  intro e w2 h
  obtain ⟨he, b2⟩ := h
  subst he
  have E2 := Lib.hid (E1.out.call b2)
  clear b2 E1 E0
  go_wp2_with (first
    | ((with_reducible refine wpE_store (o := ⟨none, _, _, _, _, _⟩) rfl 23 (.tmp 6) (.tmp 12) rfl 0 g6 23 (keyC zeroKey) (keyC zeroKey) (by with_unfolding_all rfl) (by with_unfolding_all rfl) (by with_unfolding_all rfl) rfl (Tryd.sizeKey _ zeroKey_length) (keyC_one _) E2.out ?_); intro w10 T10; simp only [List.set_cons_zero] at T10; have E10 := Lib.hid T10; clear T10))
  exact bodyPost_ret (ret_row_tmp rfl _ g6 23 (keyC zeroKey) (.array 32 5) rfl (E10.out.row 0 rfl) Tryd.underlying23 rfl (Tryd.sizeKey _ zeroKey_length)) rfl ⟨rfl, E10.out.below⟩
end Go.Proofs.YtjlhmcnajgafgaaDoor
end
section
namespace Go.Proofs.YtjlhmcnajgafgaaDoor
open Go.RowKit
set_option linter.unusedVariables false
set_option maxRecDepth 20000

section
variable {rs ex : List (Nat × TypeId × Array Value)} {m i j : Nat} {x y x' y' p q : Nat × TypeId × Array Value}
/-- Two of the rows are others. -/
def two (rs : List (Nat × TypeId × Array Value)) (m : Nat) (x : Nat × TypeId × Array Value) (i : Nat) (y : Nat × TypeId × Array Value) : List (Nat × TypeId × Array Value) := (rs.set m x).set i y
theorem two_id (hm : rs[m]? = some x) (hi : rs[i]? = some y) : two rs m x i y = rs := by rw [two, set_id hm, set_id hi]
theorem two_i (hi : rs[i]? = some q) : (two rs m x i y)[i]? = some y := by
  have h := (List.getElem?_eq_some_iff.1 hi).1
  rw [two, List.getElem?_set, if_pos rfl, if_pos (by rw [List.length_set]; exact h)]
theorem two_m (hm : rs[m]? = some p) (h : m ≠ i) : (two rs m x i y)[m]? = some x := by
  rw [two, List.getElem?_set, if_neg (Ne.symm h)]
  exact set_at hm
theorem two_j (h1 : m ≠ j) (h2 : i ≠ j) : (two rs m x i y)[j]? = rs[j]? := by
  rw [two, List.getElem?_set, if_neg h2, List.getElem?_set, if_neg h1]
theorem two_two (h : m ≠ i) : ((two rs m x i y).set m x').set i y' = two rs m x' i y' := by
  rw [two, List.set_comm _ _ (Ne.symm h), List.set_set, List.set_set, two]
theorem two_ex (hm : rs[m]? = some p) (hi : rs[i]? = some q) (h : m ≠ i) : (((two rs m x i y) ++ ex).set m x').set i y' = two rs m x' i y' ++ ex := by
  have h1 : m < (two rs m x i y).length := by rw [two, List.length_set, List.length_set]; exact (List.getElem?_eq_some_iff.1 hm).1
  have h2 : i < ((two rs m x i y).set m x').length := by rw [two, List.length_set, List.length_set, List.length_set]; exact (List.getElem?_eq_some_iff.1 hi).1
  rw [List.set_append_left _ _ h1, List.set_append_left _ _ h2, two_two h]
theorem two_top (hm : rs[m]? = some p) (hi : rs[i]? = some q) (h : m ≠ i) (h1 : x.1 = p.1) (h2 : y.1 = q.1) : topOf (two rs m x i y) = topOf rs := by
  obtain ⟨x1, x2, x3⟩ := x
  obtain ⟨y1, y2, y3⟩ := y
  obtain ⟨p1, p2, p3⟩ := p
  obtain ⟨q1, q2, q3⟩ := q
  simp only at h1 h2
  subst h1 h2
  have e : (rs.set m (x1, x2, x3))[i]? = some (y1, q2, q3) := by rw [List.getElem?_set, if_neg h]; exact hi
  rw [two, topOf_set e, topOf_set hm]
end
/-- A list of labels' cells. -/
def labC (ls : List ByteArray) : Array Value := (ls.map Value.string).toArray
/-- The first c draws for some labels, from number k on. -/
def drawsB (s : List UInt8) (k : Nat) (ls : List ByteArray) (c : Nat) : List (List UInt8) := (List.range c).map fun j => drawB s (k + j) (ls.getD j ByteArray.empty)
section
variable (s : List UInt8) (k : Nat) (ls : List ByteArray) (c : Nat)
theorem drawsB_length : (drawsB s k ls c).length = c := by simp [drawsB]
theorem drawsB_len : ∀ l ∈ drawsB s k ls c, l.length = 32 := fun l h => by
  obtain ⟨j, _, rfl⟩ := List.mem_map.1 h
  exact drawB_length _ _ _
theorem drawsB_next (lab : ByteArray) (h : ls[c]? = some lab) : drawsB s k ls (c + 1) = drawsB s k ls c ++ [drawB s (k + c) lab] := by
  rw [drawsB, List.range_succ, List.map_append, drawsB]
  simp [List.getD_eq_getElem?_getD, h]
end
/-- append of a key, in a region. -/
theorem wpList_appKeyE {P : Program} {w0 w : World} {rs ex : List (Nat × TypeId × Array Value)} {ops : Array Oper} {rest : List Oper} {o : Oper} {a : Act} {Q : Exit → Act → World → Prop} (hgd : o.guard = none) (s x : Operand) (t : TypeId)
    (ho : o.op = .call { callee := .builtin .append, args := #[s, x], argTypes := #[t, t] })
    (hinfo : (P.info? 23).map (fun i => (i.zero, i.size, i.bytes)) = some (some (.agg (keyC zeroKey)), 32, 32)) (ht : P.underlying t = some (.slice 23))
    (base : Nat) (v : Value) (ls : List (List UInt8)) (l : List UInt8) (b : Nat) (hs : a.eval s = v) (hx : a.eval x = .slice (some ⟨b, 0, none⟩) 1 1) (hb : RowAt w b 23 (keyC l)) (hll : l.length = 32) (hls : ∀ l ∈ ls, l.length = 32)
    (hex : exRow v ls base ex) (hE : Env w0 (rs ++ ex) w) (hB : ∀ r ∈ rs, r.1 < base) (h0 : w0.heap.size ≤ base) (hbw : base ≤ w.heap.size) (hn : ls.length ≤ 1000)
    (h : ∀ v' w' ex', exRow v' (ls ++ [l]) base ex' → Env w0 (rs ++ ex') w' → wpList P ops Q rest (a.put o.dst v') w') : wpList P ops Q (o :: rest) a w :=
  wpList_plain hgd fun _ hK => wp_appKey s x t ho hinfo ht base v ls l b hs hx hb hll hls hex hE hB h0 hbw hn fun v' w' ex' h1 h2 _ => hK _ _ (h v' w' ex' h1 h2)
theorem Kl.ex {w0 x : World} {v : Value} {ls : List (List UInt8)} {base : Nat} {rs ex : List (Nat × TypeId × Array Value)} (h : exRow v ls base ex) (hl : ∀ l ∈ ls, l.length = 32) (hE : Env w0 (rs ++ ex) x) : Kl x v ls := by
  rcases h with ⟨_, rfl, rfl⟩ | ⟨g, cap, cur, rfl, rfl, h1, h2, h3, h4, h5⟩
  · exact Kl.nil x
  · have hr : RowAt x g 23 cur := (hE.rows (g, 23, cur) (List.mem_append_right _ (List.mem_singleton.2 rfl))).1
    refine ⟨some ⟨g, 0, none⟩, cap, rfl, h2, h3, hl, fun h0 => ⟨g, 0, rfl, fun k l hk => ?_⟩⟩
    have h6 := rangeAt_row (k := k * 32) (n := (cellsB l).length) hr
    have e : (cur.toList.drop (k * 32)).take (cellsB l).length = cellsB l := by
      have hkl := (List.getElem?_eq_some_iff.1 hk).1
      have h7 := keys_part ls hl k l hk
      have h8 : (keyC ls.flatten).toList = cur.toList.take (ls.length * 32) := h5.symm
      rw [h8, List.drop_take, List.take_take] at h7
      have h9 := hl l (List.mem_of_getElem? hk)
      rw [cellsB_length, h9] at h7 ⊢
      have h10 : min 32 (ls.length * 32 - k * 32) = 32 := by omega
      rw [h10] at h7
      exact h7
    rw [e] at h6
    rwa [Nat.zero_add]
end Go.Proofs.YtjlhmcnajgafgaaDoor
end
section
namespace Go.Proofs.YtjlhmcnajgafgaaDoor
open Go.RowKit
set_option linter.unusedVariables false
set_option maxRecDepth 20000

set_option maxHeartbeats 8000000 in
theorem some_env (w0 w : World) (ht : Tabs w0) (rs : List (Nat × TypeId × Array Value)) (m g n i b : Nat) (hE : Env w0 rs w) (hm : rs[m]? = some (g, 65, mC n)) (hn : n ≤ 800000) (s : List UInt8) (k : Nat) (hs : s.length = 32) (hi : rs[i]? = some (b, 35, srcC s k))
    (j lb : Nat) (ls : List ByteArray) (hj : rs[j]? = some (lb, 9, labC ls)) (hll : ls.length ≤ 100) (hls : ∀ l ∈ ls, l.size ≤ 1000) (hk : k + ls.length ≤ 18446744073709551615) :
    Calls Tryd.prog 9 #[.pointer (some ⟨b, 0, none⟩), .pointer (some ⟨g, 0, none⟩), .slice (some ⟨lb, 0, none⟩) ls.length ls.length] w fun e w' => ∃ v n' ex, n' ≤ n + 3 * ls.length ∧ e = .returned (.tuple #[v, .int .i64 0]) ∧ exRow v (drawsB s k ls ls.length) (topOf rs) ex ∧ Env w0 (two rs m (g, 65, mC n') i (b, 35, srcC s (k + ls.length)) ++ ex) w' := by
  have HT := Lib.hid ht
  have E0 := Lib.hid hE
  have HM := Lib.hid hm
  have HI := Lib.hid hi
  have LS := Lib.hid hs
  have hmi : m ≠ i := fun e => by
    rw [← e, hm] at hi
    injection hi with hi
    injection hi with _ hi
    injection hi with hi
    exact absurd hi (by decide)
  have hmj : m ≠ j := fun e => by
    rw [← e, hm] at hj
    injection hj with hj
    injection hj with _ hj
    injection hj with hj
    exact absurd hj (by decide)
  have hij : i ≠ j := fun e => by
    rw [← e, hi] at hj
    injection hj with hj
    injection hj with _ hj
    injection hj with hj
    exact absurd hj (by decide)
  obtain ⟨N, hN⟩ : ∃ N, N = ls.length := ⟨_, rfl⟩
  have HN := Lib.hid hN
  rw [← hN] at hll hk ⊢
  have E1 : Hid (Env w0 (two rs m (g, 65, mC n) i (b, 35, srcC s (k + 0)) ++ []) w) := by
    show Env _ _ _
    rw [List.append_nil, Nat.add_zero, two_id hm hi]
    exact hE
  have CN : Hid (∀ x n' c ex lab, c < N → n' ≤ 800000 + 3 * c → lab.size ≤ 1000 → Env w0 (two rs m (g, 65, mC n') i (b, 35, srcC s (k + c)) ++ ex) x → Calls Tryd.prog 7 #[.pointer (some ⟨b, 0, none⟩), .pointer (some ⟨g, 0, none⟩), .string lab] x fun e w' => ∃ n'', n'' ≤ n' + 3 ∧ e = .returned (.tuple #[.agg (keyC (drawB s (k + c) lab)), .int .i64 0]) ∧ Env w0 (two rs m (g, 65, mC n'') i (b, 35, srcC s (k + (c + 1))) ++ ex) w') := fun x n' c ex lab h1 h2 h3 h4 => by
    refine (next_env w0 x HT.out _ m g n' i b h4 (at_left (two_m hm hmi)) (by omega) s (k + c) LS.out (at_left (two_i hi)) (by omega) lab h3).mono fun e w' h => ?_
    obtain ⟨n'', h5, h6, h7⟩ := h
    rw [two_ex hm hi hmi] at h7
    exact ⟨n'', h5, h6, h7⟩
  have HC : Hid (∀ x n' c ex lab, ls[c]? = some lab → Env w0 (two rs m (g, 65, mC n') i (b, 35, srcC s (k + c)) ++ ex) x → x.cell? ⟨lb, c, none⟩ = some (.string lab)) := fun x n' c ex lab h1 h2 =>
    h2.cellV j (at_left ((two_j hmj hij).trans hj)) c _ (by simp [labC, h1])
  have HB : Hid (∀ n' c, ∀ r ∈ two rs m (g, 65, mC n') i (b, 35, srcC s (k + c)), r.1 < topOf rs) := fun n' c r hr => by
    rw [← two_top (x := (g, 65, mC n')) (y := (b, 35, srcC s (k + c))) hm hi hmi rfl rfl]
    exact lt_topOf r hr
  have HBL : Hid (∀ n' c ex x, Env w0 (two rs m (g, 65, mC n') i (b, 35, srcC s (k + c)) ++ ex) x → topOf rs ≤ x.heap.size) := fun n' c ex x h => by
    rw [← two_top (x := (g, 65, mC n')) (y := (b, 35, srcC s (k + c))) hm hi hmi rfl rfl]
    exact topOf_le fun r hr => (h.rows r (List.mem_append_left _ hr)).1.lt
  have HW : Hid (w0.heap.size ≤ topOf rs) := Nat.le_trans (hE.spot m hm) (Nat.le_of_lt (lt_topOf _ (List.mem_of_getElem? hm)))
  have LD : Hid (∀ c lab, (drawB s (k + c) lab).length = 32) := fun c lab => drawB_length _ _ _
  have DL : Hid (∀ c, ∀ l ∈ drawsB s k ls c, l.length = 32) := fun c l h => drawsB_len s k ls c l h
  have HNX : Hid (∀ c lab, ls[c]? = some lab → drawsB s k ls (c + 1) = drawsB s k ls c ++ [drawB s (k + c) lab]) := fun c lab h => drawsB_next s k ls c lab h
  have HSZ : Hid (∀ c, c < N → ∃ lab, ls[c]? = some lab ∧ lab.size ≤ 1000) := fun c h => ⟨ls[c]'(by omega), List.getElem?_eq_getElem _, hls _ (List.getElem_mem _)⟩
  have DN : Hid (∀ c, (drawsB s k ls c).length = c) := fun c => drawsB_length s k ls c
  have HD0 : Hid (drawsB s k ls 0 = []) := rfl
  obtain ⟨l, hl⟩ : ∃ l, l = 18446744073709551615 - k := ⟨_, rfl⟩
  have hlN : ¬ ((l : Int) < (N : Int)) := by omega
  have hlN2 : ¬ (l < N) := by omega
  have hlN3 : decide (l < N) = false := by simpa using hlN2
  have CL : Hid (∀ x, Env w0 rs x → Calls Tryd.prog 14 #[.pointer (some ⟨b, 0, none⟩)] x (RetV x (.int .u64 (l : Int)))) := fun x h => left_any w0 x rs i b h s k LS.out HI.out (by omega) l hl
  have HKN : Hid (k + N ≤ 18446744073709551615) := hk
  clear ht hm hi hj hE hs hmi hmj hij hN hls hl hk
  generalize topOf rs = base at HB HBL HW ⊢
  generalize drawsB s k ls = D at DL HNX DN HD0 ⊢
  go_enter Tryd.func9, Tryd.ntmps9
  go_wp2_with fail
  refine (CL.out _ E0.out).mono ?_
  intro e w2 h
  obtain ⟨he, b2⟩ := h
  subst he
  have E2 := Lib.hid (E1.out.call b2)
  clear b2 E1 E0 CL
  go_wp2_with fail
  go_loopw [8, 21] (fun v q wr => ∃ (c n' : Nat) (ex : List (Nat × TypeId × Array Value)), c ≤ N ∧ n' ≤ n + 3 * c ∧ q = .int .i64 (c : Int) ∧ exRow v (D c) base ex ∧ Env w0 (two rs m (g, 65, mC n') i (b, 35, srcC s (k + c)) ++ ex) wr) (fun _ q _ => N - (intOf q).toNat)
  case atStart => exact ⟨0, n, [], by omega, by omega, rfl, .inl ⟨rfl, rfl, HD0.out⟩, E2.out⟩
  case round =>
    clear E2
    obtain ⟨c, n', ex, hc, hn', rfl, hX, hE⟩ := hrel
    have X := Lib.hid hX
    have E := Lib.hid hE
    clear hX hE
    by_cases hlt : c < N
    · have hlt2 : (c : Int) < (N : Int) := by omega
      have hw2 : IntKind.i64.wrap ((c : Int) + 1) = (c : Int) + 1 := IntWalk.i64_in _ (by omega)
      have hq0 : ¬ ((c : Int) < 0) := by omega
      obtain ⟨lab, hlab, hsz⟩ := HSZ.out c hlt
      have HL := Lib.hid hlab
      have cl := HC.out wr n' c ex lab hlab E.out
      have CNC := Lib.hid (CN.out wr n' c ex lab hlt (by omega) hsz E.out)
      have NXC := Lib.hid (HNX.out c lab hlab)
      have DNC : Hid ((D c).length ≤ 1000) := by show _ ≤ _; rw [DN.out]; omega
      have LDD := Lib.hid (LD.out c lab)
      generalize drawB s (k + c) lab = d at CNC NXC LDD
      clear hlab hsz
      go_wp2_with fail
      refine CNC.out.mono ?_
      intro e w3 h
      obtain ⟨n3, hn3, he, h3⟩ := h
      subst he
      have E3 := Lib.hid h3
      clear h3 CNC cl
      go_wp2_with (first
        | ((with_reducible refine wpE_alloc (o := ⟨some 11, _, _, _, _, _⟩) rfl 23 rfl (keyC zeroKey) Tryd.zeroK E3.out ?_); intro g1 w4 T4; have E4 := Lib.hid T4; clear T4)
        | ((with_reducible refine wpE_store (o := ⟨none, _, _, _, _, _⟩) rfl 23 (.tmp 11) (.tmp 30) rfl 0 g1 23 (keyC zeroKey) (keyC d) (by with_unfolding_all rfl) (by with_unfolding_all rfl) (by with_unfolding_all rfl) (keyC_same zeroKey_length LDD.out) (Tryd.sizeKey _ LDD.out) (keyC_one _) E4.out ?_); intro w5 T5; simp only [List.set_cons_zero] at T5; have E5 := Lib.hid T5; clear T5)
        | (with_reducible refine wpE_load (o := ⟨some 36, _, _, _, _, _⟩) rfl 23 (.tmp 11) rfl 0 g1 23 (keyC d) _ (by with_unfolding_all rfl) (by with_unfolding_all rfl) Tryd.underlying23 rfl (Tryd.sizeKey _ LDD.out) E5.out ?_)
        | ((with_reducible refine wpList_oneKey (o := ⟨some 37, _, _, _, _, _⟩) rfl (.tmp 36) rfl d LDD.out (by with_unfolding_all rfl) ?_); intro g6 w6 r6 b6; have R6 := Lib.hid r6; have E6 := Lib.hid (E5.out.tl.call b6); clear r6 b6)
        | (at_builtin; refine wpList_appKeyE rfl (.tmp 35) (.tmp 37) 40 rfl (by kernel_rfl) Tryd.underlying40 base u8 (D c) d g6 rfl rfl R6.out LDD.out (DL.out c) X.out E6.out (HB.out n3 (c + 1)) HW.out (HBL.out n3 (c + 1) _ _ E6.out) DNC.out ?_; intro v7 w7 ex7 X7 T7; have X8 := Lib.hid X7; have E7 := Lib.hid T7; clear X7 T7))
      try go_roundw
      · exact ⟨c + 1, n3, ex7, by omega, by omega, by congr 1, by rw [NXC.out]; exact X8.out, E7.out⟩
      · show N - ((c : Int) + 1).toNat < N - (c : Int).toNat
        omega
    · have hc2 : c = N := by omega
      clear hlt
      subst hc2
      go_wp2_with fail
      exact bodyPost_ret (results_tmp2 rfl _ _ _) rfl ⟨_, n', ex, hn', rfl, X.out, E.out⟩
set_option maxHeartbeats 2000000 in
theorem some_not (w0 w : World) (rs : List (Nat × TypeId × Array Value)) (i b : Nat) (hE : Env w0 rs w) (s : List UInt8) (k : Nat) (hs : s.length = 32) (hi : rs[i]? = some (b, 35, srcC s k)) (M : Value) (A : Option Addr) (N c : Nat) (hN : N ≤ 100) (hk0 : k ≤ 18446744073709551615) (hk : 18446744073709551615 < k + N) :
    Calls Tryd.prog 9 #[.pointer (some ⟨b, 0, none⟩), M, .slice A N c] w (RetV w (.tuple #[.slice none 0 0, .int .i64 70])) := by
  obtain ⟨l, hl⟩ : ∃ l, l = 18446744073709551615 - k := ⟨_, rfl⟩
  have hlN : (l : Int) < (N : Int) := by omega
  have CL : Hid (Calls Tryd.prog 14 #[.pointer (some ⟨b, 0, none⟩)] w (RetV w (.int .u64 (l : Int)))) := left_any w0 w rs i b hE s k hs hi (by omega) l hl
  clear hi hE hs hk hl
  go_enter Tryd.func9, Tryd.ntmps9
  go_wp2_with fail
  refine CL.out.mono ?_
  intro e w2 h
  obtain ⟨he, b2⟩ := h
  subst he
  have B2 := Lib.hid b2
  clear b2 CL
  go_wp2_with fail
  exact bodyPost_ret (results_tmp2 rfl _ _ _) rfl ⟨rfl, B2.out⟩
end Go.Proofs.YtjlhmcnajgafgaaDoor
end
section
namespace Go.Proofs.YtjlhmcnajgafgaaDoor
open Go.RowKit
set_option linter.unusedVariables false
set_option maxRecDepth 20000

set_option maxHeartbeats 8000000 in
theorem refNext_env (w0 w : World) (rs : List (Nat × TypeId × Array Value)) (m g n i b : Nat) (hE : Env w0 rs w) (hm : rs[m]? = some (g, 32, logC n)) (hn : n ≤ 900000) (s : List UInt8) (k : Nat) (hs : s.length = 32) (hi : rs[i]? = some (b, 37, srcC s k)) (hk : k < 18446744073709551615) (lab : ByteArray) (hlab : lab.size ≤ 1000) :
    Calls Tryd.prog 8 #[.pointer (some ⟨b, 0, none⟩), .pointer (some ⟨g, 0, none⟩), .string lab] w fun e w' => ∃ n', n' ≤ n + 3 ∧ e = .returned (.tuple #[.agg (keyC (drawB s k lab)), .int .i64 0]) ∧ Env w0 ((rs.set m (g, 32, logC n')).set i (b, 37, srcC s (k + 1))) w' := by
  have HM := Lib.hid hm
  have HI := Lib.hid hi
  have E0 := Lib.hid hE
  have LS := Lib.hid hs
  have hmi : m ≠ i := fun e => by
    rw [← e, hm] at hi
    injection hi with hi
    injection hi with _ hi
    injection hi with hi
    exact absurd hi (by decide)
  have NMI := Lib.hid hmi
  obtain ⟨v0, hv0⟩ : ∃ v, v = drawB s k lab := ⟨_, rfl⟩
  have LV : Hid (v0.length = 32) := by show _ = _; rw [hv0]; exact drawB_length _ _ _
  obtain ⟨nb, hnb⟩ : ∃ z, z = hi8 k := ⟨_, rfl⟩
  have LN : Hid (nb.length = 8) := by show _ = _; rw [hnb]; exact hi8_length _
  have CN : Hid (∀ w, Calls Tryd.prog 18 #[.int .u64 (k : Int), .int .i64 8] w (RetBs w nb)) := fun w => by rw [hnb]; exact refHi8_any w k (by omega)
  have CD : Hid (∀ x rs' m' A cc, Env w0 rs' x → rs'[m']? = some (g, 32, logC n) → Bss x (.slice A 1 cc) [nb] → Calls Tryd.prog 17 #[.pointer (some ⟨g, 0, none⟩), .agg (keyC s), .string lab, .slice A 1 cc] x fun e w' => ∃ n', n' ≤ n + 3 ∧ e = .returned (.agg (keyC v0)) ∧ Env w0 (rs'.set m' (g, 32, logC n')) w') := fun x rs' m' A cc h1 h2 h3 => by
    rw [hv0, drawB, ← hnb]
    exact refKey_env w0 x rs' m' g n h1 h2 hn s LS.out lab hlab [nb] (by simp) (by simp [LN.out]) A cc h3
  obtain ⟨k1, hk1⟩ : ∃ k1, k1 = k + 1 := ⟨_, rfl⟩
  have hw1 : IntKind.u64.wrap ((k : Int) + 1) = (k1 : Int) := by rw [IntKind.wrap_u64]; omega
  have hkm : ¬ ((k : Int) = 18446744073709551615) := by omega
  have hkm1 : ((k : Int) == 18446744073709551615) = false := by simpa using hkm
  rw [← hv0, ← hk1]
  clear hm hi hE hs hmi hv0 hnb hk hlab hk1
  go_enter Tryd.func8, Tryd.ntmps8
  have c0 := fun x rs' i' (h1 : Env w0 rs' x) (h2 : rs'[i']? = some (b, 37, srcC s k)) => h1.cellV i' h2 32 _ (srcC_32 s k LS.out)
  have C0 := Lib.hid c0
  clear c0
  go_wp2_with ((with_reducible refine wpE_alloc (o := ⟨some 6, _, _, _, _, _⟩) rfl 23 rfl (keyC zeroKey) Tryd.zeroK E0.out ?_); intro g6 w1 T1; have E1 := Lib.hid T1; clear T1; have c1 := C0.out _ _ (i + 1) E1.out HI.out)
  have E2 := E1
  clear c1 E1 E0
  refine plain_region (S := fun x => Env w0 [(b, 37, srcC s k)] x) (fin := fun _ => false) (by kernel_rfl) ?_
  have sub : ∀ (l : List (Nat × TypeId × Array Value)) x, (∃ j, l[j]? = some (b, 37, srcC s k)) → Env w0 l x → Env w0 [(b, 37, srcC s k)] x := fun l x ⟨j, hj⟩ h => h.less (List.singleton_sublist.2 (List.mem_of_getElem? hj))
  have SUB := Lib.hid sub
  clear sub
  have hS : Env w0 [(b, 37, srcC s k)] w1.drew := SUB.out _ _ ⟨i + 1, HI.out⟩ E2.out.drew
  change walkS _ _ _ _ _ _ 15 _ _ _
  refine walkS_take (i := 0) (oi := ⟨some 15, _, _, _, _, _⟩) (v := .pointer (some ⟨g, 0, none⟩)) rfl (by kernel_rfl) (by kernel_rfl) (fun _ _ _ h => h) _ _ _ _ (by kernel_rfl) (by kernel_rfl) (Or.inl ⟨by rfl, fun w' hS' => (by first | rfl | (clear hS hS'; go_simp))⟩) hS ?_
  try simp only [Act.put, List.setIfInBounds_toArray, List.set_cons_zero, List.set_cons_succ]
  refine walkS_take (i := 1) (oi := ⟨some 16, _, _, _, _, _⟩) (v := .pointer (some ⟨b, 0, none⟩)) rfl (by kernel_rfl) (by kernel_rfl) (fun _ _ _ h => h) _ _ _ _ (by kernel_rfl) (by kernel_rfl) (Or.inl ⟨by rfl, fun w' hS' => (by first | rfl | (clear hS hS'; go_simp))⟩) hS ?_
  try simp only [Act.put, List.setIfInBounds_toArray, List.set_cons_zero, List.set_cons_succ]
  refine walkS_take (i := 2) (oi := ⟨some 17, _, _, _, _, _⟩) (v := .pointer (some ⟨b, 0, none⟩)) rfl (by kernel_rfl) (by kernel_rfl) (fun _ _ _ h => h) _ _ _ _ (by kernel_rfl) (by kernel_rfl) (Or.inl ⟨by rfl, fun w' hS' => (by first | rfl | (clear hS hS'; go_simp))⟩) hS ?_
  try simp only [Act.put, List.setIfInBounds_toArray, List.set_cons_zero, List.set_cons_succ]
  refine walkS_take (i := 3) (oi := ⟨some 18, _, _, _, _, _⟩) (v := .pointer (some ⟨b, 0, none⟩)) rfl (by kernel_rfl) (by kernel_rfl) (fun _ _ _ h => h) _ _ _ _ (by kernel_rfl) (by kernel_rfl) (Or.inl ⟨by rfl, fun w' hS' => (by first | rfl | (clear hS hS'; go_simp))⟩) hS ?_
  try simp only [Act.put, List.setIfInBounds_toArray, List.set_cons_zero, List.set_cons_succ]
  refine walkS_take (i := 4) (oi := ⟨some 19, _, _, _, _, _⟩) (v := .agg (keyC s)) rfl (by kernel_rfl) (by kernel_rfl) (fun _ _ _ h => h) _ _ _ _ (by kernel_rfl) (by kernel_rfl) (Or.inl ⟨by rfl, fun w' hS' => (run_partK 23 (.tmp 18) rfl b 0 rfl 37 _ s _ (hS'.row 0 rfl) (srcC_seed s k) Tryd.underlying23 rfl (Tryd.sizeKeyM s LS.out))⟩) hS ?_
  try simp only [Act.put, List.setIfInBounds_toArray, List.set_cons_zero, List.set_cons_succ]
  refine walkS_take (i := 5) (oi := ⟨some 20, _, _, _, _, _⟩) (v := .string lab) rfl (by kernel_rfl) (by kernel_rfl) (fun _ _ _ h => h) _ _ _ _ (by kernel_rfl) (by kernel_rfl) (Or.inl ⟨by rfl, fun w' hS' => (by first | rfl | (clear hS hS'; go_simp))⟩) hS ?_
  try simp only [Act.put, List.setIfInBounds_toArray, List.set_cons_zero, List.set_cons_succ]
  refine walkS_take (i := 6) (oi := ⟨some 21, _, _, _, _, _⟩) (v := .pointer (some ⟨b, 0, none⟩)) rfl (by kernel_rfl) (by kernel_rfl) (fun _ _ _ h => h) _ _ _ _ (by kernel_rfl) (by kernel_rfl) (Or.inl ⟨by rfl, fun w' hS' => (by first | rfl | (clear hS hS'; go_simp))⟩) hS ?_
  try simp only [Act.put, List.setIfInBounds_toArray, List.set_cons_zero, List.set_cons_succ]
  refine walkS_take (i := 7) (oi := ⟨some 22, _, _, _, _, _⟩) (v := .pointer (some ⟨b, 0, none⟩)) rfl (by kernel_rfl) (by kernel_rfl) (fun _ _ _ h => h) _ _ _ _ (by kernel_rfl) (by kernel_rfl) (Or.inl ⟨by rfl, fun w' hS' => (by first | rfl | (clear hS hS'; go_simp))⟩) hS ?_
  try simp only [Act.put, List.setIfInBounds_toArray, List.set_cons_zero, List.set_cons_succ]
  refine walkS_take (i := 8) (oi := ⟨some 23, _, _, _, _, _⟩) (v := .pointer (some ⟨b, 32, none⟩)) rfl (by kernel_rfl) (by kernel_rfl) (fun _ _ _ h => h) _ _ _ _ (by kernel_rfl) (by kernel_rfl) (Or.inl ⟨by rfl, fun w' hS' => (by first | rfl | (clear hS hS'; go_simp))⟩) hS ?_
  try simp only [Act.put, List.setIfInBounds_toArray, List.set_cons_zero, List.set_cons_succ]
  refine walkS_take (i := 9) (oi := ⟨some 24, _, _, _, _, _⟩) (v := .int .u64 (k : Int)) rfl (by kernel_rfl) (by kernel_rfl) (fun _ _ _ h => h) _ _ _ _ (by kernel_rfl) (by kernel_rfl) (Or.inl ⟨by rfl, fun w' hS' => (by have c := hS'.cellV 0 rfl 32 _ (srcC_32 s k LS.out); clear hS hS'; go_simp)⟩) hS ?_
  try simp only [Act.put, List.setIfInBounds_toArray, List.set_cons_zero, List.set_cons_succ]
  clear hS
  apply shared3 (A := fun u v g8 => ⟨#[.pointer (some ⟨b, 0, none⟩), .pointer (some ⟨g, 0, none⟩), .string lab, undef, undef, undef, .pointer (some ⟨g6, 0, none⟩), .int .i64 0, .pointer (some ⟨g8, 0, none⟩), .pointer (some ⟨b, 0, none⟩), .pointer (some ⟨b, 0, none⟩), .pointer (some ⟨b, 32, none⟩), .int .u64 (k : Int), .bool false, undef, .pointer (some ⟨g, 0, none⟩), .pointer (some ⟨b, 0, none⟩), .pointer (some ⟨b, 0, none⟩), .pointer (some ⟨b, 0, none⟩), .agg (keyC s), .string lab, .pointer (some ⟨b, 0, none⟩), .pointer (some ⟨b, 0, none⟩), .pointer (some ⟨b, 32, none⟩), .int .u64 (k : Int), u, v, .agg (keyC v0), undef, undef, undef, undef, undef, undef, undef, undef], []⟩) (L' := #[true, true, true, true, true, true, true, true, true, true, true, true, true, true, false]) (m' := 1) (fun u v g8 x => ∃ n', n' ≤ n + 3 ∧ Env w0 ((g8, 23, keyC zeroKey) :: (g6, 23, keyC zeroKey) :: rs.set m (g, 32, logC n')) x)
  case h =>
    intro HGO0
    have HGO := Lib.hid HGO0
    clear HGO0
    refine walkS_two (i := 10) (j := 13) (oi := ⟨some 25, _, _, _, _, _⟩) (oj := ⟨some 8, _, _, _, _, _⟩) (by kernel_rfl) rfl rfl rfl rfl (fun KK hKK => ?_) (fun KK hKK => ?_)
    · go_simp
      refine (CN.out _).mono ?_
      intro e w4q h
      obtain ⟨u2q, he, hu2q, b3q⟩ := h
      subst he
      have E1q := Lib.hid (E2.out.drew.call b3q)
      have Hu2q := Lib.hid hu2q
      obtain ⟨Au2q, cu2q, rfl, _, _, _⟩ := hu2q
      refine hKK _ _ (.inr (SUB.out _ _ ⟨i + 1, HI.out⟩ E1q.out)) ?_
      clear hKK KK
      try simp only [Act.put, List.setIfInBounds_toArray, List.set_cons_zero, List.set_cons_succ]
      refine walkS_two (i := 11) (j := 13) (oi := ⟨some 26, _, _, _, _, _⟩) (oj := ⟨some 8, _, _, _, _, _⟩) (by kernel_rfl) rfl rfl rfl rfl (fun KK hKK => ?_) (fun KK hKK => ?_)
      · go_simp
        have V6q := Lib.hid (Bss.only _ _ nb Hu2q.out)
        have E5q := Lib.hid (E1q.out.call (alloc_below _ (.cells #[.slice Au2q nb.length cu2q] 68)))
        refine hKK _ _ (.inr (SUB.out _ _ ⟨i + 1, HI.out⟩ E5q.out)) ?_
        clear hKK KK
        try simp only [Act.put, List.setIfInBounds_toArray, List.set_cons_zero, List.set_cons_succ]
        refine walkS_two (i := 12) (j := 13) (oi := ⟨some 27, _, _, _, _, _⟩) (oj := ⟨some 8, _, _, _, _, _⟩) (by kernel_rfl) rfl rfl rfl rfl (fun KK hKK => ?_) (fun KK hKK => ?_)
        · go_simp
          refine (CD.out _ _ (m + 1) _ _ E5q.out HM.out V6q.out).mono ?_
          intro e w9q h
          obtain ⟨n8q, hn8q, he, tE7q⟩ := h
          subst he
          simp only [List.set_cons_succ] at tE7q
          have E7q := Lib.hid tE7q
          clear tE7q
          refine hKK _ _ (.inr (SUB.out _ _ ⟨i + 1, by simp only [List.getElem?_cons_succ]; rw [List.getElem?_set, if_neg NMI.out]; exact HI.out⟩ E7q.out)) ?_
          clear hKK KK
          try simp only [Act.put, List.setIfInBounds_toArray, List.set_cons_zero, List.set_cons_succ]
          refine walkS_only (i := 13) (o := ⟨some 8, _, _, _, _, _⟩) (by kernel_rfl) rfl rfl fun KK hKK => ?_
          refine wp_alloc_row 23 rfl (keyC zeroKey) Tryd.zeroK fun g11q w12q ng11q => ?_
          have E10q := Lib.hid (E7q.out.new ng11q)
          refine hKK _ _ (.inr (SUB.out _ _ ⟨i + 2, by simp only [List.getElem?_cons_succ]; rw [List.getElem?_set, if_neg NMI.out]; exact HI.out⟩ E10q.out)) ?_
          clear hKK KK
          try simp only [Act.put, List.setIfInBounds_toArray, List.set_cons_zero, List.set_cons_succ]
          exact walkS_listed (by kernel_rfl) (HGO.out _ _ _ _ ⟨_, hn8q, E10q.out⟩)
        · refine wp_alloc_row 23 rfl (keyC zeroKey) Tryd.zeroK fun g14q w15q ng14q => ?_
          have E13q := Lib.hid (E5q.out.new ng14q)
          have YE13q := Lib.hid (V6q.out.keep ng14q.below)
          refine hKK _ _ (.inr (SUB.out _ _ ⟨i + 2, HI.out⟩ E13q.out)) ?_
          clear hKK KK
          try simp only [Act.put, List.setIfInBounds_toArray, List.set_cons_zero, List.set_cons_succ]
          refine walkS_only (i := 12) (o := ⟨some 27, _, _, _, _, _⟩) (by kernel_rfl) rfl rfl fun KK hKK => ?_
          go_simp
          refine (CD.out _ _ (m + 2) _ _ E13q.out HM.out YE13q.out).mono ?_
          intro e w18q h
          obtain ⟨n17q, hn17q, he, tE16q⟩ := h
          subst he
          simp only [List.set_cons_succ] at tE16q
          have E16q := Lib.hid tE16q
          clear tE16q
          refine hKK _ _ (.inr (SUB.out _ _ ⟨i + 2, by simp only [List.getElem?_cons_succ]; rw [List.getElem?_set, if_neg NMI.out]; exact HI.out⟩ E16q.out)) ?_
          clear hKK KK
          try simp only [Act.put, List.setIfInBounds_toArray, List.set_cons_zero, List.set_cons_succ]
          exact walkS_listed (by kernel_rfl) (HGO.out _ _ _ _ ⟨_, hn17q, E16q.out⟩)
      · refine wp_alloc_row 23 rfl (keyC zeroKey) Tryd.zeroK fun g20q w21q ng20q => ?_
        have E19q := Lib.hid (E1q.out.new ng20q)
        have XE19q := Lib.hid (Hu2q.out.below ng20q.below)
        refine hKK _ _ (.inr (SUB.out _ _ ⟨i + 2, HI.out⟩ E19q.out)) ?_
        clear hKK KK
        try simp only [Act.put, List.setIfInBounds_toArray, List.set_cons_zero, List.set_cons_succ]
        refine walkS_only (i := 11) (o := ⟨some 26, _, _, _, _, _⟩) (by kernel_rfl) rfl rfl fun KK hKK => ?_
        go_simp
        have V23q := Lib.hid (Bss.only _ _ nb XE19q.out)
        have E22q := Lib.hid (E19q.out.call (alloc_below _ (.cells #[.slice Au2q nb.length cu2q] 68)))
        refine hKK _ _ (.inr (SUB.out _ _ ⟨i + 2, HI.out⟩ E22q.out)) ?_
        clear hKK KK
        try simp only [Act.put, List.setIfInBounds_toArray, List.set_cons_zero, List.set_cons_succ]
        refine walkS_only (i := 12) (o := ⟨some 27, _, _, _, _, _⟩) (by kernel_rfl) rfl rfl fun KK hKK => ?_
        go_simp
        refine (CD.out _ _ (m + 2) _ _ E22q.out HM.out V23q.out).mono ?_
        intro e w26q h
        obtain ⟨n25q, hn25q, he, tE24q⟩ := h
        subst he
        simp only [List.set_cons_succ] at tE24q
        have E24q := Lib.hid tE24q
        clear tE24q
        refine hKK _ _ (.inr (SUB.out _ _ ⟨i + 2, by simp only [List.getElem?_cons_succ]; rw [List.getElem?_set, if_neg NMI.out]; exact HI.out⟩ E24q.out)) ?_
        clear hKK KK
        try simp only [Act.put, List.setIfInBounds_toArray, List.set_cons_zero, List.set_cons_succ]
        exact walkS_listed (by kernel_rfl) (HGO.out _ _ _ _ ⟨_, hn25q, E24q.out⟩)
    · refine wp_alloc_row 23 rfl (keyC zeroKey) Tryd.zeroK fun g28q w29q ng28q => ?_
      have E27q := Lib.hid (E2.out.drew.new ng28q)
      refine hKK _ _ (.inr (SUB.out _ _ ⟨i + 2, HI.out⟩ E27q.out)) ?_
      clear hKK KK
      try simp only [Act.put, List.setIfInBounds_toArray, List.set_cons_zero, List.set_cons_succ]
      refine walkS_only (i := 10) (o := ⟨some 25, _, _, _, _, _⟩) (by kernel_rfl) rfl rfl fun KK hKK => ?_
      go_simp
      refine (CN.out _).mono ?_
      intro e w33q h
      obtain ⟨u31q, he, hu31q, b32q⟩ := h
      subst he
      have E30q := Lib.hid (E27q.out.call b32q)
      have Hu31q := Lib.hid hu31q
      obtain ⟨Au31q, cu31q, rfl, _, _, _⟩ := hu31q
      refine hKK _ _ (.inr (SUB.out _ _ ⟨i + 2, HI.out⟩ E30q.out)) ?_
      clear hKK KK
      try simp only [Act.put, List.setIfInBounds_toArray, List.set_cons_zero, List.set_cons_succ]
      refine walkS_only (i := 11) (o := ⟨some 26, _, _, _, _, _⟩) (by kernel_rfl) rfl rfl fun KK hKK => ?_
      go_simp
      have V35q := Lib.hid (Bss.only _ _ nb Hu31q.out)
      have E34q := Lib.hid (E30q.out.call (alloc_below _ (.cells #[.slice Au31q nb.length cu31q] 68)))
      refine hKK _ _ (.inr (SUB.out _ _ ⟨i + 2, HI.out⟩ E34q.out)) ?_
      clear hKK KK
      try simp only [Act.put, List.setIfInBounds_toArray, List.set_cons_zero, List.set_cons_succ]
      refine walkS_only (i := 12) (o := ⟨some 27, _, _, _, _, _⟩) (by kernel_rfl) rfl rfl fun KK hKK => ?_
      go_simp
      refine (CD.out _ _ (m + 2) _ _ E34q.out HM.out V35q.out).mono ?_
      intro e w38q h
      obtain ⟨n37q, hn37q, he, tE36q⟩ := h
      subst he
      simp only [List.set_cons_succ] at tE36q
      have E36q := Lib.hid tE36q
      clear tE36q
      refine hKK _ _ (.inr (SUB.out _ _ ⟨i + 2, by simp only [List.getElem?_cons_succ]; rw [List.getElem?_set, if_neg NMI.out]; exact HI.out⟩ E36q.out)) ?_
      clear hKK KK
      try simp only [Act.put, List.setIfInBounds_toArray, List.set_cons_zero, List.set_cons_succ]
      exact walkS_listed (by kernel_rfl) (HGO.out _ _ _ _ ⟨_, hn37q, E36q.out⟩)
  case hgo =>
    intro u v g8 x h
    obtain ⟨n1, hn1, hE⟩ := h
    have E2 := Lib.hid hE
    clear hE
    refine walkS_only (i := 14) (o := ⟨none, _, _, _, _, _⟩) (by kernel_rfl) rfl rfl fun KK hKK => ?_
    refine wp_store_row 23 (.tmp 8) (.tmp 27) rfl g8 23 (keyC zeroKey) (keyC v0) rfl rfl (E2.out.row 0 rfl) (keyC_same zeroKey_length LV.out) (Tryd.sizeKey v0 LV.out) (keyC_one v0) fun w7 p7 => ?_
    have E3 := Lib.hid (E2.out.put 0 rfl p7)
    simp only [List.set_cons_zero] at E3
    have HI2 : Hid (((g8, 23, keyC v0) :: (g6, 23, keyC zeroKey) :: rs.set m (g, 32, logC n1))[i + 2]? = some (b, 37, srcC s k)) := by
      show _ = _
      simp only [List.getElem?_cons_succ]
      rw [List.getElem?_set, if_neg NMI.out]
      exact HI.out
    refine hKK _ _ (.inr (SUB.out _ _ ⟨i + 2, HI2.out⟩ E3.out)) (walkS_done (by kernel_rfl) ?_ _)
    clear hKK KK p7 E2
    have E4 : Hid (Env w0 ((g8, 23, keyC v0) :: (g6, 23, keyC zeroKey) :: (rs.set m (g, 32, logC n1)).set i (b, 37, srcC s k1)) (w7.setCell ⟨b, 32, none⟩ (.int .u64 (k1 : Int)))) := by
      have h := E3.out.cellTo (i + 2) HI2.out 32 (.int .u64 (k1 : Int)) (srcC_set s k LS.out k1)
      simp only [List.set_cons_succ] at h
      exact Lib.hid h
    have c3 := E3.out.cellV (i + 2) HI2.out 32 _ (srcC_32 s k LS.out)
    have f3 := E3.out.fzV (i + 2) HI2.out 32
    go_wp2_with (first
      | (with_reducible refine wpE_load (o := ⟨some 35, _, _, _, _, _⟩) rfl 23 (.tmp 8) rfl 0 g8 23 (keyC v0) _ (by with_unfolding_all rfl) (by with_unfolding_all rfl) Tryd.underlying23 rfl (Tryd.sizeKey _ LV.out) E4.out ?_)
      | ((with_reducible refine wpE_store (o := ⟨none, _, _, _, _, _⟩) rfl 23 (.tmp 6) (.tmp 35) rfl 1 g6 23 (keyC zeroKey) (keyC v0) (by with_unfolding_all rfl) (by with_unfolding_all rfl) (by with_unfolding_all rfl) (keyC_same zeroKey_length LV.out) (Tryd.sizeKey _ LV.out) (keyC_one _) E4.out ?_); intro w10 T10; simp only [List.set_cons_zero, List.set_cons_succ] at T10; have E10 := Lib.hid T10; clear T10))
    exact bodyPost_ret (ret_row_tmp rfl _ g6 23 (keyC v0) (.array 32 5) rfl (E10.out.row 1 rfl) Tryd.underlying23 rfl (Tryd.sizeKey _ LV.out)) rfl ⟨n1, hn1, rfl, E10.out.tl.tl⟩

set_option maxHeartbeats 2000000 in
theorem refNext_not (w0 w : World) (rs : List (Nat × TypeId × Array Value)) (i b : Nat) (hE : Env w0 rs w) (s : List UInt8) (k : Nat) (hs : s.length = 32) (hi : rs[i]? = some (b, 37, srcC s k)) (hk : k = 18446744073709551615) (M : Value) (lab : ByteArray) :
    Calls Tryd.prog 8 #[.pointer (some ⟨b, 0, none⟩), M, .string lab] w (RetV w (.tuple #[.agg (keyC zeroKey), .int .i64 70])) := by
  have HI := Lib.hid hi
  have E0 := Lib.hid (Env.start w)
  have LS := Lib.hid hs
  have CC : Hid (∀ x, Below w.heap.size w x → x.cell? ⟨b, 32, none⟩ = some (.int .u64 18446744073709551615)) := fun x hx => by
    have := (hE.call hx).cellV i hi 32 _ (srcC_32 s k hs)
    rw [hk] at this
    exact this
  clear hi hE hs hk
  go_enter Tryd.func8, Tryd.ntmps8
  go_wp2_with (first
    | ((with_reducible refine wpE_alloc (o := ⟨some 6, _, _, _, _, _⟩) rfl 23 rfl (keyC zeroKey) Tryd.zeroK E0.out ?_); intro g6 w1 T1; have E2 := Lib.hid T1; have c1 := CC.out _ E2.out.below; clear T1)
    | ((with_reducible refine wpE_store (o := ⟨none, _, _, _, _, _⟩) rfl 23 (.tmp 6) (.tmp 14) rfl 0 g6 23 (keyC zeroKey) (keyC zeroKey) (by with_unfolding_all rfl) (by with_unfolding_all rfl) (by with_unfolding_all rfl) rfl (Tryd.sizeKey _ zeroKey_length) (keyC_one _) E2.out ?_); intro w10 T10; simp only [List.set_cons_zero] at T10; have E10 := Lib.hid T10; clear T10))
  exact bodyPost_ret (ret_row_tmp rfl _ g6 23 (keyC zeroKey) (.array 32 5) rfl (E10.out.row 0 rfl) Tryd.underlying23 rfl (Tryd.sizeKey _ zeroKey_length)) rfl ⟨rfl, E10.out.below⟩
end Go.Proofs.YtjlhmcnajgafgaaDoor
end
