/-
  Texts that belong together, merged: CodE, WordMath, Words, CodK, CodWr. Conditions: as each theorem names them.
-/
import Derived.Test.YtmhhjdiilmgmoaaQFrmAD
import Derived.Test.YtmhhjdiilmgmoaaQFrmAA
import Derived.IntWalk
import Derived.Laws.BitsAllLaws
import Derived.StillTailTactics
section
namespace Go.Proofs.Ytmhhjdiilmgmoaa
open Go.RowKit
set_option linter.unusedVariables false
set_option maxRecDepth 20000

theorem lies_nil (w : World) (v : Value) (n c : Nat) : ∀ k, (Value.slice none n c).ownBlock = some k → v.ownBlock = some k ∨ w.heap.size ≤ k := fun k h => by cases h

set_option maxHeartbeats 1000000 in
theorem outFail_any (w : World) (o : Nat) (v : Value) (s : St) (x : Int) (h : OutAt w o v s) :
    Calls Try.prog 52 #[.pointer (some ⟨o, 0, none⟩), .int .i64 x] w fun e w' => e = .returned (.tuple #[]) ∧ ∃ v', OutAt w' o v' (s.fail x) ∧ OutStep w w' o v v' := by
  obtain ⟨l, y⟩ := s
  obtain ⟨hr, ho⟩ := h
  have c0 : w.cell? ⟨o, 0, none⟩ = some v := hr.cell 0
  have c1 : w.cell? ⟨o, 1, none⟩ = some (.int .i64 y) := hr.cell 1
  have z0 : w.frozen? ⟨o, 0, none⟩ = false := hr.frozen 0
  have z1 : w.frozen? ⟨o, 1, none⟩ = false := hr.frozen 1
  have HR := Lib.hid hr
  have HO := Lib.hid ho
  obtain ⟨A, c, rfl, _, _⟩ := ho.shape
  clear hr ho
  by_cases hy : y = 0
  · subst hy
    go_enter Try.func52, Try.ntmps52
    go_wp2
    go_end0
    exact ⟨rfl, _, ⟨HR.out.two _ _, OwnB.nil _ _ _⟩, OutStep.row (grown_two w o _ _) (lies_nil _ _ _ _)⟩
  · have hd : decide (y = 0) = false := by simp [hy]
    go_enter Try.func52, Try.ntmps52
    go_wp2
    go_end0
    refine ⟨rfl, _, ?_, OutStep.refl _ _ _⟩
    unfold St.fail
    rw [if_neg hy]
    exact ⟨HR.out, HO.out⟩

set_option maxHeartbeats 1000000 in
theorem outPut_any (w : World) (o : Nat) (v : Value) (s : St) (u : Value) (b : List UInt8) (h : OutAt w o v s) (hu : Bs w u b) (hl : s.l.length + b.length ≤ 140737488355328) :
    Calls Try.prog 53 #[.pointer (some ⟨o, 0, none⟩), u] w fun e w' => e = .returned (.tuple #[]) ∧ ∃ v', OutAt w' o v' (s.put b) ∧ OutStep w w' o v v' := by
  have hfar := h.far
  obtain ⟨l, y⟩ := s
  obtain ⟨hr, ho⟩ := h
  have c0 : w.cell? ⟨o, 0, none⟩ = some v := hr.cell 0
  have c1 : w.cell? ⟨o, 1, none⟩ = some (.int .i64 y) := hr.cell 1
  have HR := Lib.hid hr
  have HO := Lib.hid ho
  have HU := Lib.hid hu
  obtain ⟨A, c, rfl, _, _⟩ := ho.shape
  obtain ⟨A2, c2, rfl, _, _⟩ := hu
  simp only at hl HR HO
  clear hr ho
  by_cases hy : y = 0
  · subst hy
    obtain ⟨m, hm⟩ : ∃ m, m = l ++ b := ⟨_, rfl⟩
    have E : Hid (St.put ⟨l, 0⟩ b = ⟨m, 0⟩) := by show _ = _; unfold St.put; rw [if_pos rfl, hm]
    have HM := Lib.hid hm
    clear hm
    go_enter Try.func53, Try.ntmps53
    go_wp2_with (at_builtin; go_loud (refine wpList_appD (o := ⟨some 19, _, _, _, _, _⟩) rfl (.tmp 17) (.tmp 18) 25 rfl 0 5 (by kernel_rfl) Try.underlying25 _ _ l b rfl rfl HO.out HU.out hl (Nat.zero_le _) ?_); intro v1 w1 own0 gr1 li1; have own1 : OwnB w1 0 5 v1 m := HM.out ▸ own0; have OW1 := Lib.hid own1; clear own0; have R1 := Lib.hid (HR.out.grown gr1 hfar); have z0 := R1.out.frozen 0; have d0 : w1.cell? ⟨o, 0, none⟩ = some (.slice A l.length c) := R1.out.cell 0; obtain ⟨A1, cc1, rfl, _, _⟩ := own1.shape; clear own1)
    go_end0
    rw [E.out]
    have own1 := OW1.out
    have hst := grown_setCell w1 o 0 (.slice A1 m.length cc1)
    refine ⟨rfl, _, ⟨R1.out.fst _, ?_⟩, (OutStep.own gr1 li1).trans (OutStep.row hst fun k hk => .inl hk)⟩
    exact World.ownsRow.kept own1 hst (by
      rcases hv : (Value.slice A1 m.length cc1).ownBlock with _ | k
      · exact .inl rfl
      · refine .inr fun e => ?_
        have := own1.other R1.out (show (73 : Nat) ≠ 5 by decide)
        exact this (by rw [hv, e]))
  · have hd : decide (y = 0) = false := by simp [hy]
    go_enter Try.func53, Try.ntmps53
    go_wp2
    go_end0
    refine ⟨rfl, _, ?_, OutStep.refl _ _ _⟩
    unfold St.put
    rw [if_neg hy]
    exact ⟨HR.out, HO.out⟩
theorem St.put_length (s : St) (b : List UInt8) : (s.put b).l.length ≤ s.l.length + b.length := by
  unfold St.put
  split <;> simp
/-- What was handed in lies apart from the Out, and still does. -/
def Off (o : Nat) (v u : Value) : Prop := ∀ k, u.ownBlock = some k → k ≠ o ∧ v.ownBlock ≠ some k
theorem Off.step {w w' : World} {o : Nat} {v v' u : Value} {l : List UInt8} (h : Off o v u) (hb : ∀ k, u.ownBlock = some k → k < w.heap.size) (hs : OutStep w w' o v v') : Off o v' u := fun k hk => ⟨(h k hk).1, fun e => by
  rcases hs.lies k e with h1 | h1
  · exact (h k hk).2 h1
  · have := hb k hk; omega⟩
theorem Off.fresh {w : World} {o : Nat} {v u : Value} {s : St} (h : OutAt w o v s) (hu : ∀ k, u.ownBlock = some k → w.heap.size ≤ k) : Off o v u := fun k hk => by
  have := hu k hk
  have h1 := h.1.lt
  refine ⟨by omega, fun e => ?_⟩
  have := (World.ownsRow.lt h.2 k e).2
  omega

set_option maxHeartbeats 1000000 in
theorem outBytes_any (w : World) (o : Nat) (v : Value) (s : St) (u : Value) (b : List UInt8) (h : OutAt w o v s) (hu : Bs w u b) (hf : 0 < b.length → Off o v u) (hs : s.l.length ≤ 1000000000) :
    Calls Try.prog 45 #[.pointer (some ⟨o, 0, none⟩), u] w fun e w' => e = .returned (.tuple #[]) ∧ ∃ v', OutAt w' o v' (s.wByt b) ∧ OutStep w w' o v v' := by
  have HH := Lib.hid h
  have HU := Lib.hid hu
  have HF := Lib.hid hf
  obtain ⟨A, c, rfl, h1, h2, _⟩ := hu
  unfold maxLen at h2
  clear h hf
  by_cases hb : b.length > 4000
  · have hb2 : (4000 : Int) < (b.length : Int) := by omega
    have E : Hid (s.wByt b = s.fail 2) := by show _ = _; unfold St.wByt; rw [if_pos hb]
    have HX := Lib.hid (fun w h => outFail_any w o v s 2 h)
    go_enter Try.func45, Try.ntmps45
    go_wp2_with fail
    refine (HX.out _ HH.out).mono ?_
    intro e w1 hh
    obtain ⟨he, v1, h1, s1⟩ := hh
    subst he
    have H1 := Lib.hid h1
    have S1 := Lib.hid s1
    clear h1 s1
    go_wp2
    refine bodyPost_ret (results_none rfl _ _ _) rfl ?_
    exact ⟨rfl, v1, by rw [E.out]; exact H1.out, S1.out⟩
  · have hb2 : ¬ ((4000 : Int) < (b.length : Int)) := by omega
    have hw : IntKind.u64.wrap (b.length : Int) = (b.length : Int) := by rw [IntKind.wrap_u64]; omega
    have E : Hid (s.wByt b = (s.put (lowB b.length 2).reverse).put b) := by show _ = _; unfold St.wByt; rw [if_neg hb]
    have HN : Hid (∀ w, Calls Try.prog 54 #[.int .u64 (b.length : Int), .int .i64 2] w (RetBs w (lowB b.length 2).reverse)) := fun w => High_in w b.length 2 (by omega) (by omega) (by omega)
    have LN : Hid ((lowB b.length 2).reverse.length = 2) := by show _ = _; rw [List.length_reverse]; exact lowB_length _ _
    obtain ⟨hd, hhd⟩ : ∃ hd, hd = (lowB b.length 2).reverse := ⟨_, rfl⟩
    rw [← hhd] at E HN LN
    have P1 := Lib.hid (fun w u h hu => outPut_any w o v s u hd h hu (by rw [LN.out]; omega))
    have P2 := Lib.hid (fun w v u h hu => outPut_any w o v (s.put hd) u b h hu (by have := s.put_length hd; rw [LN.out] at this; omega))
    clear hhd
    go_enter Try.func45, Try.ntmps45
    go_wp2_with fail
    refine (HN.out _).mono ?_
    intro e w1 hh
    obtain ⟨u1, he, hu1, b1⟩ := hh
    subst he
    have HU1 := Lib.hid hu1
    have B1 := Lib.hid b1
    obtain ⟨A1, c1, rfl, _, _, _⟩ := hu1
    clear b1
    go_wp2_with fail
    refine (P1.out _ _ (HH.out.kept B1.out) HU1.out).mono ?_
    intro e w2 hh
    obtain ⟨he, v2, h2, s2⟩ := hh
    subst he
    have S2 := Lib.hid ((OutStep.below B1.out).trans s2)
    have H2 := Lib.hid h2
    clear h2 s2 B1 HU1
    go_wp2_with fail
    refine (P2.out _ _ _ H2.out (S2.out.bs HU.out HF.out)).mono ?_
    intro e w3 hh
    obtain ⟨he, v3, h3, s3⟩ := hh
    subst he
    have S3 := Lib.hid (S2.out.trans s3)
    have H3 := Lib.hid h3
    clear h3 s3
    go_wp2
    go_end0
    exact ⟨rfl, v3, by rw [E.out]; exact H3.out, S3.out⟩

set_option maxHeartbeats 1000000 in
theorem outDone_any (w : World) (o : Nat) (v : Value) (s : St) (h : OutAt w o v s) (hl : s.l.length ≤ 1000000000) :
    Calls Try.prog 27 #[.pointer (some ⟨o, 0, none⟩)] w fun e w' => ∃ u, e = .returned (.tuple #[u, .int .i64 s.e]) ∧ OwnB w' w.heap.size 5 u s.l ∧ Below w.heap.size w w' := by
  obtain ⟨l, y⟩ := s
  obtain ⟨hr, ho⟩ := h
  have HB := Lib.hid ho.bs
  obtain ⟨A, c, rfl, _, _⟩ := ho.shape
  have c0 : w.cell? ⟨o, 0, none⟩ = some (.slice A l.length c) := hr.cell 0
  have c1 : w.cell? ⟨o, 1, none⟩ = some (.int .i64 y) := hr.cell 1
  have HC : Hid (∀ w, Bs w (.slice A l.length c) l → Calls Try.prog 46 #[.slice A l.length c] w fun e w' => ∃ v', e = .returned v' ∧ OwnB w' w.heap.size 5 v' l ∧ Below w.heap.size w w') := fun w h => clone_any w _ l h (by simp only at hl; omega)
  have hS0 := And.intro c0 c1
  clear hr ho hl c0 c1
  go_enter Try.func27, Try.ntmps27
  go_wp2_with fail
  refine plain_region (S := fun W => W.cell? ⟨o, 0, none⟩ = some (.slice A l.length c) ∧ W.cell? ⟨o, 1, none⟩ = some (.int .i64 y)) (fin := fun _ => false) (by kernel_rfl) ?_
  have hS : w.drew.cell? ⟨o, 0, none⟩ = some (.slice A l.length c) ∧ w.drew.cell? ⟨o, 1, none⟩ = some (.int .i64 y) := hS0
  clear hS0
  change walkS _ _ _ _ _ _ 11 _ _ _
  refine walkS_take (i := 0) (oi := ⟨some 6, _, _, _, _, _⟩) (v := .pointer (some ⟨o, 0, none⟩)) rfl (by kernel_rfl) (by kernel_rfl) (fun _ _ _ h => h) _ _ _ _ (by kernel_rfl) (by kernel_rfl) (Or.inl ⟨by rfl, fun w' hS' => (by clear hS hS'; go_simp)⟩) hS ?_
  try simp only [Act.put, List.setIfInBounds_toArray, List.set_cons_zero, List.set_cons_succ]
  refine walkS_take (i := 1) (oi := ⟨some 7, _, _, _, _, _⟩) (v := .pointer (some ⟨o, 0, none⟩)) rfl (by kernel_rfl) (by kernel_rfl) (fun _ _ _ h => h) _ _ _ _ (by kernel_rfl) (by kernel_rfl) (Or.inl ⟨by rfl, fun w' hS' => (by clear hS hS'; go_simp)⟩) hS ?_
  try simp only [Act.put, List.setIfInBounds_toArray, List.set_cons_zero, List.set_cons_succ]
  refine walkS_take (i := 2) (oi := ⟨some 8, _, _, _, _, _⟩) (v := .pointer (some ⟨o, 0, none⟩)) rfl (by kernel_rfl) (by kernel_rfl) (fun _ _ _ h => h) _ _ _ _ (by kernel_rfl) (by kernel_rfl) (Or.inl ⟨by rfl, fun w' hS' => (by clear hS hS'; go_simp)⟩) hS ?_
  try simp only [Act.put, List.setIfInBounds_toArray, List.set_cons_zero, List.set_cons_succ]
  refine walkS_take (i := 3) (oi := ⟨some 9, _, _, _, _, _⟩) (v := .slice A l.length c) rfl (by kernel_rfl) (by kernel_rfl) (fun _ _ _ h => h) _ _ _ _ (by kernel_rfl) (by kernel_rfl) (Or.inl ⟨by rfl, fun w' hS' => (by obtain ⟨c0, c1⟩ := hS'; clear hS; go_simp)⟩) hS ?_
  try simp only [Act.put, List.setIfInBounds_toArray, List.set_cons_zero, List.set_cons_succ]
  refine walkS_take (i := 5) (oi := ⟨some 11, _, _, _, _, _⟩) (v := .pointer (some ⟨o, 0, none⟩)) rfl (by kernel_rfl) (by kernel_rfl) (fun _ _ _ h => h) _ _ _ _ (by kernel_rfl) (by kernel_rfl) (Or.inl ⟨by rfl, fun w' hS' => (by clear hS hS'; go_simp)⟩) hS ?_
  try simp only [Act.put, List.setIfInBounds_toArray, List.set_cons_zero, List.set_cons_succ]
  refine walkS_take (i := 6) (oi := ⟨some 12, _, _, _, _, _⟩) (v := .pointer (some ⟨o, 0, none⟩)) rfl (by kernel_rfl) (by kernel_rfl) (fun _ _ _ h => h) _ _ _ _ (by kernel_rfl) (by kernel_rfl) (Or.inl ⟨by rfl, fun w' hS' => (by clear hS hS'; go_simp)⟩) hS ?_
  try simp only [Act.put, List.setIfInBounds_toArray, List.set_cons_zero, List.set_cons_succ]
  refine walkS_take (i := 7) (oi := ⟨some 13, _, _, _, _, _⟩) (v := .pointer (some ⟨o, 1, none⟩)) rfl (by kernel_rfl) (by kernel_rfl) (fun _ _ _ h => h) _ _ _ _ (by kernel_rfl) (by kernel_rfl) (Or.inl ⟨by rfl, fun w' hS' => (by clear hS hS'; go_simp)⟩) hS ?_
  try simp only [Act.put, List.setIfInBounds_toArray, List.set_cons_zero, List.set_cons_succ]
  refine walkS_take (i := 8) (oi := ⟨some 14, _, _, _, _, _⟩) (v := .int .i64 y) rfl (by kernel_rfl) (by kernel_rfl) (fun _ _ _ h => h) _ _ _ _ (by kernel_rfl) (by kernel_rfl) (Or.inl ⟨by rfl, fun w' hS' => (by obtain ⟨c0, c1⟩ := hS'; clear hS; go_simp)⟩) hS ?_
  try simp only [Act.put, List.setIfInBounds_toArray, List.set_cons_zero, List.set_cons_succ]
  refine walkS_only (i := 4) (o := ⟨some 10, _, _, _, _, _⟩) (by kernel_rfl) rfl rfl fun KK hKK => ?_
  go_simp
  refine (HC.out _ HB.out.drew).mono ?_
  intro e w1 hh
  obtain ⟨u, he, ho1, b1⟩ := hh
  subst he
  have HO1 := Lib.hid ho1
  have B1 : Hid (Below w.heap.size w w1) := ((Below.refl _ w).drew).trans b1
  obtain ⟨A1, c1, rfl, _, _⟩ := ho1.shape
  have hS1 : w1.cell? ⟨o, 0, none⟩ = some (.slice A l.length c) ∧ w1.cell? ⟨o, 1, none⟩ = some (.int .i64 y) := ⟨(B1.out.cell (World.block_lt_of_cell? w _ hS.1)).trans hS.1, (B1.out.cell (World.block_lt_of_cell? w _ hS.2)).trans hS.2⟩
  refine hKK _ _ (.inr hS1) ?_
  clear hKK KK hS ho1 b1
  try simp only [Act.put, List.setIfInBounds_toArray, List.set_cons_zero, List.set_cons_succ]
  refine walkS_only (i := 9) (o := ⟨some 2, _, _, _, _, _⟩) (by kernel_rfl) rfl rfl fun KK hKK => ?_
  go_simp
  refine hKK _ _ (.inr hS1) ?_
  clear hKK KK
  try simp only [Act.put, List.setIfInBounds_toArray, List.set_cons_zero, List.set_cons_succ]
  refine walkS_only (i := 10) (o := ⟨some 3, _, _, _, _, _⟩) (by kernel_rfl) rfl rfl fun KK hKK => ?_
  go_simp
  refine hKK _ _ (.inr hS1) (walkS_done (by kernel_rfl) ?_ _)
  clear hKK KK
  go_wp2
  go_ret2
  exact ⟨_, rfl, HO1.out, B1.out⟩

set_option maxHeartbeats 1000000 in
theorem outNumber_any (w : World) (o : Nat) (v : Value) (s : St) (n : Nat) (z : Int) (hn : n < 18446744073709551616) (h : OutAt w o v s) (hs : s.l.length ≤ 1000000000) :
    Calls Try.prog 44 #[.pointer (some ⟨o, 0, none⟩), .int .u64 (n : Int), .int .i64 z] w fun e w' => e = .returned (.tuple #[]) ∧ ∃ v', OutAt w' o v' (s.wNum n z) ∧ OutStep w w' o v v' := by
  have HH := Lib.hid h
  have HZ : Hid (∀ w, Calls Try.prog 55 #[.int .i64 z] w (RetV w (.bool (isNum z)))) := fun w => isNumber_any w z
  have HX := Lib.hid (fun w h => outFail_any w o v s 51 h)
  clear h
  by_cases hz : isNum z = true
  · have HP : Hid (∀ w u, OutAt w o v s → Bs w u (lowB n z.toNat).reverse → Calls Try.prog 53 #[.pointer (some ⟨o, 0, none⟩), u] w fun e w' => e = .returned (.tuple #[]) ∧ ∃ v', OutAt w' o v' (s.put (lowB n z.toNat).reverse) ∧ OutStep w w' o v v') := fun w u h hu => outPut_any w o v s u _ h hu (by rw [List.length_reverse, lowB_length]; have := inNum_shape z hz; omega)
    have HN : Hid (∀ w, Calls Try.prog 54 #[.int .u64 (n : Int), .int .i64 z] w (RetBs w (lowB n z.toNat).reverse)) := fun w => by
      have h8 := inNum_shape z hz
      have := High_in w n z.toNat hn (by omega) (by omega)
      rwa [show ((z.toNat : Nat) : Int) = z by omega] at this
    by_cases hlt : n < 256 ^ z.toNat
    · have E : Hid (s.wNum n z = s.put (lowB n z.toNat).reverse) := by show _ = _; unfold St.wNum; rw [if_pos ⟨hz, hlt⟩]
      rw [hz] at HZ
      rcases inNum_shape z hz with rfl | rfl | rfl | rfl
      · have hq2 : n < 256 := by simpa using hlt
        have hq : ((n : Int) / 256 != 0) = false := by have h0 : (n : Int) / 256 = 0 := (by omega); simp [h0]
        clear hz
        go_enter Try.func44, Try.ntmps44
        go_wp2_with fail
        refine (HZ.out _).mono ?_
        intro e w1 hh
        obtain ⟨he, b1⟩ := hh
        subst he
        have B1 := Lib.hid b1
        clear b1
        go_wp2_with fail
        refine (HN.out _).mono ?_
        intro e w2 hh
        obtain ⟨u2, he, hu2, b2⟩ := hh
        subst he
        have B2 := Lib.hid (below_size B1.out b2)
        have HU2 := Lib.hid hu2
        obtain ⟨A2, c2, rfl, _, _, _⟩ := hu2
        clear b2
        go_wp2_with fail
        refine (HP.out _ _ (HH.out.kept B2.out) HU2.out).mono ?_
        intro e w3 hh
        obtain ⟨he, v3, h3, s3⟩ := hh
        subst he
        have H3 := Lib.hid h3
        have S3 := Lib.hid s3
        clear h3 s3
        go_wp2
        go_end0
        exact ⟨rfl, v3, by rw [E.out]; exact H3.out, (OutStep.below B2.out).trans S3.out⟩
      · have hq2 : n < 65536 := by simpa using hlt
        have hq : ((n : Int) / 65536 != 0) = false := by have h0 : (n : Int) / 65536 = 0 := (by omega); simp [h0]
        clear hz
        go_enter Try.func44, Try.ntmps44
        go_wp2_with fail
        refine (HZ.out _).mono ?_
        intro e w1 hh
        obtain ⟨he, b1⟩ := hh
        subst he
        have B1 := Lib.hid b1
        clear b1
        go_wp2_with fail
        refine (HN.out _).mono ?_
        intro e w2 hh
        obtain ⟨u2, he, hu2, b2⟩ := hh
        subst he
        have B2 := Lib.hid (below_size B1.out b2)
        have HU2 := Lib.hid hu2
        obtain ⟨A2, c2, rfl, _, _, _⟩ := hu2
        clear b2
        go_wp2_with fail
        refine (HP.out _ _ (HH.out.kept B2.out) HU2.out).mono ?_
        intro e w3 hh
        obtain ⟨he, v3, h3, s3⟩ := hh
        subst he
        have H3 := Lib.hid h3
        have S3 := Lib.hid s3
        clear h3 s3
        go_wp2
        go_end0
        exact ⟨rfl, v3, by rw [E.out]; exact H3.out, (OutStep.below B2.out).trans S3.out⟩
      · have hq2 : n < 4294967296 := by simpa using hlt
        have hq : ((n : Int) / 4294967296 != 0) = false := by have h0 : (n : Int) / 4294967296 = 0 := (by omega); simp [h0]
        clear hz
        go_enter Try.func44, Try.ntmps44
        go_wp2_with fail
        refine (HZ.out _).mono ?_
        intro e w1 hh
        obtain ⟨he, b1⟩ := hh
        subst he
        have B1 := Lib.hid b1
        clear b1
        go_wp2_with fail
        refine (HN.out _).mono ?_
        intro e w2 hh
        obtain ⟨u2, he, hu2, b2⟩ := hh
        subst he
        have B2 := Lib.hid (below_size B1.out b2)
        have HU2 := Lib.hid hu2
        obtain ⟨A2, c2, rfl, _, _, _⟩ := hu2
        clear b2
        go_wp2_with fail
        refine (HP.out _ _ (HH.out.kept B2.out) HU2.out).mono ?_
        intro e w3 hh
        obtain ⟨he, v3, h3, s3⟩ := hh
        subst he
        have H3 := Lib.hid h3
        have S3 := Lib.hid s3
        clear h3 s3
        go_wp2
        go_end0
        exact ⟨rfl, v3, by rw [E.out]; exact H3.out, (OutStep.below B2.out).trans S3.out⟩
      · have hq2 : n < 18446744073709551616 := by simpa using hlt
        clear hz
        go_enter Try.func44, Try.ntmps44
        go_wp2_with fail
        refine (HZ.out _).mono ?_
        intro e w1 hh
        obtain ⟨he, b1⟩ := hh
        subst he
        have B1 := Lib.hid b1
        clear b1
        go_wp2_with fail
        refine (HN.out _).mono ?_
        intro e w2 hh
        obtain ⟨u2, he, hu2, b2⟩ := hh
        subst he
        have B2 := Lib.hid (below_size B1.out b2)
        have HU2 := Lib.hid hu2
        obtain ⟨A2, c2, rfl, _, _, _⟩ := hu2
        clear b2
        go_wp2_with fail
        refine (HP.out _ _ (HH.out.kept B2.out) HU2.out).mono ?_
        intro e w3 hh
        obtain ⟨he, v3, h3, s3⟩ := hh
        subst he
        have H3 := Lib.hid h3
        have S3 := Lib.hid s3
        clear h3 s3
        go_wp2
        go_end0
        exact ⟨rfl, v3, by rw [E.out]; exact H3.out, (OutStep.below B2.out).trans S3.out⟩
    · have E : Hid (s.wNum n z = s.fail 51) := by show _ = _; unfold St.wNum; rw [if_neg (fun h => hlt h.2)]
      rw [hz] at HZ
      rcases inNum_shape z hz with rfl | rfl | rfl | rfl
      · have hq2 : ¬ n < 256 := by simpa using hlt
        have hq : ((n : Int) / 256 != 0) = true := by have h0 : ¬ (n : Int) / 256 = 0 := (by omega); simp [h0]
        clear hz
        go_enter Try.func44, Try.ntmps44
        go_wp2_with fail
        refine (HZ.out _).mono ?_
        intro e w1 hh
        obtain ⟨he, b1⟩ := hh
        subst he
        have B1 := Lib.hid b1
        clear b1
        go_wp2_with fail
        refine (HX.out _ (HH.out.kept B1.out)).mono ?_
        intro e w2 hh
        obtain ⟨he, v2, h2, s2⟩ := hh
        subst he
        have H2 := Lib.hid h2
        have S2 := Lib.hid s2
        clear h2 s2
        go_wp2
        refine bodyPost_ret (results_none rfl _ _ _) rfl ?_
        exact ⟨rfl, v2, by rw [E.out]; exact H2.out, (OutStep.below B1.out).trans S2.out⟩
      · have hq2 : ¬ n < 65536 := by simpa using hlt
        have hq : ((n : Int) / 65536 != 0) = true := by have h0 : ¬ (n : Int) / 65536 = 0 := (by omega); simp [h0]
        clear hz
        go_enter Try.func44, Try.ntmps44
        go_wp2_with fail
        refine (HZ.out _).mono ?_
        intro e w1 hh
        obtain ⟨he, b1⟩ := hh
        subst he
        have B1 := Lib.hid b1
        clear b1
        go_wp2_with fail
        refine (HX.out _ (HH.out.kept B1.out)).mono ?_
        intro e w2 hh
        obtain ⟨he, v2, h2, s2⟩ := hh
        subst he
        have H2 := Lib.hid h2
        have S2 := Lib.hid s2
        clear h2 s2
        go_wp2
        refine bodyPost_ret (results_none rfl _ _ _) rfl ?_
        exact ⟨rfl, v2, by rw [E.out]; exact H2.out, (OutStep.below B1.out).trans S2.out⟩
      · have hq2 : ¬ n < 4294967296 := by simpa using hlt
        have hq : ((n : Int) / 4294967296 != 0) = true := by have h0 : ¬ (n : Int) / 4294967296 = 0 := (by omega); simp [h0]
        clear hz
        go_enter Try.func44, Try.ntmps44
        go_wp2_with fail
        refine (HZ.out _).mono ?_
        intro e w1 hh
        obtain ⟨he, b1⟩ := hh
        subst he
        have B1 := Lib.hid b1
        clear b1
        go_wp2_with fail
        refine (HX.out _ (HH.out.kept B1.out)).mono ?_
        intro e w2 hh
        obtain ⟨he, v2, h2, s2⟩ := hh
        subst he
        have H2 := Lib.hid h2
        have S2 := Lib.hid s2
        clear h2 s2
        go_wp2
        refine bodyPost_ret (results_none rfl _ _ _) rfl ?_
        exact ⟨rfl, v2, by rw [E.out]; exact H2.out, (OutStep.below B1.out).trans S2.out⟩
      · exact absurd hn (by simpa using hlt)
  · have E : Hid (s.wNum n z = s.fail 51) := by show _ = _; unfold St.wNum; rw [if_neg (fun h => hz h.1)]
    have hz : isNum z = false := by simpa using hz
    rw [hz] at HZ
    clear hz
    go_enter Try.func44, Try.ntmps44
    go_wp2_with fail
    refine (HZ.out _).mono ?_
    intro e w1 hh
    obtain ⟨he, b1⟩ := hh
    subst he
    have B1 := Lib.hid b1
    clear b1
    go_wp2_with fail
    refine (HX.out _ (HH.out.kept B1.out)).mono ?_
    intro e w2 hh
    obtain ⟨he, v2, h2, s2⟩ := hh
    subst he
    have H2 := Lib.hid h2
    have S2 := Lib.hid s2
    clear h2 s2
    go_wp2
    refine bodyPost_ret (results_none rfl _ _ _) rfl ?_
    exact ⟨rfl, v2, by rw [E.out]; exact H2.out, (OutStep.below B1.out).trans S2.out⟩
end Go.Proofs.Ytmhhjdiilmgmoaa
end
section
namespace Go.Proofs.Ytmhhjdiilmgmoaa

/-- A word turned right by n (1 to 31). -/
def rotr (x : UInt32) (n : Nat) : UInt32 := UInt32.ofNat (x.toNat * 2 ^ (32 - n) % 4294967296 ||| x.toNat / 2 ^ n)
/-- A word moved right by n. -/
def movr (x : UInt32) (n : Nat) : UInt32 := UInt32.ofNat (x.toNat / 2 ^ n)

theorem or_lt32 {a b : Nat} (ha : a < 4294967296) (hb : b < 4294967296) : a ||| b < 4294967296 := Nat.or_lt_two_pow (n := 32) ha hb
theorem div_lt32 (x : UInt32) (n : Nat) : x.toNat / 2 ^ n < 4294967296 := Nat.lt_of_le_of_lt (Nat.div_le_self _ _) x.toNat_lt
theorem rotr_toNat (x : UInt32) (n : Nat) : (rotr x n).toNat = (x.toNat * 2 ^ (32 - n) % 4294967296 ||| x.toNat / 2 ^ n) := by
  unfold rotr
  rw [UInt32.toNat_ofNat_of_lt']
  exact or_lt32 (Nat.mod_lt _ (by omega)) (div_lt32 x n)
theorem movr_toNat (x : UInt32) (n : Nat) : (movr x n).toNat = x.toNat / 2 ^ n := by
  unfold movr
  rw [UInt32.toNat_ofNat_of_lt']
  exact div_lt32 x n

theorem add32 (a b : UInt32) : IntKind.u32.wrap ((a.toNat : Int) + (b.toNat : Int)) = ((a + b).toNat : Int) := by
  rw [IntKind.wrap_u32, UInt32.toNat_add]
  omega
theorem xor32 (a b : UInt32) : bits .xor .u32 (a.toNat : Int) (b.toNat : Int) = ((a ^^^ b).toNat : Int) := by
  rw [u32_xor_nat _ _ a.toNat_lt b.toNat_lt, UInt32.toNat_xor]
theorem and32 (a b : UInt32) : bits .and .u32 (a.toNat : Int) (b.toNat : Int) = ((a &&& b).toNat : Int) := by
  rw [u32_and_nat _ _ a.toNat_lt b.toNat_lt, UInt32.toNat_and]
theorem or32 (a b : UInt32) : bits .or .u32 (a.toNat : Int) (b.toNat : Int) = ((a ||| b).toNat : Int) := by
  rw [u32_or_nat _ _ a.toNat_lt b.toNat_lt, UInt32.toNat_or]

/-- A word turned left by n (1 to 31). -/
def rotl (x : UInt32) (n : Nat) : UInt32 := UInt32.ofNat (x.toNat * 2 ^ n % 4294967296 ||| x.toNat / 2 ^ (32 - n))
theorem rotl_toNat (x : UInt32) (n : Nat) : (rotl x n).toNat = (x.toNat * 2 ^ n % 4294967296 ||| x.toNat / 2 ^ (32 - n)) := by
  unfold rotl
  rw [UInt32.toNat_ofNat_of_lt']
  exact or_lt32 (Nat.mod_lt _ (by omega)) (div_lt32 x (32 - n))

/-- Words, the lowest byte of each first. -/
def wordLow (l : List UInt8) (i : Nat) : UInt32 := UInt32.ofNat (ofLowB ((l.drop (4 * i)).take 4))
def bytesLow (l : List UInt32) : List UInt8 := l.flatMap fun x => lowB x.toNat 4
theorem bytesLow_length (l : List UInt32) : (bytesLow l).length = 4 * l.length := by
  induction l with
  | nil => rfl
  | cons x l ih => simp only [bytesLow, List.flatMap_cons, List.length_append, lowB_length, List.length_cons] at *; omega
end Go.Proofs.Ytmhhjdiilmgmoaa
end
section
namespace Go.Proofs.Ytmhhjdiilmgmoaa
open Go.RowKit
set_option linter.unusedVariables false

/-- Words, as cells; an array of them. -/
def cellsW (l : List UInt32) : List Value := l.map fun x => Value.int .u32 (x.toNat : Int)
def wordsC (l : List UInt32) : Array Value := (cellsW l).toArray
theorem cellsW_length (l : List UInt32) : (cellsW l).length = l.length := by simp [cellsW]
theorem wordsC_size (l : List UInt32) : (wordsC l).size = l.length := by simp [wordsC, cellsW]
theorem cellsW_one (l : List UInt32) : ∀ u ∈ cellsW l, u.oneCell' = true := by
  intro u hu
  obtain ⟨b, _, rfl⟩ := List.mem_map.1 hu
  rfl
theorem wordsC_one (l : List UInt32) : ∀ u ∈ (wordsC l).toList, u.oneCell' = true := by
  intro u hu
  exact cellsW_one l u (by simpa [wordsC] using hu)
theorem wordsC_get (l : List UInt32) (j : Nat) (h : j < l.length) : (wordsC l)[j]? = some (.int .u32 ((l.getD j 0).toNat : Int)) := by
  simp [wordsC, cellsW, h]
theorem wordsC_cell {w : World} {g : Nat} {t : TypeId} {l : List UInt32} (h : RowAt w g t (wordsC l)) (j : Nat) (hj : j < l.length) : w.cell? ⟨g, j, none⟩ = some (.int .u32 ((l.getD j 0).toNat : Int)) := by
  rw [h.cell, wordsC_get l j hj]
theorem wordsC_put (l : List UInt32) (j : Nat) (x : UInt32) : (wordsC l).setIfInBounds j (.int .u32 (x.toNat : Int)) = wordsC (l.set j x) := by
  apply Array.toList_inj.1
  simp [wordsC, cellsW, List.map_set]
theorem bytesC_cell {w : World} {g : Nat} {t : TypeId} {l : List UInt8} (h : RowAt w g t (keyC l)) (j : Nat) (hj : j < l.length) : w.cell? ⟨g, j, none⟩ = some (.int .u8 (l[j].toNat : Int)) := by
  rw [h.cell]
  have := cellsB_get l j hj
  simpa [keyC] using this

/-- A part of an array of bytes, as a slice. -/
theorem Bs.part {w : World} {g : Nat} {t : TypeId} {l : List UInt8} (h : RowAt w g t (keyC l)) (off n c : Nat) (hn : off + n ≤ l.length) (hc : n ≤ c) (hm : c ≤ maxLen) : Bs w (.slice (some ⟨g, off, none⟩) n c) ((l.drop off).take n) := by
  have hl : ((l.drop off).take n).length = n := by simp; omega
  refine ⟨_, c, by rw [hl], by rw [hl]; exact hc, hm, fun _ => ⟨g, off, rfl, fun j hj => ?_⟩⟩
  rw [hl] at hj
  rw [bytesC_cell h (off + j) (by omega)]
  simp

/-- 'x[l:h]' of an array that lies in a row. -/
theorem run_sliceArr {P : Program} (w : World) (t e : TypeId) (n : Nat) (ht : P.underlying t = some (.array n e)) (hs : (P.info? e).map (·.size) = some 1) (g off l h : Nat) (i j : Int) (hi : i = (l : Int)) (hj : j = (h : Int)) (h1 : l ≤ h) (h2 : h ≤ n) (h3 : l < n) :
    (Instr.sliceAt t (.pointer (some ⟨g, off, none⟩)) (some (.int .i64 i)) (some (.int .i64 j)) none).run P w = .ok (.slice (some ⟨g, off + l, none⟩) (h - l) (n - l)) w := by
  subst hi hj
  obtain ⟨f, hf, hz⟩ := Option.map_eq_some_iff.1 hs
  have hlen : P.arrayLen t = n := by simp [Program.arrayLen, ht]
  have hel : P.elem t = e := by simp [Program.elem, ht]
  rw [run_sliceAt_array_lh w t ⟨g, off, none⟩ (by rw [hlen, hel]; exact ht) .i64 .i64 _ _ (by omega) (by omega) (by rw [hlen]; omega)]
  have hadd : (⟨g, off, none⟩ : Addr).add l = ⟨g, off + l, none⟩ := by unfold Addr.add; split <;> simp_all
  simp [hel, hlen, sizeOf, typeInfo, hf, hz, slicedAt, show ¬ n = l by omega, hadd]
/-- 'x[l:]'. -/
theorem run_sliceArrL {P : Program} (w : World) (t e : TypeId) (n : Nat) (ht : P.underlying t = some (.array n e)) (hs : (P.info? e).map (·.size) = some 1) (g off l : Nat) (i : Int) (hi : i = (l : Int)) (h3 : l < n) :
    (Instr.sliceAt t (.pointer (some ⟨g, off, none⟩)) (some (.int .i64 i)) none none).run P w = .ok (.slice (some ⟨g, off + l, none⟩) (n - l) (n - l)) w := by
  subst hi
  obtain ⟨f, hf, hz⟩ := Option.map_eq_some_iff.1 hs
  have hlen : P.arrayLen t = n := by simp [Program.arrayLen, ht]
  have hel : P.elem t = e := by simp [Program.elem, ht]
  rw [run_sliceAt_array_l w t ⟨g, off, none⟩ (by rw [hlen, hel]; exact ht) .i64 _ (by omega) (by rw [hlen]; omega)]
  have hadd : (⟨g, off, none⟩ : Addr).add l = ⟨g, off + l, none⟩ := by unfold Addr.add; split <;> simp_all
  simp [hel, hlen, sizeOf, typeInfo, hf, hz, slicedAt, show ¬ n = l by omega, hadd]

/-- A row of the call's own that is full is a row as a whole. -/
theorem own_row {w : World} {base : Nat} {e : TypeId} {g n : Nat} {l : List UInt8} (h : w.ownsRow base e 1 (.slice (some ⟨g, 0, none⟩) n n) n (cellsB l)) : RowAt w g e (keyC l) := by
  rcases h.2 with ⟨h1, _⟩ | ⟨g', cap, cur, hv, _, hg, _, _, hs, ht⟩
  · cases h1
  · injection hv with e1 e2 e3
    injection e1 with e1
    injection e1 with e1
    subst e1 e3
    have : cur = keyC l := by
      apply Array.toList_inj.1
      rw [List.take_of_length_le (by simp [hs])] at ht
      rw [ht]
      rfl
    rw [this] at hg
    exact hg
theorem row_bs {w : World} {g : Nat} {t : TypeId} {l : List UInt8} (h : RowAt w g t (keyC l)) (hm : l.length ≤ maxLen) : Bs w (.slice (some ⟨g, 0, none⟩) l.length l.length) l := by
  have := Bs.part h 0 l.length l.length (by omega) (Nat.le_refl _) hm
  simpa using this
theorem bytesC_put (l : List UInt8) (j : Nat) (b : UInt8) : (keyC l).setIfInBounds j (.int .u8 (b.toNat : Int)) = keyC (l.set j b) := by
  apply Array.toList_inj.1
  simp [keyC, cellsB, List.map_set]
theorem splice_bytes (l m : List UInt8) (off : Nat) : splice (cellsB l) off (cellsB m) = cellsB (l.take off ++ m ++ l.drop (off + m.length)) := by
  unfold splice
  simp [cellsB]

theorem copy_from {w : World} {A : Option Addr} {n c : Nat} {l : List UInt8} {d : Option Addr} (h : Bs w (.slice A n c) l) :
    0 < (cellsB l).length → d = d ∧ ∃ ad, A = some ad ∧ ∀ j v, (cellsB l)[j]? = some v → w.cell? (ad.add j) = some v := by
  intro hp
  refine ⟨rfl, ?_⟩
  obtain ⟨A', c', hv, _, _, h3⟩ := h
  injection hv with e1 e2 e3
  subst e1
  rw [cellsB_length] at hp
  obtain ⟨b, off, rfl, hc⟩ := h3 hp
  refine ⟨_, rfl, fun j u hu => ?_⟩
  have hj : j < l.length := by
    have := (List.getElem?_eq_some_iff.1 hu).1
    rwa [cellsB_length] at this
  have hadd : (⟨b, off, none⟩ : Addr).add j = ⟨b, off + j, none⟩ := by unfold Addr.add; split <;> simp_all
  rw [hadd, hc j hj, ← hu, cellsB_get l j hj]

/-- 'x[i]' of an array by value. -/
theorem run_index_arr {P : Program} (w : World) (t e : TypeId) (n : Nat) (cs : Array Value) (kd ek : IntKind) (i : Nat) (ht : P.underlying t = some (.array n e)) (he : P.underlying e = some (.int ek)) (hs : (P.info? e).map (·.size) = some 1) (hi : i < n) (v : Value) (hv : cs[i]? = some v) :
    (Instr.index t (.agg cs) (.int kd (i : Int))).run P w = .ok v w := by
  obtain ⟨f, hf, hz⟩ := Option.map_eq_some_iff.1 hs
  simp [Instr.index, run_underlying ht, asIntOf, hi, part, isAgg, run_underlying he, sizeOf, typeInfo, hf, hz, hv, go_sem]
/-- The same, where the element is an array of m cells. -/
theorem run_index_arr_agg {P : Program} (w : World) (t e e2 : TypeId) (n m k : Nat) (cs : Array Value) (kd : IntKind) (i : Nat) (ht : P.underlying t = some (.array n e)) (he : P.underlying e = some (.array k e2)) (hs : (P.info? e).map (·.size) = some m) (hi : i < n) :
    (Instr.index t (.agg cs) (.int kd (i : Int))).run P w = .ok (.agg (cs.extract (i * m) (i * m + m))) w := by
  obtain ⟨f, hf, hz⟩ := Option.map_eq_some_iff.1 hs
  simp [Instr.index, run_underlying ht, asIntOf, hi, part, isAgg, run_underlying he, sizeOf, typeInfo, hf, hz, go_sem]

/-- Bytes that are there, and zeros behind them. -/
def fillB (a : List UInt8) (n : Nat) : List UInt8 := a ++ List.replicate (n - a.length) 0
theorem fillB_length (a : List UInt8) (n : Nat) (h : a.length ≤ n) : (fillB a n).length = n := by simp [fillB]; omega
theorem fillB_step (a m : List UInt8) (n : Nat) (h : a.length + m.length ≤ n) : (fillB a n).take a.length ++ m ++ (fillB a n).drop (a.length + m.length) = fillB (a ++ m) n := by
  unfold fillB
  rw [List.take_left, List.drop_append, List.drop_of_length_le (by omega), List.nil_append, List.drop_replicate, List.length_append,
    show n - a.length - (a.length + m.length - a.length) = n - (a.length + m.length) by omega]
theorem fillB_set (a : List UInt8) (n : Nat) (x : UInt8) (h : a.length < n) : (fillB a n).set a.length x = fillB (a ++ [x]) n := by
  unfold fillB
  rw [List.set_append_right _ _ (Nat.le_refl _), Nat.sub_self, show n - a.length = (n - (a ++ [x]).length) + 1 by simp; omega, List.replicate_succ, List.set_cons_zero]
  simp
theorem fillB_all (a : List UInt8) (n : Nat) (h : a.length = n) : fillB a n = a := by simp [fillB, h]
theorem fillB_zero (n : Nat) : fillB [] n = List.replicate n 0 := by simp [fillB]
end Go.Proofs.Ytmhhjdiilmgmoaa
end
section
namespace Go.Proofs.Ytmhhjdiilmgmoaa
open Go.RowKit
set_option linter.unusedVariables false
set_option maxRecDepth 20000

theorem OutStep.kl {a b : World} {o : Nat} {v v' u : Value} {ls : List (List UInt8)} (h : OutStep a b o v v') (hb : Kl a u ls) (h1 : 0 < ls.length → ∀ k, u.ownBlock = some k → k ≠ o ∧ v.ownBlock ≠ some k) : Kl b u ls := by
  obtain ⟨A, c, rfl, q1, q2, q4, q3⟩ := hb
  refine ⟨A, c, rfl, q1, q2, q4, fun hl => ?_⟩
  obtain ⟨g, off, rfl, hc⟩ := q3 hl
  obtain ⟨h2, h3⟩ := h1 hl g rfl
  exact ⟨g, off, rfl, fun k l e j u hj => (World.cell?_of_block (a := ⟨g, off + k * 32 + j, none⟩) (h.block g (World.block_lt_of_cell? a _ (hc k l e j u hj)) h2 h3)).trans (hc k l e j u hj)⟩
theorem wpList_loadK {P : Program} {ops : Array Oper} {rest : List Oper} {o : Oper} {a : Act} {w : World} {Q : Exit → Act → World → Prop} (hgd : o.guard = none) (ty : TypeId) (x : Operand) (ho : o.op = .load ty x) (g k : Nat) (hx : a.eval x = .pointer (some ⟨g, k, none⟩)) (l : List UInt8) (d : TypeDesc) (hc : w.rangeAt g k (cellsB l))
    (hu : P.underlying ty = some d) (hd : d.isRow = true) (hs : (P.info? ty).map (·.size) = some (cellsB l).length) (h : wpList P ops Q rest (a.put o.dst (.agg (keyC l))) w) : wpList P ops Q (o :: rest) a w :=
  wpList_load_mid hgd ty x ho g k hx (cellsB l) d hc hu hd hs h
theorem Try.sizeKeyM (l : List UInt8) (h : l.length = 32) : (Try.prog.info? 24).map (·.size) = some (cellsB l).length := by
  have := Try.sizeKey l h
  rw [keyC_size] at this
  rw [cellsB_length]
  exact this
theorem St.put_put (s : St) (a b : List UInt8) : (s.put a).put b = s.put (a ++ b) := by
  unfold St.put
  by_cases h : s.e = 0
  · simp [h]
  · simp [h]
theorem flat_len32 (ls : List (List UInt8)) (h : ∀ l ∈ ls, l.length = 32) : ls.flatten.length = ls.length * 32 := flat_length ls h

set_option maxHeartbeats 2000000 in
theorem outKeys_any (w : World) (o : Nat) (v : Value) (s : St) (u : Value) (ls : List (List UInt8)) (h : OutAt w o v s) (hu : Kl w u ls) (hf : 0 < ls.length → Off o v u) (hs : s.l.length ≤ 1000000000) :
    Calls Try.prog 32 #[.pointer (some ⟨o, 0, none⟩), u] w fun e w' => e = .returned (.tuple #[]) ∧ ∃ v', OutAt w' o v' (s.wKey ls) ∧ OutStep w w' o v v' := by
  have HH := Lib.hid h
  have HU := Lib.hid hu
  have HF := Lib.hid hf
  obtain ⟨A, c, rfl, h1, h2, h4, h3⟩ := hu
  unfold maxLen at h2
  have H32 := Lib.hid h4
  clear h hf h4
  by_cases hb : ls.length > 100
  · have hb2 : (100 : Int) < (ls.length : Int) := by omega
    have E : Hid (s.wKey ls = s.fail 2) := by show _ = _; unfold St.wKey; rw [if_pos hb]
    have HX := Lib.hid (fun w h => outFail_any w o v s 2 h)
    clear h3
    go_enter Try.func32, Try.ntmps32
    go_wp2_with fail
    refine (HX.out _ HH.out).mono ?_
    intro e w1 hh
    obtain ⟨he, v1, h1, s1⟩ := hh
    subst he
    have H1 := Lib.hid h1
    have S1 := Lib.hid s1
    clear h1 s1
    go_wp2
    refine bodyPost_ret (results_none rfl _ _ _) rfl ?_
    exact ⟨rfl, v1, by rw [E.out]; exact H1.out, S1.out⟩
  · have hb2 : ¬ ((100 : Int) < (ls.length : Int)) := by omega
    have hw : IntKind.u64.wrap (ls.length : Int) = (ls.length : Int) := by rw [IntKind.wrap_u64]; omega
    have HN : Hid (∀ w, Calls Try.prog 54 #[.int .u64 (ls.length : Int), .int .i64 2] w (RetBs w (lowB ls.length 2).reverse)) := fun w => High_in w ls.length 2 (by omega) (by omega) (by omega)
    have LN : Hid ((lowB ls.length 2).reverse.length = 2) := by show _ = _; rw [List.length_reverse]; exact lowB_length _ _
    obtain ⟨hd, hhd⟩ : ∃ hd, hd = (lowB ls.length 2).reverse := ⟨_, rfl⟩
    have E : Hid (s.wKey ls = s.put (hd ++ ls.flatten)) := by show _ = _; unfold St.wKey; rw [if_neg hb, ← hhd, St.put_put]
    rw [← hhd] at HN LN
    have P1 := Lib.hid (fun w u h hu => outPut_any w o v s u hd h hu (by rw [LN.out]; omega))
    have P2 : Hid (∀ w v j l u, j < ls.length → l.length = 32 → OutAt w o v (s.put (hd ++ (ls.take j).flatten)) → Bs w u l → Calls Try.prog 53 #[.pointer (some ⟨o, 0, none⟩), u] w fun e w' => e = .returned (.tuple #[]) ∧ ∃ v', OutAt w' o v' ((s.put (hd ++ (ls.take j).flatten)).put l) ∧ OutStep w w' o v v') := fun w v j l u hj hl h hu => outPut_any w o v _ u l h hu (by
      have q1 := s.put_length (hd ++ (ls.take j).flatten)
      rw [List.length_append, LN.out, flat_len32 _ (fun l hl => H32.out l (List.mem_of_mem_take hl)), List.length_take_of_le (by omega)] at q1
      omega)
    clear hhd
    go_enter Try.func32, Try.ntmps32
    go_wp2_with fail
    refine (HN.out _).mono ?_
    intro e w1 hh
    obtain ⟨u1, he, hu1, b1⟩ := hh
    subst he
    have HU1 := Lib.hid hu1
    have B1 := Lib.hid b1
    obtain ⟨A1, c1, rfl, _, _, _⟩ := hu1
    clear b1
    go_wp2_with fail
    refine (P1.out _ _ (HH.out.kept B1.out) HU1.out).mono ?_
    intro e w2 hh
    obtain ⟨he, v2, h2, s2⟩ := hh
    subst he
    have S2 := Lib.hid ((OutStep.below B1.out).trans s2)
    have H2 : Hid (OutAt w2 o v2 (s.put (hd ++ (ls.take 0).flatten))) := by show OutAt _ _ _ _; rw [List.take_zero, List.flatten_nil, List.append_nil]; exact h2
    clear h2 s2 B1 HU1 HN P1
    go_wp2_with fail
    go_loopw [19] (fun i wr => ∃ (j : Nat) (v' : Value), j ≤ ls.length ∧ i = .int .i64 (j : Int) ∧ OutAt wr o v' (s.put (hd ++ (ls.take j).flatten)) ∧ OutStep w wr o v v') (fun i _ => ls.length - (intOf i).toNat)
    case atStart => exact ⟨0, v2, by omega, rfl, H2.out, S2.out⟩
    case round =>
      clear H2 S2
      obtain ⟨j, v', hj, rfl, hO, hS⟩ := hrel
      have HO := Lib.hid hO
      have HS := Lib.hid hS
      clear hO hS
      by_cases hlt : j < ls.length
      · have hlt2 : (j : Int) < (ls.length : Int) := by omega
        have hw1 : IntKind.i64.wrap ((j : Int) + 1) = (j : Int) + 1 := IntWalk.i64_in _ (by omega)
        have hq0 : ¬ ((j : Int) < 0) := by omega
        obtain ⟨l, hl⟩ : ∃ l, ls[j]? = some l := ⟨_, List.getElem?_eq_getElem hlt⟩
        have L32 : Hid (l.length = 32) := H32.out l (List.mem_of_getElem? hl)
        have HT : Hid (hd ++ (ls.take j).flatten ++ l = hd ++ (ls.take (j + 1)).flatten) := by
          show _ = _
          rw [List.take_add_one, hl, List.flatten_append, List.append_assoc]
          simp
        obtain ⟨A', c', he, _, _, _, hr⟩ := HS.out.kl HU.out HF.out
        injection he with e1 _ e3
        subst e1 e3
        obtain ⟨b, off, rfl, hr2⟩ := hr (by omega)
        have HR := Lib.hid (hr2 j l hl)
        have P2J := Lib.hid (fun w u h hu => P2.out w v' j l u hlt L32.out h hu)
        clear hr hr2 hl h3 P2
        go_wp2_with (first
          | (with_reducible refine wpList_loadK (o := ⟨some 22, _, _, _, _, _⟩) rfl 24 (.tmp 21) rfl b (off + j * 32) (by with_unfolding_all rfl) l (.array 32 5) (by with_unfolding_all exact HR.out) Try.underlying24 rfl (Try.sizeKeyM l L32.out) ?_)
          | ((with_reducible refine wpList_alloc_row (o := ⟨some 5, _, _, _, _, _⟩) rfl 24 rfl (keyC zeroKey) Try.zeroK ?_); intro g5 w5 n5)
          | ((with_reducible refine wpList_store_row (o := ⟨none, _, _, _, _, _⟩) rfl 24 (.tmp 5) (.tmp 22) rfl g5 24 (keyC zeroKey) (keyC l) (by with_unfolding_all rfl) (by with_unfolding_all rfl) n5.row (keyC_same zeroKey_length L32.out) (Try.sizeKey _ L32.out) (keyC_one _) ?_); intro w6 p6))
        have B6 := (laid_put n5 p6).1
        have HB6 := Lib.hid B6
        have R6 := Lib.hid (row_bs p6.row (by rw [L32.out]; unfold maxLen; omega))
        have SP := n5.spot
        rw [L32.out] at R6
        clear B6 n5 p6
        refine (P2J.out _ _ (HO.out.kept HB6.out) R6.out).mono ?_
        intro e w7 hh
        obtain ⟨he, v7, h7, s7⟩ := hh
        subst he
        rw [St.put_put, HT.out] at h7
        have H7 := Lib.hid h7
        have S7 := Lib.hid ((HS.out.trans (OutStep.below HB6.out)).trans s7)
        clear h7 s7 HR R6 HS HO P2J
        go_wp2_with fail
        go_roundw
        case rel => exact ⟨j + 1, v7, by omega, by go_num, H7.out, S7.out⟩
        case measure => simp [intOf]; omega
      · have hj2 : j = ls.length := by omega
        subst hj2
        rw [List.take_length] at HO
        go_wp2_with fail
        go_end0
        exact ⟨rfl, v', by rw [E.out]; exact HO.out, HS.out⟩
end Go.Proofs.Ytmhhjdiilmgmoaa
end
section
namespace Go.Proofs.Ytmhhjdiilmgmoaa
open Go.RowKit
set_option linter.unusedVariables false
set_option maxRecDepth 20000

/-- A slice of elements of sz cells each: element j has the cells f j. -/
def Rw (w : World) (v : Value) (sz n : Nat) (f : Nat → List Value) : Prop :=
  ∃ A c, v = .slice A n c ∧ n ≤ c ∧ c ≤ maxLen ∧ (0 < n → ∃ b off, A = some ⟨b, off, none⟩ ∧ ∀ j, j < n → w.rangeAt b (off + j * sz) (f j))
theorem Rw.below {w w' : World} {v : Value} {sz n : Nat} {f : Nat → List Value} (h : Rw w v sz n f) (hb : Below w.heap.size w w') : Rw w' v sz n f := by
  obtain ⟨A, c, hv, h1, h2, h3⟩ := h
  refine ⟨A, c, hv, h1, h2, fun hl => ?_⟩
  obtain ⟨b, off, hA, hc⟩ := h3 hl
  exact ⟨b, off, hA, fun j hj i u hu => (hb.cell (p := ⟨b, off + j * sz + i, none⟩) (World.block_lt_of_cell? w _ (hc j hj i u hu))).trans (hc j hj i u hu)⟩

theorem boxed_below {w w' : World} {g : Nat} {t : TypeId} {v : Value} (h : Boxed w g t v) (hb : Below w.heap.size w w') : Boxed w' g t v := (hb.block g (Array.getElem?_eq_some_iff.1 h).1).trans h
def kindsC : Array Value := #[.int .i64 1, .int .i64 2, .int .i64 4, .int .i64 8]
theorem numberKinds_row (w : World) : Calls Try.prog 68 #[] w fun e w' => ∃ g, e = .returned (.slice (some ⟨g, 0, none⟩) 4 4) ∧ RowAt w' g 3 kindsC ∧ Below w.heap.size w w' := by
  go_enter Try.func68, Try.ntmps68
  go_wp2
  go_ret
  exact ⟨_, rfl, RowAt.new w 3 kindsC, alloc_below _ _⟩
theorem own_off {w : World} {base n g sz : Nat} {e t : TypeId} {s : Value} {xs : List Value} {cs : Array Value} {f : Nat × Nat} (h : w.ownsRow base e sz s n xs) (hr : w.heap[g]? = some (.cells cs t f)) (ht : t ≠ e) : some g ≠ s.ownBlock := by
  rcases h.2 with ⟨rfl, _⟩ | ⟨k, cap, cur, rfl, _, hk, _⟩
  · simp [Value.ownBlock]
  · intro e2
    have : g = k := by simpa [Value.ownBlock] using e2
    subst this
    rw [hr] at hk
    injection hk with hk
    injection hk with h1 h2
    exact ht h2

end Go.Proofs.Ytmhhjdiilmgmoaa
end
