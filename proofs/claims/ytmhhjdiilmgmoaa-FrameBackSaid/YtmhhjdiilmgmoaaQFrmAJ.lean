/-
  Texts that belong together, merged: FrmE, CodT. Conditions: as each theorem names them.
-/
import Derived.Test.YtmhhjdiilmgmoaaQFrmAI
import Derived.Test.YtmhhjdiilmgmoaaQFrmAD
import Derived.Test.YtmhhjdiilmgmoaaQFrmAG
section
namespace Go.Proofs.Ytmhhjdiilmgmoaa
open Go.RowKit
set_option linter.unusedVariables false
set_option maxRecDepth 20000

theorem u32_in (n : Nat) (h : n < 4294967296) : IntKind.u32.wrap (n : Int) = (n : Int) := by
  show (n : Int) % 4294967296 = n
  omega
set_option maxHeartbeats 4000000 in
theorem decode_any (w : World) (v : Value) (b : List UInt8) (h : Bs w v b) :
    Calls Try.prog 18 #[v] w fun e w' => ∃ u, e = .returned (.tuple #[u, .int .i64 (decE b)]) ∧ FrV w' u (decF b) ∧ Below w.heap.size w w' := by
  have HH := Lib.hid h
  obtain ⟨f0, hf0⟩ : ∃ f0, f0 = rdF0 b := ⟨_, rfl⟩
  have hn0 : f0.n < 4294967296 := by rw [hf0, rdF0_n]; exact num4_lt _
  have ha0 : f0.ack < 4294967296 := by rw [hf0, rdF0_ack]; exact num4_lt _
  have hw1 := u32_in f0.n hn0
  have hw2 := u32_in f0.ack ha0
  have C0 : Hid (∀ w v, b.length ≤ 8000 → Bs w v b → Calls Try.prog 33 #[v] w fun e w' => ∃ i, e = .returned (.pointer (some ⟨i, 0, none⟩)) ∧ w.heap.size ≤ i ∧ InAt w' i (rdS0 b) ∧ Below w.heap.size w w') := fun w v hl h => read_any w v b h (by omega)
  have C1 : Hid (∀ w i, InAt w i (rdS0 b) → Calls Try.prog 34 #[.pointer (some ⟨i, 0, none⟩), .int .i64 1] w fun e w' => e = .returned (.int .u64 (rdM b : Int)) ∧ InAt w' i (rdS1 b) ∧ w.grownBy w' (some i)) := fun w i h => inNumber_any w i (rdS0 b) 1 h
  have C2 : Hid (∀ w i, InAt w i (rdS1 b) → Calls Try.prog 34 #[.pointer (some ⟨i, 0, none⟩), .int .i64 4] w fun e w' => e = .returned (.int .u64 (f0.n : Int)) ∧ InAt w' i (rdS2 b) ∧ w.grownBy w' (some i)) := fun w i h => by rw [hf0, rdF0_n, show rdS2 b = (rdS1 b).numS 4 from rfl]; exact inNumber_any w i (rdS1 b) 4 h
  have C3 : Hid (∀ w i, InAt w i (rdS2 b) → Calls Try.prog 34 #[.pointer (some ⟨i, 0, none⟩), .int .i64 4] w fun e w' => e = .returned (.int .u64 (f0.ack : Int)) ∧ InAt w' i (rdS3 b) ∧ w.grownBy w' (some i)) := fun w i h => by rw [hf0, rdF0_ack, show rdS3 b = (rdS2 b).numS 4 from rfl]; exact inNumber_any w i (rdS2 b) 4 h
  have C4 : Hid (∀ w i, InAt w i (rdS3 b) → Calls Try.prog 35 #[.pointer (some ⟨i, 0, none⟩), .int .i64 3] w fun e w' => ∃ v, e = .returned v ∧ Kl w' v (rdK b) ∧ KyAt w' v ∧ InAt w' i (rdS4 b) ∧ w.grownBy w' (some i)) := fun w i h => by rw [show rdK b = (rdS3 b).keys 3 from rfl, show rdS4 b = (rdS3 b).keyS 3 from rfl]; exact inKeys_any w i (rdS3 b) 3 h
  have C5 : Hid (∀ w i, InAt w i (rdS4 b) → Calls Try.prog 36 #[.pointer (some ⟨i, 0, none⟩), .int .i64 264] w fun e w' => ∃ v, e = .returned v ∧ Bs w' v f0.box ∧ U8At w' v ∧ InAt w' i (rdS5 b) ∧ w.grownBy w' (some i)) := fun w i h => by rw [hf0, rdF0_box, show rdS5 b = (rdS4 b).bytS 264 from rfl]; exact inBytes_any w i (rdS4 b) 264 h
  have C6 : Hid (∀ w i, InAt w i (rdS5 b) → Calls Try.prog 35 #[.pointer (some ⟨i, 0, none⟩), .int .i64 67] w fun e w' => ∃ v, e = .returned v ∧ Kl w' v f0.sign ∧ KyAt w' v ∧ InAt w' i (rdS6 b) ∧ w.grownBy w' (some i)) := fun w i h => by rw [hf0, rdF0_sign, show rdS6 b = (rdS5 b).keyS 67 from rfl]; exact inKeys_any w i (rdS5 b) 67 h
  have C7 : Hid (∀ w i, InAt w i (rdS6 b) → Calls Try.prog 38 #[.pointer (some ⟨i, 0, none⟩)] w fun e w' => e = .returned (.int .i64 (rdS6 b).fin) ∧ w = w') := fun w i h => inEnd_any w i (rdS6 b) h
  have C8 : Hid (∀ w, Calls Try.prog 37 #[.int .i64 (rdS6 b).fin, .agg #[.int .u64 (rdM b : Int), .int .i64 ((rdK b).length : Int)], .agg #[.int .u64 1, .int .i64 3]] w fun r w' => r = .returned (.int .i64 (rdW b)) ∧ Below w.heap.size w w') := fun w => by unfold rdW; exact wrong_any w _ _ _ _ _
  have HF : Hid (f0 = rdF0 b) := hf0
  have HZ : Hid (f0 = ⟨f0.n, f0.ack, zeroKey, zeroKey, zeroKey, f0.box, f0.sign⟩) := by show _ = _; rw [hf0]; exact rdF0_zero b
  clear hf0
  obtain ⟨A, c, rfl, _, q2, _⟩ := h
  unfold maxLen at q2
  have hl1 : b.length ≤ 9223372036854775807 := by omega
  clear q2
  by_cases a0 : 8000 < b.length
  · have d0 : decide (8000 < (b.length : Int)) = true := by simp; omega
    have EE : Hid (decE b = 2) := if_pos a0
    have EF : Hid (decF b = zeroFr) := if_neg (by rw [EE.out]; decide)
    clear a0 C0 C1 C2 C3 C4 C5 C6 C7 C8
    go_enter Try.func18, Try.ntmps18
    go_wp2_with (first
      | ((with_reducible refine wpList_alloc_row (o := ⟨some 2, _, _, _, _, _⟩) rfl 28 rfl (frC zeroFr nilS nilS) Try.zeroOfFr ?_); intro g2 w2 n2; have N2 := Lib.hid n2)
      | (with_reducible refine wpList_build0 (o := ⟨some 13, _, _, _, _, _⟩) rfl 28 rfl (frC zeroFr nilS nilS) Try.builtFr ?_)
      | ((with_reducible refine wpList_store_row (o := ⟨none, _, _, _, _, _⟩) rfl 28 (.tmp 2) (.tmp 13) rfl g2 28 (frC zeroFr nilS nilS) (frC zeroFr nilS nilS) (by with_unfolding_all rfl) (by with_unfolding_all rfl) (by with_unfolding_all exact n2.row) rfl (Try.sizeFr zeroFr_ok _ _) frC0_one ?_); intro w9 p9; have P9 := Lib.hid p9))
    refine bodyPost_ret (ret_row_tmp rfl _ g2 28 (frC zeroFr nilS nilS) _ (by rfl) P9.out.row Try.underlying28 rfl (Try.sizeFr zeroFr_ok _ _)) rfl ?_
    exact ⟨_, by rw [EE.out]; rfl, by rw [EF.out]; exact ⟨_, _, rfl, zeroFr_ok, Bs.nil _, Kl.nil _⟩, P9.out.below N2.out.below N2.out.below.size (by have := N2.out.spot; omega)⟩
  · have d0 : decide (8000 < (b.length : Int)) = false := by simp; omega
    have HL : Hid (b.length ≤ 8000) := by show _ ≤ _; omega
    have E1 : Hid (decE b = if rdW b ≠ 0 then rdW b else checkE (rdF b)) := if_neg a0
    clear a0
    by_cases a1 : rdW b = 0
    · have E2 : Hid (decE b = checkE (rdF b)) := by show _ = _; rw [E1.out]; simp [a1]
      have h3 : (rdK b).length = 3 := by
        unfold rdW wrongE at a1
        split at a1
        · contradiction
        · split at a1
          · cases a1
          · omega
      have d1 : (rdW b != 0) = false := by simp [a1]
      have H3 := Lib.hid h3
      clear E1 a1 h3
      go_enter Try.func18, Try.ntmps18
      go_wp2_with (first
        | ((with_reducible refine wpList_alloc_row (o := ⟨some 2, _, _, _, _, _⟩) rfl 28 rfl (frC zeroFr nilS nilS) Try.zeroOfFr ?_); intro g2 w2 n2; have N2 := Lib.hid n2)
        | ((with_reducible refine wpList_alloc_row (o := ⟨some 4, _, _, _, _, _⟩) rfl 28 rfl (frC zeroFr nilS nilS) Try.zeroOfFr ?_); intro g4 w4 n4; have N4 := Lib.hid n4; clear n2 n4))
      refine (C0.out _ _ HL.out (HH.out.below (below_size N2.out.below N4.out.below))).mono ?_
      intro e w5 hh
      obtain ⟨i, he, hi5, h5, b5⟩ := hh
      subst he
      have D0 : Hid (DIn (fun w => InAt w i (rdS0 b)) w w5 g2 g4 i (frC zeroFr nilS nilS) (frC zeroFr nilS nilS)) := by
        have n2 := N2.out
        have n4 := N4.out
        have a1 := n2.spot
        have a2 := n2.size
        have a3 := n4.spot
        have a4 := n4.size
        exact ⟨h5, (n2.row.kept n4.below).kept b5, n4.row.kept b5, below_size (below_size n2.below n4.below) b5, by omega, by omega, by omega, by omega, by omega, by omega⟩
      clear N2 N4 h5 b5 hi5
      go_wp2_with fail
      refine (C1.out _ _ D0.out.inn).mono ?_
      intro e w6 hh
      obtain ⟨he, h6, s6⟩ := hh
      subst he
      have D1 := Lib.hid (D0.out.read (R' := fun w => InAt w i (rdS1 b)) h6 s6)
      clear D0 h6 s6
      go_wp2_with fail
      refine (C2.out _ _ D1.out.inn).mono ?_
      intro e w7 hh
      obtain ⟨he, h7, s7⟩ := hh
      subst he
      have D2 := Lib.hid (D1.out.read (R' := fun w => InAt w i (rdS2 b)) h7 s7)
      have c0 := FrAt.n (f := zeroFr) D2.out.two
      have z0 := D2.out.two.frozen 0
      clear D1 h7 s7
      go_wp2_with fail
      have r3 := D2.out.two.put 0 (.int .u32 (f0.n : Int))
      have g3 := grown_setCell w7 g4 0 (.int .u32 (f0.n : Int))
      rw [frC_n] at r3
      have D3 := Lib.hid (D2.out.put (D2.out.inn.put D2.out.two D2.out.hbi g3) r3 g3)
      clear D2 r3 g3 c0 z0
      refine (C3.out _ _ D3.out.inn).mono ?_
      intro e w8 hh
      obtain ⟨he, h8, s8⟩ := hh
      subst he
      have D4 := Lib.hid (D3.out.read (R' := fun w => InAt w i (rdS3 b)) h8 s8)
      have c1 := FrAt.ack (f := { zeroFr with n := f0.n }) D4.out.two
      have z1 := D4.out.two.frozen 1
      clear D3 h8 s8
      go_wp2_with fail
      have r5 := D4.out.two.put 1 (.int .u32 (f0.ack : Int))
      have g5 := grown_setCell w8 g4 1 (.int .u32 (f0.ack : Int))
      rw [frC_ack] at r5
      have D5 := Lib.hid (D4.out.put (D4.out.inn.put D4.out.two D4.out.hbi g5) r5 g5)
      clear D4 r5 g5 c1 z1
      refine (C4.out _ _ D5.out.inn).mono ?_
      intro e w9 hh
      obtain ⟨ku, he, k9, y9, h9, s9⟩ := hh
      subst he
      have D6 := Lib.hid (D5.out.read (R' := fun w => InAt w i (rdS4 b)) h9 s9)
      have K6 : Hid (KlK w9 ku (rdK b) g2 g4 i) := by
        obtain ⟨_, hr, _⟩ := h9
        exact Kl.apart k9 y9 D6.out.one D6.out.two hr (by decide) (by decide) (by decide)
      clear D5 h9 s9 k9 y9
      obtain ⟨KA, kc, rfl, kx, km, _⟩ := id K6.out.1
      unfold maxLen at km
      have hkl : (rdK b).length ≤ 9223372036854775807 := by omega
      clear kx km
      go_wp2_with fail
      refine (C5.out _ _ D6.out.inn).mono ?_
      intro e w10 hh
      obtain ⟨bu, he, k9, y9, h9, s9⟩ := hh
      subst he
      have D7 := Lib.hid (D6.out.read (R' := fun w => InAt w i (rdS5 b)) h9 s9)
      have K7 := Lib.hid (K6.out.grown s9 (by omega))
      have B7 : Hid (BsK w10 bu f0.box g2 g4 i) := by
        obtain ⟨_, hr, _⟩ := h9
        exact Bs.apart k9 y9 D7.out.one D7.out.two hr (by decide) (by decide) (by decide)
      have c8 := FrAt.box (f := { zeroFr with n := f0.n, ack := f0.ack }) D7.out.two ⟨hn0, ha0, zeroKey_length, zeroKey_length, zeroKey_length⟩
      have z8 := D7.out.two.frozen 98
      clear D6 h9 s9 k9 y9 K6
      obtain ⟨BA, bc, rfl, _⟩ := id B7.out.1
      unfold nilS at c8
      go_wp2_with fail
      have r8 := D7.out.two.put 98 (.slice BA f0.box.length bc)
      have g8 := grown_setCell w10 g4 98 (.slice BA f0.box.length bc)
      rw [frC_box (f := { zeroFr with n := f0.n, ack := f0.ack }) ⟨hn0, ha0, zeroKey_length, zeroKey_length, zeroKey_length⟩ _ _ _ f0.box] at r8
      have D8 := Lib.hid (D7.out.put (D7.out.inn.put D7.out.two D7.out.hbi g8) r8 g8)
      have K8 := Lib.hid (K7.out.grown g8 (by omega))
      have B8 := Lib.hid (B7.out.grown g8 (by omega))
      clear D7 K7 B7 r8 g8 c8 z8
      refine (C6.out _ _ D8.out.inn).mono ?_
      intro e w11 hh
      obtain ⟨su, he, k9, y9, h9, s9⟩ := hh
      subst he
      have D9 := Lib.hid (D8.out.read (R' := fun w => InAt w i (rdS6 b)) h9 s9)
      have K9 := Lib.hid (K8.out.grown s9 (by omega))
      have B9 := Lib.hid (B8.out.grown s9 (by omega))
      have S9 : Hid (KlK w11 su f0.sign g2 g4 i) := by
        obtain ⟨_, hr, _⟩ := h9
        exact Kl.apart k9 y9 D9.out.one D9.out.two hr (by decide) (by decide) (by decide)
      have c9 := FrAt.sign (f := { zeroFr with n := f0.n, ack := f0.ack, box := f0.box }) D9.out.two ⟨hn0, ha0, zeroKey_length, zeroKey_length, zeroKey_length⟩
      have z9 := D9.out.two.frozen 99
      clear D8 h9 s9 k9 y9 K8 B8
      obtain ⟨SA, sc, rfl, _⟩ := id S9.out.1
      unfold nilS at c9
      go_wp2_with fail
      have r9 := D9.out.two.put 99 (.slice SA f0.sign.length sc)
      have g9 := grown_setCell w11 g4 99 (.slice SA f0.sign.length sc)
      rw [frC_sign (f := { zeroFr with n := f0.n, ack := f0.ack, box := f0.box }) ⟨hn0, ha0, zeroKey_length, zeroKey_length, zeroKey_length⟩ _ _ _ f0.sign] at r9
      have r10 : RowAt (w11.setCell ⟨g4, 99, none⟩ (.slice SA f0.sign.length sc)) g4 28 (frC f0 (.slice BA f0.box.length bc) (.slice SA f0.sign.length sc)) := by
        rw [HZ.out]; exact r9
      have D10 := Lib.hid (D9.out.put (D9.out.inn.put D9.out.two D9.out.hbi g9) r10 g9)
      have K10 := Lib.hid (K9.out.grown g9 (by omega))
      have B10 := Lib.hid (B9.out.grown g9 (by omega))
      have S10 := Lib.hid (S9.out.grown g9 (by omega))
      clear D9 K9 B9 S9 r9 g9 c9 z9 r10
      refine (C7.out _ _ D10.out.inn).mono ?_
      intro e w12 hh
      obtain ⟨he, hw⟩ := hh
      subst he hw
      go_wp2_with fail
      refine (C8.out _).mono ?_
      intro e w13 hh
      obtain ⟨he, b13⟩ := hh
      subst he
      have b13 := b13
      have D11 := Lib.hid (D10.out.kept (D10.out.inn.kept b13) b13)
      have K11 := Lib.hid (K10.out.below b13)
      have B11 := Lib.hid (B10.out.below b13)
      have S11 := Lib.hid (S10.out.below b13)
      clear D10 K10 B10 S10 b13
      have h3 := H3.out
      obtain ⟨kb, ko, rfl, h32, hkr⟩ := K11.out.1.keys (by omega)
      have HKR := Lib.hid hkr
      have HK32 := Lib.hid h32
      clear hkr h32
      have hne := K11.out.2 (by omega) kb rfl
      have O0 : Hid f0.Ok := by refine ⟨hn0, ha0, ?_, ?_, ?_⟩ <;> (rw [HZ.out]; exact zeroKey_length)
      have O1 : Hid (Fr.Ok { f0 with eph := keyI (rdK b) 0 }) := ⟨hn0, ha0, keyI_len HK32.out 0, O0.out.epoch, O0.out.next⟩
      have O2 : Hid (Fr.Ok { { f0 with eph := keyI (rdK b) 0 } with epoch := keyI (rdK b) 1 }) := ⟨hn0, ha0, keyI_len HK32.out 0, keyI_len HK32.out 1, O0.out.next⟩
      have O3 : Hid (rdF b).Ok := by rw [← rdF_eq b f0 HF.out]; exact ⟨hn0, ha0, keyI_len HK32.out 0, keyI_len HK32.out 1, keyI_len HK32.out 2⟩
      have FX : Hid ((rdF b).box = f0.box ∧ (rdF b).sign = f0.sign) := by rw [← rdF_eq b f0 HF.out]; exact ⟨rfl, rfl⟩
      have L0 := Lib.hid (keyI_len HK32.out 0)
      have L1 := Lib.hid (keyI_len HK32.out 1)
      have L2 := Lib.hid (keyI_len HK32.out 2)
      have hS : (w13.drew.rangeAt kb (ko + 0 * 32) (cellsB (keyI (rdK b) 0)) ∧ w13.drew.rangeAt kb (ko + 1 * 32) (cellsB (keyI (rdK b) 1)) ∧ w13.drew.rangeAt kb (ko + 2 * 32) (cellsB (keyI (rdK b) 2))) := ⟨HKR.out 0 (by omega), HKR.out 1 (by omega), HKR.out 2 (by omega)⟩
      go_wp2_with fail
      refine plain_region (S := fun w' => w'.rangeAt kb (ko + 0 * 32) (cellsB (keyI (rdK b) 0)) ∧ w'.rangeAt kb (ko + 1 * 32) (cellsB (keyI (rdK b) 1)) ∧ w'.rangeAt kb (ko + 2 * 32) (cellsB (keyI (rdK b) 2))) (fin := fun _ => false) (by kernel_rfl) ?_
      refine walkS_take (i := 0) (oi := ⟨some 46, _, _, _, _, _⟩) (v := .slice (some ⟨kb, ko, none⟩) (rdK b).length kc) rfl (by kernel_rfl) (by kernel_rfl) (fun _ _ _ h => h) _ _ _ _ (by kernel_rfl) (by kernel_rfl) (Or.inl ⟨by rfl, fun w' hS' => (by clear hS hS'; go_simp)⟩) hS ?_
      try simp only [Act.put, List.setIfInBounds_toArray, List.set_cons_zero, List.set_cons_succ]
      refine walkS_take (i := 1) (oi := ⟨some 47, _, _, _, _, _⟩) (v := .pointer (some ⟨kb, ko + 0 * 32, none⟩)) rfl (by kernel_rfl) (by kernel_rfl) (fun _ _ _ h => h) _ _ _ _ (by kernel_rfl) (by kernel_rfl) (Or.inl ⟨by rfl, fun w' hS' => (by exact run_keyAt 26 24 _ _ rfl kb ko _ _ 0 rfl rfl (by omega) Try.underlying26 Try.sizeK)⟩) hS ?_
      try simp only [Act.put, List.setIfInBounds_toArray, List.set_cons_zero, List.set_cons_succ]
      refine walkS_take (i := 2) (oi := ⟨some 48, _, _, _, _, _⟩) (v := .agg (keyC (keyI (rdK b) 0))) rfl (by kernel_rfl) (by kernel_rfl) (fun _ _ _ h => h) _ _ _ _ (by kernel_rfl) (by kernel_rfl) (Or.inl ⟨by rfl, fun w' hS' => (by exact run_keyL 24 _ rfl kb _ rfl _ _ hS'.1 Try.underlying24 rfl (Try.sizeKeyM _ L0.out))⟩) hS ?_
      try simp only [Act.put, List.setIfInBounds_toArray, List.set_cons_zero, List.set_cons_succ]
      refine walkS_take (i := 3) (oi := ⟨some 49, _, _, _, _, _⟩) (v := .slice (some ⟨kb, ko, none⟩) (rdK b).length kc) rfl (by kernel_rfl) (by kernel_rfl) (fun _ _ _ h => h) _ _ _ _ (by kernel_rfl) (by kernel_rfl) (Or.inl ⟨by rfl, fun w' hS' => (by clear hS hS'; go_simp)⟩) hS ?_
      try simp only [Act.put, List.setIfInBounds_toArray, List.set_cons_zero, List.set_cons_succ]
      refine walkS_take (i := 4) (oi := ⟨some 50, _, _, _, _, _⟩) (v := .pointer (some ⟨kb, ko + 1 * 32, none⟩)) rfl (by kernel_rfl) (by kernel_rfl) (fun _ _ _ h => h) _ _ _ _ (by kernel_rfl) (by kernel_rfl) (Or.inl ⟨by rfl, fun w' hS' => (by exact run_keyAt 26 24 _ _ rfl kb ko _ _ 1 rfl rfl (by omega) Try.underlying26 Try.sizeK)⟩) hS ?_
      try simp only [Act.put, List.setIfInBounds_toArray, List.set_cons_zero, List.set_cons_succ]
      refine walkS_take (i := 5) (oi := ⟨some 51, _, _, _, _, _⟩) (v := .agg (keyC (keyI (rdK b) 1))) rfl (by kernel_rfl) (by kernel_rfl) (fun _ _ _ h => h) _ _ _ _ (by kernel_rfl) (by kernel_rfl) (Or.inl ⟨by rfl, fun w' hS' => (by exact run_keyL 24 _ rfl kb _ rfl _ _ hS'.2.1 Try.underlying24 rfl (Try.sizeKeyM _ L1.out))⟩) hS ?_
      try simp only [Act.put, List.setIfInBounds_toArray, List.set_cons_zero, List.set_cons_succ]
      refine walkS_take (i := 6) (oi := ⟨some 52, _, _, _, _, _⟩) (v := .slice (some ⟨kb, ko, none⟩) (rdK b).length kc) rfl (by kernel_rfl) (by kernel_rfl) (fun _ _ _ h => h) _ _ _ _ (by kernel_rfl) (by kernel_rfl) (Or.inl ⟨by rfl, fun w' hS' => (by clear hS hS'; go_simp)⟩) hS ?_
      try simp only [Act.put, List.setIfInBounds_toArray, List.set_cons_zero, List.set_cons_succ]
      refine walkS_take (i := 7) (oi := ⟨some 53, _, _, _, _, _⟩) (v := .pointer (some ⟨kb, ko + 2 * 32, none⟩)) rfl (by kernel_rfl) (by kernel_rfl) (fun _ _ _ h => h) _ _ _ _ (by kernel_rfl) (by kernel_rfl) (Or.inl ⟨by rfl, fun w' hS' => (by exact run_keyAt 26 24 _ _ rfl kb ko _ _ 2 rfl rfl (by omega) Try.underlying26 Try.sizeK)⟩) hS ?_
      try simp only [Act.put, List.setIfInBounds_toArray, List.set_cons_zero, List.set_cons_succ]
      refine walkS_take (i := 8) (oi := ⟨some 54, _, _, _, _, _⟩) (v := .agg (keyC (keyI (rdK b) 2))) rfl (by kernel_rfl) (by kernel_rfl) (fun _ _ _ h => h) _ _ _ _ (by kernel_rfl) (by kernel_rfl) (Or.inl ⟨by rfl, fun w' hS' => (by exact run_keyL 24 _ rfl kb _ rfl _ _ hS'.2.2 Try.underlying24 rfl (Try.sizeKeyM _ L2.out))⟩) hS ?_
      try simp only [Act.put, List.setIfInBounds_toArray, List.set_cons_zero, List.set_cons_succ]
      have D12 := Lib.hid (D11.out.kept (wl := w13.drew) D11.out.inn ((Below.refl _ _).drew))
      have B12 : Hid (BsK w13.drew (.slice BA f0.box.length bc) f0.box g2 g4 i) := B11.out
      have S12 : Hid (KlK w13.drew (.slice SA f0.sign.length sc) f0.sign g2 g4 i) := S11.out
      clear D11 K11 B11 S11
      refine walkS_only (i := 9) (o := ⟨some 55, _, _, _, _, _⟩) (by kernel_rfl) rfl rfl fun KK hKK => ?_
      go_simp
      refine hKK _ _ (.inr hS) ?_
      clear hKK KK
      try simp only [Act.put, List.setIfInBounds_toArray, List.set_cons_zero, List.set_cons_succ]
      refine walkS_only (i := 10) (o := ⟨none, _, _, _, _, _⟩) (by kernel_rfl) rfl rfl fun KK hKK => ?_
      refine wp_store_mid 24 (.tmp 55) (.tmp 48) rfl g4 2 28 _ _ (keyI (rdK b) 0) (by with_unfolding_all rfl) (by with_unfolding_all rfl) D12.out.two (by rw [frL_length O0.out, L0.out]; omega) (frL_eph_put O0.out _ _ _ L0.out) (Try.sizeKeyM _ L0.out) fun w14 p14 => ?_
      replace hS := And.intro (rangeAt_grown hS.1 p14.grown hne.2.1) (And.intro (rangeAt_grown hS.2.1 p14.grown hne.2.1) (rangeAt_grown hS.2.2 p14.grown hne.2.1))
      have D13 := Lib.hid (D12.out.put (D12.out.inn.put D12.out.two D12.out.hbi p14.grown) p14.row p14.grown)
      have B13 := Lib.hid (B12.out.grown p14.grown (by omega))
      have S13 := Lib.hid (S12.out.grown p14.grown (by omega))
      clear D12 B12 S12 p14
      refine hKK _ _ (.inr hS) ?_
      clear hKK KK
      try simp only [Act.put]
      refine walkS_only (i := 11) (o := ⟨some 56, _, _, _, _, _⟩) (by kernel_rfl) rfl rfl fun KK hKK => ?_
      go_simp
      refine hKK _ _ (.inr hS) ?_
      clear hKK KK
      try simp only [Act.put, List.setIfInBounds_toArray, List.set_cons_zero, List.set_cons_succ]
      refine walkS_only (i := 12) (o := ⟨none, _, _, _, _, _⟩) (by kernel_rfl) rfl rfl fun KK hKK => ?_
      refine wp_store_mid 24 (.tmp 56) (.tmp 51) rfl g4 34 28 _ _ (keyI (rdK b) 1) (by with_unfolding_all rfl) (by with_unfolding_all rfl) D13.out.two (by rw [frL_length O1.out, L1.out]; omega) (frL_epoch_put O1.out _ _ _ L1.out) (Try.sizeKeyM _ L1.out) fun w15 p15 => ?_
      replace hS := And.intro (rangeAt_grown hS.1 p15.grown hne.2.1) (And.intro (rangeAt_grown hS.2.1 p15.grown hne.2.1) (rangeAt_grown hS.2.2 p15.grown hne.2.1))
      have D14 := Lib.hid (D13.out.put (D13.out.inn.put D13.out.two D13.out.hbi p15.grown) p15.row p15.grown)
      have B14 := Lib.hid (B13.out.grown p15.grown (by omega))
      have S14 := Lib.hid (S13.out.grown p15.grown (by omega))
      clear D13 B13 S13 p15
      refine hKK _ _ (.inr hS) ?_
      clear hKK KK
      try simp only [Act.put]
      refine walkS_only (i := 13) (o := ⟨some 57, _, _, _, _, _⟩) (by kernel_rfl) rfl rfl fun KK hKK => ?_
      go_simp
      refine hKK _ _ (.inr hS) ?_
      clear hKK KK
      try simp only [Act.put, List.setIfInBounds_toArray, List.set_cons_zero, List.set_cons_succ]
      refine walkS_only (i := 14) (o := ⟨none, _, _, _, _, _⟩) (by kernel_rfl) rfl rfl fun KK hKK => ?_
      refine wp_store_mid 24 (.tmp 57) (.tmp 54) rfl g4 66 28 _ _ (keyI (rdK b) 2) (by with_unfolding_all rfl) (by with_unfolding_all rfl) D14.out.two (by rw [frL_length O2.out, L2.out]; omega) (frL_next_put O2.out _ _ _ L2.out) (Try.sizeKeyM _ L2.out) fun w16 p16 => ?_
      replace hS := And.intro (rangeAt_grown hS.1 p16.grown hne.2.1) (And.intro (rangeAt_grown hS.2.1 p16.grown hne.2.1) (rangeAt_grown hS.2.2 p16.grown hne.2.1))
      have D15 := Lib.hid (D14.out.put (D14.out.inn.put D14.out.two D14.out.hbi p16.grown) p16.row p16.grown)
      have B15 := Lib.hid (B14.out.grown p16.grown (by omega))
      have S15 := Lib.hid (S14.out.grown p16.grown (by omega))
      clear D14 B14 S14 p16
      refine hKK _ _ (.inr hS) ?_
      clear hKK KK
      try simp only [Act.put]
      refine walkS_done (by kernel_rfl) ?_ _
      have D16 : Hid (DIn (fun w => InAt w i (rdS6 b)) w w16 g2 g4 i (frC zeroFr nilS nilS) (frC (rdF b) (.slice BA f0.box.length bc) (.slice SA f0.sign.length sc))) := by
        rw [← rdF_eq b f0 HF.out]; exact D15.out
      have V16 : Hid (FrV w16 (.agg (frC (rdF b) (.slice BA f0.box.length bc) (.slice SA f0.sign.length sc))) (rdF b)) := ⟨_, _, rfl, O3.out, by rw [FX.out.1]; exact B15.out.1, by rw [FX.out.2]; exact S15.out.1⟩
      have C9 : Hid (∀ w v, FrV w v (rdF b) → Calls Try.prog 11 #[v] w fun e w' => e = .returned (.int .i64 (checkE (rdF b))) ∧ Below w.heap.size w w') := fun w v h => check_any w v _ h
      have HM : Hid (∀ w', Below w16.heap.size w16 w' → FrV w' (.agg (frC (rdF b) (.slice BA f0.box.length bc) (.slice SA f0.sign.length sc))) (rdF b)) := fun w' hb => V16.out.below hb
      have B16 : Hid (BsK w16 (.slice BA f0.box.length bc) (rdF b).box g2 g4 i) := by rw [FX.out.1]; exact B15.out
      have S16 : Hid (KlK w16 (.slice SA f0.sign.length sc) (rdF b).sign g2 g4 i) := by rw [FX.out.2]; exact S15.out
      clear D15 B15 S15 hS hne
      obtain ⟨BV, hBV⟩ : ∃ BV, BV = (Value.slice BA f0.box.length bc) := ⟨_, rfl⟩
      obtain ⟨SV, hSV⟩ : ∃ SV, SV = (Value.slice SA f0.sign.length sc) := ⟨_, rfl⟩
      have ON : Hid (BV.oneCell' = true ∧ SV.oneCell' = true) := ⟨by rw [hBV]; rfl, by rw [hSV]; rfl⟩
      rw [← hBV, ← hSV] at D16 V16 HM
      rw [← hBV] at B16
      rw [← hSV] at S16
      clear hBV hSV
      obtain ⟨F, hF⟩ : ∃ F, F = rdF b := ⟨_, rfl⟩
      have HFF : Hid (decF b = if decE b = 0 then F else zeroFr) := by show _ = _; rw [hF]; rfl
      rw [← hF] at D16 V16 HM C9 O3 E2 B16 S16
      clear hF FX
      by_cases a2 : checkE F = 0
      · have EE : Hid (decE b = 0) := by show _ = _; rw [E2.out, a2]
        have EF : Hid (decF b = F) := by show _ = _; rw [HFF.out, if_pos EE.out]
        have d2 : (checkE F != 0) = false := by simp [a2]
        rw [a2] at C9
        clear E2 a2
        go_wp2_with (first
          | (with_reducible refine wpList_load_row (o := ⟨some 58, _, _, _, _, _⟩) rfl 28 (.tmp 4) rfl g4 (by with_unfolding_all rfl) 28 (frC F BV SV) (0, 0) _ (by with_unfolding_all exact D16.out.two) Try.underlying28 rfl (Try.sizeFr O3.out _ _) ?_))
        refine (C9.out _ _ V16.out).mono ?_
        intro e w17 hh
        obtain ⟨he, b17⟩ := hh
        subst he
        have D17 := Lib.hid (D16.out.kept (D16.out.inn.kept b17) b17)
        have B17 := Lib.hid (B16.out.below b17)
        have S17 := Lib.hid (S16.out.below b17)
        clear D16 b17 V16 HM B16 S16
        go_wp2_with (first
          | (with_reducible refine wpList_load_row (o := ⟨some 64, _, _, _, _, _⟩) rfl 28 (.tmp 4) rfl g4 (by with_unfolding_all rfl) 28 (frC F BV SV) (0, 0) _ (by with_unfolding_all exact D17.out.two) Try.underlying28 rfl (Try.sizeFr O3.out _ _) ?_)
          | ((with_reducible refine wpList_store_row (o := ⟨none, _, _, _, _, _⟩) rfl 28 (.tmp 2) (.tmp 64) rfl g2 28 (frC zeroFr nilS nilS) (frC F BV SV) (by with_unfolding_all rfl) (by with_unfolding_all rfl) (by with_unfolding_all exact D17.out.one) (by rw [frC_size zeroFr_ok, frC_size O3.out]) (Try.sizeFr O3.out _ _) (frC_one _ _ _ ON.out.1 ON.out.2) ?_); intro w18 p18; have P18 := Lib.hid p18))
        refine bodyPost_ret (ret_row_tmp rfl _ g2 28 (frC F BV SV) _ (by rfl) P18.out.row Try.underlying28 rfl (Try.sizeFr O3.out _ _)) rfl ?_
        refine ⟨_, by rw [EE.out]; rfl, ?_, P18.out.below D17.out.below D17.out.below.size D17.out.ha⟩
        rw [EF.out]
        exact ⟨_, _, rfl, O3.out, (B17.out.grown P18.out.grown (.inl rfl)).1, (S17.out.grown P18.out.grown (.inl rfl)).1⟩
      · have EE : Hid (decE b = checkE F) := E2.out
        have EF : Hid (decF b = zeroFr) := by show _ = _; rw [HFF.out, if_neg (by rw [EE.out]; exact a2)]
        have d2 : (checkE F != 0) = true := by simpa using a2
        clear E2 a2
        go_wp2_with (first
          | (with_reducible refine wpList_load_row (o := ⟨some 58, _, _, _, _, _⟩) rfl 28 (.tmp 4) rfl g4 (by with_unfolding_all rfl) 28 (frC F BV SV) (0, 0) _ (by with_unfolding_all exact D16.out.two) Try.underlying28 rfl (Try.sizeFr O3.out _ _) ?_))
        refine (C9.out _ _ V16.out).mono ?_
        intro e w17 hh
        obtain ⟨he, b17⟩ := hh
        subst he
        have D17 := Lib.hid (D16.out.kept (D16.out.inn.kept b17) b17)
        clear D16 b17 V16 HM
        go_wp2_with (first
          | (with_reducible refine wpList_build0 (o := ⟨some 62, _, _, _, _, _⟩) rfl 28 rfl (frC zeroFr nilS nilS) Try.builtFr ?_)
          | ((with_reducible refine wpList_store_row (o := ⟨none, _, _, _, _, _⟩) rfl 28 (.tmp 2) (.tmp 62) rfl g2 28 (frC zeroFr nilS nilS) (frC zeroFr nilS nilS) (by with_unfolding_all rfl) (by with_unfolding_all rfl) (by with_unfolding_all exact D17.out.one) rfl (Try.sizeFr zeroFr_ok _ _) frC0_one ?_); intro w9 p9; have P9 := Lib.hid p9))
        refine bodyPost_ret (ret_row_tmp rfl _ g2 28 (frC zeroFr nilS nilS) _ (by rfl) P9.out.row Try.underlying28 rfl (Try.sizeFr zeroFr_ok _ _)) rfl ?_
        exact ⟨_, by rw [EE.out]; rfl, by rw [EF.out]; exact ⟨_, _, rfl, zeroFr_ok, Bs.nil _, Kl.nil _⟩, P9.out.below D17.out.below D17.out.below.size D17.out.ha⟩
    · have EE : Hid (decE b = rdW b) := by show _ = _; rw [E1.out]; simp [a1]
      have EF : Hid (decF b = zeroFr) := if_neg (by rw [EE.out]; exact a1)
      have d1 : (rdW b != 0) = true := by simpa using a1
      clear E1 a1
      go_enter Try.func18, Try.ntmps18
      go_wp2_with (first
        | ((with_reducible refine wpList_alloc_row (o := ⟨some 2, _, _, _, _, _⟩) rfl 28 rfl (frC zeroFr nilS nilS) Try.zeroOfFr ?_); intro g2 w2 n2; have N2 := Lib.hid n2)
        | ((with_reducible refine wpList_alloc_row (o := ⟨some 4, _, _, _, _, _⟩) rfl 28 rfl (frC zeroFr nilS nilS) Try.zeroOfFr ?_); intro g4 w4 n4; have N4 := Lib.hid n4; clear n2 n4))
      refine (C0.out _ _ HL.out (HH.out.below (below_size N2.out.below N4.out.below))).mono ?_
      intro e w5 hh
      obtain ⟨i, he, hi5, h5, b5⟩ := hh
      subst he
      have D0 : Hid (DIn (fun w => InAt w i (rdS0 b)) w w5 g2 g4 i (frC zeroFr nilS nilS) (frC zeroFr nilS nilS)) := by
        have n2 := N2.out
        have n4 := N4.out
        have a1 := n2.spot
        have a2 := n2.size
        have a3 := n4.spot
        have a4 := n4.size
        exact ⟨h5, (n2.row.kept n4.below).kept b5, n4.row.kept b5, below_size (below_size n2.below n4.below) b5, by omega, by omega, by omega, by omega, by omega, by omega⟩
      clear N2 N4 h5 b5 hi5
      go_wp2_with fail
      refine (C1.out _ _ D0.out.inn).mono ?_
      intro e w6 hh
      obtain ⟨he, h6, s6⟩ := hh
      subst he
      have D1 := Lib.hid (D0.out.read (R' := fun w => InAt w i (rdS1 b)) h6 s6)
      clear D0 h6 s6
      go_wp2_with fail
      refine (C2.out _ _ D1.out.inn).mono ?_
      intro e w7 hh
      obtain ⟨he, h7, s7⟩ := hh
      subst he
      have D2 := Lib.hid (D1.out.read (R' := fun w => InAt w i (rdS2 b)) h7 s7)
      have c0 := FrAt.n (f := zeroFr) D2.out.two
      have z0 := D2.out.two.frozen 0
      clear D1 h7 s7
      go_wp2_with fail
      have r3 := D2.out.two.put 0 (.int .u32 (f0.n : Int))
      have g3 := grown_setCell w7 g4 0 (.int .u32 (f0.n : Int))
      rw [frC_n] at r3
      have D3 := Lib.hid (D2.out.put (D2.out.inn.put D2.out.two D2.out.hbi g3) r3 g3)
      clear D2 r3 g3 c0 z0
      refine (C3.out _ _ D3.out.inn).mono ?_
      intro e w8 hh
      obtain ⟨he, h8, s8⟩ := hh
      subst he
      have D4 := Lib.hid (D3.out.read (R' := fun w => InAt w i (rdS3 b)) h8 s8)
      have c1 := FrAt.ack (f := { zeroFr with n := f0.n }) D4.out.two
      have z1 := D4.out.two.frozen 1
      clear D3 h8 s8
      go_wp2_with fail
      have r5 := D4.out.two.put 1 (.int .u32 (f0.ack : Int))
      have g5 := grown_setCell w8 g4 1 (.int .u32 (f0.ack : Int))
      rw [frC_ack] at r5
      have D5 := Lib.hid (D4.out.put (D4.out.inn.put D4.out.two D4.out.hbi g5) r5 g5)
      clear D4 r5 g5 c1 z1
      refine (C4.out _ _ D5.out.inn).mono ?_
      intro e w9 hh
      obtain ⟨ku, he, k9, y9, h9, s9⟩ := hh
      subst he
      have D6 := Lib.hid (D5.out.read (R' := fun w => InAt w i (rdS4 b)) h9 s9)
      have K6 : Hid (KlK w9 ku (rdK b) g2 g4 i) := by
        obtain ⟨_, hr, _⟩ := h9
        exact Kl.apart k9 y9 D6.out.one D6.out.two hr (by decide) (by decide) (by decide)
      clear D5 h9 s9 k9 y9
      obtain ⟨KA, kc, rfl, kx, km, _⟩ := id K6.out.1
      unfold maxLen at km
      have hkl : (rdK b).length ≤ 9223372036854775807 := by omega
      clear kx km
      go_wp2_with fail
      refine (C5.out _ _ D6.out.inn).mono ?_
      intro e w10 hh
      obtain ⟨bu, he, k9, y9, h9, s9⟩ := hh
      subst he
      have D7 := Lib.hid (D6.out.read (R' := fun w => InAt w i (rdS5 b)) h9 s9)
      have K7 := Lib.hid (K6.out.grown s9 (by omega))
      have B7 : Hid (BsK w10 bu f0.box g2 g4 i) := by
        obtain ⟨_, hr, _⟩ := h9
        exact Bs.apart k9 y9 D7.out.one D7.out.two hr (by decide) (by decide) (by decide)
      have c8 := FrAt.box (f := { zeroFr with n := f0.n, ack := f0.ack }) D7.out.two ⟨hn0, ha0, zeroKey_length, zeroKey_length, zeroKey_length⟩
      have z8 := D7.out.two.frozen 98
      clear D6 h9 s9 k9 y9 K6
      obtain ⟨BA, bc, rfl, _⟩ := id B7.out.1
      unfold nilS at c8
      go_wp2_with fail
      have r8 := D7.out.two.put 98 (.slice BA f0.box.length bc)
      have g8 := grown_setCell w10 g4 98 (.slice BA f0.box.length bc)
      rw [frC_box (f := { zeroFr with n := f0.n, ack := f0.ack }) ⟨hn0, ha0, zeroKey_length, zeroKey_length, zeroKey_length⟩ _ _ _ f0.box] at r8
      have D8 := Lib.hid (D7.out.put (D7.out.inn.put D7.out.two D7.out.hbi g8) r8 g8)
      have K8 := Lib.hid (K7.out.grown g8 (by omega))
      have B8 := Lib.hid (B7.out.grown g8 (by omega))
      clear D7 K7 B7 r8 g8 c8 z8
      refine (C6.out _ _ D8.out.inn).mono ?_
      intro e w11 hh
      obtain ⟨su, he, k9, y9, h9, s9⟩ := hh
      subst he
      have D9 := Lib.hid (D8.out.read (R' := fun w => InAt w i (rdS6 b)) h9 s9)
      have K9 := Lib.hid (K8.out.grown s9 (by omega))
      have B9 := Lib.hid (B8.out.grown s9 (by omega))
      have S9 : Hid (KlK w11 su f0.sign g2 g4 i) := by
        obtain ⟨_, hr, _⟩ := h9
        exact Kl.apart k9 y9 D9.out.one D9.out.two hr (by decide) (by decide) (by decide)
      have c9 := FrAt.sign (f := { zeroFr with n := f0.n, ack := f0.ack, box := f0.box }) D9.out.two ⟨hn0, ha0, zeroKey_length, zeroKey_length, zeroKey_length⟩
      have z9 := D9.out.two.frozen 99
      clear D8 h9 s9 k9 y9 K8 B8
      obtain ⟨SA, sc, rfl, _⟩ := id S9.out.1
      unfold nilS at c9
      go_wp2_with fail
      have r9 := D9.out.two.put 99 (.slice SA f0.sign.length sc)
      have g9 := grown_setCell w11 g4 99 (.slice SA f0.sign.length sc)
      rw [frC_sign (f := { zeroFr with n := f0.n, ack := f0.ack, box := f0.box }) ⟨hn0, ha0, zeroKey_length, zeroKey_length, zeroKey_length⟩ _ _ _ f0.sign] at r9
      have r10 : RowAt (w11.setCell ⟨g4, 99, none⟩ (.slice SA f0.sign.length sc)) g4 28 (frC f0 (.slice BA f0.box.length bc) (.slice SA f0.sign.length sc)) := by
        rw [HZ.out]; exact r9
      have D10 := Lib.hid (D9.out.put (D9.out.inn.put D9.out.two D9.out.hbi g9) r10 g9)
      have K10 := Lib.hid (K9.out.grown g9 (by omega))
      have B10 := Lib.hid (B9.out.grown g9 (by omega))
      have S10 := Lib.hid (S9.out.grown g9 (by omega))
      clear D9 K9 B9 S9 r9 g9 c9 z9 r10
      refine (C7.out _ _ D10.out.inn).mono ?_
      intro e w12 hh
      obtain ⟨he, hw⟩ := hh
      subst he hw
      go_wp2_with fail
      refine (C8.out _).mono ?_
      intro e w13 hh
      obtain ⟨he, b13⟩ := hh
      subst he
      have b13 := b13
      have D11 := Lib.hid (D10.out.kept (D10.out.inn.kept b13) b13)
      have K11 := Lib.hid (K10.out.below b13)
      have B11 := Lib.hid (B10.out.below b13)
      have S11 := Lib.hid (S10.out.below b13)
      clear D10 K10 B10 S10 b13
      go_wp2_with (first
        | (with_reducible refine wpList_build0 (o := ⟨some 44, _, _, _, _, _⟩) rfl 28 rfl (frC zeroFr nilS nilS) Try.builtFr ?_)
        | ((with_reducible refine wpList_store_row (o := ⟨none, _, _, _, _, _⟩) rfl 28 (.tmp 2) (.tmp 44) rfl g2 28 (frC zeroFr nilS nilS) (frC zeroFr nilS nilS) (by with_unfolding_all rfl) (by with_unfolding_all rfl) (by with_unfolding_all exact D11.out.one) rfl (Try.sizeFr zeroFr_ok _ _) frC0_one ?_); intro w9 p9; have P9 := Lib.hid p9))
      refine bodyPost_ret (ret_row_tmp rfl _ g2 28 (frC zeroFr nilS nilS) _ (by rfl) P9.out.row Try.underlying28 rfl (Try.sizeFr zeroFr_ok _ _)) rfl ?_
      exact ⟨_, by rw [EE.out]; rfl, by rw [EF.out]; exact ⟨_, _, rfl, zeroFr_ok, Bs.nil _, Kl.nil _⟩, P9.out.below D11.out.below D11.out.below.size D11.out.ha⟩
end Go.Proofs.Ytmhhjdiilmgmoaa
end
section
namespace Go.Proofs.Ytmhhjdiilmgmoaa
open Go.RowKit
set_option linter.unusedVariables false
set_option maxRecDepth 20000

theorem St.key_len (s : St) : s.key.length = 32 := by
  unfold St.key
  split
  · assumption
  · exact zeroKey_length
theorem St.keys_le (s : St) (m : Int) : (s.keys m).length ≤ 100 := by
  have h1 := s.cnt_le (min m 100) (by omega)
  have h2 := (s.cntS (min m 100)).take_mul (s.cnt (min m 100))
  unfold St.keys
  rw [cut32_range, List.length_map, List.length_range]
  have h3 : (s.keyB m).length / 32 ≤ s.cnt (min m 100) := h2.2
  omega
theorem keys_next (B : List UInt8) (j : Nat) : (List.range (j + 1)).map (keyAt B) = (List.range j).map (keyAt B) ++ [keyAt B j] := by
  rw [List.range_succ, List.map_append]; rfl
set_option maxHeartbeats 4000000 in
theorem riKeysIn (w : World) (r : Nat) (bv : Value) (b : List UInt8) (s : St) (m : Int) (hbl : b.length ≤ 1000000000) (h : RiAt w r bv b s) :
    Calls Try.prog 40 #[.pointer (some ⟨r, 0, none⟩), .int .i64 m] w fun e w' => ∃ v, e = .returned v ∧ (Kl w' v (s.keys m) ∧ KyAt w' v ∧ ∀ k, v.ownBlock = some k → w.heap.size ≤ k) ∧ RiAt w' r bv b (s.keyS m) ∧ w.grownBy w' (some r) := by
  have HH := Lib.hid h
  have HN := Lib.hid (fun w h => riNumber_any w r bv b s 2 hbl h)
  obtain ⟨t1, t2⟩ := cap_take s m 100 32
  have hlt := s.num_lt
  obtain ⟨N, hN⟩ : ∃ N, N = s.num 2 := ⟨_, rfl⟩
  obtain ⟨S, hS⟩ : ∃ S, S = s.numS 2 := ⟨_, rfl⟩
  have hw : IntKind.i64.wrap (N : Int) = (N : Int) := IntWalk.i64_in _ (by omega)
  have hw32 : IntKind.i64.wrap (32 * (N : Int)) = ((32 * N : Nat) : Int) := by rw [IntWalk.i64_in _ (by omega)]; omega
  have hcap : s.cap m 100 = if (N : Int) > m ∨ (N : Int) > 100 then S.fail 2 else S := by rw [hN, hS]; rfl
  obtain ⟨C, hC⟩ : ∃ C, C = s.cap m 100 := ⟨_, rfl⟩
  have HT := Lib.hid (fun w h => riTake_any w r bv b C (32 * N) (by omega) hbl h)
  have HF := Lib.hid (fun w h => riFail_any w r bv b S 2 (by decide) h)
  rw [← hC] at t1 t2 hcap
  rw [← hN] at t1 t2 HN
  rw [← hS] at HN
  have hmul := (s.cntS (min m 100)).take_mul (s.cnt (min m 100))
  obtain ⟨B, hB⟩ : ∃ B, B = C.take (32 * N) := ⟨_, rfl⟩
  obtain ⟨S2, hS2⟩ : ∃ S2, S2 = C.rest (32 * N) := ⟨_, rfl⟩
  rw [← hB] at t1 HT
  rw [← hS2] at t2 HT
  rw [← t1] at hmul
  obtain ⟨n, hn⟩ : ∃ n, n = B.length / 32 := ⟨_, rfl⟩
  rw [← hn] at hmul
  have HBL : Hid (B.length = 32 * n) := hmul.1
  have hn100 : n ≤ 100 := by have := s.cnt_le (min m 100) (by omega); omega
  have H1 : Hid (s.keys m = (List.range n).map (keyAt B)) := by
    show _ = _
    rw [← cut32_range, hn, t1]
    rfl
  have H2 : Hid (s.keyS m = S2) := t2.symm
  have HK32 : Hid (∀ j, j < n → (keyAt B j).length = 32) := fun j hj => by
    unfold keyAt
    rw [List.length_take, List.length_drop, hmul.1]
    omega
  clear h t1 t2 hN hS hC hlt hB hS2 hn hmul
  -- CASES
  by_cases hm : m < (N : Int)
  · have hCF : C = S.fail 2 := by rw [hcap, if_pos (.inl hm)]
    subst hCF
    clear hcap
    go_enter Try.func40, Try.ntmps40
    go_wp2_with fail
    refine (HN.out _ HH.out).mono ?_
    intro e w1 hh
    obtain ⟨he, hi, hg⟩ := hh
    subst he
    have I1 := Lib.hid hi
    have G1 := Lib.hid hg
    clear hi hg
    go_wp2_with fail
    refine (HF.out _ I1.out).mono ?_
    intro e w2 hh
    obtain ⟨he, hi, hg⟩ := hh
    subst he
    have I2 := Lib.hid hi
    have G2 := Lib.hid (G1.out.trans hg)
    clear hi hg
    go_wp2_with fail
    refine (HT.out _ I2.out).mono ?_
    intro e w3 hh
    obtain ⟨v, he, hv, hi, hg⟩ := hh
    subst he
    have I3 := Lib.hid hi
    have G3 := Lib.hid (G2.out.trans hg)
    have V3 := Lib.hid hv
    obtain ⟨A, c, rfl, k1, k2, _⟩ := hv
    rw [HBL.out] at k1
    unfold maxLen at k2
    have V3' : Hid (Bs w3 (.slice A (32 * n) c) B) := by have := V3.out; rw [HBL.out] at this; exact this
    rw [HBL.out]
    clear hi hg HN HT HH V3 HF I1 G1 I2 G2
    go_wp2_with fail
    go_loopw [7, 8] (fun v i wr => ∃ j p : Nat, p = 32 * j ∧ j ≤ n ∧ i = .int .i64 (p : Int) ∧ wr.ownsRow w3.heap.size 24 32 v j (cellsB ((List.range j).map (keyAt B)).flatten) ∧ Below w3.heap.size w3 wr) (fun _ i _ => 32 * n - (intOf i).toNat)
    case atStart => exact ⟨0, 0, rfl, by omega, rfl, World.ownsRow_nil _ _ _ _, Below.refl _ _⟩
    case round =>
      obtain ⟨j, p, hp, hj, rfl, hO, hE⟩ := hrel
      have HO := Lib.hid hO
      have HB := Lib.hid hE
      obtain ⟨VA, vn, vc, rfl⟩ : ∃ VA vn vc, u7 = .slice VA vn vc := by
        rcases hO.2 with ⟨rfl, _⟩ | ⟨g, cap, cur, rfl, _⟩ <;> exact ⟨_, _, _, rfl⟩
      clear hO hE
      have hw1 : IntKind.i64.wrap ((p : Int) + 32) = (p : Int) + 32 := IntWalk.i64_in _ (by omega)
      have HP := Lib.hid hp
      by_cases hlt : j < n
      · have hq : (p : Int) + 32 ≤ 32 * (n : Int) := by omega
        have hb0 : (0 : Int) ≤ (p : Int) := by omega
        have hb1 : (p : Int) ≤ (p : Int) + 32 := by omega
        have hb2 : (p : Int) + 32 ≤ (c : Int) := by omega
        have hb3 : (0 : Int) ≤ (p : Int) + 32 := by omega
        have hb4 : ((p : Int) + 32).toNat = p + 32 := by omega
        have hb5 : p + 32 - p = 32 := by omega
        have L32 := Lib.hid (HK32.out j hlt)
        have hct := (V3'.out.cut p (by rw [HBL.out]; omega)).fore 32 (by rw [List.length_drop, HBL.out]; omega)
        rw [if_neg (by omega), hp, ← keyAt, ← hp] at hct
        have HCT := Lib.hid hct
        obtain ⟨kx, hkx⟩ : ∃ kx, kx = keyAt B j := ⟨_, rfl⟩
        have HNX : Hid ((List.range (j + 1)).map (keyAt B) = (List.range j).map (keyAt B) ++ [kx]) := by show _ = _; rw [keys_next, hkx]
        rw [← hkx] at HCT L32
        obtain ⟨ks, hks⟩ : ∃ ks, ks = (List.range j).map (keyAt B) := ⟨_, rfl⟩
        have hkl : j = ks.length := by rw [hks]; simp
        have HKL := Lib.hid hkl
        have hk100 : ks.length ≤ 1000 := by omega
        rw [← hks] at HNX HO
        clear hct hkx hp hks hkl
        go_wp2_with fail
        refine (refToKey_full _ _ _ (HCT.out.below HB.out) L32.out).mono ?_
        intro e w4 hh
        obtain ⟨he, b4⟩ := hh
        subst he
        have B4 := Lib.hid (below_size HB.out b4)
        have O4 := Lib.hid (owned_far (row := none) HO.out (grown_of_below b4) (fun r e => by cases e))
        clear b4 HB HO
        go_wp2_with (first
          | ((with_reducible refine wpList_alloc_row (o := ⟨some 9, _, _, _, _, _⟩) rfl 24 rfl (keyC zeroKey) Try.zeroK ?_); intro g9 w5 n5)
          | ((with_reducible refine wpList_store_row (o := ⟨none, _, _, _, _, _⟩) rfl 24 (.tmp 9) (.tmp 41) rfl g9 24 (keyC zeroKey) (keyC kx) (by with_unfolding_all rfl) (by with_unfolding_all rfl) n5.row (keyC_same zeroKey_length L32.out) (Try.sizeKey _ L32.out) (keyC_one _) ?_); intro w6 p6; have hb6 : Below w4.heap.size w4 w6 := p6.below n5.below n5.below.size (by rw [n5.spot]; exact Nat.le_refl _); have B6 := Lib.hid (below_size B4.out hb6); have O6 := Lib.hid (owned_far (row := none) O4.out (grown_of_below hb6) (fun r e => by cases e)))
          | (with_reducible refine wpList_load_row (o := ⟨some 44, _, _, _, _, _⟩) rfl 24 (.tmp 9) rfl g9 (by with_unfolding_all rfl) 24 (keyC kx) (0, 0) (.array 32 5) (by with_unfolding_all exact p6.row) Try.underlying24 rfl (Try.sizeKey kx L32.out) ?_)
          | ((with_reducible refine wpList_oneKey (o := ⟨some 45, _, _, _, _, _⟩) rfl (.tmp 44) rfl kx L32.out (by with_unfolding_all rfl) ?_); intro g7 w7 r7 b7; have B7 := Lib.hid (below_size B6.out b7); have O7 := Lib.hid (owned_far (row := none) O6.out (grown_of_below b7) (fun r e => by cases e)))
          | ((with_reducible refine wpList_appKeyO (w0 := w3) (o := ⟨some 46, _, _, _, _, _⟩) rfl (.tmp 43) (.tmp 45) rfl (.slice VA vn vc) ks kx j g7 (by with_unfolding_all rfl) (by with_unfolding_all rfl) r7 L32.out HKL.out hk100 O7.out B7.out ?_); intro v8 w8 o8 b8))
        refine ⟨⟨j + 1, p + 32, by have := HP.out; omega, by omega, by congr 1, by rw [HNX.out]; exact o8, b8⟩, ?_⟩
        show 32 * n - ((p : Int) + 32).toNat < 32 * n - (p : Int).toNat
        omega
      · obtain rfl : j = n := by omega
        have hq : ¬ ((p : Int) + 32 ≤ 32 * (j : Int)) := by omega
        clear hlt hp
        go_wp2_with fail
        go_ret
        refine ⟨_, rfl, ⟨?_, fun k hk => ?_, fun k hk => Nat.le_trans G3.out.size (World.ownsRow.lt HO.out k hk).1⟩, by rw [H2.out]; exact I3.out.kept HB.out, G3.out.trans (grown_any HB.out (some r))⟩
        rotate_left
        · rcases HO.out.2 with ⟨e0, _⟩ | ⟨g, cap, cur, e0, _, hc, _⟩
          · rw [e0] at hk; cases hk
          · rw [e0] at hk
            obtain rfl : g = k := by simpa [Value.ownBlock] using hk
            exact ⟨cur, hc⟩
        rw [H1.out]
        exact Kl.of_own (ks := (List.range j).map (keyAt B)) (by rw [List.length_map, List.length_range]; exact HO.out) (fun l hl => by
          obtain ⟨x, hx, rfl⟩ := List.mem_map.1 hl
          exact HK32.out x (List.mem_range.1 hx))
  · by_cases hk : (100 : Int) < (N : Int)
    · have hCF : C = S.fail 2 := by rw [hcap, if_pos (.inr hk)]
      subst hCF
      clear hcap
      go_enter Try.func40, Try.ntmps40
      go_wp2_with fail
      refine (HN.out _ HH.out).mono ?_
      intro e w1 hh
      obtain ⟨he, hi, hg⟩ := hh
      subst he
      have I1 := Lib.hid hi
      have G1 := Lib.hid hg
      clear hi hg
      go_wp2_with fail
      refine (HF.out _ I1.out).mono ?_
      intro e w2 hh
      obtain ⟨he, hi, hg⟩ := hh
      subst he
      have I2 := Lib.hid hi
      have G2 := Lib.hid (G1.out.trans hg)
      clear hi hg
      go_wp2_with fail
      refine (HT.out _ I2.out).mono ?_
      intro e w3 hh
      obtain ⟨v, he, hv, hi, hg⟩ := hh
      subst he
      have I3 := Lib.hid hi
      have G3 := Lib.hid (G2.out.trans hg)
      have V3 := Lib.hid hv
      obtain ⟨A, c, rfl, k1, k2, _⟩ := hv
      rw [HBL.out] at k1
      unfold maxLen at k2
      have V3' : Hid (Bs w3 (.slice A (32 * n) c) B) := by have := V3.out; rw [HBL.out] at this; exact this
      rw [HBL.out]
      clear hi hg HN HT HH V3 HF I1 G1 I2 G2
      go_wp2_with fail
      go_loopw [7, 8] (fun v i wr => ∃ j p : Nat, p = 32 * j ∧ j ≤ n ∧ i = .int .i64 (p : Int) ∧ wr.ownsRow w3.heap.size 24 32 v j (cellsB ((List.range j).map (keyAt B)).flatten) ∧ Below w3.heap.size w3 wr) (fun _ i _ => 32 * n - (intOf i).toNat)
      case atStart => exact ⟨0, 0, rfl, by omega, rfl, World.ownsRow_nil _ _ _ _, Below.refl _ _⟩
      case round =>
        obtain ⟨j, p, hp, hj, rfl, hO, hE⟩ := hrel
        have HO := Lib.hid hO
        have HB := Lib.hid hE
        obtain ⟨VA, vn, vc, rfl⟩ : ∃ VA vn vc, u7 = .slice VA vn vc := by
          rcases hO.2 with ⟨rfl, _⟩ | ⟨g, cap, cur, rfl, _⟩ <;> exact ⟨_, _, _, rfl⟩
        clear hO hE
        have hw1 : IntKind.i64.wrap ((p : Int) + 32) = (p : Int) + 32 := IntWalk.i64_in _ (by omega)
        have HP := Lib.hid hp
        by_cases hlt : j < n
        · have hq : (p : Int) + 32 ≤ 32 * (n : Int) := by omega
          have hb0 : (0 : Int) ≤ (p : Int) := by omega
          have hb1 : (p : Int) ≤ (p : Int) + 32 := by omega
          have hb2 : (p : Int) + 32 ≤ (c : Int) := by omega
          have hb3 : (0 : Int) ≤ (p : Int) + 32 := by omega
          have hb4 : ((p : Int) + 32).toNat = p + 32 := by omega
          have hb5 : p + 32 - p = 32 := by omega
          have L32 := Lib.hid (HK32.out j hlt)
          have hct := (V3'.out.cut p (by rw [HBL.out]; omega)).fore 32 (by rw [List.length_drop, HBL.out]; omega)
          rw [if_neg (by omega), hp, ← keyAt, ← hp] at hct
          have HCT := Lib.hid hct
          obtain ⟨kx, hkx⟩ : ∃ kx, kx = keyAt B j := ⟨_, rfl⟩
          have HNX : Hid ((List.range (j + 1)).map (keyAt B) = (List.range j).map (keyAt B) ++ [kx]) := by show _ = _; rw [keys_next, hkx]
          rw [← hkx] at HCT L32
          obtain ⟨ks, hks⟩ : ∃ ks, ks = (List.range j).map (keyAt B) := ⟨_, rfl⟩
          have hkl : j = ks.length := by rw [hks]; simp
          have HKL := Lib.hid hkl
          have hk100 : ks.length ≤ 1000 := by omega
          rw [← hks] at HNX HO
          clear hct hkx hp hks hkl
          go_wp2_with fail
          refine (refToKey_full _ _ _ (HCT.out.below HB.out) L32.out).mono ?_
          intro e w4 hh
          obtain ⟨he, b4⟩ := hh
          subst he
          have B4 := Lib.hid (below_size HB.out b4)
          have O4 := Lib.hid (owned_far (row := none) HO.out (grown_of_below b4) (fun r e => by cases e))
          clear b4 HB HO
          go_wp2_with (first
            | ((with_reducible refine wpList_alloc_row (o := ⟨some 9, _, _, _, _, _⟩) rfl 24 rfl (keyC zeroKey) Try.zeroK ?_); intro g9 w5 n5)
            | ((with_reducible refine wpList_store_row (o := ⟨none, _, _, _, _, _⟩) rfl 24 (.tmp 9) (.tmp 41) rfl g9 24 (keyC zeroKey) (keyC kx) (by with_unfolding_all rfl) (by with_unfolding_all rfl) n5.row (keyC_same zeroKey_length L32.out) (Try.sizeKey _ L32.out) (keyC_one _) ?_); intro w6 p6; have hb6 : Below w4.heap.size w4 w6 := p6.below n5.below n5.below.size (by rw [n5.spot]; exact Nat.le_refl _); have B6 := Lib.hid (below_size B4.out hb6); have O6 := Lib.hid (owned_far (row := none) O4.out (grown_of_below hb6) (fun r e => by cases e)))
            | (with_reducible refine wpList_load_row (o := ⟨some 44, _, _, _, _, _⟩) rfl 24 (.tmp 9) rfl g9 (by with_unfolding_all rfl) 24 (keyC kx) (0, 0) (.array 32 5) (by with_unfolding_all exact p6.row) Try.underlying24 rfl (Try.sizeKey kx L32.out) ?_)
            | ((with_reducible refine wpList_oneKey (o := ⟨some 45, _, _, _, _, _⟩) rfl (.tmp 44) rfl kx L32.out (by with_unfolding_all rfl) ?_); intro g7 w7 r7 b7; have B7 := Lib.hid (below_size B6.out b7); have O7 := Lib.hid (owned_far (row := none) O6.out (grown_of_below b7) (fun r e => by cases e)))
            | ((with_reducible refine wpList_appKeyO (w0 := w3) (o := ⟨some 46, _, _, _, _, _⟩) rfl (.tmp 43) (.tmp 45) rfl (.slice VA vn vc) ks kx j g7 (by with_unfolding_all rfl) (by with_unfolding_all rfl) r7 L32.out HKL.out hk100 O7.out B7.out ?_); intro v8 w8 o8 b8))
          refine ⟨⟨j + 1, p + 32, by have := HP.out; omega, by omega, by congr 1, by rw [HNX.out]; exact o8, b8⟩, ?_⟩
          show 32 * n - ((p : Int) + 32).toNat < 32 * n - (p : Int).toNat
          omega
        · obtain rfl : j = n := by omega
          have hq : ¬ ((p : Int) + 32 ≤ 32 * (j : Int)) := by omega
          clear hlt hp
          go_wp2_with fail
          go_ret
          refine ⟨_, rfl, ⟨?_, fun k hk => ?_, fun k hk => Nat.le_trans G3.out.size (World.ownsRow.lt HO.out k hk).1⟩, by rw [H2.out]; exact I3.out.kept HB.out, G3.out.trans (grown_any HB.out (some r))⟩
          rotate_left
          · rcases HO.out.2 with ⟨e0, _⟩ | ⟨g, cap, cur, e0, _, hc, _⟩
            · rw [e0] at hk; cases hk
            · rw [e0] at hk
              obtain rfl : g = k := by simpa [Value.ownBlock] using hk
              exact ⟨cur, hc⟩
          rw [H1.out]
          exact Kl.of_own (ks := (List.range j).map (keyAt B)) (by rw [List.length_map, List.length_range]; exact HO.out) (fun l hl => by
            obtain ⟨x, hx, rfl⟩ := List.mem_map.1 hl
            exact HK32.out x (List.mem_range.1 hx))
    · have hCF : C = S := by rw [hcap, if_neg (by omega)]
      subst hCF
      clear hcap HF
      go_enter Try.func40, Try.ntmps40
      go_wp2_with fail
      refine (HN.out _ HH.out).mono ?_
      intro e w1 hh
      obtain ⟨he, hi, hg⟩ := hh
      subst he
      have I1 := Lib.hid hi
      have G1 := Lib.hid hg
      clear hi hg
      go_wp2_with fail
      refine (HT.out _ I1.out).mono ?_
      intro e w3 hh
      obtain ⟨v, he, hv, hi, hg⟩ := hh
      subst he
      have I3 := Lib.hid hi
      have G3 := Lib.hid (G1.out.trans hg)
      have V3 := Lib.hid hv
      obtain ⟨A, c, rfl, k1, k2, _⟩ := hv
      rw [HBL.out] at k1
      unfold maxLen at k2
      have V3' : Hid (Bs w3 (.slice A (32 * n) c) B) := by have := V3.out; rw [HBL.out] at this; exact this
      rw [HBL.out]
      clear hi hg HN HT HH V3 I1 G1
      go_wp2_with fail
      go_loopw [7, 8] (fun v i wr => ∃ j p : Nat, p = 32 * j ∧ j ≤ n ∧ i = .int .i64 (p : Int) ∧ wr.ownsRow w3.heap.size 24 32 v j (cellsB ((List.range j).map (keyAt B)).flatten) ∧ Below w3.heap.size w3 wr) (fun _ i _ => 32 * n - (intOf i).toNat)
      case atStart => exact ⟨0, 0, rfl, by omega, rfl, World.ownsRow_nil _ _ _ _, Below.refl _ _⟩
      case round =>
        obtain ⟨j, p, hp, hj, rfl, hO, hE⟩ := hrel
        have HO := Lib.hid hO
        have HB := Lib.hid hE
        obtain ⟨VA, vn, vc, rfl⟩ : ∃ VA vn vc, u7 = .slice VA vn vc := by
          rcases hO.2 with ⟨rfl, _⟩ | ⟨g, cap, cur, rfl, _⟩ <;> exact ⟨_, _, _, rfl⟩
        clear hO hE
        have hw1 : IntKind.i64.wrap ((p : Int) + 32) = (p : Int) + 32 := IntWalk.i64_in _ (by omega)
        have HP := Lib.hid hp
        by_cases hlt : j < n
        · have hq : (p : Int) + 32 ≤ 32 * (n : Int) := by omega
          have hb0 : (0 : Int) ≤ (p : Int) := by omega
          have hb1 : (p : Int) ≤ (p : Int) + 32 := by omega
          have hb2 : (p : Int) + 32 ≤ (c : Int) := by omega
          have hb3 : (0 : Int) ≤ (p : Int) + 32 := by omega
          have hb4 : ((p : Int) + 32).toNat = p + 32 := by omega
          have hb5 : p + 32 - p = 32 := by omega
          have L32 := Lib.hid (HK32.out j hlt)
          have hct := (V3'.out.cut p (by rw [HBL.out]; omega)).fore 32 (by rw [List.length_drop, HBL.out]; omega)
          rw [if_neg (by omega), hp, ← keyAt, ← hp] at hct
          have HCT := Lib.hid hct
          obtain ⟨kx, hkx⟩ : ∃ kx, kx = keyAt B j := ⟨_, rfl⟩
          have HNX : Hid ((List.range (j + 1)).map (keyAt B) = (List.range j).map (keyAt B) ++ [kx]) := by show _ = _; rw [keys_next, hkx]
          rw [← hkx] at HCT L32
          obtain ⟨ks, hks⟩ : ∃ ks, ks = (List.range j).map (keyAt B) := ⟨_, rfl⟩
          have hkl : j = ks.length := by rw [hks]; simp
          have HKL := Lib.hid hkl
          have hk100 : ks.length ≤ 1000 := by omega
          rw [← hks] at HNX HO
          clear hct hkx hp hks hkl
          go_wp2_with fail
          refine (refToKey_full _ _ _ (HCT.out.below HB.out) L32.out).mono ?_
          intro e w4 hh
          obtain ⟨he, b4⟩ := hh
          subst he
          have B4 := Lib.hid (below_size HB.out b4)
          have O4 := Lib.hid (owned_far (row := none) HO.out (grown_of_below b4) (fun r e => by cases e))
          clear b4 HB HO
          go_wp2_with (first
            | ((with_reducible refine wpList_alloc_row (o := ⟨some 9, _, _, _, _, _⟩) rfl 24 rfl (keyC zeroKey) Try.zeroK ?_); intro g9 w5 n5)
            | ((with_reducible refine wpList_store_row (o := ⟨none, _, _, _, _, _⟩) rfl 24 (.tmp 9) (.tmp 41) rfl g9 24 (keyC zeroKey) (keyC kx) (by with_unfolding_all rfl) (by with_unfolding_all rfl) n5.row (keyC_same zeroKey_length L32.out) (Try.sizeKey _ L32.out) (keyC_one _) ?_); intro w6 p6; have hb6 : Below w4.heap.size w4 w6 := p6.below n5.below n5.below.size (by rw [n5.spot]; exact Nat.le_refl _); have B6 := Lib.hid (below_size B4.out hb6); have O6 := Lib.hid (owned_far (row := none) O4.out (grown_of_below hb6) (fun r e => by cases e)))
            | (with_reducible refine wpList_load_row (o := ⟨some 44, _, _, _, _, _⟩) rfl 24 (.tmp 9) rfl g9 (by with_unfolding_all rfl) 24 (keyC kx) (0, 0) (.array 32 5) (by with_unfolding_all exact p6.row) Try.underlying24 rfl (Try.sizeKey kx L32.out) ?_)
            | ((with_reducible refine wpList_oneKey (o := ⟨some 45, _, _, _, _, _⟩) rfl (.tmp 44) rfl kx L32.out (by with_unfolding_all rfl) ?_); intro g7 w7 r7 b7; have B7 := Lib.hid (below_size B6.out b7); have O7 := Lib.hid (owned_far (row := none) O6.out (grown_of_below b7) (fun r e => by cases e)))
            | ((with_reducible refine wpList_appKeyO (w0 := w3) (o := ⟨some 46, _, _, _, _, _⟩) rfl (.tmp 43) (.tmp 45) rfl (.slice VA vn vc) ks kx j g7 (by with_unfolding_all rfl) (by with_unfolding_all rfl) r7 L32.out HKL.out hk100 O7.out B7.out ?_); intro v8 w8 o8 b8))
          refine ⟨⟨j + 1, p + 32, by have := HP.out; omega, by omega, by congr 1, by rw [HNX.out]; exact o8, b8⟩, ?_⟩
          show 32 * n - ((p : Int) + 32).toNat < 32 * n - (p : Int).toNat
          omega
        · obtain rfl : j = n := by omega
          have hq : ¬ ((p : Int) + 32 ≤ 32 * (j : Int)) := by omega
          clear hlt hp
          go_wp2_with fail
          go_ret
          refine ⟨_, rfl, ⟨?_, fun k hk => ?_, fun k hk => Nat.le_trans G3.out.size (World.ownsRow.lt HO.out k hk).1⟩, by rw [H2.out]; exact I3.out.kept HB.out, G3.out.trans (grown_any HB.out (some r))⟩
          rotate_left
          · rcases HO.out.2 with ⟨e0, _⟩ | ⟨g, cap, cur, e0, _, hc, _⟩
            · rw [e0] at hk; cases hk
            · rw [e0] at hk
              obtain rfl : g = k := by simpa [Value.ownBlock] using hk
              exact ⟨cur, hc⟩
          rw [H1.out]
          exact Kl.of_own (ks := (List.range j).map (keyAt B)) (by rw [List.length_map, List.length_range]; exact HO.out) (fun l hl => by
            obtain ⟨x, hx, rfl⟩ := List.mem_map.1 hl
            exact HK32.out x (List.mem_range.1 hx))
theorem riKeys_any (w : World) (r : Nat) (bv : Value) (b : List UInt8) (s : St) (m : Int) (hbl : b.length ≤ 1000000000) (h : RiAt w r bv b s) :
    Calls Try.prog 40 #[.pointer (some ⟨r, 0, none⟩), .int .i64 m] w fun e w' => ∃ v, e = .returned v ∧ Kl w' v (s.keys m) ∧ RiAt w' r bv b (s.keyS m) ∧ w.grownBy w' (some r) :=
  (riKeysIn w r bv b s m hbl h).mono fun _ _ ⟨v, h1, h2, h3⟩ => ⟨v, h1, h2.1, h3⟩
end Go.Proofs.Ytmhhjdiilmgmoaa
end
