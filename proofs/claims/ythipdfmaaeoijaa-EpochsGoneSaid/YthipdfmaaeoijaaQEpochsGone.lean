/-
  EpochsGone: for every input the call returns true, and each argument reads as it read before. Conditions: none beyond the given statement's own.
-/
import Derived.Test.YthipdfmaaeoijaaQEpcAL
import Derived.Test.YthipdfmaaeoijaaQEpcAB
import Derived.Test.YthipdfmaaeoijaaRows
import Derived.Test.YthipdfmaaeoijaaQEpcAK
import Derived.ProofKit
import Derived.OpenShut
import Derived.ShutString
import Derived.ChangeOld
section
namespace Go.Proofs.Ythipdfmaaeoijaa
open Go.RowKit
set_option linter.unusedVariables false
set_option maxRecDepth 200000

set_option maxHeartbeats 400000 in
theorem epochsGone_walk (w : World) (first : Nat) (hf : first < 4294967296) (v : Value) (l : List (List UInt8)) (hl : Kl w v l) (below : Nat) (hb : below < 4294967296) :
    Calls Try.prog 3 #[.int .u32 (first : Int), v, .int .u32 (below : Int)] w (RetV w (.bool true)) := by
  obtain ⟨A, c, rfl, hl1, hl2, hl3, hl4⟩ := hl
  obtain ⟨N, hN⟩ : ∃ N, N = l.length := ⟨_, rfl⟩
  rw [← hN] at hl1 hl4 ⊢
  have HN := Lib.hid hN
  have HLK := Lib.hid hl3
  unfold maxLen at hl2
  have CA : Hid (∀ w, Calls Try.prog 6 #[] w (RetV w (.bool true))) := fun w => epochsAwake_any w
  clear hl3 hN
  by_cases h6 : 6 < N
  · have h6I : (6 : Int) < (N : Int) := by omega
    clear hl4
    go_enter Try.func3, Try.ntmps3
    go_wp2_with fail
    refine (CA.out w).mono ?_
    rintro e w1 ⟨rfl, b1⟩
    have B1 := Lib.hid b1
    clear b1
    go_wp2
    go_ret
    exact ⟨rfl, B1.out⟩
  have h6I : decide ((6 : Int) < (N : Int)) = false := decide_eq_false (by omega)
  by_cases h0 : N = 0
  · have h0I : ((N : Int) == 0) = true := by rw [beq_iff_eq]; omega
    clear hl4
    go_enter Try.func3, Try.ntmps3
    go_wp2_with fail
    refine (CA.out w).mono ?_
    rintro e w1 ⟨rfl, b1⟩
    have B1 := Lib.hid b1
    clear b1
    go_wp2
    go_ret
    exact ⟨rfl, B1.out⟩
  have h0I : ((N : Int) == 0) = false := by rw [beq_eq_false_iff_ne]; omega
  by_cases hbig : 2147483648 ≤ first
  · have hbI : (2147483648 : Int) ≤ (first : Int) := by omega
    clear hl4
    go_enter Try.func3, Try.ntmps3
    go_wp2_with fail
    refine (CA.out w).mono ?_
    rintro e w1 ⟨rfl, b1⟩
    have B1 := Lib.hid b1
    clear b1
    go_wp2
    go_ret
    exact ⟨rfl, B1.out⟩
  have hbI : decide ((2147483648 : Int) ≤ (first : Int)) = false := decide_eq_false (by omega)
  have H6 := Lib.hid h6
  have HBG := Lib.hid hbig
  clear h6 hbig
  obtain ⟨bl, off, rfl, hrows⟩ := hl4 (by omega)
  have HR : Hid (∀ x, Below w.heap.size w x → ∀ (i : Nat) (k : List UInt8), l[i]? = some k → x.rangeAt bl (off + i * 32) (cellsB k)) := fun x hx i k hk => rangeAt_below (hrows i k hk) hx
  clear hrows
  have H0 := Lib.hid h0
  clear h0
  have E0 := Lib.hid (EnvM.start w)
  go_enter Try.func3, Try.ntmps3
  go_wp2_with fail
  refine (CA.out w).mono ?_
  rintro e w1 ⟨rfl, b1⟩
  have E1 := Lib.hid (E0.out.call b1)
  clear b1 E0
  go_wp2_with (first
    | (with_reducible refine wpList_build0 (o := ⟨some 34, _, _, _, _, _⟩) rfl 28 rfl #[.map none, .int .u32 0] Try.builtT ?_)
    | ((with_reducible refine wpM_box (o := ⟨some 35, _, _, _, _, _⟩) rfl 28 (.tmp 34) rfl #[.map none, .int .u32 0] (by with_unfolding_all rfl) E1.out ?_); intro b w2 q2; have T2 := Lib.hid (Tbl.made (rs := []) q2); clear q2))
  clear h6I h0I hbI
  have h6 := H6.out
  have hbig := HBG.out
  go_loopw [9] (fun i wr => ∃ (j last : Nat), i = .int .i64 (j : Int) ∧ j ≤ N ∧ (0 < j → last + 1 = first + j) ∧ Tbl w [] [] b (bornL first (l.take j)) last wr) (fun i _ => N - (intOf i).toNat)
  case atStart => exact ⟨0, 0, rfl, Nat.zero_le _, fun h => absurd h (by omega), by rw [List.take_zero]; exact T2.out⟩
  case round =>
    obtain ⟨j, last, rfl, hj, hlast, hT⟩ := hrel
    clear T2 E1
    have HT := Lib.hid hT
    have HLA := Lib.hid hlast
    clear hT hlast
    by_cases hlt : j < N
    · have hltI : (j : Int) < (N : Int) := by omega
      obtain ⟨k, hk⟩ : ∃ k, l[j]? = some k := ⟨_, List.getElem?_eq_getElem (by have := HN.out; omega)⟩
      have hkl : k.length = 32 := HLK.out k (List.mem_of_getElem? hk)
      obtain ⟨id, hid⟩ : ∃ id, id = first + j := ⟨_, rfl⟩
      have HII : Hid ((first : Int) + (j : Int) = (id : Int)) := by show _ = _; omega
      have htl : (l.take j).length = j := by rw [List.length_take]; have := HN.out; omega
      have hids : ∀ p ∈ bornL first (l.take j), p.1 ≠ id := fun p hp => by
        have h1 : p.1 ∈ (bornL first (l.take j)).map (·.1) := List.mem_map.2 ⟨p, hp, rfl⟩
        rw [bornL_ids, htl, List.mem_range'_1] at h1
        omega
      have hnext : bornL first (l.take j) = [] ∨ ((last : Int) + 1) % 4294967296 = (id : Int) := by
        by_cases hj0 : j = 0
        · exact .inl (by rw [hj0]; rfl)
        · have := HLA.out (by omega)
          exact .inr (by omega)
      have C1 := Lib.hid (fun x q => (Tbl.born (w := x) (ks := bornL first (l.take j)) (last := last) (w0 := w) (ms := []) (rs := []) (b := b) q id k hkl (by rw [bornL_length, htl]; omega) hnext hids))
      have htk : bornL first (l.take (j + 1)) = bornL first (l.take j) ++ [(id, k)] := by
        rw [List.take_add_one, hk, Option.toList_some, bornL_snoc, htl, hid]
      have HTK := Lib.hid htk
      have HID := Lib.hid hid
      have HK := Lib.hid hk
      have LK := Lib.hid hkl
      clear hids hnext htk htl hk hkl hid
      go_wp2_with (first
        | (with_reducible refine wpList_val (o := ⟨some 49, _, _, _, _, _⟩) rfl (.pointer (some ⟨bl, off + j * 32, none⟩)) (run_idxAt (P := Try.prog) 32 23 32 (.tmp 47) (.tmp 48) rfl bl off N c j (by with_unfolding_all rfl) (by with_unfolding_all rfl) hlt Try.underlying23 Try.sizeK) ?_)
        | (with_reducible refine wpList_loadK (o := ⟨some 50, _, _, _, _, _⟩) rfl 32 (.tmp 49) rfl bl (off + j * 32) (by with_unfolding_all rfl) k _ (HR.out _ HT.out.below j k HK.out) Try.underlying32 rfl (Try.sizeKeyM _ LK.out) ?_))
      rw [HII.out]
      refine (C1.out _ HT.out).mono ?_
      rintro e w3 ⟨rfl, q3⟩
      have T3 := Lib.hid q3
      clear q3 HT C1
      go_wp2
      go_roundw
      case rel => exact ⟨j + 1, id, by go_num, hlt, fun _ => by rw [HID.out]; omega, by rw [HTK.out]; exact T3.out⟩
      case measure => simp [intOf]; omega
    · have hge : ¬ (j : Int) < (N : Int) := by omega
      obtain rfl : j = N := by omega
      have htl : l.take j = l := by rw [HN.out, List.take_length]
      have hj0 := H0.out
      have hla := HLA.out (by omega)
      have hT := HT.out
      rw [htl] at hT
      have T3 := Lib.hid hT
      have hnd : ((bornL first l).map (·.1)).Nodup := by rw [bornL_ids]; exact List.nodup_range'
      have hlm : bornL first l ≠ [] → last ∈ (bornL first l).map (·.1) := fun _ => by rw [bornL_ids, List.mem_range'_1, ← HN.out]; omega
      have C2 := Lib.hid (T3.out.erase below (by rw [bornL_length, ← HN.out]; omega) hnd hlm)
      have HLA2 := Lib.hid hla
      clear hT htl hnd hlm HT HLA hla hj hge hlt hj0
      go_wp2_with fail
      refine C2.out.mono ?_
      rintro e w4 ⟨rfl, q4⟩
      have hcount : (bornL first l).length - ((bornL first l).filter fun p => !dead below last p.1).length = ((bornL first l).filter fun p => dead below last p.1).length := by
        have := filter_both (fun p : Nat × List UInt8 => dead below last p.1) (bornL first l)
        omega
      rw [hcount]
      obtain ⟨D, hD⟩ : ∃ D, D = ((bornL first l).filter fun p => dead below last p.1).length := ⟨_, rfl⟩
      rw [← hD]
      have HD := Lib.hid hD
      have T4 := Lib.hid q4
      clear q4 hcount hD C2 T3
      go_wp2
      go_loopw [12, 13] (fun n i wr => ∃ (m i' : Nat), n = .int .i64 (m : Int) ∧ i = .int .i64 (i' : Int) ∧ i' ≤ j ∧ m = ((bornL first (l.take i')).filter fun p => dead below last p.1).length ∧ Tbl w [] [] b ((bornL first l).filter fun p => !dead below last p.1) last wr) (fun _ i _ => j - (intOf i).toNat)
      case atStart => exact ⟨0, 0, rfl, rfl, Nat.zero_le _, rfl, T4.out⟩
      case round =>
        obtain ⟨m, i, rfl, rfl, hi, hm, hT⟩ := hrel
        clear T4
        have HT := Lib.hid hT
        have HM := Lib.hid hm
        have hm6 : m ≤ 6 := by
          have h1 := List.length_filter_le (fun p : Nat × List UInt8 => dead below last p.1) (bornL first (l.take i))
          rw [bornL_length, List.length_take, ← HN.out] at h1
          omega
        clear hT hm
        by_cases hlt : i < j
        · have hltI : (i : Int) < (j : Int) := by omega
          obtain ⟨k, hk⟩ : ∃ k, l[i]? = some k := ⟨_, List.getElem?_eq_getElem (by have := HN.out; omega)⟩
          have hkl : k.length = 32 := HLK.out k (List.mem_of_getElem? hk)
          obtain ⟨id, hid⟩ : ∃ id, id = first + i := ⟨_, rfl⟩
          have HII : Hid ((first : Int) + (i : Int) = (id : Int)) := by show _ = _; omega
          have htl : (l.take i).length = i := by rw [List.length_take]; have := HN.out; omega
          have hat : kAt id (bornL first l) = some k := by rw [hid]; exact bornL_at l first i k hk
          have hleft := kAt_left (p := fun x => !dead below last x) id (bornL first l)
          have hstep : ((bornL first (l.take (i + 1))).filter fun p => dead below last p.1).length = m + if dead below last id then 1 else 0 := by
            rw [List.take_add_one, hk, Option.toList_some, bornL_snoc, htl, ← hid, List.filter_append, List.length_append, ← HM.out]
            congr 1
            by_cases hd : dead below last id = true
            · rw [if_pos hd, List.filter_cons_of_pos (p := fun p : Nat × List UInt8 => dead below last p.1) hd]; rfl
            · rw [if_neg hd, List.filter_cons_of_neg (p := fun p : Nat × List UInt8 => dead below last p.1) hd]; rfl
          have hdq : dead below last id = (decide (id < below) && decide (i < j - 1)) := by
            unfold dead
            congr 1
            have h2 := HLA2.out
            by_cases h3 : i < j - 1
            · simp only [h3, decide_true, Bool.not_eq_true', beq_eq_false_iff_ne]; omega
            · simp only [h3, decide_false, Bool.not_eq_false', beq_iff_eq]; omega
          have hw1 : (j : Int) - 1 = ((j - 1 : Nat) : Int) := by omega
          have HK := Lib.hid hk
          have LK := Lib.hid hkl
          have HST := Lib.hid hstep
          rw [hat] at hleft
          have fin_ : ∀ (x : World) (rs : List (Nat × TypeId × Array Value)), Tbl w [] rs b ((bornL first l).filter fun p => !dead below last p.1) last x → ∀ m' : Nat, m' = (m + if dead below last id then 1 else 0) → ∃ (m1 i1 : Nat), Value.int .i64 (m' : Int) = .int .i64 (m1 : Int) ∧ Value.int .i64 ((i : Int) + 1) = .int .i64 (i1 : Int) ∧ i1 ≤ j ∧ m1 = ((bornL first (l.take i1)).filter fun p => dead below last p.1).length ∧ Tbl w [] [] b ((bornL first l).filter fun p => !dead below last p.1) last x :=
            fun x rs q m' hm' => ⟨m', i + 1, rfl, by go_num, hlt, by rw [HST.out, hm'], q.less (List.nil_sublist _)⟩
          have FIN := Lib.hid fin_
          clear fin_ hstep hkl hk hat htl hid
          have hjj : Hid (j - 1 < 7) := by show _ < _; omega
          cases hdd : dead below last id with
          | true =>
            rw [hdd] at hleft hdq
            have CS := Lib.hid (fun (x : World) (rs : List (Nat × TypeId × Array Value)) (q : Tbl w [] rs b ((bornL first l).filter fun p => !dead below last p.1) last x) => q.secret id)
            have CP := Lib.hid (fun (x : World) (rs : List (Nat × TypeId × Array Value)) (q : Tbl w [] rs b ((bornL first l).filter fun p => !dead below last p.1) last x) => q.pubOf id)
            have FIN2 : Hid (∀ (x : World) (rs : List (Nat × TypeId × Array Value)), Tbl w [] rs b ((bornL first l).filter fun p => !dead below last p.1) last x → ∃ (m1 i1 : Nat), Value.int .i64 ((m : Int) + 1) = .int .i64 (m1 : Int) ∧ Value.int .i64 ((i : Int) + 1) = .int .i64 (i1 : Int) ∧ i1 ≤ j ∧ m1 = ((bornL first (l.take i1)).filter fun p => dead below last p.1).length ∧ Tbl w [] [] b ((bornL first l).filter fun p => !dead below last p.1) last x) := fun x rs q => FIN.out x rs q (m + 1) (by rw [hdd]; rfl)
            rw [hleft] at CS CP
            clear hleft hdd FIN
            simp only [Bool.not_true, Bool.false_eq_true, if_false, Option.getD_none, Option.map_none, eCode, Option.isSome_none] at CS CP
            have hd1 : id < below := by
              have := hdq.symm
              rw [Bool.and_eq_true, decide_eq_true_eq, decide_eq_true_eq] at this
              exact this.1
            have hd2 : i < j - 1 := by
              have := hdq.symm
              rw [Bool.and_eq_true, decide_eq_true_eq, decide_eq_true_eq] at this
              exact this.2
            have hd3 : (i : Int) < (j : Int) - 1 := by omega
            clear hdq hw1
            go_wp2_with fail
            rw [HII.out]
            refine (CS.out _ _ HT.out).mono ?_
            rintro e w5 ⟨rfl, b5⟩
            have T5 := Lib.hid (HT.out.call b5)
            clear b5 HT
            go_wp2_with (first
              | ((with_reducible refine wpB_alloc (o := ⟨some 15, _, _, _, _, _⟩) rfl 32 rfl (keyC zeroKey) Try.zeroK T5.out ?_); intro g1 w6 q6; have T6 := Lib.hid q6; clear q6)
              | ((with_reducible refine wpB_store (o := ⟨none, _, _, _, _, _⟩) rfl 32 (.tmp 15) (.tmp 71) rfl 0 g1 32 (keyC zeroKey) (keyC zeroKey) (by with_unfolding_all rfl) (by with_unfolding_all rfl) (by with_unfolding_all rfl) (keyC_same zeroKey_length zeroKey_length) (Try.sizeKey _ zeroKey_length) (keyC_one _) T6.out ?_); intro w7 q7; simp only [List.set_cons_zero] at q7; have T7 := Lib.hid q7; clear q7))
            refine (CP.out _ _ T7.out).mono ?_
            rintro e w8 ⟨rfl, b8⟩
            have T8 := Lib.hid (T7.out.call b8)
            clear b8 T7 T6 T5
            go_wp2_with (first
              | ((with_reducible refine wpB_alloc (o := ⟨some 17, _, _, _, _, _⟩) rfl 32 rfl (keyC zeroKey) Try.zeroK T8.out ?_); intro g2 w9 q9; have T9 := Lib.hid q9; clear q9)
              | ((with_reducible refine wpB_store (o := ⟨none, _, _, _, _, _⟩) rfl 32 (.tmp 17) (.tmp 77) rfl 0 g2 32 (keyC zeroKey) (keyC zeroKey) (by with_unfolding_all rfl) (by with_unfolding_all rfl) (by with_unfolding_all rfl) (keyC_same zeroKey_length zeroKey_length) (Try.sizeKey _ zeroKey_length) (keyC_one _) T9.out ?_); intro w10 q10; simp only [List.set_cons_zero] at q10; have T10 := Lib.hid q10; clear q10))
            refine plain_region (S := fun x => x = w10.drew) (fin := fun _ => false) (by kernel_rfl) ?_
            have hS : w10.drew = w10.drew := rfl
            change walkS _ _ _ _ _ _ 22 _ _ _
            refine walkS_take (i := 0) (oi := ⟨some 92, _, _, _, _, _⟩) (v := .bool true) rfl (by kernel_rfl) (by kernel_rfl) (fun _ _ _ h => h) _ _ _ _ (by kernel_rfl) (by kernel_rfl) (Or.inl ⟨by rfl, fun w' hS' => (by first | rfl | (clear hS hS'; go_simp))⟩) hS ?_
            try simp only [Act.put, List.setIfInBounds_toArray, List.set_cons_zero, List.set_cons_succ]
            refine walkS_take (i := 1) (oi := ⟨some 93, _, _, _, _, _⟩) (v := .int .i64 80) rfl (by kernel_rfl) (by kernel_rfl) (fun _ _ _ h => h) _ _ _ _ (by kernel_rfl) (by kernel_rfl) (Or.inl ⟨by rfl, fun w' hS' => (by first | rfl | (clear hS hS'; go_simp))⟩) hS ?_
            try simp only [Act.put, List.setIfInBounds_toArray, List.set_cons_zero, List.set_cons_succ]
            refine walkS_take (i := 2) (oi := ⟨some 94, _, _, _, _, _⟩) (v := .bool true) rfl (by kernel_rfl) (by kernel_rfl) (fun _ _ _ h => h) _ _ _ _ (by kernel_rfl) (by kernel_rfl) (Or.inl ⟨by rfl, fun w' hS' => (by first | rfl | (clear hS hS'; go_simp))⟩) hS ?_
            try simp only [Act.put, List.setIfInBounds_toArray, List.set_cons_zero, List.set_cons_succ]
            refine walkS_take (i := 3) (oi := ⟨some 95, _, _, _, _, _⟩) (v := .bool false) rfl (by kernel_rfl) (by kernel_rfl) (fun _ _ _ h => h) _ _ _ _ (by kernel_rfl) (by kernel_rfl) (Or.inl ⟨by rfl, fun w' hS' => (by first | rfl | (clear hS hS'; go_simp))⟩) hS ?_
            try simp only [Act.put, List.setIfInBounds_toArray, List.set_cons_zero, List.set_cons_succ]
            refine walkS_take (i := 4) (oi := ⟨some 96, _, _, _, _, _⟩) (v := .bool false) rfl (by kernel_rfl) (by kernel_rfl) (fun _ _ _ h => h) _ _ _ _ (by kernel_rfl) (by kernel_rfl) (Or.inl ⟨by rfl, fun w' hS' => (by first | rfl | (clear hS hS'; go_simp))⟩) hS ?_
            try simp only [Act.put, List.setIfInBounds_toArray, List.set_cons_zero, List.set_cons_succ]
            refine walkS_take (i := 5) (oi := ⟨some 97, _, _, _, _, _⟩) (v := .bool true) rfl (by kernel_rfl) (by kernel_rfl) (fun _ _ _ h => h) _ _ _ _ (by kernel_rfl) (by kernel_rfl) (Or.inl ⟨by rfl, fun w' hS' => (by first | rfl | (clear hS hS'; go_simp))⟩) hS ?_
            try simp only [Act.put, List.setIfInBounds_toArray, List.set_cons_zero, List.set_cons_succ]
            refine walkS_take (i := 6) (oi := ⟨some 98, _, _, _, _, _⟩) (v := .int .i64 80) rfl (by kernel_rfl) (by kernel_rfl) (fun _ _ _ h => h) _ _ _ _ (by kernel_rfl) (by kernel_rfl) (Or.inl ⟨by rfl, fun w' hS' => (by first | rfl | (clear hS hS'; go_simp))⟩) hS ?_
            try simp only [Act.put, List.setIfInBounds_toArray, List.set_cons_zero, List.set_cons_succ]
            refine walkS_take (i := 7) (oi := ⟨some 99, _, _, _, _, _⟩) (v := .bool true) rfl (by kernel_rfl) (by kernel_rfl) (fun _ _ _ h => h) _ _ _ _ (by kernel_rfl) (by kernel_rfl) (Or.inl ⟨by rfl, fun w' hS' => (by first | rfl | (clear hS hS'; go_simp))⟩) hS ?_
            try simp only [Act.put, List.setIfInBounds_toArray, List.set_cons_zero, List.set_cons_succ]
            refine walkS_take (i := 8) (oi := ⟨some 100, _, _, _, _, _⟩) (v := .bool false) rfl (by kernel_rfl) (by kernel_rfl) (fun _ _ _ h => h) _ _ _ _ (by kernel_rfl) (by kernel_rfl) (Or.inl ⟨by rfl, fun w' hS' => (by first | rfl | (clear hS hS'; go_simp))⟩) hS ?_
            try simp only [Act.put, List.setIfInBounds_toArray, List.set_cons_zero, List.set_cons_succ]
            refine walkS_take (i := 9) (oi := ⟨some 101, _, _, _, _, _⟩) (v := .bool false) rfl (by kernel_rfl) (by kernel_rfl) (fun _ _ _ h => h) _ _ _ _ (by kernel_rfl) (by kernel_rfl) (Or.inl ⟨by rfl, fun w' hS' => (by first | rfl | (clear hS hS'; go_simp))⟩) hS ?_
            try simp only [Act.put, List.setIfInBounds_toArray, List.set_cons_zero, List.set_cons_succ]
            refine walkS_take (i := 10) (oi := ⟨some 102, _, _, _, _, _⟩) (v := .bool false) rfl (by kernel_rfl) (by kernel_rfl) (fun _ _ _ h => h) _ _ _ _ (by kernel_rfl) (by kernel_rfl) (Or.inl ⟨by rfl, fun w' hS' => (by first | rfl | (clear hS hS'; go_simp))⟩) hS ?_
            try simp only [Act.put, List.setIfInBounds_toArray, List.set_cons_zero, List.set_cons_succ]
            refine walkS_take (i := 11) (oi := ⟨some 103, _, _, _, _, _⟩) (v := .bool true) rfl (by kernel_rfl) (by kernel_rfl) (fun _ _ _ h => h) _ _ _ _ (by kernel_rfl) (by kernel_rfl) (Or.inl ⟨by rfl, fun w' hS' => (by first | rfl | (clear hS hS'; go_simp))⟩) hS ?_
            try simp only [Act.put, List.setIfInBounds_toArray, List.set_cons_zero, List.set_cons_succ]
            refine walkS_take (i := 12) (oi := ⟨some 104, _, _, _, _, _⟩) (v := .bool false) rfl (by kernel_rfl) (by kernel_rfl) (fun _ _ _ h => h) _ _ _ _ (by kernel_rfl) (by kernel_rfl) (Or.inl ⟨by rfl, fun w' hS' => (by first | rfl | (clear hS hS'; go_simp))⟩) hS ?_
            try simp only [Act.put, List.setIfInBounds_toArray, List.set_cons_zero, List.set_cons_succ]
            refine walkS_take (i := 13) (oi := ⟨some 105, _, _, _, _, _⟩) (v := .bool false) rfl (by kernel_rfl) (by kernel_rfl) (fun _ _ _ h => h) _ _ _ _ (by kernel_rfl) (by kernel_rfl) (Or.inl ⟨by rfl, fun w' hS' => (by first | rfl | (clear hS hS'; go_simp))⟩) hS ?_
            try simp only [Act.put, List.setIfInBounds_toArray, List.set_cons_zero, List.set_cons_succ]
            refine walkS_take (i := 14) (oi := ⟨some 106, _, _, _, _, _⟩) (v := undef) rfl (by kernel_rfl) (by kernel_rfl) (fun _ _ _ h => h) _ _ _ _ (by kernel_rfl) (by kernel_rfl) (Or.inr ⟨by rfl, rfl⟩) hS ?_
            try simp only [Act.put, List.setIfInBounds_toArray, List.set_cons_zero, List.set_cons_succ]
            refine walkS_take (i := 15) (oi := ⟨some 107, _, _, _, _, _⟩) (v := undef) rfl (by kernel_rfl) (by kernel_rfl) (fun _ _ _ h => h) _ _ _ _ (by kernel_rfl) (by kernel_rfl) (Or.inr ⟨by rfl, rfl⟩) hS ?_
            try simp only [Act.put, List.setIfInBounds_toArray, List.set_cons_zero, List.set_cons_succ]
            refine walkS_take (i := 16) (oi := ⟨some 108, _, _, _, _, _⟩) (v := undef) rfl (by kernel_rfl) (by kernel_rfl) (fun _ _ _ h => h) _ _ _ _ (by kernel_rfl) (by kernel_rfl) (Or.inr ⟨by rfl, rfl⟩) hS ?_
            try simp only [Act.put, List.setIfInBounds_toArray, List.set_cons_zero, List.set_cons_succ]
            refine walkS_take (i := 17) (oi := ⟨some 109, _, _, _, _, _⟩) (v := undef) rfl (by kernel_rfl) (by kernel_rfl) (fun _ _ _ h => h) _ _ _ _ (by kernel_rfl) (by kernel_rfl) (Or.inr ⟨by rfl, rfl⟩) hS ?_
            try simp only [Act.put, List.setIfInBounds_toArray, List.set_cons_zero, List.set_cons_succ]
            refine walkS_take (i := 18) (oi := ⟨some 110, _, _, _, _, _⟩) (v := undef) rfl (by kernel_rfl) (by kernel_rfl) (fun _ _ _ h => h) _ _ _ _ (by kernel_rfl) (by kernel_rfl) (Or.inr ⟨by rfl, rfl⟩) hS ?_
            try simp only [Act.put, List.setIfInBounds_toArray, List.set_cons_zero, List.set_cons_succ]
            refine walkS_take (i := 19) (oi := ⟨some 111, _, _, _, _, _⟩) (v := undef) rfl (by kernel_rfl) (by kernel_rfl) (fun _ _ _ h => h) _ _ _ _ (by kernel_rfl) (by kernel_rfl) (Or.inr ⟨by rfl, rfl⟩) hS ?_
            try simp only [Act.put, List.setIfInBounds_toArray, List.set_cons_zero, List.set_cons_succ]
            refine walkS_take (i := 20) (oi := ⟨some 112, _, _, _, _, _⟩) (v := .bool false) rfl (by kernel_rfl) (by kernel_rfl) (fun _ _ _ h => h) _ _ _ _ (by kernel_rfl) (by kernel_rfl) (Or.inl ⟨by rfl, fun w' hS' => (by first | rfl | (clear hS hS'; go_simp))⟩) hS ?_
            try simp only [Act.put, List.setIfInBounds_toArray, List.set_cons_zero, List.set_cons_succ]
            refine walkS_take (i := 21) (oi := ⟨some 113, _, _, _, _, _⟩) (v := .bool false) rfl (by kernel_rfl) (by kernel_rfl) (fun _ _ _ h => h) _ _ _ _ (by kernel_rfl) (by kernel_rfl) (Or.inl ⟨by rfl, fun w' hS' => (by first | rfl | (clear hS hS'; go_simp))⟩) hS ?_
            try simp only [Act.put, List.setIfInBounds_toArray, List.set_cons_zero, List.set_cons_succ]
            refine walkS_done (by kernel_rfl) ?_ _
            clear hS
            have T11 := Lib.hid T10.out.drew
            clear T10 T9 T8
            go_wp2
            go_roundw
            case rel => exact FIN2.out _ _ T11.out
            case measure => simp [intOf]; omega
          | false =>
            rw [hdd] at hleft hdq
            have CS := Lib.hid (fun (x : World) (rs : List (Nat × TypeId × Array Value)) (q : Tbl w [] rs b ((bornL first l).filter fun p => !dead below last p.1) last x) => q.secret id)
            have CP := Lib.hid (fun (x : World) (rs : List (Nat × TypeId × Array Value)) (q : Tbl w [] rs b ((bornL first l).filter fun p => !dead below last p.1) last x) => q.pubOf id)
            have FIN2 : Hid (∀ (x : World) (rs : List (Nat × TypeId × Array Value)), Tbl w [] rs b ((bornL first l).filter fun p => !dead below last p.1) last x → ∃ (m1 i1 : Nat), Value.int .i64 ((m : Int)) = .int .i64 (m1 : Int) ∧ Value.int .i64 ((i : Int) + 1) = .int .i64 (i1 : Int) ∧ i1 ≤ j ∧ m1 = ((bornL first (l.take i1)).filter fun p => dead below last p.1).length ∧ Tbl w [] [] b ((bornL first l).filter fun p => !dead below last p.1) last x) := fun x rs q => FIN.out x rs q m (by rw [hdd]; rfl)
            rw [hleft] at CS CP
            clear hleft hdd FIN
            simp only [Bool.not_false, if_true, Option.getD_some, Option.map_some, eCode, Option.isSome_some] at CS CP
            obtain ⟨pk, hpk⟩ : ∃ pk, pk = rawK k nineK := ⟨_, rfl⟩
            rw [← hpk] at CP
            have LP : Hid (pk.length = 32) := by show _ = _; rw [hpk]; exact rawK_length _ _
            have hdq2 : (decide (id < below) && decide ((i : Int) < (j : Int) - 1)) = false := by
              rw [show decide ((i : Int) < (j : Int) - 1) = decide (i < j - 1) by apply decide_eq_decide.2; omega]
              exact hdq.symm
            clear hdq hw1 hpk
            by_cases hbl : id < below
            · have hni : ¬ (i : Int) < (j : Int) - 1 := by
                intro h
                simp [hbl, h] at hdq2
              clear hdq2
              go_wp2_with fail
              rw [HII.out]
              refine (CS.out _ _ HT.out).mono ?_
              rintro e w5 ⟨rfl, b5⟩
              have T5 := Lib.hid (HT.out.call b5)
              clear b5 HT
              go_wp2_with (first
                | ((with_reducible refine wpB_alloc (o := ⟨some 15, _, _, _, _, _⟩) rfl 32 rfl (keyC zeroKey) Try.zeroK T5.out ?_); intro g1 w6 q6; have T6 := Lib.hid q6; clear q6)
                | ((with_reducible refine wpB_store (o := ⟨none, _, _, _, _, _⟩) rfl 32 (.tmp 15) (.tmp 71) rfl 0 g1 32 (keyC zeroKey) (keyC k) (by with_unfolding_all rfl) (by with_unfolding_all rfl) (by with_unfolding_all rfl) (keyC_same zeroKey_length LK.out) (Try.sizeKey _ LK.out) (keyC_one _) T6.out ?_); intro w7 q7; simp only [List.set_cons_zero] at q7; have T7 := Lib.hid q7; clear q7))
              refine (CP.out _ _ T7.out).mono ?_
              rintro e w8 ⟨rfl, b8⟩
              have T8 := Lib.hid (T7.out.call b8)
              clear b8 T7 T6 T5
              go_wp2_with (first
                | ((with_reducible refine wpB_alloc (o := ⟨some 17, _, _, _, _, _⟩) rfl 32 rfl (keyC zeroKey) Try.zeroK T8.out ?_); intro g2 w9 q9; have T9 := Lib.hid q9; clear q9)
                | ((with_reducible refine wpB_store (o := ⟨none, _, _, _, _, _⟩) rfl 32 (.tmp 17) (.tmp 77) rfl 0 g2 32 (keyC zeroKey) (keyC pk) (by with_unfolding_all rfl) (by with_unfolding_all rfl) (by with_unfolding_all rfl) (keyC_same zeroKey_length LP.out) (Try.sizeKey _ LP.out) (keyC_one _) T9.out ?_); intro w10 q10; simp only [List.set_cons_zero] at q10; have T10 := Lib.hid q10; clear q10))
              refine plain_region (S := fun x => x = w10.drew) (fin := fun _ => false) (by kernel_rfl) ?_
              have hS : w10.drew = w10.drew := rfl
              change walkS _ _ _ _ _ _ 22 _ _ _
              refine walkS_take (i := 0) (oi := ⟨some 92, _, _, _, _, _⟩) (v := .bool false) rfl (by kernel_rfl) (by kernel_rfl) (fun _ _ _ h => h) _ _ _ _ (by kernel_rfl) (by kernel_rfl) (Or.inl ⟨by rfl, fun w' hS' => (by first | rfl | (clear hS hS'; go_simp))⟩) hS ?_
              try simp only [Act.put, List.setIfInBounds_toArray, List.set_cons_zero, List.set_cons_succ]
              refine walkS_take (i := 1) (oi := ⟨some 93, _, _, _, _, _⟩) (v := .int .i64 0) rfl (by kernel_rfl) (by kernel_rfl) (fun _ _ _ h => h) _ _ _ _ (by kernel_rfl) (by kernel_rfl) (Or.inl ⟨by rfl, fun w' hS' => (by first | rfl | (clear hS hS'; go_simp))⟩) hS ?_
              try simp only [Act.put, List.setIfInBounds_toArray, List.set_cons_zero, List.set_cons_succ]
              refine walkS_take (i := 2) (oi := ⟨some 94, _, _, _, _, _⟩) (v := .bool false) rfl (by kernel_rfl) (by kernel_rfl) (fun _ _ _ h => h) _ _ _ _ (by kernel_rfl) (by kernel_rfl) (Or.inl ⟨by rfl, fun w' hS' => (by first | rfl | (clear hS hS'; go_simp))⟩) hS ?_
              try simp only [Act.put, List.setIfInBounds_toArray, List.set_cons_zero, List.set_cons_succ]
              refine walkS_take (i := 3) (oi := ⟨some 95, _, _, _, _, _⟩) (v := .bool false) rfl (by kernel_rfl) (by kernel_rfl) (fun _ _ _ h => h) _ _ _ _ (by kernel_rfl) (by kernel_rfl) (Or.inl ⟨by rfl, fun w' hS' => (by first | rfl | (clear hS hS'; go_simp))⟩) hS ?_
              try simp only [Act.put, List.setIfInBounds_toArray, List.set_cons_zero, List.set_cons_succ]
              refine walkS_take (i := 4) (oi := ⟨some 96, _, _, _, _, _⟩) (v := .bool false) rfl (by kernel_rfl) (by kernel_rfl) (fun _ _ _ h => h) _ _ _ _ (by kernel_rfl) (by kernel_rfl) (Or.inl ⟨by rfl, fun w' hS' => (by first | rfl | (clear hS hS'; go_simp))⟩) hS ?_
              try simp only [Act.put, List.setIfInBounds_toArray, List.set_cons_zero, List.set_cons_succ]
              refine walkS_take (i := 5) (oi := ⟨some 97, _, _, _, _, _⟩) (v := .bool false) rfl (by kernel_rfl) (by kernel_rfl) (fun _ _ _ h => h) _ _ _ _ (by kernel_rfl) (by kernel_rfl) (Or.inl ⟨by rfl, fun w' hS' => (by first | rfl | (clear hS hS'; go_simp))⟩) hS ?_
              try simp only [Act.put, List.setIfInBounds_toArray, List.set_cons_zero, List.set_cons_succ]
              refine walkS_take (i := 6) (oi := ⟨some 98, _, _, _, _, _⟩) (v := .int .i64 0) rfl (by kernel_rfl) (by kernel_rfl) (fun _ _ _ h => h) _ _ _ _ (by kernel_rfl) (by kernel_rfl) (Or.inl ⟨by rfl, fun w' hS' => (by first | rfl | (clear hS hS'; go_simp))⟩) hS ?_
              try simp only [Act.put, List.setIfInBounds_toArray, List.set_cons_zero, List.set_cons_succ]
              refine walkS_take (i := 7) (oi := ⟨some 99, _, _, _, _, _⟩) (v := .bool false) rfl (by kernel_rfl) (by kernel_rfl) (fun _ _ _ h => h) _ _ _ _ (by kernel_rfl) (by kernel_rfl) (Or.inl ⟨by rfl, fun w' hS' => (by first | rfl | (clear hS hS'; go_simp))⟩) hS ?_
              try simp only [Act.put, List.setIfInBounds_toArray, List.set_cons_zero, List.set_cons_succ]
              refine walkS_take (i := 8) (oi := ⟨some 100, _, _, _, _, _⟩) (v := .bool false) rfl (by kernel_rfl) (by kernel_rfl) (fun _ _ _ h => h) _ _ _ _ (by kernel_rfl) (by kernel_rfl) (Or.inl ⟨by rfl, fun w' hS' => (by first | rfl | (clear hS hS'; go_simp))⟩) hS ?_
              try simp only [Act.put, List.setIfInBounds_toArray, List.set_cons_zero, List.set_cons_succ]
              refine walkS_take (i := 9) (oi := ⟨some 101, _, _, _, _, _⟩) (v := .bool false) rfl (by kernel_rfl) (by kernel_rfl) (fun _ _ _ h => h) _ _ _ _ (by kernel_rfl) (by kernel_rfl) (Or.inl ⟨by rfl, fun w' hS' => (by first | rfl | (clear hS hS'; go_simp))⟩) hS ?_
              try simp only [Act.put, List.setIfInBounds_toArray, List.set_cons_zero, List.set_cons_succ]
              refine walkS_take (i := 10) (oi := ⟨some 102, _, _, _, _, _⟩) (v := .bool false) rfl (by kernel_rfl) (by kernel_rfl) (fun _ _ _ h => h) _ _ _ _ (by kernel_rfl) (by kernel_rfl) (Or.inl ⟨by rfl, fun w' hS' => (by first | rfl | (clear hS hS'; go_simp))⟩) hS ?_
              try simp only [Act.put, List.setIfInBounds_toArray, List.set_cons_zero, List.set_cons_succ]
              refine walkS_take (i := 11) (oi := ⟨some 103, _, _, _, _, _⟩) (v := .bool false) rfl (by kernel_rfl) (by kernel_rfl) (fun _ _ _ h => h) _ _ _ _ (by kernel_rfl) (by kernel_rfl) (Or.inl ⟨by rfl, fun w' hS' => (by first | rfl | (clear hS hS'; go_simp))⟩) hS ?_
              try simp only [Act.put, List.setIfInBounds_toArray, List.set_cons_zero, List.set_cons_succ]
              refine walkS_take (i := 12) (oi := ⟨some 104, _, _, _, _, _⟩) (v := .bool true) rfl (by kernel_rfl) (by kernel_rfl) (fun _ _ _ h => h) _ _ _ _ (by kernel_rfl) (by kernel_rfl) (Or.inl ⟨by rfl, fun w' hS' => (by first | rfl | (clear hS hS'; go_simp))⟩) hS ?_
              try simp only [Act.put, List.setIfInBounds_toArray, List.set_cons_zero, List.set_cons_succ]
              refine walkS_take (i := 13) (oi := ⟨some 105, _, _, _, _, _⟩) (v := .bool true) rfl (by kernel_rfl) (by kernel_rfl) (fun _ _ _ h => h) _ _ _ _ (by kernel_rfl) (by kernel_rfl) (Or.inl ⟨by rfl, fun w' hS' => (by first | rfl | (clear hS hS'; go_simp))⟩) hS ?_
              try simp only [Act.put, List.setIfInBounds_toArray, List.set_cons_zero, List.set_cons_succ]
              refine walkS_take (i := 14) (oi := ⟨some 106, _, _, _, _, _⟩) (v := .agg (keyC k)) rfl (by kernel_rfl) (by kernel_rfl) (fun _ _ _ h => h) _ _ _ _ (by kernel_rfl) (by kernel_rfl) (Or.inl ⟨by rfl, fun w' hS' => (by subst hS'; with_unfolding_all exact run_load_row 32 (.tmp 15) rfl g1 rfl 32 (keyC k) (0, 0) _ (T10.out.drew.row (i := 1) rfl) Try.underlying32 rfl (Try.sizeKey _ LK.out))⟩) hS ?_
              try simp only [Act.put, List.setIfInBounds_toArray, List.set_cons_zero, List.set_cons_succ]
              refine walkS_take (i := 15) (oi := ⟨some 107, _, _, _, _, _⟩) (v := .slice (some ⟨bl, off, none⟩) j c) rfl (by kernel_rfl) (by kernel_rfl) (fun _ _ _ h => h) _ _ _ _ (by kernel_rfl) (by kernel_rfl) (Or.inl ⟨by rfl, fun w' hS' => (by first | rfl | (clear hS hS'; go_simp))⟩) hS ?_
              try simp only [Act.put, List.setIfInBounds_toArray, List.set_cons_zero, List.set_cons_succ]
              refine walkS_take (i := 16) (oi := ⟨some 108, _, _, _, _, _⟩) (v := .int .i64 (i : Int)) rfl (by kernel_rfl) (by kernel_rfl) (fun _ _ _ h => h) _ _ _ _ (by kernel_rfl) (by kernel_rfl) (Or.inl ⟨by rfl, fun w' hS' => (by first | rfl | (clear hS hS'; go_simp))⟩) hS ?_
              try simp only [Act.put, List.setIfInBounds_toArray, List.set_cons_zero, List.set_cons_succ]
              refine walkS_take (i := 17) (oi := ⟨some 109, _, _, _, _, _⟩) (v := .pointer (some ⟨bl, off + i * 32, none⟩)) rfl (by kernel_rfl) (by kernel_rfl) (fun _ _ _ h => h) _ _ _ _ (by kernel_rfl) (by kernel_rfl) (Or.inl ⟨by rfl, fun w' hS' => (by with_unfolding_all exact run_idxAt (P := Try.prog) 32 23 32 (.tmp 107) (.tmp 108) rfl bl off j c i rfl rfl hlt Try.underlying23 Try.sizeK)⟩) hS ?_
              try simp only [Act.put, List.setIfInBounds_toArray, List.set_cons_zero, List.set_cons_succ]
              refine walkS_take (i := 18) (oi := ⟨some 110, _, _, _, _, _⟩) (v := .agg (keyC k)) rfl (by kernel_rfl) (by kernel_rfl) (fun _ _ _ h => h) _ _ _ _ (by kernel_rfl) (by kernel_rfl) (Or.inl ⟨by rfl, fun w' hS' => (by subst hS'; with_unfolding_all exact run_keyL 32 (.tmp 109) rfl bl (off + i * 32) rfl k _ (HR.out _ T10.out.drew.below i k HK.out) Try.underlying32 rfl (Try.sizeKeyM _ LK.out))⟩) hS ?_
              try simp only [Act.put, List.setIfInBounds_toArray, List.set_cons_zero, List.set_cons_succ]
              refine walkS_take (i := 19) (oi := ⟨some 111, _, _, _, _, _⟩) (v := .bool false) rfl (by kernel_rfl) (by kernel_rfl) (fun _ _ _ h => h) _ _ _ _ (by kernel_rfl) (by kernel_rfl) (Or.inl ⟨by rfl, fun w' hS' => (by with_unfolding_all exact neqKey_run (.tmp 106) (.tmp 110) _ rfl k LK.out rfl rfl)⟩) hS ?_
              try simp only [Act.put, List.setIfInBounds_toArray, List.set_cons_zero, List.set_cons_succ]
              refine walkS_take (i := 20) (oi := ⟨some 112, _, _, _, _, _⟩) (v := .bool false) rfl (by kernel_rfl) (by kernel_rfl) (fun _ _ _ h => h) _ _ _ _ (by kernel_rfl) (by kernel_rfl) (Or.inl ⟨by rfl, fun w' hS' => (by first | rfl | (clear hS hS'; go_simp))⟩) hS ?_
              try simp only [Act.put, List.setIfInBounds_toArray, List.set_cons_zero, List.set_cons_succ]
              refine walkS_take (i := 21) (oi := ⟨some 113, _, _, _, _, _⟩) (v := .bool false) rfl (by kernel_rfl) (by kernel_rfl) (fun _ _ _ h => h) _ _ _ _ (by kernel_rfl) (by kernel_rfl) (Or.inl ⟨by rfl, fun w' hS' => (by first | rfl | (clear hS hS'; go_simp))⟩) hS ?_
              try simp only [Act.put, List.setIfInBounds_toArray, List.set_cons_zero, List.set_cons_succ]
              refine walkS_done (by kernel_rfl) ?_ _
              clear hS
              have T11 := Lib.hid T10.out.drew
              clear T10 T9 T8
              go_wp2
              go_roundw
              case rel => exact FIN2.out _ _ T11.out
              case measure => simp [intOf]; omega
            · clear hdq2
              go_wp2_with fail
              rw [HII.out]
              refine (CS.out _ _ HT.out).mono ?_
              rintro e w5 ⟨rfl, b5⟩
              have T5 := Lib.hid (HT.out.call b5)
              clear b5 HT
              go_wp2_with (first
                | ((with_reducible refine wpB_alloc (o := ⟨some 15, _, _, _, _, _⟩) rfl 32 rfl (keyC zeroKey) Try.zeroK T5.out ?_); intro g1 w6 q6; have T6 := Lib.hid q6; clear q6)
                | ((with_reducible refine wpB_store (o := ⟨none, _, _, _, _, _⟩) rfl 32 (.tmp 15) (.tmp 71) rfl 0 g1 32 (keyC zeroKey) (keyC k) (by with_unfolding_all rfl) (by with_unfolding_all rfl) (by with_unfolding_all rfl) (keyC_same zeroKey_length LK.out) (Try.sizeKey _ LK.out) (keyC_one _) T6.out ?_); intro w7 q7; simp only [List.set_cons_zero] at q7; have T7 := Lib.hid q7; clear q7))
              refine (CP.out _ _ T7.out).mono ?_
              rintro e w8 ⟨rfl, b8⟩
              have T8 := Lib.hid (T7.out.call b8)
              clear b8 T7 T6 T5
              go_wp2_with (first
                | ((with_reducible refine wpB_alloc (o := ⟨some 17, _, _, _, _, _⟩) rfl 32 rfl (keyC zeroKey) Try.zeroK T8.out ?_); intro g2 w9 q9; have T9 := Lib.hid q9; clear q9)
                | ((with_reducible refine wpB_store (o := ⟨none, _, _, _, _, _⟩) rfl 32 (.tmp 17) (.tmp 77) rfl 0 g2 32 (keyC zeroKey) (keyC pk) (by with_unfolding_all rfl) (by with_unfolding_all rfl) (by with_unfolding_all rfl) (keyC_same zeroKey_length LP.out) (Try.sizeKey _ LP.out) (keyC_one _) T9.out ?_); intro w10 q10; simp only [List.set_cons_zero] at q10; have T10 := Lib.hid q10; clear q10))
              refine plain_region (S := fun x => x = w10.drew) (fin := fun _ => false) (by kernel_rfl) ?_
              have hS : w10.drew = w10.drew := rfl
              change walkS _ _ _ _ _ _ 22 _ _ _
              refine walkS_take (i := 0) (oi := ⟨some 92, _, _, _, _, _⟩) (v := .bool false) rfl (by kernel_rfl) (by kernel_rfl) (fun _ _ _ h => h) _ _ _ _ (by kernel_rfl) (by kernel_rfl) (Or.inl ⟨by rfl, fun w' hS' => (by first | rfl | (clear hS hS'; go_simp))⟩) hS ?_
              try simp only [Act.put, List.setIfInBounds_toArray, List.set_cons_zero, List.set_cons_succ]
              refine walkS_take (i := 1) (oi := ⟨some 93, _, _, _, _, _⟩) (v := .int .i64 0) rfl (by kernel_rfl) (by kernel_rfl) (fun _ _ _ h => h) _ _ _ _ (by kernel_rfl) (by kernel_rfl) (Or.inl ⟨by rfl, fun w' hS' => (by first | rfl | (clear hS hS'; go_simp))⟩) hS ?_
              try simp only [Act.put, List.setIfInBounds_toArray, List.set_cons_zero, List.set_cons_succ]
              refine walkS_take (i := 2) (oi := ⟨some 94, _, _, _, _, _⟩) (v := .bool false) rfl (by kernel_rfl) (by kernel_rfl) (fun _ _ _ h => h) _ _ _ _ (by kernel_rfl) (by kernel_rfl) (Or.inl ⟨by rfl, fun w' hS' => (by first | rfl | (clear hS hS'; go_simp))⟩) hS ?_
              try simp only [Act.put, List.setIfInBounds_toArray, List.set_cons_zero, List.set_cons_succ]
              refine walkS_take (i := 3) (oi := ⟨some 95, _, _, _, _, _⟩) (v := .bool false) rfl (by kernel_rfl) (by kernel_rfl) (fun _ _ _ h => h) _ _ _ _ (by kernel_rfl) (by kernel_rfl) (Or.inl ⟨by rfl, fun w' hS' => (by first | rfl | (clear hS hS'; go_simp))⟩) hS ?_
              try simp only [Act.put, List.setIfInBounds_toArray, List.set_cons_zero, List.set_cons_succ]
              refine walkS_take (i := 4) (oi := ⟨some 96, _, _, _, _, _⟩) (v := .bool false) rfl (by kernel_rfl) (by kernel_rfl) (fun _ _ _ h => h) _ _ _ _ (by kernel_rfl) (by kernel_rfl) (Or.inl ⟨by rfl, fun w' hS' => (by first | rfl | (clear hS hS'; go_simp))⟩) hS ?_
              try simp only [Act.put, List.setIfInBounds_toArray, List.set_cons_zero, List.set_cons_succ]
              refine walkS_take (i := 5) (oi := ⟨some 97, _, _, _, _, _⟩) (v := .bool false) rfl (by kernel_rfl) (by kernel_rfl) (fun _ _ _ h => h) _ _ _ _ (by kernel_rfl) (by kernel_rfl) (Or.inl ⟨by rfl, fun w' hS' => (by first | rfl | (clear hS hS'; go_simp))⟩) hS ?_
              try simp only [Act.put, List.setIfInBounds_toArray, List.set_cons_zero, List.set_cons_succ]
              refine walkS_take (i := 6) (oi := ⟨some 98, _, _, _, _, _⟩) (v := .int .i64 0) rfl (by kernel_rfl) (by kernel_rfl) (fun _ _ _ h => h) _ _ _ _ (by kernel_rfl) (by kernel_rfl) (Or.inl ⟨by rfl, fun w' hS' => (by first | rfl | (clear hS hS'; go_simp))⟩) hS ?_
              try simp only [Act.put, List.setIfInBounds_toArray, List.set_cons_zero, List.set_cons_succ]
              refine walkS_take (i := 7) (oi := ⟨some 99, _, _, _, _, _⟩) (v := .bool false) rfl (by kernel_rfl) (by kernel_rfl) (fun _ _ _ h => h) _ _ _ _ (by kernel_rfl) (by kernel_rfl) (Or.inl ⟨by rfl, fun w' hS' => (by first | rfl | (clear hS hS'; go_simp))⟩) hS ?_
              try simp only [Act.put, List.setIfInBounds_toArray, List.set_cons_zero, List.set_cons_succ]
              refine walkS_take (i := 8) (oi := ⟨some 100, _, _, _, _, _⟩) (v := .bool false) rfl (by kernel_rfl) (by kernel_rfl) (fun _ _ _ h => h) _ _ _ _ (by kernel_rfl) (by kernel_rfl) (Or.inl ⟨by rfl, fun w' hS' => (by first | rfl | (clear hS hS'; go_simp))⟩) hS ?_
              try simp only [Act.put, List.setIfInBounds_toArray, List.set_cons_zero, List.set_cons_succ]
              refine walkS_take (i := 9) (oi := ⟨some 101, _, _, _, _, _⟩) (v := .bool false) rfl (by kernel_rfl) (by kernel_rfl) (fun _ _ _ h => h) _ _ _ _ (by kernel_rfl) (by kernel_rfl) (Or.inl ⟨by rfl, fun w' hS' => (by first | rfl | (clear hS hS'; go_simp))⟩) hS ?_
              try simp only [Act.put, List.setIfInBounds_toArray, List.set_cons_zero, List.set_cons_succ]
              refine walkS_take (i := 10) (oi := ⟨some 102, _, _, _, _, _⟩) (v := .bool false) rfl (by kernel_rfl) (by kernel_rfl) (fun _ _ _ h => h) _ _ _ _ (by kernel_rfl) (by kernel_rfl) (Or.inl ⟨by rfl, fun w' hS' => (by first | rfl | (clear hS hS'; go_simp))⟩) hS ?_
              try simp only [Act.put, List.setIfInBounds_toArray, List.set_cons_zero, List.set_cons_succ]
              refine walkS_take (i := 11) (oi := ⟨some 103, _, _, _, _, _⟩) (v := .bool false) rfl (by kernel_rfl) (by kernel_rfl) (fun _ _ _ h => h) _ _ _ _ (by kernel_rfl) (by kernel_rfl) (Or.inl ⟨by rfl, fun w' hS' => (by first | rfl | (clear hS hS'; go_simp))⟩) hS ?_
              try simp only [Act.put, List.setIfInBounds_toArray, List.set_cons_zero, List.set_cons_succ]
              refine walkS_take (i := 12) (oi := ⟨some 104, _, _, _, _, _⟩) (v := .bool true) rfl (by kernel_rfl) (by kernel_rfl) (fun _ _ _ h => h) _ _ _ _ (by kernel_rfl) (by kernel_rfl) (Or.inl ⟨by rfl, fun w' hS' => (by first | rfl | (clear hS hS'; go_simp))⟩) hS ?_
              try simp only [Act.put, List.setIfInBounds_toArray, List.set_cons_zero, List.set_cons_succ]
              refine walkS_take (i := 13) (oi := ⟨some 105, _, _, _, _, _⟩) (v := .bool true) rfl (by kernel_rfl) (by kernel_rfl) (fun _ _ _ h => h) _ _ _ _ (by kernel_rfl) (by kernel_rfl) (Or.inl ⟨by rfl, fun w' hS' => (by first | rfl | (clear hS hS'; go_simp))⟩) hS ?_
              try simp only [Act.put, List.setIfInBounds_toArray, List.set_cons_zero, List.set_cons_succ]
              refine walkS_take (i := 14) (oi := ⟨some 106, _, _, _, _, _⟩) (v := .agg (keyC k)) rfl (by kernel_rfl) (by kernel_rfl) (fun _ _ _ h => h) _ _ _ _ (by kernel_rfl) (by kernel_rfl) (Or.inl ⟨by rfl, fun w' hS' => (by subst hS'; with_unfolding_all exact run_load_row 32 (.tmp 15) rfl g1 rfl 32 (keyC k) (0, 0) _ (T10.out.drew.row (i := 1) rfl) Try.underlying32 rfl (Try.sizeKey _ LK.out))⟩) hS ?_
              try simp only [Act.put, List.setIfInBounds_toArray, List.set_cons_zero, List.set_cons_succ]
              refine walkS_take (i := 15) (oi := ⟨some 107, _, _, _, _, _⟩) (v := .slice (some ⟨bl, off, none⟩) j c) rfl (by kernel_rfl) (by kernel_rfl) (fun _ _ _ h => h) _ _ _ _ (by kernel_rfl) (by kernel_rfl) (Or.inl ⟨by rfl, fun w' hS' => (by first | rfl | (clear hS hS'; go_simp))⟩) hS ?_
              try simp only [Act.put, List.setIfInBounds_toArray, List.set_cons_zero, List.set_cons_succ]
              refine walkS_take (i := 16) (oi := ⟨some 108, _, _, _, _, _⟩) (v := .int .i64 (i : Int)) rfl (by kernel_rfl) (by kernel_rfl) (fun _ _ _ h => h) _ _ _ _ (by kernel_rfl) (by kernel_rfl) (Or.inl ⟨by rfl, fun w' hS' => (by first | rfl | (clear hS hS'; go_simp))⟩) hS ?_
              try simp only [Act.put, List.setIfInBounds_toArray, List.set_cons_zero, List.set_cons_succ]
              refine walkS_take (i := 17) (oi := ⟨some 109, _, _, _, _, _⟩) (v := .pointer (some ⟨bl, off + i * 32, none⟩)) rfl (by kernel_rfl) (by kernel_rfl) (fun _ _ _ h => h) _ _ _ _ (by kernel_rfl) (by kernel_rfl) (Or.inl ⟨by rfl, fun w' hS' => (by with_unfolding_all exact run_idxAt (P := Try.prog) 32 23 32 (.tmp 107) (.tmp 108) rfl bl off j c i rfl rfl hlt Try.underlying23 Try.sizeK)⟩) hS ?_
              try simp only [Act.put, List.setIfInBounds_toArray, List.set_cons_zero, List.set_cons_succ]
              refine walkS_take (i := 18) (oi := ⟨some 110, _, _, _, _, _⟩) (v := .agg (keyC k)) rfl (by kernel_rfl) (by kernel_rfl) (fun _ _ _ h => h) _ _ _ _ (by kernel_rfl) (by kernel_rfl) (Or.inl ⟨by rfl, fun w' hS' => (by subst hS'; with_unfolding_all exact run_keyL 32 (.tmp 109) rfl bl (off + i * 32) rfl k _ (HR.out _ T10.out.drew.below i k HK.out) Try.underlying32 rfl (Try.sizeKeyM _ LK.out))⟩) hS ?_
              try simp only [Act.put, List.setIfInBounds_toArray, List.set_cons_zero, List.set_cons_succ]
              refine walkS_take (i := 19) (oi := ⟨some 111, _, _, _, _, _⟩) (v := .bool false) rfl (by kernel_rfl) (by kernel_rfl) (fun _ _ _ h => h) _ _ _ _ (by kernel_rfl) (by kernel_rfl) (Or.inl ⟨by rfl, fun w' hS' => (by with_unfolding_all exact neqKey_run (.tmp 106) (.tmp 110) _ rfl k LK.out rfl rfl)⟩) hS ?_
              try simp only [Act.put, List.setIfInBounds_toArray, List.set_cons_zero, List.set_cons_succ]
              refine walkS_take (i := 20) (oi := ⟨some 112, _, _, _, _, _⟩) (v := .bool false) rfl (by kernel_rfl) (by kernel_rfl) (fun _ _ _ h => h) _ _ _ _ (by kernel_rfl) (by kernel_rfl) (Or.inl ⟨by rfl, fun w' hS' => (by first | rfl | (clear hS hS'; go_simp))⟩) hS ?_
              try simp only [Act.put, List.setIfInBounds_toArray, List.set_cons_zero, List.set_cons_succ]
              refine walkS_take (i := 21) (oi := ⟨some 113, _, _, _, _, _⟩) (v := .bool false) rfl (by kernel_rfl) (by kernel_rfl) (fun _ _ _ h => h) _ _ _ _ (by kernel_rfl) (by kernel_rfl) (Or.inl ⟨by rfl, fun w' hS' => (by first | rfl | (clear hS hS'; go_simp))⟩) hS ?_
              try simp only [Act.put, List.setIfInBounds_toArray, List.set_cons_zero, List.set_cons_succ]
              refine walkS_done (by kernel_rfl) ?_ _
              clear hS
              have T11 := Lib.hid T10.out.drew
              clear T10 T9 T8
              go_wp2
              go_roundw
              case rel => exact FIN2.out _ _ T11.out
              case measure => simp [intOf]; omega
        · have hge : ¬ (i : Int) < (j : Int) := by omega
          have hmD : m = D := by rw [HM.out, HD.out, show i = j by omega, HN.out, List.take_length]
          have hq : ((D : Int) == (D : Int)) = true := beq_self_eq_true _
          subst hmD
          clear hlt hi
          go_wp2
          go_ret
          exact ⟨rfl, HT.out.below⟩
end Go.Proofs.Ythipdfmaaeoijaa
end
section
namespace Go.Proofs.Ythipdfmaaeoijaa.epochsGone
open Go.ChangeShapes Go.WideShapes Go.ChangeAt Go.RowKit
open Go.ChangeMaps (open_string shut_string)
set_option linter.unusedVariables false

theorem own : ownKnob Try.prog.godebug = none := by kernel_rfl
theorem laidOut : laidOutB Try.prog = true := by kernel_rfl

set_option maxRecDepth 100000 in
theorem lifted (os : Os) (started : os.Started) (H : Type) (enc : TypeId × Value → H) :
    ReturnsInHanded {} Try.checked os 3 .any (Rows.epochsGoneSpec.pre6 enc Try.prog Try.f3 Rows.epochsGoneRow.domain false) (Rows.epochsGoneSpec.post enc Try.prog Try.f3 false true false false) := by
  refine returnsInHanded_of_change (C := Try.checked) own started (by kernel_rfl) Try.func3
    (ChangeSpec.witness6 (enc := enc) (C := Try.checked) false ⟨#[], #[.int .u32 0, .slice none 0 0, .int .u32 0], []⟩ 8 (by kernel_rfl) (by kernel_rfl) (by kernel_rfl) (by kernel_rfl)) ?_
  intro W base args ds gs before hval0 hW hcnd _
  have hval : ∀ (j : Nat) t v, Try.f3.params[j]? = some t → args[j]? = some v → Value.okWide Try.prog W .any base t v := hval0
  have hW' := hW
  obtain ⟨p, q, hA0, hV, rfl, hfz, hnd⟩ := hW
  have hA : DataW.TrodAll enc Try.prog W 0 (fun _ => true) true Try.f3.params.toList args.toList ds p := hA0
  rw [Try.params3] at hA hval
  obtain ⟨v0, vs0, d0, ds0, p0, q0, hargs, rfl, rfl, h0, r0⟩ := trodAll_cons hA
  obtain ⟨v1, vs1, d1, ds1, p1, q1, rfl, rfl, rfl, h1, r1⟩ := trodAll_cons r0
  obtain ⟨v2, vs2, d2, ds2, p2, q2, rfl, rfl, rfl, h2, r2⟩ := trodAll_cons r1
  obtain ⟨rfl, rfl, rfl⟩ := trodAll_nil r2
  obtain rfl : args = #[v0, v1, v2] := by cases args; simp_all
  obtain ⟨rfl, rfl⟩ := trodVars_none hV
  obtain ⟨a0, rfl, rfl, rfl, w0⟩ := open_int Try.underlying22 (hval 0 22 v0 rfl rfl) h0
  obtain ⟨n0, rfl⟩ := u32_of_wf w0
  obtain ⟨a1, len1, cap1, rfl⟩ := okWide_slice Try.underlying23 (hval 1 23 v1 rfl rfl)
  have k1 := h1
  have lt1 : ∀ x ∈ p1, x.block < W.heap.size := by obtain ⟨m, hm⟩ := k1; exact DataW.trod_lt m _ _ _ hm
  obtain ⟨l1, w1⟩ : ∃ l : List (List UInt8), Kl W (.slice a1 len1 cap1) l := by
    obtain ⟨fuel, hf⟩ := h1
    obtain ⟨v, l, hcs, hl⟩ := open_kl Try.underlying23 Try.underlying32 Try.underlying5 (by kernel_rfl) (by kernel_rfl) hf
    simp [Value.cells] at hcs
    exact ⟨l, hcs ▸ hl⟩
  obtain ⟨a2, rfl, rfl, rfl, w2⟩ := open_int Try.underlying22 (hval 2 22 v2 rfl rfl) h2
  obtain ⟨n2, rfl⟩ := u32_of_wf w2
  clear hA0 hval0
  refine (epochsGone_walk W n0.toNat n0.toNat_lt _ l1 w1 n2.toNat n2.toNat_lt).mono fun e W' ⟨he, bel⟩ => ?_
  subst he
  exact ⟨_, rfl, _, _, _, [], _, [], hW', trodAll_mk1 (shut_bool Try.underlying4 _), (trodAll_cons_mk (shut_int Try.underlying22 w0) (trodAll_cons_mk (Below.trod laidOut (by kernel_rfl) (of_decide_eq_true (by kernel_rfl)) k1 bel lt1) (trodAll_cons_mk (shut_int Try.underlying22 w2) trodAll_mk0))), rfl, bel.frame _, fun h => by cases h⟩

theorem over : Rows.epochsGoneRow.holds Try.pinned (OpenSpec.ofChange Rows.epochsGoneSpec) :=
  OpenClaim.holds_of_wide 3 Try.f3 rfl rfl rfl rfl rfl rfl rfl ⟨rfl, rfl, rfl, rfl, rfl⟩ rfl rfl rfl rfl rfl (by kernel_rfl) Try.func3 (by kernel_rfl)
    (of_decide_eq_true (by kernel_rfl)) (by unfold Func.isWrapper; first | (rw [if_pos (by decide +kernel)]; kernel_rfl) | (rw [if_neg (by decide +kernel)]; exact ⟨rfl, rfl⟩))
    (fun os started H enc _ => lifted os started H enc)

theorem proved : Rows.EpochsGoneSaid := over
#print axioms proved
end Go.Proofs.Ythipdfmaaeoijaa.epochsGone
end
