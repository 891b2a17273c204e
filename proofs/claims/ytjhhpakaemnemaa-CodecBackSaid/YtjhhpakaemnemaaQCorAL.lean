/-
  Texts that belong together, merged: CodT, CodG. Conditions: as each theorem names them.
-/
import Derived.Test.YtjhhpakaemnemaaQCorAK
import Derived.Test.YtjhhpakaemnemaaQCorAH
import Derived.Test.YtjhhpakaemnemaaQCorAJ
section
namespace Go.Proofs.Ytjhhpakaemnemaa
open Go.RowKit
set_option linter.unusedVariables false
set_option maxRecDepth 20000

theorem St.key_len (s : St) : s.key.length = 32 := by
  unfold St.key
  split
  · assumption
  · exact zeroKey_length
theorem St.keys_le (s : St) (m : Int) : (s.keys m).length ≤ 100 := by
  have h1 := s.cnt_le (min m 100) (by omega)
  have h2 := (s.cntS (min m 100)).take_mul (s.cnt (min m 100))
  unfold St.keys
  rw [cut32_range, List.length_map, List.length_range]
  have h3 : (s.keyB m).length / 32 ≤ s.cnt (min m 100) := h2.2
  omega
theorem keys_next (B : List UInt8) (j : Nat) : (List.range (j + 1)).map (keyAt B) = (List.range j).map (keyAt B) ++ [keyAt B j] := by
  rw [List.range_succ, List.map_append]; rfl
set_option maxHeartbeats 4000000 in
theorem riKeysIn (w : World) (r : Nat) (bv : Value) (b : List UInt8) (s : St) (m : Int) (hbl : b.length ≤ 1000000000) (h : RiAt w r bv b s) :
    Calls Try.prog 27 #[.pointer (some ⟨r, 0, none⟩), .int .i64 m] w fun e w' => ∃ v, e = .returned v ∧ (Kl w' v (s.keys m) ∧ KyAt w' v ∧ ∀ k, v.ownBlock = some k → w.heap.size ≤ k) ∧ RiAt w' r bv b (s.keyS m) ∧ w.grownBy w' (some r) := by
  have HH := Lib.hid h
  have HN := Lib.hid (fun w h => riNumber_any w r bv b s 2 hbl h)
  obtain ⟨t1, t2⟩ := cap_take s m 100 32
  have hlt := s.num_lt
  obtain ⟨N, hN⟩ : ∃ N, N = s.num 2 := ⟨_, rfl⟩
  obtain ⟨S, hS⟩ : ∃ S, S = s.numS 2 := ⟨_, rfl⟩
  have hw : IntKind.i64.wrap (N : Int) = (N : Int) := IntWalk.i64_in _ (by omega)
  have hw32 : IntKind.i64.wrap (32 * (N : Int)) = ((32 * N : Nat) : Int) := by rw [IntWalk.i64_in _ (by omega)]; omega
  have hcap : s.cap m 100 = if (N : Int) > m ∨ (N : Int) > 100 then S.fail 2 else S := by rw [hN, hS]; rfl
  obtain ⟨C, hC⟩ : ∃ C, C = s.cap m 100 := ⟨_, rfl⟩
  have HT := Lib.hid (fun w h => riTake_any w r bv b C (32 * N) (by omega) hbl h)
  have HF := Lib.hid (fun w h => riFail_any w r bv b S 2 (by decide) h)
  rw [← hC] at t1 t2 hcap
  rw [← hN] at t1 t2 HN
  rw [← hS] at HN
  have hmul := (s.cntS (min m 100)).take_mul (s.cnt (min m 100))
  obtain ⟨B, hB⟩ : ∃ B, B = C.take (32 * N) := ⟨_, rfl⟩
  obtain ⟨S2, hS2⟩ : ∃ S2, S2 = C.rest (32 * N) := ⟨_, rfl⟩
  rw [← hB] at t1 HT
  rw [← hS2] at t2 HT
  rw [← t1] at hmul
  obtain ⟨n, hn⟩ : ∃ n, n = B.length / 32 := ⟨_, rfl⟩
  rw [← hn] at hmul
  have HBL : Hid (B.length = 32 * n) := hmul.1
  have hn100 : n ≤ 100 := by have := s.cnt_le (min m 100) (by omega); omega
  have H1 : Hid (s.keys m = (List.range n).map (keyAt B)) := by
    show _ = _
    rw [← cut32_range, hn, t1]
    rfl
  have H2 : Hid (s.keyS m = S2) := t2.symm
  have HK32 : Hid (∀ j, j < n → (keyAt B j).length = 32) := fun j hj => by
    unfold keyAt
    rw [List.length_take, List.length_drop, hmul.1]
    omega
  clear h t1 t2 hN hS hC hlt hB hS2 hn hmul
  -- CASES
  by_cases hm : m < (N : Int)
  · have hCF : C = S.fail 2 := by rw [hcap, if_pos (.inl hm)]
    subst hCF
    clear hcap
    go_enter Try.func27, Try.ntmps27
    go_wp2_with fail
    refine (HN.out _ HH.out).mono ?_
    intro e w1 hh
    obtain ⟨he, hi, hg⟩ := hh
    subst he
    have I1 := Lib.hid hi
    have G1 := Lib.hid hg
    clear hi hg
    go_wp2_with fail
    refine (HF.out _ I1.out).mono ?_
    intro e w2 hh
    obtain ⟨he, hi, hg⟩ := hh
    subst he
    have I2 := Lib.hid hi
    have G2 := Lib.hid (G1.out.trans hg)
    clear hi hg
    go_wp2_with fail
    refine (HT.out _ I2.out).mono ?_
    intro e w3 hh
    obtain ⟨v, he, hv, hi, hg⟩ := hh
    subst he
    have I3 := Lib.hid hi
    have G3 := Lib.hid (G2.out.trans hg)
    have V3 := Lib.hid hv
    obtain ⟨A, c, rfl, k1, k2, _⟩ := hv
    rw [HBL.out] at k1
    unfold maxLen at k2
    have V3' : Hid (Bs w3 (.slice A (32 * n) c) B) := by have := V3.out; rw [HBL.out] at this; exact this
    rw [HBL.out]
    clear hi hg HN HT HH V3 HF I1 G1 I2 G2
    go_wp2_with fail
    go_loopw [7, 8] (fun v i wr => ∃ j p : Nat, p = 32 * j ∧ j ≤ n ∧ i = .int .i64 (p : Int) ∧ wr.ownsRow w3.heap.size 52 32 v j (cellsB ((List.range j).map (keyAt B)).flatten) ∧ Below w3.heap.size w3 wr) (fun _ i _ => 32 * n - (intOf i).toNat)
    case atStart => exact ⟨0, 0, rfl, by omega, rfl, World.ownsRow_nil _ _ _ _, Below.refl _ _⟩
    case round =>
      obtain ⟨j, p, hp, hj, rfl, hO, hE⟩ := hrel
      have HO := Lib.hid hO
      have HB := Lib.hid hE
      obtain ⟨VA, vn, vc, rfl⟩ : ∃ VA vn vc, u7 = .slice VA vn vc := by
        rcases hO.2 with ⟨rfl, _⟩ | ⟨g, cap, cur, rfl, _⟩ <;> exact ⟨_, _, _, rfl⟩
      clear hO hE
      have hw1 : IntKind.i64.wrap ((p : Int) + 32) = (p : Int) + 32 := IntWalk.i64_in _ (by omega)
      have HP := Lib.hid hp
      by_cases hlt : j < n
      · have hq : (p : Int) + 32 ≤ 32 * (n : Int) := by omega
        have hb0 : (0 : Int) ≤ (p : Int) := by omega
        have hb1 : (p : Int) ≤ (p : Int) + 32 := by omega
        have hb2 : (p : Int) + 32 ≤ (c : Int) := by omega
        have hb3 : (0 : Int) ≤ (p : Int) + 32 := by omega
        have hb4 : ((p : Int) + 32).toNat = p + 32 := by omega
        have hb5 : p + 32 - p = 32 := by omega
        have L32 := Lib.hid (HK32.out j hlt)
        have hct := (V3'.out.cut p (by rw [HBL.out]; omega)).fore 32 (by rw [List.length_drop, HBL.out]; omega)
        rw [if_neg (by omega), hp, ← keyAt, ← hp] at hct
        have HCT := Lib.hid hct
        obtain ⟨kx, hkx⟩ : ∃ kx, kx = keyAt B j := ⟨_, rfl⟩
        have HNX : Hid ((List.range (j + 1)).map (keyAt B) = (List.range j).map (keyAt B) ++ [kx]) := by show _ = _; rw [keys_next, hkx]
        rw [← hkx] at HCT L32
        obtain ⟨ks, hks⟩ : ∃ ks, ks = (List.range j).map (keyAt B) := ⟨_, rfl⟩
        have hkl : j = ks.length := by rw [hks]; simp
        have HKL := Lib.hid hkl
        have hk100 : ks.length ≤ 1000 := by omega
        rw [← hks] at HNX HO
        clear hct hkx hp hks hkl
        go_wp2_with fail
        refine (refToKey_full _ _ _ (HCT.out.below HB.out) L32.out).mono ?_
        intro e w4 hh
        obtain ⟨he, b4⟩ := hh
        subst he
        have B4 := Lib.hid (below_size HB.out b4)
        have O4 := Lib.hid (owned_far (row := none) HO.out (grown_of_below b4) (fun r e => by cases e))
        clear b4 HB HO
        go_wp2_with (first
          | ((with_reducible refine wpList_alloc_row (o := ⟨some 9, _, _, _, _, _⟩) rfl 52 rfl (keyC zeroKey) Try.zeroK ?_); intro g9 w5 n5)
          | ((with_reducible refine wpList_store_row (o := ⟨none, _, _, _, _, _⟩) rfl 52 (.tmp 9) (.tmp 41) rfl g9 52 (keyC zeroKey) (keyC kx) (by with_unfolding_all rfl) (by with_unfolding_all rfl) n5.row (keyC_same zeroKey_length L32.out) (Try.sizeKey _ L32.out) (keyC_one _) ?_); intro w6 p6; have hb6 : Below w4.heap.size w4 w6 := p6.below n5.below n5.below.size (by rw [n5.spot]; exact Nat.le_refl _); have B6 := Lib.hid (below_size B4.out hb6); have O6 := Lib.hid (owned_far (row := none) O4.out (grown_of_below hb6) (fun r e => by cases e)))
          | (with_reducible refine wpList_load_row (o := ⟨some 44, _, _, _, _, _⟩) rfl 52 (.tmp 9) rfl g9 (by with_unfolding_all rfl) 52 (keyC kx) (0, 0) (.array 32 5) (by with_unfolding_all exact p6.row) Try.underlying52 rfl (Try.sizeKey kx L32.out) ?_)
          | ((with_reducible refine wpList_oneKey (o := ⟨some 45, _, _, _, _, _⟩) rfl (.tmp 44) rfl kx L32.out (by with_unfolding_all rfl) ?_); intro g7 w7 r7 b7; have B7 := Lib.hid (below_size B6.out b7); have O7 := Lib.hid (owned_far (row := none) O6.out (grown_of_below b7) (fun r e => by cases e)))
          | ((with_reducible refine wpList_appKeyO (w0 := w3) (o := ⟨some 46, _, _, _, _, _⟩) rfl (.tmp 43) (.tmp 45) rfl (.slice VA vn vc) ks kx j g7 (by with_unfolding_all rfl) (by with_unfolding_all rfl) r7 L32.out HKL.out hk100 O7.out B7.out ?_); intro v8 w8 o8 b8))
        refine ⟨⟨j + 1, p + 32, by have := HP.out; omega, by omega, by congr 1, by rw [HNX.out]; exact o8, b8⟩, ?_⟩
        show 32 * n - ((p : Int) + 32).toNat < 32 * n - (p : Int).toNat
        omega
      · obtain rfl : j = n := by omega
        have hq : ¬ ((p : Int) + 32 ≤ 32 * (j : Int)) := by omega
        clear hlt hp
        go_wp2_with fail
        go_ret
        refine ⟨_, rfl, ⟨?_, fun k hk => ?_, fun k hk => Nat.le_trans G3.out.size (World.ownsRow.lt HO.out k hk).1⟩, by rw [H2.out]; exact I3.out.kept HB.out, G3.out.trans (grown_any HB.out (some r))⟩
        rotate_left
        · rcases HO.out.2 with ⟨e0, _⟩ | ⟨g, cap, cur, e0, _, hc, _⟩
          · rw [e0] at hk; cases hk
          · rw [e0] at hk
            obtain rfl : g = k := by simpa [Value.ownBlock] using hk
            exact ⟨cur, hc⟩
        rw [H1.out]
        exact Kl.of_own (ks := (List.range j).map (keyAt B)) (by rw [List.length_map, List.length_range]; exact HO.out) (fun l hl => by
          obtain ⟨x, hx, rfl⟩ := List.mem_map.1 hl
          exact HK32.out x (List.mem_range.1 hx))
  · by_cases hk : (100 : Int) < (N : Int)
    · have hCF : C = S.fail 2 := by rw [hcap, if_pos (.inr hk)]
      subst hCF
      clear hcap
      go_enter Try.func27, Try.ntmps27
      go_wp2_with fail
      refine (HN.out _ HH.out).mono ?_
      intro e w1 hh
      obtain ⟨he, hi, hg⟩ := hh
      subst he
      have I1 := Lib.hid hi
      have G1 := Lib.hid hg
      clear hi hg
      go_wp2_with fail
      refine (HF.out _ I1.out).mono ?_
      intro e w2 hh
      obtain ⟨he, hi, hg⟩ := hh
      subst he
      have I2 := Lib.hid hi
      have G2 := Lib.hid (G1.out.trans hg)
      clear hi hg
      go_wp2_with fail
      refine (HT.out _ I2.out).mono ?_
      intro e w3 hh
      obtain ⟨v, he, hv, hi, hg⟩ := hh
      subst he
      have I3 := Lib.hid hi
      have G3 := Lib.hid (G2.out.trans hg)
      have V3 := Lib.hid hv
      obtain ⟨A, c, rfl, k1, k2, _⟩ := hv
      rw [HBL.out] at k1
      unfold maxLen at k2
      have V3' : Hid (Bs w3 (.slice A (32 * n) c) B) := by have := V3.out; rw [HBL.out] at this; exact this
      rw [HBL.out]
      clear hi hg HN HT HH V3 HF I1 G1 I2 G2
      go_wp2_with fail
      go_loopw [7, 8] (fun v i wr => ∃ j p : Nat, p = 32 * j ∧ j ≤ n ∧ i = .int .i64 (p : Int) ∧ wr.ownsRow w3.heap.size 52 32 v j (cellsB ((List.range j).map (keyAt B)).flatten) ∧ Below w3.heap.size w3 wr) (fun _ i _ => 32 * n - (intOf i).toNat)
      case atStart => exact ⟨0, 0, rfl, by omega, rfl, World.ownsRow_nil _ _ _ _, Below.refl _ _⟩
      case round =>
        obtain ⟨j, p, hp, hj, rfl, hO, hE⟩ := hrel
        have HO := Lib.hid hO
        have HB := Lib.hid hE
        obtain ⟨VA, vn, vc, rfl⟩ : ∃ VA vn vc, u7 = .slice VA vn vc := by
          rcases hO.2 with ⟨rfl, _⟩ | ⟨g, cap, cur, rfl, _⟩ <;> exact ⟨_, _, _, rfl⟩
        clear hO hE
        have hw1 : IntKind.i64.wrap ((p : Int) + 32) = (p : Int) + 32 := IntWalk.i64_in _ (by omega)
        have HP := Lib.hid hp
        by_cases hlt : j < n
        · have hq : (p : Int) + 32 ≤ 32 * (n : Int) := by omega
          have hb0 : (0 : Int) ≤ (p : Int) := by omega
          have hb1 : (p : Int) ≤ (p : Int) + 32 := by omega
          have hb2 : (p : Int) + 32 ≤ (c : Int) := by omega
          have hb3 : (0 : Int) ≤ (p : Int) + 32 := by omega
          have hb4 : ((p : Int) + 32).toNat = p + 32 := by omega
          have hb5 : p + 32 - p = 32 := by omega
          have L32 := Lib.hid (HK32.out j hlt)
          have hct := (V3'.out.cut p (by rw [HBL.out]; omega)).fore 32 (by rw [List.length_drop, HBL.out]; omega)
          rw [if_neg (by omega), hp, ← keyAt, ← hp] at hct
          have HCT := Lib.hid hct
          obtain ⟨kx, hkx⟩ : ∃ kx, kx = keyAt B j := ⟨_, rfl⟩
          have HNX : Hid ((List.range (j + 1)).map (keyAt B) = (List.range j).map (keyAt B) ++ [kx]) := by show _ = _; rw [keys_next, hkx]
          rw [← hkx] at HCT L32
          obtain ⟨ks, hks⟩ : ∃ ks, ks = (List.range j).map (keyAt B) := ⟨_, rfl⟩
          have hkl : j = ks.length := by rw [hks]; simp
          have HKL := Lib.hid hkl
          have hk100 : ks.length ≤ 1000 := by omega
          rw [← hks] at HNX HO
          clear hct hkx hp hks hkl
          go_wp2_with fail
          refine (refToKey_full _ _ _ (HCT.out.below HB.out) L32.out).mono ?_
          intro e w4 hh
          obtain ⟨he, b4⟩ := hh
          subst he
          have B4 := Lib.hid (below_size HB.out b4)
          have O4 := Lib.hid (owned_far (row := none) HO.out (grown_of_below b4) (fun r e => by cases e))
          clear b4 HB HO
          go_wp2_with (first
            | ((with_reducible refine wpList_alloc_row (o := ⟨some 9, _, _, _, _, _⟩) rfl 52 rfl (keyC zeroKey) Try.zeroK ?_); intro g9 w5 n5)
            | ((with_reducible refine wpList_store_row (o := ⟨none, _, _, _, _, _⟩) rfl 52 (.tmp 9) (.tmp 41) rfl g9 52 (keyC zeroKey) (keyC kx) (by with_unfolding_all rfl) (by with_unfolding_all rfl) n5.row (keyC_same zeroKey_length L32.out) (Try.sizeKey _ L32.out) (keyC_one _) ?_); intro w6 p6; have hb6 : Below w4.heap.size w4 w6 := p6.below n5.below n5.below.size (by rw [n5.spot]; exact Nat.le_refl _); have B6 := Lib.hid (below_size B4.out hb6); have O6 := Lib.hid (owned_far (row := none) O4.out (grown_of_below hb6) (fun r e => by cases e)))
            | (with_reducible refine wpList_load_row (o := ⟨some 44, _, _, _, _, _⟩) rfl 52 (.tmp 9) rfl g9 (by with_unfolding_all rfl) 52 (keyC kx) (0, 0) (.array 32 5) (by with_unfolding_all exact p6.row) Try.underlying52 rfl (Try.sizeKey kx L32.out) ?_)
            | ((with_reducible refine wpList_oneKey (o := ⟨some 45, _, _, _, _, _⟩) rfl (.tmp 44) rfl kx L32.out (by with_unfolding_all rfl) ?_); intro g7 w7 r7 b7; have B7 := Lib.hid (below_size B6.out b7); have O7 := Lib.hid (owned_far (row := none) O6.out (grown_of_below b7) (fun r e => by cases e)))
            | ((with_reducible refine wpList_appKeyO (w0 := w3) (o := ⟨some 46, _, _, _, _, _⟩) rfl (.tmp 43) (.tmp 45) rfl (.slice VA vn vc) ks kx j g7 (by with_unfolding_all rfl) (by with_unfolding_all rfl) r7 L32.out HKL.out hk100 O7.out B7.out ?_); intro v8 w8 o8 b8))
          refine ⟨⟨j + 1, p + 32, by have := HP.out; omega, by omega, by congr 1, by rw [HNX.out]; exact o8, b8⟩, ?_⟩
          show 32 * n - ((p : Int) + 32).toNat < 32 * n - (p : Int).toNat
          omega
        · obtain rfl : j = n := by omega
          have hq : ¬ ((p : Int) + 32 ≤ 32 * (j : Int)) := by omega
          clear hlt hp
          go_wp2_with fail
          go_ret
          refine ⟨_, rfl, ⟨?_, fun k hk => ?_, fun k hk => Nat.le_trans G3.out.size (World.ownsRow.lt HO.out k hk).1⟩, by rw [H2.out]; exact I3.out.kept HB.out, G3.out.trans (grown_any HB.out (some r))⟩
          rotate_left
          · rcases HO.out.2 with ⟨e0, _⟩ | ⟨g, cap, cur, e0, _, hc, _⟩
            · rw [e0] at hk; cases hk
            · rw [e0] at hk
              obtain rfl : g = k := by simpa [Value.ownBlock] using hk
              exact ⟨cur, hc⟩
          rw [H1.out]
          exact Kl.of_own (ks := (List.range j).map (keyAt B)) (by rw [List.length_map, List.length_range]; exact HO.out) (fun l hl => by
            obtain ⟨x, hx, rfl⟩ := List.mem_map.1 hl
            exact HK32.out x (List.mem_range.1 hx))
    · have hCF : C = S := by rw [hcap, if_neg (by omega)]
      subst hCF
      clear hcap HF
      go_enter Try.func27, Try.ntmps27
      go_wp2_with fail
      refine (HN.out _ HH.out).mono ?_
      intro e w1 hh
      obtain ⟨he, hi, hg⟩ := hh
      subst he
      have I1 := Lib.hid hi
      have G1 := Lib.hid hg
      clear hi hg
      go_wp2_with fail
      refine (HT.out _ I1.out).mono ?_
      intro e w3 hh
      obtain ⟨v, he, hv, hi, hg⟩ := hh
      subst he
      have I3 := Lib.hid hi
      have G3 := Lib.hid (G1.out.trans hg)
      have V3 := Lib.hid hv
      obtain ⟨A, c, rfl, k1, k2, _⟩ := hv
      rw [HBL.out] at k1
      unfold maxLen at k2
      have V3' : Hid (Bs w3 (.slice A (32 * n) c) B) := by have := V3.out; rw [HBL.out] at this; exact this
      rw [HBL.out]
      clear hi hg HN HT HH V3 I1 G1
      go_wp2_with fail
      go_loopw [7, 8] (fun v i wr => ∃ j p : Nat, p = 32 * j ∧ j ≤ n ∧ i = .int .i64 (p : Int) ∧ wr.ownsRow w3.heap.size 52 32 v j (cellsB ((List.range j).map (keyAt B)).flatten) ∧ Below w3.heap.size w3 wr) (fun _ i _ => 32 * n - (intOf i).toNat)
      case atStart => exact ⟨0, 0, rfl, by omega, rfl, World.ownsRow_nil _ _ _ _, Below.refl _ _⟩
      case round =>
        obtain ⟨j, p, hp, hj, rfl, hO, hE⟩ := hrel
        have HO := Lib.hid hO
        have HB := Lib.hid hE
        obtain ⟨VA, vn, vc, rfl⟩ : ∃ VA vn vc, u7 = .slice VA vn vc := by
          rcases hO.2 with ⟨rfl, _⟩ | ⟨g, cap, cur, rfl, _⟩ <;> exact ⟨_, _, _, rfl⟩
        clear hO hE
        have hw1 : IntKind.i64.wrap ((p : Int) + 32) = (p : Int) + 32 := IntWalk.i64_in _ (by omega)
        have HP := Lib.hid hp
        by_cases hlt : j < n
        · have hq : (p : Int) + 32 ≤ 32 * (n : Int) := by omega
          have hb0 : (0 : Int) ≤ (p : Int) := by omega
          have hb1 : (p : Int) ≤ (p : Int) + 32 := by omega
          have hb2 : (p : Int) + 32 ≤ (c : Int) := by omega
          have hb3 : (0 : Int) ≤ (p : Int) + 32 := by omega
          have hb4 : ((p : Int) + 32).toNat = p + 32 := by omega
          have hb5 : p + 32 - p = 32 := by omega
          have L32 := Lib.hid (HK32.out j hlt)
          have hct := (V3'.out.cut p (by rw [HBL.out]; omega)).fore 32 (by rw [List.length_drop, HBL.out]; omega)
          rw [if_neg (by omega), hp, ← keyAt, ← hp] at hct
          have HCT := Lib.hid hct
          obtain ⟨kx, hkx⟩ : ∃ kx, kx = keyAt B j := ⟨_, rfl⟩
          have HNX : Hid ((List.range (j + 1)).map (keyAt B) = (List.range j).map (keyAt B) ++ [kx]) := by show _ = _; rw [keys_next, hkx]
          rw [← hkx] at HCT L32
          obtain ⟨ks, hks⟩ : ∃ ks, ks = (List.range j).map (keyAt B) := ⟨_, rfl⟩
          have hkl : j = ks.length := by rw [hks]; simp
          have HKL := Lib.hid hkl
          have hk100 : ks.length ≤ 1000 := by omega
          rw [← hks] at HNX HO
          clear hct hkx hp hks hkl
          go_wp2_with fail
          refine (refToKey_full _ _ _ (HCT.out.below HB.out) L32.out).mono ?_
          intro e w4 hh
          obtain ⟨he, b4⟩ := hh
          subst he
          have B4 := Lib.hid (below_size HB.out b4)
          have O4 := Lib.hid (owned_far (row := none) HO.out (grown_of_below b4) (fun r e => by cases e))
          clear b4 HB HO
          go_wp2_with (first
            | ((with_reducible refine wpList_alloc_row (o := ⟨some 9, _, _, _, _, _⟩) rfl 52 rfl (keyC zeroKey) Try.zeroK ?_); intro g9 w5 n5)
            | ((with_reducible refine wpList_store_row (o := ⟨none, _, _, _, _, _⟩) rfl 52 (.tmp 9) (.tmp 41) rfl g9 52 (keyC zeroKey) (keyC kx) (by with_unfolding_all rfl) (by with_unfolding_all rfl) n5.row (keyC_same zeroKey_length L32.out) (Try.sizeKey _ L32.out) (keyC_one _) ?_); intro w6 p6; have hb6 : Below w4.heap.size w4 w6 := p6.below n5.below n5.below.size (by rw [n5.spot]; exact Nat.le_refl _); have B6 := Lib.hid (below_size B4.out hb6); have O6 := Lib.hid (owned_far (row := none) O4.out (grown_of_below hb6) (fun r e => by cases e)))
            | (with_reducible refine wpList_load_row (o := ⟨some 44, _, _, _, _, _⟩) rfl 52 (.tmp 9) rfl g9 (by with_unfolding_all rfl) 52 (keyC kx) (0, 0) (.array 32 5) (by with_unfolding_all exact p6.row) Try.underlying52 rfl (Try.sizeKey kx L32.out) ?_)
            | ((with_reducible refine wpList_oneKey (o := ⟨some 45, _, _, _, _, _⟩) rfl (.tmp 44) rfl kx L32.out (by with_unfolding_all rfl) ?_); intro g7 w7 r7 b7; have B7 := Lib.hid (below_size B6.out b7); have O7 := Lib.hid (owned_far (row := none) O6.out (grown_of_below b7) (fun r e => by cases e)))
            | ((with_reducible refine wpList_appKeyO (w0 := w3) (o := ⟨some 46, _, _, _, _, _⟩) rfl (.tmp 43) (.tmp 45) rfl (.slice VA vn vc) ks kx j g7 (by with_unfolding_all rfl) (by with_unfolding_all rfl) r7 L32.out HKL.out hk100 O7.out B7.out ?_); intro v8 w8 o8 b8))
          refine ⟨⟨j + 1, p + 32, by have := HP.out; omega, by omega, by congr 1, by rw [HNX.out]; exact o8, b8⟩, ?_⟩
          show 32 * n - ((p : Int) + 32).toNat < 32 * n - (p : Int).toNat
          omega
        · obtain rfl : j = n := by omega
          have hq : ¬ ((p : Int) + 32 ≤ 32 * (j : Int)) := by omega
          clear hlt hp
          go_wp2_with fail
          go_ret
          refine ⟨_, rfl, ⟨?_, fun k hk => ?_, fun k hk => Nat.le_trans G3.out.size (World.ownsRow.lt HO.out k hk).1⟩, by rw [H2.out]; exact I3.out.kept HB.out, G3.out.trans (grown_any HB.out (some r))⟩
          rotate_left
          · rcases HO.out.2 with ⟨e0, _⟩ | ⟨g, cap, cur, e0, _, hc, _⟩
            · rw [e0] at hk; cases hk
            · rw [e0] at hk
              obtain rfl : g = k := by simpa [Value.ownBlock] using hk
              exact ⟨cur, hc⟩
          rw [H1.out]
          exact Kl.of_own (ks := (List.range j).map (keyAt B)) (by rw [List.length_map, List.length_range]; exact HO.out) (fun l hl => by
            obtain ⟨x, hx, rfl⟩ := List.mem_map.1 hl
            exact HK32.out x (List.mem_range.1 hx))
theorem riKeys_any (w : World) (r : Nat) (bv : Value) (b : List UInt8) (s : St) (m : Int) (hbl : b.length ≤ 1000000000) (h : RiAt w r bv b s) :
    Calls Try.prog 27 #[.pointer (some ⟨r, 0, none⟩), .int .i64 m] w fun e w' => ∃ v, e = .returned v ∧ Kl w' v (s.keys m) ∧ RiAt w' r bv b (s.keyS m) ∧ w.grownBy w' (some r) :=
  (riKeysIn w r bv b s m hbl h).mono fun _ _ ⟨v, h1, h2, h3⟩ => ⟨v, h1, h2.1, h3⟩
end Go.Proofs.Ytjhhpakaemnemaa
end
section
namespace Go.Proofs.Ytjhhpakaemnemaa
open Go.RowKit
set_option linter.unusedVariables false
set_option maxRecDepth 20000

/-- An item that the document's Decode has made: its bytes lie in the argument, its keys in a row of the call's own. -/
def ItR (r : Nat) (w : World) (bv lv : Value) (x : It) : Prop := Bs w bv x.b ∧ (0 < x.b.length → ∀ k, bv.ownBlock = some k → k < r) ∧ Kl w lv x.l ∧ KyAt w lv
theorem ItR.below {r : Nat} {w w' : World} {bv lv : Value} {x : It} (h : ItR r w bv lv x) (hb : Below w.heap.size w w') : ItR r w' bv lv x := ⟨h.1.below hb, h.2.1, h.2.2.1.below hb, h.2.2.2.below hb⟩
theorem ItR.far {r : Nat} {w w' : World} {bv lv : Value} {x : It} {row : Option Nat} (h : ItR r w bv lv x) (hg : w.grownBy w' row) (hr : ∀ g, row = some g → r ≤ g ∧ ∃ t cs, RowAt w g t cs ∧ t ≠ 52) : ItR r w' bv lv x := by
  obtain ⟨h1, h2, h3, h4⟩ := h
  have a2 : lv.ownBlock ≠ row ∨ row = none := by
    rcases hrow : row with _ | g
    · exact .inr rfl
    · obtain ⟨_, t, cs, hr1, hr3⟩ := hr g hrow
      exact .inl (h4.other hr1 hr3)
  refine ⟨?_, h2, h3.grown2 hg a2, h4.grown hg a2⟩
  by_cases hl : 0 < x.b.length
  · rcases hrow : row with _ | g
    · rw [hrow] at hg
      exact h1.below ⟨hg.os, hg.tape, hg.output, hg.size, fun k hk => hg.block k hk (by simp)⟩
    · rw [hrow] at hg
      refine h1.farOf (fun e => ?_) hg
      have := h2 hl g e
      have := (hr g hrow).1
      omega
  · obtain ⟨A, c, q1, q2, q3, _⟩ := h1
    exact ⟨A, c, q1, q2, q3, fun h => absurd h hl⟩
def zeroItR : Array Value := #[.int .i64 0, .int .u64 0, .slice none 0 0, .slice none 0 0]
theorem Try.zeroItRow : (Try.prog.info? 61).map (·.zero) = some (some (.agg zeroItR)) := by kernel_rfl
theorem Try.sizeItR : (Try.prog.info? 61).map (·.size) = some 4 := by kernel_rfl
theorem wpList_appItemO {w0 w : World} {ops : Array Oper} {rest : List Oper} {o : Oper} {a : Act} {Q : Exit → Act → World → Prop} (hgd : o.guard = none) (s x : Operand)
    (ho : o.op = .call { callee := .builtin .append, args := #[s, x], argTypes := #[30, 30] })
    (v : Value) (xs cs : List Value) (n b : Nat) (hs : a.eval s = v) (hx : a.eval x = .slice (some ⟨b, 0, none⟩) 1 1) (hrow : RowAt w b 61 cs.toArray) (hl : cs.length = 4) (h1 : ∀ u ∈ cs, u.oneCell' = true) (hlen : n ≤ 1000)
    (hown : w.ownsRow w0.heap.size 61 4 v n xs) (hb : w0.heap.size ≤ w.heap.size)
    (h : ∀ v' w', w'.ownsRow w0.heap.size 61 4 v' (n + 1) (xs ++ cs) → w.grownBy w' v.ownBlock → wpList Try.prog ops Q rest (a.put o.dst v') w') : wpList Try.prog ops Q (o :: rest) a w := by
  refine wpList_plain hgd fun _ hK => ?_
  obtain ⟨i0, hi0, hz0, hz1, hz2⟩ := info_parts Try.infoItemR
  refine wp_append_own w s x 30 ho w0.heap.size 61 i0 (.agg #[.int .i64 0, .int .u64 0, .slice none 0 0, .slice none 0 0]) 4 64 Try.underlying30 hi0 hz0 hz1 hz2 rfl (by decide) v n xs hs hown ⟨b, 0, none⟩ 1 1 cs hx (by rw [hl]) (fun j y hj => ?_) h1 (by unfold maxLen; omega) (by omega) hb fun v2 W2 ho2 hg2 _ => ?_
  · have hadd : (⟨b, 0, none⟩ : Addr).add j = ⟨b, j, none⟩ := by unfold Addr.add; split <;> simp_all
    rw [hadd, hrow.cell j]
    simpa using hj
  · exact hK _ _ (h v2 W2 ho2 hg2)

theorem byt_nil (s : St) (m : Int) (h : s.e ≠ 0 ∨ s.l = []) : s.byt m = [] := by
  have h2 : (s.numS 2).e ≠ 0 := by
    have e2 : s.numS 2 = s.rest 2 := by unfold St.numS; rw [if_pos (by decide)]; rfl
    rw [e2]
    by_cases he : s.e = 0
    · rcases h with h | h
      · exact absurd he h
      · rw [(take_no s 2 he (by rw [h]; decide)).2]
        show (3 : Int) ≠ 0
        decide
    · rw [(take_err s 2 he).2]; exact he
  have h3 : (s.cntS (min m 4000)).e ≠ 0 := by
    unfold St.cntS
    split
    · exact fail_ne _ 2 (by decide)
    · exact h2
  exact (take_err _ _ h3).1
theorem byt_pos {w : World} {r : Nat} {bv : Value} {b : List UInt8} {s : St} {m : Int} (h : RiAt w r bv b s) (hp : 0 < (s.byt m).length) : 0 < b.length := by
  rcases Nat.eq_zero_or_pos b.length with h0 | h0
  · exfalso
    have e : s.byt m = [] := byt_nil s m (by
      by_cases he : s.e = 0
      · obtain ⟨_, a, _, _, h3⟩ := h
        right
        rw [h3 he, List.length_eq_zero_iff.1 h0, List.drop_nil]
      · exact .inl he)
    rw [e] at hp
    exact absurd hp (by decide)
  · exact h0
theorem fresh_one (z : Int) : ∀ u ∈ (#[.int .i64 z, .int .u64 0, .slice none 0 0, .slice none 0 0] : Array Value).toList, u.oneCell' = true := by
  intro q hq
  simp at hq
  rcases hq with rfl | rfl | rfl <;> rfl
theorem RowAt.put4b {w : World} {i : Nat} {t : TypeId} {x y z u : Value} (h : RowAt w i t #[x, y, z, u]) (a : Value) : RowAt (w.setCell ⟨i, 1, none⟩ a) i t #[x, a, z, u] := h.put 1 a
theorem RowAt.put4c {w : World} {i : Nat} {t : TypeId} {x y z u : Value} (h : RowAt w i t #[x, y, z, u]) (a : Value) : RowAt (w.setCell ⟨i, 2, none⟩ a) i t #[x, y, a, u] := h.put 2 a
theorem RowAt.put4d {w : World} {i : Nat} {t : TypeId} {x y z u : Value} (h : RowAt w i t #[x, y, z, u]) (a : Value) : RowAt (w.setCell ⟨i, 3, none⟩ a) i t #[x, y, z, a] := h.put 3 a
theorem RiAt.past {w w' : World} {r : Nat} {bv : Value} {b : List UInt8} {s : St} {row : Option Nat} (h : RiAt w r bv b s) (hg : w.grownBy w' row) (hlr : 0 < b.length → ∀ k, bv.ownBlock = some k → k < r) (hr : ∀ g, row = some g → r < g) : RiAt w' r bv b s := by
  obtain ⟨h0, a, h1, h2, h3⟩ := h
  refine ⟨?_, a, h1.grown hg (fun e => by have := hr r e.symm; omega), h2, h3⟩
  by_cases hl : 0 < b.length
  · rcases hrow : row with _ | g
    · rw [hrow] at hg
      exact h0.below ⟨hg.os, hg.tape, hg.output, hg.size, fun k hk => hg.block k hk (by simp)⟩
    · rw [hrow] at hg
      refine h0.farOf (fun e => ?_) hg
      have := hlr hl g e
      have := hr g hrow
      omega
  · obtain ⟨A, c, q1, q2, q3, _⟩ := h0
    exact ⟨A, c, q1, q2, q3, fun h => absurd h hl⟩
/-- One item more. -/
theorem item_step {r : Nat} {w3 wr w5 w8 : World} {vv v8 : Value} {D : List It} {j : Nat} {bvs lvs : Nat → Value} {bv BV LV : Value} {b : List UInt8} {s s' : St} {x : It}
    (hr3 : r < w3.heap.size) (hlr : 0 < b.length → ∀ k, bv.ownBlock = some k → k < r) (HO : wr.ownsRow w3.heap.size 61 4 vv j (itsC D bvs lvs j)) (HOK : ∀ k, k < j → ItR r wr (bvs k) (lvs k) (D.getD k default))
    (HIN : RiAt wr r bv b s) (HG : w3.grownBy wr (some r)) (G5 : wr.grownBy w5 (some r)) (I5 : RiAt w5 r bv b s') (X5 : ItR r w5 BV LV x) (hx : D.getD j default = x)
    (o8 : w8.ownsRow w3.heap.size 61 4 v8 (j + 1) (itsC D bvs lvs j ++ itC x BV LV)) (g8 : w5.grownBy w8 vv.ownBlock) :
    ∃ bvs' lvs', w8.ownsRow w3.heap.size 61 4 v8 (j + 1) (itsC D bvs' lvs' (j + 1)) ∧ (∀ k, k < j + 1 → ItR r w8 (bvs' k) (lvs' k) (D.getD k default)) ∧ RiAt w8 r bv b s' ∧ w3.grownBy w8 (some r) := by
  have hlow : ∀ k, vv.ownBlock = some k → w3.heap.size ≤ k := fun k e => (World.ownsRow.lt HO k e).1
  have O5 := World.ownsRow.kept HO G5 (.inr fun e => by have := hlow r e; omega)
  have hty := own_typed O5
  have hfar : ∀ g, vv.ownBlock = some g → r ≤ g ∧ ∃ t cs, RowAt w5 g t cs ∧ t ≠ 52 := fun g e => by
    obtain ⟨cs, hcs⟩ := hty g e
    have := hlow g e
    exact ⟨by omega, _, _, hcs, by decide⟩
  refine ⟨fun k => if k = j then BV else bvs k, fun k => if k = j then LV else lvs k, ?_, fun k hk => ?_, I5.past g8 hlr (fun g e => by have := hlow g e; omega), grown_past (HG.trans G5) g8 hlow⟩
  · rw [itsC, hx]
    simp only [if_true]
    rw [← itsC_congr D bvs lvs (fun k => if k = j then BV else bvs k) (fun k => if k = j then LV else lvs k) j (fun k hk => ⟨by rw [if_neg (by omega)], by rw [if_neg (by omega)]⟩)]
    exact o8
  · by_cases hkj : k = j
    · simp only [hkj, if_true]
      rw [hx]
      exact X5.far g8 hfar
    · simp only [if_neg hkj]
      refine ((HOK k (by omega)).far G5 fun g e => ?_).far g8 hfar
      injection e with e
      subst e
      obtain ⟨_, a, h1, _⟩ := HIN
      exact ⟨Nat.le_refl _, _, _, h1, by decide⟩
theorem own_ne {w : World} {base n : Nat} {v : Value} {xs : List Value} (h : w.ownsRow base 61 4 v n xs) {r : Nat} (hr : r < base) : v.ownBlock ≠ some r := fun e => by
  have := (World.ownsRow.lt h r e).1
  omega

set_option maxHeartbeats 8000000 in
theorem refDecode_any (w : World) (v u : Value) (shape : List Int) (b : List UInt8) (hz : Zs w v shape) (hu : Bs w u b) (hn : shape.length ≤ 1000) (hbl : b.length ≤ 1000000000) :
    Calls Try.prog 16 #[v, u] w fun e w' => Below w.heap.size w w' ∧ DecRet w' shape b e := by
  have HU := Lib.hid hu
  have HLOW : Hid (0 < b.length → ∀ k, u.ownBlock = some k → k < w.heap.size) := fun h => hu.low h
  obtain ⟨UA, uc, rfl, _, _, _⟩ := hu
  obtain ⟨A, c, rfl, q1, q2, q3⟩ := hz
  have Q3 := Lib.hid q3
  have HK := Lib.hid (fun w z => refKind_any w z)
  unfold maxLen at q2
  obtain ⟨s0, hs0⟩ : ∃ s0 : St, s0 = ⟨b, 0⟩ := ⟨_, rfl⟩
  have HS0 := Lib.hid hs0
  have HDR : Hid (∀ w e, DecRet w shape b e = ((shape.any badK = true ∧ e = .returned (.tuple #[.slice none 0 0, .int .i64 51])) ∨ (shape.any badK = false ∧ (((decE shape s0).fin ≠ 0 ∧ e = .returned (.tuple #[.slice none 0 0, .int .i64 (decE shape s0).fin])) ∨ ((decE shape s0).fin = 0 ∧ ∃ v, e = .returned (.tuple #[v, .int .i64 0]) ∧ Its w v (decL shape s0)))))) := fun w e => by rw [hs0]; rfl
  obtain ⟨D, hD⟩ : ∃ D, D = decL shape s0 := ⟨_, rfl⟩
  have HDG : Hid (∀ (j : Nat) z, shape[j]? = some z → D[j]? = some ((decE (shape.take j) s0).rd z)) := fun j z h => by rw [hD]; exact decL_get shape s0 j z h
  have HDE : Hid (∀ (j : Nat) z, shape[j]? = some z → decE (shape.take (j + 1)) s0 = (decE (shape.take j) s0).rdS z) := fun j z h => decE_take shape s0 j z h
  have HDL : Hid (D.length = shape.length) := by show _ = _; rw [hD, decL_length]
  rw [← hD] at HDR
  clear hs0 hD q3
  obtain ⟨bv, hbv⟩ : ∃ bv, bv = Value.slice UA b.length uc := ⟨_, rfl⟩
  have HBV2 := Lib.hid hbv
  clear hbv
  go_enter Try.func16, Try.ntmps16
  go_wp2_with fail
  go_loopw [6] (fun i wr => ∃ j : Nat, j ≤ shape.length ∧ i = .int .i64 (j : Int) ∧ wr = w ∧ ∀ (k : Nat) z, k < j → shape[k]? = some z → badK z = false) (fun i _ => shape.length - (intOf i).toNat)
  case atStart => exact ⟨0, by omega, rfl, rfl, fun k x hk => by omega⟩
  case round =>
    obtain ⟨j, hj, rfl, hqq, hno⟩ := hrel
    have hqq' := hqq.symm
    subst hqq'
    clear hqq
    have HNO := Lib.hid hno
    clear hno
    by_cases hlt : j < shape.length
    · have hlt2 : (j : Int) < (shape.length : Int) := by omega
      have hw1 : IntKind.i64.wrap ((j : Int) + 1) = (j : Int) + 1 := IntWalk.i64_in _ (by omega)
      have hq0 : ¬ ((j : Int) < 0) := by omega
      obtain ⟨z, hx⟩ : ∃ z, shape[j]? = some z := ⟨_, List.getElem?_eq_getElem hlt⟩
      obtain ⟨sb, so, rfl, hc⟩ := Q3.out (by omega)
      have c0 : w.cell? ⟨sb, so + j, none⟩ = some (.int .i64 z) := by
        have h1 := hc j hlt
        have h2 := List.getElem?_eq_getElem hlt
        rw [hx] at h2
        injection h2 with h2
        rwa [← h2] at h1
      have HX := Lib.hid hx
      clear hc hx
      go_wp2_with fail
      refine (HK.out w z).mono ?_
      intro e w1 hh
      obtain ⟨he, hw⟩ := hh
      subst he hw
      cases hbad : badK z with
      | true =>
        go_wp2_with fail
        go_ret2
        exact ⟨Below.refl _ _, by rw [HDR.out]; exact .inl ⟨List.any_eq_true.2 ⟨z, List.mem_of_getElem? HX.out, hbad⟩, rfl⟩⟩
      | false =>
        go_wp2_with fail
        go_roundw
        case rel => exact ⟨j + 1, by omega, by go_num, trivial, fun k y hk hy => by
          by_cases hkj : k = j
          · rw [hkj, HX.out] at hy
            injection hy with hy
            rw [← hy]; exact hbad
          · exact HNO.out k y (by omega) hy⟩
        case measure => simp [intOf]; omega
    · have hj2 : j = shape.length := by omega
      subst hj2
      have HNB : Hid (∀ (k : Nat) z, shape[k]? = some z → badK z = false) := fun k z hx => HNO.out k z (List.getElem?_eq_some_iff.1 hx).1 hx
      have HANY : Hid (shape.any badK = false) := by
        show _ = _
        rw [List.any_eq_false]
        intro z hz
        obtain ⟨k, hk⟩ := List.mem_iff_getElem?.1 hz
        rw [HNB.out k z hk]
        simp
      clear HNO HK
      obtain ⟨w3, hw3⟩ : ∃ w3, w3 = w.alloc (.cells #[.slice UA b.length uc, .int .i64 0, .int .i64 0] 45) := ⟨_, rfl⟩
      obtain ⟨r, hr⟩ : ∃ r, r = w.heap.size := ⟨_, rfl⟩
      have bw3 : Below w.heap.size w w3 := by rw [hw3]; exact alloc_below _ _
      have B3 := Lib.hid bw3
      have hsz3 : w3.heap.size = r + 1 := by rw [hw3, hr]; simp
      have HSZ := Lib.hid hsz3
      have hwr : w.heap.size ≤ r := Nat.le_of_eq hr.symm
      have R3 : Hid (RiAt w3 r bv b s0) := by
        rw [HS0.out]
        refine ⟨by rw [HBV2.out]; exact HU.out.below bw3, 0, ?_, by omega, fun _ => rfl⟩
        rw [hw3, hr, HBV2.out]
        exact RowAt.new _ _ _
      have HLR : Hid (0 < b.length → ∀ k, bv.ownBlock = some k → k < r) := by rw [hr, HBV2.out]; exact HLOW.out
      have HW3 := Lib.hid hw3
      have HRR := Lib.hid hr
      clear hw3 hr bw3 hsz3 HLOW
      go_wp2_with fail
      rw [← HW3.out, ← HRR.out]
      go_loopw [9, 10] (fun v i wr => ∃ (j : Nat) (bv' lv : Nat → Value), j ≤ shape.length ∧ i = .int .i64 (j : Int) ∧ wr.ownsRow w3.heap.size 61 4 v j (itsC D bv' lv j) ∧ (∀ k, k < j → ItR r wr (bv' k) (lv k) (D.getD k default)) ∧ RiAt wr r bv b (decE (shape.take j) s0) ∧ w3.grownBy wr (some r)) (fun _ i _ => shape.length - (intOf i).toNat)
      case atStart => exact ⟨0, fun _ => undef, fun _ => undef, by omega, rfl, World.ownsRow_nil _ _ _ _, fun k hk => by omega, R3.out, World.grownBy.refl _ _⟩
      case round =>
        clear R3 HW3 HRR
        obtain ⟨j, bvs, lvs, hj, rfl, ho, hok, hin, hg⟩ := hrel
        have HO := Lib.hid ho
        have HOK := Lib.hid hok
        have HIN := Lib.hid hin
        have HG := Lib.hid hg
        have HB : Hid (Below w.heap.size w wr) := B3.out.grown hg B3.out.size (fun k e => by injection e with e; omega)
        obtain ⟨VA, vn, vc, rfl⟩ : ∃ VA vn vc, u9 = .slice VA vn vc := by
          rcases ho.2 with ⟨rfl, _⟩ | ⟨g, cap, cur, rfl, _⟩ <;> exact ⟨_, _, _, rfl⟩
        clear ho hok hin hg
        by_cases hlt : j < shape.length
        · have hlt2 : (j : Int) < (shape.length : Int) := by omega
          have hw1 : IntKind.i64.wrap ((j : Int) + 1) = (j : Int) + 1 := IntWalk.i64_in _ (by omega)
          have hq0 : ¬ ((j : Int) < 0) := by omega
          obtain ⟨z, hx⟩ : ∃ z, shape[j]? = some z := ⟨_, List.getElem?_eq_getElem hlt⟩
          obtain ⟨sb, so, rfl, hc⟩ := Q3.out (by omega)
          have CW : Hid (∀ W, Below w.heap.size w W → W.cell? ⟨sb, so + j, none⟩ = some (.int .i64 z)) := fun W hW => by
            have h1 := hc j hlt
            have h2 := List.getElem?_eq_getElem hlt
            rw [hx] at h2
            injection h2 with h2
            rw [← h2] at h1
            exact (hW.cell (p := ⟨sb, so + j, none⟩) (World.block_lt_of_cell? w _ h1)).trans h1
          have hcell := CW.out wr HB.out
          obtain ⟨s, hs⟩ : ∃ s, s = decE (shape.take j) s0 := ⟨_, rfl⟩
          have HDJ := HDG.out j z hx
          rw [← hs] at HIN HDJ
          have HGD : Hid (D.getD j default = s.rd z) := by show _ = _; rw [List.getD_eq_getElem?_getD, HDJ]; rfl
          have HE : Hid (decE (shape.take (j + 1)) s0 = s.rdS z) := by show _ = _; rw [HDE.out j z hx, ← hs]
          clear hc Q3 hs HDJ hx
          by_cases hz9 : z = 9
          · subst hz9
            have HRDz : Hid (s.rd 9 = ⟨9, 0, s.byt 4000, []⟩) := by show _ = _; unfold St.rd; rw [if_pos rfl]
            have HRDS : Hid (s.rdS 9 = s.bytS 4000) := by show _ = _; unfold St.rdS; rw [if_pos rfl]
            obtain ⟨s', hs'⟩ : ∃ s', s' = s.bytS 4000 := ⟨_, rfl⟩
            have HSN : Hid (decE (shape.take (j + 1)) s0 = s') := by show _ = _; rw [HE.out, HRDS.out, hs']
            have HS' := Lib.hid hs'
            clear hs' HE
            have hgr : wr.heap.size > r := by have := HG.out.size; have := HSZ.out; omega
            go_wp2_with (first
              | ((with_reducible refine wpList_alloc_row (o := ⟨some 11, _, _, _, _, _⟩) rfl 61 rfl zeroItR Try.zeroItRow ?_); intro g w1 n1)
              | ((with_reducible refine wpList_store_row (o := ⟨none, _, _, _, _, _⟩) rfl 61 (.tmp 11) (.tmp 39) rfl g 61 zeroItR #[.int .i64 9, .int .u64 0, .slice none 0 0, .slice none 0 0] (by with_unfolding_all rfl) (by with_unfolding_all rfl) n1.row (by with_unfolding_all rfl) (by with_unfolding_all exact Try.sizeItR) (fresh_one 9) ?_); intro w2 p2; have hb2 : Below wr.heap.size wr w2 := p2.below n1.below n1.below.size (by rw [n1.spot]; exact Nat.le_refl _); have hcell2 := CW.out w2 (below_size HB.out hb2)))
            have hgs := n1.spot
            have R2 := Lib.hid p2.row
            have B2 := Lib.hid hb2
            have I2 := Lib.hid (HIN.out.kept hb2)
            have hgne : g ≠ r := by omega
            have hgw : wr.heap.size ≤ g := by omega
            clear hb2 p2 n1 hcell2 hgs
            refine (riBytesIn w2 r bv b s 4000 hbl I2.out).mono ?_
            intro e w4 hh
            obtain ⟨BV, he, ⟨hbs, hin⟩, hi, hg⟩ := hh
            subst he
            have HBS := Lib.hid hbs
            have HIB := Lib.hid hin
            obtain ⟨BA, bc, rfl, _, _, _⟩ := hbs
            have I4 := Lib.hid hi
            rw [← HS'.out] at I4
            have R4 := Lib.hid (R2.out.grown hg (by simp [hgne]))
            have G4 := Lib.hid ((grown_any B2.out (some r)).trans hg)
            have X4 : Hid (ItR r w4 (.slice BA (s.byt 4000).length bc) (.slice none 0 0) (s.rd 9)) := by show ItR _ _ _ _ _; rw [HRDz.out]; exact ⟨HBS.out, fun hp k hk => HLR.out (byt_pos I2.out hp) k (HIB.out k hk), Kl.nil _, KyAt.nil _ _ _⟩
            clear hi hg hin
            have z2 := R4.out.frozen 2
            have c2 := R4.out.cell 2
            have hone : ∀ u ∈ itC (s.rd 9) (.slice BA (s.byt 4000).length bc) (.slice none 0 0), u.oneCell' = true := itC_one w4 _ _ _ X4.out.1 X4.out.2.2.1
            have hcs : (itC (s.rd 9) (.slice BA (s.byt 4000).length bc) (.slice none 0 0)) = [.int .i64 9, .int .u64 0, (.slice BA (s.byt 4000).length bc), (.slice none 0 0)] := by rw [HRDz.out]; rfl
            have HCS := Lib.hid hcs
            rw [hcs] at hone
            have HONE := Lib.hid hone
            clear hcs hone
            have hgsc := grown_setCell w4 g 2 (.slice BA (s.byt 4000).length bc)
            have G5 := Lib.hid (grown_past G4.out hgsc (fun k e => by injection e with e; omega))
            have O5 := Lib.hid (World.ownsRow.kept HO.out G5.out (.inr (own_ne HO.out (by have := HSZ.out; omega))))
            have R5 := Lib.hid (R4.out.put4c (.slice BA (s.byt 4000).length bc))
            have I5 := Lib.hid (I4.out.past hgsc HLR.out (fun k e => by injection e with e; omega))
            have X5 := Lib.hid (X4.out.far hgsc (fun k e => by injection e with e; subst e; exact ⟨by omega, _, _, R4.out, by decide⟩))
            have hsz5 : w3.heap.size ≤ (w4.setCell ⟨g, 2, none⟩ (.slice BA (s.byt 4000).length bc)).heap.size := Nat.le_trans HG.out.size G5.out.size
            clear hgsc
            have RN : Hid (RowAt ((w4.setCell ⟨g, 2, none⟩ (.slice BA (s.byt 4000).length bc)).alloc (.cells #[.int .i64 9, .int .u64 0, (.slice BA (s.byt 4000).length bc), (.slice none 0 0)] 61)) w4.heap.size 61 #[.int .i64 9, .int .u64 0, (.slice BA (s.byt 4000).length bc), (.slice none 0 0)]) := by
              have h := RowAt.new (w4.setCell ⟨g, 2, none⟩ (.slice BA (s.byt 4000).length bc)) 61 #[.int .i64 9, .int .u64 0, (.slice BA (s.byt 4000).length bc), (.slice none 0 0)]
              have hszc : (w4.setCell ⟨g, 2, none⟩ (.slice BA (s.byt 4000).length bc)).heap.size = w4.heap.size := by simp
              rw [hszc] at h
              exact h
            go_wp2_with (first
              | (with_reducible refine wpList_load_row (o := ⟨some 62, _, _, _, _, _⟩) rfl 61 (.tmp 11) rfl g (by with_unfolding_all rfl) 61 #[.int .i64 9, .int .u64 0, (.slice BA (s.byt 4000).length bc), (.slice none 0 0)] (0, 0) _ (by with_unfolding_all exact R5.out) Try.underlying61 rfl (by with_unfolding_all exact Try.sizeItR) ?_)
              | ((with_reducible refine wpList_appItemO (w0 := w3) (o := ⟨some 64, _, _, _, _, _⟩) rfl (.tmp 61) (.tmp 63) rfl (.slice VA vn vc) (itsC D bvs lvs j) [.int .i64 9, .int .u64 0, (.slice BA (s.byt 4000).length bc), (.slice none 0 0)] j w4.heap.size (by with_unfolding_all rfl) (by with_unfolding_all rfl) (by with_unfolding_all exact RN.out) (by with_unfolding_all rfl) HONE.out (by omega) (owned_far (row := none) O5.out (grown_of_below (alloc_below _ _)) (fun r e => by cases e)) (Nat.le_trans hsz5 (alloc_below _ _).size) ?_); intro v8 w8 o8 g8; rw [← HCS.out] at o8; have HST := Lib.hid (item_step (by have := HSZ.out; omega) HLR.out HO.out HOK.out HIN.out HG.out (G5.out.trans (grown_any (alloc_below _ _) (some r))) (I5.out.kept (alloc_below _ _)) (X5.out.below (alloc_below _ _)) HGD.out o8 g8); clear o8 g8))
            obtain ⟨bvs', lvs', h81, h82, h83, h84⟩ := HST.out
            refine ⟨⟨j + 1, bvs', lvs', by omega, by congr 1, h81, h82, by rw [HSN.out]; exact h83, h84⟩, ?_⟩
            show shape.length - ((j : Int) + 1).toNat < shape.length - (j : Int).toNat
            omega
          · have hd9 : decide (z = 9) = false := by simp [hz9]
            by_cases hz32 : z = 32
            · subst hz32
              have HRDz : Hid (s.rd 32 = ⟨32, 0, [], s.keys 100⟩) := by show _ = _; unfold St.rd; rw [if_neg (by decide), if_pos rfl]
              have HRDS : Hid (s.rdS 32 = s.keyS 100) := by show _ = _; unfold St.rdS; rw [if_neg (by decide), if_pos rfl]
              obtain ⟨s', hs'⟩ : ∃ s', s' = s.keyS 100 := ⟨_, rfl⟩
              have HSN : Hid (decE (shape.take (j + 1)) s0 = s') := by show _ = _; rw [HE.out, HRDS.out, hs']
              have HS' := Lib.hid hs'
              clear hs' HE
              have hgr : wr.heap.size > r := by have := HG.out.size; have := HSZ.out; omega
              go_wp2_with (first
                | ((with_reducible refine wpList_alloc_row (o := ⟨some 11, _, _, _, _, _⟩) rfl 61 rfl zeroItR Try.zeroItRow ?_); intro g w1 n1)
                | ((with_reducible refine wpList_store_row (o := ⟨none, _, _, _, _, _⟩) rfl 61 (.tmp 11) (.tmp 39) rfl g 61 zeroItR #[.int .i64 32, .int .u64 0, .slice none 0 0, .slice none 0 0] (by with_unfolding_all rfl) (by with_unfolding_all rfl) n1.row (by with_unfolding_all rfl) (by with_unfolding_all exact Try.sizeItR) (fresh_one 32) ?_); intro w2 p2; have hb2 : Below wr.heap.size wr w2 := p2.below n1.below n1.below.size (by rw [n1.spot]; exact Nat.le_refl _); have hcell2 := CW.out w2 (below_size HB.out hb2)))
              have hgs := n1.spot
              have R2 := Lib.hid p2.row
              have B2 := Lib.hid hb2
              have I2 := Lib.hid (HIN.out.kept hb2)
              have hgne : g ≠ r := by omega
              have hgw : wr.heap.size ≤ g := by omega
              clear hb2 p2 n1 hcell2 hgs
              refine (riKeysIn w2 r bv b s 100 hbl I2.out).mono ?_
              intro e w4 hh
              obtain ⟨LV, he, ⟨hbs, hky, _⟩, hi, hg⟩ := hh
              subst he
              have HBS := Lib.hid hbs
              have HKY := Lib.hid hky
              obtain ⟨LA, lc, rfl, _, _, _, _⟩ := hbs
              have I4 := Lib.hid hi
              rw [← HS'.out] at I4
              have R4 := Lib.hid (R2.out.grown hg (by simp [hgne]))
              have G4 := Lib.hid ((grown_any B2.out (some r)).trans hg)
              have X4 : Hid (ItR r w4 (.slice none 0 0) (.slice LA (s.keys 100).length lc) (s.rd 32)) := by show ItR _ _ _ _ _; rw [HRDz.out]; exact ⟨Bs.nil _, fun hp => absurd hp (Nat.lt_irrefl 0), HBS.out, HKY.out⟩
              clear hi hg hky
              have z2 := R4.out.frozen 3
              have c2 := R4.out.cell 3
              have hone : ∀ u ∈ itC (s.rd 32) (.slice none 0 0) (.slice LA (s.keys 100).length lc), u.oneCell' = true := itC_one w4 _ _ _ X4.out.1 X4.out.2.2.1
              have hcs : (itC (s.rd 32) (.slice none 0 0) (.slice LA (s.keys 100).length lc)) = [.int .i64 32, .int .u64 0, (.slice none 0 0), (.slice LA (s.keys 100).length lc)] := by rw [HRDz.out]; rfl
              have HCS := Lib.hid hcs
              rw [hcs] at hone
              have HONE := Lib.hid hone
              clear hcs hone
              have hgsc := grown_setCell w4 g 3 (.slice LA (s.keys 100).length lc)
              have G5 := Lib.hid (grown_past G4.out hgsc (fun k e => by injection e with e; omega))
              have O5 := Lib.hid (World.ownsRow.kept HO.out G5.out (.inr (own_ne HO.out (by have := HSZ.out; omega))))
              have R5 := Lib.hid (R4.out.put4d (.slice LA (s.keys 100).length lc))
              have I5 := Lib.hid (I4.out.past hgsc HLR.out (fun k e => by injection e with e; omega))
              have X5 := Lib.hid (X4.out.far hgsc (fun k e => by injection e with e; subst e; exact ⟨by omega, _, _, R4.out, by decide⟩))
              have hsz5 : w3.heap.size ≤ (w4.setCell ⟨g, 3, none⟩ (.slice LA (s.keys 100).length lc)).heap.size := Nat.le_trans HG.out.size G5.out.size
              clear hgsc
              have RN : Hid (RowAt ((w4.setCell ⟨g, 3, none⟩ (.slice LA (s.keys 100).length lc)).alloc (.cells #[.int .i64 32, .int .u64 0, (.slice none 0 0), (.slice LA (s.keys 100).length lc)] 61)) w4.heap.size 61 #[.int .i64 32, .int .u64 0, (.slice none 0 0), (.slice LA (s.keys 100).length lc)]) := by
                have h := RowAt.new (w4.setCell ⟨g, 3, none⟩ (.slice LA (s.keys 100).length lc)) 61 #[.int .i64 32, .int .u64 0, (.slice none 0 0), (.slice LA (s.keys 100).length lc)]
                have hszc : (w4.setCell ⟨g, 3, none⟩ (.slice LA (s.keys 100).length lc)).heap.size = w4.heap.size := by simp
                rw [hszc] at h
                exact h
              go_wp2_with (first
                | (with_reducible refine wpList_load_row (o := ⟨some 62, _, _, _, _, _⟩) rfl 61 (.tmp 11) rfl g (by with_unfolding_all rfl) 61 #[.int .i64 32, .int .u64 0, (.slice none 0 0), (.slice LA (s.keys 100).length lc)] (0, 0) _ (by with_unfolding_all exact R5.out) Try.underlying61 rfl (by with_unfolding_all exact Try.sizeItR) ?_)
                | ((with_reducible refine wpList_appItemO (w0 := w3) (o := ⟨some 64, _, _, _, _, _⟩) rfl (.tmp 61) (.tmp 63) rfl (.slice VA vn vc) (itsC D bvs lvs j) [.int .i64 32, .int .u64 0, (.slice none 0 0), (.slice LA (s.keys 100).length lc)] j w4.heap.size (by with_unfolding_all rfl) (by with_unfolding_all rfl) (by with_unfolding_all exact RN.out) (by with_unfolding_all rfl) HONE.out (by omega) (owned_far (row := none) O5.out (grown_of_below (alloc_below _ _)) (fun r e => by cases e)) (Nat.le_trans hsz5 (alloc_below _ _).size) ?_); intro v8 w8 o8 g8; rw [← HCS.out] at o8; have HST := Lib.hid (item_step (by have := HSZ.out; omega) HLR.out HO.out HOK.out HIN.out HG.out (G5.out.trans (grown_any (alloc_below _ _) (some r))) (I5.out.kept (alloc_below _ _)) (X5.out.below (alloc_below _ _)) HGD.out o8 g8); clear o8 g8))
              obtain ⟨bvs', lvs', h81, h82, h83, h84⟩ := HST.out
              refine ⟨⟨j + 1, bvs', lvs', by omega, by congr 1, h81, h82, by rw [HSN.out]; exact h83, h84⟩, ?_⟩
              show shape.length - ((j : Int) + 1).toNat < shape.length - (j : Int).toNat
              omega
            · have hd32 : decide (z = 32) = false := by simp [hz32]
              have HRDz : Hid (s.rd z = ⟨z, s.num z, [], []⟩) := by show _ = _; unfold St.rd; rw [if_neg hz9, if_neg hz32]
              have HRDS : Hid (s.rdS z = s.numS z) := by show _ = _; unfold St.rdS; rw [if_neg hz9, if_neg hz32]
              obtain ⟨s', hs'⟩ : ∃ s', s' = s.numS z := ⟨_, rfl⟩
              have HSN : Hid (decE (shape.take (j + 1)) s0 = s') := by show _ = _; rw [HE.out, HRDS.out, hs']
              have HS' := Lib.hid hs'
              clear hs' HE
              have hgr : wr.heap.size > r := by have := HG.out.size; have := HSZ.out; omega
              go_wp2_with (first
                | ((with_reducible refine wpList_alloc_row (o := ⟨some 11, _, _, _, _, _⟩) rfl 61 rfl zeroItR Try.zeroItRow ?_); intro g w1 n1)
                | ((with_reducible refine wpList_store_row (o := ⟨none, _, _, _, _, _⟩) rfl 61 (.tmp 11) (.tmp 39) rfl g 61 zeroItR #[.int .i64 z, .int .u64 0, .slice none 0 0, .slice none 0 0] (by with_unfolding_all rfl) (by with_unfolding_all rfl) n1.row (by with_unfolding_all rfl) (by with_unfolding_all exact Try.sizeItR) (fresh_one z) ?_); intro w2 p2; have hb2 : Below wr.heap.size wr w2 := p2.below n1.below n1.below.size (by rw [n1.spot]; exact Nat.le_refl _); have hcell2 := CW.out w2 (below_size HB.out hb2)))
              have hgs := n1.spot
              have R2 := Lib.hid p2.row
              have B2 := Lib.hid hb2
              have I2 := Lib.hid (HIN.out.kept hb2)
              have hgne : g ≠ r := by omega
              have hgw : wr.heap.size ≤ g := by omega
              clear hb2 p2 n1 hcell2 hgs
              refine (riNumber_any w2 r bv b s z hbl I2.out).mono ?_
              intro e w4 hh
              obtain ⟨he, hi, hg⟩ := hh
              subst he
              have I4 := Lib.hid hi
              rw [← HS'.out] at I4
              have R4 := Lib.hid (R2.out.grown hg (by simp [hgne]))
              have G4 := Lib.hid ((grown_any B2.out (some r)).trans hg)
              have X4 : Hid (ItR r w4 (.slice none 0 0) (.slice none 0 0) (s.rd z)) := by show ItR _ _ _ _ _; rw [HRDz.out]; exact ⟨Bs.nil _, fun hp => absurd hp (Nat.lt_irrefl 0), Kl.nil _, KyAt.nil _ _ _⟩
              clear hi hg 
              have z2 := R4.out.frozen 1
              have c2 := R4.out.cell 1
              have hone : ∀ u ∈ itC (s.rd z) (.slice none 0 0) (.slice none 0 0), u.oneCell' = true := itC_one w4 _ _ _ X4.out.1 X4.out.2.2.1
              have hcs : (itC (s.rd z) (.slice none 0 0) (.slice none 0 0)) = [.int .i64 z, .int .u64 (s.num z : Int), (.slice none 0 0), (.slice none 0 0)] := by rw [HRDz.out]; rfl
              have HCS := Lib.hid hcs
              rw [hcs] at hone
              have HONE := Lib.hid hone
              clear hcs hone
              have hgsc := grown_setCell w4 g 1 (.int .u64 (s.num z : Int))
              have G5 := Lib.hid (grown_past G4.out hgsc (fun k e => by injection e with e; omega))
              have O5 := Lib.hid (World.ownsRow.kept HO.out G5.out (.inr (own_ne HO.out (by have := HSZ.out; omega))))
              have R5 := Lib.hid (R4.out.put4b (.int .u64 (s.num z : Int)))
              have I5 := Lib.hid (I4.out.past hgsc HLR.out (fun k e => by injection e with e; omega))
              have X5 := Lib.hid (X4.out.far hgsc (fun k e => by injection e with e; subst e; exact ⟨by omega, _, _, R4.out, by decide⟩))
              have hsz5 : w3.heap.size ≤ (w4.setCell ⟨g, 1, none⟩ (.int .u64 (s.num z : Int))).heap.size := Nat.le_trans HG.out.size G5.out.size
              clear hgsc
              have RN : Hid (RowAt ((w4.setCell ⟨g, 1, none⟩ (.int .u64 (s.num z : Int))).alloc (.cells #[.int .i64 z, .int .u64 (s.num z : Int), (.slice none 0 0), (.slice none 0 0)] 61)) w4.heap.size 61 #[.int .i64 z, .int .u64 (s.num z : Int), (.slice none 0 0), (.slice none 0 0)]) := by
                have h := RowAt.new (w4.setCell ⟨g, 1, none⟩ (.int .u64 (s.num z : Int))) 61 #[.int .i64 z, .int .u64 (s.num z : Int), (.slice none 0 0), (.slice none 0 0)]
                have hszc : (w4.setCell ⟨g, 1, none⟩ (.int .u64 (s.num z : Int))).heap.size = w4.heap.size := by simp
                rw [hszc] at h
                exact h
              go_wp2_with (first
                | (with_reducible refine wpList_load_row (o := ⟨some 62, _, _, _, _, _⟩) rfl 61 (.tmp 11) rfl g (by with_unfolding_all rfl) 61 #[.int .i64 z, .int .u64 (s.num z : Int), (.slice none 0 0), (.slice none 0 0)] (0, 0) _ (by with_unfolding_all exact R5.out) Try.underlying61 rfl (by with_unfolding_all exact Try.sizeItR) ?_)
                | ((with_reducible refine wpList_appItemO (w0 := w3) (o := ⟨some 64, _, _, _, _, _⟩) rfl (.tmp 61) (.tmp 63) rfl (.slice VA vn vc) (itsC D bvs lvs j) [.int .i64 z, .int .u64 (s.num z : Int), (.slice none 0 0), (.slice none 0 0)] j w4.heap.size (by with_unfolding_all rfl) (by with_unfolding_all rfl) (by with_unfolding_all exact RN.out) (by with_unfolding_all rfl) HONE.out (by omega) (owned_far (row := none) O5.out (grown_of_below (alloc_below _ _)) (fun r e => by cases e)) (Nat.le_trans hsz5 (alloc_below _ _).size) ?_); intro v8 w8 o8 g8; rw [← HCS.out] at o8; have HST := Lib.hid (item_step (by have := HSZ.out; omega) HLR.out HO.out HOK.out HIN.out HG.out (G5.out.trans (grown_any (alloc_below _ _) (some r))) (I5.out.kept (alloc_below _ _)) (X5.out.below (alloc_below _ _)) HGD.out o8 g8); clear o8 g8))
              obtain ⟨bvs', lvs', h81, h82, h83, h84⟩ := HST.out
              refine ⟨⟨j + 1, bvs', lvs', by omega, by congr 1, h81, h82, by rw [HSN.out]; exact h83, h84⟩, ?_⟩
              show shape.length - ((j : Int) + 1).toNat < shape.length - (j : Int).toNat
              omega
        · have hj2 : j = shape.length := by omega
          subst hj2
          rw [List.take_length] at HIN
          have HEND := Lib.hid (riEnd_any wr r bv b (decE shape s0) HIN.out)
          obtain ⟨F, hF⟩ : ∃ F, F = (decE shape s0).fin := ⟨_, rfl⟩
          rw [← hF] at HEND
          have HFF := Lib.hid hF
          clear hF
          go_wp2_with fail
          refine HEND.out.mono ?_
          intro e w9 hh
          obtain ⟨he, b9⟩ := hh
          subst he
          have HBW := Lib.hid (below_size HB.out b9)
          have O9 := Lib.hid (owned_far (row := none) HO.out (grown_of_below b9) (fun r e => by cases e))
          have OK9 : Hid (∀ k, k < shape.length → ItR r w9 (bvs k) (lvs k) (D.getD k default)) := fun k hk => (HOK.out k hk).below b9
          clear b9
          by_cases hF0 : F = 0
          · have hd : decide (F = 0) = true := by simp [hF0]
            subst hF0
            go_wp2_with fail
            go_ret2
            refine ⟨HBW.out, ?_⟩
            rw [HDR.out]
            refine .inr ⟨HANY.out, .inr ⟨HFF.out.symm, _, rfl, ?_⟩⟩
            refine Its.of_own (bv := bvs) (lv := lvs) (by rw [HDL.out]; exact O9.out) fun k x hx => ?_
            have hkl : k < shape.length := by rw [← HDL.out]; exact (List.getElem?_eq_some_iff.1 hx).1
            have h1 := OK9.out k hkl
            rw [List.getD_eq_getElem?_getD, hx] at h1
            have h2 := HDG.out k _ (List.getElem?_eq_getElem hkl)
            rw [hx] at h2
            injection h2 with h2
            exact ⟨h1.1, h1.2.2.1, by rw [h2]; exact St.rd_n _ _⟩
          · have hd : decide (F = 0) = false := by simp [hF0]
            go_wp2_with fail
            go_ret2
            refine ⟨HBW.out, ?_⟩
            rw [HDR.out]
            exact .inr ⟨HANY.out, .inl ⟨by rw [← HFF.out]; exact hF0, by rw [← HFF.out]; rfl⟩⟩
end Go.Proofs.Ytjhhpakaemnemaa
end
