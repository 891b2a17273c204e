/-
  EpochsRow: for every input the call returns true, and each argument reads as it read before. Conditions: none beyond the given statement's own.
-/
import Derived.Test.YthipdfmaaeoijaaQEpcAN
import Derived.Test.YthipdfmaaeoijaaQEpcAB
import Derived.Test.YthipdfmaaeoijaaRows
import Derived.Test.YthipdfmaaeoijaaQEpcAK
import Derived.Test.YthipdfmaaeoijaaQEpcAL
import Derived.ProofKit
import Derived.OpenShut
import Derived.ShutString
import Derived.ChangeOld
section
namespace Go.Proofs.Ythipdfmaaeoijaa
open Go.RowKit
set_option linter.unusedVariables false
set_option maxRecDepth 20000

theorem Try.size34 : (Try.prog.info? 41).map (·.size) = some 34 := by kernel_rfl
theorem Tbl.drewN {w0 w : World} {ms : List (Nat × IntKind × List (Nat × Value))} {rs : List (Nat × TypeId × Array Value)} {b last : Nat} {ks : List (Nat × List UInt8)} (h : Tbl w0 ms rs b ks last w) (n : Nat) : Tbl w0 ms rs b ks last (w.drewN n) := h.call (below_drewN (Below.refl _ _) n)
/-- The table's numbers are in a row, and the next one comes behind them. -/
structure RowOk (first x j last a m : Nat) (ks : List (Nat × List UInt8)) : Prop where
  ids : ks.map (·.1) = List.range' a m
  sum : a + m = x
  lo : first ≤ a
  hi : x ≤ first + j
  six : m ≤ 6
  none : m = 0 → x = first
  last : 0 < m → last + 1 = x
section
variable {first x j last a m : Nat} {ks : List (Nat × List UInt8)}
theorem RowOk.len (h : RowOk first x j last a m ks) : ks.length = m := by
  have := congrArg List.length h.ids
  simpa using this
theorem RowOk.later (h : RowOk first x j last a m ks) : RowOk first x (j + 1) last a m ks := ⟨h.ids, h.sum, h.lo, by have := h.hi; omega, h.six, h.none, h.last⟩
theorem RowOk.erased (h : RowOk first x j last a m ks) (below : Nat) : ∃ a' m', RowOk first x (j + 1) last a' m' (ks.filter fun p => !dead below last p.1) := by
  obtain ⟨a', m', h1, h2, h3, h4⟩ := row_left below last a m ks h.ids (fun hm => by rw [h.sum]; exact h.last hm)
  have e1 := h.sum
  have e2 := h.lo
  have e3 := h.hi
  have e4 := h.six
  refine ⟨a', m', h1, by omega, by omega, by omega, by omega, fun h0 => h.none ?_, fun h0 => h.last (by omega)⟩
  rcases Nat.eq_zero_or_pos m with h5 | h5
  · exact h5
  · have := h4 h5; omega
theorem RowOk.born (h : RowOk first x j last a m ks) (key : List UInt8) (hm : m ≠ 6) : RowOk first (x + 1) (j + 1) x a (m + 1) (ks ++ [(x, key)]) := by
  have e1 := h.sum
  have e2 := h.lo
  have e3 := h.hi
  have e4 := h.six
  refine ⟨?_, by omega, by omega, by omega, by omega, fun h0 => by omega, fun _ => rfl⟩
  rw [List.map_append, h.ids, List.range'_concat]
  simp [e1]
theorem RowOk.next (h : RowOk first x j last a m ks) (hx : x < 4294967296) : ks = [] ∨ ((last : Int) + 1) % 4294967296 = (x : Int) := by
  rcases Nat.eq_zero_or_pos m with h0 | h0
  · exact .inl (List.eq_nil_of_length_eq_zero (by rw [h.len, h0]))
  · have := h.last h0
    exact .inr (by omega)
theorem RowOk.fresh (h : RowOk first x j last a m ks) : ∀ p ∈ ks, p.1 ≠ x := fun p hp => by
  have h1 : p.1 ∈ ks.map (·.1) := List.mem_map.2 ⟨p, hp, rfl⟩
  rw [h.ids, List.mem_range'_1] at h1
  have := h.sum
  omega
theorem RowOk.lastIn (h : RowOk first x j last a m ks) : ks ≠ [] → last ∈ ks.map (·.1) := fun hne => by
  have h0 : 0 < m := by rw [← h.len]; exact List.length_pos_iff.2 hne
  have h1 := h.last h0
  have h2 := h.sum
  rw [h.ids, List.mem_range'_1]
  omega
theorem RowOk.nodup (h : RowOk first x j last a m ks) : (ks.map (·.1)).Nodup := by rw [h.ids]; exact List.nodup_range'
end

set_option maxHeartbeats 1000000 in
theorem epochsRow_walk (w : World) (first : Nat) (hf : first < 4294967296) (v : Value) (l : List OpE) (hl : OpEs w v l) :
    Calls Try.prog 5 #[.int .u32 (first : Int), v] w (RetV w (.bool true)) := by
  obtain ⟨A, c, rfl, hl1, hl2, hl4⟩ := hl
  obtain ⟨N, hN⟩ : ∃ N, N = l.length := ⟨_, rfl⟩
  rw [← hN] at hl1 ⊢
  have HN := Lib.hid hN
  unfold maxLen at hl2
  have CA : Hid (∀ w, Calls Try.prog 6 #[] w (RetV w (.bool true))) := fun w => epochsAwake_any w
  have E0 := Lib.hid (EnvM.start w)
  by_cases hbig : 2147483648 ≤ first
  · have hbI : decide ((2147483648 : Int) ≤ (first : Int)) = true := decide_eq_true (by omega)
    clear hl4
    go_enter Try.func5, Try.ntmps5
    go_wp2_with fail
    refine (CA.out w).mono ?_
    rintro e w1 ⟨rfl, b1⟩
    have B1 := Lib.hid b1
    clear b1
    go_wp2
    go_ret
    exact ⟨rfl, B1.out⟩
  have hbI : decide ((2147483648 : Int) ≤ (first : Int)) = false := decide_eq_false (by omega)
  have HBG := Lib.hid hbig
  clear hbig
  by_cases h20 : 20 < N
  · have h2I : decide ((20 : Int) < (N : Int)) = true := decide_eq_true (by omega)
    clear hl4
    go_enter Try.func5, Try.ntmps5
    go_wp2_with fail
    refine (CA.out w).mono ?_
    rintro e w1 ⟨rfl, b1⟩
    have B1 := Lib.hid b1
    clear b1
    go_wp2
    go_ret
    exact ⟨rfl, B1.out⟩
  have h2I : decide ((20 : Int) < (N : Int)) = false := decide_eq_false (by omega)
  have H20 := Lib.hid h20
  clear h20
  have HL : Hid (∀ (j : Nat) (hj : j < l.length), ∃ bl off, A = some ⟨bl, off, none⟩ ∧ ∀ x, Below w.heap.size w x → x.rangeAt bl (off + j * 34) (opeC l[j])) := fun j hj => by
    obtain ⟨bl, off, hA, hrow⟩ := hl4 (by omega)
    exact ⟨bl, off, hA, fun x hx => rangeAt_below (hrow j hj).1 hx⟩
  have HLK : Hid (∀ (j : Nat) (hj : j < l.length), l[j].key.length = 32 ∧ l[j].id < 4294967296) := fun j hj => by
    obtain ⟨bl, off, hA, hrow⟩ := hl4 (by omega)
    exact ⟨(hrow j hj).2.2.2, (hrow j hj).2.2.1⟩
  clear hl4 hN
  go_enter Try.func5, Try.ntmps5
  go_wp2_with fail
  refine (CA.out w).mono ?_
  rintro e w1 ⟨rfl, b1⟩
  have E1 := Lib.hid (E0.out.call b1)
  clear b1 E0
  go_wp2_with (first
    | (with_reducible refine wpList_build0 (o := ⟨some 21, _, _, _, _, _⟩) rfl 28 rfl #[.map none, .int .u32 0] Try.builtT ?_)
    | ((with_reducible refine wpM_box (o := ⟨some 22, _, _, _, _, _⟩) rfl 28 (.tmp 21) rfl #[.map none, .int .u32 0] (by with_unfolding_all rfl) E1.out ?_); intro b w2 q2; have T2 := Lib.hid (Tbl.made (rs := []) q2); clear q2))
  clear hbI h2I
  have hbig := HBG.out
  have h20 := H20.out
  go_loopw [7, 8] (fun nx i wr => ∃ (x j last a m : Nat) (ks : List (Nat × List UInt8)), nx = .int .u32 (x : Int) ∧ i = .int .i64 (j : Int) ∧ j ≤ N ∧ RowOk first x j last a m ks ∧ Tbl w [] [] b ks last wr) (fun _ i _ => N - (intOf i).toNat)
  case atStart => exact ⟨first, 0, 0, first, 0, [], rfl, rfl, Nat.zero_le _, ⟨rfl, rfl, Nat.le_refl _, Nat.le_refl _, Nat.zero_le _, fun _ => rfl, fun h => absurd h (by omega)⟩, T2.out⟩
  case round =>
    obtain ⟨x, j, last, a, m, ks, rfl, rfl, hj, hro, hT⟩ := hrel
    clear T2 E1
    have HT := Lib.hid hT
    have HRO := Lib.hid hro
    have hxb : x < 2147483700 := by have := hro.hi; omega
    have hm6 : m ≤ 6 := hro.six
    clear hT hro
    by_cases hlt : j < N
    · have hltI : (j : Int) < (N : Int) := by omega
      have hjl : j < l.length := by have := HN.out; omega
      obtain ⟨bl, off, rfl, hrow⟩ := HL.out j hjl
      obtain ⟨hkl, hil⟩ := HLK.out j hjl
      obtain ⟨op, hop⟩ : ∃ op, op = l[j] := ⟨_, rfl⟩
      rw [← hop] at hrow hkl hil
      obtain ⟨d, id, key⟩ := op
      simp only at hkl hil
      have hr0 := hrow wr HT.out.below
      have cD : wr.cell? ⟨bl, off + j * 34, none⟩ = some (.int .i64 d) := hr0 0 _ rfl
      have cI : wr.cell? ⟨bl, off + j * 34 + 1, none⟩ = some (.int .u32 (id : Int)) := hr0 1 _ rfl
      have hkey : wr.rangeAt bl (off + j * 34 + 2) (cellsB key) := fun q u hq => by
        rw [Nat.add_assoc]
        exact hr0 (2 + q) u (by show ([.int .i64 d] ++ ([.int .u32 (id : Int)] ++ cellsB key))[2 + q]? = _; rw [show 2 + q = q + 1 + 1 by omega]; exact hq)
      have HKEY := Lib.hid hkey
      have LK := Lib.hid hkl
      clear hkey hr0 hrow hkl hop hjl
      by_cases hd5 : d = 5
      · subst hd5
        have CE := Lib.hid (HT.out.erase id (by rw [HRO.out.len]; omega) HRO.out.nodup HRO.out.lastIn)
        obtain ⟨a', m', hro'⟩ := HRO.out.erased id
        have HRO' := Lib.hid hro'
        clear hro'
        go_wp2_with (first
          | (with_reducible refine wpList_val (o := ⟨some 32, _, _, _, _, _⟩) rfl (.pointer (some ⟨bl, off + j * 34, none⟩)) (run_idxAt (P := Try.prog) 34 39 41 (.tmp 30) (.tmp 31) rfl bl off N c j (by with_unfolding_all rfl) (by with_unfolding_all rfl) hlt Try.underlying39 Try.size34) ?_)
          | (with_reducible refine wpList_val (o := ⟨some 39, _, _, _, _, _⟩) rfl (.pointer (some ⟨bl, off + j * 34, none⟩)) (run_idxAt (P := Try.prog) 34 39 41 (.tmp 37) (.tmp 38) rfl bl off N c j (by with_unfolding_all rfl) (by with_unfolding_all rfl) hlt Try.underlying39 Try.size34) ?_))
        refine CE.out.mono ?_
        rintro e w3 ⟨rfl, q3⟩
        have HT3 := Lib.hid q3
        clear q3 CE HT cD cI HKEY
        generalize (ks.filter fun p => !dead id last p.1) = ks' at HT3 HRO'
        clear HRO
        have HT := HT3
        have HRO := HRO'
        clear HT3 HRO'
        have CI := Lib.hid (HT.out.ids (by rw [HRO.out.len]; have := HRO.out.six; omega))
        go_wp2_with fail
        refine CI.out.mono ?_
        rintro e wi ⟨vi, s, rfl, ⟨hp, hs⟩, hO, hB⟩
        have hse := sorted_eq (by rw [← HRO.out.ids]; exact hp) hs (range_le _ _)
        rw [hse] at hO
        have HTi := Lib.hid (HT.out.call hB)
        have HO := Lib.hid hO
        clear hp hs hse hO hB HT CI s
        rcases Nat.eq_zero_or_pos m' with hm0 | hm0
        · obtain rfl : x = first := HRO.out.none hm0
          have HM0 := Lib.hid hm0
          have hO := HO.out
          rw [hm0, List.range'_zero] at hO
          obtain ⟨A', c', rfl⟩ := hO.shape
          simp only [List.length_nil]
          clear hO HO hm0
          go_wp2
          go_loopw [11] (fun k wr2 => k = .int .i64 1 ∧ wr2 = wi) (fun _ _ => 0)
          case atStart => exact ⟨rfl, rfl⟩
          case round =>
            obtain ⟨rfl, rfl⟩ := hrel
            go_wp2
            go_roundw
            case rel => exact ⟨_, j + 1, _, _, _, _, by go_num, by go_num, hlt, HRO.out, HTi.out⟩
            case measure => simp [intOf]; omega
        · obtain ⟨M, rfl⟩ : ∃ M, m' = M + 1 := ⟨m' - 1, by omega⟩
          obtain ⟨g, c', rfl, hcell⟩ := HO.out.us.cell (by simp)
          simp only [List.length_range'] at hcell ⊢
          obtain ⟨y, rfl⟩ : ∃ y, x = y + 1 := ⟨x - 1, by have := HRO.out.sum; omega⟩
          have hsum : a' + M = y := by have := HRO.out.sum; omega
          have hlo := HRO.out.lo
          have hsix := HRO.out.six
          have HC : Hid (∀ q z, q < M + 1 → z = a' + q → wi.cell? ⟨g, q, none⟩ = some (.int .u32 (z : Int))) := fun q z hq hz => by
            have h := hcell q hq
            rw [List.getElem_range', Nat.one_mul, ← hz] at h
            exact h
          have cM : wi.cell? ⟨g, M, none⟩ = some (.int .u32 (y : Int)) := HC.out M y (by omega) hsum.symm
          have hg : decide ((first : Int) < (y : Int) + 1) = true := decide_eq_true (by omega)
          have hg2 : ((M : Int) + 1 == 0) = false := by rw [beq_eq_false_iff_ne]; omega
          have hg3 : decide (6 < (M : Int) + 1) = false := decide_eq_false (by omega)
          have HSUM := Lib.hid hsum
          have hM5 : M ≤ 5 := by omega
          have hab : a' + M < 2147483800 := by omega
          clear hcell HO hm0 hsum hsix
          go_wp2
          clear cM hg hg2 hg3
          go_loopw [11] (fun k wr2 => ∃ kk q : Nat, k = .int .i64 ((kk : Int) + 1) ∧ kk ≤ M ∧ wr2 = wi.drewN q) (fun k _ => M + 1 - (intOf k).toNat)
          case atStart => exact ⟨0, 0, rfl, Nat.zero_le _, rfl⟩
          case round =>
            obtain ⟨kk, q, rfl, hkk, hw2⟩ := hrel
            by_cases hk : kk < M
            · obtain ⟨z, hz⟩ : ∃ z, z = a' + kk := ⟨_, rfl⟩
              have d1 : wr.cell? ⟨g, kk, none⟩ = some (.int .u32 (z : Int)) := by rw [hw2]; exact HC.out kk z (by omega) hz
              have d2 : wr.cell? ⟨g, kk + 1, none⟩ = some (.int .u32 ((z : Int) + 1)) := by rw [hw2]; exact HC.out (kk + 1) (z + 1) (by omega) (by omega)
              have hzb : z < 2147483800 := by omega
              have hkI : (kk : Int) < (M : Int) := by omega
              have hkI1 : (kk : Int) + 1 < (M : Int) + 1 := by omega
              have HW2 := Lib.hid hw2
              clear hz hw2
              go_wp2
              go_quiet (fail)
              go_wp2
              go_roundw
              case rel => exact ⟨kk + 1, q + nq, by go_num, by omega, by rw [HW2.out]; simp [World.drewN, Nat.add_assoc]⟩
              case measure => simp [intOf]; omega
            · have hkI : ¬ (kk : Int) < (M : Int) := by omega
              have HTq := Lib.hid (HTi.out.drewN q)
              rw [← hw2] at HTq
              clear hw2
              go_wp2
              go_roundw
              case rel => exact ⟨_, j + 1, _, _, _, _, by go_num, by go_num, hlt, HRO.out, HTq.out⟩
              case measure => simp [intOf]; omega
      · have hd : (d == 5) = false := by rw [beq_eq_false_iff_ne]; exact hd5
        by_cases hm : m = 6
        · have CB := Lib.hid (HT.out.bornFull x key LK.out (by rw [HRO.out.len]; exact hm))
          have HRO' := Lib.hid HRO.out.later
          clear hd5 hm
          go_wp2_with (first
            | (with_reducible refine wpList_val (o := ⟨some 32, _, _, _, _, _⟩) rfl (.pointer (some ⟨bl, off + j * 34, none⟩)) (run_idxAt (P := Try.prog) 34 39 41 (.tmp 30) (.tmp 31) rfl bl off N c j (by with_unfolding_all rfl) (by with_unfolding_all rfl) hlt Try.underlying39 Try.size34) ?_)
            | (with_reducible refine wpList_val (o := ⟨some 47, _, _, _, _, _⟩) rfl (.pointer (some ⟨bl, off + j * 34, none⟩)) (run_idxAt (P := Try.prog) 34 39 41 (.tmp 45) (.tmp 46) rfl bl off N c j (by with_unfolding_all rfl) (by with_unfolding_all rfl) hlt Try.underlying39 Try.size34) ?_)
            | (with_reducible refine wpList_loadK (o := ⟨some 49, _, _, _, _, _⟩) rfl 32 (.tmp 48) rfl bl (off + j * 34 + 2) (by with_unfolding_all rfl) key _ HKEY.out Try.underlying32 rfl (Try.sizeKeyM _ LK.out) ?_))
          refine CB.out.mono ?_
          rintro e w3 ⟨rfl, q3⟩
          have HT3 := Lib.hid q3
          clear q3 CB HT cD cI HKEY HRO
          have HT := HT3
          have HRO := HRO'
          clear HT3 HRO'
          have CI := Lib.hid (HT.out.ids (by rw [HRO.out.len]; have := HRO.out.six; omega))
          go_wp2_with fail
          refine CI.out.mono ?_
          rintro e wi ⟨vi, s, rfl, ⟨hp, hs⟩, hO, hB⟩
          have hse := sorted_eq (by rw [← HRO.out.ids]; exact hp) hs (range_le _ _)
          rw [hse] at hO
          have HTi := Lib.hid (HT.out.call hB)
          have HO := Lib.hid hO
          clear hp hs hse hO hB HT CI s
          rcases Nat.eq_zero_or_pos m with hm0 | hm0
          · obtain rfl : x = first := HRO.out.none hm0
            have HM0 := Lib.hid hm0
            have hO := HO.out
            rw [hm0, List.range'_zero] at hO
            obtain ⟨A', c', rfl⟩ := hO.shape
            simp only [List.length_nil]
            clear hO HO hm0
            go_wp2
            go_loopw [11] (fun k wr2 => k = .int .i64 1 ∧ wr2 = wi) (fun _ _ => 0)
            case atStart => exact ⟨rfl, rfl⟩
            case round =>
              obtain ⟨rfl, rfl⟩ := hrel
              go_wp2
              go_roundw
              case rel => exact ⟨_, j + 1, _, _, _, _, by go_num, by go_num, hlt, HRO.out, HTi.out⟩
              case measure => simp [intOf]; omega
          · obtain ⟨M, rfl⟩ : ∃ M, m = M + 1 := ⟨m - 1, by omega⟩
            obtain ⟨g, c', rfl, hcell⟩ := HO.out.us.cell (by simp)
            simp only [List.length_range'] at hcell ⊢
            obtain ⟨y, rfl⟩ : ∃ y, x = y + 1 := ⟨x - 1, by have := HRO.out.sum; omega⟩
            have hsum : a + M = y := by have := HRO.out.sum; omega
            have hlo := HRO.out.lo
            have hsix := HRO.out.six
            have HC : Hid (∀ q z, q < M + 1 → z = a + q → wi.cell? ⟨g, q, none⟩ = some (.int .u32 (z : Int))) := fun q z hq hz => by
              have h := hcell q hq
              rw [List.getElem_range', Nat.one_mul, ← hz] at h
              exact h
            have cM : wi.cell? ⟨g, M, none⟩ = some (.int .u32 (y : Int)) := HC.out M y (by omega) hsum.symm
            have hg : decide ((first : Int) < (y : Int) + 1) = true := decide_eq_true (by omega)
            have hg2 : ((M : Int) + 1 == 0) = false := by rw [beq_eq_false_iff_ne]; omega
            have hg3 : decide (6 < (M : Int) + 1) = false := decide_eq_false (by omega)
            have HSUM := Lib.hid hsum
            have hM5 : M ≤ 5 := by omega
            have hab : a + M < 2147483800 := by omega
            clear hcell HO hm0 hsum hsix
            go_wp2
            clear cM hg hg2 hg3
            go_loopw [11] (fun k wr2 => ∃ kk q : Nat, k = .int .i64 ((kk : Int) + 1) ∧ kk ≤ M ∧ wr2 = wi.drewN q) (fun k _ => M + 1 - (intOf k).toNat)
            case atStart => exact ⟨0, 0, rfl, Nat.zero_le _, rfl⟩
            case round =>
              obtain ⟨kk, q, rfl, hkk, hw2⟩ := hrel
              by_cases hk : kk < M
              · obtain ⟨z, hz⟩ : ∃ z, z = a + kk := ⟨_, rfl⟩
                have d1 : wr.cell? ⟨g, kk, none⟩ = some (.int .u32 (z : Int)) := by rw [hw2]; exact HC.out kk z (by omega) hz
                have d2 : wr.cell? ⟨g, kk + 1, none⟩ = some (.int .u32 ((z : Int) + 1)) := by rw [hw2]; exact HC.out (kk + 1) (z + 1) (by omega) (by omega)
                have hzb : z < 2147483800 := by omega
                have hkI : (kk : Int) < (M : Int) := by omega
                have hkI1 : (kk : Int) + 1 < (M : Int) + 1 := by omega
                have HW2 := Lib.hid hw2
                clear hz hw2
                go_wp2
                go_quiet (fail)
                go_wp2
                go_roundw
                case rel => exact ⟨kk + 1, q + nq, by go_num, by omega, by rw [HW2.out]; simp [World.drewN, Nat.add_assoc]⟩
                case measure => simp [intOf]; omega
              · have hkI : ¬ (kk : Int) < (M : Int) := by omega
                have HTq := Lib.hid (HTi.out.drewN q)
                rw [← hw2] at HTq
                clear hw2
                go_wp2
                go_roundw
                case rel => exact ⟨_, j + 1, _, _, _, _, by go_num, by go_num, hlt, HRO.out, HTq.out⟩
                case measure => simp [intOf]; omega
        · have CB := Lib.hid (HT.out.born x key LK.out (by rw [HRO.out.len]; exact hm) (HRO.out.next (by omega)) HRO.out.fresh)
          have HRO' := Lib.hid (HRO.out.born key hm)
          clear hd5
          go_wp2_with (first
            | (with_reducible refine wpList_val (o := ⟨some 32, _, _, _, _, _⟩) rfl (.pointer (some ⟨bl, off + j * 34, none⟩)) (run_idxAt (P := Try.prog) 34 39 41 (.tmp 30) (.tmp 31) rfl bl off N c j (by with_unfolding_all rfl) (by with_unfolding_all rfl) hlt Try.underlying39 Try.size34) ?_)
            | (with_reducible refine wpList_val (o := ⟨some 47, _, _, _, _, _⟩) rfl (.pointer (some ⟨bl, off + j * 34, none⟩)) (run_idxAt (P := Try.prog) 34 39 41 (.tmp 45) (.tmp 46) rfl bl off N c j (by with_unfolding_all rfl) (by with_unfolding_all rfl) hlt Try.underlying39 Try.size34) ?_)
            | (with_reducible refine wpList_loadK (o := ⟨some 49, _, _, _, _, _⟩) rfl 32 (.tmp 48) rfl bl (off + j * 34 + 2) (by with_unfolding_all rfl) key _ HKEY.out Try.underlying32 rfl (Try.sizeKeyM _ LK.out) ?_))
          refine CB.out.mono ?_
          rintro e w3 ⟨rfl, q3⟩
          have HT3 := Lib.hid q3
          clear q3 CB HT cD cI HKEY HRO hm
          generalize ks ++ [(x, key)] = ks' at HT3 HRO'
          obtain ⟨m', hm'⟩ : ∃ m', m' = m + 1 := ⟨_, rfl⟩
          rw [← hm'] at HRO'
          have hm1 : 0 < m' := by omega
          clear hm'
          have HT := HT3
          have HRO := HRO'
          clear HT3 HRO'
          have CI := Lib.hid (HT.out.ids (by rw [HRO.out.len]; have := HRO.out.six; omega))
          go_wp2_with fail
          refine CI.out.mono ?_
          rintro e wi ⟨vi, s, rfl, ⟨hp, hs⟩, hO, hB⟩
          have hse := sorted_eq (by rw [← HRO.out.ids]; exact hp) hs (range_le _ _)
          rw [hse] at hO
          have HTi := Lib.hid (HT.out.call hB)
          have HO := Lib.hid hO
          clear hp hs hse hO hB HT CI s
          rcases Nat.eq_zero_or_pos m' with hm0 | hm0
          · exact absurd hm0 (by omega)
          · obtain ⟨M, rfl⟩ : ∃ M, m' = M + 1 := ⟨m' - 1, by omega⟩
            obtain ⟨g, c', rfl, hcell⟩ := HO.out.us.cell (by simp)
            simp only [List.length_range'] at hcell ⊢
            obtain ⟨y, hyx⟩ : ∃ y, y = x := ⟨x, rfl⟩
            subst hyx
            have hsum : a + M = y := by have := HRO.out.sum; omega
            have hlo := HRO.out.lo
            have hsix := HRO.out.six
            have HC : Hid (∀ q z, q < M + 1 → z = a + q → wi.cell? ⟨g, q, none⟩ = some (.int .u32 (z : Int))) := fun q z hq hz => by
              have h := hcell q hq
              rw [List.getElem_range', Nat.one_mul, ← hz] at h
              exact h
            have cM : wi.cell? ⟨g, M, none⟩ = some (.int .u32 (y : Int)) := HC.out M y (by omega) hsum.symm
            have hg : decide ((first : Int) < (y : Int) + 1) = true := decide_eq_true (by omega)
            have hg2 : ((M : Int) + 1 == 0) = false := by rw [beq_eq_false_iff_ne]; omega
            have hg3 : decide (6 < (M : Int) + 1) = false := decide_eq_false (by omega)
            have HSUM := Lib.hid hsum
            have hM5 : M ≤ 5 := by omega
            have hab : a + M < 2147483800 := by omega
            clear hcell HO hm0 hsum hsix
            go_wp2
            clear cM hg hg2 hg3
            go_loopw [11] (fun k wr2 => ∃ kk q : Nat, k = .int .i64 ((kk : Int) + 1) ∧ kk ≤ M ∧ wr2 = wi.drewN q) (fun k _ => M + 1 - (intOf k).toNat)
            case atStart => exact ⟨0, 0, rfl, Nat.zero_le _, rfl⟩
            case round =>
              obtain ⟨kk, q, rfl, hkk, hw2⟩ := hrel
              by_cases hk : kk < M
              · obtain ⟨z, hz⟩ : ∃ z, z = a + kk := ⟨_, rfl⟩
                have d1 : wr.cell? ⟨g, kk, none⟩ = some (.int .u32 (z : Int)) := by rw [hw2]; exact HC.out kk z (by omega) hz
                have d2 : wr.cell? ⟨g, kk + 1, none⟩ = some (.int .u32 ((z : Int) + 1)) := by rw [hw2]; exact HC.out (kk + 1) (z + 1) (by omega) (by omega)
                have hzb : z < 2147483800 := by omega
                have hkI : (kk : Int) < (M : Int) := by omega
                have hkI1 : (kk : Int) + 1 < (M : Int) + 1 := by omega
                have HW2 := Lib.hid hw2
                clear hz hw2
                go_wp2
                go_quiet (fail)
                go_wp2
                go_roundw
                case rel => exact ⟨kk + 1, q + nq, by go_num, by omega, by rw [HW2.out]; simp [World.drewN, Nat.add_assoc]⟩
                case measure => simp [intOf]; omega
              · have hkI : ¬ (kk : Int) < (M : Int) := by omega
                have HTq := Lib.hid (HTi.out.drewN q)
                rw [← hw2] at HTq
                clear hw2
                go_wp2
                go_roundw
                case rel => exact ⟨_, j + 1, _, _, _, _, by go_num, by go_num, hlt, HRO.out, HTq.out⟩
                case measure => simp [intOf]; omega
    · have hge : ¬ (j : Int) < (N : Int) := by omega
      go_wp2
      go_ret
      exact ⟨rfl, HT.out.below⟩
end Go.Proofs.Ythipdfmaaeoijaa
end
section
namespace Go.Proofs.Ythipdfmaaeoijaa.epochsRow
open Go.ChangeShapes Go.WideShapes Go.ChangeAt Go.RowKit
open Go.ChangeMaps (open_string shut_string)
set_option linter.unusedVariables false

theorem own : ownKnob Try.prog.godebug = none := by kernel_rfl
theorem laidOut : laidOutB Try.prog = true := by kernel_rfl

set_option maxRecDepth 100000 in
theorem lifted (os : Os) (started : os.Started) (H : Type) (enc : TypeId × Value → H) :
    ReturnsInHanded {} Try.checked os 5 .any (Rows.epochsRowSpec.pre6 enc Try.prog Try.f5 Rows.epochsRowRow.domain false) (Rows.epochsRowSpec.post enc Try.prog Try.f5 false true false false) := by
  refine returnsInHanded_of_change (C := Try.checked) own started (by kernel_rfl) Try.func5
    (ChangeSpec.witness6 (enc := enc) (C := Try.checked) false ⟨#[], #[.int .u32 0, .slice none 0 0], []⟩ 8 (by kernel_rfl) (by kernel_rfl) (by kernel_rfl) (by kernel_rfl)) ?_
  intro W base args ds gs before hval0 hW hcnd _
  have hval : ∀ (j : Nat) t v, Try.f5.params[j]? = some t → args[j]? = some v → Value.okWide Try.prog W .any base t v := hval0
  have hW' := hW
  obtain ⟨p, q, hA0, hV, rfl, hfz, hnd⟩ := hW
  have hA : DataW.TrodAll enc Try.prog W 0 (fun _ => true) true Try.f5.params.toList args.toList ds p := hA0
  rw [Try.params5] at hA hval
  obtain ⟨v0, vs0, d0, ds0, p0, q0, hargs, rfl, rfl, h0, r0⟩ := trodAll_cons hA
  obtain ⟨v1, vs1, d1, ds1, p1, q1, rfl, rfl, rfl, h1, r1⟩ := trodAll_cons r0
  obtain ⟨rfl, rfl, rfl⟩ := trodAll_nil r1
  obtain rfl : args = #[v0, v1] := by cases args; simp_all
  obtain ⟨rfl, rfl⟩ := trodVars_none hV
  obtain ⟨a0, rfl, rfl, rfl, w0⟩ := open_int Try.underlying22 (hval 0 22 v0 rfl rfl) h0
  obtain ⟨n0, rfl⟩ := u32_of_wf w0
  obtain ⟨a1, len1, cap1, rfl⟩ := okWide_slice Try.underlying39 (hval 1 39 v1 rfl rfl)
  have k1 := h1
  have lt1 : ∀ x ∈ p1, x.block < W.heap.size := by obtain ⟨m, hm⟩ := k1; exact DataW.trod_lt m _ _ _ hm
  obtain ⟨l1, w1⟩ : ∃ l : List OpE, OpEs W (.slice a1 len1 cap1) l := by
    obtain ⟨fuel, hf⟩ := h1
    obtain ⟨v, l, hcs, hl⟩ := open_opes hf
    simp [Value.cells] at hcs
    exact ⟨l, hcs ▸ hl⟩
  clear hA0 hval0
  refine (epochsRow_walk W n0.toNat n0.toNat_lt _ l1 w1).mono fun e W' ⟨he, bel⟩ => ?_
  subst he
  exact ⟨_, rfl, _, _, _, [], _, [], hW', trodAll_mk1 (shut_bool Try.underlying4 _), (trodAll_cons_mk (shut_int Try.underlying22 w0) (trodAll_cons_mk (Below.trod laidOut (by kernel_rfl) (of_decide_eq_true (by kernel_rfl)) k1 bel lt1) trodAll_mk0)), rfl, bel.frame _, fun h => by cases h⟩

theorem over : Rows.epochsRowRow.holds Try.pinned (OpenSpec.ofChange Rows.epochsRowSpec) :=
  OpenClaim.holds_of_wide 5 Try.f5 rfl rfl rfl rfl rfl rfl rfl ⟨rfl, rfl, rfl, rfl, rfl⟩ rfl rfl rfl rfl rfl (by kernel_rfl) Try.func5 (by kernel_rfl)
    (of_decide_eq_true (by kernel_rfl)) (by unfold Func.isWrapper; first | (rw [if_pos (by decide +kernel)]; kernel_rfl) | (rw [if_neg (by decide +kernel)]; exact ⟨rfl, rfl⟩))
    (fun os started H enc _ => lifted os started H enc)

theorem proved : Rows.EpochsRowSaid := over
#print axioms proved
end Go.Proofs.Ythipdfmaaeoijaa.epochsRow
end
