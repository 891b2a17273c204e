/-
  Texts that belong together, merged: DrwE, KeysEq, DrwF, Fill, DrwG, Val, DrwH, Only, DrwI, OpenRx, DrwOpen. Conditions: as each theorem names them.
-/
import Derived.Test.YtjlhmcnajgafgaaDoorQDrwAK
import Derived.Test.YtjlhmcnajgafgaaDoorQDrwAH
import Derived.Test.YtjlhmcnajgafgaaDoorQDrwAA
import Derived.Test.YtjlhmcnajgafgaaDoorQDrwAD
import Derived.OpenShut
import Derived.ChangeArms
import Derived.Deep.MidRow
section
namespace Go.Proofs.YtjlhmcnajgafgaaDoor
open Go.RowKit
set_option linter.unusedVariables false
set_option maxRecDepth 20000

set_option maxHeartbeats 8000000 in
theorem refSome_env (w0 w : World) (rs : List (Nat × TypeId × Array Value)) (m g n i b : Nat) (hE : Env w0 rs w) (hm : rs[m]? = some (g, 32, logC n)) (hn : n ≤ 800000) (s : List UInt8) (k : Nat) (hs : s.length = 32) (hi : rs[i]? = some (b, 37, srcC s k))
    (j lb : Nat) (ls : List ByteArray) (hj : rs[j]? = some (lb, 9, labC ls)) (hll : ls.length ≤ 100) (hls : ∀ l ∈ ls, l.size ≤ 1000) (hk : k + ls.length ≤ 18446744073709551615) :
    Calls Tryd.prog 10 #[.pointer (some ⟨b, 0, none⟩), .pointer (some ⟨g, 0, none⟩), .slice (some ⟨lb, 0, none⟩) ls.length ls.length] w fun e w' => ∃ v n' ex, n' ≤ n + 3 * ls.length ∧ e = .returned (.tuple #[v, .int .i64 0]) ∧ exRow v (drawsB s k ls ls.length) (topOf rs) ex ∧ Env w0 (two rs m (g, 32, logC n') i (b, 37, srcC s (k + ls.length)) ++ ex) w' := by
  have E0 := Lib.hid hE
  have HM := Lib.hid hm
  have HI := Lib.hid hi
  have LS := Lib.hid hs
  have hmi : m ≠ i := fun e => by
    rw [← e, hm] at hi
    injection hi with hi
    injection hi with _ hi
    injection hi with hi
    exact absurd hi (by decide)
  have hmj : m ≠ j := fun e => by
    rw [← e, hm] at hj
    injection hj with hj
    injection hj with _ hj
    injection hj with hj
    exact absurd hj (by decide)
  have hij : i ≠ j := fun e => by
    rw [← e, hi] at hj
    injection hj with hj
    injection hj with _ hj
    injection hj with hj
    exact absurd hj (by decide)
  obtain ⟨N, hN⟩ : ∃ N, N = ls.length := ⟨_, rfl⟩
  have HN := Lib.hid hN
  rw [← hN] at hll hk ⊢
  have E1 : Hid (Env w0 (two rs m (g, 32, logC n) i (b, 37, srcC s (k + 0)) ++ []) w) := by
    show Env _ _ _
    rw [List.append_nil, Nat.add_zero, two_id hm hi]
    exact hE
  have CN : Hid (∀ x n' c ex lab, c < N → n' ≤ 800000 + 3 * c → lab.size ≤ 1000 → Env w0 (two rs m (g, 32, logC n') i (b, 37, srcC s (k + c)) ++ ex) x → Calls Tryd.prog 8 #[.pointer (some ⟨b, 0, none⟩), .pointer (some ⟨g, 0, none⟩), .string lab] x fun e w' => ∃ n'', n'' ≤ n' + 3 ∧ e = .returned (.tuple #[.agg (keyC (drawB s (k + c) lab)), .int .i64 0]) ∧ Env w0 (two rs m (g, 32, logC n'') i (b, 37, srcC s (k + (c + 1))) ++ ex) w') := fun x n' c ex lab h1 h2 h3 h4 => by
    refine (refNext_env w0 x _ m g n' i b h4 (at_left (two_m hm hmi)) (by omega) s (k + c) LS.out (at_left (two_i hi)) (by omega) lab h3).mono fun e w' h => ?_
    obtain ⟨n'', h5, h6, h7⟩ := h
    rw [two_ex hm hi hmi] at h7
    exact ⟨n'', h5, h6, h7⟩
  have HC : Hid (∀ x n' c ex lab, ls[c]? = some lab → Env w0 (two rs m (g, 32, logC n') i (b, 37, srcC s (k + c)) ++ ex) x → x.cell? ⟨lb, c, none⟩ = some (.string lab)) := fun x n' c ex lab h1 h2 =>
    h2.cellV j (at_left ((two_j hmj hij).trans hj)) c _ (by simp [labC, h1])
  have HB : Hid (∀ n' c, ∀ r ∈ two rs m (g, 32, logC n') i (b, 37, srcC s (k + c)), r.1 < topOf rs) := fun n' c r hr => by
    rw [← two_top (x := (g, 32, logC n')) (y := (b, 37, srcC s (k + c))) hm hi hmi rfl rfl]
    exact lt_topOf r hr
  have HBL : Hid (∀ n' c ex x, Env w0 (two rs m (g, 32, logC n') i (b, 37, srcC s (k + c)) ++ ex) x → topOf rs ≤ x.heap.size) := fun n' c ex x h => by
    rw [← two_top (x := (g, 32, logC n')) (y := (b, 37, srcC s (k + c))) hm hi hmi rfl rfl]
    exact topOf_le fun r hr => (h.rows r (List.mem_append_left _ hr)).1.lt
  have HW : Hid (w0.heap.size ≤ topOf rs) := Nat.le_trans (hE.spot m hm) (Nat.le_of_lt (lt_topOf _ (List.mem_of_getElem? hm)))
  have LD : Hid (∀ c lab, (drawB s (k + c) lab).length = 32) := fun c lab => drawB_length _ _ _
  have DL : Hid (∀ c, ∀ l ∈ drawsB s k ls c, l.length = 32) := fun c l h => drawsB_len s k ls c l h
  have HNX : Hid (∀ c lab, ls[c]? = some lab → drawsB s k ls (c + 1) = drawsB s k ls c ++ [drawB s (k + c) lab]) := fun c lab h => drawsB_next s k ls c lab h
  have HSZ : Hid (∀ c, c < N → ∃ lab, ls[c]? = some lab ∧ lab.size ≤ 1000) := fun c h => ⟨ls[c]'(by omega), List.getElem?_eq_getElem _, hls _ (List.getElem_mem _)⟩
  have DN : Hid (∀ c, (drawsB s k ls c).length = c) := fun c => drawsB_length s k ls c
  have HD0 : Hid (drawsB s k ls 0 = []) := rfl
  obtain ⟨l, hl⟩ : ∃ l, l = 18446744073709551615 - k := ⟨_, rfl⟩
  have hlN : ¬ ((l : Int) < (N : Int)) := by omega
  have hlN2 : ¬ (l < N) := by omega
  have hlN3 : decide (l < N) = false := by simpa using hlN2
  have ck := hE.cellV i hi 32 _ (srcC_32 s k hs)
  have hw1 : IntKind.u64.wrap (18446744073709551615 - (k : Int)) = (l : Int) := by rw [IntKind.wrap_u64]; omega
  have HKN : Hid (k + N ≤ 18446744073709551615) := hk
  clear hm hi hj hE hs hmi hmj hij hN hls hl hk
  generalize topOf rs = base at HB HBL HW ⊢
  generalize drawsB s k ls = D at DL HNX DN HD0 ⊢
  go_enter Tryd.func10, Tryd.ntmps10
  go_wp2_with fail
  have E2 := E1
  clear E1 E0 ck
  go_loopw [8, 9] (fun v q wr => ∃ (c n' : Nat) (ex : List (Nat × TypeId × Array Value)), c ≤ N ∧ n' ≤ n + 3 * c ∧ q = .int .i64 (c : Int) ∧ exRow v (D c) base ex ∧ Env w0 (two rs m (g, 32, logC n') i (b, 37, srcC s (k + c)) ++ ex) wr) (fun _ q _ => N - (intOf q).toNat)
  case atStart => exact ⟨0, n, [], by omega, by omega, rfl, .inl ⟨rfl, rfl, HD0.out⟩, E2.out⟩
  case round =>
    clear E2
    obtain ⟨c, n', ex, hc, hn', rfl, hX, hE⟩ := hrel
    have X := Lib.hid hX
    have E := Lib.hid hE
    clear hX hE
    by_cases hlt : c < N
    · have hlt2 : (c : Int) < (N : Int) := by omega
      have hw2 : IntKind.i64.wrap ((c : Int) + 1) = (c : Int) + 1 := IntWalk.i64_in _ (by omega)
      have hq0 : ¬ ((c : Int) < 0) := by omega
      obtain ⟨lab, hlab, hsz⟩ := HSZ.out c hlt
      have HL := Lib.hid hlab
      have cl := HC.out wr n' c ex lab hlab E.out
      have CNC := Lib.hid (CN.out wr n' c ex lab hlt (by omega) hsz E.out)
      have NXC := Lib.hid (HNX.out c lab hlab)
      have DNC : Hid ((D c).length ≤ 1000) := by show _ ≤ _; rw [DN.out]; omega
      have LDD := Lib.hid (LD.out c lab)
      generalize drawB s (k + c) lab = d at CNC NXC LDD
      clear hlab hsz
      go_wp2_with fail
      refine CNC.out.mono ?_
      intro e w3 h
      obtain ⟨n3, hn3, he, h3⟩ := h
      subst he
      have E3 := Lib.hid h3
      clear h3 CNC cl
      go_wp2_with (first
        | ((with_reducible refine wpE_alloc (o := ⟨some 10, _, _, _, _, _⟩) rfl 23 rfl (keyC zeroKey) Tryd.zeroK E3.out ?_); intro g1 w4 T4; have E4 := Lib.hid T4; clear T4)
        | ((with_reducible refine wpE_store (o := ⟨none, _, _, _, _, _⟩) rfl 23 (.tmp 10) (.tmp 35) rfl 0 g1 23 (keyC zeroKey) (keyC d) (by with_unfolding_all rfl) (by with_unfolding_all rfl) (by with_unfolding_all rfl) (keyC_same zeroKey_length LDD.out) (Tryd.sizeKey _ LDD.out) (keyC_one _) E4.out ?_); intro w5 T5; simp only [List.set_cons_zero] at T5; have E5 := Lib.hid T5; clear T5)
        | (with_reducible refine wpE_load (o := ⟨some 38, _, _, _, _, _⟩) rfl 23 (.tmp 10) rfl 0 g1 23 (keyC d) _ (by with_unfolding_all rfl) (by with_unfolding_all rfl) Tryd.underlying23 rfl (Tryd.sizeKey _ LDD.out) E5.out ?_)
        | ((with_reducible refine wpList_oneKey (o := ⟨some 39, _, _, _, _, _⟩) rfl (.tmp 38) rfl d LDD.out (by with_unfolding_all rfl) ?_); intro g6 w6 r6 b6; have R6 := Lib.hid r6; have E6 := Lib.hid (E5.out.tl.call b6); clear r6 b6)
        | (at_builtin; refine wpList_appKeyE rfl (.tmp 37) (.tmp 39) 40 rfl (by kernel_rfl) Tryd.underlying40 base u8 (D c) d g6 rfl rfl R6.out LDD.out (DL.out c) X.out E6.out (HB.out n3 (c + 1)) HW.out (HBL.out n3 (c + 1) _ _ E6.out) DNC.out ?_; intro v7 w7 ex7 X7 T7; have X8 := Lib.hid X7; have E7 := Lib.hid T7; clear X7 T7))
      try go_roundw
      · exact ⟨c + 1, n3, ex7, by omega, by omega, by congr 1, by rw [NXC.out]; exact X8.out, E7.out⟩
      · show N - ((c : Int) + 1).toNat < N - (c : Int).toNat
        omega
    · have hc2 : c = N := by omega
      clear hlt
      subst hc2
      go_wp2_with fail
      exact bodyPost_ret (results_tmp2 rfl _ _ _) rfl ⟨_, n', ex, hn', rfl, X.out, E.out⟩
set_option maxHeartbeats 2000000 in
theorem refSome_not (w0 w : World) (rs : List (Nat × TypeId × Array Value)) (i b : Nat) (hE : Env w0 rs w) (s : List UInt8) (k : Nat) (hs : s.length = 32) (hi : rs[i]? = some (b, 37, srcC s k)) (M : Value) (A : Option Addr) (N c : Nat) (hN : N ≤ 100) (hk0 : k ≤ 18446744073709551615) (hk : 18446744073709551615 < k + N) :
    Calls Tryd.prog 10 #[.pointer (some ⟨b, 0, none⟩), M, .slice A N c] w (RetV w (.tuple #[.slice none 0 0, .int .i64 70])) := by
  obtain ⟨l, hl⟩ : ∃ l, l = 18446744073709551615 - k := ⟨_, rfl⟩
  have hlN : (l : Int) < (N : Int) := by omega
  have ck := hE.cellV i hi 32 _ (srcC_32 s k hs)
  have hw1 : IntKind.u64.wrap (18446744073709551615 - (k : Int)) = (l : Int) := by rw [IntKind.wrap_u64]; omega
  clear hi hE hs hk hl
  go_enter Tryd.func10, Tryd.ntmps10
  go_wp2_with fail
  exact bodyPost_ret (results_tmp2 rfl _ _ _) rfl ⟨rfl, Below.refl _ _⟩
end Go.Proofs.YtjlhmcnajgafgaaDoor
end
section
namespace Go.Proofs.YtjlhmcnajgafgaaDoor
open Go.RowKit
set_option linter.unusedVariables false
set_option maxRecDepth 20000

theorem take_same {L M : List (List UInt8)} {k : Nat} {l m : List UInt8} (h : L.take k = M.take k) (hl : L[k]? = some l) (hm : M[k]? = some m) (e : l = m) : L.take (k + 1) = M.take (k + 1) := by
  rw [List.take_add_one, List.take_add_one, h, hl, hm, e]
theorem take_other {L M : List (List UInt8)} {k : Nat} {l m : List UInt8} (hl : L[k]? = some l) (hm : M[k]? = some m) (e : l ≠ m) : (L == M) = false := by
  rw [beq_eq_false_iff_ne]
  intro h
  rw [h, hm] at hl
  exact e (Option.some.inj hl).symm
set_option maxHeartbeats 2000000 in
theorem refKeys_eq (w : World) (va vb : Value) (L M : List (List UInt8)) (ha : Kl w va L) (hb : Kl w vb M) (hL1 : L.length ≤ 1000) :
    Calls Tryd.prog 13 #[va, vb] w fun e w' => e = .returned (.bool (L == M)) ∧ Below w.heap.size w w' := by
  by_cases hlen : L.length = M.length
  · obtain ⟨A, ca, rfl, p1, p2, p3, p4⟩ := ha
    obtain ⟨B, cb, rfl, q1, q2, q3, q4⟩ := hb
    have HL := Lib.hid p3
    have HM := Lib.hid q3
    unfold maxLen at p2 q2
    obtain ⟨n, hn⟩ : ∃ n, n = L.length := ⟨_, rfl⟩
    rw [← hlen] at q1 q4 ⊢
    rw [← hn] at p1 p4 q1 q4 hL1 hlen ⊢
    have HLN := Lib.hid hn
    have HMN := Lib.hid hlen
    clear hn p3 q3 hlen
    by_cases h0 : 0 < n
    · obtain ⟨ga, oa, rfl, hca⟩ := p4 h0
      obtain ⟨gb, ob, rfl, hcb⟩ := q4 h0
      have RA0 : Hid (∀ (k : Nat) (l : List UInt8), L[k]? = some l → ∀ W, Below w.heap.size w W → W.rangeAt ga (oa + k * 32) (cellsB l)) := fun k l hk W hW j u hj => (hW.cell (World.block_lt_of_cell? w _ (hca k l hk j u hj))).trans (hca k l hk j u hj)
      have RB0 : Hid (∀ (k : Nat) (l : List UInt8), M[k]? = some l → ∀ W, Below w.heap.size w W → W.rangeAt gb (ob + k * 32) (cellsB l)) := fun k l hk W hW j u hj => (hW.cell (World.block_lt_of_cell? w _ (hcb k l hk j u hj))).trans (hcb k l hk j u hj)
      clear p4 q4 hca hcb h0
      go_enter Tryd.func13, Tryd.ntmps13
      go_wp2_with fail
      go_loopw [5] (fun v wr => ∃ k : Nat, k ≤ n ∧ v = .int .i64 (k : Int) ∧ Hid (L.take k = M.take k) ∧ Below w.heap.size w wr) (fun v _ => n - (intOf v).toNat)
      case atStart => exact ⟨0, by omega, rfl, rfl, Below.refl _ _⟩
      case round =>
        obtain ⟨k, hk, rfl, HT, hE⟩ := hrel
        have E := Lib.hid hE
        clear hE
        by_cases hlt : k < n
        · have hlt2 : (k : Int) < (n : Int) := by omega
          have hw1 : IntKind.i64.wrap ((k : Int) + 1) = (k : Int) + 1 := IntWalk.i64_in _ (by omega)
          have hq0 : ¬ ((k : Int) < 0) := by omega
          obtain ⟨l, hl⟩ : ∃ l, L[k]? = some l := ⟨_, List.getElem?_eq_getElem (by rw [← HLN.out]; exact hlt)⟩
          obtain ⟨m, hm⟩ : ∃ m, M[k]? = some m := ⟨_, List.getElem?_eq_getElem (by rw [← HMN.out]; exact hlt)⟩
          have LL : Hid (l.length = 32) := HL.out l (List.mem_of_getElem? hl)
          have LM : Hid (m.length = 32) := HM.out m (List.mem_of_getElem? hm)
          have RA := Lib.hid (RA0.out k l hl)
          have RB := Lib.hid (RB0.out k m hm)
          have heq := fun W => Tryd.eqKeyIn l m LL.out LM.out W
          by_cases he : l = m
          · have HT2 : Hid (L.take (k + 1) = M.take (k + 1)) := take_same HT.out hl hm he
            rw [show (l == m) = true by simp [he]] at heq
            have HEQ := Lib.hid heq
            clear hl hm RA0 RB0 HL HM heq he
            go_wp2_with fail
            refine region_class (fun W => Below w.heap.size w W) E.out.drew (by kernel_rfl) (by kernel_rfl) ?_
            clear E
            refine q_run (by rfl) (v := .slice (some ⟨ga, oa, none⟩) n ca) (fun W hW => by first | rfl | (clear hW; go_simp)) ?_
            try simp only [Act.put, List.setIfInBounds_toArray, List.set_cons_zero, List.set_cons_succ]
            refine q_run (by rfl) (v := .int .i64 (k : Int)) (fun W hW => by first | rfl | (clear hW; go_simp)) ?_
            try simp only [Act.put, List.setIfInBounds_toArray, List.set_cons_zero, List.set_cons_succ]
            refine q_run (by rfl) (v := .pointer (some ⟨ga, oa + k * 32, none⟩)) (fun W hW => by first | rfl | (clear hW; go_simp)) ?_
            try simp only [Act.put, List.setIfInBounds_toArray, List.set_cons_zero, List.set_cons_succ]
            refine q_run (by rfl) (v := .agg (keyC l)) (fun W hW => run_keyL 23 (.tmp 19) rfl ga (oa + k * 32) rfl l _ (RA.out W hW) Tryd.underlying23 rfl (Tryd.sizeKeyM l LL.out)) ?_
            try simp only [Act.put, List.setIfInBounds_toArray, List.set_cons_zero, List.set_cons_succ]
            refine q_run (by rfl) (v := .slice (some ⟨gb, ob, none⟩) n cb) (fun W hW => by first | rfl | (clear hW; go_simp)) ?_
            try simp only [Act.put, List.setIfInBounds_toArray, List.set_cons_zero, List.set_cons_succ]
            refine q_run (by rfl) (v := .int .i64 (k : Int)) (fun W hW => by first | rfl | (clear hW; go_simp)) ?_
            try simp only [Act.put, List.setIfInBounds_toArray, List.set_cons_zero, List.set_cons_succ]
            refine q_run (by rfl) (v := .pointer (some ⟨gb, ob + k * 32, none⟩)) (fun W hW => by first | rfl | (clear hW; go_simp)) ?_
            try simp only [Act.put, List.setIfInBounds_toArray, List.set_cons_zero, List.set_cons_succ]
            refine q_run (by rfl) (v := .agg (keyC m)) (fun W hW => run_keyL 23 (.tmp 23) rfl gb (ob + k * 32) rfl m _ (RB.out W hW) Tryd.underlying23 rfl (Tryd.sizeKeyM m LM.out)) ?_
            try simp only [Act.put, List.setIfInBounds_toArray, List.set_cons_zero, List.set_cons_succ]
            refine q_run (by rfl) (v := .bool false) (fun W hW => by have he := HEQ.out; have hgd := Tryd.eqGuardKey; clear hW; go_simp) ?_
            try simp only [Act.put, List.setIfInBounds_toArray, List.set_cons_zero, List.set_cons_succ]
            refine wpQuiet_nil ?_
            intro w7 hw7
            have E7 := Lib.hid hw7
            clear hw7
            go_wp2_with fail
            refine ⟨⟨k + 1, by omega, by congr 1, HT2, E7.out⟩, ?_⟩
            show n - ((k : Int) + 1).toNat < n - (k : Int).toNat
            omega
          · have HT2 : Hid ((L == M) = false) := take_other hl hm he
            rw [show (l == m) = false by simp [he]] at heq
            have HEQ := Lib.hid heq
            clear hl hm RA0 RB0 HL HM heq he
            go_wp2_with fail
            refine region_class (fun W => Below w.heap.size w W) E.out.drew (by kernel_rfl) (by kernel_rfl) ?_
            clear E
            refine q_run (by rfl) (v := .slice (some ⟨ga, oa, none⟩) n ca) (fun W hW => by first | rfl | (clear hW; go_simp)) ?_
            try simp only [Act.put, List.setIfInBounds_toArray, List.set_cons_zero, List.set_cons_succ]
            refine q_run (by rfl) (v := .int .i64 (k : Int)) (fun W hW => by first | rfl | (clear hW; go_simp)) ?_
            try simp only [Act.put, List.setIfInBounds_toArray, List.set_cons_zero, List.set_cons_succ]
            refine q_run (by rfl) (v := .pointer (some ⟨ga, oa + k * 32, none⟩)) (fun W hW => by first | rfl | (clear hW; go_simp)) ?_
            try simp only [Act.put, List.setIfInBounds_toArray, List.set_cons_zero, List.set_cons_succ]
            refine q_run (by rfl) (v := .agg (keyC l)) (fun W hW => run_keyL 23 (.tmp 19) rfl ga (oa + k * 32) rfl l _ (RA.out W hW) Tryd.underlying23 rfl (Tryd.sizeKeyM l LL.out)) ?_
            try simp only [Act.put, List.setIfInBounds_toArray, List.set_cons_zero, List.set_cons_succ]
            refine q_run (by rfl) (v := .slice (some ⟨gb, ob, none⟩) n cb) (fun W hW => by first | rfl | (clear hW; go_simp)) ?_
            try simp only [Act.put, List.setIfInBounds_toArray, List.set_cons_zero, List.set_cons_succ]
            refine q_run (by rfl) (v := .int .i64 (k : Int)) (fun W hW => by first | rfl | (clear hW; go_simp)) ?_
            try simp only [Act.put, List.setIfInBounds_toArray, List.set_cons_zero, List.set_cons_succ]
            refine q_run (by rfl) (v := .pointer (some ⟨gb, ob + k * 32, none⟩)) (fun W hW => by first | rfl | (clear hW; go_simp)) ?_
            try simp only [Act.put, List.setIfInBounds_toArray, List.set_cons_zero, List.set_cons_succ]
            refine q_run (by rfl) (v := .agg (keyC m)) (fun W hW => run_keyL 23 (.tmp 23) rfl gb (ob + k * 32) rfl m _ (RB.out W hW) Tryd.underlying23 rfl (Tryd.sizeKeyM m LM.out)) ?_
            try simp only [Act.put, List.setIfInBounds_toArray, List.set_cons_zero, List.set_cons_succ]
            refine q_run (by rfl) (v := .bool true) (fun W hW => by have he := HEQ.out; have hgd := Tryd.eqGuardKey; clear hW; go_simp) ?_
            try simp only [Act.put, List.setIfInBounds_toArray, List.set_cons_zero, List.set_cons_succ]
            refine wpQuiet_nil ?_
            intro w7 hw7
            have E7 := Lib.hid hw7
            clear hw7
            go_wp2_with fail
            go_ret
            exact ⟨by rw [HT2.out]; rfl, E7.out⟩
        · have hk2 : k = n := by omega
          have HT2 : Hid ((L == M) = true) := by
            show _ = _
            have h1 := HT.out
            rw [List.take_of_length_le (by rw [hk2, HLN.out]; exact Nat.le_refl _), List.take_of_length_le (by rw [hk2, HMN.out]; exact Nat.le_refl _)] at h1
            simp [h1]
          clear hlt HT
          subst hk2
          go_wp2_with fail
          go_ret
          exact ⟨by rw [HT2.out]; rfl, E.out⟩
    · obtain rfl : n = 0 := by omega
      have HT2 : Hid ((L == M) = true) := by
        show _ = _
        rw [List.eq_nil_of_length_eq_zero HLN.out.symm, List.eq_nil_of_length_eq_zero HMN.out.symm]; rfl
      clear p4 q4 h0
      go_enter Tryd.func13, Tryd.ntmps13
      go_wp2_with fail
      go_loopw [5] (fun v wr => v = .int .i64 0 ∧ Below w.heap.size w wr) (fun v _ => 0)
      case atStart => exact ⟨rfl, Below.refl _ _⟩
      case round =>
        obtain ⟨rfl, hE⟩ := hrel
        have E := Lib.hid hE
        clear hE
        go_wp2_with fail
        go_ret
        exact ⟨by rw [HT2.out]; rfl, E.out⟩
  · have HT2 : Hid ((L == M) = false) := by
      show _ = _
      rw [beq_eq_false_iff_ne]
      exact fun h => hlen (by rw [h])
    obtain ⟨A, ca, rfl, p1, p2, _, _⟩ := ha
    obtain ⟨B, cb, rfl, q1, q2, _, _⟩ := hb
    unfold maxLen at p2 q2
    have d : ((L.length : Int) != (M.length : Int)) = true := by simp; omega
    have l1 : L.length ≤ 9223372036854775807 := by omega
    have l2 : M.length ≤ 9223372036854775807 := by omega
    clear p1 p2 q1 q2 hlen hL1
    go_enter Tryd.func13, Tryd.ntmps13
    go_wp2_with fail
    go_ret
    exact ⟨by rw [HT2.out]; rfl, Below.refl _ _⟩
end Go.Proofs.YtjlhmcnajgafgaaDoor
end
section
namespace Go.Proofs.YtjlhmcnajgafgaaDoor
open Go.RowKit
set_option linter.unusedVariables false
set_option maxRecDepth 20000

set_option maxHeartbeats 400000 in
theorem jump_env (w0 w : World) (rs : List (Nat × TypeId × Array Value)) (i b : Nat) (hE : Env w0 rs w) (s : List UInt8) (k : Nat) (hs : s.length = 32) (hi : rs[i]? = some (b, 35, srcC s k)) (x : Nat) (hx : k ≤ x) :
    Calls Tryd.prog 11 #[.pointer (some ⟨b, 0, none⟩), .int .u64 (x : Int)] w fun e w' => e = .returned (.int .i64 0) ∧ Env w0 (rs.set i (b, 35, srcC s x)) w' := by
  have c := hE.cellV i hi 32 _ (srcC_32 s k hs)
  have f := hE.fzV i hi 32
  have hx1 : ¬ (x < k) := by omega
  have E1 := Lib.hid (hE.cellTo i hi 32 (.int .u64 (x : Int)) (srcC_set s k hs x))
  clear hE hi hs hx
  go_enter Tryd.func11, Tryd.ntmps11
  go_wp2
  go_ret
  exact ⟨rfl, E1.out⟩
set_option maxHeartbeats 400000 in
theorem jump_not (w0 w : World) (rs : List (Nat × TypeId × Array Value)) (i b : Nat) (hE : Env w0 rs w) (s : List UInt8) (k : Nat) (hs : s.length = 32) (hi : rs[i]? = some (b, 35, srcC s k)) (x : Nat) (hx : x < k) :
    Calls Tryd.prog 11 #[.pointer (some ⟨b, 0, none⟩), .int .u64 (x : Int)] w fun e w' => e = .returned (.int .i64 70) ∧ Env w0 rs w' := by
  have c := hE.cellV i hi 32 _ (srcC_32 s k hs)
  have E1 := Lib.hid hE
  clear hE hi hs
  go_enter Tryd.func11, Tryd.ntmps11
  go_wp2
  go_ret
  exact ⟨rfl, E1.out⟩

set_option maxHeartbeats 400000 in
theorem refJump_env (w0 w : World) (rs : List (Nat × TypeId × Array Value)) (i b : Nat) (hE : Env w0 rs w) (s : List UInt8) (k : Nat) (hs : s.length = 32) (hi : rs[i]? = some (b, 37, srcC s k)) (x : Nat) (hx : k ≤ x) :
    Calls Tryd.prog 12 #[.pointer (some ⟨b, 0, none⟩), .int .u64 (x : Int)] w fun e w' => e = .returned (.int .i64 0) ∧ Env w0 (rs.set i (b, 37, srcC s x)) w' := by
  have c := hE.cellV i hi 32 _ (srcC_32 s k hs)
  have f := hE.fzV i hi 32
  have hx1 : ¬ (x < k) := by omega
  have E1 := Lib.hid (hE.cellTo i hi 32 (.int .u64 (x : Int)) (srcC_set s k hs x))
  clear hE hi hs hx
  go_enter Tryd.func12, Tryd.ntmps12
  go_wp2
  go_ret
  exact ⟨rfl, E1.out⟩
set_option maxHeartbeats 400000 in
theorem refJump_not (w0 w : World) (rs : List (Nat × TypeId × Array Value)) (i b : Nat) (hE : Env w0 rs w) (s : List UInt8) (k : Nat) (hs : s.length = 32) (hi : rs[i]? = some (b, 37, srcC s k)) (x : Nat) (hx : x < k) :
    Calls Tryd.prog 12 #[.pointer (some ⟨b, 0, none⟩), .int .u64 (x : Int)] w fun e w' => e = .returned (.int .i64 70) ∧ Env w0 rs w' := by
  have c := hE.cellV i hi 32 _ (srcC_32 s k hs)
  have E1 := Lib.hid hE
  clear hE hi hs
  go_enter Tryd.func12, Tryd.ntmps12
  go_wp2
  go_ret
  exact ⟨rfl, E1.out⟩
end Go.Proofs.YtjlhmcnajgafgaaDoor
end
section
namespace Go.Proofs.YtjlhmcnajgafgaaDoor
open Go.RowKit
set_option linter.unusedVariables false

theorem fill_part (z : List Value) (off : Nat) (l : List Value) (h : off + l.length ≤ z.length) : l.toArray.zipIdx.foldl (fun acc x => acc.setIfInBounds (off + x.2) x.1) z.toArray = (z.take off ++ l ++ z.drop (off + l.length)).toArray := by
  have key : ∀ (l : List Value) (k : Nat) (acc : List Value), off + k + l.length ≤ acc.length → (l.zipIdx k).foldl (fun (acc : Array Value) x => acc.setIfInBounds (off + x.2) x.1) acc.toArray = (acc.take (off + k) ++ l ++ acc.drop (off + k + l.length)).toArray := by
    intro l
    induction l with
    | nil => intro k acc h; simp
    | cons v l ih =>
      intro k acc h
      rw [List.length_cons] at h
      rw [List.zipIdx_cons, List.foldl_cons]
      have e : (acc.toArray.setIfInBounds (off + k) v) = (acc.set (off + k) v).toArray := by simp
      rw [e, ih (k + 1) (acc.set (off + k) v) (by rw [List.length_set]; omega)]
      congr 1
      rw [List.take_set, List.drop_set_of_lt (by omega), List.length_cons, show off + (k + 1) = off + k + 1 by omega, List.take_succ_eq_append_getElem (by omega), List.set_append_right _ _ (by rw [List.length_take]; omega), List.length_take, Nat.min_eq_left (by omega), Nat.sub_self, List.set_cons_zero]
      simp only [List.append_assoc, List.cons_append, List.nil_append]
      rw [show off + k + 1 + l.length = off + k + (l.length + 1) by omega]
  have := key l 0 z (by simpa using h)
  simpa using this
end Go.Proofs.YtjlhmcnajgafgaaDoor
end
section
namespace Go.Proofs.YtjlhmcnajgafgaaDoor
open Go.RowKit
set_option linter.unusedVariables false
set_option maxRecDepth 20000

def oneK : List UInt8 := 1 :: List.replicate 31 0
def labA : ByteArray := ⟨#[97]⟩
set_option maxHeartbeats 4000000 in
theorem draws_apart : drawB oneK 0 labA ≠ drawB oneK 1 labA := by decide +kernel

theorem src_fill1 (s : List UInt8) (hs : s.length = 32) : ((srcL zeroKey 0).take 0 ++ cellsB s ++ (srcL zeroKey 0).drop (0 + (cellsB s).length)) = srcL s 0 := by
  rw [cellsB_length, hs, srcL, List.take_zero, List.nil_append, Nat.zero_add, List.drop_left' (by simp [cellsB_length, zeroKey_length]), srcL]
theorem srcL_length (s : List UInt8) (k : Nat) (hs : s.length = 32) : (srcL s k).length = 33 := by simp [srcL, cellsB_length, hs]
theorem src_fillC (s : List UInt8) (hs : s.length = 32) : Array.foldl (fun (acc : Array Value) x => acc.setIfInBounds (0 + x.2) x.1) (srcL zeroKey 0).toArray (keyC s).zipIdx 0 (keyC s).size = (srcL s 0).toArray := by
  have hf := fill_part (srcL zeroKey 0) 0 (cellsB s) (by rw [cellsB_length, hs, srcL_length _ _ zeroKey_length]; omega)
  rw [src_fill1 s hs] at hf
  have hss : (keyC s).size = ((keyC s).zipIdx).size := by simp
  rw [hss]
  exact hf
theorem Tryd.zero_draws : (Tryd.prog.info? 35).map (·.zero) = some (some (.agg (srcC zeroKey 0))) := by kernel_rfl
theorem build_draws (w : World) (s : List UInt8) (k : Nat) (hs : s.length = 32) :
    (Instr.build 35 #[(0, .agg (keyC s)), (1, .int .u64 (k : Int))]).run Tryd.prog w = .ok (.agg (srcC s k)) w := by
  obtain ⟨j, hj, hj2⟩ := Option.map_eq_some_iff.1 Tryd.zero_draws
  obtain ⟨i, hi, hi2⟩ := Option.map_eq_some_iff.1 (Tryd.sizeKey s hs)
  obtain ⟨iu, hiu, hiu2⟩ := Option.map_eq_some_iff.1 (by kernel_rfl : (Tryd.prog.info? 24).map (·.size) = some 1)
  have hu := Tryd.underlying35
  have kf := src_fillC s hs
  have hset : (srcL s 0).toArray.setIfInBounds 32 (.int .u64 (k : Int)) = (srcL s k).toArray := srcC_set s 0 hs k
  have hz3 : ¬ (srcL s 0).toArray.size < 33 := by rw [List.size_toArray, srcL_length _ _ hs]; omega
  have hz2 : ¬ (srcL zeroKey 0).length < (keyC s).size := by rw [keyC_size, hs, srcL_length _ _ zeroKey_length]; omega
  simp only [Nat.zero_add] at kf
  simp [Instr.build, zeroValue, typeInfo, hj, hj2, run_underlying hu, sizeOf, hi, hi2, hiu, hiu2, Instr.fill, Value.cells, go_sem, hz2, srcC]
  rw [kf, if_neg hz3, hset]
  rfl
theorem build0_draws (w : World) (s : List UInt8) (hs : s.length = 32) :
    (Instr.build 35 #[(0, .agg (keyC s))]).run Tryd.prog w = .ok (.agg (srcC s 0)) w := by
  obtain ⟨iu, hiu, hiu2⟩ := Option.map_eq_some_iff.1 (by kernel_rfl : (Tryd.prog.info? 24).map (·.size) = some 1)
  obtain ⟨j, hj, hj2⟩ := Option.map_eq_some_iff.1 Tryd.zero_draws
  obtain ⟨i, hi, hi2⟩ := Option.map_eq_some_iff.1 (Tryd.sizeKey s hs)
  have hu := Tryd.underlying35
  have kf := src_fillC s hs
  have hz2 : ¬ (srcL zeroKey 0).length < (keyC s).size := by rw [keyC_size, hs, srcL_length _ _ zeroKey_length]; omega
  simp only [Nat.zero_add] at kf
  simp [Instr.build, zeroValue, typeInfo, hj, hj2, run_underlying hu, sizeOf, hi, hi2, hiu, Instr.fill, Value.cells, go_sem, hz2, srcC]
  rw [kf]
theorem Tryd.zero_cablegramref13 : (Tryd.prog.info? 37).map (·.zero) = some (some (.agg (srcC zeroKey 0))) := by kernel_rfl
theorem build_cablegramref13 (w : World) (s : List UInt8) (k : Nat) (hs : s.length = 32) :
    (Instr.build 37 #[(0, .agg (keyC s)), (1, .int .u64 (k : Int))]).run Tryd.prog w = .ok (.agg (srcC s k)) w := by
  obtain ⟨j, hj, hj2⟩ := Option.map_eq_some_iff.1 Tryd.zero_cablegramref13
  obtain ⟨i, hi, hi2⟩ := Option.map_eq_some_iff.1 (Tryd.sizeKey s hs)
  obtain ⟨iu, hiu, hiu2⟩ := Option.map_eq_some_iff.1 (by kernel_rfl : (Tryd.prog.info? 24).map (·.size) = some 1)
  have hu := Tryd.underlying37
  have kf := src_fillC s hs
  have hset : (srcL s 0).toArray.setIfInBounds 32 (.int .u64 (k : Int)) = (srcL s k).toArray := srcC_set s 0 hs k
  have hz3 : ¬ (srcL s 0).toArray.size < 33 := by rw [List.size_toArray, srcL_length _ _ hs]; omega
  have hz2 : ¬ (srcL zeroKey 0).length < (keyC s).size := by rw [keyC_size, hs, srcL_length _ _ zeroKey_length]; omega
  simp only [Nat.zero_add] at kf
  simp [Instr.build, zeroValue, typeInfo, hj, hj2, run_underlying hu, sizeOf, hi, hi2, hiu, hiu2, Instr.fill, Value.cells, go_sem, hz2, srcC]
  rw [kf, if_neg hz3, hset]
  rfl
end Go.Proofs.YtjlhmcnajgafgaaDoor
end
section
namespace Go.Proofs.YtjlhmcnajgafgaaDoor
open Go.RowKit
set_option linter.unusedVariables false

theorem wpList_val {P : Program} {w : World} {ops : Array Oper} {rest : List Oper} {o : Oper} {a : Act} {Q : Exit → Act → World → Prop} (hgd : o.guard = none) (v : Value) (hr : (execOp a.eval o).run P w = .ok (.value v) w) (h : wpList P ops Q rest (a.put o.dst v) w) : wpList P ops Q (o :: rest) a w :=
  wpList_plain hgd fun _ hK => by
    unfold Oper.wp
    rw [hr]
    exact hK _ _ h
theorem wp_val {P : Program} {w : World} {o : Oper} {a : Act} {K : Act → World → Prop} {Q : Exit → Act → World → Prop} (v : Value) (hr : (execOp a.eval o).run P w = .ok (.value v) w) (h : K (a.put o.dst v) w) : o.wp P a w K Q := by
  unfold Oper.wp
  rw [hr]
  exact h
theorem wpListG_val {P : Program} {w : World} {ops : Array Oper} {rest : List Oper} {o : Oper} {a : Act} {Q : Exit → Act → World → Prop} (hw : Region.wanted o (yielded ops a.tmps) = true) (v : Value) (hr : (execOp a.eval o).run P w = .ok (.value v) w) (h : wpList P ops Q rest (a.put o.dst v) w) : wpList P ops Q (o :: rest) a w :=
  wpList_wanted hw fun _ hK => by
    unfold Oper.wp
    rw [hr]
    exact hK _ _ h
theorem run_builtOp {P : Program} {w : World} {o : Oper} {a : Act} (ty : TypeId) (parts : Array (Nat × Operand)) (ho : o.op = .build ty parts) (cells : Array Value) (hb : P.built ty (parts.map fun (i, x) => (i, a.eval x)).toList = some cells) : (execOp a.eval o).run P w = .ok (.value (.agg cells)) w := by
  have hr := run_build (P := P) w ty _ cells hb
  unfold execOp
  simp only [ho]
  simp only [Sem.run_bind, Sem.run_pure, hr, Result.andThen_ok]
end Go.Proofs.YtjlhmcnajgafgaaDoor
end
section
namespace Go.Proofs.YtjlhmcnajgafgaaDoor
open Go.RowKit
set_option linter.unusedVariables false
set_option maxRecDepth 20000

section
variable {w : World} {ops : Array Oper} {rest : List Oper} {o : Oper} {a : Act} {Q : Exit → Act → World → Prop}
theorem wpList_bSrc (hgd : o.guard = none) (x y : Operand) (ho : o.op = .build 35 #[(0, x), (1, y)]) (s : List UInt8) (k : Nat) (hx : a.eval x = .agg (keyC s)) (hy : a.eval y = .int .u64 (k : Int)) (hs : s.length = 32)
    (h : wpList Tryd.prog ops Q rest (a.put o.dst (.agg (srcC s k))) w) : wpList Tryd.prog ops Q (o :: rest) a w := by
  refine wpList_val hgd _ ?_ h
  unfold execOp
  simp [ho, hx, hy, build_draws w s k hs]
theorem wpList_bSrc0 (hgd : o.guard = none) (x : Operand) (ho : o.op = .build 35 #[(0, x)]) (s : List UInt8) (hx : a.eval x = .agg (keyC s)) (hs : s.length = 32)
    (h : wpList Tryd.prog ops Q rest (a.put o.dst (.agg (srcC s 0))) w) : wpList Tryd.prog ops Q (o :: rest) a w := by
  refine wpList_val hgd _ ?_ h
  unfold execOp
  simp [ho, hx, build0_draws w s hs]
theorem wpList_bRef (hgd : o.guard = none) (x y : Operand) (ho : o.op = .build 37 #[(0, x), (1, y)]) (s : List UInt8) (k : Nat) (hx : a.eval x = .agg (keyC s)) (hy : a.eval y = .int .u64 (k : Int)) (hs : s.length = 32)
    (h : wpList Tryd.prog ops Q rest (a.put o.dst (.agg (srcC s k))) w) : wpList Tryd.prog ops Q (o :: rest) a w := by
  refine wpList_val hgd _ ?_ h
  unfold execOp
  simp [ho, hx, hy, build_cablegramref13 w s k hs]
end
set_option maxHeartbeats 4000000 in
theorem drawsAwake_any (w : World) (ht : Tabs w) : Calls Tryd.prog 5 #[] w (RetV w (.bool true)) := by
  have E0 := Lib.hid (Env.start w)
  have LK : Hid (oneK.length = 32) := rfl
  have sz := srcC_size oneK 0 rfl
  obtain ⟨a, ha⟩ : ∃ a, a = drawB oneK 0 labA := ⟨_, rfl⟩
  obtain ⟨b, hb⟩ : ∃ b, b = drawB oneK 1 labA := ⟨_, rfl⟩
  have hab : a ≠ b := by rw [ha, hb]; exact draws_apart
  have LA : Hid (a.length = 32) := by show _ = _; rw [ha]; exact drawB_length _ _ _
  have LB : Hid (b.length = 32) := by show _ = _; rw [hb]; exact drawB_length _ _ _
  have heq := fun W => Tryd.eqKeyIn a b LA.out LB.out W
  rw [show (a == b) = false by simp [hab]] at heq
  have HEQ := Lib.hid heq
  obtain ⟨q, hq⟩ : ∃ q, q = oneK := ⟨_, rfl⟩
  have HQ := Lib.hid hq
  have LQ : Hid (q.length = 32) := by show _ = _; rw [hq]; rfl
  have CA : Hid (∀ x rs m i gm gs n, Env w rs x → rs[m]? = some (gm, 65, mC n) → n ≤ 10 → rs[i]? = some (gs, 35, srcC q 0) → Calls Tryd.prog 7 #[.pointer (some ⟨gs, 0, none⟩), .pointer (some ⟨gm, 0, none⟩), .string ⟨#[97]⟩] x fun e w' => ∃ n', n' ≤ n + 3 ∧ e = .returned (.tuple #[.agg (keyC a), .int .i64 0]) ∧ Env w ((rs.set m (gm, 65, mC n')).set i (gs, 35, srcC q 1)) w') := fun x rs m i gm gs n h1 h2 h3 h4 => by
    rw [ha, ← hq]
    exact next_env w x ht rs m gm n i gs h1 h2 (by omega) q 0 LQ.out h4 (by omega) labA (by decide)
  have CB : Hid (∀ x rs m i gm gs n, Env w rs x → rs[m]? = some (gm, 65, mC n) → n ≤ 10 → rs[i]? = some (gs, 35, srcC q 1) → Calls Tryd.prog 7 #[.pointer (some ⟨gs, 0, none⟩), .pointer (some ⟨gm, 0, none⟩), .string ⟨#[97]⟩] x fun e w' => ∃ n', n' ≤ n + 3 ∧ e = .returned (.tuple #[.agg (keyC b), .int .i64 0]) ∧ Env w ((rs.set m (gm, 65, mC n')).set i (gs, 35, srcC q 2)) w') := fun x rs m i gm gs n h1 h2 h3 h4 => by
    rw [hb, ← hq]
    exact next_env w x ht rs m gm n i gs h1 h2 (by omega) q 1 LQ.out h4 (by omega) labA (by decide)
  clear ha hb hab heq hq ht sz
  go_enter Tryd.func5, Tryd.ntmps5
  go_wp2_with fail
  refine (New_any _ false).mono ?_
  intro e w1 h
  obtain ⟨g, he, n1⟩ := h
  subst he
  have E1 : Hid (Env w [(g, 65, mC 0)] w1) := E0.out.new n1
  clear n1 E0
  go_wp2_with (first
    | (with_reducible refine wpList_bSrc0 (o := ⟨some 11, _, _, _, _, _⟩) rfl (.tmp 10) rfl q (by rw [HQ.out]; with_unfolding_all rfl) LQ.out ?_)
    | ((with_reducible refine wpE_box (o := ⟨some 12, _, _, _, _, _⟩) rfl 35 (.tmp 11) rfl (srcC q 0) (by with_unfolding_all rfl) E1.out ?_); intro b1 w2 T2; have E2 := Lib.hid T2; clear T2))
  refine (CA.out _ _ 1 0 _ _ 0 E2.out rfl (by omega) rfl).mono ?_
  intro e w3 h
  obtain ⟨k3, hk3, he, h3⟩ := h
  subst he
  simp only [List.set_cons_zero, List.set_cons_succ] at h3
  have E3 := Lib.hid h3
  clear h3 E2 E1
  go_wp2_with (first
    | ((with_reducible refine wpE_alloc (o := ⟨some 3, _, _, _, _, _⟩) rfl 23 rfl (keyC zeroKey) Tryd.zeroK E3.out ?_); intro g3 w4 T4; have E4 := Lib.hid T4; clear T4)
    | ((with_reducible refine wpE_store (o := ⟨none, _, _, _, _, _⟩) rfl 23 (.tmp 3) (.tmp 17) rfl 0 g3 23 (keyC zeroKey) (keyC a) (by with_unfolding_all rfl) (by with_unfolding_all rfl) (by with_unfolding_all rfl) (keyC_same zeroKey_length LA.out) (Tryd.sizeKey _ LA.out) (keyC_one _) E4.out ?_); intro w5 T5; simp only [List.set_cons_zero] at T5; have E5 := Lib.hid T5; clear T5))
  refine (CB.out _ _ 2 1 _ _ k3 E5.out rfl (by omega) rfl).mono ?_
  intro e w6 h
  obtain ⟨k6, hk6, he, h6⟩ := h
  subst he
  simp only [List.set_cons_zero, List.set_cons_succ] at h6
  have E6 := Lib.hid h6
  clear h6 E5 E4 E3
  go_wp2_with (first
    | ((with_reducible refine wpE_alloc (o := ⟨some 5, _, _, _, _, _⟩) rfl 23 rfl (keyC zeroKey) Tryd.zeroK E6.out ?_); intro g5 w7 T7; have E7 := Lib.hid T7; clear T7)
    | ((with_reducible refine wpE_store (o := ⟨none, _, _, _, _, _⟩) rfl 23 (.tmp 5) (.tmp 23) rfl 0 g5 23 (keyC zeroKey) (keyC b) (by with_unfolding_all rfl) (by with_unfolding_all rfl) (by with_unfolding_all rfl) (keyC_same zeroKey_length LB.out) (Tryd.sizeKey _ LB.out) (keyC_one _) E7.out ?_); intro w8 T8; simp only [List.set_cons_zero] at T8; have E8 := Lib.hid T8; have c8 := E8.out.cellV 2 rfl 32 _ (srcC_32 q 2 LQ.out); clear T8))
  refine (jump_not w _ _ 2 b1 E8.out q 2 LQ.out rfl 1 (by omega)).mono ?_
  intro e w9 h
  obtain ⟨he, h9⟩ := h
  subst he
  have E9 := Lib.hid h9
  have heq := HEQ.out
  have hgd := Tryd.eqGuardKey
  clear h9 c8
  go_wp2_with (first
    | (with_reducible refine wpListG_load_row (o := ⟨some 38, _, _, _, _, _⟩) 23 (.tmp 3) rfl (by with_unfolding_all rfl) g3 (by with_unfolding_all rfl) 23 (keyC a) (.array 32 5) (by with_unfolding_all exact E9.out.row 1 rfl) Tryd.underlying23 rfl (Tryd.sizeKey _ LA.out) ?_)
    | (with_reducible refine wpListG_load_row (o := ⟨some 39, _, _, _, _, _⟩) 23 (.tmp 5) rfl (by with_unfolding_all rfl) g5 (by with_unfolding_all rfl) 23 (keyC b) (.array 32 5) (by with_unfolding_all exact E9.out.row 0 rfl) Tryd.underlying23 rfl (Tryd.sizeKey _ LB.out) ?_))
  go_ret
  exact E9.out.ret _
end Go.Proofs.YtjlhmcnajgafgaaDoor
end
section
namespace Go.Proofs.YtjlhmcnajgafgaaDoor
open Go.RowKit
set_option linter.unusedVariables false
theorem walkS_onlyH {P : Program} {md : Region.Mode} {ops : Array Oper} {Q : Exit → Act → World → Prop} {S : World → Prop} {fin : Nat → Bool} {i : Nat} {o : Oper} {m : Nat} {listed : Array Bool} {a : Act} {w : World} (hr : Region.ready md ops listed = [i]) (ho : ops[i]? = some o) (hw : Region.wanted o (yielded ops a.tmps) = true)
    (h : ∀ K : Act → World → Prop, (∀ a' w', (fin i = true ∨ S w') → walkS P md ops Q S fin m (listed.setIfInBounds i true) a' w' → K a' w') → o.wp P a w K Q) : walkS P md ops Q S fin (m + 1) listed a w := by
  refine ⟨fun h0 => by simp [hr] at h0, fun j hj => ?_⟩
  rw [hr] at hj
  obtain rfl : j = i := by simpa using hj
  unfold wpOp
  rw [ho]
  simp only [hw, if_true]
  exact .inl (h _ (fun a' w' h1 h2 => ⟨h1, h2⟩))
end Go.Proofs.YtjlhmcnajgafgaaDoor
end
section
namespace Go.Proofs.YtjlhmcnajgafgaaDoor
open Go.RowKit Go.Shelf
set_option linter.unusedVariables false
set_option maxRecDepth 20000

/-- What a call with one key for an answer does to a Source and to what counts. -/
def OneAns (w : World) (rs : List (Nat × TypeId × Array Value)) (m : Nat) (g : Nat) (t : TypeId) (cn : Nat → Array Value) (n : Nat) (i b : Nat) (u : TypeId) (s : List UInt8) (k1 : Nat) (d : List UInt8) (X : Int) (e : Ending) (w' : World) : Prop :=
  ∃ n', n' ≤ n + 3 ∧ e = .returned (.tuple #[.agg (keyC d), .int .i64 X]) ∧ Env w ((rs.set m (g, t, cn n')).set i (b, u, srcC s k1)) w'
/-- The same, with a list of keys. -/
def ManyAns (w : World) (rs : List (Nat × TypeId × Array Value)) (m : Nat) (g : Nat) (t : TypeId) (cn : Nat → Array Value) (n : Nat) (i b : Nat) (u : TypeId) (s : List UInt8) (k1 : Nat) (L : List (List UInt8)) (X : Int) (e : Ending) (w' : World) : Prop :=
  ∃ v n' base ex, n' ≤ n + 6 ∧ e = .returned (.tuple #[v, .int .i64 X]) ∧ exRow v L base ex ∧ Env w ((rs.set m (g, t, cn n')).set i (b, u, srcC s k1) ++ ex) w'

theorem flat_strs : ∀ ls : List ByteArray, ls.map Value.string = (ls.map Value.string).flatMap fun v => v.cells.toList
  | [] => rfl
  | x :: r => by
    rw [List.map_cons, List.flatMap_cons, ← flat_strs r]
    rfl
theorem wp_strs {w : World} {o : Oper} {a : Act} {K : Act → World → Prop} {Q : Exit → Act → World → Prop} (len : Nat) (parts : Array (Nat × Operand)) (ho : o.op = .buildSlice 48 len parts) (ls : List ByteArray) (hlen : ls.length = len) (hpos : 0 < len) (hsm : len ≤ 2 ^ 20)
    (hp : (parts.map fun (i, x) => (i, a.eval x)).toList = ((ls.map Value.string).zipIdx 0).map fun x => (x.2, x.1))
    (h : K (a.put o.dst (.slice (some ⟨w.heap.size, 0, none⟩) len len)) (w.alloc (.cells (labC ls) 9))) : o.wp Tryd.prog a w K Q := by
  obtain ⟨ie, hie, hs⟩ := Option.map_eq_some_iff.1 (by kernel_rfl : (Tryd.prog.info? 9).map (·.size) = some 1)
  obtain ⟨ie2, hie2, hz2⟩ := Option.map_eq_some_iff.1 (by kernel_rfl : (Tryd.prog.info? 9).map (·.zero) = some (some (.string ByteArray.empty)))
  obtain rfl : ie = ie2 := by rw [hie] at hie2; exact Option.some.inj hie2
  have e : labC ls = ((ls.map Value.string).flatMap fun v => v.cells.toList).toArray := by
    rw [labC, ← flat_strs ls]
  refine wp_buildSlice 48 9 len parts ho (labC ls) ie (.string ByteArray.empty) Tryd.underlying48 hie hz2 (by rw [hs]; omega) (by rw [hs]; omega) ?_ h
  rw [hp, hs, e]
  refine Great.fill_whole (by omega) _ _ (fun v hv => ?_) (by simp [hlen])
  obtain ⟨l, hm, rfl⟩ := List.mem_map.1 hv
  simp [Value.cells]
theorem next_both (w : World) (ht : Tabs w) (s : List UInt8) (hs : s.length = 32) (k : Nat) (hk : k < 18446744073709551616) (lab : ByteArray) (hlab : lab.size ≤ 1000) :
    ∃ (d : List UInt8) (X : Int) (k1 : Nat), d.length = 32 ∧ k1 < 18446744073709551616 ∧
      (∀ (x : World) (rs : List (Nat × TypeId × Array Value)) (m i g b n : Nat), Env w rs x → rs[m]? = some (g, 65, mC n) → n ≤ 800000 → rs[i]? = some (b, 35, srcC s k) →
        Calls Tryd.prog 7 #[.pointer (some ⟨b, 0, none⟩), .pointer (some ⟨g, 0, none⟩), .string lab] x (OneAns w rs m g 65 mC n i b 35 s k1 d X)) ∧
      (∀ (x : World) (rs : List (Nat × TypeId × Array Value)) (m i g b n : Nat), Env w rs x → rs[m]? = some (g, 32, logC n) → n ≤ 800000 → rs[i]? = some (b, 37, srcC s k) →
        Calls Tryd.prog 8 #[.pointer (some ⟨b, 0, none⟩), .pointer (some ⟨g, 0, none⟩), .string lab] x (OneAns w rs m g 32 logC n i b 37 s k1 d X)) := by
  by_cases h : k < 18446744073709551615
  · refine ⟨drawB s k lab, 0, k + 1, drawB_length _ _ _, by omega, fun x rs m i g b n h1 h2 h3 h4 => ?_, fun x rs m i g b n h1 h2 h3 h4 => ?_⟩
    · exact next_env w x ht rs m g n i b h1 h2 (by omega) s k hs h4 h lab hlab
    · exact refNext_env w x rs m g n i b h1 h2 (by omega) s k hs h4 h lab hlab
  · refine ⟨zeroKey, 70, k, zeroKey_length, hk, fun x rs m i g b n h1 h2 h3 h4 => ?_, fun x rs m i g b n h1 h2 h3 h4 => ?_⟩
    · exact (next_not w x rs i b h1 s k hs h4 (by omega) _ lab).mono fun e w' ⟨q1, q2⟩ => ⟨n, by omega, q1, by rw [set_id h2, set_id h4]; exact h1.call q2⟩
    · exact (refNext_not w x rs i b h1 s k hs h4 (by omega) _ lab).mono fun e w' ⟨q1, q2⟩ => ⟨n, by omega, q1, by rw [set_id h2, set_id h4]; exact h1.call q2⟩
theorem some_both (w : World) (ht : Tabs w) (s : List UInt8) (hs : s.length = 32) (k : Nat) (hk : k < 18446744073709551616) (la lb : ByteArray) (hla : la.size ≤ 1000) (hlb : lb.size ≤ 1000) :
    ∃ (L : List (List UInt8)) (X : Int) (k1 : Nat), (∀ l ∈ L, l.length = 32) ∧ L.length ≤ 2 ∧ k1 < 18446744073709551616 ∧
      (∀ (x : World) (rs : List (Nat × TypeId × Array Value)) (m i j g b q n : Nat), Env w rs x → rs[m]? = some (g, 65, mC n) → n ≤ 800000 → rs[i]? = some (b, 35, srcC s k) → rs[j]? = some (q, 9, labC [la, lb]) →
        Calls Tryd.prog 9 #[.pointer (some ⟨b, 0, none⟩), .pointer (some ⟨g, 0, none⟩), .slice (some ⟨q, 0, none⟩) 2 2] x (ManyAns w rs m g 65 mC n i b 35 s k1 L X)) ∧
      (∀ (x : World) (rs : List (Nat × TypeId × Array Value)) (m i j g b q n : Nat), Env w rs x → rs[m]? = some (g, 32, logC n) → n ≤ 800000 → rs[i]? = some (b, 37, srcC s k) → rs[j]? = some (q, 9, labC [la, lb]) →
        Calls Tryd.prog 10 #[.pointer (some ⟨b, 0, none⟩), .pointer (some ⟨g, 0, none⟩), .slice (some ⟨q, 0, none⟩) 2 2] x (ManyAns w rs m g 32 logC n i b 37 s k1 L X)) := by
  have hls : ∀ l ∈ [la, lb], l.size ≤ 1000 := fun l hl => by
    simp only [List.mem_cons, List.not_mem_nil, or_false] at hl
    rcases hl with rfl | rfl
    · exact hla
    · exact hlb
  by_cases h : k + 2 ≤ 18446744073709551615
  · refine ⟨drawsB s k [la, lb] 2, 0, k + 2, drawsB_len _ _ _ _, by rw [drawsB_length]; exact Nat.le_refl _, by omega, fun x rs m i j g b q n h1 h2 h3 h4 h5 => ?_, fun x rs m i j g b q n h1 h2 h3 h4 h5 => ?_⟩
    · exact (some_env w x ht rs m g n i b h1 h2 h3 s k hs h4 j q [la, lb] h5 (by simp) hls h).mono fun e w' ⟨v, n', ex, q1, q2, q3, q4⟩ => ⟨v, n', _, ex, q1, q2, q3, q4⟩
    · exact (refSome_env w x rs m g n i b h1 h2 h3 s k hs h4 j q [la, lb] h5 (by simp) hls h).mono fun e w' ⟨v, n', ex, q1, q2, q3, q4⟩ => ⟨v, n', _, ex, q1, q2, q3, q4⟩
  · refine ⟨[], 70, k, by simp, by simp, hk, fun x rs m i j g b q n h1 h2 h3 h4 h5 => ?_, fun x rs m i j g b q n h1 h2 h3 h4 h5 => ?_⟩
    · exact (some_not w x rs i b h1 s k hs h4 _ _ 2 2 (by omega) (by omega) (by omega)).mono fun e w' ⟨q1, q2⟩ => ⟨_, n, 0, [], by omega, q1, .inl ⟨rfl, rfl, rfl⟩, by rw [set_id h2, set_id h4, List.append_nil]; exact h1.call q2⟩
    · exact (refSome_not w x rs i b h1 s k hs h4 _ _ 2 2 (by omega) (by omega) (by omega)).mono fun e w' ⟨q1, q2⟩ => ⟨_, n, 0, [], by omega, q1, .inl ⟨rfl, rfl, rfl⟩, by rw [set_id h2, set_id h4, List.append_nil]; exact h1.call q2⟩
theorem jump_both (w : World) (s : List UInt8) (hs : s.length = 32) (k : Nat) (hk : k < 18446744073709551616) (n : Nat) (hn : n < 18446744073709551616) :
    ∃ (X : Int) (k1 : Nat), k1 < 18446744073709551616 ∧
      (∀ (x : World) (rs : List (Nat × TypeId × Array Value)) (i b : Nat), Env w rs x → rs[i]? = some (b, 35, srcC s k) → Calls Tryd.prog 11 #[.pointer (some ⟨b, 0, none⟩), .int .u64 (n : Int)] x fun e w' => e = .returned (.int .i64 X) ∧ Env w (rs.set i (b, 35, srcC s k1)) w') ∧
      (∀ (x : World) (rs : List (Nat × TypeId × Array Value)) (i b : Nat), Env w rs x → rs[i]? = some (b, 37, srcC s k) → Calls Tryd.prog 12 #[.pointer (some ⟨b, 0, none⟩), .int .u64 (n : Int)] x fun e w' => e = .returned (.int .i64 X) ∧ Env w (rs.set i (b, 37, srcC s k1)) w') := by
  by_cases h : k ≤ n
  · exact ⟨0, n, hn, fun x rs i b h1 h2 => jump_env w x rs i b h1 s k hs h2 n h, fun x rs i b h1 h2 => refJump_env w x rs i b h1 s k hs h2 n h⟩
  · refine ⟨70, k, hk, fun x rs i b h1 h2 => ?_, fun x rs i b h1 h2 => ?_⟩
    · rw [set_id h2]
      exact jump_not w x rs i b h1 s k hs h2 n (by omega)
    · rw [set_id h2]
      exact refJump_not w x rs i b h1 s k hs h2 n (by omega)
end Go.Proofs.YtjlhmcnajgafgaaDoor
end
section
namespace Go.Proofs.YtjlhmcnajgafgaaDoor
open Go.RowKit
set_option linter.unusedVariables false
set_option maxRecDepth 20000

/-- A slice of elements of sz cells each: element j has the cells f j. -/
def Rx (w : World) (v : Value) (sz n : Nat) (f : Nat → List Value) : Prop :=
  ∃ A c, v = .slice A n c ∧ n ≤ c ∧ c ≤ maxLen ∧ (0 < n → ∃ b off, A = some ⟨b, off, none⟩ ∧ ∀ j, j < n → w.rangeAt b (off + j * sz) (f j))
section
variable {H : Type} {enc : TypeId × Value → H} {P : Program} {W : World} {base : Nat} {sp : Nat → Bool} {held : Bool}
theorem addr_add3 (g off : Nat) (i j : Nat) : ((⟨g, off, none⟩ : Addr).add i).add j = ⟨g, off + i + j, none⟩ := by
  have e1 : (⟨g, off, none⟩ : Addr).add i = ⟨g, off + i, none⟩ := by unfold Addr.add; split <;> simp_all
  rw [e1]
  unfold Addr.add
  split <;> simp_all
/-- A list of elements of sz cells: each element's cells, and that they are read. -/
theorem open_rx {t e : TypeId} {fuel : Nat} {cs : List Value} {x : DataW H × List MemPlace} {sz : Nat} (hs0 : 0 < sz)
    (ht : P.underlying t = some (.slice e)) (hce : P.cellsOf e = sz) (hone : ∀ n (c : List Value) y, c.length = sz → DataW.trod enc P W base sp held n e c = some y → c.length = sz) (h : DataW.trod enc P W base sp held fuel t cs = some x) :
    ∃ (v : Value) (n : Nat) (f : Nat → List Value), cs = [v] ∧ Rx W v sz n f ∧ ∀ j, j < n → (f j).length = sz ∧ ∃ m y, DataW.trod enc P W base sp held m e (f j) = some y := by
  rcases DataW.trod_slice ht h with ⟨rfl, _⟩ | ⟨a, len, cap, elems, rest, n, _, rfl, _, hba, hl, hm, hlen, hel, _, _⟩
  · exact ⟨_, 0, fun _ => [], rfl, ⟨none, 0, rfl, Nat.le_refl _, by simp [maxLen], fun h => by omega⟩, fun j hj => by omega⟩
  · have each : ∀ i, i < len → ∃ c : List Value, c.length = sz ∧ (∀ j, j < sz → W.cell? ((a.add (i * sz)).add j) = c[j]?) ∧ ∃ m y, DataW.trod enc P W base sp held m e c = some y := by
      intro i hi
      have h1 := hel i hi
      rw [hce, List.getElem?_eq_getElem (by omega), Option.bind_eq_some_iff] at h1
      obtain ⟨c, hc, ht2⟩ := h1
      obtain ⟨_, hcl, hcell⟩ := World.cells?_some hc
      exact ⟨c, hcl, hcell, n, _, ht2⟩
    refine ⟨_, len, fun j => if hj : j < len then (each j hj).choose else [], rfl, ⟨some a, cap, rfl, hl, hm, fun h0 => ?_⟩, fun j hj => ?_⟩
    · obtain ⟨g, off, spot⟩ := a
      have h1 := (each 0 h0).choose_spec
      have hc := h1.2.1 0 hs0
      rw [List.getElem?_eq_getElem (by rw [h1.1]; exact hs0)] at hc
      have hspot : spot = none := by simpa [Addr.add] using World.cell?_spot hc
      subst hspot
      refine ⟨g, off, rfl, fun k hk j u hj => ?_⟩
      simp only [dif_pos hk] at hj
      have hs := (each k hk).choose_spec
      have hj2 : j < sz := by
        have := (List.getElem?_eq_some_iff.1 hj).1
        rwa [hs.1] at this
      have h3 := hs.2.1 j hj2
      rw [addr_add3] at h3
      rw [h3, hj]
    · simp only [dif_pos hj]
      have hs := (each j hj).choose_spec
      exact ⟨hs.1, hs.2.2⟩
theorem open_bx {t e : TypeId} {fuel : Nat} {cs : List Value} {x : DataW H × List MemPlace} (ht : P.underlying t = some (.slice e)) (he : P.underlying e = some (.int .u8)) (hce : P.cellsOf e = 1) (h : DataW.trod enc P W base sp held fuel t cs = some x) :
    ∃ (v : Value) (l : List UInt8), cs = [v] ∧ Bs W v l := by
  obtain ⟨v, n, f, hcs, ⟨A, c, rfl, h1, h2, h3⟩, hf⟩ := open_rx (by omega) ht hce (fun _ _ _ h _ => h) h
  have each : ∀ j, j < n → ∃ b : UInt8, f j = [.int .u8 (b.toNat : Int)] := fun j hj => by
    obtain ⟨_, m, y, hy⟩ := hf j hj
    obtain ⟨z, hz, _, hwf⟩ := DataW.trod_int he hy
    exact ⟨UInt8.ofNat z.toNat, by rw [hz, u8_of_wf hwf]⟩
  refine ⟨_, List.ofFn fun i : Fin n => (each i.1 i.2).choose, hcs, A, c, by rw [List.length_ofFn], by rw [List.length_ofFn]; exact h1, h2, fun hl => ?_⟩
  rw [List.length_ofFn] at hl
  obtain ⟨b, off, hA, hc⟩ := h3 hl
  refine ⟨b, off, hA, fun j hj => ?_⟩
  rw [List.length_ofFn] at hj
  rw [List.getElem_ofFn]
  have hs := (each j hj).choose_spec
  have h4 := hc j hj 0 (.int .u8 ((each j hj).choose.toNat : Int)) (by have := congrArg (·[0]?) hs; simpa using this)
  rw [Nat.mul_one, Nat.add_zero] at h4
  exact h4
/-- A key in the midst of other cells. -/
theorem open_keyAt {t e : TypeId} {n fuel : Nat} {cs : List Value} {x : DataW H × List MemPlace} (ht : P.underlying t = some (.array n e)) (he : P.underlying e = some (.int .u8)) (hce : P.cellsOf e = 1) (hl : cs.length = n) (h : DataW.trod enc P W base sp held fuel t cs = some x) :
    ∃ l : List UInt8, cs = cellsB l ∧ l.length = n := by
  obtain ⟨xs, m, _, _, _, hxl, hel⟩ := DataW.trod_array ht h
  have each : ∀ i, i < n → ∃ b : UInt8, cs[i]? = some (.int .u8 (b.toNat : Int)) := fun i hi => by
    have h1 := hel i hi
    rw [hce, List.getElem?_eq_getElem (by omega)] at h1
    obtain ⟨a, hc, _, hwf⟩ := DataW.trod_int he h1
    refine ⟨UInt8.ofNat a.toNat, ?_⟩
    have h2 := congrArg (·[0]?) hc
    rw [u8_of_wf hwf]
    simpa [List.getElem?_take, List.getElem?_drop] using h2
  refine ⟨cs.map fun v => match v with | .int _ a => UInt8.ofNat a.toNat | _ => 0, ?_, by simpa using hl⟩
  simp only [cellsB, List.map_map]
  apply List.ext_getElem (by simp)
  intro i h1 h2
  obtain ⟨b, hb⟩ := each i (by omega)
  have hci : cs[i] = .int .u8 (b.toNat : Int) := by
    rw [List.getElem?_eq_getElem h1] at hb
    exact Option.some.inj hb
  simp [List.getElem_map, hci]
end
theorem cut_at {α : Type} (c : List α) (o n : Nat) : c.drop o = (c.drop o).take n ++ c.drop (o + n) := by
  rw [← List.drop_drop, List.take_append_drop]
end Go.Proofs.YtjlhmcnajgafgaaDoor
end
section
namespace Go.Proofs.YtjlhmcnajgafgaaDoor
open Go.RowKit
set_option linter.unusedVariables false
set_option maxRecDepth 20000

/-- What the law's list has: one of them. -/
structure OpD where
  k : Int
  one : ByteArray
  two : ByteArray
  n : Nat
def opdC (o : OpD) : List Value := [.int .i64 o.k] ++ ([.string o.one] ++ ([.string o.two] ++ ([.int .u64 (o.n : Int)])))
def OpDs (w : World) (v : Value) (l : List OpD) : Prop :=
  ∃ A c, v = .slice A l.length c ∧ l.length ≤ c ∧ c ≤ maxLen ∧ (0 < l.length → ∃ b off, A = some ⟨b, off, none⟩ ∧ ∀ j (hj : j < l.length), w.rangeAt b (off + j * 4) (opdC l[j]) ∧ (-9223372036854775808 ≤ l[j].k ∧ l[j].k ≤ 9223372036854775807) ∧ l[j].one.size ≤ maxLen ∧ l[j].two.size ≤ maxLen ∧ l[j].n < 18446744073709551616)
theorem open_opds {H : Type} {enc : TypeId × Value → H} {W : World} {base : Nat} {sp : Nat → Bool} {held : Bool} {fuel : Nat} {cs : List Value} {x : DataW H × List MemPlace} (h : DataW.trod enc Tryd.prog W base sp held fuel 25 cs = some x) :
    ∃ (v : Value) (l : List OpD), cs = [v] ∧ OpDs W v l := by
  obtain ⟨v, n, f, hcs, ⟨A, c, rfl, h1, h2, h3⟩, hf⟩ := open_rx (sz := 4) (by omega) Tryd.underlying25 (by kernel_rfl) (fun _ _ _ h _ => h) h
  have each : ∀ j, j < n → ∃ (o : OpD), f j = opdC o ∧ (-9223372036854775808 ≤ o.k ∧ o.k ≤ 9223372036854775807) ∧ o.one.size ≤ maxLen ∧ o.two.size ≤ maxLen ∧ o.n < 18446744073709551616 := fun j hj => by
    obtain ⟨hfl, m, y, hy⟩ := hf j hj
    obtain ⟨xs, m', _, _, _, hxl, hxe⟩ := DataW.trod_struct Tryd.underlying39 hy
    have f0 := hxe 0 _ rfl
    have f1 := hxe 1 _ rfl
    have f2 := hxe 2 _ rfl
    have f3 := hxe 3 _ rfl
    have hl0 : xs.length = 4 := hxl
    rw [List.getElem?_eq_getElem (by omega)] at f0 f1 f2 f3
    obtain ⟨z0, c0, _, w0⟩ := DataW.trod_int (k := .i64) Tryd.underlying3 f0
    obtain ⟨s1, c1, _, hs1⟩ := DataW.trod_string Tryd.underlying9 f1
    obtain ⟨s2, c2, _, hs2⟩ := DataW.trod_string Tryd.underlying9 f2
    obtain ⟨z3, c3, _, w3⟩ := DataW.trod_int (k := .u64) Tryd.underlying24 f3
    obtain ⟨n3, rfl, hn3⟩ := u64_of_wf w3
    have e : f j = ((f j).drop 0).take 1 ++ (((f j).drop 1).take 1 ++ (((f j).drop 2).take 1 ++ (((f j).drop 3).take 1 ++ []))) := by
      have e0 := cut_at (f j) 0 1
      have e1 := cut_at (f j) 1 1
      have e2 := cut_at (f j) 2 1
      have e3 := cut_at (f j) 3 1
      have ez : (f j).drop 4 = [] := List.drop_eq_nil_of_le (by omega)
      simp only [Nat.zero_add, Nat.reduceAdd] at e0 e1 e2 e3
      rw [← ez]
      rw [← e3]
      rw [← e2]
      rw [← e1]
      exact (List.drop_zero (l := f j)).symm.trans e0
    have q0 : ((f j).drop 0).take 1 = _ := c0
    have q1 : ((f j).drop 1).take 1 = _ := c1
    have q2 : ((f j).drop 2).take 1 = _ := c2
    have q3 : ((f j).drop 3).take 1 = _ := c3
    rw [q0, q1, q2, q3] at e
    exact ⟨⟨z0, s1, s2, n3⟩, e.trans (by simp [opdC]), i64_of_wf w0, hs1, hs2, hn3⟩
  refine ⟨_, List.ofFn fun i : Fin n => (each i.1 i.2).choose, hcs, A, c, by rw [List.length_ofFn], by rw [List.length_ofFn]; exact h1, h2, fun hl => ?_⟩
  rw [List.length_ofFn] at hl
  obtain ⟨b, off, hA, hc⟩ := h3 hl
  refine ⟨b, off, hA, fun j hj => ?_⟩
  rw [List.length_ofFn] at hj
  rw [List.getElem_ofFn]
  have hs := (each j hj).choose_spec
  have h4 := hc j hj
  rw [hs.1] at h4
  exact ⟨h4, hs.2⟩

end Go.Proofs.YtjlhmcnajgafgaaDoor
end
