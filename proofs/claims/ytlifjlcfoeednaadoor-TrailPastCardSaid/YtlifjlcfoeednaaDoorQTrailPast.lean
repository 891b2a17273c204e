/-
  TrailPast: for every input the call returns true, and each argument reads as it read before. Conditions: none beyond the given statement's own (the package-level tables that its row lists hold what the program's text lays: the card ties that).
-/
import Derived.Test.YtlifjlcfoeednaaDoorQTrlAL
import Derived.Deep.CutBlock
import Derived.Deep.CutRange
import Derived.Test.YtlifjlcfoeednaaDoorQTrlAB
import Derived.ProofKit
import Derived.OpenShut
import Derived.ShutString
import Derived.ChangeOld
import Derived.Deep.DeepHandedRow
section
namespace Go.Proofs.YtlifjlcfoeednaaDoor
open Go.RowKit
set_option linter.unusedVariables false
set_option maxRecDepth 20000

theorem St.drew {w0 x : World} {A : List (Nat × TypeId × Array Value)} {gr gp : Nat} {v : Value} {Lp Ld : List (List UInt8 × Nat)} {ex : List (Nat × TypeId × Array Value)} (h : St w0 A gr gp v Lp Ld ex x) : St w0 A gr gp v Lp Ld ex x.drew := ⟨h.env.drew, h.okp, h.okd, h.list⟩
theorem St.below {w0 x : World} {A : List (Nat × TypeId × Array Value)} {gr gp : Nat} {v : Value} {Lp Ld : List (List UInt8 × Nat)} {ex : List (Nat × TypeId × Array Value)} (h : St w0 A gr gp v Lp Ld ex x) : Below w0.heap.size w0 x := h.env.below
/-- An operation's row. -/
def opC (q : OpT) : Array Value := (optC q).toArray
theorem Tryd.zeroOpT : (Tryd.prog.info? 52).map (·.zero) = some (some (.agg (opC ⟨0, 0, zeroKey⟩))) := by kernel_rfl
theorem Tryd.sizeOpT34 : (Tryd.prog.info? 52).map (·.size) = some 34 := by kernel_rfl
theorem opC_size (q : OpT) (h : q.head.length = 32) : (opC q).size = 34 := by simp [opC, optC, cellsB_length, h]
theorem optC_length (q : OpT) (h : q.head.length = 32) : (optC q).length = 34 := by simp [optC, cellsB_length, h]
theorem Tryd.sizeOpT (q : OpT) (h : q.head.length = 32) : (Tryd.prog.info? 52).map (·.size) = some (opC q).size := by
  rw [opC_size q h]
  exact Tryd.sizeOpT34
theorem opC_one (q : OpT) : ∀ u ∈ (opC q).toList, u.oneCell' = true := fun u hu => by
  simp only [opC, optC, List.mem_append, List.mem_singleton] at hu
  rcases hu with rfl | rfl | hu
  · rfl
  · rfl
  · exact cellsB_one _ u hu
theorem opC_key (q : OpT) (h : q.head.length = 32) : ((opC q).toList.drop 2).take (cellsB q.head).length = cellsB q.head := by
  show (cellsB q.head).take (cellsB q.head).length = _
  rw [List.take_length]
/-- Where the arms of what is done meet: both tell the same, and both have the same trails. -/
def TpMeet (w : World) (gr gp : Nat) (x y : Value) (z : World) : Prop :=
  ∃ (X : Int) (v : Value) (L : List (List UInt8 × Nat)) (ex : List (Nat × TypeId × Array Value)), x = .int .i64 X ∧ y = .int .i64 X ∧ St w [] gr gp v L L ex z
theorem world_ofS {w0 x : World} {A : List (Nat × TypeId × Array Value)} {gr gp : Nat} {v : Value} {Lp Ld : List (List UInt8 × Nat)} {ex : List (Nat × TypeId × Array Value)} (h : St w0 A gr gp v Lp Ld ex x) : ∃ z, z = x := ⟨x, rfl⟩

set_option maxHeartbeats 16000000 in
theorem trailPast_walk (w : World) (hq : Tabs w) (vl : Value) (l : List OpT) (hl : OpTs w vl l) :
    Calls Tryd.prog 4 #[vl] w (RetV w (.bool true)) := by
  have HQ := Lib.hid hq
  have E0 := Lib.hid (Env.start w)
  obtain ⟨A, lc, rfl, hl1, hl2, hl3⟩ := hl
  have HL := Lib.hid hl3
  have CW : Hid (∀ x, Below w.heap.size w x → Calls Tryd.prog 6 #[] x (RetV x (.bool true))) := fun x hx => trailAwake_any x (HQ.out.below hx)
  unfold maxLen at hl2
  clear hq hl3
  by_cases h100 : 100 < l.length
  · have hd1 : (100 : Int) < (l.length : Int) := by omega
    go_enter Tryd.func4, Tryd.ntmps4
    go_wp2_with fail
    refine (CW.out _ E0.out.below).mono ?_
    rintro e w2 ⟨rfl, b2⟩
    have E2 := Lib.hid (E0.out.call b2)
    clear b2 E0 CW
    go_wp2_with (first
      | (with_reducible refine wpList_build0 (o := ⟨some 20, _, _, _, _, _⟩) rfl 46 rfl (pastC []) Tryd.builtPast ?_)
      | ((with_reducible refine wpE_box (o := ⟨some 21, _, _, _, _, _⟩) rfl 46 (.tmp 20) rfl (pastC []) (by with_unfolding_all rfl) E2.out ?_); intro gp w3 T1; have E3 := Lib.hid T1; clear T1)
      | (with_reducible refine wpList_build0 (o := ⟨some 22, _, _, _, _, _⟩) rfl 50 rfl #[.slice none 0 0] Tryd.builtDocPast ?_)
      | ((with_reducible refine wpE_box (o := ⟨some 23, _, _, _, _, _⟩) rfl 50 (.tmp 22) rfl #[.slice none 0 0] (by with_unfolding_all rfl) E3.out ?_); intro gr w4 T1; have E4 := Lib.hid T1; clear T1))
    go_ret
    exact E4.out.ret _
  have hd1 : ¬ (100 : Int) < (l.length : Int) := by omega
  go_enter Tryd.func4, Tryd.ntmps4
  go_wp2_with fail
  refine (CW.out _ E0.out.below).mono ?_
  rintro e w2 ⟨rfl, b2⟩
  have E2 := Lib.hid (E0.out.call b2)
  clear b2 E0 CW
  go_wp2_with (first
    | (with_reducible refine wpList_build0 (o := ⟨some 20, _, _, _, _, _⟩) rfl 46 rfl (pastC []) Tryd.builtPast ?_)
    | ((with_reducible refine wpE_box (o := ⟨some 21, _, _, _, _, _⟩) rfl 46 (.tmp 20) rfl (pastC []) (by with_unfolding_all rfl) E2.out ?_); intro gp w3 T1; have E3 := Lib.hid T1; clear T1)
    | (with_reducible refine wpList_build0 (o := ⟨some 22, _, _, _, _, _⟩) rfl 50 rfl #[.slice none 0 0] Tryd.builtDocPast ?_)
    | ((with_reducible refine wpE_box (o := ⟨some 23, _, _, _, _, _⟩) rfl 50 (.tmp 22) rfl #[.slice none 0 0] (by with_unfolding_all rfl) E3.out ?_); intro gr w4 T1; have E4 := Lib.hid T1; clear T1))
  have S0 : Hid (St w [] gr gp (.slice none 0 0) [] [] [] w4) := Lib.hid ⟨by simpa using E4.out, TOk.nil, TOk.nil, tlEx.nil _⟩
  clear E2 E3 E4
  go_loopw [6] (fun i wr => ∃ j : Nat, j ≤ l.length ∧ i = .int .i64 (j : Int) ∧ ∃ v L ex, Hid (St w [] gr gp v L L ex wr)) (fun i _ => l.length - (intOf i).toNat)
  case atStart => exact ⟨0, by omega, rfl, _, _, _, S0⟩
  case round =>
    clear S0
    obtain ⟨j, hj, rfl, v, L, ex, S⟩ := hrel
    by_cases hlt : j < l.length
    · obtain ⟨b, off, rfl, ho⟩ := HL.out (by omega)
      obtain ⟨hr, hact, hnn, hhd⟩ := ho j hlt
      generalize l[j] = q at *
      have LQ : Hid (q.head.length = 32) := hhd
      have HNN := Lib.hid hnn
      have RG : Hid (∀ x, Below w.heap.size w x → x.rangeAt b (off + j * 34) (optC q)) := fun x hx i u hi => cellN hx (hr i u hi)
      have SZ : Hid ((Tryd.prog.info? 52).map (·.size) = some (optC q).length) := by show _ = _; rw [optC_length q LQ.out]; exact Tryd.sizeOpT34
      have hjl2 : (j : Int) < (l.length : Int) := by omega
      have hj0 : ¬ ((j : Int) < 0) := by omega
      have hwj : IntKind.i64.wrap ((j : Int) + 1) = (j : Int) + 1 := IntWalk.i64_in _ (by omega)
      clear hr ho HL hhd hl1 h100 hd1
      go_upto_region 13 with (first
        | (with_reducible refine wpList_val (o := ⟨some 36, _, _, _, _, _⟩) rfl _ (run_idxAt 34 42 52 (.tmp 34) (.tmp 35) rfl b off l.length lc j (by with_unfolding_all rfl) (by with_unfolding_all rfl) hlt Tryd.underlying42 Tryd.sizeOpT34) ?_)
        | (with_reducible refine wpList_load_mid (op := ⟨some 37, _, _, _, _, _⟩) rfl 52 (.tmp 36) rfl b (off + j * 34) (by with_unfolding_all rfl) (optC q) _ (RG.out _ S.out.below) Tryd.underlying52 rfl SZ.out ?_)
        | ((with_reducible refine wpList_alloc_row (o := ⟨some 7, _, _, _, _, _⟩) rfl 52 rfl (opC ⟨0, 0, zeroKey⟩) Tryd.zeroOpT ?_); intro g7 x1 n1; have S1 : Hid (St w [(g7, 52, opC ⟨0, 0, zeroKey⟩)] gr gp v L L ex x1) := Lib.hid (S.out.new n1); clear n1)
        | ((with_reducible refine wpE_store (o := ⟨none, _, _, _, _, _⟩) rfl 52 (.tmp 7) (.tmp 37) rfl 0 g7 52 (opC ⟨0, 0, zeroKey⟩) (opC q) (by with_unfolding_all rfl) (by with_unfolding_all rfl) (by with_unfolding_all rfl) (by rw [opC_size _ LQ.out, opC_size _ zeroKey_length]) (Tryd.sizeOpT _ LQ.out) (opC_one _) S1.out.env ?_); intro x2 T1; have S2 : Hid (St w [(g7, 52, opC q)] gr gp v L L ex x2) := Lib.hid ⟨T1, S1.out.okp, S1.out.okd, S1.out.list⟩; have c1 := S2.out.env.cellV 0 rfl 1 (.int .u32 (q.n : Int)) rfl; clear T1 S1))
      go_cut [50] from 40 to 49 (fun c wx => c = .bool (decide (q.act = 4 ∧ 0 < L.length)) ∧ Hid (St w [(g7, 52, opC q)] gr gp v L L ex wx))
      case first =>
        have c0 := S2.out.env.cellV 0 rfl 0 (.int .i64 q.act) rfl
        by_cases e4 : q.act = 4
        · have e4' : (q.act == 4) = true := beq_iff_eq.2 e4
          obtain ⟨Av, cv, hv⟩ := S2.out.doc.shape
          have c2 := S2.out.cell
          rw [hv] at c2
          clear c1
          by_cases h0 : 0 < L.length
          · have h01 : (0 : Int) < (L.length : Int) := by omega
            go_wp2_with fail
            go_meet
            case rel => exact ⟨by rw [decide_eq_true (show q.act = 4 ∧ 0 < L.length from ⟨e4, h0⟩)], S2⟩
          · have h00 : L.length = 0 := by omega
            rw [h00] at c2
            go_wp2_with fail
            go_meet
            case rel => exact ⟨by rw [decide_eq_false (show ¬ (q.act = 4 ∧ 0 < L.length) from fun h => h0 h.2)], S2⟩
        · have e4' : (q.act == 4) = false := beq_eq_false_iff_ne.2 e4
          clear c1
          go_wp2_with fail
          go_meet
          case rel => exact ⟨by rw [decide_eq_false (show ¬ (q.act = 4 ∧ 0 < L.length) from fun h => e4 h.1)], S2⟩
      case rest =>
        obtain ⟨hc, S3⟩ := hcut
        obtain ⟨wy, hwy⟩ := world_ofS S3.out
        subst hwy hc
        clear S S2 c1
        go_upto_if 50 with fail
        go_cut [10] from 50 to 64 (fun u wx => Hid (∃ nn : Nat, u = .int .u32 (nn : Int) ∧ nn < 4294967296 ∧ St w [(g7, 52, opC q)] gr gp v L L ex wx))
        case first =>
          by_cases e : q.act = 4 ∧ 0 < L.length
          · rw [decide_eq_true e]
            obtain ⟨z, hz, hlz⟩ := last_get (L := L) e.2
            obtain ⟨gl, cv, cur, hv, hrw, h5⟩ := S3.out.doc.row e.2
            have c2 := S3.out.cell
            rw [hv] at c2
            have cz : wy.cell? ⟨gl, (L.length - 1) * 33 + 32, none⟩ = some (.int .u32 (z.2 : Int)) := by rw [hrw.cell]; exact tl_num S3.out.okd.heads h5 hz
            obtain ⟨N, hN⟩ : ∃ N, N = L.length := ⟨_, rfl⟩
            obtain ⟨m, hm⟩ : ∃ m, m = N - 1 := ⟨_, rfl⟩
            have h64 := S3.out.okd.few
            rw [← hN] at c2 cz h64
            rw [← hm] at cz
            have hpos := e.2
            obtain ⟨k, hk⟩ : ∃ k, k = (z.2 + 1) % 4294967296 := ⟨_, rfl⟩
            have hz2 := (S3.out.okd.num hz).1
            have hw1 : IntKind.i64.wrap ((N : Int) - 1) = (m : Int) := by rw [IntWalk.i64_in _ (by omega)]; omega
            have hw2 : IntKind.u32.wrap ((z.2 : Int) + 1) = (k : Int) := by rw [IntKind.wrap_u32]; omega
            have hmN : m < N := by omega
            have hk2 : k < 4294967296 := by omega
            clear hN hm hz hlz h5 hrw hk hz2 hpos h64 e
            go_wp2_with fail
            go_still_tail 14, (by kernel_rfl)
            change wpList _ _ _ _ _ wy.drew
            go_wp2_with fail
            go_meet
            case rel => exact ⟨k, rfl, hk2, S3.out.drew⟩
          · rw [decide_eq_false e]
            go_wp2_with fail
            go_meet
            case rel => exact ⟨q.n, rfl, HNN.out, S3.out⟩
        case rest =>
          obtain ⟨nn, hu, hnn2, hS⟩ := hcut.out
          obtain ⟨wz, hwz⟩ := world_ofS hS
          subst hwz hu
          have S4 := Lib.hid hS
          have c0 := S4.out.env.cellV 0 rfl 0 (.int .i64 q.act) rfl
          clear hcut S3 hS
          go_upto_block 2 with fail
          clear c0
          go_cut [8, 9, 11, 12, 13, 14] from 65 to 108 (fun x y p1 q1 r1 t1 wx => Hid (TpMeet w gr gp x y wx))
          case first =>
            by_cases e1 : q.act = 1
            · as_aux_lemma =>
                have c0 := S4.out.env.cellV 0 rfl 0 (.int .i64 q.act) rfl
                rw [e1] at c0
                have HNN2 : Hid (nn < 4294967296) := hnn2
                go_wp2_with (first
                  | (with_reducible refine wpList_loadK (o := ⟨some 72, _, _, _, _, _⟩) rfl 24 (.tmp 71) rfl g7 2 (by with_unfolding_all rfl) q.head _ (by have hr := rangeAt_row (k := 2) (n := (cellsB q.head).length) (S4.out.env.row 0 rfl); rwa [opC_key q LQ.out] at hr) Tryd.underlying24 rfl (Tryd.sizeKeyM _ LQ.out) ?_)
                  | (with_reducible refine wpList_val (o := ⟨some 74, _, _, _, _, _⟩) rfl _ (run_bT (.tmp 72) (.tmp 73) rfl q.head nn (by with_unfolding_all rfl) (by with_unfolding_all rfl) LQ.out) ?_))
                refine (S4.out.addP (t := (q.head, nn)) LQ.out HNN2.out).mono ?_
                intro e x1 h
                obtain ⟨he, h⟩ := h
                subst he
                have S5 := Lib.hid h
                clear h S4 c0
                go_wp2_with (first
                  | (with_reducible refine wpList_loadK (o := ⟨some 78, _, _, _, _, _⟩) rfl 24 (.tmp 77) rfl g7 2 (by with_unfolding_all rfl) q.head _ (by have hr := rangeAt_row (k := 2) (n := (cellsB q.head).length) (S5.out.env.row 0 rfl); rwa [opC_key q LQ.out] at hr) Tryd.underlying24 rfl (Tryd.sizeKeyM _ LQ.out) ?_)
                  | (with_reducible refine wpList_val (o := ⟨some 80, _, _, _, _, _⟩) rfl _ (run_bR (.tmp 78) (.tmp 79) rfl q.head nn (by with_unfolding_all rfl) (by with_unfolding_all rfl) LQ.out) ?_))
                refine (S5.out.addD (t := (q.head, nn)) LQ.out HNN2.out).mono ?_
                intro e x2 h
                obtain ⟨v2, ex2, he, h⟩ := h
                subst he
                have S6 := Lib.hid h
                clear h S5
                go_wp2_with fail
                go_meet
                case rel => exact ⟨_, v2, _, ex2, rfl, rfl, S6.out.tl⟩
            · have e1' : decide (q.act = 1) = false := decide_eq_false e1
              have e1'' : (q.act == 1) = false := beq_eq_false_iff_ne.2 e1
              by_cases e4 : q.act = 4
              · as_aux_lemma =>
                  have c0 := S4.out.env.cellV 0 rfl 0 (.int .i64 q.act) rfl
                  rw [e4] at c0
                  have HNN2 : Hid (nn < 4294967296) := hnn2
                  go_wp2_with (first
                    | (with_reducible refine wpList_loadK (o := ⟨some 72, _, _, _, _, _⟩) rfl 24 (.tmp 71) rfl g7 2 (by with_unfolding_all rfl) q.head _ (by have hr := rangeAt_row (k := 2) (n := (cellsB q.head).length) (S4.out.env.row 0 rfl); rwa [opC_key q LQ.out] at hr) Tryd.underlying24 rfl (Tryd.sizeKeyM _ LQ.out) ?_)
                    | (with_reducible refine wpList_val (o := ⟨some 74, _, _, _, _, _⟩) rfl _ (run_bT (.tmp 72) (.tmp 73) rfl q.head nn (by with_unfolding_all rfl) (by with_unfolding_all rfl) LQ.out) ?_))
                  refine (S4.out.addP (t := (q.head, nn)) LQ.out HNN2.out).mono ?_
                  intro e x1 h
                  obtain ⟨he, h⟩ := h
                  subst he
                  have S5 := Lib.hid h
                  clear h S4 c0
                  go_wp2_with (first
                    | (with_reducible refine wpList_loadK (o := ⟨some 78, _, _, _, _, _⟩) rfl 24 (.tmp 77) rfl g7 2 (by with_unfolding_all rfl) q.head _ (by have hr := rangeAt_row (k := 2) (n := (cellsB q.head).length) (S5.out.env.row 0 rfl); rwa [opC_key q LQ.out] at hr) Tryd.underlying24 rfl (Tryd.sizeKeyM _ LQ.out) ?_)
                    | (with_reducible refine wpList_val (o := ⟨some 80, _, _, _, _, _⟩) rfl _ (run_bR (.tmp 78) (.tmp 79) rfl q.head nn (by with_unfolding_all rfl) (by with_unfolding_all rfl) LQ.out) ?_))
                  refine (S5.out.addD (t := (q.head, nn)) LQ.out HNN2.out).mono ?_
                  intro e x2 h
                  obtain ⟨v2, ex2, he, h⟩ := h
                  subst he
                  have S6 := Lib.hid h
                  clear h S5
                  go_wp2_with fail
                  go_meet
                  case rel => exact ⟨_, v2, _, ex2, rfl, rfl, S6.out.tl⟩
              · have e4' : decide (q.act = 4) = false := decide_eq_false e4
                have e4'' : (q.act == 4) = false := beq_eq_false_iff_ne.2 e4
                by_cases e2 : q.act = 2
                · as_aux_lemma =>
                    obtain ⟨fd, hfd⟩ : ∃ z, z = findT L nn := ⟨_, rfl⟩
                    have LFD : Hid (fd.1.length = 32) := by show _ = _; rw [hfd]; exact findT_length S4.out.okp.heads nn
                    have CP : Hid (∀ x, St w [(g7, 52, opC q)] gr gp v L L ex x → Calls Tryd.prog 15 #[.pointer (some ⟨gp, 0, none⟩), .int .u32 (nn : Int)] x (RetV x (.tuple #[.agg (keyC fd.1), .int .i64 fd.2]))) := fun x h => by rw [hfd]; exact h.findP hnn2
                    have CDD : Hid (∀ x A, St w A gr gp v L L ex x → Calls Tryd.prog 16 #[.pointer (some ⟨gr, 0, none⟩), .int .u32 (nn : Int)] x (RetV x (.tuple #[.agg (keyC fd.1), .int .i64 fd.2]))) := fun x A h => by rw [hfd]; exact h.findD hnn2
                    have c0 := S4.out.env.cellV 0 rfl 0 (.int .i64 q.act) rfl
                    rw [e2] at c0
                    clear hfd
                    go_wp2_with fail
                    refine (CP.out _ S4.out).mono ?_
                    intro e x1 h
                    obtain ⟨he, b1⟩ := h
                    subst he
                    have S5 := Lib.hid (S4.out.call b1)
                    clear b1 S4 c0 CP
                    go_wp2_with (first
                      | ((with_reducible refine wpList_alloc_row (o := ⟨some 11, _, _, _, _, _⟩) rfl 24 rfl (keyC zeroKey) Tryd.zeroK ?_); intro ga x2 n1; have S6 := Lib.hid (S5.out.new n1); clear n1)
                      | ((with_reducible refine wpE_store (o := ⟨none, _, _, _, _, _⟩) rfl 24 (.tmp 11) (.tmp 88) rfl 0 ga 24 (keyC zeroKey) (keyC fd.1) (by with_unfolding_all rfl) (by with_unfolding_all rfl) (by with_unfolding_all rfl) (keyC_same zeroKey_length LFD.out) (Tryd.sizeKey _ LFD.out) (keyC_one _) S6.out.env ?_); intro x3 T1; have S7 : Hid (St w ((ga, 24, keyC fd.1) :: [(g7, 52, opC q)]) gr gp v L L ex x3) := Lib.hid ⟨T1, S6.out.okp, S6.out.okd, S6.out.list⟩; clear T1))
                    refine (CDD.out _ _ S7.out).mono ?_
                    intro e x4 h
                    obtain ⟨he, b1⟩ := h
                    subst he
                    have S8 := Lib.hid (S7.out.call b1)
                    have heq : ∀ W, (Op.equalIn 10000 24 (.agg (keyC fd.1)) (.agg (keyC fd.1))).run Tryd.prog W = .ok true W := fun W => by rw [Tryd.eqKeyIn fd.1 fd.1 LFD.out LFD.out W, beq_self_eq_true]
                    have hgd := Tryd.eqGuardKey
                    clear b1 S7 S6 S5 CDD
                    go_wp2_with (first
                      | ((with_reducible refine wpList_alloc_row (o := ⟨some 13, _, _, _, _, _⟩) rfl 24 rfl (keyC zeroKey) Tryd.zeroK ?_); intro gb x5 n1; have S9 := Lib.hid (S8.out.new n1); clear n1)
                      | ((with_reducible refine wpE_store (o := ⟨none, _, _, _, _, _⟩) rfl 24 (.tmp 13) (.tmp 94) rfl 0 gb 24 (keyC zeroKey) (keyC fd.1) (by with_unfolding_all rfl) (by with_unfolding_all rfl) (by with_unfolding_all rfl) (keyC_same zeroKey_length LFD.out) (Tryd.sizeKey _ LFD.out) (keyC_one _) S9.out.env ?_); intro x6 T1; have S10 : Hid (St w ((gb, 24, keyC fd.1) :: (ga, 24, keyC fd.1) :: [(g7, 52, opC q)]) gr gp v L L ex x6) := Lib.hid ⟨T1, S9.out.okp, S9.out.okd, S9.out.list⟩; clear T1)
                      | (with_reducible refine wpE_load (o := ⟨some 96, _, _, _, _, _⟩) rfl 24 (.tmp 11) rfl 1 ga 24 (keyC fd.1) _ (by with_unfolding_all rfl) (by with_unfolding_all rfl) Tryd.underlying24 rfl (Tryd.sizeKey _ LFD.out) S10.out.env ?_)
                      | (with_reducible refine wpE_load (o := ⟨some 97, _, _, _, _, _⟩) rfl 24 (.tmp 13) rfl 0 gb 24 (keyC fd.1) _ (by with_unfolding_all rfl) (by with_unfolding_all rfl) Tryd.underlying24 rfl (Tryd.sizeKey _ LFD.out) S10.out.env ?_))
                    go_meet
                    case rel => exact ⟨fd.2, v, L, ex, rfl, rfl, S10.out.tl.tl.tl⟩
                · have e2' : decide (q.act = 2) = false := decide_eq_false e2
                  have e2'' : (q.act == 2) = false := beq_eq_false_iff_ne.2 e2
                  by_cases e3 : q.act = 3
                  · as_aux_lemma =>
                      have c0 := S4.out.env.cellV 0 rfl 0 (.int .i64 q.act) rfl
                      rw [e3] at c0
                      have HNN2 : Hid (nn < 4294967296) := hnn2
                      go_wp2_with fail
                      refine (S4.out.forgetP HNN2.out).mono ?_
                      intro e x1 h
                      obtain ⟨he, h⟩ := h
                      subst he
                      have S5 := Lib.hid h
                      clear h S4 c0
                      go_wp2_with fail
                      refine (S5.out.forgetD HNN2.out).mono ?_
                      intro e x2 h
                      obtain ⟨v2, ex2, he, h⟩ := h
                      subst he
                      have S6 := Lib.hid h
                      clear h S5
                      go_wp2_with fail
                      go_meet
                      case rel => exact ⟨0, v2, _, ex2, rfl, rfl, S6.out.tl⟩
                  · have e3' : decide (q.act = 3) = false := decide_eq_false e3
                    have e3'' : (q.act == 3) = false := beq_eq_false_iff_ne.2 e3
                    as_aux_lemma =>
                      have c0 := S4.out.env.cellV 0 rfl 0 (.int .i64 q.act) rfl
                      go_wp2_with fail
                      go_meet
                      case rel => exact ⟨0, v, L, ex, rfl, rfl, S4.out.tl⟩
          case rest =>
            as_aux_lemma =>
              obtain ⟨X, v', L', ex', hx, hy, hS⟩ := hcut.out
              obtain ⟨wx, hwx⟩ := world_ofS hS
              subst hx hy hwx
              obtain ⟨Av, cv, hv⟩ := hS.doc.shape
              subst hv
              have S5 := Lib.hid hS
              clear hcut hS S4 hnn2
              go_wp2_with fail
              refine (S5.out.lenP).mono ?_
              rintro e y1 ⟨rfl, b1⟩
              have S6 := Lib.hid (S5.out.call b1)
              clear b1 S5
              go_wp2_with fail
              refine (S6.out.firstP).mono ?_
              rintro e y2 ⟨rfl, b2⟩
              have S7 := Lib.hid (S6.out.call b2)
              clear b2 S6
              go_wp2_with fail
              refine (S7.out.trailsP).mono ?_
              intro e y3 h
              obtain ⟨u, eu, he, htl, henv⟩ := h
              subst he
              obtain ⟨Au, cu, hu, hsu⟩ := tl_shape htl
              obtain ⟨Al, cl, hvl, hsl⟩ := tl_shape S7.out.list
              subst hu
              have hAl : Av = Al := by injection hvl
              have S8 := Lib.hid (S7.out.tail henv)
              have EV : Hid (Env w (((([] : List (Nat × TypeId × Array Value)) ++ [(gr, 50, #[.slice Av L'.length cv]), (gp, 46, pastC L')]) ++ ex') ++ eu) y3) := Lib.hid henv
              have c3 := S8.out.cell
              obtain ⟨M, hM⟩ : ∃ M, M = L'.length := ⟨_, rfl⟩
              have hM64 : M ≤ 64 := by rw [hM]; exact S8.out.okp.few
              have HH : Hid (HeadsOk L') := S8.out.okp.heads
              have GET : Hid (∀ m, m < M → ∃ t, L'[m]? = some t) := fun m hm => ⟨_, List.getElem?_eq_getElem (by omega)⟩
              have ROWS : Hid (0 < M → ∃ gu curu gl curl, Au = some ⟨gu, 0, none⟩ ∧ Av = some ⟨gl, 0, none⟩ ∧ (∀ x, Env w (((([] : List (Nat × TypeId × Array Value)) ++ [(gr, 50, #[.slice Av L'.length cv]), (gp, 46, pastC L')]) ++ ex') ++ eu) x → RowAt x gu 27 curu ∧ RowAt x gl 36 curl) ∧ curu.toList.take (L'.length * 33) = trF L' ∧ curl.toList.take (L'.length * 33) = trF L') := fun h => by
                obtain ⟨gu, capu, curu, q1, q2, _, _, q3⟩ := hsu (by omega)
                obtain ⟨gl, capl, curl, q4, q5, _, _, q6⟩ := hsl (by omega)
                refine ⟨gu, curu, gl, curl, q1, by rw [hAl]; exact q4, fun x hx => ⟨(hx.rows (gu, 27, curu) ?_).1, (hx.rows (gl, 36, curl) ?_).1⟩, q3, q6⟩
                · rw [q2]; exact List.mem_append_right _ (List.mem_singleton.2 rfl)
                · rw [q5]; exact List.mem_append_left _ (List.mem_append_right _ (List.mem_singleton.2 rfl))
              have CG : Hid (∀ x, Env w (((([] : List (Nat × TypeId × Array Value)) ++ [(gr, 50, #[.slice Av L'.length cv]), (gp, 46, pastC L')]) ++ ex') ++ eu) x → x.cell? ⟨gr, 0, none⟩ = some (.slice Av M cv)) := fun x hx => by rw [hM]; exact (S8.out.tail hx).cell
              have FIN : Hid (∀ x, Env w (((([] : List (Nat × TypeId × Array Value)) ++ [(gr, 50, #[.slice Av L'.length cv]), (gp, 46, pastC L')]) ++ ex') ++ eu) x → St w [] gr gp (.slice Av L'.length cv) L' L' ex' x) := fun x hx => S8.out.tail hx
              have CFD := Lib.hid S8.out.firstD
              clear henv htl hsu hsl hvl hAl S7
              rw [← hM] at c3 ⊢
              have HM := Lib.hid hM
              clear hM
              go_wp2_with fail
              refine CFD.out.mono ?_
              rintro e y4 ⟨rfl, b4⟩
              have EW := Lib.hid (EV.out.call b4)
              clear b4 CFD S8 EV c3
              go_wp2_with fail
              go_loopw [18] (fun p wr2 => ∃ m : Nat, m ≤ M ∧ p = .int .i64 (m : Int) ∧ Hid (Env w (((([] : List (Nat × TypeId × Array Value)) ++ [(gr, 50, #[.slice Av L'.length cv]), (gp, 46, pastC L')]) ++ ex') ++ eu) wr2)) (fun p _ => M - (intOf p).toNat)
              case atStart => exact ⟨0, by omega, rfl, EW⟩
              case round =>
                clear EW
                obtain ⟨m, hm, rfl, E⟩ := hrel
                by_cases hmM : m < M
                · have hmM2 : (m : Int) < (M : Int) := by omega
                  have hm0 : ¬ ((m : Int) < 0) := by omega
                  have hwm : IntKind.i64.wrap ((m : Int) + 1) = (m : Int) + 1 := IntWalk.i64_in _ (by omega)
                  obtain ⟨t, ht⟩ := GET.out m hmM
                  obtain ⟨gu, curu, gl, curl, q1, q2, q3, q4, q5⟩ := ROWS.out (by omega)
                  subst q1 q2
                  have HT := Lib.hid ht
                  have RW := Lib.hid q3
                  have TU := Lib.hid q4
                  have TL := Lib.hid q5
                  have LT : Hid (t.1.length = 32) := HH.out t (List.mem_of_getElem? ht)
                  clear ht q3 q4 q5
                  go_wp2_with fail
                  refine plain_region (S := fun x => Env w (((([] : List (Nat × TypeId × Array Value)) ++ [(gr, 50, #[.slice (some ⟨gl, 0, none⟩) L'.length cv]), (gp, 46, pastC L')]) ++ ex') ++ eu) x) (fin := fun _ => false) (by kernel_rfl) ?_
                  have hS := E.out.drew
                  change walkS _ _ _ _ _ _ 30 _ _ _
                  refine walkS_take (i := 0) (oi := ⟨some 144, _, _, _, _, _⟩) (v := .slice (some ⟨gu, 0, none⟩) M cu) rfl (by kernel_rfl) (by kernel_rfl) (fun _ _ _ h => h) _ _ _ _ (by kernel_rfl) (by kernel_rfl) (Or.inl ⟨by rfl, fun w' hS' => (by first | rfl | (clear hS hS'; go_simp))⟩) hS ?_
                  try simp only [Act.put, List.setIfInBounds_toArray, List.set_cons_zero, List.set_cons_succ]
                  refine walkS_take (i := 1) (oi := ⟨some 145, _, _, _, _, _⟩) (v := .int .i64 (m : Int)) rfl (by kernel_rfl) (by kernel_rfl) (fun _ _ _ h => h) _ _ _ _ (by kernel_rfl) (by kernel_rfl) (Or.inl ⟨by rfl, fun w' hS' => (by first | rfl | (clear hS hS'; go_simp))⟩) hS ?_
                  try simp only [Act.put, List.setIfInBounds_toArray, List.set_cons_zero, List.set_cons_succ]
                  refine walkS_take (i := 2) (oi := ⟨some 146, _, _, _, _, _⟩) (v := .pointer (some ⟨gu, m * 33, none⟩)) rfl (by kernel_rfl) (by kernel_rfl) (fun _ _ _ h => h) _ _ _ _ (by kernel_rfl) (by kernel_rfl) (Or.inl ⟨by rfl, fun w' hS' => (run_idxAt0 33 61 27 (.tmp 144) (.tmp 145) rfl gu M cu m rfl rfl hmM Tryd.underlying61 Tryd.sizeT33)⟩) hS ?_
                  try simp only [Act.put, List.setIfInBounds_toArray, List.set_cons_zero, List.set_cons_succ]
                  refine walkS_take (i := 3) (oi := ⟨some 147, _, _, _, _, _⟩) (v := .pointer (some ⟨gu, m * 33, none⟩)) rfl (by kernel_rfl) (by kernel_rfl) (fun _ _ _ h => h) _ _ _ _ (by kernel_rfl) (by kernel_rfl) (Or.inl ⟨by rfl, fun w' hS' => (by first | rfl | (clear hS hS'; go_simp))⟩) hS ?_
                  try simp only [Act.put, List.setIfInBounds_toArray, List.set_cons_zero, List.set_cons_succ]
                  refine walkS_take (i := 4) (oi := ⟨some 148, _, _, _, _, _⟩) (v := .agg (keyC t.1)) rfl (by kernel_rfl) (by kernel_rfl) (fun _ _ _ h => h) _ _ _ _ (by kernel_rfl) (by kernel_rfl) (Or.inl ⟨by rfl, fun w' hS' => (run_keyL 24 (.tmp 147) rfl gu (m * 33) rfl t.1 _ (by have h := rangeAt_row (k := m * 33) (n := (cellsB t.1).length) (RW.out w' hS').1; rw [tl_head HH.out TU.out HT.out] at h; exact h) Tryd.underlying24 rfl (Tryd.sizeKeyM _ LT.out))⟩) hS ?_
                  try simp only [Act.put, List.setIfInBounds_toArray, List.set_cons_zero, List.set_cons_succ]
                  refine walkS_take (i := 5) (oi := ⟨some 149, _, _, _, _, _⟩) (v := .pointer (some ⟨gr, 0, none⟩)) rfl (by kernel_rfl) (by kernel_rfl) (fun _ _ _ h => h) _ _ _ _ (by kernel_rfl) (by kernel_rfl) (Or.inl ⟨by rfl, fun w' hS' => (by first | rfl | (clear hS hS'; go_simp))⟩) hS ?_
                  try simp only [Act.put, List.setIfInBounds_toArray, List.set_cons_zero, List.set_cons_succ]
                  refine walkS_take (i := 6) (oi := ⟨some 150, _, _, _, _, _⟩) (v := .pointer (some ⟨gr, 0, none⟩)) rfl (by kernel_rfl) (by kernel_rfl) (fun _ _ _ h => h) _ _ _ _ (by kernel_rfl) (by kernel_rfl) (Or.inl ⟨by rfl, fun w' hS' => (by first | rfl | (clear hS hS'; go_simp))⟩) hS ?_
                  try simp only [Act.put, List.setIfInBounds_toArray, List.set_cons_zero, List.set_cons_succ]
                  refine walkS_take (i := 7) (oi := ⟨some 151, _, _, _, _, _⟩) (v := .pointer (some ⟨gr, 0, none⟩)) rfl (by kernel_rfl) (by kernel_rfl) (fun _ _ _ h => h) _ _ _ _ (by kernel_rfl) (by kernel_rfl) (Or.inl ⟨by rfl, fun w' hS' => (by first | rfl | (clear hS hS'; go_simp))⟩) hS ?_
                  try simp only [Act.put, List.setIfInBounds_toArray, List.set_cons_zero, List.set_cons_succ]
                  refine walkS_take (i := 8) (oi := ⟨some 152, _, _, _, _, _⟩) (v := .slice (some ⟨gl, 0, none⟩) M cv) rfl (by kernel_rfl) (by kernel_rfl) (fun _ _ _ h => h) _ _ _ _ (by kernel_rfl) (by kernel_rfl) (Or.inl ⟨by rfl, fun w' hS' => (by have c := CG.out w' hS'; clear hS hS'; go_simp)⟩) hS ?_
                  try simp only [Act.put, List.setIfInBounds_toArray, List.set_cons_zero, List.set_cons_succ]
                  refine walkS_take (i := 9) (oi := ⟨some 153, _, _, _, _, _⟩) (v := .int .i64 (m : Int)) rfl (by kernel_rfl) (by kernel_rfl) (fun _ _ _ h => h) _ _ _ _ (by kernel_rfl) (by kernel_rfl) (Or.inl ⟨by rfl, fun w' hS' => (by first | rfl | (clear hS hS'; go_simp))⟩) hS ?_
                  try simp only [Act.put, List.setIfInBounds_toArray, List.set_cons_zero, List.set_cons_succ]
                  refine walkS_take (i := 10) (oi := ⟨some 154, _, _, _, _, _⟩) (v := .pointer (some ⟨gl, m * 33, none⟩)) rfl (by kernel_rfl) (by kernel_rfl) (fun _ _ _ h => h) _ _ _ _ (by kernel_rfl) (by kernel_rfl) (Or.inl ⟨by rfl, fun w' hS' => (run_idxAt0 33 48 36 (.tmp 152) (.tmp 153) rfl gl M cv m rfl rfl hmM Tryd.underlying48 Tryd.sizeR33)⟩) hS ?_
                  try simp only [Act.put, List.setIfInBounds_toArray, List.set_cons_zero, List.set_cons_succ]
                  refine walkS_take (i := 11) (oi := ⟨some 155, _, _, _, _, _⟩) (v := .pointer (some ⟨gl, m * 33, none⟩)) rfl (by kernel_rfl) (by kernel_rfl) (fun _ _ _ h => h) _ _ _ _ (by kernel_rfl) (by kernel_rfl) (Or.inl ⟨by rfl, fun w' hS' => (by first | rfl | (clear hS hS'; go_simp))⟩) hS ?_
                  try simp only [Act.put, List.setIfInBounds_toArray, List.set_cons_zero, List.set_cons_succ]
                  refine walkS_take (i := 12) (oi := ⟨some 156, _, _, _, _, _⟩) (v := .agg (keyC t.1)) rfl (by kernel_rfl) (by kernel_rfl) (fun _ _ _ h => h) _ _ _ _ (by kernel_rfl) (by kernel_rfl) (Or.inl ⟨by rfl, fun w' hS' => (run_keyL 24 (.tmp 155) rfl gl (m * 33) rfl t.1 _ (by have h := rangeAt_row (k := m * 33) (n := (cellsB t.1).length) (RW.out w' hS').2; rw [tl_head HH.out TL.out HT.out] at h; exact h) Tryd.underlying24 rfl (Tryd.sizeKeyM _ LT.out))⟩) hS ?_
                  try simp only [Act.put, List.setIfInBounds_toArray, List.set_cons_zero, List.set_cons_succ]
                  refine walkS_take (i := 13) (oi := ⟨some 157, _, _, _, _, _⟩) (v := .bool false) rfl (by kernel_rfl) (by kernel_rfl) (fun _ _ _ h => h) _ _ _ _ (by kernel_rfl) (by kernel_rfl) (Or.inl ⟨by rfl, fun w' hS' => (by have heq : ∀ W, (Op.equalIn 10000 24 (.agg (keyC t.1)) (.agg (keyC t.1))).run Tryd.prog W = .ok true W := (fun W => by rw [Tryd.eqKeyIn t.1 t.1 LT.out LT.out W, beq_self_eq_true]); have hgd := Tryd.eqGuardKey; clear hS hS'; go_simp)⟩) hS ?_
                  try simp only [Act.put, List.setIfInBounds_toArray, List.set_cons_zero, List.set_cons_succ]
                  refine walkS_take (i := 14) (oi := ⟨some 158, _, _, _, _, _⟩) (v := .bool false) rfl (by kernel_rfl) (by kernel_rfl) (fun _ _ _ h => h) _ _ _ _ (by kernel_rfl) (by kernel_rfl) (Or.inl ⟨by rfl, fun w' hS' => (by first | rfl | (clear hS hS'; go_simp))⟩) hS ?_
                  try simp only [Act.put, List.setIfInBounds_toArray, List.set_cons_zero, List.set_cons_succ]
                  refine walkS_take (i := 15) (oi := ⟨some 159, _, _, _, _, _⟩) (v := .slice (some ⟨gu, 0, none⟩) M cu) rfl (by kernel_rfl) (by kernel_rfl) (fun _ _ _ h => h) _ _ _ _ (by kernel_rfl) (by kernel_rfl) (Or.inl ⟨by rfl, fun w' hS' => (by first | rfl | (clear hS hS'; go_simp))⟩) hS ?_
                  try simp only [Act.put, List.setIfInBounds_toArray, List.set_cons_zero, List.set_cons_succ]
                  refine walkS_take (i := 16) (oi := ⟨some 160, _, _, _, _, _⟩) (v := .int .i64 (m : Int)) rfl (by kernel_rfl) (by kernel_rfl) (fun _ _ _ h => h) _ _ _ _ (by kernel_rfl) (by kernel_rfl) (Or.inl ⟨by rfl, fun w' hS' => (by first | rfl | (clear hS hS'; go_simp))⟩) hS ?_
                  try simp only [Act.put, List.setIfInBounds_toArray, List.set_cons_zero, List.set_cons_succ]
                  refine walkS_take (i := 17) (oi := ⟨some 161, _, _, _, _, _⟩) (v := .pointer (some ⟨gu, m * 33, none⟩)) rfl (by kernel_rfl) (by kernel_rfl) (fun _ _ _ h => h) _ _ _ _ (by kernel_rfl) (by kernel_rfl) (Or.inl ⟨by rfl, fun w' hS' => (run_idxAt0 33 61 27 (.tmp 159) (.tmp 160) rfl gu M cu m rfl rfl hmM Tryd.underlying61 Tryd.sizeT33)⟩) hS ?_
                  try simp only [Act.put, List.setIfInBounds_toArray, List.set_cons_zero, List.set_cons_succ]
                  refine walkS_take (i := 18) (oi := ⟨some 162, _, _, _, _, _⟩) (v := .pointer (some ⟨gu, m * 33 + 32, none⟩)) rfl (by kernel_rfl) (by kernel_rfl) (fun _ _ _ h => h) _ _ _ _ (by kernel_rfl) (by kernel_rfl) (Or.inl ⟨by rfl, fun w' hS' => (by first | rfl | (clear hS hS'; go_simp))⟩) hS ?_
                  try simp only [Act.put, List.setIfInBounds_toArray, List.set_cons_zero, List.set_cons_succ]
                  refine walkS_take (i := 19) (oi := ⟨some 163, _, _, _, _, _⟩) (v := .int .u32 (t.2 : Int)) rfl (by kernel_rfl) (by kernel_rfl) (fun _ _ _ h => h) _ _ _ _ (by kernel_rfl) (by kernel_rfl) (Or.inl ⟨by rfl, fun w' hS' => (by have c : w'.cell? _ = some (.int .u32 (t.2 : Int)) := ((RW.out w' hS').1.cell (m * 33 + 32)).trans (tl_num HH.out TU.out HT.out); clear hS hS'; go_simp)⟩) hS ?_
                  try simp only [Act.put, List.setIfInBounds_toArray, List.set_cons_zero, List.set_cons_succ]
                  refine walkS_take (i := 20) (oi := ⟨some 164, _, _, _, _, _⟩) (v := .pointer (some ⟨gr, 0, none⟩)) rfl (by kernel_rfl) (by kernel_rfl) (fun _ _ _ h => h) _ _ _ _ (by kernel_rfl) (by kernel_rfl) (Or.inl ⟨by rfl, fun w' hS' => (by first | rfl | (clear hS hS'; go_simp))⟩) hS ?_
                  try simp only [Act.put, List.setIfInBounds_toArray, List.set_cons_zero, List.set_cons_succ]
                  refine walkS_take (i := 21) (oi := ⟨some 165, _, _, _, _, _⟩) (v := .pointer (some ⟨gr, 0, none⟩)) rfl (by kernel_rfl) (by kernel_rfl) (fun _ _ _ h => h) _ _ _ _ (by kernel_rfl) (by kernel_rfl) (Or.inl ⟨by rfl, fun w' hS' => (by first | rfl | (clear hS hS'; go_simp))⟩) hS ?_
                  try simp only [Act.put, List.setIfInBounds_toArray, List.set_cons_zero, List.set_cons_succ]
                  refine walkS_take (i := 22) (oi := ⟨some 166, _, _, _, _, _⟩) (v := .pointer (some ⟨gr, 0, none⟩)) rfl (by kernel_rfl) (by kernel_rfl) (fun _ _ _ h => h) _ _ _ _ (by kernel_rfl) (by kernel_rfl) (Or.inl ⟨by rfl, fun w' hS' => (by first | rfl | (clear hS hS'; go_simp))⟩) hS ?_
                  try simp only [Act.put, List.setIfInBounds_toArray, List.set_cons_zero, List.set_cons_succ]
                  refine walkS_take (i := 23) (oi := ⟨some 167, _, _, _, _, _⟩) (v := .slice (some ⟨gl, 0, none⟩) M cv) rfl (by kernel_rfl) (by kernel_rfl) (fun _ _ _ h => h) _ _ _ _ (by kernel_rfl) (by kernel_rfl) (Or.inl ⟨by rfl, fun w' hS' => (by have c := CG.out w' hS'; clear hS hS'; go_simp)⟩) hS ?_
                  try simp only [Act.put, List.setIfInBounds_toArray, List.set_cons_zero, List.set_cons_succ]
                  refine walkS_take (i := 24) (oi := ⟨some 168, _, _, _, _, _⟩) (v := .int .i64 (m : Int)) rfl (by kernel_rfl) (by kernel_rfl) (fun _ _ _ h => h) _ _ _ _ (by kernel_rfl) (by kernel_rfl) (Or.inl ⟨by rfl, fun w' hS' => (by first | rfl | (clear hS hS'; go_simp))⟩) hS ?_
                  try simp only [Act.put, List.setIfInBounds_toArray, List.set_cons_zero, List.set_cons_succ]
                  refine walkS_take (i := 25) (oi := ⟨some 169, _, _, _, _, _⟩) (v := .pointer (some ⟨gl, m * 33, none⟩)) rfl (by kernel_rfl) (by kernel_rfl) (fun _ _ _ h => h) _ _ _ _ (by kernel_rfl) (by kernel_rfl) (Or.inl ⟨by rfl, fun w' hS' => (run_idxAt0 33 48 36 (.tmp 167) (.tmp 168) rfl gl M cv m rfl rfl hmM Tryd.underlying48 Tryd.sizeR33)⟩) hS ?_
                  try simp only [Act.put, List.setIfInBounds_toArray, List.set_cons_zero, List.set_cons_succ]
                  refine walkS_take (i := 26) (oi := ⟨some 170, _, _, _, _, _⟩) (v := .pointer (some ⟨gl, m * 33 + 32, none⟩)) rfl (by kernel_rfl) (by kernel_rfl) (fun _ _ _ h => h) _ _ _ _ (by kernel_rfl) (by kernel_rfl) (Or.inl ⟨by rfl, fun w' hS' => (by first | rfl | (clear hS hS'; go_simp))⟩) hS ?_
                  try simp only [Act.put, List.setIfInBounds_toArray, List.set_cons_zero, List.set_cons_succ]
                  refine walkS_take (i := 27) (oi := ⟨some 171, _, _, _, _, _⟩) (v := .int .u32 (t.2 : Int)) rfl (by kernel_rfl) (by kernel_rfl) (fun _ _ _ h => h) _ _ _ _ (by kernel_rfl) (by kernel_rfl) (Or.inl ⟨by rfl, fun w' hS' => (by have c : w'.cell? _ = some (.int .u32 (t.2 : Int)) := ((RW.out w' hS').2.cell (m * 33 + 32)).trans (tl_num HH.out TL.out HT.out); clear hS hS'; go_simp)⟩) hS ?_
                  try simp only [Act.put, List.setIfInBounds_toArray, List.set_cons_zero, List.set_cons_succ]
                  refine walkS_take (i := 28) (oi := ⟨some 172, _, _, _, _, _⟩) (v := .bool false) rfl (by kernel_rfl) (by kernel_rfl) (fun _ _ _ h => h) _ _ _ _ (by kernel_rfl) (by kernel_rfl) (Or.inl ⟨by rfl, fun w' hS' => (by first | rfl | (clear hS hS'; go_simp))⟩) hS ?_
                  try simp only [Act.put, List.setIfInBounds_toArray, List.set_cons_zero, List.set_cons_succ]
                  refine walkS_take (i := 29) (oi := ⟨some 173, _, _, _, _, _⟩) (v := .bool false) rfl (by kernel_rfl) (by kernel_rfl) (fun _ _ _ h => h) _ _ _ _ (by kernel_rfl) (by kernel_rfl) (Or.inl ⟨by rfl, fun w' hS' => (by first | rfl | (clear hS hS'; go_simp))⟩) hS ?_
                  try simp only [Act.put, List.setIfInBounds_toArray, List.set_cons_zero, List.set_cons_succ]
                  have FE := Lib.hid hS
                  clear hS
                  refine walkS_done (by kernel_rfl) ?_ _
                  go_wp2_with fail
                  refine ⟨⟨m + 1, by omega, by congr 1, FE⟩, ?_⟩
                  show M - ((m : Int) + 1).toNat < M - (m : Int).toNat
                  omega
                · have hmM2 : ¬ ((m : Int) < (M : Int)) := by omega
                  have hmM3 : ¬ (m < M) := hmM
                  have ED := Lib.hid (FIN.out _ E.out)
                  clear CG ROWS GET
                  go_wp2_with fail
                  refine ⟨⟨j + 1, by omega, by congr 1, _, L', ex', ED⟩, ?_⟩
                  show l.length - ((j : Int) + 1).toNat < l.length - (j : Int).toNat
                  omega
    · have hjl : j = l.length := by omega
      have hjl2 : ¬ (j : Int) < (l.length : Int) := by omega
      go_wp2_with fail
      go_ret
      exact S.out.env.ret _
end Go.Proofs.YtlifjlcfoeednaaDoor
end
section
namespace Go.Proofs.YtlifjlcfoeednaaDoor.trailPast
open Go.ChangeShapes Go.WideShapes Go.ChangeAt Go.RowKit
open Go.ChangeMaps (open_string shut_string)
set_option linter.unusedVariables false

theorem own : ownKnob Tryd.prog.godebug = none := by kernel_rfl
theorem laidOut : laidOutB Tryd.prog = true := by kernel_rfl

theorem laid_met (os : Os) : laidMet Tryd.prog Rows.trailPastRow.laid ((laidWorld os).forCall (fun _ _ => 0) ⟨#[], #[.slice none 0 0], []⟩).memory :=
  laidMet_of_run' 8 (by kernel_rfl) (by kernel_rfl)
theorem reads (os : Os) {H : Type} (enc : TypeId × Value → H) : ∃ places, DataW.whole enc Tryd.prog ((laidWorld os).forCall (fun _ _ => 0) ⟨#[], #[.slice none 0 0], []⟩).memory Tryd.f4.params.toList Rows.trailPastSpec.vars false #[.slice none 0 0].toList 8 = some ([.nil], [], places) :=
  ⟨[], by kernel_rfl⟩

set_option maxRecDepth 100000 in
theorem contract (H : Type) (enc : TypeId × Value → H) (W : World) (base : Nat) (args : Array Value) (ds gs : List (DataW H)) (before : List MemPlace)
    (hval0 : ∀ (j : Nat) t v, Tryd.f4.params[j]? = some t → args[j]? = some v → Value.okWide Tryd.prog W .any base t v)
    (hW : DataW.Whole enc Tryd.prog Tryd.f4.params.toList Rows.trailPastSpec.vars false W args.toList ds gs before) (hL : laidMetH Tryd.prog Rows.trailPastRow.laid W) :
    Calls Tryd.prog 4 args W fun e W' => ∃ v, e = .returned v ∧ Rows.trailPastSpec.post enc Tryd.prog Tryd.f4 false true false false W args v W' := by
  have hq := tables hL
  have hval : ∀ (j : Nat) t v, Tryd.f4.params[j]? = some t → args[j]? = some v → Value.okWide Tryd.prog W .any base t v := hval0
  have hW' := hW
  obtain ⟨p, q, hA0, hV, rfl, hfz, hnd⟩ := hW
  have hA : DataW.TrodAll enc Tryd.prog W 0 (fun _ => true) true Tryd.f4.params.toList args.toList ds p := hA0
  rw [Tryd.params4] at hA hval
  obtain ⟨v0, vs0, d0, ds0, p0, q0, hargs, rfl, rfl, h0, r0⟩ := trodAll_cons hA
  obtain ⟨rfl, rfl, rfl⟩ := trodAll_nil r0
  obtain rfl : args = #[v0] := by cases args; simp_all
  obtain ⟨rfl, rfl⟩ := trodVars_none hV
  obtain ⟨a0, len0, cap0, rfl⟩ := okWide_slice Tryd.underlying42 (hval 0 42 v0 rfl rfl)
  have k0 := h0
  have lt0 : ∀ x ∈ p0, x.block < W.heap.size := by obtain ⟨m, hm⟩ := k0; exact DataW.trod_lt m _ _ _ hm
  obtain ⟨l0, w0⟩ : ∃ l, OpTs W (.slice a0 len0 cap0) l := by
    obtain ⟨fuel, hf⟩ := h0
    obtain ⟨v, l, hcs, hk⟩ := open_opts hf
    simp [Value.cells] at hcs
    subst hcs
    exact ⟨l, hk⟩
  clear hA0 hval0
  refine (trailPast_walk W hq _ l0 w0).mono fun e W' ⟨he, bel⟩ => ?_
  subst he
  exact ⟨_, rfl, _, _, _, [], _, [], hW', trodAll_mk1 (shut_bool Tryd.underlying4 _), (trodAll_cons_mk (Below.trod laidOut (by kernel_rfl) (of_decide_eq_true (by kernel_rfl)) k0 bel lt0) trodAll_mk0), rfl, bel.frame _, fun h => by cases h⟩

set_option maxRecDepth 100000 in
theorem lifted (os : Os) (started : os.Started) (H : Type) (enc : TypeId × Value → H) (F : Stop.Interp) :
    ReturnsInHanded {} Tryd.checked os 4 .any ((OpenSpec.ofChange Rows.trailPastSpec).preRow enc Tryd.prog Tryd.f4 Rows.trailPastRow.domain false Rows.trailPastRow.laid) (((OpenSpec.ofChange Rows.trailPastSpec).at F).post enc Tryd.prog Tryd.f4 false true false false) := by
  obtain ⟨places, hx⟩ := reads os enc
  refine returnsInHanded_of_row (C := Tryd.checked) (s := OpenSpec.ofChange Rows.trailPastSpec) own started (by kernel_rfl) Tryd.func4
    (witness_row_at (enc := enc) (C := Tryd.checked) false (laidWorld os) #[.slice none 0 0] rfl (by kernel_rfl) (by kernel_rfl) (by kernel_rfl)
      (OpenSpec.preRow_of_cond 8 hx (by kernel_rfl) (fun k hk => by cases hk) (by kernel_rfl) (laid_met os))) ?_
  intro W base args ds gs before hval hW _ _ _ hL _ _
  exact contract H enc W base args ds gs before hval hW hL

theorem said : Rows.TrailPastSaid :=
  OpenClaim.holds_of_cond 4 Tryd.f4 rfl rfl rfl rfl rfl rfl rfl ⟨rfl, rfl, rfl, rfl, rfl⟩ rfl rfl rfl rfl rfl (by kernel_rfl) Tryd.func4 (by kernel_rfl)
    (of_decide_eq_true (by kernel_rfl)) (by unfold Func.isWrapper; first | (rw [if_pos (by decide +kernel)]; kernel_rfl) | (rw [if_neg (by decide +kernel)]; exact ⟨rfl, rfl⟩))
    (fun os started H enc _ F => by rw [OpenClaim.pre_eq_preRow]; exact lifted os started H enc F)

theorem noStand : (Tryd.f4.params.toList.all fun t => Tryd.prog.wantsStandIn t == false) = true := by kernel_rfl
theorem plain (f : FuncId) (fn : Func) (hf : Tryd.pinned.checked.prog.funcNamed "cablegram/cablegramlaw14.TrailPast" = some f) (hfn : Tryd.pinned.checked.prog.funcs[f]? = some fn) :
    false = Tryd.pinned.checked.prog.looks [] ∧ ∀ (j : Nat) t, fn.params[j]? = some t → Tryd.pinned.checked.prog.wantsStandIn t = false := by
  obtain rfl : f = 4 := Option.some.inj ((show Tryd.prog.funcNamed "cablegram/cablegramlaw14.TrailPast" = some 4 by kernel_rfl).symm.trans hf) |>.symm
  obtain rfl : fn = Tryd.f4 := (Option.some.inj (Tryd.func4.symm.trans hfn)).symm
  refine ⟨by kernel_rfl, fun j t ht => ?_⟩
  have hm : t ∈ Tryd.f4.params.toList := by simpa using Array.mem_of_getElem? ht
  exact beq_iff_eq.1 (List.all_eq_true.1 noStand t hm)

theorem proved : Rows.TrailPastCardSaid :=
  Claim7.holds_tied_plain_at .later [] _ _ _ _ said (fun _ h => by cases h) (by kernel_rfl) (fun _ h => by cases h) trailPast_row_tie rfl ⟨rfl, rfl⟩ (by kernel_rfl) rfl plain (by kernel_rfl)
#print axioms proved
end Go.Proofs.YtlifjlcfoeednaaDoor.trailPast
end
