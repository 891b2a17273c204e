/-
  SealMakes: for every input the call returns true, and each argument reads as it read before. Conditions: none beyond the given statement's own (the package-level tables that its row lists hold what the program's text lays: the card ties that).
-/
import Derived.Test.YtjdbjgaoeijmfaaDoorQSbaAN
import Derived.Test.YtjdbjgaoeijmfaaDoorQSbaAP
import Derived.Test.YtjdbjgaoeijmfaaDoorQSbaAQ
import Derived.Test.YtjdbjgaoeijmfaaDoorQSbaAD
import Derived.ProofKit
import Derived.OpenShut
import Derived.ShutString
import Derived.ChangeOld
import Derived.Deep.DeepHandedRow
section
namespace Go.Proofs.YtjdbjgaoeijmfaaDoor
open Go.RowKit
set_option linter.unusedVariables false
set_option maxRecDepth 20000

theorem walkS_onlyG4 {P : Program} {md : Region.Mode} {ops : Array Oper} {Q : Exit → Act → World → Prop} {S : World → Prop} {fin : Nat → Bool} {i : Nat} {o : Oper} {m : Nat} {listed : Array Bool} {a : Act} {w : World} (hr : Region.ready md ops listed = [i]) (ho : ops[i]? = some o) (hw : Region.wanted o (yielded ops a.tmps) = true)
    (h : ∀ K : Act → World → Prop, (∀ a' w', (fin i = true ∨ S w') → walkS P md ops Q S fin m (listed.setIfInBounds i true) a' w' → K a' w') → o.wp P a w K Q) : walkS P md ops Q S fin (m + 1) listed a w := by
  refine ⟨fun h0 => by simp [hr] at h0, fun j hj => ?_⟩
  rw [hr] at hj
  obtain rfl : j = i := by simpa using hj
  unfold wpOp
  rw [ho]
  simp only [hw, if_true]
  exact .inl (h _ (fun a' w' h1 h2 => ⟨h1, h2⟩))
theorem Seal_small (w : World) (hq2 : Quar w) (key : List UInt8) (hk : key.length = 32) (va vt : Value) (a t : List UInt8) (h1 : a.length ≤ 300) (h2 : t.length ≤ 300) :
    (∀ x g n, Run w x g n x → n ≤ 800000 → Bs x va a → Bs x vt t → Calls Tryd.prog 9 #[.pointer (some ⟨g, 0, none⟩), .agg (keyC key), va, vt] x fun e y => ∃ u n', n' ≤ n + 9 ∧ e = .returned (.tuple #[u, .int .i64 0]) ∧ Bs y u (sealB key a t) ∧ Run w x g n' y) ∧
      (∀ x g n, LogR w x g n x → n ≤ 800000 → Bs x va a → Bs x vt t → Calls Tryd.prog 10 #[.pointer (some ⟨g, 0, none⟩), .agg (keyC key), va, vt] x fun e y => ∃ u n', n' ≤ n + 9 ∧ e = .returned (.tuple #[u, .int .i64 0]) ∧ Bs y u (sealB key a t) ∧ LogR w x g n' y) :=
  ⟨fun x g n hr hn ha ht => Seal_ok w x hq2 g n hr (by omega) key hk va vt a t ha ht (by omega) (by omega), fun x g n hr hn ha ht => refSeal_ok w x g n hr (by omega) key hk va vt a t ha ht (by omega) (by omega)⟩
theorem Seal_big (w : World) (key : List UInt8) (va vt : Value) (a t : List UInt8) (h : 4000 < a.length ∨ 4000 < t.length) :
    (∀ x g n, Run w x g n x → n ≤ 800000 → Bs x va a → Bs x vt t → Calls Tryd.prog 9 #[.pointer (some ⟨g, 0, none⟩), .agg (keyC key), va, vt] x fun e y => ∃ n', e = .returned (.tuple #[.slice none 0 0, .int .i64 2]) ∧ Run w x g n' y) ∧
      (∀ x g n, LogR w x g n x → n ≤ 800000 → Bs x va a → Bs x vt t → Calls Tryd.prog 10 #[.pointer (some ⟨g, 0, none⟩), .agg (keyC key), va, vt] x fun e y => ∃ n', e = .returned (.tuple #[.slice none 0 0, .int .i64 2]) ∧ LogR w x g n' y) :=
  ⟨fun x g n hr _ ha ht => (Seal_long x _ key va vt a t ha ht h).mono fun e y ⟨he, hb⟩ => ⟨n, he, hr.kept hb⟩, fun x g n hr _ ha ht => (refSeal_long x _ key va vt a t ha ht h).mono fun e y ⟨he, hb⟩ => ⟨n, he, hr.kept hb⟩⟩
set_option maxHeartbeats 8000000 in
theorem sealMakes_walk (w : World) (hq : Tabs w ∧ Quar w) (key : List UInt8) (hk : key.length = 32) (va : Value) (a : List UInt8) (ha : Bs w va a) (vt : Value) (t : List UInt8) (ht : Bs w vt t) :
    Calls Tryd.prog 3 #[keyV key, va, vt] w (RetV w (.bool true)) := by
  have HQ := Lib.hid hq
  have LK := Lib.hid hk
  have HA := Lib.hid ha
  have HT := Lib.hid ht
  obtain ⟨AA, ac, rfl, _, _, _⟩ := ha
  obtain ⟨TA, tc, rfl, _, _, _⟩ := ht
  clear hq hk
  by_cases h1 : 300 < a.length
  · have a1 : decide ((300 : Int) < (a.length : Int)) = true := by simp; omega
    by_cases h2 : a.length ≤ 4000
    · have a2 : decide ((a.length : Int) ≤ 4000) = true := by simp; omega
      go_enter Tryd.func3, Tryd.ntmps3
      go_wp2_with ((with_reducible refine wpList_box_row (o := ⟨some 3, _, _, _, _, _⟩) rfl 23 (.tmp 0) rfl (keyC key) (by with_unfolding_all rfl) ?_); intro g3 w1 n1)
      refine (sealAwake_any _ ⟨HQ.out.1.below n1.below, HQ.out.2.below n1.below⟩).mono ?_
      intro e w2 h
      obtain ⟨he, b2⟩ := h
      subst he
      have B2 := Lib.hid (below_size n1.below b2)
      clear b2 n1
      go_wp2
      go_ret
      exact ⟨rfl, B2.out⟩
    · have a2 : decide ((a.length : Int) ≤ 4000) = false := by simp; omega
      by_cases h3 : 300 < t.length
      · have b1 : decide ((300 : Int) < (t.length : Int)) = true := by simp; omega
        by_cases h4 : t.length ≤ 4000
        · have b2 : decide ((t.length : Int) ≤ 4000) = true := by simp; omega
          go_enter Tryd.func3, Tryd.ntmps3
          go_wp2_with ((with_reducible refine wpList_box_row (o := ⟨some 3, _, _, _, _, _⟩) rfl 23 (.tmp 0) rfl (keyC key) (by with_unfolding_all rfl) ?_); intro g3 w1 n1)
          refine (sealAwake_any _ ⟨HQ.out.1.below n1.below, HQ.out.2.below n1.below⟩).mono ?_
          intro e w2 h
          obtain ⟨he, b2⟩ := h
          subst he
          have B2 := Lib.hid (below_size n1.below b2)
          clear b2 n1
          go_wp2
          go_ret
          exact ⟨rfl, B2.out⟩
        · have b2 : decide ((t.length : Int) ≤ 4000) = false := by simp; omega
          obtain ⟨hp, hd⟩ := Seal_big w key (.slice AA a.length ac) (.slice TA t.length tc) a t (by omega)
          obtain ⟨c, hc⟩ : ∃ c : Int, c = 2 := ⟨_, rfl⟩
          rw [← hc] at hp hd
          clear hc
          have HP := Lib.hid hp
          have HD := Lib.hid hd
          clear hp hd
          go_enter Tryd.func3, Tryd.ntmps3
          go_wp2_with ((with_reducible refine wpList_box_row (o := ⟨some 3, _, _, _, _, _⟩) rfl 23 (.tmp 0) rfl (keyC key) (by with_unfolding_all rfl) ?_); intro g3 w1 n1)
          have K1 := Lib.hid n1.row
          have BB1 := Lib.hid n1.below
          clear n1
          refine (sealAwake_any _ ⟨HQ.out.1.below BB1.out, HQ.out.2.below BB1.out⟩).mono ?_
          intro e w2 h
          obtain ⟨he, bb2⟩ := h
          subst he
          have K2 := Lib.hid (K1.out.kept bb2)
          have BB2 := Lib.hid (below_size BB1.out bb2)
          clear bb2 K1 BB1
          go_wp2_with fail
          refine (New_any _ false).mono ?_
          intro e w3 h
          obtain ⟨g, he, n3⟩ := h
          subst he
          have R3 := Lib.hid (Run.new HQ.out.1 BB2.out n3)
          have K3 := Lib.hid (K2.out.kept n3.below)
          have hg : g3 ≠ g := by have := n3.spot; have := K2.out.lt; omega
          have hgs := n3.row.lt
          clear n3 K2 BB2
          go_wp2_with (first
            | ((with_reducible refine wpList_box_row (o := ⟨some 37, _, _, _, _, _⟩) rfl 31 (.tmp 36) rfl (logC 0) (by with_unfolding_all rfl) ?_); intro gl w4 n4; have R4 := Lib.hid (R3.out.kept n4.below); have K4 := Lib.hid (K3.out.kept n4.below); have L4 := Lib.hid n4.row; have hlg : gl ≠ g := (by have := n4.spot; omega); have hl3 : gl ≠ g3 := (by have := n4.spot; have := K3.out.lt; omega); have hlw : w.heap.size ≤ gl := (by have := n4.spot; have := R3.out.below.size; omega); clear n4 R3 K3)
            | (with_reducible refine wpList_load_row (o := ⟨some 40, _, _, _, _, _⟩) rfl 23 (.tmp 3) rfl g3 (by with_unfolding_all rfl) 23 (keyC key) (0, 0) (.array 32 5) (by with_unfolding_all exact K4.out) Tryd.underlying23 rfl (Tryd.sizeKey key LK.out) ?_))
          refine (HP.out _ g 0 (by exact R4.out.self) (by omega) (by exact (HA.out.below R4.out.below)) (by exact (HT.out.below R4.out.below))).mono ?_
          intro e w5 h
          obtain ⟨n5, he, r5⟩ := h
          subst he
          have R5 := Lib.hid (R4.out.trans r5)
          have K5 := Lib.hid (r5.other K4.out hg)
          have L5 := Lib.hid (r5.other L4.out hlg)
          clear r5 R4 K4 L4
          go_wp2_with (with_reducible refine wpList_load_row (o := ⟨some 48, _, _, _, _, _⟩) rfl 23 (.tmp 3) rfl g3 (by with_unfolding_all rfl) 23 (keyC key) (0, 0) (.array 32 5) (by with_unfolding_all exact K5.out) Tryd.underlying23 rfl (Tryd.sizeKey key LK.out) ?_)
          have G5 := Lib.hid (LogR.new R5.out.below L5.out hlw)
          refine (HD.out _ gl 0 (by exact G5.out) (by omega) (by exact (HA.out.below R5.out.below)) (by exact (HT.out.below R5.out.below))).mono ?_
          intro e w6 h
          obtain ⟨n6, he, r6⟩ := h
          subst he
          have B6 := Lib.hid r6.below
          clear r6 R5 K5 L5 G5
          go_wp2
          go_ret
          exact ⟨rfl, B6.out⟩
      · have b1 : decide ((300 : Int) < (t.length : Int)) = false := by simp; omega
        obtain ⟨hp, hd⟩ := Seal_big w key (.slice AA a.length ac) (.slice TA t.length tc) a t (by omega)
        obtain ⟨c, hc⟩ : ∃ c : Int, c = 2 := ⟨_, rfl⟩
        rw [← hc] at hp hd
        clear hc
        have HP := Lib.hid hp
        have HD := Lib.hid hd
        clear hp hd
        go_enter Tryd.func3, Tryd.ntmps3
        go_wp2_with ((with_reducible refine wpList_box_row (o := ⟨some 3, _, _, _, _, _⟩) rfl 23 (.tmp 0) rfl (keyC key) (by with_unfolding_all rfl) ?_); intro g3 w1 n1)
        have K1 := Lib.hid n1.row
        have BB1 := Lib.hid n1.below
        clear n1
        refine (sealAwake_any _ ⟨HQ.out.1.below BB1.out, HQ.out.2.below BB1.out⟩).mono ?_
        intro e w2 h
        obtain ⟨he, bb2⟩ := h
        subst he
        have K2 := Lib.hid (K1.out.kept bb2)
        have BB2 := Lib.hid (below_size BB1.out bb2)
        clear bb2 K1 BB1
        go_wp2_with fail
        refine (New_any _ false).mono ?_
        intro e w3 h
        obtain ⟨g, he, n3⟩ := h
        subst he
        have R3 := Lib.hid (Run.new HQ.out.1 BB2.out n3)
        have K3 := Lib.hid (K2.out.kept n3.below)
        have hg : g3 ≠ g := by have := n3.spot; have := K2.out.lt; omega
        have hgs := n3.row.lt
        clear n3 K2 BB2
        go_wp2_with (first
          | ((with_reducible refine wpList_box_row (o := ⟨some 37, _, _, _, _, _⟩) rfl 31 (.tmp 36) rfl (logC 0) (by with_unfolding_all rfl) ?_); intro gl w4 n4; have R4 := Lib.hid (R3.out.kept n4.below); have K4 := Lib.hid (K3.out.kept n4.below); have L4 := Lib.hid n4.row; have hlg : gl ≠ g := (by have := n4.spot; omega); have hl3 : gl ≠ g3 := (by have := n4.spot; have := K3.out.lt; omega); have hlw : w.heap.size ≤ gl := (by have := n4.spot; have := R3.out.below.size; omega); clear n4 R3 K3)
          | (with_reducible refine wpList_load_row (o := ⟨some 40, _, _, _, _, _⟩) rfl 23 (.tmp 3) rfl g3 (by with_unfolding_all rfl) 23 (keyC key) (0, 0) (.array 32 5) (by with_unfolding_all exact K4.out) Tryd.underlying23 rfl (Tryd.sizeKey key LK.out) ?_))
        refine (HP.out _ g 0 (by exact R4.out.self) (by omega) (by exact (HA.out.below R4.out.below)) (by exact (HT.out.below R4.out.below))).mono ?_
        intro e w5 h
        obtain ⟨n5, he, r5⟩ := h
        subst he
        have R5 := Lib.hid (R4.out.trans r5)
        have K5 := Lib.hid (r5.other K4.out hg)
        have L5 := Lib.hid (r5.other L4.out hlg)
        clear r5 R4 K4 L4
        go_wp2_with (with_reducible refine wpList_load_row (o := ⟨some 48, _, _, _, _, _⟩) rfl 23 (.tmp 3) rfl g3 (by with_unfolding_all rfl) 23 (keyC key) (0, 0) (.array 32 5) (by with_unfolding_all exact K5.out) Tryd.underlying23 rfl (Tryd.sizeKey key LK.out) ?_)
        have G5 := Lib.hid (LogR.new R5.out.below L5.out hlw)
        refine (HD.out _ gl 0 (by exact G5.out) (by omega) (by exact (HA.out.below R5.out.below)) (by exact (HT.out.below R5.out.below))).mono ?_
        intro e w6 h
        obtain ⟨n6, he, r6⟩ := h
        subst he
        have B6 := Lib.hid r6.below
        clear r6 R5 K5 L5 G5
        go_wp2
        go_ret
        exact ⟨rfl, B6.out⟩
  · have a1 : decide ((300 : Int) < (a.length : Int)) = false := by simp; omega
    by_cases h3 : 300 < t.length
    · have b1 : decide ((300 : Int) < (t.length : Int)) = true := by simp; omega
      by_cases h4 : t.length ≤ 4000
      · have b2 : decide ((t.length : Int) ≤ 4000) = true := by simp; omega
        go_enter Tryd.func3, Tryd.ntmps3
        go_wp2_with ((with_reducible refine wpList_box_row (o := ⟨some 3, _, _, _, _, _⟩) rfl 23 (.tmp 0) rfl (keyC key) (by with_unfolding_all rfl) ?_); intro g3 w1 n1)
        refine (sealAwake_any _ ⟨HQ.out.1.below n1.below, HQ.out.2.below n1.below⟩).mono ?_
        intro e w2 h
        obtain ⟨he, b2⟩ := h
        subst he
        have B2 := Lib.hid (below_size n1.below b2)
        clear b2 n1
        go_wp2
        go_ret
        exact ⟨rfl, B2.out⟩
      · have b2 : decide ((t.length : Int) ≤ 4000) = false := by simp; omega
        obtain ⟨hp, hd⟩ := Seal_big w key (.slice AA a.length ac) (.slice TA t.length tc) a t (by omega)
        obtain ⟨c, hc⟩ : ∃ c : Int, c = 2 := ⟨_, rfl⟩
        rw [← hc] at hp hd
        clear hc
        have HP := Lib.hid hp
        have HD := Lib.hid hd
        clear hp hd
        go_enter Tryd.func3, Tryd.ntmps3
        go_wp2_with ((with_reducible refine wpList_box_row (o := ⟨some 3, _, _, _, _, _⟩) rfl 23 (.tmp 0) rfl (keyC key) (by with_unfolding_all rfl) ?_); intro g3 w1 n1)
        have K1 := Lib.hid n1.row
        have BB1 := Lib.hid n1.below
        clear n1
        refine (sealAwake_any _ ⟨HQ.out.1.below BB1.out, HQ.out.2.below BB1.out⟩).mono ?_
        intro e w2 h
        obtain ⟨he, bb2⟩ := h
        subst he
        have K2 := Lib.hid (K1.out.kept bb2)
        have BB2 := Lib.hid (below_size BB1.out bb2)
        clear bb2 K1 BB1
        go_wp2_with fail
        refine (New_any _ false).mono ?_
        intro e w3 h
        obtain ⟨g, he, n3⟩ := h
        subst he
        have R3 := Lib.hid (Run.new HQ.out.1 BB2.out n3)
        have K3 := Lib.hid (K2.out.kept n3.below)
        have hg : g3 ≠ g := by have := n3.spot; have := K2.out.lt; omega
        have hgs := n3.row.lt
        clear n3 K2 BB2
        go_wp2_with (first
          | ((with_reducible refine wpList_box_row (o := ⟨some 37, _, _, _, _, _⟩) rfl 31 (.tmp 36) rfl (logC 0) (by with_unfolding_all rfl) ?_); intro gl w4 n4; have R4 := Lib.hid (R3.out.kept n4.below); have K4 := Lib.hid (K3.out.kept n4.below); have L4 := Lib.hid n4.row; have hlg : gl ≠ g := (by have := n4.spot; omega); have hl3 : gl ≠ g3 := (by have := n4.spot; have := K3.out.lt; omega); have hlw : w.heap.size ≤ gl := (by have := n4.spot; have := R3.out.below.size; omega); clear n4 R3 K3)
          | (with_reducible refine wpList_load_row (o := ⟨some 40, _, _, _, _, _⟩) rfl 23 (.tmp 3) rfl g3 (by with_unfolding_all rfl) 23 (keyC key) (0, 0) (.array 32 5) (by with_unfolding_all exact K4.out) Tryd.underlying23 rfl (Tryd.sizeKey key LK.out) ?_))
        refine (HP.out _ g 0 (by exact R4.out.self) (by omega) (by exact (HA.out.below R4.out.below)) (by exact (HT.out.below R4.out.below))).mono ?_
        intro e w5 h
        obtain ⟨n5, he, r5⟩ := h
        subst he
        have R5 := Lib.hid (R4.out.trans r5)
        have K5 := Lib.hid (r5.other K4.out hg)
        have L5 := Lib.hid (r5.other L4.out hlg)
        clear r5 R4 K4 L4
        go_wp2_with (with_reducible refine wpList_load_row (o := ⟨some 48, _, _, _, _, _⟩) rfl 23 (.tmp 3) rfl g3 (by with_unfolding_all rfl) 23 (keyC key) (0, 0) (.array 32 5) (by with_unfolding_all exact K5.out) Tryd.underlying23 rfl (Tryd.sizeKey key LK.out) ?_)
        have G5 := Lib.hid (LogR.new R5.out.below L5.out hlw)
        refine (HD.out _ gl 0 (by exact G5.out) (by omega) (by exact (HA.out.below R5.out.below)) (by exact (HT.out.below R5.out.below))).mono ?_
        intro e w6 h
        obtain ⟨n6, he, r6⟩ := h
        subst he
        have B6 := Lib.hid r6.below
        clear r6 R5 K5 L5 G5
        go_wp2
        go_ret
        exact ⟨rfl, B6.out⟩
    · have b1 : decide ((300 : Int) < (t.length : Int)) = false := by simp; omega
      obtain ⟨hp, hd⟩ := Seal_small w HQ.out.2 key LK.out (.slice AA a.length ac) (.slice TA t.length tc) a t (by omega) (by omega)
      obtain ⟨l, hl⟩ : ∃ l, l = sealB key a t := ⟨_, rfl⟩
      rw [← hl] at hp hd
      obtain ⟨c, hc⟩ : ∃ c : Int, c = 0 := ⟨_, rfl⟩
      rw [← hc] at hp hd
      obtain ⟨tg, htg⟩ : ∃ l, l = tagB key a t := ⟨_, rfl⟩
      have LT : Hid (tg.length = 32) := by show _ = _; rw [htg, tagB, macB_length]
      have HTG := Lib.hid htg.symm
      have q1 : a.length ≤ 4000 := by omega
      have q2 : t.length ≤ 4000 := by omega
      clear hl hc htg
      have HP := Lib.hid hp
      have HD := Lib.hid hd
      clear hp hd
      go_enter Tryd.func3, Tryd.ntmps3
      go_wp2_with ((with_reducible refine wpList_box_row (o := ⟨some 3, _, _, _, _, _⟩) rfl 23 (.tmp 0) rfl (keyC key) (by with_unfolding_all rfl) ?_); intro g3 w1 n1)
      have K1 := Lib.hid n1.row
      have BB1 := Lib.hid n1.below
      clear n1
      refine (sealAwake_any _ ⟨HQ.out.1.below BB1.out, HQ.out.2.below BB1.out⟩).mono ?_
      intro e w2 h
      obtain ⟨he, bb2⟩ := h
      subst he
      have K2 := Lib.hid (K1.out.kept bb2)
      have BB2 := Lib.hid (below_size BB1.out bb2)
      clear bb2 K1 BB1
      go_wp2_with fail
      refine (New_any _ false).mono ?_
      intro e w3 h
      obtain ⟨g, he, n3⟩ := h
      subst he
      have R3 := Lib.hid (Run.new HQ.out.1 BB2.out n3)
      have K3 := Lib.hid (K2.out.kept n3.below)
      have hg : g3 ≠ g := by have := n3.spot; have := K2.out.lt; omega
      have hgs := n3.row.lt
      clear n3 K2 BB2
      go_wp2_with (first
        | ((with_reducible refine wpList_box_row (o := ⟨some 37, _, _, _, _, _⟩) rfl 31 (.tmp 36) rfl (logC 0) (by with_unfolding_all rfl) ?_); intro gl w4 n4; have R4 := Lib.hid (R3.out.kept n4.below); have K4 := Lib.hid (K3.out.kept n4.below); have L4 := Lib.hid n4.row; have hlg : gl ≠ g := (by have := n4.spot; omega); have hl3 : gl ≠ g3 := (by have := n4.spot; have := K3.out.lt; omega); have hlw : w.heap.size ≤ gl := (by have := n4.spot; have := R3.out.below.size; omega); clear n4 R3 K3)
        | (with_reducible refine wpList_load_row (o := ⟨some 40, _, _, _, _, _⟩) rfl 23 (.tmp 3) rfl g3 (by with_unfolding_all rfl) 23 (keyC key) (0, 0) (.array 32 5) (by with_unfolding_all exact K4.out) Tryd.underlying23 rfl (Tryd.sizeKey key LK.out) ?_))
      refine (HP.out _ g 0 (by exact R4.out.self) (by omega) (by exact (HA.out.below R4.out.below)) (by exact (HT.out.below R4.out.below))).mono ?_
      intro e w5 h
      obtain ⟨u, n5, hn5, he, hu, r5⟩ := h
      subst he
      have R5 := Lib.hid (R4.out.trans r5)
      have K5 := Lib.hid (r5.other K4.out hg)
      have L5 := Lib.hid (r5.other L4.out hlg)
      have U5 := Lib.hid hu
      obtain ⟨UA, uc, rfl, _, _, _⟩ := hu
      clear r5 R4 K4 L4
      go_wp2_with (with_reducible refine wpList_load_row (o := ⟨some 48, _, _, _, _, _⟩) rfl 23 (.tmp 3) rfl g3 (by with_unfolding_all rfl) 23 (keyC key) (0, 0) (.array 32 5) (by with_unfolding_all exact K5.out) Tryd.underlying23 rfl (Tryd.sizeKey key LK.out) ?_)
      have G5 := Lib.hid (LogR.new R5.out.below L5.out hlw)
      refine (HD.out _ gl 0 (by exact G5.out) (by omega) (by exact (HA.out.below R5.out.below)) (by exact (HT.out.below R5.out.below))).mono ?_
      intro e w6 h
      obtain ⟨v, n6, hn6, he, hv, r6⟩ := h
      subst he
      have U6 := Lib.hid (r6.bs U5.out)
      have V6 := Lib.hid hv
      obtain ⟨VA, vc, rfl, _, _, _⟩ := hv
      have G6 := Lib.hid (G5.out.trans r6)
      have K6 := Lib.hid (r6.other K5.out (Ne.symm hl3))
      have M6 := Lib.hid (r6.other R5.out.row (Ne.symm hlg))
      have R6 : Hid (Run w w6 g n5 w6) := ⟨r6.below, M6.out, HQ.out.1, R5.out.far, r6.below.size, ⟨_, M6.out⟩, grown_refl _ _⟩
      clear r6 K5 L5 U5 G5 R5 M6
      go_wp2_with (with_reducible refine wpList_load_row (o := ⟨some 74, _, _, _, _, _⟩) rfl 23 (.tmp 3) rfl g3 (by with_unfolding_all rfl) 23 (keyC key) (0, 0) (.array 32 5) (by with_unfolding_all exact K6.out) Tryd.underlying23 rfl (Tryd.sizeKey key LK.out) ?_)
      refine (Tag_any w _ g n5 (by exact R6.out) (by omega) key LK.out _ _ a t (by exact (HA.out.below R6.out.below)) (by exact (HT.out.below R6.out.below)) q1 (by omega)).mono ?_
      intro e w7 h
      obtain ⟨n7, hn7, he, r7⟩ := h
      subst he
      rw [HTG.out]
      have R7 := Lib.hid (R6.out.trans r7)
      have U7 := Lib.hid (r7.bs U6.out)
      have V7 := Lib.hid (r7.bs V6.out)
      have K7 := Lib.hid (r7.other K6.out hg)
      have L7 := Lib.hid (r7.other G6.out.row hlg)
      clear r7 R6 U6 V6 K6 G6
      go_wp2_with (first
        | ((with_reducible refine wpList_alloc_row (o := ⟨some 14, _, _, _, _, _⟩) rfl 23 rfl (keyC zeroKey) Tryd.zeroK ?_); intro g14 w8 n8)
        | ((with_reducible refine wpList_store_row (o := ⟨none, _, _, _, _, _⟩) rfl 23 (.tmp 14) (.tmp 77) rfl g14 23 _ (keyC tg) (by with_unfolding_all rfl) (by with_unfolding_all rfl) n8.row (keyC_same zeroKey_length LT.out) (Tryd.sizeKey tg LT.out) (keyC_one tg) ?_); intro w9 p9; have b9 := (laid_put n8 p9).1; have R9 := Lib.hid (R7.out.kept b9); have U9 := Lib.hid (U7.out.below b9); have V9 := Lib.hid (V7.out.below b9); have K9 := Lib.hid (K7.out.kept b9); have L9 := Lib.hid (L7.out.kept b9); have T9 := Lib.hid p9.row; have h14 : g14 ≠ gl := (by have := n8.spot; have := L7.out.lt; omega); clear n8 p9 b9 R7 U7 V7 K7 L7))
      refine plain_region (S := fun x => RowAt x g14 23 (keyC tg) ∧ RowAt x g3 23 (keyC key)) (fin := fun _ => false) (by kernel_rfl) ?_
      have hS : RowAt w9.drew g14 23 (keyC tg) ∧ RowAt w9.drew g3 23 (keyC key) := ⟨T9.out, K9.out⟩
      change walkS _ _ _ _ _ _ 21 _ _ _
      refine walkS_take (i := 0) (oi := ⟨some 78, _, _, _, _, _⟩) (v := .bool true) rfl (by kernel_rfl) (by kernel_rfl) (fun _ _ _ h => h) _ _ _ _ (by kernel_rfl) (by kernel_rfl) (Or.inl ⟨by go_simp, fun w' hS' => (by clear hS hS'; go_simp)⟩) hS ?_
      simp only [Act.put, List.setIfInBounds_toArray, List.set_cons_zero, List.set_cons_succ]
      refine walkS_take (i := 1) (oi := ⟨some 79, _, _, _, _, _⟩) (v := .bool true) rfl (by kernel_rfl) (by kernel_rfl) (fun _ _ _ h => h) _ _ _ _ (by kernel_rfl) (by kernel_rfl) (Or.inl ⟨by go_simp, fun w' hS' => (by clear hS hS'; go_simp)⟩) hS ?_
      simp only [Act.put, List.setIfInBounds_toArray, List.set_cons_zero, List.set_cons_succ]
      refine walkS_take (i := 2) (oi := ⟨some 80, _, _, _, _, _⟩) (v := .int .i64 c) rfl (by kernel_rfl) (by kernel_rfl) (fun _ _ _ h => h) _ _ _ _ (by kernel_rfl) (by kernel_rfl) (Or.inl ⟨by go_simp, fun w' hS' => (by clear hS hS'; go_simp)⟩) hS ?_
      simp only [Act.put, List.setIfInBounds_toArray, List.set_cons_zero, List.set_cons_succ]
      refine walkS_take (i := 3) (oi := ⟨some 81, _, _, _, _, _⟩) (v := .int .i64 c) rfl (by kernel_rfl) (by kernel_rfl) (fun _ _ _ h => h) _ _ _ _ (by kernel_rfl) (by kernel_rfl) (Or.inl ⟨by go_simp, fun w' hS' => (by clear hS hS'; go_simp)⟩) hS ?_
      simp only [Act.put, List.setIfInBounds_toArray, List.set_cons_zero, List.set_cons_succ]
      refine walkS_take (i := 4) (oi := ⟨some 82, _, _, _, _, _⟩) (v := .bool true) rfl (by kernel_rfl) (by kernel_rfl) (fun _ _ _ h => h) _ _ _ _ (by kernel_rfl) (by kernel_rfl) (Or.inl ⟨by go_simp, fun w' hS' => (by clear hS hS'; go_simp)⟩) hS ?_
      simp only [Act.put, List.setIfInBounds_toArray, List.set_cons_zero, List.set_cons_succ]
      refine walkS_take (i := 5) (oi := ⟨some 83, _, _, _, _, _⟩) (v := .bool true) rfl (by kernel_rfl) (by kernel_rfl) (fun _ _ _ h => h) _ _ _ _ (by kernel_rfl) (by kernel_rfl) (Or.inl ⟨by go_simp, fun w' hS' => (by clear hS hS'; go_simp)⟩) hS ?_
      simp only [Act.put, List.setIfInBounds_toArray, List.set_cons_zero, List.set_cons_succ]
      refine walkS_take (i := 6) (oi := ⟨some 84, _, _, _, _, _⟩) (v := .bool true) rfl (by kernel_rfl) (by kernel_rfl) (fun _ _ _ h => h) _ _ _ _ (by kernel_rfl) (by kernel_rfl) (Or.inl ⟨by go_simp, fun w' hS' => (by clear hS hS'; go_simp)⟩) hS ?_
      simp only [Act.put, List.setIfInBounds_toArray, List.set_cons_zero, List.set_cons_succ]
      refine walkS_take (i := 7) (oi := ⟨some 85, _, _, _, _, _⟩) (v := .slice UA l.length uc) rfl (by kernel_rfl) (by kernel_rfl) (fun _ _ _ h => h) _ _ _ _ (by kernel_rfl) (by kernel_rfl) (Or.inl ⟨by go_simp, fun w' hS' => (by clear hS hS'; go_simp)⟩) hS ?_
      simp only [Act.put, List.setIfInBounds_toArray, List.set_cons_zero, List.set_cons_succ]
      refine walkS_take (i := 8) (oi := ⟨some 86, _, _, _, _, _⟩) (v := .slice VA l.length vc) rfl (by kernel_rfl) (by kernel_rfl) (fun _ _ _ h => h) _ _ _ _ (by kernel_rfl) (by kernel_rfl) (Or.inl ⟨by go_simp, fun w' hS' => (by clear hS hS'; go_simp)⟩) hS ?_
      simp only [Act.put, List.setIfInBounds_toArray, List.set_cons_zero, List.set_cons_succ]
      refine walkS_onlyG4 (i := 9) (o := ⟨some 87, _, _, _, _, _⟩) (by kernel_rfl) rfl (by go_simp) fun KK hKK => ?_
      go_simp
      refine (same_yes w9.drew _ _ l (U9.out.below (Below.refl _ w9).drew) (V9.out.below (Below.refl _ w9).drew)).mono ?_
      intro e wa h
      obtain ⟨he, ba⟩ := h
      subst he
      have hS2 : RowAt wa g14 23 (keyC tg) ∧ RowAt wa g3 23 (keyC key) := ⟨hS.1.kept ba, hS.2.kept ba⟩
      refine hKK _ _ (.inr hS2) ?_
      have Ra := Lib.hid (R9.out.kept (below_size (Below.refl _ w9).drew ba))
      have La := Lib.hid (L9.out.kept (below_size (Below.refl _ w9).drew ba))
      clear hKK KK hS ba U9 V9 R9 L9 T9 K9
      have hS := hS2
      clear hS2
      try simp only [Act.put, List.setIfInBounds_toArray, List.set_cons_zero, List.set_cons_succ]
      refine walkS_take (i := 10) (oi := ⟨some 88, _, _, _, _, _⟩) (v := .bool true) rfl (by kernel_rfl) (by kernel_rfl) (fun _ _ _ h => h) _ _ _ _ (by kernel_rfl) (by kernel_rfl) (Or.inl ⟨by go_simp, fun w' hS' => (by clear hS hS'; go_simp)⟩) hS ?_
      simp only [Act.put, List.setIfInBounds_toArray, List.set_cons_zero, List.set_cons_succ]
      refine walkS_take (i := 11) (oi := ⟨some 89, _, _, _, _, _⟩) (v := .bool true) rfl (by kernel_rfl) (by kernel_rfl) (fun _ _ _ h => h) _ _ _ _ (by kernel_rfl) (by kernel_rfl) (Or.inl ⟨by go_simp, fun w' hS' => (by clear hS hS'; go_simp)⟩) hS ?_
      simp only [Act.put, List.setIfInBounds_toArray, List.set_cons_zero, List.set_cons_succ]
      refine walkS_take (i := 12) (oi := ⟨some 90, _, _, _, _, _⟩) (v := .agg (keyC tg)) rfl (by kernel_rfl) (by kernel_rfl) (fun _ _ _ h => h) _ _ _ _ (by kernel_rfl) (by kernel_rfl) (Or.inl ⟨by go_simp, fun w' hS' => run_load_row 23 (.tmp 14) rfl g14 rfl 23 (keyC tg) (0, 0) _ hS'.1 Tryd.underlying23 rfl (Tryd.sizeKey tg LT.out)⟩) hS ?_
      simp only [Act.put, List.setIfInBounds_toArray, List.set_cons_zero, List.set_cons_succ]
      refine walkS_take (i := 13) (oi := ⟨some 91, _, _, _, _, _⟩) (v := .pointer (some ⟨gl, 0, none⟩)) rfl (by kernel_rfl) (by kernel_rfl) (fun _ _ _ h => h) _ _ _ _ (by kernel_rfl) (by kernel_rfl) (Or.inl ⟨by go_simp, fun w' hS' => (by clear hS hS'; go_simp)⟩) hS ?_
      simp only [Act.put, List.setIfInBounds_toArray, List.set_cons_zero, List.set_cons_succ]
      refine walkS_take (i := 14) (oi := ⟨some 92, _, _, _, _, _⟩) (v := .agg (keyC key)) rfl (by kernel_rfl) (by kernel_rfl) (fun _ _ _ h => h) _ _ _ _ (by kernel_rfl) (by kernel_rfl) (Or.inl ⟨by go_simp, fun w' hS' => run_load_row 23 (.tmp 3) rfl g3 rfl 23 (keyC key) (0, 0) _ hS'.2 Tryd.underlying23 rfl (Tryd.sizeKey key LK.out)⟩) hS ?_
      simp only [Act.put, List.setIfInBounds_toArray, List.set_cons_zero, List.set_cons_succ]
      refine walkS_take (i := 15) (oi := ⟨some 93, _, _, _, _, _⟩) (v := .slice AA a.length ac) rfl (by kernel_rfl) (by kernel_rfl) (fun _ _ _ h => h) _ _ _ _ (by kernel_rfl) (by kernel_rfl) (Or.inl ⟨by go_simp, fun w' hS' => (by clear hS hS'; go_simp)⟩) hS ?_
      simp only [Act.put, List.setIfInBounds_toArray, List.set_cons_zero, List.set_cons_succ]
      refine walkS_take (i := 16) (oi := ⟨some 94, _, _, _, _, _⟩) (v := .slice TA t.length tc) rfl (by kernel_rfl) (by kernel_rfl) (fun _ _ _ h => h) _ _ _ _ (by kernel_rfl) (by kernel_rfl) (Or.inl ⟨by go_simp, fun w' hS' => (by clear hS hS'; go_simp)⟩) hS ?_
      simp only [Act.put, List.setIfInBounds_toArray, List.set_cons_zero, List.set_cons_succ]
      refine walkS_onlyG4 (i := 17) (o := ⟨some 95, _, _, _, _, _⟩) (by kernel_rfl) rfl (by go_simp) fun KK hKK => ?_
      go_simp
      refine (refTag_any w wa gl _ (LogR.new Ra.out.below La.out hlw) (by omega) key LK.out _ _ a t (HA.out.below Ra.out.below) (HT.out.below Ra.out.below) q1 (by omega)).mono ?_
      intro e wb h
      obtain ⟨nb, _, he, rb⟩ := h
      subst he
      rw [HTG.out]
      have hS2 : RowAt wb g14 23 (keyC tg) ∧ RowAt wb g3 23 (keyC key) := ⟨rb.other hS.1 h14, rb.other hS.2 (Ne.symm hl3)⟩
      refine hKK _ _ (.inr hS2) ?_
      have Bb := Lib.hid rb.below
      clear hKK KK hS rb Ra La
      have hS := hS2
      clear hS2
      try simp only [Act.put, List.setIfInBounds_toArray, List.set_cons_zero, List.set_cons_succ]
      have hq := Tryd.eqKeyIn tg tg LT.out LT.out
      rw [beq_self_eq_true] at hq
      have hgq := Tryd.eqGuardKey
      refine walkS_take (i := 18) (oi := ⟨some 96, _, _, _, _, _⟩) (v := .bool true) rfl (by kernel_rfl) (by kernel_rfl) (fun _ _ _ h => h) _ _ _ _ (by kernel_rfl) (by kernel_rfl) (Or.inl ⟨by go_simp, fun w' hS' => (by clear hS hS'; go_simp)⟩) hS ?_
      simp only [Act.put, List.setIfInBounds_toArray, List.set_cons_zero, List.set_cons_succ]
      refine walkS_take (i := 19) (oi := ⟨some 97, _, _, _, _, _⟩) (v := .bool true) rfl (by kernel_rfl) (by kernel_rfl) (fun _ _ _ h => h) _ _ _ _ (by kernel_rfl) (by kernel_rfl) (Or.inl ⟨by go_simp, fun w' hS' => (by clear hS hS'; go_simp)⟩) hS ?_
      simp only [Act.put, List.setIfInBounds_toArray, List.set_cons_zero, List.set_cons_succ]
      refine walkS_take (i := 20) (oi := ⟨some 6, _, _, _, _, _⟩) (v := .bool true) rfl (by kernel_rfl) (by kernel_rfl) (fun _ _ _ h => h) _ _ _ _ (by kernel_rfl) (by kernel_rfl) (Or.inl ⟨by go_simp, fun w' hS' => (by clear hS hS'; go_simp)⟩) hS ?_
      simp only [Act.put, List.setIfInBounds_toArray, List.set_cons_zero, List.set_cons_succ]
      refine walkS_done (by kernel_rfl) ?_ _
      go_wp2
      go_ret
      exact ⟨rfl, Bb.out⟩
end Go.Proofs.YtjdbjgaoeijmfaaDoor
end
section
namespace Go.Proofs.YtjdbjgaoeijmfaaDoor.sealMakes
open Go.ChangeShapes Go.WideShapes Go.ChangeAt Go.RowKit
open Go.ChangeMaps (open_string shut_string)
set_option linter.unusedVariables false

theorem own : ownKnob Tryd.prog.godebug = none := by kernel_rfl
theorem laidOut : laidOutB Tryd.prog = true := by kernel_rfl

theorem laid_met (os : Os) : laidMet Tryd.prog Rows.sealMakesRow.laid ((laidWorld os).forCall (fun _ _ => 0) ⟨#[], #[.agg (List.replicate 32 (Value.int .u8 0)).toArray, .slice none 0 0, .slice none 0 0], []⟩).memory :=
  laidMet_of_run' 8 (by kernel_rfl) (by kernel_rfl)
theorem reads (os : Os) {H : Type} (enc : TypeId × Value → H) : ∃ places, DataW.whole enc Tryd.prog ((laidWorld os).forCall (fun _ _ => 0) ⟨#[], #[.agg (List.replicate 32 (Value.int .u8 0)).toArray, .slice none 0 0, .slice none 0 0], []⟩).memory Tryd.f3.params.toList Rows.sealMakesSpec.vars false #[.agg (List.replicate 32 (Value.int .u8 0)).toArray, .slice none 0 0, .slice none 0 0].toList 8 = some ([.agg (List.replicate 32 (.lit (.int .u8 0))), .nil, .nil], [], places) :=
  ⟨[], by kernel_rfl⟩

set_option maxRecDepth 100000 in
theorem contract (H : Type) (enc : TypeId × Value → H) (W : World) (base : Nat) (args : Array Value) (ds gs : List (DataW H)) (before : List MemPlace)
    (hval0 : ∀ (j : Nat) t v, Tryd.f3.params[j]? = some t → args[j]? = some v → Value.okWide Tryd.prog W .any base t v)
    (hW : DataW.Whole enc Tryd.prog Tryd.f3.params.toList Rows.sealMakesSpec.vars false W args.toList ds gs before) (hL : laidMetH Tryd.prog Rows.sealMakesRow.laid W) :
    Calls Tryd.prog 3 args W fun e W' => ∃ v, e = .returned v ∧ Rows.sealMakesSpec.post enc Tryd.prog Tryd.f3 false true false false W args v W' := by
  have hq := tables hL
  have hval : ∀ (j : Nat) t v, Tryd.f3.params[j]? = some t → args[j]? = some v → Value.okWide Tryd.prog W .any base t v := hval0
  have hW' := hW
  obtain ⟨p, q, hA0, hV, rfl, hfz, hnd⟩ := hW
  have hA : DataW.TrodAll enc Tryd.prog W 0 (fun _ => true) true Tryd.f3.params.toList args.toList ds p := hA0
  rw [Tryd.params3] at hA hval
  obtain ⟨v0, vs0, d0, ds0, p0, q0, hargs, rfl, rfl, h0, r0⟩ := trodAll_cons hA
  obtain ⟨v1, vs1, d1, ds1, p1, q1, rfl, rfl, rfl, h1, r1⟩ := trodAll_cons r0
  obtain ⟨v2, vs2, d2, ds2, p2, q2, rfl, rfl, rfl, h2, r2⟩ := trodAll_cons r1
  obtain ⟨rfl, rfl, rfl⟩ := trodAll_nil r2
  obtain rfl : args = #[v0, v1, v2] := by cases args; simp_all
  obtain ⟨rfl, rfl⟩ := trodVars_none hV
  have k0 := h0
  have lt0 : ∀ x ∈ p0, x.block < W.heap.size := by obtain ⟨m, hm⟩ := k0; exact DataW.trod_lt m _ _ _ hm
  obtain ⟨l0, rfl, w0⟩ := open_key Tryd.underlying23 Tryd.underlying5 (by kernel_rfl) (by kernel_rfl) (hval 0 23 v0 rfl rfl) h0
  obtain ⟨a1, len1, cap1, rfl⟩ := okWide_slice Tryd.underlying24 (hval 1 24 v1 rfl rfl)
  have k1 := h1
  have lt1 : ∀ x ∈ p1, x.block < W.heap.size := by obtain ⟨m, hm⟩ := k1; exact DataW.trod_lt m _ _ _ hm
  obtain ⟨l1, w1⟩ : ∃ l, Bs W (.slice a1 len1 cap1) l := by
    obtain ⟨fuel, hf⟩ := h1
    rcases open_ints Tryd.underlying24 Tryd.underlying5 (by kernel_rfl) hf with ⟨hcs, _⟩ | ⟨x, l, c, zs, hcs, _, hl, hm, hz, _, hcell, hwz⟩
    · simp [Value.cells] at hcs
      obtain ⟨rfl, rfl, rfl⟩ := hcs
      exact ⟨[], Bs.nil W⟩
    · simp [Value.cells] at hcs
      obtain ⟨rfl, rfl, rfl⟩ := hcs
      exact bs_of_ints hl hm (by simpa using hz) hcell hwz
  obtain ⟨a2, len2, cap2, rfl⟩ := okWide_slice Tryd.underlying24 (hval 2 24 v2 rfl rfl)
  have k2 := h2
  have lt2 : ∀ x ∈ p2, x.block < W.heap.size := by obtain ⟨m, hm⟩ := k2; exact DataW.trod_lt m _ _ _ hm
  obtain ⟨l2, w2⟩ : ∃ l, Bs W (.slice a2 len2 cap2) l := by
    obtain ⟨fuel, hf⟩ := h2
    rcases open_ints Tryd.underlying24 Tryd.underlying5 (by kernel_rfl) hf with ⟨hcs, _⟩ | ⟨x, l, c, zs, hcs, _, hl, hm, hz, _, hcell, hwz⟩
    · simp [Value.cells] at hcs
      obtain ⟨rfl, rfl, rfl⟩ := hcs
      exact ⟨[], Bs.nil W⟩
    · simp [Value.cells] at hcs
      obtain ⟨rfl, rfl, rfl⟩ := hcs
      exact bs_of_ints hl hm (by simpa using hz) hcell hwz
  clear hA0 hval0
  refine (sealMakes_walk W hq l0 w0 _ l1 w1 _ l2 w2).mono fun e W' ⟨he, bel⟩ => ?_
  subst he
  exact ⟨_, rfl, _, _, _, [], _, [], hW', trodAll_mk1 (shut_bool Tryd.underlying4 _), (trodAll_cons_mk (Below.trod laidOut (by kernel_rfl) (of_decide_eq_true (by kernel_rfl)) k0 bel lt0) (trodAll_cons_mk (Below.trod laidOut (by kernel_rfl) (of_decide_eq_true (by kernel_rfl)) k1 bel lt1) (trodAll_cons_mk (Below.trod laidOut (by kernel_rfl) (of_decide_eq_true (by kernel_rfl)) k2 bel lt2) trodAll_mk0))), rfl, bel.frame _, fun h => by cases h⟩

set_option maxRecDepth 100000 in
theorem lifted (os : Os) (started : os.Started) (H : Type) (enc : TypeId × Value → H) (F : Stop.Interp) :
    ReturnsInHanded {} Tryd.checked os 3 .any ((OpenSpec.ofChange Rows.sealMakesSpec).preRow enc Tryd.prog Tryd.f3 Rows.sealMakesRow.domain false Rows.sealMakesRow.laid) (((OpenSpec.ofChange Rows.sealMakesSpec).at F).post enc Tryd.prog Tryd.f3 false true false false) := by
  obtain ⟨places, hx⟩ := reads os enc
  refine returnsInHanded_of_row (C := Tryd.checked) (s := OpenSpec.ofChange Rows.sealMakesSpec) own started (by kernel_rfl) Tryd.func3
    (witness_row_at (enc := enc) (C := Tryd.checked) false (laidWorld os) #[.agg (List.replicate 32 (Value.int .u8 0)).toArray, .slice none 0 0, .slice none 0 0] rfl (by kernel_rfl) (by kernel_rfl) (by kernel_rfl)
      (OpenSpec.preRow_of_cond 8 hx (by kernel_rfl) (fun k hk => by cases hk) (by kernel_rfl) (laid_met os))) ?_
  intro W base args ds gs before hval hW _ _ _ hL _ _
  exact contract H enc W base args ds gs before hval hW hL

theorem said : Rows.SealMakesSaid :=
  OpenClaim.holds_of_cond 3 Tryd.f3 rfl rfl rfl rfl rfl rfl rfl ⟨rfl, rfl, rfl, rfl, rfl⟩ rfl rfl rfl rfl rfl (by kernel_rfl) Tryd.func3 (by kernel_rfl)
    (of_decide_eq_true (by kernel_rfl)) (by unfold Func.isWrapper; first | (rw [if_pos (by decide +kernel)]; kernel_rfl) | (rw [if_neg (by decide +kernel)]; exact ⟨rfl, rfl⟩))
    (fun os started H enc _ F => by rw [OpenClaim.pre_eq_preRow]; exact lifted os started H enc F)

theorem noStand : (Tryd.f3.params.toList.all fun t => Tryd.prog.wantsStandIn t == false) = true := by kernel_rfl
theorem plain (f : FuncId) (fn : Func) (hf : Tryd.pinned.checked.prog.funcNamed "cablegram/cablegramlaw05.SealMakes" = some f) (hfn : Tryd.pinned.checked.prog.funcs[f]? = some fn) :
    false = Tryd.pinned.checked.prog.looks [] ∧ ∀ (j : Nat) t, fn.params[j]? = some t → Tryd.pinned.checked.prog.wantsStandIn t = false := by
  obtain rfl : f = 3 := Option.some.inj ((show Tryd.prog.funcNamed "cablegram/cablegramlaw05.SealMakes" = some 3 by kernel_rfl).symm.trans hf) |>.symm
  obtain rfl : fn = Tryd.f3 := (Option.some.inj (Tryd.func3.symm.trans hfn)).symm
  refine ⟨by kernel_rfl, fun j t ht => ?_⟩
  have hm : t ∈ Tryd.f3.params.toList := by simpa using Array.mem_of_getElem? ht
  exact beq_iff_eq.1 (List.all_eq_true.1 noStand t hm)

theorem proved : Rows.SealMakesCardSaid :=
  Claim7.holds_tied_plain_at .later [] _ _ _ _ said (fun _ h => by cases h) (by kernel_rfl) (fun _ h => by cases h) sealMakes_row_tie rfl ⟨rfl, rfl⟩ (by kernel_rfl) rfl plain (by kernel_rfl)
#print axioms proved
end Go.Proofs.YtjdbjgaoeijmfaaDoor.sealMakes
end
