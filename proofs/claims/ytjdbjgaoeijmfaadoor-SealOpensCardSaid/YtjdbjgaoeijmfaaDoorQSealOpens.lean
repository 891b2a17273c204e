/-
  SealOpens: for every input the call returns true, and each argument reads as it read before. Conditions: none beyond the given statement's own (the package-level tables that its row lists hold what the program's text lays: the card ties that).
-/
import Derived.Test.YtjdbjgaoeijmfaaDoorQSbaAN
import Derived.Test.YtjdbjgaoeijmfaaDoorQSbaAQ
import Derived.Test.YtjdbjgaoeijmfaaDoorQSbaAD
import Derived.ProofKit
import Derived.OpenShut
import Derived.ShutString
import Derived.ChangeOld
import Derived.Deep.DeepHandedRow
section
namespace Go.Proofs.YtjdbjgaoeijmfaaDoor
open Go.RowKit
set_option linter.unusedVariables false
set_option maxRecDepth 20000

/-- The program's Open and the document's answer alike. -/
theorem Open_all (w : World) (hq1 : Tabs w) (hq2 : Quar w) (key : List UInt8) (hk : key.length = 32) (va vt : Value) (a t : List UInt8) (h1 : a.length ≤ 300 ∨ 4000 < a.length) (h2 : t.length ≤ 300 ∨ 4032 < t.length) :
    ∃ (c : Int) (l : List UInt8), (∀ x g n, Run w x g n x → n ≤ 900000 → Bs x va a → Bs x vt t → Calls Tryd.prog 14 #[.pointer (some ⟨g, 0, none⟩), .agg (keyC key), va, vt] x fun e y => ∃ u n', e = .returned (.tuple #[u, .int .i64 c]) ∧ Bs y u l ∧ Run w x g n' y) ∧
      (∀ x g n, LogR w x g n x → n ≤ 900000 → Bs x va a → Bs x vt t → Calls Tryd.prog 15 #[.pointer (some ⟨g, 0, none⟩), .agg (keyC key), va, vt] x fun e y => ∃ u n', e = .returned (.tuple #[u, .int .i64 c]) ∧ Bs y u l ∧ LogR w x g n' y) := by
  by_cases h3 : 4000 < a.length ∨ 4032 < t.length
  · exact ⟨2, [], fun x g n hr _ ha ht => (Open_long x _ key va vt a t ha ht h3).mono fun e y ⟨he, hb⟩ => ⟨_, n, he, Bs.nil _, hr.kept hb⟩,
      fun x g n hr _ ha ht => (refOpen_long x _ key va vt a t ha ht h3).mono fun e y ⟨he, hb⟩ => ⟨_, n, he, Bs.nil _, hr.kept hb⟩⟩
  · by_cases h4 : t.length < 32
    · exact ⟨3, [], fun x g n hr _ ha ht => (Open_short x _ key va vt a t ha ht (by omega) h4).mono fun e y ⟨he, hb⟩ => ⟨_, n, he, Bs.nil _, hr.kept hb⟩,
        fun x g n hr _ ha ht => (refOpen_short x _ key va vt a t ha ht (by omega) h4).mono fun e y ⟨he, hb⟩ => ⟨_, n, he, Bs.nil _, hr.kept hb⟩⟩
    · obtain ⟨p, q, rfl, hp, hq⟩ : ∃ p q, t = p ++ q ∧ p.length ≤ 4000 ∧ q.length = 32 := ⟨t.take (t.length - 32), t.drop (t.length - 32), (List.take_append_drop _ _).symm, by rw [List.length_take]; omega, by rw [List.length_drop]; omega⟩
      exact ⟨if tagB key a p = q then 0 else 20, if tagB key a p = q then hidB key p else [],
        fun x g n hr hn ha ht => (Open_ok w x hq2 g n hr hn key hk va vt a p q ha ht (by omega) hp hq).mono fun e y ⟨u, n', _, he, hb, hx⟩ => ⟨u, n', he, hb, hx⟩,
        fun x g n hr hn ha ht => (refOpen_ok w x g n hr hn key hk va vt a p q ha ht (by omega) hp hq).mono fun e y ⟨u, n', _, he, hb, hx⟩ => ⟨u, n', he, hb, hx⟩⟩
set_option maxHeartbeats 8000000 in
theorem sealOpens_walk (w : World) (hq : Tabs w ∧ Quar w) (key : List UInt8) (hk : key.length = 32) (va : Value) (a : List UInt8) (ha : Bs w va a) (vt : Value) (t : List UInt8) (ht : Bs w vt t) :
    Calls Tryd.prog 4 #[keyV key, va, vt] w (RetV w (.bool true)) := by
  have HQ := Lib.hid hq
  have LK := Lib.hid hk
  have HA := Lib.hid ha
  have HT := Lib.hid ht
  obtain ⟨AA, ac, rfl, _, _, _⟩ := ha
  obtain ⟨TA, tc, rfl, _, _, _⟩ := ht
  clear hq hk
  by_cases h1 : 300 < a.length
  · have a1 : decide ((300 : Int) < (a.length : Int)) = true := by simp; omega
    by_cases h2 : a.length ≤ 4000
    · have a2 : decide ((a.length : Int) ≤ 4000) = true := by simp; omega
      go_enter Tryd.func4, Tryd.ntmps4
      go_wp2_with ((with_reducible refine wpList_box_row (o := ⟨some 3, _, _, _, _, _⟩) rfl 23 (.tmp 0) rfl (keyC key) (by with_unfolding_all rfl) ?_); intro g3 w1 n1)
      refine (sealAwake_any _ ⟨HQ.out.1.below n1.below, HQ.out.2.below n1.below⟩).mono ?_
      intro e w2 h
      obtain ⟨he, b2⟩ := h
      subst he
      have B2 := Lib.hid (below_size n1.below b2)
      clear b2 n1
      go_wp2
      go_ret
      exact ⟨rfl, B2.out⟩
    · have a2 : decide ((a.length : Int) ≤ 4000) = false := by simp; omega
      by_cases h3 : 300 < t.length
      · have b1 : decide ((300 : Int) < (t.length : Int)) = true := by simp; omega
        by_cases h4 : t.length ≤ 4032
        · have b2 : decide ((t.length : Int) ≤ 4032) = true := by simp; omega
          go_enter Tryd.func4, Tryd.ntmps4
          go_wp2_with ((with_reducible refine wpList_box_row (o := ⟨some 3, _, _, _, _, _⟩) rfl 23 (.tmp 0) rfl (keyC key) (by with_unfolding_all rfl) ?_); intro g3 w1 n1)
          refine (sealAwake_any _ ⟨HQ.out.1.below n1.below, HQ.out.2.below n1.below⟩).mono ?_
          intro e w2 h
          obtain ⟨he, b2⟩ := h
          subst he
          have B2 := Lib.hid (below_size n1.below b2)
          clear b2 n1
          go_wp2
          go_ret
          exact ⟨rfl, B2.out⟩
        · have b2 : decide ((t.length : Int) ≤ 4032) = false := by simp; omega
          obtain ⟨c, l, hp, hd⟩ := Open_all w HQ.out.1 HQ.out.2 key LK.out (.slice AA a.length ac) (.slice TA t.length tc) a t (by omega) (by omega)
          have HP := Lib.hid hp
          have HD := Lib.hid hd
          clear hp hd
          go_enter Tryd.func4, Tryd.ntmps4
          go_wp2_with ((with_reducible refine wpList_box_row (o := ⟨some 3, _, _, _, _, _⟩) rfl 23 (.tmp 0) rfl (keyC key) (by with_unfolding_all rfl) ?_); intro g3 w1 n1)
          have K1 := Lib.hid n1.row
          have BB1 := Lib.hid n1.below
          clear n1
          refine (sealAwake_any _ ⟨HQ.out.1.below BB1.out, HQ.out.2.below BB1.out⟩).mono ?_
          intro e w2 h
          obtain ⟨he, bb2⟩ := h
          subst he
          have K2 := Lib.hid (K1.out.kept bb2)
          have BB2 := Lib.hid (below_size BB1.out bb2)
          clear bb2 K1 BB1
          go_wp2_with fail
          refine (New_any _ false).mono ?_
          intro e w3 h
          obtain ⟨g, he, n3⟩ := h
          subst he
          have R3 := Lib.hid (Run.new HQ.out.1 BB2.out n3)
          have K3 := Lib.hid (K2.out.kept n3.below)
          have hg : g3 ≠ g := by have := n3.spot; have := K2.out.lt; omega
          have hgs := n3.row.lt
          clear n3 K2 BB2
          go_wp2_with (first
            | ((with_reducible refine wpList_box_row (o := ⟨some 36, _, _, _, _, _⟩) rfl 31 (.tmp 35) rfl (logC 0) (by with_unfolding_all rfl) ?_); intro gl w4 n4; have R4 := Lib.hid (R3.out.kept n4.below); have K4 := Lib.hid (K3.out.kept n4.below); have L4 := Lib.hid n4.row; have hlg : gl ≠ g := (by have := n4.spot; omega); have hl3 : gl ≠ g3 := (by have := n4.spot; have := K3.out.lt; omega); have hlw : w.heap.size ≤ gl := (by have := n4.spot; have := R3.out.below.size; omega); clear n4 R3 K3)
            | (with_reducible refine wpList_load_row (o := ⟨some 39, _, _, _, _, _⟩) rfl 23 (.tmp 3) rfl g3 (by with_unfolding_all rfl) 23 (keyC key) (0, 0) (.array 32 5) (by with_unfolding_all exact K4.out) Tryd.underlying23 rfl (Tryd.sizeKey key LK.out) ?_))
          refine (HP.out _ g 0 (by exact R4.out.self) (by omega) (by exact (HA.out.below R4.out.below)) (by exact (HT.out.below R4.out.below))).mono ?_
          intro e w5 h
          obtain ⟨u, n5, he, hu, r5⟩ := h
          subst he
          have R5 := Lib.hid (R4.out.trans r5)
          have K5 := Lib.hid (r5.other K4.out hg)
          have L5 := Lib.hid (r5.other L4.out hlg)
          have U5 := Lib.hid hu
          clear r5 hu R4 K4 L4
          go_wp2_with (with_reducible refine wpList_load_row (o := ⟨some 47, _, _, _, _, _⟩) rfl 23 (.tmp 3) rfl g3 (by with_unfolding_all rfl) 23 (keyC key) (0, 0) (.array 32 5) (by with_unfolding_all exact K5.out) Tryd.underlying23 rfl (Tryd.sizeKey key LK.out) ?_)
          have G5 := Lib.hid (LogR.new R5.out.below L5.out hlw)
          refine (HD.out _ gl 0 (by exact G5.out) (by omega) (by exact (HA.out.below R5.out.below)) (by exact (HT.out.below R5.out.below))).mono ?_
          intro e w6 h
          obtain ⟨v, n6, he, hv, r6⟩ := h
          subst he
          have U6 := Lib.hid (r6.bs U5.out)
          have V6 := Lib.hid hv
          have B6 := Lib.hid r6.below
          clear r6 hv R5 K5 L5 U5 G5
          go_wp2_with fail
          refine (same_yes _ _ _ l U6.out V6.out).mono ?_
          intro e w7 h
          obtain ⟨he, b7⟩ := h
          subst he
          go_wp2
          go_ret
          exact ⟨rfl, below_size B6.out b7⟩
      · have b1 : decide ((300 : Int) < (t.length : Int)) = false := by simp; omega
        obtain ⟨c, l, hp, hd⟩ := Open_all w HQ.out.1 HQ.out.2 key LK.out (.slice AA a.length ac) (.slice TA t.length tc) a t (by omega) (by omega)
        have HP := Lib.hid hp
        have HD := Lib.hid hd
        clear hp hd
        go_enter Tryd.func4, Tryd.ntmps4
        go_wp2_with ((with_reducible refine wpList_box_row (o := ⟨some 3, _, _, _, _, _⟩) rfl 23 (.tmp 0) rfl (keyC key) (by with_unfolding_all rfl) ?_); intro g3 w1 n1)
        have K1 := Lib.hid n1.row
        have BB1 := Lib.hid n1.below
        clear n1
        refine (sealAwake_any _ ⟨HQ.out.1.below BB1.out, HQ.out.2.below BB1.out⟩).mono ?_
        intro e w2 h
        obtain ⟨he, bb2⟩ := h
        subst he
        have K2 := Lib.hid (K1.out.kept bb2)
        have BB2 := Lib.hid (below_size BB1.out bb2)
        clear bb2 K1 BB1
        go_wp2_with fail
        refine (New_any _ false).mono ?_
        intro e w3 h
        obtain ⟨g, he, n3⟩ := h
        subst he
        have R3 := Lib.hid (Run.new HQ.out.1 BB2.out n3)
        have K3 := Lib.hid (K2.out.kept n3.below)
        have hg : g3 ≠ g := by have := n3.spot; have := K2.out.lt; omega
        have hgs := n3.row.lt
        clear n3 K2 BB2
        go_wp2_with (first
          | ((with_reducible refine wpList_box_row (o := ⟨some 36, _, _, _, _, _⟩) rfl 31 (.tmp 35) rfl (logC 0) (by with_unfolding_all rfl) ?_); intro gl w4 n4; have R4 := Lib.hid (R3.out.kept n4.below); have K4 := Lib.hid (K3.out.kept n4.below); have L4 := Lib.hid n4.row; have hlg : gl ≠ g := (by have := n4.spot; omega); have hl3 : gl ≠ g3 := (by have := n4.spot; have := K3.out.lt; omega); have hlw : w.heap.size ≤ gl := (by have := n4.spot; have := R3.out.below.size; omega); clear n4 R3 K3)
          | (with_reducible refine wpList_load_row (o := ⟨some 39, _, _, _, _, _⟩) rfl 23 (.tmp 3) rfl g3 (by with_unfolding_all rfl) 23 (keyC key) (0, 0) (.array 32 5) (by with_unfolding_all exact K4.out) Tryd.underlying23 rfl (Tryd.sizeKey key LK.out) ?_))
        refine (HP.out _ g 0 (by exact R4.out.self) (by omega) (by exact (HA.out.below R4.out.below)) (by exact (HT.out.below R4.out.below))).mono ?_
        intro e w5 h
        obtain ⟨u, n5, he, hu, r5⟩ := h
        subst he
        have R5 := Lib.hid (R4.out.trans r5)
        have K5 := Lib.hid (r5.other K4.out hg)
        have L5 := Lib.hid (r5.other L4.out hlg)
        have U5 := Lib.hid hu
        clear r5 hu R4 K4 L4
        go_wp2_with (with_reducible refine wpList_load_row (o := ⟨some 47, _, _, _, _, _⟩) rfl 23 (.tmp 3) rfl g3 (by with_unfolding_all rfl) 23 (keyC key) (0, 0) (.array 32 5) (by with_unfolding_all exact K5.out) Tryd.underlying23 rfl (Tryd.sizeKey key LK.out) ?_)
        have G5 := Lib.hid (LogR.new R5.out.below L5.out hlw)
        refine (HD.out _ gl 0 (by exact G5.out) (by omega) (by exact (HA.out.below R5.out.below)) (by exact (HT.out.below R5.out.below))).mono ?_
        intro e w6 h
        obtain ⟨v, n6, he, hv, r6⟩ := h
        subst he
        have U6 := Lib.hid (r6.bs U5.out)
        have V6 := Lib.hid hv
        have B6 := Lib.hid r6.below
        clear r6 hv R5 K5 L5 U5 G5
        go_wp2_with fail
        refine (same_yes _ _ _ l U6.out V6.out).mono ?_
        intro e w7 h
        obtain ⟨he, b7⟩ := h
        subst he
        go_wp2
        go_ret
        exact ⟨rfl, below_size B6.out b7⟩
  · have a1 : decide ((300 : Int) < (a.length : Int)) = false := by simp; omega
    by_cases h3 : 300 < t.length
    · have b1 : decide ((300 : Int) < (t.length : Int)) = true := by simp; omega
      by_cases h4 : t.length ≤ 4032
      · have b2 : decide ((t.length : Int) ≤ 4032) = true := by simp; omega
        go_enter Tryd.func4, Tryd.ntmps4
        go_wp2_with ((with_reducible refine wpList_box_row (o := ⟨some 3, _, _, _, _, _⟩) rfl 23 (.tmp 0) rfl (keyC key) (by with_unfolding_all rfl) ?_); intro g3 w1 n1)
        refine (sealAwake_any _ ⟨HQ.out.1.below n1.below, HQ.out.2.below n1.below⟩).mono ?_
        intro e w2 h
        obtain ⟨he, b2⟩ := h
        subst he
        have B2 := Lib.hid (below_size n1.below b2)
        clear b2 n1
        go_wp2
        go_ret
        exact ⟨rfl, B2.out⟩
      · have b2 : decide ((t.length : Int) ≤ 4032) = false := by simp; omega
        obtain ⟨c, l, hp, hd⟩ := Open_all w HQ.out.1 HQ.out.2 key LK.out (.slice AA a.length ac) (.slice TA t.length tc) a t (by omega) (by omega)
        have HP := Lib.hid hp
        have HD := Lib.hid hd
        clear hp hd
        go_enter Tryd.func4, Tryd.ntmps4
        go_wp2_with ((with_reducible refine wpList_box_row (o := ⟨some 3, _, _, _, _, _⟩) rfl 23 (.tmp 0) rfl (keyC key) (by with_unfolding_all rfl) ?_); intro g3 w1 n1)
        have K1 := Lib.hid n1.row
        have BB1 := Lib.hid n1.below
        clear n1
        refine (sealAwake_any _ ⟨HQ.out.1.below BB1.out, HQ.out.2.below BB1.out⟩).mono ?_
        intro e w2 h
        obtain ⟨he, bb2⟩ := h
        subst he
        have K2 := Lib.hid (K1.out.kept bb2)
        have BB2 := Lib.hid (below_size BB1.out bb2)
        clear bb2 K1 BB1
        go_wp2_with fail
        refine (New_any _ false).mono ?_
        intro e w3 h
        obtain ⟨g, he, n3⟩ := h
        subst he
        have R3 := Lib.hid (Run.new HQ.out.1 BB2.out n3)
        have K3 := Lib.hid (K2.out.kept n3.below)
        have hg : g3 ≠ g := by have := n3.spot; have := K2.out.lt; omega
        have hgs := n3.row.lt
        clear n3 K2 BB2
        go_wp2_with (first
          | ((with_reducible refine wpList_box_row (o := ⟨some 36, _, _, _, _, _⟩) rfl 31 (.tmp 35) rfl (logC 0) (by with_unfolding_all rfl) ?_); intro gl w4 n4; have R4 := Lib.hid (R3.out.kept n4.below); have K4 := Lib.hid (K3.out.kept n4.below); have L4 := Lib.hid n4.row; have hlg : gl ≠ g := (by have := n4.spot; omega); have hl3 : gl ≠ g3 := (by have := n4.spot; have := K3.out.lt; omega); have hlw : w.heap.size ≤ gl := (by have := n4.spot; have := R3.out.below.size; omega); clear n4 R3 K3)
          | (with_reducible refine wpList_load_row (o := ⟨some 39, _, _, _, _, _⟩) rfl 23 (.tmp 3) rfl g3 (by with_unfolding_all rfl) 23 (keyC key) (0, 0) (.array 32 5) (by with_unfolding_all exact K4.out) Tryd.underlying23 rfl (Tryd.sizeKey key LK.out) ?_))
        refine (HP.out _ g 0 (by exact R4.out.self) (by omega) (by exact (HA.out.below R4.out.below)) (by exact (HT.out.below R4.out.below))).mono ?_
        intro e w5 h
        obtain ⟨u, n5, he, hu, r5⟩ := h
        subst he
        have R5 := Lib.hid (R4.out.trans r5)
        have K5 := Lib.hid (r5.other K4.out hg)
        have L5 := Lib.hid (r5.other L4.out hlg)
        have U5 := Lib.hid hu
        clear r5 hu R4 K4 L4
        go_wp2_with (with_reducible refine wpList_load_row (o := ⟨some 47, _, _, _, _, _⟩) rfl 23 (.tmp 3) rfl g3 (by with_unfolding_all rfl) 23 (keyC key) (0, 0) (.array 32 5) (by with_unfolding_all exact K5.out) Tryd.underlying23 rfl (Tryd.sizeKey key LK.out) ?_)
        have G5 := Lib.hid (LogR.new R5.out.below L5.out hlw)
        refine (HD.out _ gl 0 (by exact G5.out) (by omega) (by exact (HA.out.below R5.out.below)) (by exact (HT.out.below R5.out.below))).mono ?_
        intro e w6 h
        obtain ⟨v, n6, he, hv, r6⟩ := h
        subst he
        have U6 := Lib.hid (r6.bs U5.out)
        have V6 := Lib.hid hv
        have B6 := Lib.hid r6.below
        clear r6 hv R5 K5 L5 U5 G5
        go_wp2_with fail
        refine (same_yes _ _ _ l U6.out V6.out).mono ?_
        intro e w7 h
        obtain ⟨he, b7⟩ := h
        subst he
        go_wp2
        go_ret
        exact ⟨rfl, below_size B6.out b7⟩
    · have b1 : decide ((300 : Int) < (t.length : Int)) = false := by simp; omega
      obtain ⟨c, l, hp, hd⟩ := Open_all w HQ.out.1 HQ.out.2 key LK.out (.slice AA a.length ac) (.slice TA t.length tc) a t (by omega) (by omega)
      have HP := Lib.hid hp
      have HD := Lib.hid hd
      clear hp hd
      go_enter Tryd.func4, Tryd.ntmps4
      go_wp2_with ((with_reducible refine wpList_box_row (o := ⟨some 3, _, _, _, _, _⟩) rfl 23 (.tmp 0) rfl (keyC key) (by with_unfolding_all rfl) ?_); intro g3 w1 n1)
      have K1 := Lib.hid n1.row
      have BB1 := Lib.hid n1.below
      clear n1
      refine (sealAwake_any _ ⟨HQ.out.1.below BB1.out, HQ.out.2.below BB1.out⟩).mono ?_
      intro e w2 h
      obtain ⟨he, bb2⟩ := h
      subst he
      have K2 := Lib.hid (K1.out.kept bb2)
      have BB2 := Lib.hid (below_size BB1.out bb2)
      clear bb2 K1 BB1
      go_wp2_with fail
      refine (New_any _ false).mono ?_
      intro e w3 h
      obtain ⟨g, he, n3⟩ := h
      subst he
      have R3 := Lib.hid (Run.new HQ.out.1 BB2.out n3)
      have K3 := Lib.hid (K2.out.kept n3.below)
      have hg : g3 ≠ g := by have := n3.spot; have := K2.out.lt; omega
      have hgs := n3.row.lt
      clear n3 K2 BB2
      go_wp2_with (first
        | ((with_reducible refine wpList_box_row (o := ⟨some 36, _, _, _, _, _⟩) rfl 31 (.tmp 35) rfl (logC 0) (by with_unfolding_all rfl) ?_); intro gl w4 n4; have R4 := Lib.hid (R3.out.kept n4.below); have K4 := Lib.hid (K3.out.kept n4.below); have L4 := Lib.hid n4.row; have hlg : gl ≠ g := (by have := n4.spot; omega); have hl3 : gl ≠ g3 := (by have := n4.spot; have := K3.out.lt; omega); have hlw : w.heap.size ≤ gl := (by have := n4.spot; have := R3.out.below.size; omega); clear n4 R3 K3)
        | (with_reducible refine wpList_load_row (o := ⟨some 39, _, _, _, _, _⟩) rfl 23 (.tmp 3) rfl g3 (by with_unfolding_all rfl) 23 (keyC key) (0, 0) (.array 32 5) (by with_unfolding_all exact K4.out) Tryd.underlying23 rfl (Tryd.sizeKey key LK.out) ?_))
      refine (HP.out _ g 0 (by exact R4.out.self) (by omega) (by exact (HA.out.below R4.out.below)) (by exact (HT.out.below R4.out.below))).mono ?_
      intro e w5 h
      obtain ⟨u, n5, he, hu, r5⟩ := h
      subst he
      have R5 := Lib.hid (R4.out.trans r5)
      have K5 := Lib.hid (r5.other K4.out hg)
      have L5 := Lib.hid (r5.other L4.out hlg)
      have U5 := Lib.hid hu
      clear r5 hu R4 K4 L4
      go_wp2_with (with_reducible refine wpList_load_row (o := ⟨some 47, _, _, _, _, _⟩) rfl 23 (.tmp 3) rfl g3 (by with_unfolding_all rfl) 23 (keyC key) (0, 0) (.array 32 5) (by with_unfolding_all exact K5.out) Tryd.underlying23 rfl (Tryd.sizeKey key LK.out) ?_)
      have G5 := Lib.hid (LogR.new R5.out.below L5.out hlw)
      refine (HD.out _ gl 0 (by exact G5.out) (by omega) (by exact (HA.out.below R5.out.below)) (by exact (HT.out.below R5.out.below))).mono ?_
      intro e w6 h
      obtain ⟨v, n6, he, hv, r6⟩ := h
      subst he
      have U6 := Lib.hid (r6.bs U5.out)
      have V6 := Lib.hid hv
      have B6 := Lib.hid r6.below
      clear r6 hv R5 K5 L5 U5 G5
      go_wp2_with fail
      refine (same_yes _ _ _ l U6.out V6.out).mono ?_
      intro e w7 h
      obtain ⟨he, b7⟩ := h
      subst he
      go_wp2
      go_ret
      exact ⟨rfl, below_size B6.out b7⟩
end Go.Proofs.YtjdbjgaoeijmfaaDoor
end
section
namespace Go.Proofs.YtjdbjgaoeijmfaaDoor.sealOpens
open Go.ChangeShapes Go.WideShapes Go.ChangeAt Go.RowKit
open Go.ChangeMaps (open_string shut_string)
set_option linter.unusedVariables false

theorem own : ownKnob Tryd.prog.godebug = none := by kernel_rfl
theorem laidOut : laidOutB Tryd.prog = true := by kernel_rfl

theorem laid_met (os : Os) : laidMet Tryd.prog Rows.sealOpensRow.laid ((laidWorld os).forCall (fun _ _ => 0) ⟨#[], #[.agg (List.replicate 32 (Value.int .u8 0)).toArray, .slice none 0 0, .slice none 0 0], []⟩).memory :=
  laidMet_of_run' 8 (by kernel_rfl) (by kernel_rfl)
theorem reads (os : Os) {H : Type} (enc : TypeId × Value → H) : ∃ places, DataW.whole enc Tryd.prog ((laidWorld os).forCall (fun _ _ => 0) ⟨#[], #[.agg (List.replicate 32 (Value.int .u8 0)).toArray, .slice none 0 0, .slice none 0 0], []⟩).memory Tryd.f4.params.toList Rows.sealOpensSpec.vars false #[.agg (List.replicate 32 (Value.int .u8 0)).toArray, .slice none 0 0, .slice none 0 0].toList 8 = some ([.agg (List.replicate 32 (.lit (.int .u8 0))), .nil, .nil], [], places) :=
  ⟨[], by kernel_rfl⟩

set_option maxRecDepth 100000 in
theorem contract (H : Type) (enc : TypeId × Value → H) (W : World) (base : Nat) (args : Array Value) (ds gs : List (DataW H)) (before : List MemPlace)
    (hval0 : ∀ (j : Nat) t v, Tryd.f4.params[j]? = some t → args[j]? = some v → Value.okWide Tryd.prog W .any base t v)
    (hW : DataW.Whole enc Tryd.prog Tryd.f4.params.toList Rows.sealOpensSpec.vars false W args.toList ds gs before) (hL : laidMetH Tryd.prog Rows.sealOpensRow.laid W) :
    Calls Tryd.prog 4 args W fun e W' => ∃ v, e = .returned v ∧ Rows.sealOpensSpec.post enc Tryd.prog Tryd.f4 false true false false W args v W' := by
  have hq := tables hL
  have hval : ∀ (j : Nat) t v, Tryd.f4.params[j]? = some t → args[j]? = some v → Value.okWide Tryd.prog W .any base t v := hval0
  have hW' := hW
  obtain ⟨p, q, hA0, hV, rfl, hfz, hnd⟩ := hW
  have hA : DataW.TrodAll enc Tryd.prog W 0 (fun _ => true) true Tryd.f4.params.toList args.toList ds p := hA0
  rw [Tryd.params4] at hA hval
  obtain ⟨v0, vs0, d0, ds0, p0, q0, hargs, rfl, rfl, h0, r0⟩ := trodAll_cons hA
  obtain ⟨v1, vs1, d1, ds1, p1, q1, rfl, rfl, rfl, h1, r1⟩ := trodAll_cons r0
  obtain ⟨v2, vs2, d2, ds2, p2, q2, rfl, rfl, rfl, h2, r2⟩ := trodAll_cons r1
  obtain ⟨rfl, rfl, rfl⟩ := trodAll_nil r2
  obtain rfl : args = #[v0, v1, v2] := by cases args; simp_all
  obtain ⟨rfl, rfl⟩ := trodVars_none hV
  have k0 := h0
  have lt0 : ∀ x ∈ p0, x.block < W.heap.size := by obtain ⟨m, hm⟩ := k0; exact DataW.trod_lt m _ _ _ hm
  obtain ⟨l0, rfl, w0⟩ := open_key Tryd.underlying23 Tryd.underlying5 (by kernel_rfl) (by kernel_rfl) (hval 0 23 v0 rfl rfl) h0
  obtain ⟨a1, len1, cap1, rfl⟩ := okWide_slice Tryd.underlying24 (hval 1 24 v1 rfl rfl)
  have k1 := h1
  have lt1 : ∀ x ∈ p1, x.block < W.heap.size := by obtain ⟨m, hm⟩ := k1; exact DataW.trod_lt m _ _ _ hm
  obtain ⟨l1, w1⟩ : ∃ l, Bs W (.slice a1 len1 cap1) l := by
    obtain ⟨fuel, hf⟩ := h1
    rcases open_ints Tryd.underlying24 Tryd.underlying5 (by kernel_rfl) hf with ⟨hcs, _⟩ | ⟨x, l, c, zs, hcs, _, hl, hm, hz, _, hcell, hwz⟩
    · simp [Value.cells] at hcs
      obtain ⟨rfl, rfl, rfl⟩ := hcs
      exact ⟨[], Bs.nil W⟩
    · simp [Value.cells] at hcs
      obtain ⟨rfl, rfl, rfl⟩ := hcs
      exact bs_of_ints hl hm (by simpa using hz) hcell hwz
  obtain ⟨a2, len2, cap2, rfl⟩ := okWide_slice Tryd.underlying24 (hval 2 24 v2 rfl rfl)
  have k2 := h2
  have lt2 : ∀ x ∈ p2, x.block < W.heap.size := by obtain ⟨m, hm⟩ := k2; exact DataW.trod_lt m _ _ _ hm
  obtain ⟨l2, w2⟩ : ∃ l, Bs W (.slice a2 len2 cap2) l := by
    obtain ⟨fuel, hf⟩ := h2
    rcases open_ints Tryd.underlying24 Tryd.underlying5 (by kernel_rfl) hf with ⟨hcs, _⟩ | ⟨x, l, c, zs, hcs, _, hl, hm, hz, _, hcell, hwz⟩
    · simp [Value.cells] at hcs
      obtain ⟨rfl, rfl, rfl⟩ := hcs
      exact ⟨[], Bs.nil W⟩
    · simp [Value.cells] at hcs
      obtain ⟨rfl, rfl, rfl⟩ := hcs
      exact bs_of_ints hl hm (by simpa using hz) hcell hwz
  clear hA0 hval0
  refine (sealOpens_walk W hq l0 w0 _ l1 w1 _ l2 w2).mono fun e W' ⟨he, bel⟩ => ?_
  subst he
  exact ⟨_, rfl, _, _, _, [], _, [], hW', trodAll_mk1 (shut_bool Tryd.underlying4 _), (trodAll_cons_mk (Below.trod laidOut (by kernel_rfl) (of_decide_eq_true (by kernel_rfl)) k0 bel lt0) (trodAll_cons_mk (Below.trod laidOut (by kernel_rfl) (of_decide_eq_true (by kernel_rfl)) k1 bel lt1) (trodAll_cons_mk (Below.trod laidOut (by kernel_rfl) (of_decide_eq_true (by kernel_rfl)) k2 bel lt2) trodAll_mk0))), rfl, bel.frame _, fun h => by cases h⟩

set_option maxRecDepth 100000 in
theorem lifted (os : Os) (started : os.Started) (H : Type) (enc : TypeId × Value → H) (F : Stop.Interp) :
    ReturnsInHanded {} Tryd.checked os 4 .any ((OpenSpec.ofChange Rows.sealOpensSpec).preRow enc Tryd.prog Tryd.f4 Rows.sealOpensRow.domain false Rows.sealOpensRow.laid) (((OpenSpec.ofChange Rows.sealOpensSpec).at F).post enc Tryd.prog Tryd.f4 false true false false) := by
  obtain ⟨places, hx⟩ := reads os enc
  refine returnsInHanded_of_row (C := Tryd.checked) (s := OpenSpec.ofChange Rows.sealOpensSpec) own started (by kernel_rfl) Tryd.func4
    (witness_row_at (enc := enc) (C := Tryd.checked) false (laidWorld os) #[.agg (List.replicate 32 (Value.int .u8 0)).toArray, .slice none 0 0, .slice none 0 0] rfl (by kernel_rfl) (by kernel_rfl) (by kernel_rfl)
      (OpenSpec.preRow_of_cond 8 hx (by kernel_rfl) (fun k hk => by cases hk) (by kernel_rfl) (laid_met os))) ?_
  intro W base args ds gs before hval hW _ _ _ hL _ _
  exact contract H enc W base args ds gs before hval hW hL

theorem said : Rows.SealOpensSaid :=
  OpenClaim.holds_of_cond 4 Tryd.f4 rfl rfl rfl rfl rfl rfl rfl ⟨rfl, rfl, rfl, rfl, rfl⟩ rfl rfl rfl rfl rfl (by kernel_rfl) Tryd.func4 (by kernel_rfl)
    (of_decide_eq_true (by kernel_rfl)) (by unfold Func.isWrapper; first | (rw [if_pos (by decide +kernel)]; kernel_rfl) | (rw [if_neg (by decide +kernel)]; exact ⟨rfl, rfl⟩))
    (fun os started H enc _ F => by rw [OpenClaim.pre_eq_preRow]; exact lifted os started H enc F)

theorem noStand : (Tryd.f4.params.toList.all fun t => Tryd.prog.wantsStandIn t == false) = true := by kernel_rfl
theorem plain (f : FuncId) (fn : Func) (hf : Tryd.pinned.checked.prog.funcNamed "cablegram/cablegramlaw05.SealOpens" = some f) (hfn : Tryd.pinned.checked.prog.funcs[f]? = some fn) :
    false = Tryd.pinned.checked.prog.looks [] ∧ ∀ (j : Nat) t, fn.params[j]? = some t → Tryd.pinned.checked.prog.wantsStandIn t = false := by
  obtain rfl : f = 4 := Option.some.inj ((show Tryd.prog.funcNamed "cablegram/cablegramlaw05.SealOpens" = some 4 by kernel_rfl).symm.trans hf) |>.symm
  obtain rfl : fn = Tryd.f4 := (Option.some.inj (Tryd.func4.symm.trans hfn)).symm
  refine ⟨by kernel_rfl, fun j t ht => ?_⟩
  have hm : t ∈ Tryd.f4.params.toList := by simpa using Array.mem_of_getElem? ht
  exact beq_iff_eq.1 (List.all_eq_true.1 noStand t hm)

theorem proved : Rows.SealOpensCardSaid :=
  Claim7.holds_tied_plain_at .later [] _ _ _ _ said (fun _ h => by cases h) (by kernel_rfl) (fun _ h => by cases h) sealOpens_row_tie rfl ⟨rfl, rfl⟩ (by kernel_rfl) rfl plain (by kernel_rfl)
#print axioms proved
end Go.Proofs.YtjdbjgaoeijmfaaDoor.sealOpens
end
