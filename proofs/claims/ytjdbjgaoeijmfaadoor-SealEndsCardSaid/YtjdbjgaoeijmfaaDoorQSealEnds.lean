/-
  SealEnds: for every input the call returns true, and each argument reads as it read before. Conditions: none beyond the given statement's own (the package-level tables that its row lists hold what the program's text lays: the card ties that).
-/
import Derived.Test.YtjdbjgaoeijmfaaDoorQSbaAN
import Derived.Test.YtjdbjgaoeijmfaaDoorQSbaAD
import Derived.ProofKit
import Derived.OpenShut
import Derived.ShutString
import Derived.ChangeOld
import Derived.Deep.DeepHandedRow
section
namespace Go.Proofs.YtjdbjgaoeijmfaaDoor
open Go.RowKit
set_option linter.unusedVariables false
set_option maxRecDepth 20000

theorem xorB_getD (a n : List UInt8) (i : Nat) (h : i < a.length) (hn : i < n.length) : (xorB a n).getD i 0 = a.getD i 0 ^^^ n.getD i 0 := by
  simp [xorB, List.getD_eq_getElem?_getD, List.getElem?_zipWith, h, hn]
theorem mix_diff (key : List UInt8) (ctr : UInt32) (nonce a b : List UInt8) (i : Nat) (ha : i < a.length) (hb : i < b.length) : (mixS key ctr nonce a).getD i 0 ^^^ (mixS key ctr nonce b).getD i 0 = a.getD i 0 ^^^ b.getD i 0 := by
  have m1 := mixS_more key ctr nonce a ((a.length + 63) / 64 + (b.length + 63) / 64) (by omega)
  have m2 := mixS_more key ctr nonce b ((a.length + 63) / 64 + (b.length + 63) / 64) (by omega)
  have hl := noiseS_length key ctr nonce ((a.length + 63) / 64 + (b.length + 63) / 64)
  rw [← m1, ← m2, xorB_getD _ _ _ ha (by omega), xorB_getD _ _ _ hb (by omega)]
  generalize (noiseS key ctr nonce ((a.length + 63) / 64 + (b.length + 63) / 64)).getD i 0 = z
  rw [UInt8.xor_comm (b.getD i 0) z, ← UInt8.xor_assoc, UInt8.xor_assoc (a.getD i 0) z z, UInt8.xor_self, UInt8.xor_zero]
theorem Bs.at {w : World} {A : Option Addr} {n c : Nat} {l : List UInt8} (h : Bs w (.slice A n c) l) (hp : 0 < l.length) : ∃ b off, A = some ⟨b, off, none⟩ ∧ ∀ j, j < l.length → w.cell? ⟨b, off + j, none⟩ = some (.int .u8 ((l.getD j 0).toNat : Int)) := by
  obtain ⟨A', c', hv, h1, h2, h3⟩ := h
  injection hv with e1 e2 e3
  subst e1 e2 e3
  obtain ⟨b, off, hA, hc⟩ := h3 hp
  refine ⟨b, off, hA, fun j hj => ?_⟩
  rw [hc j hj, List.getD_eq_getElem?_getD, List.getElem?_eq_getElem hj]
  rfl
theorem loose_shareP {P : Program} {md : Region.Mode} {ops : Array Oper} {Q : Exit → Act → World → Prop} {fin : Nat → Bool} {SS : World → Prop} {w : World} {m : Nat} {listed : Array Bool} {a : Act} {A : Nat → Act} (Φ : Nat → World → Prop)
    (hgo : ∀ g w', Φ g w' → Q .normal (A g) w') (h : (∀ g w', Φ g w' → Q .normal (A g) w') → walkS P md ops Q SS fin m listed a w) : walkS P md ops Q SS fin m listed a w := h hgo
set_option maxHeartbeats 8000000 in
theorem sealEnds_walk (w : World) (hq : Tabs w ∧ Quar w) (key : List UInt8) (hk : key.length = 32) (va : Value) (a : List UInt8) (ha : Bs w va a) (vs : Value) (s : List UInt8) (hs : Bs w vs s) (vt : Value) (t : List UInt8) (ht : Bs w vt t) :
    Calls Tryd.prog 6 #[keyV key, va, vs, vt] w (RetV w (.bool true)) := by
  have HQ := Lib.hid hq
  have LK := Lib.hid hk
  have HA := Lib.hid ha
  have HS := Lib.hid hs
  have HT := Lib.hid ht
  obtain ⟨AA, ac, rfl, _, _, _⟩ := ha
  obtain ⟨SA, sc, rfl, _, _, _⟩ := hs
  obtain ⟨TA, tc, rfl, _, _, _⟩ := ht
  clear hq hk
  by_cases h1 : 200 < a.length
  · have d1 : decide ((200 : Int) < (a.length : Int)) = true := by simp; omega
    go_enter Tryd.func6, Tryd.ntmps6
    go_wp2_with ((with_reducible refine wpList_box_row (o := ⟨some 4, _, _, _, _, _⟩) rfl 23 (.tmp 0) rfl (keyC key) (by with_unfolding_all rfl) ?_); intro g4 w1 n1)
    refine (sealAwake_any _ ⟨HQ.out.1.below n1.below, HQ.out.2.below n1.below⟩).mono ?_
    intro e w2 h
    obtain ⟨he, b2⟩ := h
    subst he
    have B2 := Lib.hid (below_size n1.below b2)
    clear b2 n1
    go_wp2
    go_ret
    exact ⟨rfl, B2.out⟩
  have d1 : decide ((200 : Int) < (a.length : Int)) = false := by simp; omega
  by_cases h2 : 200 < s.length
  · have d2 : decide ((200 : Int) < (s.length : Int)) = true := by simp; omega
    go_enter Tryd.func6, Tryd.ntmps6
    go_wp2_with ((with_reducible refine wpList_box_row (o := ⟨some 4, _, _, _, _, _⟩) rfl 23 (.tmp 0) rfl (keyC key) (by with_unfolding_all rfl) ?_); intro g4 w1 n1)
    refine (sealAwake_any _ ⟨HQ.out.1.below n1.below, HQ.out.2.below n1.below⟩).mono ?_
    intro e w2 h
    obtain ⟨he, b2⟩ := h
    subst he
    have B2 := Lib.hid (below_size n1.below b2)
    clear b2 n1
    go_wp2
    go_ret
    exact ⟨rfl, B2.out⟩
  have d2 : decide ((200 : Int) < (s.length : Int)) = false := by simp; omega
  by_cases h3 : 200 < t.length
  · have d3 : decide ((200 : Int) < (t.length : Int)) = true := by simp; omega
    go_enter Tryd.func6, Tryd.ntmps6
    go_wp2_with ((with_reducible refine wpList_box_row (o := ⟨some 4, _, _, _, _, _⟩) rfl 23 (.tmp 0) rfl (keyC key) (by with_unfolding_all rfl) ?_); intro g4 w1 n1)
    refine (sealAwake_any _ ⟨HQ.out.1.below n1.below, HQ.out.2.below n1.below⟩).mono ?_
    intro e w2 h
    obtain ⟨he, b2⟩ := h
    subst he
    have B2 := Lib.hid (below_size n1.below b2)
    clear b2 n1
    go_wp2
    go_ret
    exact ⟨rfl, B2.out⟩
  have d3 : decide ((200 : Int) < (t.length : Int)) = false := by simp; omega
  obtain ⟨bs, hbs⟩ : ∃ b, b = sealB key a s := ⟨_, rfl⟩
  obtain ⟨bt, hbt⟩ : ∃ b, b = sealB key a t := ⟨_, rfl⟩
  obtain ⟨hid, hhid⟩ : ∃ b, b = hidB key s := ⟨_, rfl⟩
  obtain ⟨tg, htg⟩ : ∃ b, b = tagB key a hid := ⟨_, rfl⟩
  have hcat : bs = hid ++ tg := by rw [hbs, htg, hhid]; rfl
  obtain ⟨L, hL⟩ : ∃ L, L = s.length := ⟨_, rfl⟩
  obtain ⟨T, hT⟩ : ∃ L, L = t.length := ⟨_, rfl⟩
  obtain ⟨M, hM⟩ : ∃ M, M = L + 32 := ⟨_, rfl⟩
  obtain ⟨N, hN⟩ : ∃ M, M = T + 32 := ⟨_, rfl⟩
  have LBS : Hid (bs.length = M) := by show _ = _; rw [hbs, hM, hL]; exact sealB_length _ _ _
  have LBT : Hid (bt.length = N) := by show _ = _; rw [hbt, hN, hT]; exact sealB_length _ _ _
  have LH : Hid (hid.length = L) := by show _ = _; rw [hhid, hidB, mixS_length, hL]
  have LG : Hid (tg.length = 32) := by show _ = _; rw [htg, tagB, macB_length]
  have HBS : Hid (sealB key a s = bs) := hbs.symm
  have HBT : Hid (sealB key a t = bt) := hbt.symm
  have HTG : Hid (tagB key a hid = tg) := htg.symm
  have HTK : Hid (bs.take L = hid) := by show _ = _; rw [hcat, List.take_left' LH.out]
  have HDR : Hid (bs.drop L = tg) := by show _ = _; rw [hcat, List.drop_left' LH.out]
  have HXR : Hid (∀ i, i < L → i < T → bs.getD i 0 ^^^ bt.getD i 0 = s.getD i 0 ^^^ t.getD i 0) := fun i hi hj => by
    have e1 : bs.getD i 0 = (hidB key s).getD i 0 := by
      rw [hbs, sealB, List.getD_eq_getElem?_getD, List.getElem?_append_left (by rw [hidB, mixS_length]; omega), ← List.getD_eq_getElem?_getD]
    have e2 : bt.getD i 0 = (hidB key t).getD i 0 := by
      rw [hbt, sealB, List.getD_eq_getElem?_getD, List.getElem?_append_left (by rw [hidB, mixS_length]; omega), ← List.getD_eq_getElem?_getD]
    rw [e1, e2]
    exact mix_diff _ _ _ s t i (by omega) (by omega)
  have e1 : IntKind.i64.wrap ((L : Int) + 32) = (M : Int) := by rw [IntWalk.i64_in _ (by omega)]; omega
  have e2 : (L : Int) + 32 = (M : Int) := by omega
  have e3 : IntKind.i64.wrap ((T : Int) + 32) = (N : Int) := by rw [IntWalk.i64_in _ (by omega)]; omega
  have e4 : (T : Int) + 32 = (N : Int) := by omega
  have q1 : a.length ≤ 4000 := by omega
  have q2 : s.length ≤ 4000 := by omega
  have q3 : t.length ≤ 4000 := by omega
  have hLM : M = L + 32 := hM
  have hL200 : L ≤ 200 := by omega
  have hTN : N = T + 32 := hN
  have hT200 : T ≤ 200 := by omega
  have LS : Hid (s.length = L) := hL.symm
  have LT : Hid (t.length = T) := hT.symm
  rw [← hL] at d2 HS ⊢
  rw [← hT] at d3 HT ⊢
  have HM := Lib.hid hLM
  have HN := Lib.hid hTN
  have HL2 := Lib.hid hL200
  clear hbs hbt hhid htg hcat hL hT hM hN h1 h2 h3 hLM hTN
  go_enter Tryd.func6, Tryd.ntmps6
  go_wp2_with ((with_reducible refine wpList_box_row (o := ⟨some 4, _, _, _, _, _⟩) rfl 23 (.tmp 0) rfl (keyC key) (by with_unfolding_all rfl) ?_); intro g4 w1 n1)
  have K1 := Lib.hid n1.row
  have B1 := Lib.hid n1.below
  clear n1
  refine (sealAwake_any _ ⟨HQ.out.1.below B1.out, HQ.out.2.below B1.out⟩).mono ?_
  intro e w2 h
  obtain ⟨he, b2⟩ := h
  subst he
  have K2 := Lib.hid (K1.out.kept b2)
  have B2 := Lib.hid (below_size B1.out b2)
  clear b2 K1 B1
  go_wp2_with fail
  refine (New_any _ false).mono ?_
  intro e w3 h
  obtain ⟨g, he, n3⟩ := h
  subst he
  have R3 := Lib.hid (Run.new HQ.out.1 B2.out n3)
  have K3 := Lib.hid (K2.out.kept n3.below)
  have hg : g4 ≠ g := by have := n3.spot; have := K2.out.lt; omega
  clear n3 K2 B2
  go_wp2_with (with_reducible refine wpList_load_row (o := ⟨some 35, _, _, _, _, _⟩) rfl 23 (.tmp 4) rfl g4 (by with_unfolding_all rfl) 23 (keyC key) (0, 0) (.array 32 5) (by with_unfolding_all exact K3.out) Tryd.underlying23 rfl (Tryd.sizeKey key LK.out) ?_)
  refine (Seal_ok w _ HQ.out.2 g 0 (by exact R3.out.self) (by omega) key LK.out _ _ a s (by exact (HA.out.below R3.out.below)) (by exact (HS.out.below R3.out.below)) q1 q2).mono ?_
  intro e w4 h
  obtain ⟨u, n4, hn4, he, hu, r4⟩ := h
  subst he
  rw [HBS.out] at hu
  have K4 := Lib.hid (r4.other K3.out hg)
  have R4 := Lib.hid (R3.out.trans r4)
  have U4 := Lib.hid hu
  obtain ⟨UA, uc, rfl, hu1, hu2, _⟩ := hu
  rw [LBS.out] at U4 hu1 ⊢
  clear r4 K3 R3
  go_wp2_with (with_reducible refine wpList_load_row (o := ⟨some 43, _, _, _, _, _⟩) rfl 23 (.tmp 4) rfl g4 (by with_unfolding_all rfl) 23 (keyC key) (0, 0) (.array 32 5) (by with_unfolding_all exact K4.out) Tryd.underlying23 rfl (Tryd.sizeKey key LK.out) ?_)
  refine (Seal_ok w _ HQ.out.2 g n4 (by exact R4.out.self) (by omega) key LK.out _ _ a t (by exact (HA.out.below R4.out.below)) (by exact (HT.out.below R4.out.below)) q1 q3).mono ?_
  intro e w5 h
  obtain ⟨v, n5, hn5, he, hv, r5⟩ := h
  subst he
  rw [HBT.out] at hv
  have K5 := Lib.hid (r5.other K4.out hg)
  have U5 := Lib.hid (r5.bs U4.out)
  have R5 := Lib.hid (R4.out.trans r5)
  have V5 := Lib.hid hv
  obtain ⟨VA, vc, rfl, _, _, _⟩ := hv
  rw [LBT.out] at V5 ⊢
  clear r5 K4 R4 U4
  unfold maxLen at hu2
  have f1 : (L : Int) ≤ (uc : Int) := by have := HM.out; omega
  have f2 : (L : Int) ≤ (M : Int) := by have := HM.out; omega
  go_wp2_with fail
  clear hL200 hT200 e1 e2 e3 e4
  have D5 : Hid (Run w w5.drew g n5 w5.drew) := ((R5.out.kept (Below.refl _ w5).drew).self)
  have hTag : Hid (∀ x n, Run w x g n x → Bs x (.slice UA L uc) hid → n ≤ 900000 → Calls Tryd.prog 11 #[.pointer (some ⟨g, 0, none⟩), .agg (keyC key), .slice AA a.length ac, .slice UA L uc] x fun e y => ∃ n', n' ≤ n + 6 ∧ e = .returned (.agg (keyC tg)) ∧ Run w x g n' y) := fun x n hr hb hn => by
    have h := Tag_any w x g n hr hn key LK.out _ _ a hid (HA.out.below hr.below) hb q1 (by rw [LH.out]; have := HL2.out; omega)
    rw [HTG.out] at h
    exact h
  have U5d : Hid (Bs w5.drew (.slice UA L uc) hid) := by
    have h := (U5.out.below (Below.refl _ w5).drew).upto L (by rw [LBS.out]; have := HM.out; omega)
    rw [HTK.out] at h
    exact h
  have g5 := (R5.out.kept (Below.refl _ w5).drew).self.glt
  refine plain_region (S := fun x => RowAt x g4 23 (keyC key)) (fin := fun _ => false) (by kernel_rfl) ?_
  have hS : RowAt w5.drew g4 23 (keyC key) := K5.out
  change walkS _ _ _ _ _ _ 10 _ _ _
  apply loose_shareP (fun g15 x => (∃ n, n ≤ n5 + 6 ∧ Run w w5.drew g n x) ∧ RowAt x g15 23 (keyC tg))
  case h =>
    intro HGO
    have HG := Lib.hid HGO
    clear HGO
    refine walkS_take (i := 0) (oi := ⟨some 71, _, _, _, _, _⟩) (v := .pointer (some ⟨g, 0, none⟩)) rfl (by kernel_rfl) (by kernel_rfl) (fun _ _ _ h => h) _ _ _ _ (by kernel_rfl) (by kernel_rfl) (Or.inl ⟨by rfl, fun w' hS' => (by clear HG hS hS'; go_simp)⟩) hS ?_
    simp only [Act.put, List.setIfInBounds_toArray, List.set_cons_zero, List.set_cons_succ]
    refine walkS_take (i := 1) (oi := ⟨some 72, _, _, _, _, _⟩) (v := .agg (keyC key)) rfl (by kernel_rfl) (by kernel_rfl) (fun _ _ _ h => h) _ _ _ _ (by kernel_rfl) (by kernel_rfl) (Or.inl ⟨by rfl, fun w' hS' => run_load_row 23 (.tmp 4) rfl g4 rfl 23 (keyC key) (0, 0) _ hS' Tryd.underlying23 rfl (Tryd.sizeKey key LK.out)⟩) hS ?_
    simp only [Act.put, List.setIfInBounds_toArray, List.set_cons_zero, List.set_cons_succ]
    refine walkS_take (i := 2) (oi := ⟨some 73, _, _, _, _, _⟩) (v := .slice AA a.length ac) rfl (by kernel_rfl) (by kernel_rfl) (fun _ _ _ h => h) _ _ _ _ (by kernel_rfl) (by kernel_rfl) (Or.inl ⟨by rfl, fun w' hS' => (by clear HG hS hS'; go_simp)⟩) hS ?_
    simp only [Act.put, List.setIfInBounds_toArray, List.set_cons_zero, List.set_cons_succ]
    refine walkS_take (i := 3) (oi := ⟨some 74, _, _, _, _, _⟩) (v := .slice UA M uc) rfl (by kernel_rfl) (by kernel_rfl) (fun _ _ _ h => h) _ _ _ _ (by kernel_rfl) (by kernel_rfl) (Or.inl ⟨by rfl, fun w' hS' => (by clear HG hS hS'; go_simp)⟩) hS ?_
    simp only [Act.put, List.setIfInBounds_toArray, List.set_cons_zero, List.set_cons_succ]
    refine walkS_take (i := 4) (oi := ⟨some 75, _, _, _, _, _⟩) (v := .slice SA L sc) rfl (by kernel_rfl) (by kernel_rfl) (fun _ _ _ h => h) _ _ _ _ (by kernel_rfl) (by kernel_rfl) (Or.inl ⟨by rfl, fun w' hS' => (by clear HG hS hS'; go_simp)⟩) hS ?_
    simp only [Act.put, List.setIfInBounds_toArray, List.set_cons_zero, List.set_cons_succ]
    refine walkS_take (i := 5) (oi := ⟨some 76, _, _, _, _, _⟩) (v := .int .i64 (L : Int)) rfl (by kernel_rfl) (by kernel_rfl) (fun _ _ _ h => h) _ _ _ _ (by kernel_rfl) (by kernel_rfl) (Or.inl ⟨by rfl, fun w' hS' => (by clear HG hS hS'; go_simp)⟩) hS ?_
    simp only [Act.put, List.setIfInBounds_toArray, List.set_cons_zero, List.set_cons_succ]
    refine walkS_take (i := 6) (oi := ⟨some 77, _, _, _, _, _⟩) (v := .slice UA L uc) rfl (by kernel_rfl) (by kernel_rfl) (fun _ _ _ h => h) _ _ _ _ (by kernel_rfl) (by kernel_rfl) (Or.inl ⟨by rfl, fun w' hS' => (by clear HG hS hS'; go_simp)⟩) hS ?_
    simp only [Act.put, List.setIfInBounds_toArray, List.set_cons_zero, List.set_cons_succ]
    refine walkS_two (i := 7) (j := 8) (oi := ⟨some 78, _, _, _, _, _⟩) (oj := ⟨some 15, _, _, _, _, _⟩) (by kernel_rfl) rfl rfl rfl rfl (fun KK hKK => ?_) (fun KK hKK => ?_)
    · go_simp
      refine (hTag.out w5.drew n5 D5.out U5d.out (by omega)).mono ?_
      intro e x h
      obtain ⟨n', hn', he, r⟩ := h
      subst he
      have hS2 : RowAt x g4 23 (keyC key) := r.other hS hg
      refine hKK _ _ (.inr hS2) ?_
      clear hKK KK
      try simp only [Act.put, List.setIfInBounds_toArray, List.set_cons_zero, List.set_cons_succ]
      refine walkS_only (i := 8) (o := ⟨some 15, _, _, _, _, _⟩) (by kernel_rfl) rfl rfl fun KK hKK => ?_
      refine wp_alloc_row 23 rfl (keyC zeroKey) Tryd.zeroK fun g15 x2 nn => ?_
      have hS3 : RowAt x2 g4 23 (keyC key) := hS2.kept nn.below
      refine hKK _ _ (.inr hS3) ?_
      clear hKK KK
      try simp only [Act.put, List.setIfInBounds_toArray, List.set_cons_zero, List.set_cons_succ]
      refine walkS_only (i := 9) (o := ⟨none, _, _, _, _, _⟩) (by kernel_rfl) rfl rfl fun KK hKK => ?_
      have r2 := r.kept nn.below
      have hi : w5.drew.heap.size ≤ g15 := by have := nn.spot; have := r.size; omega
      refine wp_store_row 23 (.tmp 15) (.tmp 78) rfl g15 23 (keyC zeroKey) (keyC tg) rfl rfl nn.row (keyC_same zeroKey_length LG.out) (Tryd.sizeKey tg LG.out) (keyC_one _) ?_
      intro x3 p3
      refine hKK _ _ (.inr (hS3.grown p3.grown (by intro e; injection e with e; have := hS.lt; omega))) (walkS_done (by kernel_rfl) (HG.out g15 x3 ⟨⟨n', hn', r2.put p3 hi (by omega)⟩, p3.row⟩) _)
    · refine wp_alloc_row 23 rfl (keyC zeroKey) Tryd.zeroK fun g15 x nn => ?_
      have hS2 : RowAt x g4 23 (keyC key) := hS.kept nn.below
      refine hKK _ _ (.inr hS2) ?_
      clear hKK KK
      try simp only [Act.put, List.setIfInBounds_toArray, List.set_cons_zero, List.set_cons_succ]
      refine walkS_only (i := 7) (o := ⟨some 78, _, _, _, _, _⟩) (by kernel_rfl) rfl rfl fun KK hKK => ?_
      have hi : w5.drew.heap.size ≤ g15 := by have := nn.spot; omega
      go_simp
      refine (hTag.out x n5 (D5.out.kept nn.below).self (U5d.out.below nn.below) (by omega)).mono ?_
      intro e x2 h
      obtain ⟨n', hn', he, r⟩ := h
      subst he
      have hS3 : RowAt x2 g4 23 (keyC key) := r.other hS2 hg
      refine hKK _ _ (.inr hS3) ?_
      clear hKK KK
      try simp only [Act.put, List.setIfInBounds_toArray, List.set_cons_zero, List.set_cons_succ]
      refine walkS_only (i := 9) (o := ⟨none, _, _, _, _, _⟩) (by kernel_rfl) rfl rfl fun KK hKK => ?_
      have r2 := (D5.out.kept nn.below).trans r
      refine wp_store_row 23 (.tmp 15) (.tmp 78) rfl g15 23 (keyC zeroKey) (keyC tg) rfl rfl (r.other nn.row (by omega)) (keyC_same zeroKey_length LG.out) (Tryd.sizeKey tg LG.out) (keyC_one _) ?_
      intro x3 p3
      refine hKK _ _ (.inr (hS3.grown p3.grown (by intro e; injection e with e; have := hS.lt; omega))) (walkS_done (by kernel_rfl) (HG.out g15 x3 ⟨⟨n', hn', r2.put p3 hi (by omega)⟩, p3.row⟩) _)
  intro g15 w9 h
  obtain ⟨⟨n9, hn9, r9⟩, q9⟩ := h
  have R9 := Lib.hid r9
  have Q9 := Lib.hid q9
  have U9 := Lib.hid (r9.bs (U5.out.below (Below.refl _ w5).drew))
  have V9 := Lib.hid (r9.bs (V5.out.below (Below.refl _ w5).drew))
  clear r9 q9 hS D5 U5d hTag K5 R5 U5 V5
  have hne : ¬ uc = L := by have := HM.out; omega
  have f3 : M - L = 32 := by have := HM.out; omega
  go_wp2_with fail
  have HE : Hid (Bs w9.drew (.slice (Option.map (fun x => x.add L) UA) 32 (uc - L)) tg) := by
    have h := (U9.out.below (Below.refl _ w9).drew).cut L (by rw [LBS.out]; omega)
    rw [LBS.out, if_neg hne, f3, HDR.out] at h
    exact h
  refine plain_region (S := fun x => RowAt x g15 23 (keyC tg)) (fin := fun _ => false) (by kernel_rfl) ?_
  have hS : RowAt w9.drew g15 23 (keyC tg) := Q9.out
  change walkS _ _ _ _ _ _ 8 _ _ _
  refine walkS_take (i := 0) (oi := ⟨some 79, _, _, _, _, _⟩) (v := .slice UA M uc) rfl (by kernel_rfl) (by kernel_rfl) (fun _ _ _ h => h) _ _ _ _ (by kernel_rfl) (by kernel_rfl) (Or.inl ⟨by rfl, fun w' hS' => (by clear hS hS'; go_simp)⟩) hS ?_
  simp only [Act.put, List.setIfInBounds_toArray, List.set_cons_zero, List.set_cons_succ]
  refine walkS_take (i := 1) (oi := ⟨some 80, _, _, _, _, _⟩) (v := .slice SA L sc) rfl (by kernel_rfl) (by kernel_rfl) (fun _ _ _ h => h) _ _ _ _ (by kernel_rfl) (by kernel_rfl) (Or.inl ⟨by rfl, fun w' hS' => (by clear hS hS'; go_simp)⟩) hS ?_
  simp only [Act.put, List.setIfInBounds_toArray, List.set_cons_zero, List.set_cons_succ]
  refine walkS_take (i := 2) (oi := ⟨some 81, _, _, _, _, _⟩) (v := .int .i64 (L : Int)) rfl (by kernel_rfl) (by kernel_rfl) (fun _ _ _ h => h) _ _ _ _ (by kernel_rfl) (by kernel_rfl) (Or.inl ⟨by rfl, fun w' hS' => (by clear hS hS'; go_simp)⟩) hS ?_
  simp only [Act.put, List.setIfInBounds_toArray, List.set_cons_zero, List.set_cons_succ]
  refine walkS_take (i := 3) (oi := ⟨some 82, _, _, _, _, _⟩) (v := .slice (Option.map (fun x => x.add L) UA) 32 (uc - L)) rfl (by kernel_rfl) (by kernel_rfl) (fun _ _ _ h => h) _ _ _ _ (by kernel_rfl) (by kernel_rfl) (Or.inl ⟨by rfl, fun w' hS' => (by clear hS hS'; go_simp)⟩) hS ?_
  simp only [Act.put, List.setIfInBounds_toArray, List.set_cons_zero, List.set_cons_succ]
  refine walkS_take (i := 4) (oi := ⟨some 83, _, _, _, _, _⟩) (v := .agg (keyC tg)) rfl (by kernel_rfl) (by kernel_rfl) (fun _ _ _ h => h) _ _ _ _ (by kernel_rfl) (by kernel_rfl) (Or.inl ⟨by rfl, fun w' hS' => run_load_row 23 (.tmp 15) rfl g15 rfl 23 (keyC tg) (0, 0) _ hS' Tryd.underlying23 rfl (Tryd.sizeKey tg LG.out)⟩) hS ?_
  simp only [Act.put, List.setIfInBounds_toArray, List.set_cons_zero, List.set_cons_succ]
  refine walkS_only (i := 5) (o := ⟨some 84, _, _, _, _, _⟩) (by kernel_rfl) rfl rfl fun KK hKK => ?_
  go_simp
  refine (refBytes_own w9.drew tg LG.out).mono ?_
  intro e wa h
  obtain ⟨vb, he, hvb, ba⟩ := h
  subst he
  have hS2 : RowAt wa g15 23 (keyC tg) := hS.kept ba
  refine hKK _ _ (.inr hS2) ?_
  have BA := Lib.hid ba
  have HV := Lib.hid hvb.bs
  clear hKK KK hS ba hvb
  try simp only [Act.put, List.setIfInBounds_toArray, List.set_cons_zero, List.set_cons_succ]
  refine walkS_only (i := 6) (o := ⟨some 85, _, _, _, _, _⟩) (by kernel_rfl) rfl rfl fun KK hKK => ?_
  go_simp
  refine (same_yes wa _ _ tg (HE.out.below BA.out) HV.out).mono ?_
  intro e wb h
  obtain ⟨he, bb⟩ := h
  subst he
  have hS : RowAt wb g15 23 (keyC tg) := hS2.kept bb
  refine hKK _ _ (.inr hS) ?_
  have BB := Lib.hid (below_size (below_size (Below.refl _ w9).drew BA.out) bb)
  clear hKK KK hS2 bb BA HV HE
  try simp only [Act.put, List.setIfInBounds_toArray, List.set_cons_zero, List.set_cons_succ]
  refine walkS_take (i := 7) (oi := ⟨some 86, _, _, _, _, _⟩) (v := .bool false) rfl (by kernel_rfl) (by kernel_rfl) (fun _ _ _ h => h) _ _ _ _ (by kernel_rfl) (by kernel_rfl) (Or.inl ⟨by rfl, fun w' hS' => (by clear hS hS'; go_simp)⟩) hS ?_
  simp only [Act.put, List.setIfInBounds_toArray, List.set_cons_zero, List.set_cons_succ]
  refine walkS_done (by kernel_rfl) ?_ _
  have Ub := Lib.hid (U9.out.below BB.out)
  have Vb := Lib.hid (V9.out.below BB.out)
  have Bb := Lib.hid (below_size R9.out.below BB.out)
  clear hS U9 V9 R9 Q9 BB f3
  go_wp2_with fail
  go_loopw [16] (fun i wr => ∃ k : Nat, k ≤ L ∧ i = .int .i64 k ∧ Below w.heap.size w wr ∧ Bs wr (.slice UA M uc) bs ∧ Bs wr (.slice VA N vc) bt) (fun i _ => L - (intOf i).toNat)
  case atStart => exact ⟨0, by omega, rfl, Bb.out, Ub.out, Vb.out⟩
  case round =>
    clear Bb Ub Vb
    obtain ⟨k, hk, rfl, hB, hU, hV⟩ := hrel
    by_cases c1 : k < L
    · have c1' : (k : Int) < (L : Int) := by omega
      by_cases c2 : k < T
      · have c2' : (k : Int) < (T : Int) := by omega
        obtain ⟨ub, uo, rfl, hu⟩ := hU.at (by rw [LBS.out]; have := HM.out; omega)
        obtain ⟨vb, vo, rfl, hv⟩ := hV.at (by rw [LBT.out]; have := HN.out; omega)
        obtain ⟨sb, so, rfl, hs⟩ := (HS.out.below hB).at (by rw [LS.out]; omega)
        obtain ⟨tb, to, rfl, ht⟩ := (HT.out.below hB).at (by rw [LT.out]; omega)
        have k1 := hu k (by rw [LBS.out]; have := HM.out; omega)
        have k2 := hv k (by rw [LBT.out]; have := HN.out; omega)
        have k3 := hs k (by rw [LS.out]; omega)
        have k4 := ht k (by rw [LT.out]; omega)
        have X1 := xor_byte (bs.getD k 0) (bt.getD k 0)
        have X2 := xor_byte (s.getD k 0) (t.getD k 0)
        rw [HXR.out k c1 c2] at X1
        generalize bs.getD k 0 = x1 at k1 X1
        generalize bt.getD k 0 = x2 at k2 X1
        generalize s.getD k 0 ^^^ t.getD k 0 = z at X1 X2
        generalize s.getD k 0 = x3 at k3 X2
        generalize t.getD k 0 = x4 at k4 X2
        have m1 : (k : Int) < (M : Int) := by have := HM.out; omega
        have m2 : (k : Int) < (N : Int) := by have := HN.out; omega
        have E1 : Hid (wr.drew.cell? ⟨ub, uo + k, none⟩ = some (.int .u8 (x1.toNat : Int))) := k1
        have E2 : Hid (wr.drew.cell? ⟨vb, vo + k, none⟩ = some (.int .u8 (x2.toNat : Int))) := k2
        have E3 : Hid (wr.drew.cell? ⟨sb, so + k, none⟩ = some (.int .u8 (x3.toNat : Int))) := k3
        have E4 : Hid (wr.drew.cell? ⟨tb, to + k, none⟩ = some (.int .u8 (x4.toNat : Int))) := k4
        have HX1 := Lib.hid X1
        have HX2 := Lib.hid X2
        have HB := Lib.hid hB
        have HU := Lib.hid hU
        have HV := Lib.hid hV
        clear hu hv hs ht k1 k2 k3 k4 X1 X2 hB hU hV
        go_wp2_with fail
        clear c1' c2'
        refine region_class (fun x => x = wr.drew) rfl (by kernel_rfl) (by kernel_rfl) ?_
        refine q_run (by rfl) (v := .slice (some ⟨ub, uo, none⟩) M uc) (fun W hW => by subst hW; clear HB HU HV; go_simp) ?_
        simp only [Act.put, List.setIfInBounds_toArray, List.set_cons_zero, List.set_cons_succ]
        refine q_run (by rfl) (v := .int .i64 (k : Int)) (fun W hW => by subst hW; clear HB HU HV; go_simp) ?_
        simp only [Act.put, List.setIfInBounds_toArray, List.set_cons_zero, List.set_cons_succ]
        refine q_run (by rfl) (v := .pointer (some ⟨ub, uo + k, none⟩)) (fun W hW => by subst hW; clear HB HU HV; go_simp) ?_
        simp only [Act.put, List.setIfInBounds_toArray, List.set_cons_zero, List.set_cons_succ]
        refine q_run (by rfl) (v := .int .u8 (x1.toNat : Int)) (fun W hW => by subst hW; have hx := E1.out; clear HB HU HV; go_simp) ?_
        simp only [Act.put, List.setIfInBounds_toArray, List.set_cons_zero, List.set_cons_succ]
        refine q_run (by rfl) (v := .slice (some ⟨vb, vo, none⟩) N vc) (fun W hW => by subst hW; clear HB HU HV; go_simp) ?_
        simp only [Act.put, List.setIfInBounds_toArray, List.set_cons_zero, List.set_cons_succ]
        refine q_run (by rfl) (v := .int .i64 (k : Int)) (fun W hW => by subst hW; clear HB HU HV; go_simp) ?_
        simp only [Act.put, List.setIfInBounds_toArray, List.set_cons_zero, List.set_cons_succ]
        refine q_run (by rfl) (v := .pointer (some ⟨vb, vo + k, none⟩)) (fun W hW => by subst hW; clear HB HU HV; go_simp) ?_
        simp only [Act.put, List.setIfInBounds_toArray, List.set_cons_zero, List.set_cons_succ]
        refine q_run (by rfl) (v := .int .u8 (x2.toNat : Int)) (fun W hW => by subst hW; have hx := E2.out; clear HB HU HV; go_simp) ?_
        simp only [Act.put, List.setIfInBounds_toArray, List.set_cons_zero, List.set_cons_succ]
        refine q_run (by rfl) (v := .int .u8 (z.toNat : Int)) (fun W hW => by subst hW; have hx := HX1.out; clear HB HU HV; go_simp) ?_
        simp only [Act.put, List.setIfInBounds_toArray, List.set_cons_zero, List.set_cons_succ]
        refine q_run (by rfl) (v := .slice (some ⟨sb, so, none⟩) L sc) (fun W hW => by subst hW; clear HB HU HV; go_simp) ?_
        simp only [Act.put, List.setIfInBounds_toArray, List.set_cons_zero, List.set_cons_succ]
        refine q_run (by rfl) (v := .int .i64 (k : Int)) (fun W hW => by subst hW; clear HB HU HV; go_simp) ?_
        simp only [Act.put, List.setIfInBounds_toArray, List.set_cons_zero, List.set_cons_succ]
        refine q_run (by rfl) (v := .pointer (some ⟨sb, so + k, none⟩)) (fun W hW => by subst hW; clear HB HU HV; go_simp) ?_
        simp only [Act.put, List.setIfInBounds_toArray, List.set_cons_zero, List.set_cons_succ]
        refine q_run (by rfl) (v := .int .u8 (x3.toNat : Int)) (fun W hW => by subst hW; have hx := E3.out; clear HB HU HV; go_simp) ?_
        simp only [Act.put, List.setIfInBounds_toArray, List.set_cons_zero, List.set_cons_succ]
        refine q_run (by rfl) (v := .slice (some ⟨tb, to, none⟩) T tc) (fun W hW => by subst hW; clear HB HU HV; go_simp) ?_
        simp only [Act.put, List.setIfInBounds_toArray, List.set_cons_zero, List.set_cons_succ]
        refine q_run (by rfl) (v := .int .i64 (k : Int)) (fun W hW => by subst hW; clear HB HU HV; go_simp) ?_
        simp only [Act.put, List.setIfInBounds_toArray, List.set_cons_zero, List.set_cons_succ]
        refine q_run (by rfl) (v := .pointer (some ⟨tb, to + k, none⟩)) (fun W hW => by subst hW; clear HB HU HV; go_simp) ?_
        simp only [Act.put, List.setIfInBounds_toArray, List.set_cons_zero, List.set_cons_succ]
        refine q_run (by rfl) (v := .int .u8 (x4.toNat : Int)) (fun W hW => by subst hW; have hx := E4.out; clear HB HU HV; go_simp) ?_
        simp only [Act.put, List.setIfInBounds_toArray, List.set_cons_zero, List.set_cons_succ]
        refine q_run (by rfl) (v := .int .u8 (z.toNat : Int)) (fun W hW => by subst hW; have hx := HX2.out; clear HB HU HV; go_simp) ?_
        simp only [Act.put, List.setIfInBounds_toArray, List.set_cons_zero, List.set_cons_succ]
        refine q_run (by rfl) (v := .bool false) (fun W hW => by subst hW; clear HB HU HV; go_simp) ?_
        simp only [Act.put, List.setIfInBounds_toArray, List.set_cons_zero, List.set_cons_succ]
        refine wpQuiet_nil ?_
        intro wz hz
        subst hz
        have HB2 := Lib.hid (HB.out.drew)
        have HU2 := Lib.hid (HU.out.below (Below.refl _ wr).drew)
        have HV2 := Lib.hid (HV.out.below (Below.refl _ wr).drew)
        clear HB HU HV
        go_wp2_with fail
        go_roundw
        case rel => exact ⟨k + 1, by omega, by go_num, HB2.out, HU2.out, HV2.out⟩
        case measure => simp [intOf]; omega
      · have c2' : ¬ (k : Int) < (T : Int) := by omega
        have HB := Lib.hid hB
        clear hB hU hV c1 c2
        go_wp2
        go_ret
        exact ⟨rfl, HB.out⟩
    · have c1' : ¬ (k : Int) < (L : Int) := by omega
      have HB := Lib.hid hB
      clear hB hU hV c1
      go_wp2
      go_ret
      exact ⟨rfl, HB.out⟩
end Go.Proofs.YtjdbjgaoeijmfaaDoor
end
section
namespace Go.Proofs.YtjdbjgaoeijmfaaDoor.sealEnds
open Go.ChangeShapes Go.WideShapes Go.ChangeAt Go.RowKit
open Go.ChangeMaps (open_string shut_string)
set_option linter.unusedVariables false

theorem own : ownKnob Tryd.prog.godebug = none := by kernel_rfl
theorem laidOut : laidOutB Tryd.prog = true := by kernel_rfl

theorem laid_met (os : Os) : laidMet Tryd.prog Rows.sealEndsRow.laid ((laidWorld os).forCall (fun _ _ => 0) ⟨#[], #[.agg (List.replicate 32 (Value.int .u8 0)).toArray, .slice none 0 0, .slice none 0 0, .slice none 0 0], []⟩).memory :=
  laidMet_of_run' 8 (by kernel_rfl) (by kernel_rfl)
theorem reads (os : Os) {H : Type} (enc : TypeId × Value → H) : ∃ places, DataW.whole enc Tryd.prog ((laidWorld os).forCall (fun _ _ => 0) ⟨#[], #[.agg (List.replicate 32 (Value.int .u8 0)).toArray, .slice none 0 0, .slice none 0 0, .slice none 0 0], []⟩).memory Tryd.f6.params.toList Rows.sealEndsSpec.vars false #[.agg (List.replicate 32 (Value.int .u8 0)).toArray, .slice none 0 0, .slice none 0 0, .slice none 0 0].toList 8 = some ([.agg (List.replicate 32 (.lit (.int .u8 0))), .nil, .nil, .nil], [], places) :=
  ⟨[], by kernel_rfl⟩

set_option maxRecDepth 100000 in
theorem contract (H : Type) (enc : TypeId × Value → H) (W : World) (base : Nat) (args : Array Value) (ds gs : List (DataW H)) (before : List MemPlace)
    (hval0 : ∀ (j : Nat) t v, Tryd.f6.params[j]? = some t → args[j]? = some v → Value.okWide Tryd.prog W .any base t v)
    (hW : DataW.Whole enc Tryd.prog Tryd.f6.params.toList Rows.sealEndsSpec.vars false W args.toList ds gs before) (hL : laidMetH Tryd.prog Rows.sealEndsRow.laid W) :
    Calls Tryd.prog 6 args W fun e W' => ∃ v, e = .returned v ∧ Rows.sealEndsSpec.post enc Tryd.prog Tryd.f6 false true false false W args v W' := by
  have hq := tables hL
  have hval : ∀ (j : Nat) t v, Tryd.f6.params[j]? = some t → args[j]? = some v → Value.okWide Tryd.prog W .any base t v := hval0
  have hW' := hW
  obtain ⟨p, q, hA0, hV, rfl, hfz, hnd⟩ := hW
  have hA : DataW.TrodAll enc Tryd.prog W 0 (fun _ => true) true Tryd.f6.params.toList args.toList ds p := hA0
  rw [Tryd.params6] at hA hval
  obtain ⟨v0, vs0, d0, ds0, p0, q0, hargs, rfl, rfl, h0, r0⟩ := trodAll_cons hA
  obtain ⟨v1, vs1, d1, ds1, p1, q1, rfl, rfl, rfl, h1, r1⟩ := trodAll_cons r0
  obtain ⟨v2, vs2, d2, ds2, p2, q2, rfl, rfl, rfl, h2, r2⟩ := trodAll_cons r1
  obtain ⟨v3, vs3, d3, ds3, p3, q3, rfl, rfl, rfl, h3, r3⟩ := trodAll_cons r2
  obtain ⟨rfl, rfl, rfl⟩ := trodAll_nil r3
  obtain rfl : args = #[v0, v1, v2, v3] := by cases args; simp_all
  obtain ⟨rfl, rfl⟩ := trodVars_none hV
  have k0 := h0
  have lt0 : ∀ x ∈ p0, x.block < W.heap.size := by obtain ⟨m, hm⟩ := k0; exact DataW.trod_lt m _ _ _ hm
  obtain ⟨l0, rfl, w0⟩ := open_key Tryd.underlying23 Tryd.underlying5 (by kernel_rfl) (by kernel_rfl) (hval 0 23 v0 rfl rfl) h0
  obtain ⟨a1, len1, cap1, rfl⟩ := okWide_slice Tryd.underlying24 (hval 1 24 v1 rfl rfl)
  have k1 := h1
  have lt1 : ∀ x ∈ p1, x.block < W.heap.size := by obtain ⟨m, hm⟩ := k1; exact DataW.trod_lt m _ _ _ hm
  obtain ⟨l1, w1⟩ : ∃ l, Bs W (.slice a1 len1 cap1) l := by
    obtain ⟨fuel, hf⟩ := h1
    rcases open_ints Tryd.underlying24 Tryd.underlying5 (by kernel_rfl) hf with ⟨hcs, _⟩ | ⟨x, l, c, zs, hcs, _, hl, hm, hz, _, hcell, hwz⟩
    · simp [Value.cells] at hcs
      obtain ⟨rfl, rfl, rfl⟩ := hcs
      exact ⟨[], Bs.nil W⟩
    · simp [Value.cells] at hcs
      obtain ⟨rfl, rfl, rfl⟩ := hcs
      exact bs_of_ints hl hm (by simpa using hz) hcell hwz
  obtain ⟨a2, len2, cap2, rfl⟩ := okWide_slice Tryd.underlying24 (hval 2 24 v2 rfl rfl)
  have k2 := h2
  have lt2 : ∀ x ∈ p2, x.block < W.heap.size := by obtain ⟨m, hm⟩ := k2; exact DataW.trod_lt m _ _ _ hm
  obtain ⟨l2, w2⟩ : ∃ l, Bs W (.slice a2 len2 cap2) l := by
    obtain ⟨fuel, hf⟩ := h2
    rcases open_ints Tryd.underlying24 Tryd.underlying5 (by kernel_rfl) hf with ⟨hcs, _⟩ | ⟨x, l, c, zs, hcs, _, hl, hm, hz, _, hcell, hwz⟩
    · simp [Value.cells] at hcs
      obtain ⟨rfl, rfl, rfl⟩ := hcs
      exact ⟨[], Bs.nil W⟩
    · simp [Value.cells] at hcs
      obtain ⟨rfl, rfl, rfl⟩ := hcs
      exact bs_of_ints hl hm (by simpa using hz) hcell hwz
  obtain ⟨a3, len3, cap3, rfl⟩ := okWide_slice Tryd.underlying24 (hval 3 24 v3 rfl rfl)
  have k3 := h3
  have lt3 : ∀ x ∈ p3, x.block < W.heap.size := by obtain ⟨m, hm⟩ := k3; exact DataW.trod_lt m _ _ _ hm
  obtain ⟨l3, w3⟩ : ∃ l, Bs W (.slice a3 len3 cap3) l := by
    obtain ⟨fuel, hf⟩ := h3
    rcases open_ints Tryd.underlying24 Tryd.underlying5 (by kernel_rfl) hf with ⟨hcs, _⟩ | ⟨x, l, c, zs, hcs, _, hl, hm, hz, _, hcell, hwz⟩
    · simp [Value.cells] at hcs
      obtain ⟨rfl, rfl, rfl⟩ := hcs
      exact ⟨[], Bs.nil W⟩
    · simp [Value.cells] at hcs
      obtain ⟨rfl, rfl, rfl⟩ := hcs
      exact bs_of_ints hl hm (by simpa using hz) hcell hwz
  clear hA0 hval0
  refine (sealEnds_walk W hq l0 w0 _ l1 w1 _ l2 w2 _ l3 w3).mono fun e W' ⟨he, bel⟩ => ?_
  subst he
  exact ⟨_, rfl, _, _, _, [], _, [], hW', trodAll_mk1 (shut_bool Tryd.underlying4 _), (trodAll_cons_mk (Below.trod laidOut (by kernel_rfl) (of_decide_eq_true (by kernel_rfl)) k0 bel lt0) (trodAll_cons_mk (Below.trod laidOut (by kernel_rfl) (of_decide_eq_true (by kernel_rfl)) k1 bel lt1) (trodAll_cons_mk (Below.trod laidOut (by kernel_rfl) (of_decide_eq_true (by kernel_rfl)) k2 bel lt2) (trodAll_cons_mk (Below.trod laidOut (by kernel_rfl) (of_decide_eq_true (by kernel_rfl)) k3 bel lt3) trodAll_mk0)))), rfl, bel.frame _, fun h => by cases h⟩

set_option maxRecDepth 100000 in
theorem lifted (os : Os) (started : os.Started) (H : Type) (enc : TypeId × Value → H) (F : Stop.Interp) :
    ReturnsInHanded {} Tryd.checked os 6 .any ((OpenSpec.ofChange Rows.sealEndsSpec).preRow enc Tryd.prog Tryd.f6 Rows.sealEndsRow.domain false Rows.sealEndsRow.laid) (((OpenSpec.ofChange Rows.sealEndsSpec).at F).post enc Tryd.prog Tryd.f6 false true false false) := by
  obtain ⟨places, hx⟩ := reads os enc
  refine returnsInHanded_of_row (C := Tryd.checked) (s := OpenSpec.ofChange Rows.sealEndsSpec) own started (by kernel_rfl) Tryd.func6
    (witness_row_at (enc := enc) (C := Tryd.checked) false (laidWorld os) #[.agg (List.replicate 32 (Value.int .u8 0)).toArray, .slice none 0 0, .slice none 0 0, .slice none 0 0] rfl (by kernel_rfl) (by kernel_rfl) (by kernel_rfl)
      (OpenSpec.preRow_of_cond 8 hx (by kernel_rfl) (fun k hk => by cases hk) (by kernel_rfl) (laid_met os))) ?_
  intro W base args ds gs before hval hW _ _ _ hL _ _
  exact contract H enc W base args ds gs before hval hW hL

theorem said : Rows.SealEndsSaid :=
  OpenClaim.holds_of_cond 6 Tryd.f6 rfl rfl rfl rfl rfl rfl rfl ⟨rfl, rfl, rfl, rfl, rfl⟩ rfl rfl rfl rfl rfl (by kernel_rfl) Tryd.func6 (by kernel_rfl)
    (of_decide_eq_true (by kernel_rfl)) (by unfold Func.isWrapper; first | (rw [if_pos (by decide +kernel)]; kernel_rfl) | (rw [if_neg (by decide +kernel)]; exact ⟨rfl, rfl⟩))
    (fun os started H enc _ F => by rw [OpenClaim.pre_eq_preRow]; exact lifted os started H enc F)

theorem noStand : (Tryd.f6.params.toList.all fun t => Tryd.prog.wantsStandIn t == false) = true := by kernel_rfl
theorem plain (f : FuncId) (fn : Func) (hf : Tryd.pinned.checked.prog.funcNamed "cablegram/cablegramlaw05.SealEnds" = some f) (hfn : Tryd.pinned.checked.prog.funcs[f]? = some fn) :
    false = Tryd.pinned.checked.prog.looks [] ∧ ∀ (j : Nat) t, fn.params[j]? = some t → Tryd.pinned.checked.prog.wantsStandIn t = false := by
  obtain rfl : f = 6 := Option.some.inj ((show Tryd.prog.funcNamed "cablegram/cablegramlaw05.SealEnds" = some 6 by kernel_rfl).symm.trans hf) |>.symm
  obtain rfl : fn = Tryd.f6 := (Option.some.inj (Tryd.func6.symm.trans hfn)).symm
  refine ⟨by kernel_rfl, fun j t ht => ?_⟩
  have hm : t ∈ Tryd.f6.params.toList := by simpa using Array.mem_of_getElem? ht
  exact beq_iff_eq.1 (List.all_eq_true.1 noStand t hm)

theorem proved : Rows.SealEndsCardSaid :=
  Claim7.holds_tied_plain_at .later [] _ _ _ _ said (fun _ h => by cases h) (by kernel_rfl) (fun _ h => by cases h) sealEnds_row_tie rfl ⟨rfl, rfl⟩ (by kernel_rfl) rfl plain (by kernel_rfl)
#print axioms proved
end Go.Proofs.YtjdbjgaoeijmfaaDoor.sealEnds
end
