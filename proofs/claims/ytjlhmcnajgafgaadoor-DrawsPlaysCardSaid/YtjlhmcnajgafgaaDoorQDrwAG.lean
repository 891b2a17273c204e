/-
  Texts that belong together, merged: MacE, MacG, HighO, MacJ. Conditions: as each theorem names them.
-/
import Derived.Test.YtjlhmcnajgafgaaDoorQDrwAF
import Derived.Test.YtjlhmcnajgafgaaDoorQDrwAC
import Derived.Test.YtjlhmcnajgafgaaDoorQDrwAD
import Derived.Test.YtjlhmcnajgafgaaDoorQDrwAE
import Derived.Lib.AtoiErrMem
import Derived.Deep.DeepMust
section
namespace Go.Proofs.YtjlhmcnajgafgaaDoor
open Go.RowKit
set_option linter.unusedVariables false
set_option maxRecDepth 20000

theorem OwnB.low {w : World} {base base' : Nat} {e : TypeId} {v : Value} {l : List UInt8} (h : OwnB w base e v l) (hb : base' ≤ base) : OwnB w base' e v l := by
  obtain ⟨hl, h⟩ := h
  refine ⟨hl, ?_⟩
  rcases h with h | ⟨g, cap, cur, h1, h2, h3⟩
  · exact .inl h
  · exact .inr ⟨g, cap, cur, h1, Nat.le_trans hb h2, h3⟩

set_option maxHeartbeats 1000000 in
theorem refBytes_own (w : World) (l : List UInt8) (hl : l.length = 32) :
    Calls Tryd.prog 25 #[keyV l] w (RetOwn w 5 l) := by
  have HL := Lib.hid hl
  have hl1 : l.length ≤ 32 := by omega
  have hl2 : 32 ≤ l.length := by omega
  clear hl
  go_enter Tryd.func25, Tryd.ntmps25
  go_wp2_with ((with_reducible refine wpList_box_row (o := ⟨some 1, _, _, _, _, _⟩) rfl 23 (.tmp 0) rfl (keyC l) (by with_unfolding_all rfl) ?_); intro g1 w1 n1)
  go_loopw [3, 4] (fun v i wr => ∃ k : Nat, k ≤ l.length ∧ i = .int .i64 k ∧ OwnB wr w1.heap.size 5 v (l.take k) ∧ Below w1.heap.size w1 wr) (fun _ i _ => l.length - (intOf i).toNat)
  case atStart => exact ⟨0, Nat.zero_le _, rfl, OwnB.nil _ _ _, Below.refl _ _⟩
  case round =>
    obtain ⟨k, hk, rfl, hown, hb⟩ := hrel
    have HO := Lib.hid hown
    have HB := Lib.hid hb
    have hsz := hb.size
    clear hown hb
    by_cases hlt : k < l.length
    · have hcell := keyC_cell (n1.row.kept HB.out) k hlt
      have HT := Lib.hid (List.take_succ_eq_append_getElem hlt)
      go_wp2_with (at_builtin; refine wpList_appB _ rfl (.tmp 9) (.tmp 13) 68 rfl w1 5 Tryd.infoB Tryd.underlying68 _ _ _ [l[k]] rfl rfl (HO.out.alloc _) (Bs.lit1 _ _ _ _ rfl) (by simp; omega) (HB.out.alloc hsz _) ?_; intro v2 w2 hown2 hb2)
      go_roundw
      case rel => exact ⟨k + 1, by omega, by go_num, by rw [HT.out]; exact hown2, hb2⟩
      case measure => simp [intOf]; omega
    · have HO2 : Hid (OwnB wr w1.heap.size 5 u3 l) := by
        have := HO.out; rwa [List.take_of_length_le (by omega)] at this
      go_wp2
      go_ret
      exact ⟨_, rfl, HO2.out.low n1.below.size, below_size n1.below HB.out⟩

/-- append onto the call's own row leaves the Log as it was. -/
theorem LogR.app {w0 w x y : World} {g n base : Nat} {v : Value} {l : List UInt8} (h : LogR w0 w g n x) (ho : OwnB x base 5 v l) (hb : w.heap.size ≤ base) (hg : x.grownBy y v.ownBlock) : LogR w0 w g n y := by
  have hr : ∀ k, v.ownBlock = some k → base ≤ k := ho.rows
  refine ⟨h.below.grown hg h.below.size (fun k e => by have := hr k e; have := h.old; omega), h.row.grown hg (ho.other h.row (by decide)), h.far, h.old, h.row0, ?_⟩
  exact ⟨hg.os.trans h.grown.os, hg.tape.trans h.grown.tape, hg.output.trans h.grown.output, Nat.le_trans h.grown.size hg.size, fun k hk h1 => (hg.block k (Nat.lt_of_lt_of_le hk h.grown.size) (fun e => by have := hr k e.symm; omega)).trans (h.grown.block k hk h1)⟩
theorem LogR.own {w0 w x : World} {g n base : Nat} {v : Value} {l : List UInt8} (h : LogR w0 w g n x) (ho : OwnB w base 5 v l) : OwnB x base 5 v l := by
  obtain ⟨n0, h0⟩ := h.row0
  refine World.ownsRow.kept ho h.grown ?_
  rcases hv : v.ownBlock with _ | k
  · exact .inl rfl
  · refine .inr fun hk => ?_
    exact ho.other h0 (by decide) (by rw [hv]; exact hk.symm)
theorem mixB_step (b : List UInt8) (x : UInt8) (k : Nat) (h : k < b.length) : mixB (b.take (k + 1)) x = mixB (b.take k) x ++ [b.getD k 0 ^^^ x] := by
  have e2 := List.take_succ_eq_append_getElem (l := b.map (· ^^^ x)) (i := k) (by simpa using h)
  simp only [mixB, List.map_take]
  rw [e2]
  simp [List.getD_eq_getElem?_getD, h]

set_option maxHeartbeats 4000000 in
theorem refMacSum_any (w0 w : World) (g n : Nat) (vk vb : Value) (key b : List UInt8) (h : LogR w0 w g n w) (hn : n ≤ 100000000) (hk : Bs w vk key) (hk2 : key.length ≤ 100000) (hb : Bs w vb b) (hb2 : b.length ≤ 100000) :
    Calls Tryd.prog 24 #[.pointer (some ⟨g, 0, none⟩), vk, vb] w fun e w' => ∃ n', n' ≤ n + 3 ∧ e = .returned (.agg (keyC (macB key b))) ∧ LogR w0 w g n' w' := by
  have HR := Lib.hid h
  have HVK := Lib.hid hk
  have HVB := Lib.hid hb
  have hgl := h.glt
  obtain ⟨KA, KC, rfl, k1, k2, k3⟩ := hk
  unfold maxLen at k2
  obtain ⟨blk, hblk⟩ : ∃ blk, blk = blockK key := ⟨_, rfl⟩
  have LB : Hid (blk.length = 64) := by show _ = _; rw [hblk, blockK_length]
  obtain ⟨m1, hm1⟩ : ∃ m1, m1 = mixB blk 54 := ⟨_, rfl⟩
  obtain ⟨m2, hm2⟩ : ∃ m2, m2 = mixB blk 92 := ⟨_, rfl⟩
  have L1 : m1.length = 64 := by rw [hm1, mixB_length, LB.out]
  have L2 : m2.length = 64 := by rw [hm2, mixB_length, LB.out]
  obtain ⟨d1, hd1⟩ : ∃ d, d = digestB (m1 ++ b) := ⟨_, rfl⟩
  have LD1 : Hid (d1.length = 32) := by show _ = _; rw [hd1, digestB_length]
  obtain ⟨d2, hd2⟩ : ∃ d, d = digestB (m2 ++ d1) := ⟨_, rfl⟩
  have LD2 : Hid (d2.length = 32) := by show _ = _; rw [hd2, digestB_length]
  have hfin : macB key b = d2 := by
    rw [hd2, hd1, hm1, hm2, hblk, macB]
  rw [hfin]
  have HD1 := Lib.hid hd1
  have HD2 := Lib.hid hd2
  have HM1 := Lib.hid hm1
  have HM2 := Lib.hid hm2
  have HL1 := Lib.hid L1
  have HL2 := Lib.hid L2
  have HBY : Hid (∀ x, Calls Tryd.prog 25 #[.agg (keyC d1)] x (RetBs x d1)) := fun x => refBytes_any x d1 LD1.out
  clear h hb k3 hm1 hm2 L1 L2 hd1 hd2 hfin
  by_cases c1 : 64 < key.length
  · have t1 : decide ((64 : Int) < (key.length : Int)) = true := by simp; omega
    obtain ⟨dk, hdk⟩ : ∃ d, d = digestB key := ⟨_, rfl⟩
    have LDK : Hid (dk.length = 32) := by show _ = _; rw [hdk, digestB_length]
    have HDK := Lib.hid hdk
    have HFL : Hid (∀ k, dk.length + k ≤ 64 → ¬ dk.length + k < 64 → dk ++ List.replicate k 0 = blk) := fun k ha hb => by
      rw [hblk, blockK, if_pos c1, ← hdk, fillB, show 64 - dk.length = k by omega]
    have HBO : Hid (∀ x, Calls Tryd.prog 25 #[.agg (keyC dk)] x (RetOwn x 5 dk)) := fun x => refBytes_own x dk LDK.out
    have hol : dk.length ≤ 64 := by rw [LDK.out]; omega
    clear hdk hblk
    go_enter Tryd.func24, Tryd.ntmps24
    go_wp2_with (first
      | ((with_reducible refine wpList_alloc_row (o := ⟨some 6, _, _, _, _, _⟩) rfl 23 rfl (keyC zeroKey) Tryd.zeroK ?_); intro g6 w1 n1; have R1 := Lib.hid (HR.out.kept n1.below); have Q1 := Lib.hid n1.row; have hg6 : w.heap.size ≤ g6 := Nat.le_of_eq n1.spot.symm; have hgg : g6 ≠ g := (by omega); have V1 := Lib.hid (HVB.out.below n1.below); have K1 := Lib.hid (HVK.out.below n1.below); have B1 := Lib.hid n1.below; clear n1)
      | (at_builtin; refine wpList_appB _ rfl (.tmp 12) (.tmp 13) 68 rfl w1 5 Tryd.infoB Tryd.underlying68 _ _ [] key rfl rfl (OwnB.empty2 _ _ _ (Nat.le_refl _)) (K1.out.below (alloc_below _ _)) (by simp; omega) (alloc_below _ _) ?_; intro v2 w2 own2 b2; have R2 := Lib.hid (R1.out.kept b2); have Q2 := Lib.hid (Q1.out.kept b2); have V2 := Lib.hid (V1.out.below b2); have K2 := Lib.hid (K1.out.below b2); clear own2 b2 R1 Q1 V1 K1))
    refine (LogSum_run w0 _ g n _ key dk (by exact R2.out.self) (by omega) HDK.out (by exact K2.out) (by omega)).mono ?_
    intro e w3 h
    obtain ⟨he, r3⟩ := h
    subst he
    have R3 := Lib.hid (R2.out.trans r3)
    have Q3 := Lib.hid (r3.other Q2.out hgg)
    have V3 := Lib.hid (r3.bs V2.out)
    clear r3 R2 Q2 V2 K2
    go_wp2_with fail
    refine (HBO.out _).mono ?_
    intro e w4 h
    obtain ⟨v4, he, ho4, b4⟩ := h
    subst he
    have HO := Lib.hid ho4
    have HB := Lib.hid b4
    clear ho4 b4
    go_wp2_with fail
    have hwb : w.heap.size ≤ w3.heap.size := R3.out.size
    go_loopw [7] (fun v wr => ∃ k : Nat, dk.length + k ≤ 64 ∧ OwnB wr w3.heap.size 5 v (dk ++ List.replicate k 0) ∧ Below w3.heap.size w3 wr) (fun v _ => 100 - (match v with | .slice _ n _ => n | _ => 0))
    case atStart => exact ⟨0, by omega, by simpa using HO.out, HB.out⟩
    case round =>
      clear HO HB
      obtain ⟨k, hk, hown, hb⟩ := hrel
      have HO := Lib.hid hown
      have HB := Lib.hid hb
      obtain ⟨A, c, rfl, hc1, hc2⟩ := hown.shape
      unfold maxLen at hc2
      have hsz := hb.size
      have hlen : (dk ++ List.replicate k (0 : UInt8)).length = dk.length + k := by simp
      obtain ⟨m, hm⟩ : ∃ m, m = (dk ++ List.replicate k (0 : UInt8)).length := ⟨_, rfl⟩
      rw [← hm] at HO hc1 hlen ⊢
      clear hown hb
      by_cases hlt : m < 64
      · have ht : decide ((m : Int) < 64) = true := by simp; omega
        have HM := Lib.hid hm
        clear hm
        go_wp2_with (at_builtin; refine wpList_appB _ rfl (.tmp 25) (.tmp 26) 68 rfl w3 5 Tryd.infoB Tryd.underlying68 _ _ (dk ++ List.replicate k 0) [0] rfl rfl (HO.out.alloc _) (Bs.lit1 _ _ _ _ rfl) (by rw [← HM.out]; simp; omega) (HB.out.alloc hsz _) ?_; intro v1 w1x hown1 hb1)
        go_roundw
        case rel => exact ⟨k + 1, by omega, by rw [List.replicate_succ', ← List.append_assoc]; exact hown1, hb1⟩
        case measure =>
          obtain ⟨A1, c1, rfl, _, _⟩ := hown1.shape
          have := HM.out
          simp only [List.length_append, List.length_singleton, List.length_replicate]
          simp only [List.length_append, List.length_replicate] at this
          omega
      · have ht : decide ((m : Int) < 64) = false := by simp; omega
        have h64 : m = 64 := by omega
        have HOB := HO.out.bs
        rw [HFL.out k hk (by omega)] at HOB
        subst h64
        obtain ⟨A', c', he, h1, h2, h3⟩ := HOB
        have H3 := Lib.hid h3
        injection he with e1 e2 e3
        subst e1 e3
        clear HO hm h3 h1 h2 e2 hlen
        obtain ⟨wm, hwm⟩ : ∃ wm, wm = wr := ⟨_, rfl⟩
        rw [← hwm]
        rw [← hwm] at HB H3 hsz
        clear hwm
        obtain ⟨b0, o0, rfl, hca⟩ := H3.out (by rw [LB.out]; omega)
        have HCA := Lib.hid hca
        clear hca H3
        go_wp2_with fail
        go_loopw [8, 9, 10] (fun vi vo i wr => ∃ k : Nat, k ≤ 64 ∧ i = .int .i64 k ∧ OwnB wr wm.heap.size 5 vi (mixB (blk.take k) 54) ∧ OwnB wr wm.heap.size 5 vo (mixB (blk.take k) 92) ∧ Apart vi vo ∧ Below wm.heap.size wm wr) (fun _ _ i _ => 64 - (intOf i).toNat)
        case atStart => exact ⟨0, by omega, rfl, by simpa [mixB] using OwnB.nil _ _ _, by simpa [mixB] using OwnB.nil _ _ _, Apart.nil _, Below.refl _ _⟩
        case round =>
          obtain ⟨q, hq, rfl, hoi, hoo, hap, hbr⟩ := hrel
          have HI := Lib.hid hoi
          have HOo := Lib.hid hoo
          have HA := Lib.hid hap
          have BR := Lib.hid hbr
          have hsz := hbr.size
          clear hoi hoo hap hbr
          by_cases hlq : q < 64
          · have hc0 := HCA.out q (by rw [LB.out]; exact hlq)
            have hto : blk.getD q 0 = blk[q]'(by rw [LB.out]; exact hlq) := by simp [List.getD_eq_getElem?_getD, LB.out, hlq]
            rw [← hto] at hc0
            have hlt0 := World.block_lt_of_cell? wm _ hc0
            have e1 := mixB_step blk 54 q (by rw [LB.out]; exact hlq)
            have e2 := mixB_step blk 92 q (by rw [LB.out]; exact hlq)
            have ll1 : (mixB (blk.take q) 54).length ≤ 64 := by rw [mixB_length, List.length_take]; omega
            have ll2 : (mixB (blk.take q) 92).length ≤ 64 := by rw [mixB_length, List.length_take]; omega
            clear hto
            generalize blk.getD q 0 = y at hc0 e1 e2
            have HE1 := Lib.hid e1
            have HE2 := Lib.hid e2
            have X1 : Hid (bits .xor .u8 (y.toNat : Int) 54 = ((y ^^^ 54).toNat : Int)) := xor_byte y 54
            have X2 : Hid (bits .xor .u8 (y.toNat : Int) 92 = ((y ^^^ 92).toNat : Int)) := xor_byte y 92
            have C0 := Lib.hid hc0
            have L1x := Lib.hid ll1
            have L2x := Lib.hid ll2
            have hc1 : wr.cell? ⟨b0, o0 + q, none⟩ = some (.int .u8 (y.toNat : Int)) := (BR.out.cell (p := ⟨b0, o0 + q, none⟩) hlt0).trans hc0
            have hq1 : (q : Int) < 64 := by omega
            clear e1 e2 hc0 ll1 ll2
            go_wp2_with (first
              | (at_builtin; refine wpList_appD rfl (.tmp 32) (.tmp 38) 68 rfl wm.heap.size 5 Tryd.infoB Tryd.underlying68 _ _ (mixB (blk.take q) 54) [y ^^^ 54] rfl rfl (HI.out.alloc _) (Bs.lit1 _ _ _ _ X1.out) (by have := L1x.out; rw [List.length_singleton]; omega) (Nat.le_trans hsz ((Below.refl _ wr).alloc (Nat.le_refl _) _).size) ?_; intro v2a w2a own2 gr2 ds2; have B2 := Lib.hid ((BR.out.alloc hsz _).grown gr2 (Nat.le_trans hsz ((Below.refl _ wr).alloc (Nat.le_refl _) _).size) HI.out.rows); have O2 := Lib.hid ((HOo.out.alloc _).apart HA.out gr2); have A2 := Lib.hid (HA.out.grown (HOo.out.alloc _) ds2); have I2 := Lib.hid own2; have hc2 : w2a.cell? ⟨b0, o0 + q, none⟩ = some (.int .u8 (y.toNat : Int)) := (B2.out.cell (p := ⟨b0, o0 + q, none⟩) hlt0).trans C0.out; have hs2 := B2.out.size; clear own2 gr2 ds2)
              | (at_builtin; refine wpList_appD rfl (.tmp 40) (.tmp 46) 68 rfl wm.heap.size 5 Tryd.infoB Tryd.underlying68 _ _ (mixB (blk.take q) 92) [y ^^^ 92] rfl rfl (O2.out.alloc _) (Bs.lit1 _ _ _ _ X2.out) (by have := L2x.out; rw [List.length_singleton]; omega) (Nat.le_trans hs2 ((Below.refl _ w2a).alloc (Nat.le_refl _) _).size) ?_; intro v3a w3a own3 gr3 ds3; have B3 := Lib.hid ((B2.out.alloc hs2 _).grown gr3 (Nat.le_trans hs2 ((Below.refl _ w2a).alloc (Nat.le_refl _) _).size) O2.out.rows); have I3 := Lib.hid ((I2.out.alloc _).apart A2.out.symm gr3); have A3 := Lib.hid (A2.out.symm.grown (I2.out.alloc _) ds3).symm; have O3 := Lib.hid own3; clear own3 gr3 ds3))
            go_roundw
            case rel => exact ⟨q + 1, by omega, by go_num, by rw [HE1.out]; exact I3.out, by rw [HE2.out]; exact O3.out, A3.out, B3.out⟩
            case measure => simp [intOf]; omega
          · have hq64 : q = 64 := by omega
            have h8 := HI.out
            have h9 := HOo.out
            rw [hq64, List.take_of_length_le (by rw [LB.out]; omega), ← HM1.out] at h8
            rw [hq64, List.take_of_length_le (by rw [LB.out]; omega), ← HM2.out] at h9
            have HI2 := Lib.hid h8
            have HO2 := Lib.hid h9
            have hq1 : ¬ (q : Int) < 64 := by omega
            have hwm : w.heap.size ≤ wm.heap.size := Nat.le_trans hwb HB.out.size
            clear h8 h9 hq64 HI HOo HCA
            go_wp2_with (at_builtin; refine wpList_appD rfl (.tmp 49) (.tmp 50) 68 rfl wm.heap.size 5 Tryd.infoB Tryd.underlying68 _ _ m1 b rfl rfl HI2.out (V3.out.below (below_size HB.out BR.out)) (by rw [HL1.out]; omega) hsz ?_; intro v51 w51 own51 gr51 ds51; have b51 := below_size HB.out (BR.out.grown gr51 hsz HI2.out.rows); have R51 := Lib.hid (R3.out.kept b51); have Q51 := Lib.hid (Q3.out.kept b51); have U51 := Lib.hid own51.bs; have O51 := Lib.hid (HO2.out.apart HA.out gr51); have s51 := Nat.le_trans hsz gr51.size; clear own51 gr51 ds51 b51 HI2 HO2 HA BR HB)
            refine (LogSum_run w0 w51 g (n + 1) _ (m1 ++ b) d1 R51.out.self (by omega) HD1.out U51.out (by rw [List.length_append, HL1.out]; omega)).mono ?_
            intro e w52 h
            obtain ⟨he, r52⟩ := h
            subst he
            have R52 := Lib.hid (R51.out.trans r52)
            have Q52 := Lib.hid (r52.other Q51.out hgg)
            have O52 := Lib.hid (r52.own O51.out)
            have s52 := r52.size
            clear r52 R51 Q51 O51 U51
            go_wp2_with (first
              | ((with_reducible refine wpList_alloc_row (o := ⟨some 11, _, _, _, _, _⟩) rfl 23 rfl (keyC zeroKey) Tryd.zeroK ?_); intro g53 w53 n53)
              | ((with_reducible refine wpList_store_row (o := ⟨none, _, _, _, _, _⟩) rfl 23 (.tmp 11) (.tmp 52) rfl g53 23 _ (keyC d1) (by with_unfolding_all rfl) (by with_unfolding_all rfl) n53.row (keyC_same zeroKey_length LD1.out) (Tryd.sizeKey d1 LD1.out) (keyC_one d1) ?_); intro w54 p54; have b54 := (laid_put n53 p54).1; have R54 := Lib.hid (R52.out.kept b54); have Q54 := Lib.hid (Q52.out.kept b54); have O54 := Lib.hid (O52.out.below b54); have S54 := Lib.hid p54.row; have s54 := b54.size; clear n53 p54 b54 R52 Q52 O52)
              | (with_reducible refine wpList_load_row (o := ⟨some 55, _, _, _, _, _⟩) rfl 23 (.tmp 11) rfl g53 (by with_unfolding_all rfl) 23 (keyC d1) (0, 0) (.array 32 5) (by with_unfolding_all exact S54.out) Tryd.underlying23 rfl (Tryd.sizeKey d1 LD1.out) ?_))
            refine (HBY.out _).mono ?_
            intro e w55 h
            obtain ⟨u55, he, hu55, b55⟩ := h
            subst he
            have R55 := Lib.hid (R54.out.kept b55)
            have Q55 := Lib.hid (Q54.out.kept b55)
            have O55 := Lib.hid (O54.out.below b55)
            have U55 := Lib.hid hu55
            have s55 := b55.size
            clear hu55 b55 R54 Q54 O54 S54
            go_wp2_with (at_builtin; refine wpList_appD rfl (.tmp 54) (.tmp 56) 68 rfl wm.heap.size 5 Tryd.infoB Tryd.underlying68 _ _ m2 d1 rfl rfl O55.out U55.out (by rw [HL2.out, LD1.out]; omega) (by omega) ?_; intro v57 w57 own57 gr57 ds57; have R57 := Lib.hid (R55.out.app O55.out hwm gr57); have Q57 := Lib.hid (Q55.out.grown gr57 (O55.out.other Q55.out (by decide))); have U57 := Lib.hid own57.bs; clear own57 gr57 ds57 R55 Q55 O55 U55)
            refine (LogSum_run w0 w57 g (n + 1 + 1) _ (m2 ++ d1) d2 R57.out.self (by omega) HD2.out U57.out (by rw [List.length_append, HL2.out, LD1.out]; omega)).mono ?_
            intro e w58 h
            obtain ⟨he, r58⟩ := h
            subst he
            have R58 := Lib.hid (R57.out.trans r58)
            have Q58 := Lib.hid (r58.other Q57.out hgg)
            clear r58 R57 Q57 U57
            go_wp2_with ((with_reducible refine wpList_store_row (o := ⟨none, _, _, _, _, _⟩) rfl 23 (.tmp 6) (.tmp 58) rfl g6 23 _ (keyC d2) (by with_unfolding_all rfl) (by with_unfolding_all rfl) Q58.out (keyC_same zeroKey_length LD2.out) (Tryd.sizeKey d2 LD2.out) (keyC_one d2) ?_); intro w59 p59)
            refine bodyPost_ret (results_cell_row rfl _ _ g6 23 (keyC d2) (0, 0) (.array 32 5) rfl p59.row Tryd.underlying23 rfl (Tryd.sizeKey d2 LD2.out)) rfl ⟨n + 1 + 1 + 1, by omega, rfl, ?_⟩
            exact R58.out.put p59 hg6 hgg
  · have t1 : decide ((64 : Int) < (key.length : Int)) = false := by simp; omega
    obtain ⟨ok, hok⟩ : ∃ x, x = [] ++ key := ⟨_, rfl⟩
    have HOK := Lib.hid hok
    have hokl : ok.length = key.length := by rw [hok]; rfl
    have HFL : Hid (∀ k, ok.length + k ≤ 64 → ¬ ok.length + k < 64 → ok ++ List.replicate k 0 = blk) := fun k ha hb => by
      rw [hok] at ha hb ⊢
      simp only [List.nil_append] at ha hb ⊢
      rw [hblk, blockK, if_neg c1, fillB, show 64 - key.length = k by omega]
    have hol : ok.length ≤ 64 := by omega
    clear hblk hok hokl
    go_enter Tryd.func24, Tryd.ntmps24
    go_wp2_with (first
      | ((with_reducible refine wpList_alloc_row (o := ⟨some 6, _, _, _, _, _⟩) rfl 23 rfl (keyC zeroKey) Tryd.zeroK ?_); intro g6 w1 n1; have R1 := Lib.hid (HR.out.kept n1.below); have Q1 := Lib.hid n1.row; have hg6 : w.heap.size ≤ g6 := Nat.le_of_eq n1.spot.symm; have hgg : g6 ≠ g := (by omega); have V1 := Lib.hid (HVB.out.below n1.below); have K1 := Lib.hid (HVK.out.below n1.below); have B1 := Lib.hid n1.below; clear n1)
      | (at_builtin; refine wpList_appB _ rfl (.tmp 12) (.tmp 13) 68 rfl w1 5 Tryd.infoB Tryd.underlying68 _ _ [] key rfl rfl (OwnB.empty2 _ _ _ (Nat.le_refl _)) (K1.out.below (alloc_below _ _)) (by simp; omega) (alloc_below _ _) ?_; intro v4 w4 own4 b4; rw [← HOK.out] at own4; have HO := Lib.hid own4; have HB := Lib.hid b4; clear own4 b4))
    have hwb : w.heap.size ≤ w1.heap.size := R1.out.size
    go_loopw [7] (fun v wr => ∃ k : Nat, ok.length + k ≤ 64 ∧ OwnB wr w1.heap.size 5 v (ok ++ List.replicate k 0) ∧ Below w1.heap.size w1 wr) (fun v _ => 100 - (match v with | .slice _ n _ => n | _ => 0))
    case atStart => exact ⟨0, by omega, by simpa using HO.out, HB.out⟩
    case round =>
      clear HO HB
      obtain ⟨k, hk, hown, hb⟩ := hrel
      have HO := Lib.hid hown
      have HB := Lib.hid hb
      obtain ⟨A, c, rfl, hc1, hc2⟩ := hown.shape
      unfold maxLen at hc2
      have hsz := hb.size
      have hlen : (ok ++ List.replicate k (0 : UInt8)).length = ok.length + k := by simp
      obtain ⟨m, hm⟩ : ∃ m, m = (ok ++ List.replicate k (0 : UInt8)).length := ⟨_, rfl⟩
      rw [← hm] at HO hc1 hlen ⊢
      clear hown hb
      by_cases hlt : m < 64
      · have ht : decide ((m : Int) < 64) = true := by simp; omega
        have HM := Lib.hid hm
        clear hm
        go_wp2_with (at_builtin; refine wpList_appB _ rfl (.tmp 25) (.tmp 26) 68 rfl w1 5 Tryd.infoB Tryd.underlying68 _ _ (ok ++ List.replicate k 0) [0] rfl rfl (HO.out.alloc _) (Bs.lit1 _ _ _ _ rfl) (by rw [← HM.out]; simp; omega) (HB.out.alloc hsz _) ?_; intro v1 w1x hown1 hb1)
        go_roundw
        case rel => exact ⟨k + 1, by omega, by rw [List.replicate_succ', ← List.append_assoc]; exact hown1, hb1⟩
        case measure =>
          obtain ⟨A1, c1, rfl, _, _⟩ := hown1.shape
          have := HM.out
          simp only [List.length_append, List.length_singleton, List.length_replicate]
          simp only [List.length_append, List.length_replicate] at this
          omega
      · have ht : decide ((m : Int) < 64) = false := by simp; omega
        have h64 : m = 64 := by omega
        have HOB := HO.out.bs
        rw [HFL.out k hk (by omega)] at HOB
        subst h64
        obtain ⟨A', c', he, h1, h2, h3⟩ := HOB
        have H3 := Lib.hid h3
        injection he with e1 e2 e3
        subst e1 e3
        clear HO hm h3 h1 h2 e2 hlen
        obtain ⟨wm, hwm⟩ : ∃ wm, wm = wr := ⟨_, rfl⟩
        rw [← hwm]
        rw [← hwm] at HB H3 hsz
        clear hwm
        obtain ⟨b0, o0, rfl, hca⟩ := H3.out (by rw [LB.out]; omega)
        have HCA := Lib.hid hca
        clear hca H3
        go_wp2_with fail
        go_loopw [8, 9, 10] (fun vi vo i wr => ∃ k : Nat, k ≤ 64 ∧ i = .int .i64 k ∧ OwnB wr wm.heap.size 5 vi (mixB (blk.take k) 54) ∧ OwnB wr wm.heap.size 5 vo (mixB (blk.take k) 92) ∧ Apart vi vo ∧ Below wm.heap.size wm wr) (fun _ _ i _ => 64 - (intOf i).toNat)
        case atStart => exact ⟨0, by omega, rfl, by simpa [mixB] using OwnB.nil _ _ _, by simpa [mixB] using OwnB.nil _ _ _, Apart.nil _, Below.refl _ _⟩
        case round =>
          obtain ⟨q, hq, rfl, hoi, hoo, hap, hbr⟩ := hrel
          have HI := Lib.hid hoi
          have HOo := Lib.hid hoo
          have HA := Lib.hid hap
          have BR := Lib.hid hbr
          have hsz := hbr.size
          clear hoi hoo hap hbr
          by_cases hlq : q < 64
          · have hc0 := HCA.out q (by rw [LB.out]; exact hlq)
            have hto : blk.getD q 0 = blk[q]'(by rw [LB.out]; exact hlq) := by simp [List.getD_eq_getElem?_getD, LB.out, hlq]
            rw [← hto] at hc0
            have hlt0 := World.block_lt_of_cell? wm _ hc0
            have e1 := mixB_step blk 54 q (by rw [LB.out]; exact hlq)
            have e2 := mixB_step blk 92 q (by rw [LB.out]; exact hlq)
            have ll1 : (mixB (blk.take q) 54).length ≤ 64 := by rw [mixB_length, List.length_take]; omega
            have ll2 : (mixB (blk.take q) 92).length ≤ 64 := by rw [mixB_length, List.length_take]; omega
            clear hto
            generalize blk.getD q 0 = y at hc0 e1 e2
            have HE1 := Lib.hid e1
            have HE2 := Lib.hid e2
            have X1 : Hid (bits .xor .u8 (y.toNat : Int) 54 = ((y ^^^ 54).toNat : Int)) := xor_byte y 54
            have X2 : Hid (bits .xor .u8 (y.toNat : Int) 92 = ((y ^^^ 92).toNat : Int)) := xor_byte y 92
            have C0 := Lib.hid hc0
            have L1x := Lib.hid ll1
            have L2x := Lib.hid ll2
            have hc1 : wr.cell? ⟨b0, o0 + q, none⟩ = some (.int .u8 (y.toNat : Int)) := (BR.out.cell (p := ⟨b0, o0 + q, none⟩) hlt0).trans hc0
            have hq1 : (q : Int) < 64 := by omega
            clear e1 e2 hc0 ll1 ll2
            go_wp2_with (first
              | (at_builtin; refine wpList_appD rfl (.tmp 32) (.tmp 38) 68 rfl wm.heap.size 5 Tryd.infoB Tryd.underlying68 _ _ (mixB (blk.take q) 54) [y ^^^ 54] rfl rfl (HI.out.alloc _) (Bs.lit1 _ _ _ _ X1.out) (by have := L1x.out; rw [List.length_singleton]; omega) (Nat.le_trans hsz ((Below.refl _ wr).alloc (Nat.le_refl _) _).size) ?_; intro v2a w2a own2 gr2 ds2; have B2 := Lib.hid ((BR.out.alloc hsz _).grown gr2 (Nat.le_trans hsz ((Below.refl _ wr).alloc (Nat.le_refl _) _).size) HI.out.rows); have O2 := Lib.hid ((HOo.out.alloc _).apart HA.out gr2); have A2 := Lib.hid (HA.out.grown (HOo.out.alloc _) ds2); have I2 := Lib.hid own2; have hc2 : w2a.cell? ⟨b0, o0 + q, none⟩ = some (.int .u8 (y.toNat : Int)) := (B2.out.cell (p := ⟨b0, o0 + q, none⟩) hlt0).trans C0.out; have hs2 := B2.out.size; clear own2 gr2 ds2)
              | (at_builtin; refine wpList_appD rfl (.tmp 40) (.tmp 46) 68 rfl wm.heap.size 5 Tryd.infoB Tryd.underlying68 _ _ (mixB (blk.take q) 92) [y ^^^ 92] rfl rfl (O2.out.alloc _) (Bs.lit1 _ _ _ _ X2.out) (by have := L2x.out; rw [List.length_singleton]; omega) (Nat.le_trans hs2 ((Below.refl _ w2a).alloc (Nat.le_refl _) _).size) ?_; intro v3a w3a own3 gr3 ds3; have B3 := Lib.hid ((B2.out.alloc hs2 _).grown gr3 (Nat.le_trans hs2 ((Below.refl _ w2a).alloc (Nat.le_refl _) _).size) O2.out.rows); have I3 := Lib.hid ((I2.out.alloc _).apart A2.out.symm gr3); have A3 := Lib.hid (A2.out.symm.grown (I2.out.alloc _) ds3).symm; have O3 := Lib.hid own3; clear own3 gr3 ds3))
            go_roundw
            case rel => exact ⟨q + 1, by omega, by go_num, by rw [HE1.out]; exact I3.out, by rw [HE2.out]; exact O3.out, A3.out, B3.out⟩
            case measure => simp [intOf]; omega
          · have hq64 : q = 64 := by omega
            have h8 := HI.out
            have h9 := HOo.out
            rw [hq64, List.take_of_length_le (by rw [LB.out]; omega), ← HM1.out] at h8
            rw [hq64, List.take_of_length_le (by rw [LB.out]; omega), ← HM2.out] at h9
            have HI2 := Lib.hid h8
            have HO2 := Lib.hid h9
            have hq1 : ¬ (q : Int) < 64 := by omega
            have hwm : w.heap.size ≤ wm.heap.size := Nat.le_trans hwb HB.out.size
            clear h8 h9 hq64 HI HOo HCA
            go_wp2_with (at_builtin; refine wpList_appD rfl (.tmp 49) (.tmp 50) 68 rfl wm.heap.size 5 Tryd.infoB Tryd.underlying68 _ _ m1 b rfl rfl HI2.out (V1.out.below (below_size HB.out BR.out)) (by rw [HL1.out]; omega) hsz ?_; intro v51 w51 own51 gr51 ds51; have b51 := below_size HB.out (BR.out.grown gr51 hsz HI2.out.rows); have R51 := Lib.hid (R1.out.kept b51); have Q51 := Lib.hid (Q1.out.kept b51); have U51 := Lib.hid own51.bs; have O51 := Lib.hid (HO2.out.apart HA.out gr51); have s51 := Nat.le_trans hsz gr51.size; clear own51 gr51 ds51 b51 HI2 HO2 HA BR HB)
            refine (LogSum_run w0 w51 g (n) _ (m1 ++ b) d1 R51.out.self (by omega) HD1.out U51.out (by rw [List.length_append, HL1.out]; omega)).mono ?_
            intro e w52 h
            obtain ⟨he, r52⟩ := h
            subst he
            have R52 := Lib.hid (R51.out.trans r52)
            have Q52 := Lib.hid (r52.other Q51.out hgg)
            have O52 := Lib.hid (r52.own O51.out)
            have s52 := r52.size
            clear r52 R51 Q51 O51 U51
            go_wp2_with (first
              | ((with_reducible refine wpList_alloc_row (o := ⟨some 11, _, _, _, _, _⟩) rfl 23 rfl (keyC zeroKey) Tryd.zeroK ?_); intro g53 w53 n53)
              | ((with_reducible refine wpList_store_row (o := ⟨none, _, _, _, _, _⟩) rfl 23 (.tmp 11) (.tmp 52) rfl g53 23 _ (keyC d1) (by with_unfolding_all rfl) (by with_unfolding_all rfl) n53.row (keyC_same zeroKey_length LD1.out) (Tryd.sizeKey d1 LD1.out) (keyC_one d1) ?_); intro w54 p54; have b54 := (laid_put n53 p54).1; have R54 := Lib.hid (R52.out.kept b54); have Q54 := Lib.hid (Q52.out.kept b54); have O54 := Lib.hid (O52.out.below b54); have S54 := Lib.hid p54.row; have s54 := b54.size; clear n53 p54 b54 R52 Q52 O52)
              | (with_reducible refine wpList_load_row (o := ⟨some 55, _, _, _, _, _⟩) rfl 23 (.tmp 11) rfl g53 (by with_unfolding_all rfl) 23 (keyC d1) (0, 0) (.array 32 5) (by with_unfolding_all exact S54.out) Tryd.underlying23 rfl (Tryd.sizeKey d1 LD1.out) ?_))
            refine (HBY.out _).mono ?_
            intro e w55 h
            obtain ⟨u55, he, hu55, b55⟩ := h
            subst he
            have R55 := Lib.hid (R54.out.kept b55)
            have Q55 := Lib.hid (Q54.out.kept b55)
            have O55 := Lib.hid (O54.out.below b55)
            have U55 := Lib.hid hu55
            have s55 := b55.size
            clear hu55 b55 R54 Q54 O54 S54
            go_wp2_with (at_builtin; refine wpList_appD rfl (.tmp 54) (.tmp 56) 68 rfl wm.heap.size 5 Tryd.infoB Tryd.underlying68 _ _ m2 d1 rfl rfl O55.out U55.out (by rw [HL2.out, LD1.out]; omega) (by omega) ?_; intro v57 w57 own57 gr57 ds57; have R57 := Lib.hid (R55.out.app O55.out hwm gr57); have Q57 := Lib.hid (Q55.out.grown gr57 (O55.out.other Q55.out (by decide))); have U57 := Lib.hid own57.bs; clear own57 gr57 ds57 R55 Q55 O55 U55)
            refine (LogSum_run w0 w57 g (n + 1) _ (m2 ++ d1) d2 R57.out.self (by omega) HD2.out U57.out (by rw [List.length_append, HL2.out, LD1.out]; omega)).mono ?_
            intro e w58 h
            obtain ⟨he, r58⟩ := h
            subst he
            have R58 := Lib.hid (R57.out.trans r58)
            have Q58 := Lib.hid (r58.other Q57.out hgg)
            clear r58 R57 Q57 U57
            go_wp2_with ((with_reducible refine wpList_store_row (o := ⟨none, _, _, _, _, _⟩) rfl 23 (.tmp 6) (.tmp 58) rfl g6 23 _ (keyC d2) (by with_unfolding_all rfl) (by with_unfolding_all rfl) Q58.out (keyC_same zeroKey_length LD2.out) (Tryd.sizeKey d2 LD2.out) (keyC_one d2) ?_); intro w59 p59)
            refine bodyPost_ret (results_cell_row rfl _ _ g6 23 (keyC d2) (0, 0) (.array 32 5) rfl p59.row Tryd.underlying23 rfl (Tryd.sizeKey d2 LD2.out)) rfl ⟨n + 1 + 1, by omega, rfl, ?_⟩
            exact R58.out.put p59 hg6 hgg
end Go.Proofs.YtjlhmcnajgafgaaDoor
end
section
namespace Go.Proofs.YtjlhmcnajgafgaaDoor
open Go.RowKit
set_option linter.unusedVariables false
set_option maxRecDepth 20000

set_option maxHeartbeats 4000000 in
theorem refDerive_of (w0 w : World) (g n : Nat) (lab : ByteArray) (IA : Option Addr) (il ic : Nat) (key inf d : List UInt8) (hd : d = macB key (inf ++ [1])) (h : LogR w0 w g n w) (hn : n ≤ 1000000) (hk : key.length = 32) (hi : inf.length ≤ 90000)
    (hinfo : ∀ x, Below w.heap.size w x → Calls Tryd.prog 23 #[.string lab, .slice IA il ic] x (RetOwn x 5 inf)) :
    Calls Tryd.prog 17 #[.pointer (some ⟨g, 0, none⟩), .agg (keyC key), .string lab, .slice IA il ic] w fun e w' => ∃ n', n' ≤ n + 3 ∧ e = .returned (.agg (keyC d)) ∧ LogR w0 w g n' w' := by
  have HR := Lib.hid h
  have HK := Lib.hid hk
  have HIN := Lib.hid hinfo
  have hgl := h.glt
  have LD : Hid (d.length = 32) := by show _ = _; rw [hd, macB_length]
  have HBY : Hid (∀ x, Calls Tryd.prog 25 #[.agg (keyC key)] x (RetOwn x 5 key)) := fun x => refBytes_own x key HK.out
  have HMS : Hid (∀ x m' u v, LogR w0 x g m' x → m' ≤ 100000000 → Bs x u key → Bs x v (inf ++ [1]) → Calls Tryd.prog 24 #[.pointer (some ⟨g, 0, none⟩), u, v] x fun e w' => ∃ n', n' ≤ m' + 3 ∧ e = .returned (.agg (keyC d)) ∧ LogR w0 x g n' w') := fun x m' u v hr hm' hu hv => by
    rw [hd]
    exact refMacSum_any w0 x g m' u v key (inf ++ [1]) hr hm' hu (by rw [HK.out]; omega) hv (by simp; omega)
  clear h hk hinfo hd
  go_enter Tryd.func17, Tryd.ntmps17
  go_wp2_with (first
    | ((with_reducible refine wpList_box_row (o := ⟨some 5, _, _, _, _, _⟩) rfl 23 (.tmp 1) rfl (keyC key) (by with_unfolding_all rfl) ?_); intro g5 w1 n1)
    | ((with_reducible refine wpList_alloc_row (o := ⟨some 8, _, _, _, _, _⟩) rfl 23 rfl (keyC zeroKey) Tryd.zeroK ?_); intro g8 w2 n2))
  have b2 := below_size n1.below n2.below
  have R2 := Lib.hid (HR.out.kept b2)
  have Q2 := Lib.hid (n1.row.kept n2.below)
  have S2 := Lib.hid n2.row
  have h8 : w.heap.size ≤ g8 := by have := n2.spot; have := n1.below.size; omega
  have h8g : g8 ≠ g := by omega
  have B2 := Lib.hid b2
  clear n1 n2 HR b2
  refine (HIN.out _ B2.out).mono ?_
  intro e w3 h
  obtain ⟨u3, he, own3, b3⟩ := h
  subst he
  have R3 := Lib.hid (R2.out.kept b3)
  have Q3 := Lib.hid (Q2.out.kept b3)
  have S3 := Lib.hid (S2.out.kept b3)
  have O3 := Lib.hid (own3.low B2.out.size)
  have s3 := b3.size
  clear own3 b3 R2 Q2 S2 B2 HIN
  go_wp2_with (with_reducible refine wpList_load_row (o := ⟨some 14, _, _, _, _, _⟩) rfl 23 (.tmp 5) rfl g5 (by with_unfolding_all rfl) 23 (keyC key) (0, 0) (.array 32 5) (by with_unfolding_all exact Q3.out) Tryd.underlying23 rfl (Tryd.sizeKey key HK.out) ?_)
  refine (HBY.out _).mono ?_
  intro e w4 h
  obtain ⟨u4, he, own4, b4⟩ := h
  subst he
  have A4 : Hid (Apart u3 u4) := fun k hk h2 => by
    have h3 := (World.ownsRow.lt O3.out k hk).2
    have h4 := own4.rows k h2
    omega
  have R4 := Lib.hid (R3.out.kept b4)
  have S4 := Lib.hid (S3.out.kept b4)
  have O4 := Lib.hid (O3.out.below b4)
  have K4 := Lib.hid own4
  have s4 := b4.size
  have s24 := R4.out.size
  clear own4 b4 R3 Q3 S3 O3
  go_wp2_with (at_builtin; refine wpList_appD rfl (.tmp 16) (.tmp 17) 68 rfl w.heap.size 5 Tryd.infoB Tryd.underlying68 _ _ inf [1] rfl rfl (O4.out.alloc _) (Bs.lit1 _ _ _ _ rfl) (by simp; omega) (Nat.le_trans s24 ((Below.refl _ w4).alloc (Nat.le_refl _) _).size) ?_; intro v5 w5 own5 gr5 ds5; have R5 := Lib.hid ((R4.out.kept (alloc_below w4 (.cells #[.int .u8 1] 5))).app (O4.out.alloc _) (Nat.le_refl _) gr5); have S5 := Lib.hid ((S4.out.kept (alloc_below w4 (.cells #[.int .u8 1] 5))).grown gr5 ((O4.out.alloc (.cells #[.int .u8 1] 5)).other (S4.out.kept (alloc_below w4 (.cells #[.int .u8 1] 5))) (by decide))); have K5 := Lib.hid ((K4.out.alloc (.cells #[.int .u8 1] 5)).apart A4.out gr5).bs; have V5 := Lib.hid own5.bs; clear own5 gr5 ds5 R4 S4 K4 O4 A4)
  refine (HMS.out w5 n _ _ R5.out.self (by omega) K5.out V5.out).mono ?_
  intro e w6 h
  obtain ⟨n', hn', he, r6⟩ := h
  subst he
  have R6 := Lib.hid (R5.out.trans r6)
  have S6 := Lib.hid (r6.other S5.out h8g)
  clear r6 R5 S5 K5 V5
  go_wp2_with ((with_reducible refine wpList_store_row (o := ⟨none, _, _, _, _, _⟩) rfl 23 (.tmp 8) (.tmp 19) rfl g8 23 _ (keyC d) (by with_unfolding_all rfl) (by with_unfolding_all rfl) S6.out (keyC_same zeroKey_length LD.out) (Tryd.sizeKey d LD.out) (keyC_one d) ?_); intro w7 p7)
  refine bodyPost_ret (results_cell_row rfl _ _ g8 23 (keyC d) (0, 0) (.array 32 5) rfl p7.row Tryd.underlying23 rfl (Tryd.sizeKey d LD.out)) rfl ⟨n', hn', rfl, ?_⟩
  exact R6.out.put p7 h8 h8g
end Go.Proofs.YtjlhmcnajgafgaaDoor
end
section
namespace Go.Proofs.YtjlhmcnajgafgaaDoor
open Go.RowKit
set_option linter.unusedVariables false

set_option maxHeartbeats 400000 in
theorem High_own (w : World) (n s : Nat) (hn : n < 18446744073709551616) (hs1 : 1 ≤ s) (hs2 : s ≤ 8) :
    Calls Tryd.prog 16 #[.int .u64 (n : Int), .int .i64 (s : Int)] w (fun e w' => ∃ v, e = .returned v ∧ OwnB w' w.heap.size 5 v (lowB n s).reverse ∧ Below w.heap.size w w') := by
  obtain ⟨i0, hi, hz0, hz1, hz2⟩ := info_parts Tryd.infoB
  have hlen : (lowB n s).reverse.length = s := by rw [List.length_reverse, lowB_length]
  have HL := Lib.hid hlen
  clear hlen
  go_enter Tryd.func16, Tryd.ntmps16
  go_wp2_with (first
    | (go_at_call 21; refine (fits_yes _ _ (by omega) (by omega)).mono ?_; rintro e w' ⟨rfl, rfl⟩)
    | (refine wpList_make_full _ rfl (.tmp 10) (.tmp 10) 68 rfl w.heap.size 5 i0 (.int .u8 0) 1 Tryd.underlying68 hi hz0 hz1 .i64 .i64 _ _ s rfl rfl rfl rfl (by rw [hz2]; omega) (by unfold maxLen; omega) (Nat.le_refl _) ?_; intro w1 hown hgrow))
  rw [made_zeros] at hown
  have hown0 : w1.ownsRow w.heap.size 5 1 (.slice (some ⟨w.heap.size, 0, none⟩) s s) s (cellsB (partlyR (lowB n s).reverse 0)) := by
    rw [partlyR_zero, HL.out]; exact hown
  have hbel : Below w.heap.size w w1 := (Below.refl _ _).grown hgrow (Nat.le_refl _) (fun k h => by cases h)
  clear hown hgrow
  go_loopw [13] (fun i wr => ∃ k : Nat, k ≤ s ∧ i = .int .i64 k ∧ wr.ownsRow w.heap.size 5 1 (.slice (some ⟨w.heap.size, 0, none⟩) s s) s (cellsB (partlyR (lowB n s).reverse k)) ∧ Below w.heap.size w wr) (fun i _ => s - (intOf i).toNat)
  case atStart => exact ⟨0, Nat.zero_le _, rfl, hown0, hbel⟩
  case round =>
    obtain ⟨k, hk, rfl, hown, hb⟩ := hrel
    clear hown0 hbel
    by_cases hlt : k < s
    · obtain ⟨old, hcell⟩ := own_some hown (s - 1 - k) (by omega)
      have hfz := hown.frozenAt (s - 1 - k)
      have hput := own_put hown (s - 1 - k) (byteN n k)
      have hstep := partlyR_step (lowB n s).reverse k (by rw [HL.out]; omega)
      have hget : (lowB n s).reverse[(lowB n s).reverse.length - 1 - k]'(by rw [HL.out]; omega) = byteN n k := by
        rw [List.getElem_reverse]
        have e : (lowB n s).length - 1 - ((lowB n s).reverse.length - 1 - k) = k := by rw [HL.out, lowB_length]; omega
        simp only [e]
        simp [lowB]
      rw [hget, HL.out] at hstep
      rw [hstep] at hput
      have HP := Lib.hid hput
      have HG := Lib.hid hown
      have HB := Lib.hid hb
      clear hput hown hget hb hstep
      go_wp2_with (go_at_call 22; refine (byteAt_any _ n k hn (by omega)).mono ?_; rintro e w' ⟨rfl, rfl⟩)
      go_roundw
      case rel => exact ⟨k + 1, by omega, by go_num, HP.out, HB.out.setCell (by simp) _⟩
      case measure => simp [intOf]; omega
    · have hks : k = s := by omega
      subst hks
      have hown2 : wr.ownsRow w.heap.size 5 1 (.slice (some ⟨w.heap.size, 0, none⟩) k k) k (cellsB (lowB n k).reverse) := by
        have := partlyR_all (lowB n k).reverse; rw [HL.out] at this; rwa [this] at hown
      have HO := Lib.hid hown2
      have HB := Lib.hid hb
      clear hown2 hown hb
      go_wp2
      go_ret
      exact ⟨_, rfl, by unfold OwnB; rw [HL.out]; exact HO.out, HB.out⟩

end Go.Proofs.YtjlhmcnajgafgaaDoor
end
section
namespace Go.Proofs.YtjlhmcnajgafgaaDoor
open Go.RowKit
set_option linter.unusedVariables false
set_option maxRecDepth 20000

def highB4 (n : Nat) : List UInt8 := (lowB n 4).reverse
def partsL (lab : List UInt8) (ls : List (List UInt8)) : List (List UInt8) := [[UInt8.ofNat lab.length], lab] ++ ls.flatMap fun b => [highB4 b.length, b]
def infoB (lab : List UInt8) (ls : List (List UInt8)) : List UInt8 := (partsL (lab.take 255) ls).flatten
theorem partsL_next (lab : List UInt8) (ls : List (List UInt8)) (k : Nat) (h : k < ls.length) : partsL lab (ls.take (k + 1)) = partsL lab (ls.take k) ++ [highB4 ls[k].length, ls[k]] := by
  unfold partsL
  rw [List.take_succ_eq_append_getElem h, List.flatMap_append]
  simp
theorem partsL_length (lab : List UInt8) (ls : List (List UInt8)) : (partsL lab ls).length = 2 + 2 * ls.length := by
  unfold partsL
  rw [List.length_append]
  have : ∀ ls : List (List UInt8), (ls.flatMap fun b => [highB4 b.length, b]).length = 2 * ls.length := by
    intro ls
    induction ls with
    | nil => rfl
    | cons a l ih => rw [List.flatMap_cons, List.length_append, ih, List.length_cons]; simp; omega
  rw [this]
  rfl
theorem partsL_flat (lab : List UInt8) (ls : List (List UInt8)) (hl : ∀ b ∈ ls, b.length ≤ 1000) : (partsL lab ls).flatten.length ≤ 1 + lab.length + 1004 * ls.length := by
  have : ∀ ls : List (List UInt8), (∀ b ∈ ls, b.length ≤ 1000) → (ls.flatMap fun b => [highB4 b.length, b]).flatten.length ≤ 1004 * ls.length := by
    intro ls
    induction ls with
    | nil => intro _; simp
    | cons a l ih =>
      intro h
      have h1 := h a (by simp)
      have h2 := ih fun b hb => h b (by simp [hb])
      rw [List.flatMap_cons, List.flatten_append, List.length_append, List.length_cons]
      have : ([highB4 a.length, a] : List (List UInt8)).flatten.length = 4 + a.length := by simp [highB4, lowB_length]
      omega
  have := this ls hl
  unfold partsL
  rw [List.flatten_append, List.length_append]
  have e : ([[UInt8.ofNat lab.length], lab] : List (List UInt8)).flatten.length = 1 + lab.length := by simp; omega
  omega

theorem OwnSs.two (w : World) (base : Nat) (hb : base ≤ w.heap.size) (u v : Value) (a b : List UInt8) (ha : El base w u a) (hc : El base w v b) :
    OwnSs (w.alloc (.cells #[u, v] 68)) base (.slice (some ⟨w.heap.size, 0, none⟩) 2 2) [a, b] :=
  ⟨[u, v], World.ownsRow_lit (base := base) (e := 68) (size := 1) w #[u, v] 2 hb (by unfold maxLen; omega) rfl, rfl, fun j h1 h2 => by
    match j, h1 with
    | 0, _ => exact ha.below (alloc_below _ _)
    | 1, _ => exact hc.below (alloc_below _ _)⟩
/-- append of two more. -/
theorem wpList_appSs {P : Program} {w : World} {ops : Array Oper} {rest : List Oper} {o : Oper} {a : Act} {Q : Exit → Act → World → Prop} (hgd : o.guard = none) (s x : Operand) (t : TypeId)
    (ho : o.op = .call { callee := .builtin .append, args := #[s, x], argTypes := #[t, t] })
    (base : Nat) (hinfo : (P.info? 68).map (fun i => (i.zero, i.size, i.bytes)) = some (some (.slice none 0 0), 1, 24)) (ht : P.underlying t = some (.slice 68))
    (v u1 u2 : Value) (g : Nat) (ls : List (List UInt8)) (b1 b2 : List UInt8) (hs : a.eval s = v) (hx : a.eval x = .slice (some ⟨g, 0, none⟩) 2 2) (hg : RowAt w g 68 #[u1, u2])
    (hown : OwnSs w base v ls) (h1 : El base w u1 b1) (h2 : El base w u2 b2) (hlen : ls.length ≤ 1000000) (hb : base ≤ w.heap.size)
    (h : ∀ v' w', OwnSs w' base v' (ls ++ [b1, b2]) → w.grownBy w' v.ownBlock → (∀ k, v.ownBlock = some k → base ≤ k) → wpList P ops Q rest (a.put o.dst v') w') : wpList P ops Q (o :: rest) a w := by
  obtain ⟨i0, hi, hz0, hz1, hz2⟩ := info_parts hinfo
  obtain ⟨xs, hx1, hx2, hx3⟩ := hown
  refine wpList_append_own _ hgd s x t ho base 68 i0 (.slice none 0 0) 1 24 ht hi hz0 hz1 hz2 rfl (by decide) v ls.length xs hs hx1 ⟨g, 0, none⟩ 2 2 [u1, u2] hx rfl (fun j y hj => ?_) (fun y hy => ?_) (by unfold maxLen; omega) (by omega) hb ?_
  · have hj2 := (List.getElem?_eq_some_iff.1 hj).1
    have hadd : (⟨g, 0, none⟩ : Addr).add j = ⟨g, j, none⟩ := by unfold Addr.add; split <;> simp_all
    rw [hadd, hg.cell j]
    simpa using hj
  · rcases List.mem_cons.1 hy with rfl | hy
    · exact h1.1.isSlice2
    · obtain rfl : y = u2 := by simpa using hy
      exact h2.1.isSlice2
  · intro v' w' ho' hg' _
    refine h v' w' ⟨xs ++ [u1, u2], by rw [List.length_append]; exact ho', by simp [hx2], fun j a1 a2 => ?_⟩ hg' (fun k hk => (World.ownsRow.lt hx1 k hk).1)
    rcases Nat.lt_or_ge j xs.length with hlt | hge
    · rw [List.getElem_append_left hlt, List.getElem_append_left (by omega)]
      exact (hx3 j hlt (by omega)).grown hx1 hg'
    · obtain ⟨i, rfl⟩ : ∃ i, j = xs.length + i := ⟨j - xs.length, by omega⟩
      have hi2 : i < 2 := by simpa using a1
      have e1 : (xs ++ [u1, u2])[xs.length + i] = [u1, u2][i]'(by simpa using hi2) := by rw [List.getElem_append_right (by omega)]; simp
      have e2 : (ls ++ [b1, b2])[xs.length + i] = [b1, b2][i]'(by simpa using hi2) := by rw [List.getElem_append_right (by omega)]; simp [hx2]
      rw [e1, e2]
      match i, hi2 with
      | 0, _ => exact h1.grown hx1 hg'
      | 1, _ => exact h2.grown hx1 hg'

/-- '[]byte(s)'. -/
theorem bytes_el (w : World) (base : Nat) (s : ByteArray) (hs : s.size ≤ 1000) : El base (Lib.bytesWorld w 5 s) (.slice (some ⟨w.heap.size, 0, none⟩) s.size (grownCap w s.size 0 5)) s.data.toList ∧ Below w.heap.size w (Lib.bytesWorld w 5 s) := by
  have hl : s.data.toList.length = s.size := by simp
  refine ⟨⟨⟨_, grownCap w s.size 0 5, by rw [hl], by rw [hl]; exact grownCap_ge _ _ _ _, grownCap_le_maxLen _ _ _ _ (by unfold maxLen; omega), fun _ => ⟨w.heap.size, 0, rfl, fun j hj => ?_⟩⟩, fun _ b off n c hu => ?_⟩, Lib.bytesWorld_below _ _ _⟩
  · rw [Nat.zero_add, Lib.bytesWorld_cell w 5 s j (by rw [← hl]; exact hj)]
    congr 2
    rw [List.getD_eq_getElem?_getD, List.getElem?_eq_getElem hj]
    rfl
  · injection hu with e1 _ _
    injection e1 with e1
    injection e1 with e1 _ _
    subst e1
    exact .inr ⟨_, _, _, Lib.bytesWorld_at_new w 5 s, by decide⟩

set_option maxHeartbeats 4000000 in
theorem purpose_any (w : World) (lab : ByteArray) (hlab : lab.size ≤ 1000) (A : Option Addr) (c : Nat) (ls : List (List UInt8)) (hb : Bss w (.slice A ls.length c) ls) (hn : ls.length ≤ 100) (hl : ∀ b ∈ ls, b.length ≤ 1000) :
    Calls Tryd.prog 20 #[.string lab, .slice A ls.length c] w (RetBs w (infoB lab.data.toList ls)) := by
  have HB := Lib.hid hb
  have HN := Lib.hid hn
  have HL := Lib.hid hl
  clear hb hl hn
  by_cases hs : lab.size ≤ 255
  · go_enter Tryd.func20, Tryd.ntmps20
    go_wp2_with fail
    obtain ⟨s2, hs2⟩ : ∃ s, s = lab := ⟨_, rfl⟩
    obtain ⟨z, hz⟩ : ∃ z, s2.size = z := ⟨_, rfl⟩
    have hz' := hz
    rw [hs2] at hz'
    have hz2 : z ≤ 255 := by omega
    rw [hz', ← hs2]
    have hs1k : s2.size ≤ 1000 := by omega
    have HS2 := Lib.hid hs2
    clear hz' hs2
    have HZ : Hid (s2.size = z) := hz
    have hs1000 : s2.size ≤ 1000 := by omega
    clear hz hs hlab
    refine (High_own _ z 1 (by omega) (by omega) (by omega)).mono ?_
    intro e w1 h
    obtain ⟨u, he, hu, b1⟩ := h
    subst he
    have e1 : (lowB z 1).reverse = [UInt8.ofNat z] := by simp [lowB, byteN]
    rw [e1] at hu
    have E1 := Lib.hid (El.own (base := w.heap.size) hu)
    obtain ⟨UA, uc, hu2, _, _, _⟩ := hu.bs
    replace hu2 : u = .slice UA 1 uc := hu2
    subst hu2
    obtain ⟨E2, b2⟩ := bytes_el w1 w.heap.size s2 hs1000
    have hcv := Lib.run_convert_string_bytes (P := Tryd.prog) w1 9 68 5 s2 Tryd.underlying9 Tryd.underlying68 Tryd.underlying5
    obtain ⟨w2, hw2⟩ : ∃ y, y = Lib.bytesWorld w1 5 s2 := ⟨_, rfl⟩
    obtain ⟨gc, hgc⟩ : ∃ c, c = grownCap w1 s2.size 0 5 := ⟨_, rfl⟩
    rw [← hw2, ← hgc] at hcv E2
    rw [← hw2] at b2
    have HE2 := Lib.hid E2
    have HE1 := Lib.hid (E1.out.below b2)
    have B2 := Lib.hid (below_size b1 b2)
    clear hu e1 b1 b2 E2 E1 hw2 hgc
    go_wp2_with fail
    have O3 := Lib.hid (OwnSs.two w2 w.heap.size B2.out.size _ _ _ _ HE1.out HE2.out)
    have B3 := Lib.hid (below_size B2.out (alloc_below w2 (.cells #[.slice UA 1 uc, .slice (some ⟨w1.heap.size, 0, none⟩) s2.size gc] 68)))
    obtain ⟨labl, hlabl⟩ : ∃ l, l = s2.data.toList := ⟨_, rfl⟩
    have hll : labl.length = z := by rw [hlabl, ← HZ.out]; simp
    have hO3 : [[UInt8.ofNat z], s2.data.toList] = partsL labl (ls.take 0) := by rw [← hlabl]; simp [partsL, hll]
    rw [hO3] at O3
    have hres : infoB lab.data.toList ls = (partsL labl ls).flatten := by rw [hlabl, ← HS2.out, infoB, List.take_of_length_le (by have := HZ.out; simp; omega)]
    have HRES := Lib.hid hres
    have hfl := partsL_flat labl ls HL.out
    have HFL : Hid ((partsL labl ls).flatten.length ≤ 1000000000 ∧ (partsL labl ls).length ≤ 1000000000) := ⟨by have := HN.out; omega, by rw [partsL_length]; have := HN.out; omega⟩
    generalize w2.alloc (.cells #[.slice UA 1 uc, .slice (some ⟨w1.heap.size, 0, none⟩) s2.size gc] 68) = w3 at O3 B3 ⊢
    clear HE1 HE2 B2 hcv hO3 hlabl hll hres hfl hs1000 hz2
    go_loopw [5, 22] (fun v i wr => ∃ k : Nat, k ≤ ls.length ∧ i = .int .i64 k ∧ OwnSs wr w.heap.size v (partsL labl (ls.take k)) ∧ Below w.heap.size w wr) (fun _ i _ => ls.length - (intOf i).toNat)
    case atStart => exact ⟨0, Nat.zero_le _, rfl, O3.out, B3.out⟩
    case round =>
      clear O3 B3
      obtain ⟨k, hk, rfl, hO, hB⟩ := hrel
      have HO := Lib.hid hO
      have HBW := Lib.hid hB
      clear hO hB
      by_cases hlt : k < ls.length
      · obtain ⟨A', c', hv, hc1, hc2, hc3⟩ := HB.out
        injection hv with e1 e2 e3
        subst e1 e3
        obtain ⟨b, off, rfl, hcell⟩ := hc3 (by omega)
        obtain ⟨u, hcu, hbu⟩ := hcell k hlt
        have hcu2 := (HBW.out.cell (World.block_lt_of_cell? w _ hcu)).trans hcu
        have HU := Lib.hid (El.old (base := w.heap.size) hbu HBW.out (Nat.le_refl _))
        obtain ⟨UA2, uc2, rfl, q1, q2, _⟩ := hbu
        obtain ⟨bl, hbl⟩ : ∃ l, l = ls[k] := ⟨_, rfl⟩
        have hbn : bl.length ≤ 1000 := by rw [hbl]; exact HL.out _ (List.getElem_mem _)
        have hnx := partsL_next labl ls k hlt
        rw [← hbl] at hnx HU hcu2 hcu q1
        have HNX := Lib.hid hnx
        obtain ⟨m, hm⟩ : ∃ m, m = bl.length := ⟨_, rfl⟩
        have HM := Lib.hid hm
        rw [← hm] at hcu2 hbn q1 HU
        have v1 : IntKind.u64.wrap (m : Int) = (m : Int) := by rw [IntKind.wrap_u64]; omega
        unfold maxLen at q2 hc2
        clear hcell hcu hbl hnx hm hc3
        go_wp2_with fail
        refine (High_own _ m 4 (by omega) (by omega) (by omega)).mono ?_
        intro e w4 h
        obtain ⟨u4, he, hu4, b4⟩ := h
        subst he
        have HU4 := Lib.hid (El.own (base := w.heap.size) hu4)
        have HU5 := Lib.hid (HU.out.below b4)
        have HO4 := Lib.hid (HO.out.below b4)
        have B4 := Lib.hid (below_size HBW.out b4)
        obtain ⟨UA4, uc4, hv4, _, _, _⟩ := hu4.bs
        replace hv4 : u4 = .slice UA4 4 uc4 := by rw [hv4, List.length_reverse, lowB_length]
        subst hv4
        clear hu4 b4 HU HO HBW
        go_wp2_with (at_builtin; go_must (refine wpList_appSs rfl (.tmp 26) (.tmp 32) 30 rfl w.heap.size Tryd.infoS Tryd.underlying30 _ (.slice UA4 4 uc4) (.slice UA2 m uc2) w4.heap.size (partsL labl (ls.take k)) (highB4 m) bl rfl rfl (RowAt.new w4 68 _) (HO4.out.below (alloc_below _ _)) (HU4.out.below (alloc_below _ _)) (HU5.out.below (alloc_below _ _)) (by rw [partsL_length, List.length_take]; have := HN.out; omega) (by rw [World.size_alloc]; have := B4.out.size; omega) ?_); intro v6 w6 O6 g6 r6)
        have B6 := Lib.hid ((B4.out.alloc B4.out.size _).grown g6 (by rw [World.size_alloc]; have := B4.out.size; omega) r6)
        have HO6 : Hid (OwnSs w6 w.heap.size v6 (partsL labl (ls.take (k + 1)))) := by show OwnSs _ _ _ _; rw [HNX.out, ← HM.out]; exact O6
        clear O6 g6 r6 HO4 HU4 HU5 B4
        go_wp2
        go_roundw
        case rel => exact ⟨k + 1, by omega, by go_num, HO6.out, B6.out⟩
        case measure => simp [intOf]; omega
      · have hkn : k = ls.length := by omega
        have HO2 : Hid (OwnSs wr w.heap.size u5 (partsL labl ls)) := by have := HO.out; rw [hkn, List.take_of_length_le (Nat.le_refl _)] at this; exact this
        clear hkn HO
        go_wp2_with fail
        refine (Join_any wr _ _ HO2.out.bss (by have := HFL.out.1; omega) (by have := HFL.out.2; omega)).mono ?_
        intro e w7 h
        obtain ⟨u, he, hu, b7⟩ := h
        subst he
        have HU := Lib.hid hu
        have B7 := Lib.hid (below_size HBW.out b7)
        clear hu b7
        go_wp2
        go_ret
        exact ⟨u, rfl, by rw [HRES.out]; exact HU.out, B7.out⟩
  · go_enter Tryd.func20, Tryd.ntmps20
    go_wp2_with fail
    obtain ⟨z, hz1⟩ : ∃ z : Nat, z = min 255 lab.size := ⟨_, rfl⟩
    have hz2 : z ≤ 255 := by omega
    have hz3 : z = 255 := by omega
    rw [← hz1]
    obtain ⟨s2, hs2⟩ : ∃ s, s = lab.extract 0 255 := ⟨_, rfl⟩
    have hz : s2.size = z := by rw [hs2, ByteArray.size_extract]; omega
    have HS2 : Hid (s2.data.toList = lab.data.toList.take 255) := by show _ = _; rw [hs2]; simp
    rw [← hs2]
    have hs1k : s2.size ≤ 1000 := by omega
    clear hz1 hs2 hz3
    have HZ : Hid (s2.size = z) := hz
    have hs1000 : s2.size ≤ 1000 := by omega
    clear hz hs hlab
    refine (High_own _ z 1 (by omega) (by omega) (by omega)).mono ?_
    intro e w1 h
    obtain ⟨u, he, hu, b1⟩ := h
    subst he
    have e1 : (lowB z 1).reverse = [UInt8.ofNat z] := by simp [lowB, byteN]
    rw [e1] at hu
    have E1 := Lib.hid (El.own (base := w.heap.size) hu)
    obtain ⟨UA, uc, hu2, _, _, _⟩ := hu.bs
    replace hu2 : u = .slice UA 1 uc := hu2
    subst hu2
    obtain ⟨E2, b2⟩ := bytes_el w1 w.heap.size s2 hs1000
    have hcv := Lib.run_convert_string_bytes (P := Tryd.prog) w1 9 68 5 s2 Tryd.underlying9 Tryd.underlying68 Tryd.underlying5
    obtain ⟨w2, hw2⟩ : ∃ y, y = Lib.bytesWorld w1 5 s2 := ⟨_, rfl⟩
    obtain ⟨gc, hgc⟩ : ∃ c, c = grownCap w1 s2.size 0 5 := ⟨_, rfl⟩
    rw [← hw2, ← hgc] at hcv E2
    rw [← hw2] at b2
    have HE2 := Lib.hid E2
    have HE1 := Lib.hid (E1.out.below b2)
    have B2 := Lib.hid (below_size b1 b2)
    clear hu e1 b1 b2 E2 E1 hw2 hgc
    go_wp2_with fail
    have O3 := Lib.hid (OwnSs.two w2 w.heap.size B2.out.size _ _ _ _ HE1.out HE2.out)
    have B3 := Lib.hid (below_size B2.out (alloc_below w2 (.cells #[.slice UA 1 uc, .slice (some ⟨w1.heap.size, 0, none⟩) s2.size gc] 68)))
    obtain ⟨labl, hlabl⟩ : ∃ l, l = s2.data.toList := ⟨_, rfl⟩
    have hll : labl.length = z := by rw [hlabl, ← HZ.out]; simp
    have hO3 : [[UInt8.ofNat z], s2.data.toList] = partsL labl (ls.take 0) := by rw [← hlabl]; simp [partsL, hll]
    rw [hO3] at O3
    have hres : infoB lab.data.toList ls = (partsL labl ls).flatten := by rw [hlabl, HS2.out, infoB]
    have HRES := Lib.hid hres
    have hfl := partsL_flat labl ls HL.out
    have HFL : Hid ((partsL labl ls).flatten.length ≤ 1000000000 ∧ (partsL labl ls).length ≤ 1000000000) := ⟨by have := HN.out; omega, by rw [partsL_length]; have := HN.out; omega⟩
    generalize w2.alloc (.cells #[.slice UA 1 uc, .slice (some ⟨w1.heap.size, 0, none⟩) s2.size gc] 68) = w3 at O3 B3 ⊢
    clear HE1 HE2 B2 hcv hO3 hlabl hll hres hfl hs1000 hz2
    go_loopw [5, 22] (fun v i wr => ∃ k : Nat, k ≤ ls.length ∧ i = .int .i64 k ∧ OwnSs wr w.heap.size v (partsL labl (ls.take k)) ∧ Below w.heap.size w wr) (fun _ i _ => ls.length - (intOf i).toNat)
    case atStart => exact ⟨0, Nat.zero_le _, rfl, O3.out, B3.out⟩
    case round =>
      clear O3 B3
      obtain ⟨k, hk, rfl, hO, hB⟩ := hrel
      have HO := Lib.hid hO
      have HBW := Lib.hid hB
      clear hO hB
      by_cases hlt : k < ls.length
      · obtain ⟨A', c', hv, hc1, hc2, hc3⟩ := HB.out
        injection hv with e1 e2 e3
        subst e1 e3
        obtain ⟨b, off, rfl, hcell⟩ := hc3 (by omega)
        obtain ⟨u, hcu, hbu⟩ := hcell k hlt
        have hcu2 := (HBW.out.cell (World.block_lt_of_cell? w _ hcu)).trans hcu
        have HU := Lib.hid (El.old (base := w.heap.size) hbu HBW.out (Nat.le_refl _))
        obtain ⟨UA2, uc2, rfl, q1, q2, _⟩ := hbu
        obtain ⟨bl, hbl⟩ : ∃ l, l = ls[k] := ⟨_, rfl⟩
        have hbn : bl.length ≤ 1000 := by rw [hbl]; exact HL.out _ (List.getElem_mem _)
        have hnx := partsL_next labl ls k hlt
        rw [← hbl] at hnx HU hcu2 hcu q1
        have HNX := Lib.hid hnx
        obtain ⟨m, hm⟩ : ∃ m, m = bl.length := ⟨_, rfl⟩
        have HM := Lib.hid hm
        rw [← hm] at hcu2 hbn q1 HU
        have v1 : IntKind.u64.wrap (m : Int) = (m : Int) := by rw [IntKind.wrap_u64]; omega
        unfold maxLen at q2 hc2
        clear hcell hcu hbl hnx hm hc3
        go_wp2_with fail
        refine (High_own _ m 4 (by omega) (by omega) (by omega)).mono ?_
        intro e w4 h
        obtain ⟨u4, he, hu4, b4⟩ := h
        subst he
        have HU4 := Lib.hid (El.own (base := w.heap.size) hu4)
        have HU5 := Lib.hid (HU.out.below b4)
        have HO4 := Lib.hid (HO.out.below b4)
        have B4 := Lib.hid (below_size HBW.out b4)
        obtain ⟨UA4, uc4, hv4, _, _, _⟩ := hu4.bs
        replace hv4 : u4 = .slice UA4 4 uc4 := by rw [hv4, List.length_reverse, lowB_length]
        subst hv4
        clear hu4 b4 HU HO HBW
        go_wp2_with (at_builtin; go_must (refine wpList_appSs rfl (.tmp 26) (.tmp 32) 30 rfl w.heap.size Tryd.infoS Tryd.underlying30 _ (.slice UA4 4 uc4) (.slice UA2 m uc2) w4.heap.size (partsL labl (ls.take k)) (highB4 m) bl rfl rfl (RowAt.new w4 68 _) (HO4.out.below (alloc_below _ _)) (HU4.out.below (alloc_below _ _)) (HU5.out.below (alloc_below _ _)) (by rw [partsL_length, List.length_take]; have := HN.out; omega) (by rw [World.size_alloc]; have := B4.out.size; omega) ?_); intro v6 w6 O6 g6 r6)
        have B6 := Lib.hid ((B4.out.alloc B4.out.size _).grown g6 (by rw [World.size_alloc]; have := B4.out.size; omega) r6)
        have HO6 : Hid (OwnSs w6 w.heap.size v6 (partsL labl (ls.take (k + 1)))) := by show OwnSs _ _ _ _; rw [HNX.out, ← HM.out]; exact O6
        clear O6 g6 r6 HO4 HU4 HU5 B4
        go_wp2
        go_roundw
        case rel => exact ⟨k + 1, by omega, by go_num, HO6.out, B6.out⟩
        case measure => simp [intOf]; omega
      · have hkn : k = ls.length := by omega
        have HO2 : Hid (OwnSs wr w.heap.size u5 (partsL labl ls)) := by have := HO.out; rw [hkn, List.take_of_length_le (Nat.le_refl _)] at this; exact this
        clear hkn HO
        go_wp2_with fail
        refine (Join_any wr _ _ HO2.out.bss (by have := HFL.out.1; omega) (by have := HFL.out.2; omega)).mono ?_
        intro e w7 h
        obtain ⟨u, he, hu, b7⟩ := h
        subst he
        have HU := Lib.hid hu
        have B7 := Lib.hid (below_size HBW.out b7)
        clear hu b7
        go_wp2
        go_ret
        exact ⟨u, rfl, by rw [HRES.out]; exact HU.out, B7.out⟩
end Go.Proofs.YtjlhmcnajgafgaaDoor
end
