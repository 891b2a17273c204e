/-
  Contract of the document's own Digest: what it makes of bytes is their digest. Conditions: as each theorem names them.
-/
import Derived.Test.YtdojaighchgghaaDoorShaS
import Derived.Test.YtdojaighchgghaaDoorShaT
import Derived.Test.YtdojaighchgghaaDoorShaI
namespace Go.Proofs.YtdojaighchgghaaDoor
open Go.RowKit
set_option linter.unusedVariables false
set_option maxRecDepth 20000

def zb64 : List UInt8 := List.replicate 64 0
theorem zb64_length : zb64.length = 64 := by simp [zb64]
theorem Tryd.zeroB64 : (Tryd.prog.info? 24).map (·.zero) = some (some (.agg (keyC zb64))) := by kernel_rfl
def chunkB (all : List UInt8) (k : Nat) : List UInt8 := (all.drop (64 * k)).take 64
theorem chunkB_length (all : List UInt8) (k : Nat) (h : 64 * k + 64 ≤ all.length) : (chunkB all k).length = 64 := by simp [chunkB]; omega
theorem chunkB_get (all : List UInt8) (k i : Nat) (h : 64 * k + 64 ≤ all.length) (hi : i < 64) : (chunkB all k)[i]'(by rw [chunkB_length _ _ h]; exact hi) = all[64 * k + i]'(by omega) := by
  simp [chunkB]
theorem chunkB_getD (all : List UInt8) (k i : Nat) (h : 64 * k + 64 ≤ all.length) (hi : i < 64) : (chunkB all k).getD i 0 = all[64 * k + i]'(by omega) := by
  rw [← chunkB_get all k i h hi]
  simp [List.getD_eq_getElem?_getD, chunkB_length all k h, hi]
theorem partly_stepD (l : List UInt8) (k : Nat) (h : k < l.length) : (partly l k).set k (l.getD k 0) = partly l (k + 1) := by
  rw [← partly_step l k h]
  simp [List.getD_eq_getElem?_getD, h]
theorem bytesC_cellD {w : World} {g : Nat} {t : TypeId} {l : List UInt8} (h : RowAt w g t (keyC l)) (j : Nat) (hj : j < l.length) : w.cell? ⟨g, j, none⟩ = some (.int .u8 ((l.getD j 0).toNat : Int)) := by
  rw [bytesC_cell h j hj]
  simp [hj]
theorem foldB_next (all : List UInt8) (st : List UInt32) (k : Nat) : foldB st all (k + 1) = blockW (foldB st all k) (chunkB all k) := rfl
theorem bytesOfW_get (l : List UInt32) : ∀ (q r : Nat), q < l.length → r < 4 → (bytesOfW l).getD (4 * q + r) 0 = byteN (l.getD q 0).toNat (3 - r) := by
  induction l with
  | nil => intro q r h _; simp at h
  | cons x l ih =>
    intro q r hq hr
    have e : bytesOfW (x :: l) = [byteN x.toNat 3, byteN x.toNat 2, byteN x.toNat 1, byteN x.toNat 0] ++ bytesOfW l := rfl
    rw [e]
    rcases q with _ | q
    · rcases r with _ | _ | _ | _ | r
      · rfl
      · rfl
      · rfl
      · rfl
      · omega
    · have h2 := ih q r (by simpa using hq) hr
      rw [show 4 * (q + 1) + r = (4 * q + r) + 4 by omega]
      simp only [List.getD_eq_getElem?_getD] at h2 ⊢
      rw [List.getElem?_append_right (by simp), show 4 * q + r + 4 - [byteN x.toNat 3, byteN x.toNat 2, byteN x.toNat 1, byteN x.toNat 0].length = 4 * q + r by simp, h2]
      simp
theorem byte_shift (x : UInt32) (m e : Nat) (h : 2 ^ m = 256 ^ e) : IntKind.u8.wrap ((x.toNat : Int) / 2 ^ m) = ((byteN x.toNat e).toNat : Int) := by
  have h2 : (2 : Int) ^ m = ((256 ^ e : Nat) : Int) := by rw [← h]; simp
  rw [byteN_toNat, IntKind.wrap_u8, h2]
  simp
theorem shift_of (r : Nat) (hr : r < 4) : 2 ^ (24 - 8 * r) = 256 ^ (3 - r) := by
  rcases r with _ | _ | _ | _ | r
  · rfl
  · rfl
  · rfl
  · rfl
  · omega
theorem zeroKeyLit : Value.agg #[.int .u8 0, .int .u8 0, .int .u8 0, .int .u8 0, .int .u8 0, .int .u8 0, .int .u8 0, .int .u8 0, .int .u8 0, .int .u8 0, .int .u8 0, .int .u8 0, .int .u8 0, .int .u8 0, .int .u8 0, .int .u8 0, .int .u8 0, .int .u8 0, .int .u8 0, .int .u8 0, .int .u8 0, .int .u8 0, .int .u8 0, .int .u8 0, .int .u8 0, .int .u8 0, .int .u8 0, .int .u8 0, .int .u8 0, .int .u8 0, .int .u8 0, .int .u8 0] = .agg (keyC zeroKey) := by kernel_rfl
theorem Tryd.litsS : Value.agg #[.int .u32 1779033703, .int .u32 3144134277, .int .u32 1013904242, .int .u32 2773480762, .int .u32 1359893119, .int .u32 2600822924, .int .u32 528734635, .int .u32 1541459225] = .agg (wordsC squaresW) := by kernel_rfl
theorem OwnB.empty2 (w : World) (base : Nat) (e : TypeId) (h : base ≤ w.heap.size) : OwnB (w.alloc (.cells #[] e)) base e (.slice (some ⟨w.heap.size, 0, none⟩) 0 0) [] := OwnB.lit e [] #[] h rfl (by simp [maxLen])

set_option maxHeartbeats 4000000 in
theorem refDigest_any (w : World) (v : Value) (l : List UInt8) (hb : Bs w v l) (hl : l.length ≤ 1000000) :
    Calls Tryd.prog 22 #[v] w (RetV w (keyV (digestB l))) := by
  have HV := Lib.hid hb
  obtain ⟨A, c, rfl, h1, h2, h3⟩ := hb
  unfold maxLen at h2
  obtain ⟨N, hN, hN1, hN2⟩ := paddedB_blocks l
  obtain ⟨all, hall⟩ : ∃ all, all = paddedB l := ⟨_, rfl⟩
  rw [← hall] at hN
  have HN := Lib.hid hN
  have HA := Lib.hid hall
  have hpl := padB_length l.length
  obtain ⟨sn, hsn⟩ : ∃ sn, sn = foldB squaresW all N := ⟨_, rfl⟩
  have LS : Hid (sn.length = 8) := by show _ = _; rw [hsn, foldB_length _ _ _ squaresW_length]
  obtain ⟨fin, hfin⟩ : ∃ fin, fin = bytesOfW sn := ⟨_, rfl⟩
  have LF : Hid (fin.length = 32) := by show _ = _; rw [hfin, bytesOfW_length, LS.out]
  have hdig : digestB l = fin := by
    rw [hfin, hsn, digestB, ← hall, hN, Nat.mul_div_cancel_left _ (by omega)]
  rw [hdig]
  have HSN := Lib.hid hsn
  have HFIN := Lib.hid hfin
  have hpd : (padB l.length).length ≤ 72 := by omega
  clear h3 hN hall hpl hsn hfin hdig
  go_enter Tryd.func22, Tryd.ntmps22
  go_wp2_with (first
    | ((with_reducible refine wpList_alloc_row (o := ⟨some 2, _, _, _, _, _⟩) rfl 33 rfl (keyC zeroKey) Tryd.zeroK ?_); intro g2 w2 n2)
    | (at_builtin; refine wpList_appB _ rfl (.tmp 10) (.tmp 11) 27 rfl w2 5 Tryd.infoB Tryd.underlying27 _ _ [] l rfl rfl (OwnB.empty2 _ _ _ (Nat.le_refl _)) ((HV.out.below n2.below).below (alloc_below _ _)) (by simp; omega) (alloc_below _ _) ?_; intro v3 w3 own3 b3))
  refine (refPad_any _ l.length (by omega)).mono ?_
  intro e w4 h
  obtain ⟨u, he, hu, b4⟩ := h
  subst he
  have HU := Lib.hid hu
  have HO := Lib.hid (own3.below b4)
  have B4 := Lib.hid (below_size b3 b4)
  have R2 := Lib.hid ((n2.row.kept b3).kept b4)
  have N2 := Lib.hid n2
  clear own3 b3 b4 hu n2
  go_wp2_with (first
    | (at_builtin; refine wpList_appB _ rfl (.tmp 12) (.tmp 15) 27 rfl w2 5 Tryd.infoB Tryd.underlying27 _ _ ([] ++ l) (padB l.length) rfl rfl HO.out HU.out (by simp; omega) B4.out ?_; intro v5 w5 own5 b5)
    | ((with_reducible refine wpList_alloc_row (o := ⟨some 4, _, _, _, _, _⟩) rfl 23 rfl (wordsC (List.replicate 8 0)) Tryd.zero8 ?_); intro g6 w6 n6)
    | ((with_reducible refine wpList_store_row (o := ⟨none, _, _, _, _, _⟩) rfl 23 (.tmp 4) (.tmp 17) rfl g6 23 _ (wordsC squaresW) (by with_unfolding_all rfl) (by with_unfolding_all exact Tryd.litsS) n6.row (by rw [wordsC_size, wordsC_size, squaresW_length, List.length_replicate]) (Tryd.size8l squaresW squaresW_length) (wordsC_one _) ?_); intro w7 p7))
  rw [List.nil_append, show l ++ padB l.length = paddedB l from rfl, ← HA.out] at own5
  have b6 := (laid_put n6 p7).1
  have R25 : Hid (RowAt w5 g2 33 (keyC zeroKey)) := N2.out.row.kept b5
  have BW5 : Hid (Below w.heap.size w w5) := below_size N2.out.below b5
  have B57 := Lib.hid b6
  have S7 : Hid (RowAt w7 g6 23 (wordsC (foldB squaresW all 0))) := p7.row
  obtain ⟨A5, c5, rfl, m1, m2, m3⟩ := own5.bs
  have hNl := HN.out
  obtain ⟨bb, oo, rfl, hcells⟩ := m3 (by omega)
  have HC5 := Lib.hid hcells
  have ltb : bb < w5.heap.size := World.block_lt_of_cell? w5 _ (hcells 0 (by omega))
  have hg6 : w5.heap.size ≤ g6 := Nat.le_of_eq n6.spot.symm
  have hg2 : g2 < w5.heap.size := Nat.lt_of_lt_of_le N2.out.row.lt b5.size
  have hw5 : w.heap.size ≤ w5.heap.size := Nat.le_trans N2.out.below.size b5.size
  have hw2 : w.heap.size ≤ g2 := Nat.le_of_eq N2.out.spot.symm
  have hlen : all.length = 64 * N := hNl
  obtain ⟨len, hle⟩ : ∃ len, len = all.length := ⟨_, rfl⟩
  rw [← hle] at m1 ⊢
  have HLE := Lib.hid hle
  have hle2 : len = 64 * N := by omega
  have HL2 := Lib.hid hle2
  have hlb : len ≤ 1000072 := by omega
  unfold maxLen at m2
  clear b5 b6 own5 n6 p7 N2 R2 B4 HU HO m3 hcells hNl hlen hle hle2 HV
  go_loopw [5] (fun i wr => ∃ k p : Nat, p = 64 * k ∧ k ≤ N ∧ i = .int .i64 p ∧ RowAt wr g6 23 (wordsC (foldB squaresW all k)) ∧ Below w5.heap.size w5 wr) (fun i _ => 2000000 - (intOf i).toNat)
  case atStart => exact ⟨0, 0, rfl, by omega, rfl, S7.out, B57.out⟩
  case round =>
    clear S7 B57
    obtain ⟨k, p, hp, hk, rfl, hr, hb⟩ := hrel
    have R6 := Lib.hid hr
    have HB := Lib.hid hb
    have hp2 : p ≤ len := by rw [HL2.out, hp]; omega
    clear hr hb
    by_cases hlt : k < N
    · have ht : p + 64 ≤ len := by rw [HL2.out, hp]; omega
      have HP := Lib.hid hp
      have hst := foldB_length squaresW all k squaresW_length
      have hst2 := foldB_length squaresW all (k + 1) squaresW_length
      have hblk := foldB_next all squaresW k
      have hcl := chunkB_length all k (by rw [← HLE.out]; omega)
      have HCH : Hid (∀ i (hi : i < 64), ∀ W, Below w5.heap.size w5 W → W.cell? ⟨bb, oo + (p + i), none⟩ = some (.int .u8 (((chunkB all k).getD i 0).toNat : Int))) := by
        intro i hi W hW
        have hx := HC5.out (p + i) (by rw [← HLE.out]; omega)
        rw [chunkB_getD all k i (by rw [← HLE.out]; omega) hi]
        refine (hW.cell (p := ⟨bb, oo + (p + i), none⟩) ltb).trans ?_
        rw [hx]
        simp [HP.out]
      generalize chunkB all k = ch at *
      generalize hs1 : foldB squaresW all k = s1 at *
      generalize hs2 : foldB squaresW all (k + 1) = s2 at *
      have HS1 := Lib.hid hst
      have HS2 := Lib.hid hst2
      have HBK := Lib.hid hblk
      have HCL := Lib.hid hcl
      have HSS2 := Lib.hid hs2
      clear hp hst hst2 hblk hcl hs1 hs2
      go_wp2_with ((with_reducible refine wpList_alloc_row (o := ⟨some 6, _, _, _, _, _⟩) rfl 24 rfl (keyC zb64) Tryd.zeroB64 ?_); intro g8 w8 n8)
      have R68 := Lib.hid (R6.out.kept n8.below)
      have B8 := Lib.hid (below_size HB.out n8.below)
      have R88 : Hid (RowAt w8 g8 24 (keyC (partly ch 0))) := by
        have := n8.row
        rwa [show zb64 = partly ch 0 by rw [partly_zero, HCL.out]; rfl] at this
      have h68 : g6 ≠ g8 := by have := n8.spot; have := R6.out.lt; omega
      have hg8 : w5.heap.size ≤ g8 := by have := n8.spot; have := HB.out.size; omega
      clear n8 R6 HB
      go_loopw [7] (fun i wr => ∃ j : Nat, j ≤ 64 ∧ i = .int .i64 j ∧ RowAt wr g6 23 (wordsC s1) ∧ RowAt wr g8 24 (keyC (partly ch j)) ∧ Below w5.heap.size w5 wr) (fun i _ => 64 - (intOf i).toNat)
      case atStart => exact ⟨0, by omega, rfl, R68.out, R88.out, B8.out⟩
      case round =>
        clear R68 R88 B8
        rename_i k0 _ _ _ _
        obtain ⟨j, hj, rfl, hr6, hr8, hb⟩ := hrel
        have R6 := Lib.hid hr6
        have R8 := Lib.hid hr8
        have HB := Lib.hid hb
        clear hr6 hr8 hb
        by_cases hlj : j < 64
        · have hpl := partly_length ch j (by rw [HCL.out]; omega)
          have hc0 := HCH.out j hlj _ HB.out
          have hc1 := bytesC_cellD R8.out j (by rw [hpl, HCL.out]; exact hlj)
          have hfz := R8.out.frozen j
          have hput := R8.out.put j (.int .u8 ((ch.getD j 0).toNat : Int))
          rw [bytesC_put, partly_stepD ch j (by rw [HCL.out]; exact hlj)] at hput
          have HPT := Lib.hid hput
          generalize ch.getD j 0 = y at hc0 HPT
          generalize (partly ch j).getD j 0 = old at hc1
          have e1 : (p : Int) + (j : Int) < (len : Int) := by omega
          have e2 : (0 : Int) ≤ (p : Int) + (j : Int) := by omega
          have e3 : ((p : Int) + (j : Int)).toNat = p + j := by omega
          have e4 : IntKind.i64.wrap ((p : Int) + (j : Int)) = (p : Int) + (j : Int) := IntWalk.i64_in _ (by omega)
          clear hput hpl
          go_wp2_with fail
          go_roundw
          case rel => exact ⟨j + 1, by omega, by go_num, R6.out.far (by show g6 ≠ g8; exact h68) _, HPT.out, HB.out.setCell hg8 _⟩
          case measure => simp [intOf]; omega
        · have hj64 : j = 64 := by omega
          have R8b : Hid (RowAt wr g8 24 (keyC ch)) := by
            have := R8.out
            rw [hj64, show 64 = ch.length from HCL.out.symm, partly_all] at this
            exact this
          clear hj64 R8 HCH
          go_wp2_with (first
            | (with_reducible refine wpList_load_row (o := ⟨some 37, _, _, _, _, _⟩) rfl 23 (.tmp 4) rfl g6 (by with_unfolding_all rfl) 23 (wordsC s1) (0, 0) (.array 8 22) (by with_unfolding_all exact R6.out) Tryd.underlying23 rfl (Tryd.size8l s1 HS1.out) ?_)
            | (with_reducible refine wpList_load_row (o := ⟨some 38, _, _, _, _, _⟩) rfl 24 (.tmp 6) rfl g8 (by with_unfolding_all rfl) 24 (keyC ch) (0, 0) (.array 64 5) (by with_unfolding_all exact R8b.out) Tryd.underlying24 rfl (Tryd.size64b ch HCL.out) ?_))
          refine (refBlock_any _ s1 ch HS1.out HCL.out).mono ?_
          intro e w10 h
          obtain ⟨he, b10⟩ := h
          subst he
          rw [← HBK.out]
          have R6a := Lib.hid (R6.out.kept b10)
          have Ba := Lib.hid (below_size HB.out b10)
          have hg6s : w5.heap.size ≤ w10.heap.size := Ba.out.size
          clear b10 R6 HB R8b
          go_wp2_with ((with_reducible refine wpList_store_row (o := ⟨none, _, _, _, _, _⟩) rfl 23 (.tmp 4) (.tmp 39) rfl g6 23 _ (wordsC s2) (by with_unfolding_all rfl) (by with_unfolding_all rfl) R6a.out (by rw [wordsC_size, wordsC_size, HS1.out, HS2.out]) (Tryd.size8l s2 HS2.out) (wordsC_one s2) ?_); intro w11 p11)
          go_roundw
          case rel => exact ⟨k + 1, p + 64, by have := HP.out; omega, by omega, by go_num, by rw [HSS2.out]; exact p11.row, p11.below Ba.out hg6s hg6⟩
          case measure => simp [intOf]; omega
    · have hkN : k = N := by omega
      have ht : ¬ (p + 64 ≤ len) := by rw [HL2.out, hp, hkN]; omega
      have S6 : Hid (RowAt wr g6 23 (wordsC sn)) := by
        have := R6.out
        rw [hkN, ← HSN.out] at this
        exact this
      clear hp hkN R6 HC5
      go_wp2_with (first
        | ((with_reducible refine wpList_alloc_row (o := ⟨some 8, _, _, _, _, _⟩) rfl 33 rfl (keyC zeroKey) Tryd.zeroK ?_); intro g12 w12 n12)
        | ((with_reducible refine wpList_store_row (o := ⟨none, _, _, _, _, _⟩) rfl 33 (.tmp 8) (.tmp 40) rfl g12 33 _ (keyC zeroKey) (by with_unfolding_all rfl) (by with_unfolding_all exact zeroKeyLit) n12.row rfl (Tryd.sizeKey _ zeroKey_length) (keyC_one _) ?_); intro w13 p13))
      have b13 := (laid_put n12 p13).1
      have S13 := Lib.hid (S6.out.kept b13)
      have B13 := Lib.hid (below_size HB.out b13)
      have R13 : Hid (RowAt w13 g12 33 (keyC (partly fin 0))) := by
        have := p13.row
        rwa [show zeroKey = partly fin 0 by rw [partly_zero, LF.out]; rfl] at this
      have hg12 : w5.heap.size ≤ g12 := by have := n12.spot; have := HB.out.size; omega
      have h612 : g6 ≠ g12 := by have := n12.spot; have := S6.out.lt; omega
      clear n12 p13 b13 S6 HB
      go_loopw [9] (fun i wr => ∃ j : Nat, j ≤ 32 ∧ i = .int .i64 j ∧ RowAt wr g6 23 (wordsC sn) ∧ RowAt wr g12 33 (keyC (partly fin j)) ∧ Below w5.heap.size w5 wr) (fun i _ => 32 - (intOf i).toNat)
      case atStart => exact ⟨0, by omega, rfl, S13.out, R13.out, B13.out⟩
      case round =>
        clear S13 R13 B13
        rename_i k0 _ _ _ _
        obtain ⟨j, hj, rfl, hr6, hr8, hb⟩ := hrel
        have R6 := Lib.hid hr6
        have R8 := Lib.hid hr8
        have HB := Lib.hid hb
        clear hr6 hr8 hb
        by_cases hlj : j < 32
        · obtain ⟨q, r, hqr, hr⟩ : ∃ q r, j = 4 * q + r ∧ r < 4 := ⟨j / 4, j % 4, by omega, by omega⟩
          have hpl := partly_length fin j (by rw [LF.out]; omega)
          have hc0 := wordsC_cell R6.out q (by rw [LS.out]; omega)
          have hc1 := bytesC_cellD R8.out j (by rw [hpl, LF.out]; exact hlj)
          have hfz := R8.out.frozen j
          have hput := R8.out.put j (.int .u8 ((fin.getD j 0).toNat : Int))
          rw [bytesC_put, partly_stepD fin j (by rw [LF.out]; exact hlj)] at hput
          have HPT := Lib.hid hput
          obtain ⟨m, hm⟩ : ∃ m, m = 24 - 8 * r := ⟨_, rfl⟩
          have hby := byte_shift (sn.getD q 0) m (3 - r) (by rw [hm]; exact shift_of r hr)
          have hget : fin.getD j 0 = byteN (sn.getD q 0).toNat (3 - r) := by rw [HFIN.out, hqr]; exact bytesOfW_get sn q r (by rw [LS.out]; omega) hr
          rw [← hget] at hby
          generalize fin.getD j 0 = y at hby HPT
          generalize (partly fin j).getD j 0 = old at hc1
          generalize sn.getD q 0 = x at hc0 hby
          have hx := x.toNat_lt
          have d1 : (j : Int) / 4 = (q : Int) := by omega
          have d2 : (j : Int) % 4 = (r : Int) := by omega
          have d3 : 24 - 8 * (r : Int) = (m : Int) := by omega
          have d4 : Int.tdiv (j : Int) 4 = (q : Int) := by rw [Int.tdiv_eq_ediv_of_nonneg (by omega)]; omega
          have d5 : Int.tmod (j : Int) 4 = (r : Int) := by rw [Int.tmod_eq_emod_of_nonneg (by omega)]; omega
          have hq8 : (q : Int) < 8 := by omega
          have hm24 : m ≤ 24 := by omega
          clear hput hpl hqr hm hget
          go_wp2_with fail
          go_roundw
          case rel => exact ⟨j + 1, by omega, by go_num, R6.out.far (by show g6 ≠ g12; exact h612) _, HPT.out, HB.out.setCell hg12 _⟩
          case measure => simp [intOf]; omega
        · have hj32 : j = 32 := by omega
          have R8b : Hid (RowAt wr g12 33 (keyC fin)) := by
            have := R8.out
            rw [hj32, show 32 = fin.length from LF.out.symm, partly_all] at this
            exact this
          have R2 : Hid (RowAt wr g2 33 (keyC zeroKey)) := R25.out.kept HB.out
          have BX : Hid (Below w.heap.size w wr) := below_size BW5.out HB.out
          have hsz : w.heap.size ≤ wr.heap.size := BX.out.size
          clear hj32 R8 R25 BW5 HB R6
          go_wp2_with (first
            | (with_reducible refine wpList_load_row (o := ⟨some 57, _, _, _, _, _⟩) rfl 33 (.tmp 8) rfl g12 (by with_unfolding_all rfl) 33 (keyC fin) (0, 0) (.array 32 5) (by with_unfolding_all exact R8b.out) Tryd.underlying33 rfl (Tryd.sizeKey fin LF.out) ?_)
            | ((with_reducible refine wpList_store_row (o := ⟨none, _, _, _, _, _⟩) rfl 33 (.tmp 2) (.tmp 57) rfl g2 33 _ (keyC fin) (by with_unfolding_all rfl) (by with_unfolding_all rfl) R2.out (keyC_same zeroKey_length LF.out) (Tryd.sizeKey fin LF.out) (keyC_one fin) ?_); intro w9 p9))
          refine bodyPost_ret (results_cell_row rfl _ _ g2 33 (keyC fin) (0, 0) (.array 32 5) rfl p9.row Tryd.underlying33 rfl (Tryd.sizeKey fin LF.out)) rfl ⟨rfl, ?_⟩
          exact p9.below BX.out hsz hw2
end Go.Proofs.YtdojaighchgghaaDoor
