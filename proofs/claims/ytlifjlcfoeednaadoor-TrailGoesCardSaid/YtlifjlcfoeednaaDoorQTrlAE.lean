/-
  Texts that belong together, merged: ShaU, E, MacA, Locks, ShaV, Ss, MacB, MacD, AppD. Conditions: as each theorem names them.
-/
import Derived.Test.YtlifjlcfoeednaaDoorQTrlAC
import Derived.Test.YtlifjlcfoeednaaDoorQTrlAD
import Derived.Test.YtlifjlcfoeednaaDoorQTrlAA
import Derived.Deep.RegionLaw
import Derived.Test.YtlifjlcfoeednaaDoorProg
import Derived.Conc.MuLone
import Derived.Conc.MuData
import Derived.KernelRfl
import Derived.Defers
import Derived.Deep.AppendLies
import Derived.Lib.AtoiErrMem
import Derived.Deep.DeepMust
import Derived.Lib.AppendZerosOnto
section
namespace Go.Proofs.YtlifjlcfoeednaaDoor
open Go.RowKit
set_option linter.unusedVariables false
set_option maxRecDepth 20000

def zb64 : List UInt8 := List.replicate 64 0
theorem zb64_length : zb64.length = 64 := by simp [zb64]
theorem Tryd.zeroB64 : (Tryd.prog.info? 96).map (·.zero) = some (some (.agg (keyC zb64))) := by kernel_rfl
def chunkB (all : List UInt8) (k : Nat) : List UInt8 := (all.drop (64 * k)).take 64
theorem chunkB_length (all : List UInt8) (k : Nat) (h : 64 * k + 64 ≤ all.length) : (chunkB all k).length = 64 := by simp [chunkB]; omega
theorem chunkB_get (all : List UInt8) (k i : Nat) (h : 64 * k + 64 ≤ all.length) (hi : i < 64) : (chunkB all k)[i]'(by rw [chunkB_length _ _ h]; exact hi) = all[64 * k + i]'(by omega) := by
  simp [chunkB]
theorem chunkB_getD (all : List UInt8) (k i : Nat) (h : 64 * k + 64 ≤ all.length) (hi : i < 64) : (chunkB all k).getD i 0 = all[64 * k + i]'(by omega) := by
  rw [← chunkB_get all k i h hi]
  simp [List.getD_eq_getElem?_getD, chunkB_length all k h, hi]
theorem partly_stepD (l : List UInt8) (k : Nat) (h : k < l.length) : (partly l k).set k (l.getD k 0) = partly l (k + 1) := by
  rw [← partly_step l k h]
  simp [List.getD_eq_getElem?_getD, h]
theorem bytesC_cellD {w : World} {g : Nat} {t : TypeId} {l : List UInt8} (h : RowAt w g t (keyC l)) (j : Nat) (hj : j < l.length) : w.cell? ⟨g, j, none⟩ = some (.int .u8 ((l.getD j 0).toNat : Int)) := by
  rw [bytesC_cell h j hj]
  simp [hj]
theorem foldB_next (all : List UInt8) (st : List UInt32) (k : Nat) : foldB st all (k + 1) = blockW (foldB st all k) (chunkB all k) := rfl
theorem bytesOfW_get (l : List UInt32) : ∀ (q r : Nat), q < l.length → r < 4 → (bytesOfW l).getD (4 * q + r) 0 = byteN (l.getD q 0).toNat (3 - r) := by
  induction l with
  | nil => intro q r h _; simp at h
  | cons x l ih =>
    intro q r hq hr
    have e : bytesOfW (x :: l) = [byteN x.toNat 3, byteN x.toNat 2, byteN x.toNat 1, byteN x.toNat 0] ++ bytesOfW l := rfl
    rw [e]
    rcases q with _ | q
    · rcases r with _ | _ | _ | _ | r
      · rfl
      · rfl
      · rfl
      · rfl
      · omega
    · have h2 := ih q r (by simpa using hq) hr
      rw [show 4 * (q + 1) + r = (4 * q + r) + 4 by omega]
      simp only [List.getD_eq_getElem?_getD] at h2 ⊢
      rw [List.getElem?_append_right (by simp), show 4 * q + r + 4 - [byteN x.toNat 3, byteN x.toNat 2, byteN x.toNat 1, byteN x.toNat 0].length = 4 * q + r by simp, h2]
      simp
theorem byte_shift (x : UInt32) (m e : Nat) (h : 2 ^ m = 256 ^ e) : IntKind.u8.wrap ((x.toNat : Int) / 2 ^ m) = ((byteN x.toNat e).toNat : Int) := by
  have h2 : (2 : Int) ^ m = ((256 ^ e : Nat) : Int) := by rw [← h]; simp
  rw [byteN_toNat, IntKind.wrap_u8, h2]
  simp
theorem shift_of (r : Nat) (hr : r < 4) : 2 ^ (24 - 8 * r) = 256 ^ (3 - r) := by
  rcases r with _ | _ | _ | _ | r
  · rfl
  · rfl
  · rfl
  · rfl
  · omega
theorem zeroKeyLit : Value.agg #[.int .u8 0, .int .u8 0, .int .u8 0, .int .u8 0, .int .u8 0, .int .u8 0, .int .u8 0, .int .u8 0, .int .u8 0, .int .u8 0, .int .u8 0, .int .u8 0, .int .u8 0, .int .u8 0, .int .u8 0, .int .u8 0, .int .u8 0, .int .u8 0, .int .u8 0, .int .u8 0, .int .u8 0, .int .u8 0, .int .u8 0, .int .u8 0, .int .u8 0, .int .u8 0, .int .u8 0, .int .u8 0, .int .u8 0, .int .u8 0, .int .u8 0, .int .u8 0] = .agg (keyC zeroKey) := by kernel_rfl
theorem Tryd.litsS : Value.agg #[.int .u32 1779033703, .int .u32 3144134277, .int .u32 1013904242, .int .u32 2773480762, .int .u32 1359893119, .int .u32 2600822924, .int .u32 528734635, .int .u32 1541459225] = .agg (wordsC squaresW) := by kernel_rfl
theorem OwnB.empty2 (w : World) (base : Nat) (e : TypeId) (h : base ≤ w.heap.size) : OwnB (w.alloc (.cells #[] e)) base e (.slice (some ⟨w.heap.size, 0, none⟩) 0 0) [] := OwnB.lit e [] #[] h rfl (by simp [maxLen])

set_option maxHeartbeats 4000000 in
theorem refDigest_any (w : World) (v : Value) (l : List UInt8) (hb : Bs w v l) (hl : l.length ≤ 140737488352000) :
    Calls Tryd.prog 36 #[v] w (RetV w (keyV (digestB l))) := by
  have HV := Lib.hid hb
  obtain ⟨A, c, rfl, h1, h2, h3⟩ := hb
  unfold maxLen at h2
  obtain ⟨N, hN, hN1, hN2⟩ := paddedB_blocks l
  obtain ⟨all, hall⟩ : ∃ all, all = paddedB l := ⟨_, rfl⟩
  rw [← hall] at hN
  have HN := Lib.hid hN
  have HA := Lib.hid hall
  have hpl := padB_length l.length
  obtain ⟨sn, hsn⟩ : ∃ sn, sn = foldB squaresW all N := ⟨_, rfl⟩
  have LS : Hid (sn.length = 8) := by show _ = _; rw [hsn, foldB_length _ _ _ squaresW_length]
  obtain ⟨fin, hfin⟩ : ∃ fin, fin = bytesOfW sn := ⟨_, rfl⟩
  have LF : Hid (fin.length = 32) := by show _ = _; rw [hfin, bytesOfW_length, LS.out]
  have hdig : digestB l = fin := by
    rw [hfin, hsn, digestB, ← hall, hN, Nat.mul_div_cancel_left _ (by omega)]
  rw [hdig]
  have HSN := Lib.hid hsn
  have HFIN := Lib.hid hfin
  have hpd : (padB l.length).length ≤ 72 := by omega
  clear h3 hN hall hpl hsn hfin hdig
  go_enter Tryd.func36, Tryd.ntmps36
  go_wp2_with (first
    | ((with_reducible refine wpList_alloc_row (o := ⟨some 2, _, _, _, _, _⟩) rfl 24 rfl (keyC zeroKey) Tryd.zeroK ?_); intro g2 w2 n2)
    | (at_builtin; refine wpList_appB _ rfl (.tmp 10) (.tmp 11) 22 rfl w2 5 Tryd.infoB Tryd.underlying22 _ _ [] l rfl rfl (OwnB.empty2 _ _ _ (Nat.le_refl _)) ((HV.out.below n2.below).below (alloc_below _ _)) (by simp; omega) (alloc_below _ _) ?_; intro v3 w3 own3 b3))
  refine (refPad_any _ l.length (by omega)).mono ?_
  intro e w4 h
  obtain ⟨u, he, hu, b4⟩ := h
  subst he
  have HU := Lib.hid hu
  have HO := Lib.hid (own3.below b4)
  have B4 := Lib.hid (below_size b3 b4)
  have R2 := Lib.hid ((n2.row.kept b3).kept b4)
  have N2 := Lib.hid n2
  clear own3 b3 b4 hu n2
  go_wp2_with (first
    | (at_builtin; refine wpList_appB _ rfl (.tmp 12) (.tmp 15) 22 rfl w2 5 Tryd.infoB Tryd.underlying22 _ _ ([] ++ l) (padB l.length) rfl rfl HO.out HU.out (by simp; omega) B4.out ?_; intro v5 w5 own5 b5)
    | ((with_reducible refine wpList_alloc_row (o := ⟨some 4, _, _, _, _, _⟩) rfl 90 rfl (wordsC (List.replicate 8 0)) Tryd.zero8 ?_); intro g6 w6 n6)
    | ((with_reducible refine wpList_store_row (o := ⟨none, _, _, _, _, _⟩) rfl 90 (.tmp 4) (.tmp 17) rfl g6 90 _ (wordsC squaresW) (by with_unfolding_all rfl) (by with_unfolding_all exact Tryd.litsS) n6.row (by rw [wordsC_size, wordsC_size, squaresW_length, List.length_replicate]) (Tryd.size8l squaresW squaresW_length) (wordsC_one _) ?_); intro w7 p7))
  rw [List.nil_append, show l ++ padB l.length = paddedB l from rfl, ← HA.out] at own5
  have b6 := (laid_put n6 p7).1
  have R25 : Hid (RowAt w5 g2 24 (keyC zeroKey)) := N2.out.row.kept b5
  have BW5 : Hid (Below w.heap.size w w5) := below_size N2.out.below b5
  have B57 := Lib.hid b6
  have S7 : Hid (RowAt w7 g6 90 (wordsC (foldB squaresW all 0))) := p7.row
  obtain ⟨A5, c5, rfl, m1, m2, m3⟩ := own5.bs
  have hNl := HN.out
  obtain ⟨bb, oo, rfl, hcells⟩ := m3 (by omega)
  have HC5 := Lib.hid hcells
  have ltb : bb < w5.heap.size := World.block_lt_of_cell? w5 _ (hcells 0 (by omega))
  have hg6 : w5.heap.size ≤ g6 := Nat.le_of_eq n6.spot.symm
  have hg2 : g2 < w5.heap.size := Nat.lt_of_lt_of_le N2.out.row.lt b5.size
  have hw5 : w.heap.size ≤ w5.heap.size := Nat.le_trans N2.out.below.size b5.size
  have hw2 : w.heap.size ≤ g2 := Nat.le_of_eq N2.out.spot.symm
  have hlen : all.length = 64 * N := hNl
  obtain ⟨len, hle⟩ : ∃ len, len = all.length := ⟨_, rfl⟩
  rw [← hle] at m1 ⊢
  have HLE := Lib.hid hle
  have hle2 : len = 64 * N := by omega
  have HL2 := Lib.hid hle2
  have hlb : len ≤ 140737488352072 := by omega
  unfold maxLen at m2
  clear b5 b6 own5 n6 p7 N2 R2 B4 HU HO m3 hcells hNl hlen hle hle2 HV
  go_loopw [5] (fun i wr => ∃ k p : Nat, p = 64 * k ∧ k ≤ N ∧ i = .int .i64 p ∧ RowAt wr g6 90 (wordsC (foldB squaresW all k)) ∧ Below w5.heap.size w5 wr) (fun i _ => 200000000000000 - (intOf i).toNat)
  case atStart => exact ⟨0, 0, rfl, by omega, rfl, S7.out, B57.out⟩
  case round =>
    clear S7 B57
    obtain ⟨k, p, hp, hk, rfl, hr, hb⟩ := hrel
    have R6 := Lib.hid hr
    have HB := Lib.hid hb
    have hp2 : p ≤ len := by rw [HL2.out, hp]; omega
    clear hr hb
    by_cases hlt : k < N
    · have ht : p + 64 ≤ len := by rw [HL2.out, hp]; omega
      have HP := Lib.hid hp
      have hst := foldB_length squaresW all k squaresW_length
      have hst2 := foldB_length squaresW all (k + 1) squaresW_length
      have hblk := foldB_next all squaresW k
      have hcl := chunkB_length all k (by rw [← HLE.out]; omega)
      have HCH : Hid (∀ i (hi : i < 64), ∀ W, Below w5.heap.size w5 W → W.cell? ⟨bb, oo + (p + i), none⟩ = some (.int .u8 (((chunkB all k).getD i 0).toNat : Int))) := by
        intro i hi W hW
        have hx := HC5.out (p + i) (by rw [← HLE.out]; omega)
        rw [chunkB_getD all k i (by rw [← HLE.out]; omega) hi]
        refine (hW.cell (p := ⟨bb, oo + (p + i), none⟩) ltb).trans ?_
        rw [hx]
        simp [HP.out]
      generalize chunkB all k = ch at *
      generalize hs1 : foldB squaresW all k = s1 at *
      generalize hs2 : foldB squaresW all (k + 1) = s2 at *
      have HS1 := Lib.hid hst
      have HS2 := Lib.hid hst2
      have HBK := Lib.hid hblk
      have HCL := Lib.hid hcl
      have HSS2 := Lib.hid hs2
      clear hp hst hst2 hblk hcl hs1 hs2
      go_wp2_with ((with_reducible refine wpList_alloc_row (o := ⟨some 6, _, _, _, _, _⟩) rfl 96 rfl (keyC zb64) Tryd.zeroB64 ?_); intro g8 w8 n8)
      have R68 := Lib.hid (R6.out.kept n8.below)
      have B8 := Lib.hid (below_size HB.out n8.below)
      have R88 : Hid (RowAt w8 g8 96 (keyC (partly ch 0))) := by
        have := n8.row
        rwa [show zb64 = partly ch 0 by rw [partly_zero, HCL.out]; rfl] at this
      have h68 : g6 ≠ g8 := by have := n8.spot; have := R6.out.lt; omega
      have hg8 : w5.heap.size ≤ g8 := by have := n8.spot; have := HB.out.size; omega
      clear n8 R6 HB
      go_loopw [7] (fun i wr => ∃ j : Nat, j ≤ 64 ∧ i = .int .i64 j ∧ RowAt wr g6 90 (wordsC s1) ∧ RowAt wr g8 96 (keyC (partly ch j)) ∧ Below w5.heap.size w5 wr) (fun i _ => 64 - (intOf i).toNat)
      case atStart => exact ⟨0, by omega, rfl, R68.out, R88.out, B8.out⟩
      case round =>
        clear R68 R88 B8
        rename_i k0 _ _ _ _
        obtain ⟨j, hj, rfl, hr6, hr8, hb⟩ := hrel
        have R6 := Lib.hid hr6
        have R8 := Lib.hid hr8
        have HB := Lib.hid hb
        clear hr6 hr8 hb
        by_cases hlj : j < 64
        · have hpl := partly_length ch j (by rw [HCL.out]; omega)
          have hc0 := HCH.out j hlj _ HB.out
          have hc1 := bytesC_cellD R8.out j (by rw [hpl, HCL.out]; exact hlj)
          have hfz := R8.out.frozen j
          have hput := R8.out.put j (.int .u8 ((ch.getD j 0).toNat : Int))
          rw [bytesC_put, partly_stepD ch j (by rw [HCL.out]; exact hlj)] at hput
          have HPT := Lib.hid hput
          generalize ch.getD j 0 = y at hc0 HPT
          generalize (partly ch j).getD j 0 = old at hc1
          have e1 : (p : Int) + (j : Int) < (len : Int) := by omega
          have e2 : (0 : Int) ≤ (p : Int) + (j : Int) := by omega
          have e3 : ((p : Int) + (j : Int)).toNat = p + j := by omega
          have e4 : IntKind.i64.wrap ((p : Int) + (j : Int)) = (p : Int) + (j : Int) := IntWalk.i64_in _ (by omega)
          clear hput hpl
          go_wp2_with fail
          go_roundw
          case rel => exact ⟨j + 1, by omega, by go_num, R6.out.far (by show g6 ≠ g8; exact h68) _, HPT.out, HB.out.setCell hg8 _⟩
          case measure => simp [intOf]; omega
        · have hj64 : j = 64 := by omega
          have R8b : Hid (RowAt wr g8 96 (keyC ch)) := by
            have := R8.out
            rw [hj64, show 64 = ch.length from HCL.out.symm, partly_all] at this
            exact this
          clear hj64 R8 HCH
          go_wp2_with (first
            | (with_reducible refine wpList_load_row (o := ⟨some 37, _, _, _, _, _⟩) rfl 90 (.tmp 4) rfl g6 (by with_unfolding_all rfl) 90 (wordsC s1) (0, 0) (.array 8 25) (by with_unfolding_all exact R6.out) Tryd.underlying90 rfl (Tryd.size8l s1 HS1.out) ?_)
            | (with_reducible refine wpList_load_row (o := ⟨some 38, _, _, _, _, _⟩) rfl 96 (.tmp 6) rfl g8 (by with_unfolding_all rfl) 96 (keyC ch) (0, 0) (.array 64 5) (by with_unfolding_all exact R8b.out) Tryd.underlying96 rfl (Tryd.size64b ch HCL.out) ?_))
          refine (refBlock_any _ s1 ch HS1.out HCL.out).mono ?_
          intro e w10 h
          obtain ⟨he, b10⟩ := h
          subst he
          rw [← HBK.out]
          have R6a := Lib.hid (R6.out.kept b10)
          have Ba := Lib.hid (below_size HB.out b10)
          have hg6s : w5.heap.size ≤ w10.heap.size := Ba.out.size
          clear b10 R6 HB R8b
          go_wp2_with ((with_reducible refine wpList_store_row (o := ⟨none, _, _, _, _, _⟩) rfl 90 (.tmp 4) (.tmp 39) rfl g6 90 _ (wordsC s2) (by with_unfolding_all rfl) (by with_unfolding_all rfl) R6a.out (by rw [wordsC_size, wordsC_size, HS1.out, HS2.out]) (Tryd.size8l s2 HS2.out) (wordsC_one s2) ?_); intro w11 p11)
          go_roundw
          case rel => exact ⟨k + 1, p + 64, by have := HP.out; omega, by omega, by go_num, by rw [HSS2.out]; exact p11.row, p11.below Ba.out hg6s hg6⟩
          case measure => simp [intOf]; omega
    · have hkN : k = N := by omega
      have ht : ¬ (p + 64 ≤ len) := by rw [HL2.out, hp, hkN]; omega
      have S6 : Hid (RowAt wr g6 90 (wordsC sn)) := by
        have := R6.out
        rw [hkN, ← HSN.out] at this
        exact this
      clear hp hkN R6 HC5
      go_wp2_with (first
        | ((with_reducible refine wpList_alloc_row (o := ⟨some 8, _, _, _, _, _⟩) rfl 24 rfl (keyC zeroKey) Tryd.zeroK ?_); intro g12 w12 n12)
        | ((with_reducible refine wpList_store_row (o := ⟨none, _, _, _, _, _⟩) rfl 24 (.tmp 8) (.tmp 40) rfl g12 24 _ (keyC zeroKey) (by with_unfolding_all rfl) (by with_unfolding_all exact zeroKeyLit) n12.row rfl (Tryd.sizeKey _ zeroKey_length) (keyC_one _) ?_); intro w13 p13))
      have b13 := (laid_put n12 p13).1
      have S13 := Lib.hid (S6.out.kept b13)
      have B13 := Lib.hid (below_size HB.out b13)
      have R13 : Hid (RowAt w13 g12 24 (keyC (partly fin 0))) := by
        have := p13.row
        rwa [show zeroKey = partly fin 0 by rw [partly_zero, LF.out]; rfl] at this
      have hg12 : w5.heap.size ≤ g12 := by have := n12.spot; have := HB.out.size; omega
      have h612 : g6 ≠ g12 := by have := n12.spot; have := S6.out.lt; omega
      clear n12 p13 b13 S6 HB
      go_loopw [9] (fun i wr => ∃ j : Nat, j ≤ 32 ∧ i = .int .i64 j ∧ RowAt wr g6 90 (wordsC sn) ∧ RowAt wr g12 24 (keyC (partly fin j)) ∧ Below w5.heap.size w5 wr) (fun i _ => 32 - (intOf i).toNat)
      case atStart => exact ⟨0, by omega, rfl, S13.out, R13.out, B13.out⟩
      case round =>
        clear S13 R13 B13
        rename_i k0 _ _ _ _
        obtain ⟨j, hj, rfl, hr6, hr8, hb⟩ := hrel
        have R6 := Lib.hid hr6
        have R8 := Lib.hid hr8
        have HB := Lib.hid hb
        clear hr6 hr8 hb
        by_cases hlj : j < 32
        · obtain ⟨q, r, hqr, hr⟩ : ∃ q r, j = 4 * q + r ∧ r < 4 := ⟨j / 4, j % 4, by omega, by omega⟩
          have hpl := partly_length fin j (by rw [LF.out]; omega)
          have hc0 := wordsC_cell R6.out q (by rw [LS.out]; omega)
          have hc1 := bytesC_cellD R8.out j (by rw [hpl, LF.out]; exact hlj)
          have hfz := R8.out.frozen j
          have hput := R8.out.put j (.int .u8 ((fin.getD j 0).toNat : Int))
          rw [bytesC_put, partly_stepD fin j (by rw [LF.out]; exact hlj)] at hput
          have HPT := Lib.hid hput
          obtain ⟨m, hm⟩ : ∃ m, m = 24 - 8 * r := ⟨_, rfl⟩
          have hby := byte_shift (sn.getD q 0) m (3 - r) (by rw [hm]; exact shift_of r hr)
          have hget : fin.getD j 0 = byteN (sn.getD q 0).toNat (3 - r) := by rw [HFIN.out, hqr]; exact bytesOfW_get sn q r (by rw [LS.out]; omega) hr
          rw [← hget] at hby
          generalize fin.getD j 0 = y at hby HPT
          generalize (partly fin j).getD j 0 = old at hc1
          generalize sn.getD q 0 = x at hc0 hby
          have hx := x.toNat_lt
          have d1 : (j : Int) / 4 = (q : Int) := by omega
          have d2 : (j : Int) % 4 = (r : Int) := by omega
          have d3 : 24 - 8 * (r : Int) = (m : Int) := by omega
          have d4 : Int.tdiv (j : Int) 4 = (q : Int) := by rw [Int.tdiv_eq_ediv_of_nonneg (by omega)]; omega
          have d5 : Int.tmod (j : Int) 4 = (r : Int) := by rw [Int.tmod_eq_emod_of_nonneg (by omega)]; omega
          have hq8 : (q : Int) < 8 := by omega
          have hm24 : m ≤ 24 := by omega
          clear hput hpl hqr hm hget
          go_wp2_with fail
          go_roundw
          case rel => exact ⟨j + 1, by omega, by go_num, R6.out.far (by show g6 ≠ g12; exact h612) _, HPT.out, HB.out.setCell hg12 _⟩
          case measure => simp [intOf]; omega
        · have hj32 : j = 32 := by omega
          have R8b : Hid (RowAt wr g12 24 (keyC fin)) := by
            have := R8.out
            rw [hj32, show 32 = fin.length from LF.out.symm, partly_all] at this
            exact this
          have R2 : Hid (RowAt wr g2 24 (keyC zeroKey)) := R25.out.kept HB.out
          have BX : Hid (Below w.heap.size w wr) := below_size BW5.out HB.out
          have hsz : w.heap.size ≤ wr.heap.size := BX.out.size
          clear hj32 R8 R25 BW5 HB R6
          go_wp2_with (first
            | (with_reducible refine wpList_load_row (o := ⟨some 57, _, _, _, _, _⟩) rfl 24 (.tmp 8) rfl g12 (by with_unfolding_all rfl) 24 (keyC fin) (0, 0) (.array 32 5) (by with_unfolding_all exact R8b.out) Tryd.underlying24 rfl (Tryd.sizeKey fin LF.out) ?_)
            | ((with_reducible refine wpList_store_row (o := ⟨none, _, _, _, _, _⟩) rfl 24 (.tmp 2) (.tmp 57) rfl g2 24 _ (keyC fin) (by with_unfolding_all rfl) (by with_unfolding_all rfl) R2.out (keyC_same zeroKey_length LF.out) (Tryd.sizeKey fin LF.out) (keyC_one fin) ?_); intro w9 p9))
          refine bodyPost_ret (results_cell_row rfl _ _ g2 24 (keyC fin) (0, 0) (.array 32 5) rfl p9.row Tryd.underlying24 rfl (Tryd.sizeKey fin LF.out)) rfl ⟨rfl, ?_⟩
          exact p9.below BX.out hsz hw2
end Go.Proofs.YtlifjlcfoeednaaDoor
end
section
namespace Go.Proofs.YtlifjlcfoeednaaDoor
open Go.RowKit
set_option linter.unusedVariables false
set_option maxRecDepth 20000

theorem xor_byte (a b : UInt8) : bits .xor .u8 (a.toNat : Int) (b.toNat : Int) = ((a ^^^ b).toNat : Int) := by
  rw [u8_xor_nat _ _ a.toNat_lt b.toNat_lt, UInt8.toNat_xor]
theorem or_byte (a b : UInt8) : bits .or .u8 (a.toNat : Int) (b.toNat : Int) = ((a ||| b).toNat : Int) := by
  rw [u8_or_nat _ _ a.toNat_lt b.toNat_lt, UInt8.toNat_or]


theorem xorB_take (a b : List UInt8) (k : Nat) (ha : k < a.length) (hb : k < b.length) : (xorB a b).take (k + 1) = (xorB a b).take k ++ [a[k] ^^^ b[k]] := by
  have h : k < (xorB a b).length := by rw [xorB_length]; omega
  rw [List.take_succ_eq_append_getElem h, xorB_get a b k h ha hb]


/-- What is gathered of the differences of the first k places (0 stands for what is not there). -/
def gathered (a b : List UInt8) : Nat → UInt8
  | 0 => 0
  | k + 1 => gathered a b k ||| (a.getD k 0 ^^^ b.getD k 0)
theorem or_eq_zero (x y : UInt8) : x ||| y = 0 ↔ x = 0 ∧ y = 0 := by
  constructor
  · intro h
    have h1 : x.toNat ||| y.toNat = 0 := by rw [← UInt8.toNat_or, h]; rfl
    have h2 := Nat.or_eq_zero_iff.1 h1
    exact ⟨UInt8.toNat_inj.1 (by simpa using h2.1), UInt8.toNat_inj.1 (by simpa using h2.2)⟩
  · rintro ⟨rfl, rfl⟩; rfl
theorem xor_eq_zero (x y : UInt8) : x ^^^ y = 0 ↔ x = y := UInt8.xor_eq_zero_iff
theorem gathered_zero (a b : List UInt8) (k : Nat) : gathered a b k = 0 ↔ ∀ j, j < k → a.getD j 0 = b.getD j 0 := by
  induction k with
  | zero => simp [gathered]
  | succ k ih =>
    rw [gathered, or_eq_zero, ih, xor_eq_zero]
    constructor
    · rintro ⟨h1, h2⟩ j hj
      rcases Nat.lt_succ_iff_lt_or_eq.1 hj with h | h
      · exact h1 j h
      · rw [h]; exact h2
    · intro h
      exact ⟨fun j hj => h j (by omega), h k (by omega)⟩
theorem gathered_same (a b : List UInt8) (hl : a.length = b.length) : gathered a b (max a.length b.length) = 0 ↔ a = b := by
  rw [gathered_zero]
  constructor
  · intro h
    apply List.ext_getElem hl
    intro j h1 h2
    have := h j (by omega)
    simpa [List.getD_eq_getElem?_getD, h1, h2] using this
  · rintro rfl j _
    rfl


end Go.Proofs.YtlifjlcfoeednaaDoor
end
section
namespace Go.Proofs.YtlifjlcfoeednaaDoor
open Go.RowKit
set_option linter.unusedVariables false
set_option maxRecDepth 20000

def blockK (key : List UInt8) : List UInt8 := fillB (if 64 < key.length then digestB key else key) 64
def mixB (block : List UInt8) (x : UInt8) : List UInt8 := block.map (· ^^^ x)
def macB (key msg : List UInt8) : List UInt8 := digestB (mixB (blockK key) 92 ++ digestB (mixB (blockK key) 54 ++ msg))
theorem blockK_length (key : List UInt8) : (blockK key).length = 64 := by
  unfold blockK
  apply fillB_length
  split
  · rw [digestB_length]; omega
  · omega
theorem mixB_length (b : List UInt8) (x : UInt8) : (mixB b x).length = b.length := by simp [mixB]
theorem macB_length (key msg : List UInt8) : (macB key msg).length = 32 := digestB_length _

theorem grown_refl (w : World) (a : Option Nat) : w.grownBy w a := ⟨rfl, rfl, rfl, Nat.le_refl _, fun _ _ _ => rfl⟩
theorem grown_trans {w x y : World} {a : Option Nat} (h : w.grownBy x a) (k : x.grownBy y a) : w.grownBy y a :=
  ⟨k.os.trans h.os, k.tape.trans h.tape, k.output.trans h.output, Nat.le_trans h.size k.size, fun i hi h1 => (k.block i (Nat.lt_of_lt_of_le hi h.size) h1).trans (h.block i hi h1)⟩
theorem grown_below {w x : World} (a : Option Nat) (h : Below w.heap.size w x) : w.grownBy x a := ⟨h.os, h.tape, h.output, h.size, fun k hk _ => h.block k hk⟩

/-- From w to x with a Meter at g that keeps nothing and was made behind w0: it has counted n; all else that was there at w is as it was. -/
structure Run (w0 w : World) (g n : Nat) (x : World) : Prop where
  below : Below w0.heap.size w0 x
  row : RowAt x g 76 (meterC false n (.slice none 0 0))
  tabs0 : Tabs w0
  far : w0.heap.size ≤ g
  old : w0.heap.size ≤ w.heap.size
  row0 : ∃ n0, RowAt w g 76 (meterC false n0 (.slice none 0 0))
  grown : w.grownBy x (some g)
theorem Run.tabs {w0 w x : World} {g n : Nat} (h : Run w0 w g n x) : Tabs x := h.tabs0.below h.below
theorem Run.self {w0 w x : World} {g n : Nat} (h : Run w0 w g n x) : Run w0 x g n x := ⟨h.below, h.row, h.tabs0, h.far, h.below.size, ⟨n, h.row⟩, grown_refl _ _⟩
theorem Run.new {w0 w x : World} {g : Nat} (ht : Tabs w0) (hb : Below w0.heap.size w0 w) (h : NewRow w g 76 (meterC false 0 (.slice none 0 0)) x) : Run w0 x g 0 x :=
  ⟨below_size hb h.below, h.row, ht, by rw [h.spot]; exact hb.size, (below_size hb h.below).size, ⟨0, h.row⟩, grown_refl _ _⟩
theorem Run.kept {w0 w x y : World} {g n : Nat} (h : Run w0 w g n x) (hb : Below x.heap.size x y) : Run w0 w g n y :=
  ⟨below_size h.below hb, h.row.kept hb, h.tabs0, h.far, h.old, h.row0, grown_trans h.grown (grown_below _ hb)⟩
theorem Run.trans {w0 w x y : World} {g n m : Nat} (h : Run w0 w g n x) (k : Run w0 x g m y) : Run w0 w g m y :=
  ⟨k.below, k.row, h.tabs0, h.far, h.old, h.row0, grown_trans h.grown k.grown⟩
theorem Run.put {w0 w x y : World} {g n i : Nat} {t : TypeId} {cs : Array Value} (h : Run w0 w g n x) (p : PutRow x i t cs y) (hi : w.heap.size ≤ i) (hg : i ≠ g) : Run w0 w g n y :=
  ⟨p.below h.below h.below.size (Nat.le_trans h.old hi), h.row.grown p.grown (by intro e; injection e with e; exact hg e.symm), h.tabs0, h.far, h.old, h.row0,
    ⟨p.grown.os.trans h.grown.os, p.grown.tape.trans h.grown.tape, p.grown.output.trans h.grown.output, Nat.le_trans h.grown.size p.grown.size, fun k hk h1 => (p.grown.block k (Nat.lt_of_lt_of_le hk h.grown.size) (by intro e; injection e with e; omega)).trans (h.grown.block k hk h1)⟩⟩
theorem Run.other {w0 w x : World} {g n k : Nat} {t : TypeId} {cs : Array Value} (h : Run w0 w g n x) (hr : RowAt w k t cs) (hk : k ≠ g) : RowAt x k t cs := hr.grown h.grown (by intro e; injection e with e; exact hk e)
theorem Run.bs {w0 w x : World} {g n : Nat} {v : Value} {l : List UInt8} (h : Run w0 w g n x) (hv : Bs w v l) : Bs x v l := by
  obtain ⟨n0, h0⟩ := h.row0
  exact hv.meter h0 h.grown
theorem Run.size {w0 w x : World} {g n : Nat} (h : Run w0 w g n x) : w.heap.size ≤ x.heap.size := h.grown.size
theorem Run.glt {w0 w x : World} {g n : Nat} (h : Run w0 w g n x) : g < w.heap.size := by
  obtain ⟨n0, h0⟩ := h.row0
  exact h0.lt

theorem Sum_run (w0 w : World) (g n : Nat) (v : Value) (ls : List (List UInt8)) (d : List UInt8) (h : Run w0 w g n w) (hn : n ≤ 1000000000) (hd : d = digestB ls.flatten) (hb : Bss w v ls) (hl : ls.flatten.length ≤ 140737488355200) (hm : ls.length ≤ 1000000) :
    Calls Tryd.prog 24 #[.pointer (some ⟨g, 0, none⟩), v] w fun e w' => e = .returned (.agg (keyC d)) ∧ Run w0 w g (n + 1) w' := by
  refine (Sum_is w h.tabs g n _ v ls d hd hn h.row hb hl hm).mono fun e w' hp => ?_
  obtain ⟨he, hr, hg⟩ := hp
  exact ⟨he, h.below.grown hg h.below.size (fun k e => by injection e with e; rw [← e]; exact h.far), hr, h.tabs0, h.far, h.old, ⟨n, h.row⟩, hg⟩

theorem zb64_fill (key : List UInt8) (h : key.length ≤ 64) : zb64.take 0 ++ key ++ zb64.drop (0 + key.length) = fillB key 64 := by
  rw [List.take_zero, List.nil_append, Nat.zero_add, zb64, List.drop_replicate, fillB]
theorem zb_copied {w : World} {g : Nat} {t : TypeId} {key : List UInt8} (h : key.length ≤ 64) (hr : w.heap[g]? = some (.cells (splice (cellsB zb64) 0 (cellsB key)).toArray t (0, 0))) : RowAt w g t (keyC (fillB key 64)) := by
  rw [splice_bytes, zb64_fill key h] at hr
  exact hr

def partMix (b : List UInt8) (x : UInt8) (k : Nat) : List UInt8 := mixB (b.take k) x ++ b.drop k
theorem partMix_length (b : List UInt8) (x : UInt8) (k : Nat) (h : k ≤ b.length) : (partMix b x k).length = b.length := by simp [partMix, mixB]; omega
theorem partMix_get (b : List UInt8) (x : UInt8) (k : Nat) (h : k < b.length) : (partMix b x k).getD k 0 = b.getD k 0 := by
  simp only [partMix, List.getD_eq_getElem?_getD]
  rw [List.getElem?_append_right (by simp [mixB]; omega)]
  simp [mixB, Nat.min_eq_left (Nat.le_of_lt h)]
theorem partMix_step (b : List UInt8) (x : UInt8) (k : Nat) (h : k < b.length) : (partMix b x k).set k (b.getD k 0 ^^^ x) = partMix b x (k + 1) := by
  have e1 : (mixB (b.take k) x).length = k := by simp [mixB]; omega
  unfold partMix
  rw [List.set_append_right _ _ (by rw [e1]; exact Nat.le_refl _), e1, Nat.sub_self, List.drop_eq_getElem_cons h, List.set_cons_zero]
  have e2 := List.take_succ_eq_append_getElem (l := b.map (· ^^^ x)) (i := k) (by simpa using h)
  simp only [mixB, List.map_take]
  rw [e2, List.append_assoc]
  simp [List.getD_eq_getElem?_getD, h]
theorem partMix_all (b : List UInt8) (x : UInt8) (n : Nat) (h : b.length = n) : partMix b x n = mixB b x := by
  rw [← h]; simp [partMix, mixB]

end Go.Proofs.YtlifjlcfoeednaaDoor
end
section
namespace Go.Proofs.YtlifjlcfoeednaaDoor
open Go.Proofs
theorem muLib : Go.Conc.Locks.MuLib Tryd.prog { lock := 40, unlock := 41, ilock := 48, iunlock := 49, lockSlow := 59, unlockSlow := 62, disable := 55, enable := 57, acquire := 58, relMerge := 60, cas32 := 56, add32 := 61, tMutex := 74, tIMutex := 72, tPMutex := 102, tPIMutex := 108, tPI32 := 110, tUP := 112, tNoCopy := 70, tU32 := 25 } :=
  ⟨Tryd.func40, Tryd.func41, Tryd.func48, Tryd.func49, Tryd.func55, Tryd.func57, Tryd.func58, Tryd.func60, Tryd.func56, Tryd.func61, Tryd.underlying72, Tryd.runUnderlying72, Tryd.sizeOf72, Tryd.isAgg72, Tryd.zeroValue72, Tryd.underlying74, Tryd.runUnderlying74, Tryd.sizeOf74, Tryd.isAgg74, Tryd.zeroValue74, Tryd.underlying102, Tryd.runUnderlying102, Tryd.sizeOf102, Tryd.isAgg102, Tryd.zeroValue102, Tryd.underlying108, Tryd.runUnderlying108, Tryd.sizeOf108, Tryd.isAgg108, Tryd.zeroValue108, Tryd.underlying110, Tryd.runUnderlying110, Tryd.sizeOf110, Tryd.isAgg110, Tryd.zeroValue110, Tryd.underlying112, Tryd.runUnderlying112, Tryd.sizeOf112, Tryd.isAgg112, Tryd.zeroValue112, Tryd.underlying70, Tryd.runUnderlying70, Tryd.sizeOf70, Tryd.isAgg70, Tryd.zeroValue70, Tryd.underlying21, Tryd.runUnderlying21, Tryd.sizeOf21, Tryd.isAgg21, Tryd.zeroValue21, (by kernel_rfl)⟩
end Go.Proofs.YtlifjlcfoeednaaDoor
end
section
namespace Go.Proofs.YtlifjlcfoeednaaDoor
open Go.RowKit
set_option linter.unusedVariables false
set_option maxRecDepth 20000

theorem Tryd.infoS : (Tryd.prog.info? 22).map (fun i => (i.zero, i.size, i.bytes)) = some (some (.slice none 0 0), 1, 24) := by kernel_rfl

theorem Add_any (w : World) (g n : Nat) (hn : n ≤ 1000000000) (hc : w.cell? ⟨g, 1, none⟩ = some (.int .i64 (n : Int))) (hz : w.frozen? ⟨g, 1, none⟩ = false) :
    Calls Tryd.prog 42 #[.pointer (some ⟨g, 1, none⟩), .int .i64 1] w fun e w' => (∃ x, e = .returned x) ∧ w' = w.setCell ⟨g, 1, none⟩ (.int .i64 ((n + 1 : Nat) : Int)) := by
  have hadd := run_call_add (P := Tryd.prog) Tryd.func50 (by kernel_rfl) (by kernel_rfl) (by kernel_rfl) .i64 (by kernel_rfl) (y := 1) (s := ((n + 1 : Nat) : Int)) hc hz (by simp [go_sem]; rw [IntWalk.i64_in _ (by omega)])
  go_enter Tryd.func42, Tryd.ntmps42
  go_wp2
  go_ret
  exact ⟨⟨_, rfl⟩, rfl⟩

/-- The row of the lists that a Meter keeps is not the Meter's own. -/
theorem own_apart {w : World} {base n g : Nat} {e t : TypeId} {s : Value} {xs : List Value} {cs : Array Value} (h : w.ownsRow base e 1 s n xs) (hr : RowAt w g t cs) (ht : t ≠ e) : some g ≠ s.ownBlock := by
  rcases h.2 with ⟨rfl, _⟩ | ⟨k, cap, cur, rfl, _, hk, _⟩
  · simp [Value.ownBlock]
  · intro e2
    have : g = k := by simpa [Value.ownBlock] using e2
    subst this
    rw [hr] at hk
    injection hk with hk
    injection hk with h1 h2
    exact ht h2

theorem put_grown (w : World) (g i : Nat) (u : Value) : w.grownBy (w.setCell ⟨g, i, none⟩ u) (some g) :=
  ⟨rfl, rfl, rfl, by simp, fun k _ hne => heap_setCell_other w _ k _ (fun h => hne (by rw [h]))⟩
theorem own_put_other {w : World} {base n g : Nat} {e t : TypeId} {s : Value} {xs : List Value} {cs : Array Value} (h : w.ownsRow base e 1 s n xs) (hr : RowAt w g t cs) (ht : t ≠ e) (i : Nat) (u : Value) : (w.setCell ⟨g, i, none⟩ u).ownsRow base e 1 s n xs :=
  World.ownsRow.kept h (put_grown w g i u) (.inr (fun e2 => own_apart h hr ht e2.symm))
theorem grown_of_alloc (w : World) (o : Obj) (a : Option Nat) : w.grownBy (w.alloc o) a := ⟨rfl, rfl, rfl, by simp, fun k hk _ => Below.heap_alloc w o k hk⟩
/-- Behind a call that writes at two rows at most: all else. -/
structure GrownTwo (w w' : World) (a b : Option Nat) : Prop where
  os : w'.os = w.os
  tape : w'.tape = w.tape
  output : w'.output = w.output
  size : w.heap.size ≤ w'.heap.size
  block : ∀ k, k < w.heap.size → some k ≠ a → some k ≠ b → w'.heap[k]? = w.heap[k]?
theorem GrownTwo.refl (w : World) (a b : Option Nat) : GrownTwo w w a b := ⟨rfl, rfl, rfl, Nat.le_refl _, fun _ _ _ _ => rfl⟩
theorem GrownTwo.fst {w w' w'' : World} {a b : Option Nat} (h : GrownTwo w w' a b) (k : w'.grownBy w'' a) : GrownTwo w w'' a b :=
  ⟨k.os.trans h.os, k.tape.trans h.tape, k.output.trans h.output, Nat.le_trans h.size k.size, fun i hi h1 h2 => (k.block i (Nat.lt_of_lt_of_le hi h.size) h1).trans (h.block i hi h1 h2)⟩
theorem GrownTwo.snd {w w' w'' : World} {a b : Option Nat} (h : GrownTwo w w' a b) (k : w'.grownBy w'' b) : GrownTwo w w'' a b :=
  ⟨k.os.trans h.os, k.tape.trans h.tape, k.output.trans h.output, Nat.le_trans h.size k.size, fun i hi h1 h2 => (k.block i (Nat.lt_of_lt_of_le hi h.size) h2).trans (h.block i hi h1 h2)⟩

set_option maxHeartbeats 1000000 in
theorem note_keep (w : World) (g n base : Nat) (s : Value) (VA : Option Addr) (vn vc : Nat) (vs : List Value) (hn : n ≤ 1000000000) (hr : RowAt w g 76 (meterC true n s)) (ho : w.ownsRow base 22 1 s vs.length vs) (hb : base ≤ w.heap.size) (hm : vs.length ≤ 1000000) :
    Calls Tryd.prog 34 #[.pointer (some ⟨g, 0, none⟩), .slice VA vn vc] w fun e w' => (∃ x, e = .returned x) ∧ ∃ s', RowAt w' g 76 (meterC true (n + 1) s') ∧ w'.ownsRow base 22 1 s' (vs.length + 1) (vs ++ [.slice VA vn vc]) ∧ GrownTwo w w' (some g) s.ownBlock ∧ ∀ b, s'.ownBlock = some b → s.ownBlock = some b ∨ w.heap.size ≤ b := by
  obtain ⟨i0, hi, hz0, hz1, hz2⟩ := info_parts Tryd.infoS
  have c0 : w.cell? ⟨g, 0, none⟩ = some (.bool true) := hr.cell 0
  have c2 : w.cell? ⟨g, 2, none⟩ = some (.int .i32 0) := hr.cell 2
  have z2 : w.frozen? ⟨g, 2, none⟩ = false := hr.frozen 2
  have hgl := hr.lt
  have R1 : Hid (RowAt (w.setCell ⟨g, 2, none⟩ (.int .i32 1)) g 76 #[.bool true, .int .i64 (n : Int), .int .i32 1, .int .u32 0, s]) := hr.put 2 (.int .i32 1)
  have O1 := Lib.hid (own_put_other ho hr (by decide) 2 (.int .i32 1))
  have G1 := Lib.hid ((GrownTwo.refl w (some g) s.ownBlock).fst (put_grown w g 2 (.int .i32 1)))
  have HZ0 := Lib.hid hz0
  have HZ1 := Lib.hid hz1
  have HZ2 := Lib.hid hz2
  have HI := Lib.hid hi
  clear hr ho hz0 hz1 hz2 hi
  go_enter_defers Tryd.func34, Tryd.ntmps34
  go_wp2_with fail
  refine (Go.MuLone.lock_free muLib ⟨g, 2, none⟩ _ c2 z2).mono ?_
  intro e w1 h
  obtain ⟨he, hw⟩ := h
  subst he
  rw [← hw] at R1 O1 G1
  clear hw c0 c2 z2
  have c4 : w1.cell? ⟨g, 4, none⟩ = some s := R1.out.cell 4
  have HNW : Hid (∀ (j : Nat) u, ([.slice VA vn vc] : List Value)[j]? = some u → (w1.alloc (.cells #[.slice VA vn vc] 22)).cell? ((⟨w1.heap.size, 0, none⟩ : Addr).add j) = some u) := by
    intro j u hj
    rcases j with _ | j
    · have h0 := (RowAt.new w1 22 #[.slice VA vn vc]).cell 0
      simp at hj
      subst hj
      exact h0
    · simp at hj
  have HON : Hid (∀ u ∈ ([.slice VA vn vc] : List Value), u.oneCell' = true) := by
    intro u hu
    simp at hu
    rw [hu]
    rfl
  go_wp2_with (at_builtin; go_loud (refine wpList_append_lies _ rfl (.tmp 21) (.tmp 23) 28 rfl base 22 i0 (.slice none 0 0) 1 24 Tryd.underlying28 HI.out HZ0.out HZ1.out HZ2.out rfl (by decide) s vs.length vs rfl (O1.out.alloc _) ⟨w1.heap.size, 0, none⟩ 1 1 [.slice VA vn vc] rfl rfl HNW.out HON.out (by decide) (by unfold maxLen; omega) (by omega) (by have := G1.out.size; simp; omega) _ rfl ?_); intro k2 cap2 w2 own2 hg2 hat2 hk3; have HAT : Hid (∀ b, k2 = b → s.ownBlock = some b ∨ w.heap.size ≤ b) := (by show _; intro b eb; subst eb; rcases hat2 with h | h; exact .inl h; refine .inr ?_; have := G1.out.size; simp at h; omega); have R2 := Lib.hid ((R1.out.alloc (.cells #[.slice VA vn vc] 22)).grown hg2 (own_apart (O1.out.alloc (.cells #[.slice VA vn vc] 22)) (R1.out.alloc (.cells #[.slice VA vn vc] 22)) (by decide))); have c5 : w2.cell? ⟨g, 4, none⟩ = some s := R2.out.cell 4; have z5 : w2.frozen? ⟨g, 4, none⟩ = false := R2.out.frozen 4; have O2 := Lib.hid own2; clear hat2 hk3; clear own2)
  have R3 := Lib.hid (R2.out.put 4 (.slice (some ⟨k2, 0, none⟩) (vs.length + 1) cap2))
  have O3 := Lib.hid (own_put_other O2.out R2.out (by decide) 4 (.slice (some ⟨k2, 0, none⟩) (vs.length + 1) cap2))
  have G3 := Lib.hid (((G1.out.fst (grown_of_alloc w1 (.cells #[.slice VA vn vc] 22) (some g))).snd hg2).fst (put_grown w2 g 4 (.slice (some ⟨k2, 0, none⟩) (vs.length + 1) cap2)))
  clear R1 R2 O1 O2 G1 hg2 c4 c5 z5 HNW HON
  generalize w2.setCell ⟨g, 4, none⟩ (.slice (some ⟨k2, 0, none⟩) (vs.length + 1) cap2) = w3 at *
  refine (Add_any w3 g n hn (R3.out.cell 1) (R3.out.frozen 1)).mono ?_
  intro e w4 h
  obtain ⟨⟨x, he⟩, hw⟩ := h
  subst he
  have R4 := Lib.hid (R3.out.put 1 (.int .i64 ((n + 1 : Nat) : Int)))
  have O4 := Lib.hid (own_put_other O3.out R3.out (by decide) 1 (.int .i64 ((n + 1 : Nat) : Int)))
  have G4 := Lib.hid (G3.out.fst (put_grown w3 g 1 (.int .i64 ((n + 1 : Nat) : Int))))
  rw [← hw] at R4 O4 G4
  clear hw R3 O3 G3
  go_wp2_with fail
  refine leaves_cons (f := 41) (args := #[.pointer (some ⟨g, 2, none⟩)]) (by simp) (by simp [go_sem]) ?_
  refine (Go.MuLone.unlock_deferred muLib ⟨g, 2, none⟩ .returning _ (R4.out.cell 2) (R4.out.frozen 2)).mono ?_
  intro e u' w5 h
  obtain ⟨h1, h2, h3⟩ := h
  subst h1 h2 h3
  refine ⟨_, results_none rfl _ _ _, ⟨_, rfl⟩, _, R4.out.put 2 (.int .i32 0), own_put_other O4.out R4.out (by decide) 2 (.int .i32 0), G4.out.fst (put_grown _ g 2 (.int .i32 0)), fun b hb => HAT.out b (by simpa [Value.ownBlock] using hb)⟩
end Go.Proofs.YtlifjlcfoeednaaDoor
end
section
namespace Go.Proofs.YtlifjlcfoeednaaDoor
open Go.RowKit
set_option linter.unusedVariables false
set_option maxRecDepth 20000
theorem Bss.own {w : World} {base : Nat} {e : TypeId} {v : Value} {xs : List Value} {ls : List (List UInt8)} (h : w.ownsRow base e 1 v ls.length xs) (hl : xs.length = ls.length) (hb : ∀ j (h1 : j < xs.length) (h2 : j < ls.length), Bs w xs[j] ls[j]) : Bss w v ls := by
  have hc := fun g hg => World.ownsRow.cells h (g := g) hg
  rcases h.2 with ⟨rfl, h0⟩ | ⟨g, cap, cur, rfl, _, _, h1, h2, _⟩
  · exact ⟨none, 0, by rw [h0], by omega, by simp [maxLen], fun h => by omega⟩
  · refine ⟨_, cap, rfl, h1, h2, fun _ => ⟨g, 0, rfl, fun j hj => ⟨xs[j]'(by omega), ?_, hb j (by omega) hj⟩⟩⟩
    have := hc g rfl j (xs[j]'(by omega)) (by simp [hl, hj])
    have hadd : (⟨g, 0, none⟩ : Addr).add j = ⟨g, 0 + j, none⟩ := by unfold Addr.add; split <;> simp_all
    rwa [hadd] at this
/-- A list of bytes whose row is none of lists that the call itself has laid (from base on). -/
def El (base : Nat) (w : World) (u : Value) (l : List UInt8) : Prop :=
  Bs w u l ∧ (0 < l.length → ∀ b off n c, u = .slice (some ⟨b, off, none⟩) n c → b < base ∨ ∃ cs ty fr, w.heap[b]? = some (.cells cs ty fr) ∧ ty ≠ 22)
theorem El.old {w w' : World} {u : Value} {l : List UInt8} {base : Nat} (h : Bs w u l) (hb : Below w.heap.size w w') (hs : w.heap.size ≤ base) : El base w' u l := by
  refine ⟨h.below hb, fun hl b off n c hu => .inl ?_⟩
  obtain ⟨A, c', hv, _, _, h3⟩ := h
  obtain ⟨b', off', hA, hc⟩ := h3 hl
  rw [hu] at hv
  injection hv with e1 _ _
  rw [hA] at e1
  injection e1 with e1
  injection e1 with e1 _ _
  have := World.block_lt_of_cell? w _ (hc 0 hl)
  simp only at this
  omega
theorem El.own {w : World} {u : Value} {l : List UInt8} {base base' : Nat} (h : OwnB w base' 5 u l) : El base w u l := by
  refine ⟨h.bs, fun hl b off n c hu => .inr ?_⟩
  obtain ⟨cur, hc⟩ := h.spot (k := b) (by rw [hu]; simp [Value.ownBlock])
  exact ⟨cur, _, _, hc, by decide⟩
theorem El.below {w w' : World} {u : Value} {l : List UInt8} {base : Nat} (h : El base w u l) (hb : Below w.heap.size w w') : El base w' u l := by
  refine ⟨h.1.below hb, fun hl b off n c hu => ?_⟩
  rcases h.2 hl b off n c hu with h1 | ⟨cs, ty, fr, h1, h2⟩
  · exact .inl h1
  · exact .inr ⟨cs, ty, fr, (hb.block b (Array.getElem?_eq_some_iff.1 h1).1).trans h1, h2⟩
theorem El.grown {w w' : World} {u v : Value} {l : List UInt8} {base n : Nat} {xs : List Value} (h : El base w u l) (ho : w.ownsRow base 22 1 v n xs) (hg : w.grownBy w' v.ownBlock) : El base w' u l := by
  have spot : ∀ k, v.ownBlock = some k → base ≤ k ∧ ∃ cur, w.heap[k]? = some (.cells cur 22 (0, 0)) := fun k hk => by
    rcases ho.2 with ⟨rfl, _⟩ | ⟨g, cap, cur, rfl, hb, hc, _⟩
    · cases hk
    · obtain rfl : g = k := by simpa [Value.ownBlock] using hk
      exact ⟨hb, cur, hc⟩
  have far : ∀ b, (b < base ∨ ∃ cs ty fr, w.heap[b]? = some (.cells cs ty fr) ∧ ty ≠ 22) → some b ≠ v.ownBlock := fun b hb e => by
    obtain ⟨h1, cur, h2⟩ := spot b e.symm
    rcases hb with hb | ⟨cs, ty, fr, h3, h4⟩
    · omega
    · rw [h2] at h3
      injection h3 with h3
      injection h3 with _ h3 _
      exact h4 h3.symm
  obtain ⟨⟨A, c, hv, h1, h2, h3⟩, hk⟩ := h
  refine ⟨⟨A, c, hv, h1, h2, fun hl => ?_⟩, fun hl b off n c hu => ?_⟩
  · obtain ⟨b, off, hA, hc⟩ := h3 hl
    refine ⟨b, off, hA, fun j hj => ?_⟩
    have hlt := World.block_lt_of_cell? w _ (hc j hj)
    have e := hg.block b hlt (far b (hk hl b off l.length c (by rw [hv, hA])))
    rw [← hc j hj]
    simp only [World.cell?, e]
  · rcases hk hl b off n c hu with h4 | ⟨cs, ty, fr, h4, h5⟩
    · exact .inl h4
    · exact .inr ⟨cs, ty, fr, (hg.block b (Array.getElem?_eq_some_iff.1 h4).1 (far b (.inr ⟨cs, ty, fr, h4, h5⟩))).trans h4, h5⟩

/-- The call's own list of lists. -/
def OwnSs (w : World) (base : Nat) (v : Value) (ls : List (List UInt8)) : Prop :=
  ∃ xs, w.ownsRow base 22 1 v ls.length xs ∧ xs.length = ls.length ∧ ∀ j (h1 : j < xs.length) (h2 : j < ls.length), El base w xs[j] ls[j]
theorem OwnSs.bss {w : World} {base : Nat} {v : Value} {ls : List (List UInt8)} (h : OwnSs w base v ls) : Bss w v ls := by
  obtain ⟨xs, h1, h2, h3⟩ := h
  exact Bss.own h1 h2 fun j a b => (h3 j a b).1
theorem OwnSs.below {w w' : World} {base : Nat} {v : Value} {ls : List (List UInt8)} (h : OwnSs w base v ls) (hb : Below w.heap.size w w') : OwnSs w' base v ls := by
  obtain ⟨xs, h1, h2, h3⟩ := h
  exact ⟨xs, World.ownsRow.kept (row := none) h1 ⟨hb.os, hb.tape, hb.output, hb.size, fun k hk _ => hb.block k hk⟩ (by cases v.ownBlock <;> simp), h2, fun j a b => (h3 j a b).below hb⟩
theorem Bs.isSlice2 {w : World} {u : Value} {l : List UInt8} (h : Bs w u l) : u.oneCell' = true := by
  obtain ⟨A, c, rfl, _⟩ := h
  rfl
/-- append of one more. -/
theorem wpList_appSs1 {P : Program} {w : World} {ops : Array Oper} {rest : List Oper} {o : Oper} {a : Act} {Q : Exit → Act → World → Prop} (hgd : o.guard = none) (s x : Operand) (t : TypeId)
    (ho : o.op = .call { callee := .builtin .append, args := #[s, x], argTypes := #[t, t] })
    (base : Nat) (hinfo : (P.info? 22).map (fun i => (i.zero, i.size, i.bytes)) = some (some (.slice none 0 0), 1, 24)) (ht : P.underlying t = some (.slice 22))
    (v u1 : Value) (g : Nat) (ls : List (List UInt8)) (b1 : List UInt8) (hs : a.eval s = v) (hx : a.eval x = .slice (some ⟨g, 0, none⟩) 1 1) (hg : RowAt w g 22 #[u1])
    (hown : OwnSs w base v ls) (h1 : El base w u1 b1) (hlen : ls.length ≤ 1000000) (hb : base ≤ w.heap.size)
    (h : ∀ v' w', OwnSs w' base v' (ls ++ [b1]) → w.grownBy w' v.ownBlock → (∀ k, v.ownBlock = some k → base ≤ k) → wpList P ops Q rest (a.put o.dst v') w') : wpList P ops Q (o :: rest) a w := by
  obtain ⟨i0, hi, hz0, hz1, hz2⟩ := info_parts hinfo
  obtain ⟨xs, hx1, hx2, hx3⟩ := hown
  refine wpList_append_own _ hgd s x t ho base 22 i0 (.slice none 0 0) 1 24 ht hi hz0 hz1 hz2 rfl (by decide) v ls.length xs hs hx1 ⟨g, 0, none⟩ 1 1 [u1] hx rfl (fun j y hj => ?_) (fun y hy => ?_) (by unfold maxLen; omega) (by omega) hb ?_
  · have hj2 := (List.getElem?_eq_some_iff.1 hj).1
    have hadd : (⟨g, 0, none⟩ : Addr).add j = ⟨g, j, none⟩ := by unfold Addr.add; split <;> simp_all
    rw [hadd, hg.cell j]
    simpa using hj
  · obtain rfl : y = u1 := by simpa using hy
    exact h1.1.isSlice2
  · intro v' w' ho' hg' _
    refine h v' w' ⟨xs ++ [u1], by rw [List.length_append]; exact ho', by simp [hx2], fun j a1 a2 => ?_⟩ hg' (fun k hk => (World.ownsRow.lt hx1 k hk).1)
    rcases Nat.lt_or_ge j xs.length with hlt | hge
    · rw [List.getElem_append_left hlt, List.getElem_append_left (by omega)]
      exact (hx3 j hlt (by omega)).grown hx1 hg'
    · obtain rfl : j = xs.length := by rw [List.length_append] at a1; simp at a1; omega
      have e1 : (xs ++ [u1])[xs.length] = u1 := by simp
      have e2 : (ls ++ [b1])[xs.length] = b1 := by simp [hx2]
      rw [e1, e2]
      exact h1.grown hx1 hg'
end Go.Proofs.YtlifjlcfoeednaaDoor
end
section
namespace Go.Proofs.YtlifjlcfoeednaaDoor
open Go.RowKit
set_option linter.unusedVariables false
set_option maxRecDepth 20000

theorem Bss.run {w0 w x : World} {g n b off c k : Nat} {ls : List (List UInt8)} (h : Run w0 w g n x) (hv : Bss w (.slice (some ⟨b, off, none⟩) k c) ls) (hb : b ≠ g) : Bss x (.slice (some ⟨b, off, none⟩) k c) ls := by
  obtain ⟨A, c', he, h1, h2, h3⟩ := hv
  refine ⟨A, c', he, h1, h2, fun hl => ?_⟩
  obtain ⟨b', off', hA, hc⟩ := h3 hl
  injection he with e1 e2 e3
  rw [hA] at e1
  injection e1 with e1
  injection e1 with e1 e4 e5
  subst e1 e4
  refine ⟨b, off, hA, fun j hj => ?_⟩
  obtain ⟨u, hu, hbu⟩ := hc j hj
  exact ⟨u, (World.cell?_of_block (a := ⟨b, off + j, none⟩) (h.grown.block b (World.block_lt_of_cell? w _ hu) (by intro e; injection e with e; exact hb e))).trans hu, h.bs hbu⟩
/-- The values that a list of lists holds. -/
theorem Bss.vals {w : World} {b off c k : Nat} {ls : List (List UInt8)} (hv : Bss w (.slice (some ⟨b, off, none⟩) k c) ls) (h0 : 0 < ls.length) :
    ∃ vs : List Value, vs.length = ls.length ∧ (∀ j (h : j < vs.length), w.cell? ⟨b, off + j, none⟩ = some vs[j]) ∧ ∀ j (h1 : j < vs.length) (h2 : j < ls.length), Bs w vs[j] ls[j] := by
  obtain ⟨A, c', he, h1, h2, h3⟩ := hv
  obtain ⟨b', off', hA, hc⟩ := h3 h0
  injection he with e1 e2 e3
  rw [hA] at e1
  injection e1 with e1
  injection e1 with e1 e4 e5
  subst e1 e4
  refine ⟨List.ofFn fun j : Fin ls.length => (hc j.val j.isLt).choose, by simp, fun j h => ?_, fun j a b => ?_⟩
  · simp only [List.getElem_ofFn]
    exact (hc j (by simpa using h)).choose_spec.1
  · simp only [List.getElem_ofFn]
    exact (hc j (by simpa using a)).choose_spec.2
theorem Bs.isSlice {w : World} {v : Value} {l : List UInt8} (h : Bs w v l) : v.oneCell' = true := by
  obtain ⟨A, c, rfl, _⟩ := h
  rfl

end Go.Proofs.YtlifjlcfoeednaaDoor
end
section
namespace Go.Proofs.YtlifjlcfoeednaaDoor
open Go.RowKit
set_option linter.unusedVariables false
set_option maxRecDepth 20000

/-- What a Log that keeps nothing holds. -/
def logC (n : Nat) : Array Value := #[.bool false, .int .i64 (n : Int), .slice none 0 0]
theorem logC_put (n : Nat) : (logC n).setIfInBounds 1 (.int .i64 ((n : Int) + 1)) = logC (n + 1) := by
  simp [logC]

theorem Bs.log {w w' : World} {v : Value} {l : List UInt8} {g n : Nat} {t : TypeId} (h : Bs w v l) (hr : RowAt w g t (logC n)) (hg : w.grownBy w' (some g)) : Bs w' v l := by
  obtain ⟨B, d, rfl, h1, h2, h3⟩ := h
  refine ⟨B, d, rfl, h1, h2, fun h0 => ?_⟩
  obtain ⟨b, off, hA, hc⟩ := h3 h0
  refine ⟨b, off, hA, fun j hj => ?_⟩
  have hcj := hc j hj
  have hb : b ≠ g := by
    intro e
    subst e
    rw [hr.cell] at hcj
    simp only [logC] at hcj
    rcases hx : off + j with _ | _ | _ | m <;> rw [hx] at hcj <;> simp at hcj
  exact (World.cell?_of_block (a := ⟨b, off + j, none⟩) (hg.block _ (World.block_lt_of_cell? w _ hcj) (by intro e; injection e with e; exact hb e))).trans hcj

/-- From w to x with a Log at g that keeps nothing and was made behind w0: it has counted n; all else that was there at w is as it was. -/
structure LogR (w0 w : World) (g n : Nat) (x : World) : Prop where
  below : Below w0.heap.size w0 x
  row : RowAt x g 34 (logC n)
  far : w0.heap.size ≤ g
  old : w0.heap.size ≤ w.heap.size
  row0 : ∃ n0, RowAt w g 34 (logC n0)
  grown : w.grownBy x (some g)
theorem LogR.self {w0 w x : World} {g n : Nat} (h : LogR w0 w g n x) : LogR w0 x g n x := ⟨h.below, h.row, h.far, h.below.size, ⟨n, h.row⟩, grown_refl _ _⟩
theorem LogR.new {w0 x : World} {g n : Nat} (hb : Below w0.heap.size w0 x) (h : RowAt x g 34 (logC n)) (hf : w0.heap.size ≤ g) : LogR w0 x g n x :=
  ⟨hb, h, hf, hb.size, ⟨n, h⟩, grown_refl _ _⟩
theorem LogR.kept {w0 w x y : World} {g n : Nat} (h : LogR w0 w g n x) (hb : Below x.heap.size x y) : LogR w0 w g n y :=
  ⟨below_size h.below hb, h.row.kept hb, h.far, h.old, h.row0, grown_trans h.grown (grown_below _ hb)⟩
theorem LogR.trans {w0 w x y : World} {g n m : Nat} (h : LogR w0 w g n x) (k : LogR w0 x g m y) : LogR w0 w g m y :=
  ⟨k.below, k.row, h.far, h.old, h.row0, grown_trans h.grown k.grown⟩
theorem LogR.put {w0 w x y : World} {g n i : Nat} {t : TypeId} {cs : Array Value} (h : LogR w0 w g n x) (p : PutRow x i t cs y) (hi : w.heap.size ≤ i) (hg : i ≠ g) : LogR w0 w g n y :=
  ⟨p.below h.below h.below.size (Nat.le_trans h.old hi), h.row.grown p.grown (by intro e; injection e with e; exact hg e.symm), h.far, h.old, h.row0,
    ⟨p.grown.os.trans h.grown.os, p.grown.tape.trans h.grown.tape, p.grown.output.trans h.grown.output, Nat.le_trans h.grown.size p.grown.size, fun k hk h1 => (p.grown.block k (Nat.lt_of_lt_of_le hk h.grown.size) (by intro e; injection e with e; omega)).trans (h.grown.block k hk h1)⟩⟩
theorem LogR.count {w0 w x : World} {g n : Nat} (h : LogR w0 w g n x) : LogR w0 w g (n + 1) (x.setCell ⟨g, 1, none⟩ (.int .i64 ((n : Int) + 1))) := by
  have hp := h.row.put 1 (.int .i64 ((n : Int) + 1))
  rw [logC_put] at hp
  exact ⟨h.below.setCell h.far _, hp, h.far, h.old, h.row0, grown_trans h.grown ⟨rfl, rfl, rfl, by simp, fun k _ hne => heap_setCell_other x _ k _ (fun h => hne (by rw [h]))⟩⟩
theorem LogR.other {w0 w x : World} {g n k : Nat} {t : TypeId} {cs : Array Value} (h : LogR w0 w g n x) (hr : RowAt w k t cs) (hk : k ≠ g) : RowAt x k t cs := hr.grown h.grown (by intro e; injection e with e; exact hk e)
theorem LogR.bs {w0 w x : World} {g n : Nat} {v : Value} {l : List UInt8} (h : LogR w0 w g n x) (hv : Bs w v l) : Bs x v l := by
  obtain ⟨n0, h0⟩ := h.row0
  exact hv.log h0 h.grown
theorem LogR.size {w0 w x : World} {g n : Nat} (h : LogR w0 w g n x) : w.heap.size ≤ x.heap.size := h.grown.size
theorem LogR.glt {w0 w x : World} {g n : Nat} (h : LogR w0 w g n x) : g < w.heap.size := by
  obtain ⟨n0, h0⟩ := h.row0
  exact h0.lt

set_option maxHeartbeats 1000000 in
theorem LogSum_run (w0 w : World) (g n : Nat) (v : Value) (l d : List UInt8) (h : LogR w0 w g n w) (hn : n ≤ 1000000000) (hd : d = digestB l) (hb : Bs w v l) (hl : l.length ≤ 140737488352000) :
    Calls Tryd.prog 26 #[.pointer (some ⟨g, 0, none⟩), v] w fun e w' => e = .returned (.agg (keyC d)) ∧ LogR w0 w g (n + 1) w' := by
  have HR := Lib.hid h
  have HB := Lib.hid hb
  have hgl := h.glt
  have LD : Hid (d.length = 32) := by show _ = _; rw [hd, digestB_length]
  have HD : Hid (∀ x u, Bs x u l → Calls Tryd.prog 36 #[u] x (RetV x (.agg (keyC d)))) := fun x u hu => by rw [hd]; exact refDigest_any x u l hu hl
  clear h hb hd
  go_enter Tryd.func26, Tryd.ntmps26
  go_wp2_with ((with_reducible refine wpList_alloc_row (o := ⟨some 4, _, _, _, _, _⟩) rfl 24 rfl (keyC zeroKey) Tryd.zeroK ?_); intro g1 w1 n1; have R1 := Lib.hid (HR.out.kept n1.below); have c0 : w1.cell? ⟨g, 0, none⟩ = some (.bool false) := R1.out.row.cell 0; have c1 : w1.cell? ⟨g, 1, none⟩ = some (.int .i64 (n : Int)) := R1.out.row.cell 1; have z1 : w1.frozen? ⟨g, 1, none⟩ = false := R1.out.row.frozen 1; have hadd : IntKind.i64.wrap ((n : Int) + 1) = (n : Int) + 1 := IntWalk.i64_in _ (by omega))
  have Q1 := Lib.hid n1.row
  have hg1 : w.heap.size ≤ g1 := Nat.le_of_eq n1.spot.symm
  have hgg : g1 ≠ g := by omega
  have R2 := Lib.hid R1.out.count
  have R2s := Lib.hid R1.out.self.count
  have B2 := Lib.hid (R2s.out.bs (HB.out.below n1.below))
  have Q2 := Lib.hid (R2s.out.other Q1.out hgg)
  clear n1 HR HB c0 c1 z1 hadd R1 Q1 R2s
  refine (HD.out _ _ (by exact B2.out)).mono ?_
  intro e w3 h
  obtain ⟨he, b3⟩ := h
  subst he
  have R3 := Lib.hid (R2.out.kept b3)
  have Q3 := Lib.hid (Q2.out.kept b3)
  clear b3 R2 Q2 B2 HD
  go_wp2_with ((with_reducible refine wpList_store_row (o := ⟨none, _, _, _, _, _⟩) rfl 24 (.tmp 4) (.tmp 31) rfl g1 24 _ (keyC d) (by with_unfolding_all rfl) (by with_unfolding_all rfl) Q3.out (keyC_same zeroKey_length LD.out) (Tryd.sizeKey d LD.out) (keyC_one d) ?_); intro w4 p4)
  refine bodyPost_ret (results_cell_row rfl _ _ g1 24 (keyC d) (0, 0) (.array 32 5) rfl p4.row Tryd.underlying24 rfl (Tryd.sizeKey d LD.out)) rfl ⟨rfl, ?_⟩
  exact R3.out.put p4 hg1 hgg
end Go.Proofs.YtlifjlcfoeednaaDoor
end
section
namespace Go.Proofs.YtlifjlcfoeednaaDoor
open Go.RowKit
set_option linter.unusedVariables false
set_option maxRecDepth 20000

section
variable {P : Program} (w : World)
theorem run_appD (base : Nat) (t ty e : TypeId) (hinfo : (P.info? e).map (fun i => (i.zero, i.size, i.bytes)) = some (some (.int .u8 0), 1, 1)) (ht : P.underlying t = some (.slice e))
    (v u : Value) (l m : List UInt8) (hown : OwnB w base e v l) (hu : Bs w u m) (hlen : l.length + m.length ≤ 140737488355328) (hbase : base ≤ w.heap.size) :
    ∃ v' w', (Builtin.append_ #[t, t] ty #[v, u]).run P w = .ok v' w' ∧ OwnB w' base e v' (l ++ m) ∧ w.grownBy w' v.ownBlock ∧ (v'.ownBlock = v.ownBlock ∨ ∀ k, v'.ownBlock = some k → w.heap.size ≤ k) := by
  obtain ⟨v', w', hr, ho, hg⟩ := run_appB (P := P) w base t ty e hinfo ht v u l m hown hu hlen hbase
  refine ⟨v', w', hr, ho, hg, ?_⟩
  obtain ⟨i, hi, hz0, hz1, hz2⟩ := info_parts hinfo
  rcases hown.2 with ⟨rfl, h0⟩ | ⟨g, cap, cur, rfl, hbg, hgr, hnc, hcm, hcs, htake⟩
  · obtain ⟨v2, w2, hr2, ho2, _⟩ := run_appB (P := P) w w.heap.size t ty e hinfo ht (.slice none 0 0) u l m ⟨hown.1, .inl ⟨rfl, h0⟩⟩ hu hlen (Nat.le_refl _)
    rw [hr] at hr2
    injection hr2 with e1 e2
    subst e1 e2
    exact .inr ho2.rows
  · obtain ⟨A, c, rfl, h1, h2, h3⟩ := hu
    rcases A with _ | ad
    · have hm : m = [] := by
        rcases m with _ | ⟨b, m⟩
        · rfl
        · obtain ⟨_, _, h, _⟩ := h3 (by simp)
          cases h
      subst hm
      left
      have hr2 : (Builtin.append_ #[t, t] ty #[.slice (some ⟨g, 0, none⟩) l.length cap, .slice none ([] : List UInt8).length c]).run P w = .ok (.slice (some ⟨g, 0, none⟩) l.length cap) w := by
        simp [Builtin.append_, run_underlying ht, sizeOf, typeInfo, hi, Builtin.lenOf, Builtin.firstCells, hnc, storeCells]
      rw [hr] at hr2
      injection hr2 with e1 e2
      rw [e1]
    · have hcells : ∀ j x, (cellsB m)[j]? = some x → w.cell? (ad.add j) = some x := by
        intro j x hx
        have hj : j < m.length := by
          have := (List.getElem?_eq_some_iff.1 hx).1
          rwa [cellsB_length] at this
        obtain ⟨b, off, h, hc⟩ := h3 (by omega)
        injection h with h
        subst h
        rw [cellsB_get m j hj] at hx
        have hadd : (⟨b, off, none⟩ : Addr).add j = ⟨b, off + j, none⟩ := by unfold Addr.add; split <;> simp_all
        rw [hadd, hc j hj, hx]
      by_cases hroom : l.length + m.length ≤ cap
      · left
        have hr2 := run_append_room (P := P) w t ty e i ht hi g l.length cap cur hgr ad m.length c (cellsB m) (by rw [cellsB_length, hz1, Nat.mul_one]) hcells (cellsB_one m) hroom (by rw [cellsB_length, hcs, hz1]; omega)
        rw [hr] at hr2
        injection hr2 with e1 e2
        rw [e1]
        rfl
      · right
        have holds : ∀ j x, (cellsB l)[j]? = some x → w.cell? ((⟨g, 0, none⟩ : Addr).add j) = some x := World.ownsRow.cells hown (g := g) rfl
        have hr2 := run_append_grow (P := P) w t ty e i (.int .u8 0) ht hi hz0 ⟨g, 0, none⟩ l.length cap (cellsB l) (by rw [cellsB_length, hz1, Nat.mul_one]) holds ad m.length c (cellsB m) (by rw [cellsB_length, hz1, Nat.mul_one]) hcells (by omega) (by omega) (growslice_fits (by omega) (by rw [hz2]; omega))
        rw [hr] at hr2
        injection hr2 with e1 e2
        intro k hk
        rw [e1] at hk
        have : w.heap.size = k := by simpa [Value.ownBlock] using hk
        omega
end
section
variable {P : Program} {w : World}
theorem step_appD {ops : Array Oper} {o : Oper} {a : Act} {K : Act → World → Prop} {Q : Exit → Act → World → Prop} {E : Prop} (hgd : o.guard = none) (s x : Operand) (t : TypeId)
    (ho : o.op = .call { callee := .builtin .append, args := #[s, x], argTypes := #[t, t] })
    (base : Nat) (e : TypeId) (hinfo : (P.info? e).map (fun i => (i.zero, i.size, i.bytes)) = some (some (.int .u8 0), 1, 1)) (ht : P.underlying t = some (.slice e))
    (v u : Value) (l m : List UInt8) (hs : a.eval s = v) (hx : a.eval x = u) (hown : OwnB w base e v l) (hu : Bs w u m) (hlen : l.length + m.length ≤ 140737488355328) (hb : base ≤ w.heap.size)
    (h : ∀ v' w', OwnB w' base e v' (l ++ m) → w.grownBy w' v.ownBlock → (v'.ownBlock = v.ownBlock ∨ ∀ k, v'.ownBlock = some k → w.heap.size ≤ k) → K (a.put o.dst v') w') :
    if Region.wanted o (yielded ops a.tmps) = true then Oper.wp P o a w K Q else E := by
  have hw : Region.wanted o (yielded ops a.tmps) = true := by simp [Region.wanted, hgd]
  rw [if_pos hw]
  obtain ⟨v', w', hr, h2, h3, h4⟩ := run_appD (P := P) w base t o.type e hinfo ht v u l m hown hu hlen hb
  unfold Oper.wp execOp
  simp only [ho, resolve, invoke, builtin, Sem.run_bind, Sem.run_pure, Result.andThen_ok, List.map_toArray, List.map_cons, List.map_nil, hs, hx, hr]
  exact h v' w' h2 h3 h4
theorem wpList_appD {ops : Array Oper} {rest : List Oper} {o : Oper} {a : Act} {Q : Exit → Act → World → Prop} (hgd : o.guard = none) (s x : Operand) (t : TypeId)
    (ho : o.op = .call { callee := .builtin .append, args := #[s, x], argTypes := #[t, t] })
    (base : Nat) (e : TypeId) (hinfo : (P.info? e).map (fun i => (i.zero, i.size, i.bytes)) = some (some (.int .u8 0), 1, 1)) (ht : P.underlying t = some (.slice e))
    (v u : Value) (l m : List UInt8) (hs : a.eval s = v) (hx : a.eval x = u) (hown : OwnB w base e v l) (hu : Bs w u m) (hlen : l.length + m.length ≤ 140737488355328) (hb : base ≤ w.heap.size)
    (h : ∀ v' w', OwnB w' base e v' (l ++ m) → w.grownBy w' v.ownBlock → (v'.ownBlock = v.ownBlock ∨ ∀ k, v'.ownBlock = some k → w.heap.size ≤ k) → wpList P ops Q rest (a.put o.dst v') w') : wpList P ops Q (o :: rest) a w := by
  obtain ⟨v', w', hr, h2, h3, h4⟩ := run_appD (P := P) w base t o.type e hinfo ht v u l m hown hu hlen hb
  exact Go.Lib.wpList_append_run w hgd s x t t ho _ _ hs hx v' w' hr (h v' w' h2 h3 h4)
/-- Two of the call's own rows that lie apart. -/
def Apart (v s : Value) : Prop := ∀ k, v.ownBlock = some k → s.ownBlock ≠ some k
theorem Apart.symm {v s : Value} (h : Apart v s) : Apart s v := fun k hk h2 => h k h2 hk
theorem Apart.nil (s : Value) : Apart (.slice none 0 0) s := fun k hk => by simp [Value.ownBlock] at hk
/-- .. and stay so where one grows. -/
theorem Apart.grown {base : Nat} {e : TypeId} {v v' s : Value} {l : List UInt8} (h : Apart v s) (hs : OwnB w base e s l) (hd : v'.ownBlock = v.ownBlock ∨ ∀ k, v'.ownBlock = some k → w.heap.size ≤ k) : Apart v' s := by
  intro k hk
  rcases hd with hd | hd
  · exact h k (by rw [← hd]; exact hk)
  · intro h2
    have := (World.ownsRow.lt hs k h2).2
    have := hd k hk
    omega
theorem OwnB.apart {w' : World} {base : Nat} {e : TypeId} {v s : Value} {l : List UInt8} (h : OwnB w base e s l) (ha : Apart v s) (hg : w.grownBy w' v.ownBlock) : OwnB w' base e s l := by
  refine World.ownsRow.kept h hg ?_
  rcases hv : s.ownBlock with _ | k
  · exact .inl rfl
  · refine .inr fun hk => ?_
    exact ha k (by rw [← hk]) hv
end
end Go.Proofs.YtlifjlcfoeednaaDoor
end
