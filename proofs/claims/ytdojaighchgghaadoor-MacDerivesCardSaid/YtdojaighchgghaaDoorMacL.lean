/-
  What a key is derived by: the document's Info. Conditions: as each theorem names them.
-/
import Derived.Test.YtdojaighchgghaaDoorMacJ
import Derived.Test.YtdojaighchgghaaDoorD
import Derived.Lib.AppendStr
namespace Go.Proofs.YtdojaighchgghaaDoor
open Go.RowKit
set_option linter.unusedVariables false
set_option maxRecDepth 20000

set_option maxHeartbeats 4000000 in
theorem refInfo_any (w : World) (lab : ByteArray) (hlab : lab.size ≤ 1000) (A : Option Addr) (c : Nat) (ls : List (List UInt8)) (hb : Bss w (.slice A ls.length c) ls) (hn : ls.length ≤ 100) (hl : ∀ b ∈ ls, b.length ≤ 1000) :
    Calls Tryd.prog 57 #[.string lab, .slice A ls.length c] w (RetOwn w 5 (infoB lab.data.toList ls)) := by
  obtain ⟨i0, hi, hz0, hz1, hz2⟩ := info_parts Tryd.infoB
  have HB := Lib.hid hb
  have HN := Lib.hid hn
  have HL := Lib.hid hl
  clear hb hl hn
  by_cases hs : lab.size ≤ 255
  · have d1 : decide ((255 : Int) < (lab.size : Int)) = false := by simp; omega
    have HSZ : Hid (lab.size ≤ 1000) := hlab
    go_enter Tryd.func57, Tryd.ntmps57
    go_wp2_with (at_builtin; go_must (refine Lib.wpList_append_own_string _ rfl (.tmp 15) (.tmp 16) 27 9 rfl w.heap.size 5 i0 Tryd.underlying27 Tryd.underlying9 hi hz0 hz1 hz2 (.slice (some ⟨w.heap.size, 0, none⟩) 1 1) 1 [.int .u8 (lab.size : Int)] rfl (World.ownsRow_lit w #[.int .u8 (lab.size : Int)] 1 (Nat.le_refl _) (by unfold maxLen; omega) rfl) lab rfl (by have := HSZ.out; unfold maxLen; omega) (by have := HSZ.out; omega) (by simp) ?_); intro v1 w1 own1 g1 nil1)
    obtain ⟨s2, hs2⟩ : ∃ s, s = lab := ⟨_, rfl⟩
    obtain ⟨labl, hlabl⟩ : ∃ l, l = s2.data.toList := ⟨_, rfl⟩
    have HLB : Hid (labl = s2.data.toList) := hlabl
    have hll : labl.length = lab.size := by rw [hlabl, hs2]; simp
    have hll2 : labl.length = s2.size := by rw [hll, hs2]
    have HLL : Hid (labl.length ≤ 255) := by show _ ≤ _; omega
    have HS2 := Lib.hid hs2
    rw [← hll, ← hs2] at own1
    clear hs2 hlabl
    have O1 : Hid (OwnB w1 w.heap.size 5 v1 (partsL labl (ls.take 0)).flatten) := by
      show OwnB _ _ _ _ _
      have e : (partsL labl (ls.take 0)).flatten = UInt8.ofNat labl.length :: labl := by simp [partsL]
      rw [e]
      unfold OwnB
      have e2 : cellsB (UInt8.ofNat labl.length :: labl) = [Value.int .u8 (labl.length : Int)] ++ Lib.strCells s2 := by
        rw [Lib.strCells, ← HLB.out]
        simp only [cellsB, List.map_cons, List.cons_append, List.nil_append]
        rw [UInt8.toNat_ofNat', Nat.mod_eq_of_lt (by omega)]
      rw [e2, List.length_cons, Nat.add_comm labl.length 1]
      exact own1
    have B1 := Lib.hid ((alloc_below w (.cells #[.int .u8 (lab.size : Int)] 5)).grown g1 (alloc_below w _).size (fun k hk => by have e2 : w.heap.size = k := (by simpa [Value.ownBlock] using hk); omega))
    have hres : infoB lab.data.toList ls = (partsL labl ls).flatten := by rw [HLB.out, HS2.out, infoB, List.take_of_length_le (by simp; omega)]
    have HRES := Lib.hid hres
    have hfl := partsL_flat labl ls HL.out
    have HFL : Hid ((partsL labl ls).flatten.length ≤ 1000000000) := by show _ ≤ _; have := HN.out; omega
    clear own1 g1 nil1 hres hfl hll2 hll
    obtain ⟨HN0, hHN0⟩ : ∃ n : Nat, n = ls.length := ⟨_, rfl⟩
    have HNN := Lib.hid hHN0
    go_loopw [5, 6] (fun v i wr => ∃ k : Nat, k ≤ ls.length ∧ i = .int .i64 k ∧ OwnB wr w.heap.size 5 v (partsL labl (ls.take k)).flatten ∧ Below w.heap.size w wr) (fun _ i _ => ls.length - (intOf i).toNat)
    case atStart => exact ⟨0, Nat.zero_le _, rfl, O1.out, B1.out⟩
    case round =>
      clear O1 B1 hHN0
      obtain ⟨k, hk, rfl, hO, hB⟩ := hrel
      have HO := Lib.hid hO
      have HBW := Lib.hid hB
      clear hO hB
      by_cases hlt : k < ls.length
      · obtain ⟨A', c', hv, hc1, hc2, hc3⟩ := HB.out
        injection hv with e1 e2 e3
        subst e1 e3
        obtain ⟨b, off, rfl, hcell⟩ := hc3 (by omega)
        obtain ⟨u, hcu, hbu⟩ := hcell k hlt
        have hcu2 := (HBW.out.cell (World.block_lt_of_cell? w _ hcu)).trans hcu
        have HU := Lib.hid hbu
        obtain ⟨UA2, uc2, rfl, q1, q2, _⟩ := hbu
        obtain ⟨bl, hbl⟩ : ∃ l, l = ls[k] := ⟨_, rfl⟩
        have hbn : bl.length ≤ 1000 := by rw [hbl]; exact HL.out _ (List.getElem_mem _)
        have hnx := partsL_next labl ls k hlt
        have hle : (partsL labl (ls.take k)).flatten.length ≤ 1000000 := by
          have h1 := partsL_flat labl (ls.take k) (fun b hb => HL.out b (List.mem_of_mem_take hb))
          have h2 : (ls.take k).length ≤ ls.length := by rw [List.length_take]; exact Nat.min_le_right _ _
          have := HN.out
          have := HLL.out
          omega
        rw [← hbl] at hnx HU hcu2 hcu q1
        have HNX := Lib.hid hnx
        obtain ⟨m, hm⟩ : ∃ m, m = bl.length := ⟨_, rfl⟩
        have HM := Lib.hid hm
        rw [← hm] at hcu2 hbn q1 HU
        have v1 : IntKind.u64.wrap (m : Int) = (m : Int) := by rw [IntKind.wrap_u64]; omega
        have HCU := Lib.hid hcu
        unfold maxLen at q2 hc2
        clear hcell hbl hnx hm hc3
        go_wp2_with fail
        refine (refHigh_any _ m (by omega) 4 (by omega)).mono ?_
        intro e w4 h
        obtain ⟨u4, he, hu4, b4⟩ := h
        subst he
        have e4 : highI m 4 = highB4 m := by rw [highI, show (4 : Int) = ((4 : Nat) : Int) from rfl, lowI_in m 4 (by omega) (by omega), highB4]
        rw [e4] at hu4
        have HU4 := Lib.hid hu4
        have HO4 := Lib.hid (HO.out.below b4)
        have B4 := Lib.hid (below_size HBW.out b4)
        have h4l : (highB4 m).length = 4 := by rw [highB4, List.length_reverse, lowB_length]
        clear hu4 b4 HO HBW e4
        go_wp2_with (first
          | (at_builtin; refine wpList_appB _ rfl (.tmp 24) (.tmp 31) 27 rfl w 5 Tryd.infoB Tryd.underlying27 _ _ (partsL labl (ls.take k)).flatten (highB4 m) rfl rfl HO4.out HU4.out (by omega) B4.out ?_; intro v6 w6 O6 B6; have HO6 := Lib.hid O6; have HB6 := Lib.hid B6; have hcu3 := (B6.cell (World.block_lt_of_cell? w _ HCU.out)).trans HCU.out; rw [← HM.out] at hcu3; clear O6 B6)
          | (at_builtin; refine wpList_appB _ rfl (.tmp 33) (.tmp 37) 27 rfl w 5 Tryd.infoB Tryd.underlying27 _ _ ((partsL labl (ls.take k)).flatten ++ highB4 m) bl rfl rfl HO6.out (HU.out.below HB6.out) (by rw [List.length_append]; have := HM.out; omega) HB6.out ?_; intro v7 w7 O7 B7; have HB7 := Lib.hid B7; clear B7))
        have HO7 : Hid (OwnB w7 w.heap.size 5 v7 (partsL labl (ls.take (k + 1))).flatten) := by
          show OwnB _ _ _ _ _
          rw [HNX.out, List.flatten_append, ← HM.out]
          have e : ([highB4 m, bl] : List (List UInt8)).flatten = highB4 m ++ bl := by simp
          rw [e, ← List.append_assoc]
          exact O7
        clear O7 hcu3
        go_roundw
        case rel => exact ⟨k + 1, by omega, by go_num, HO7.out, HB7.out⟩
        case measure => simp [intOf]; omega
      · have hkn : k = ls.length := by omega
        have HO2 := Lib.hid HO.out
        rw [hkn, List.take_of_length_le (Nat.le_refl _)] at HO2
        clear hkn HO
        go_wp2
        go_ret
        exact ⟨_, rfl, by rw [HRES.out]; exact HO2.out, HBW.out⟩
  · have d1 : decide ((255 : Int) < (lab.size : Int)) = true := by simp; omega
    have HSZ : Hid ((lab.extract 0 255).size ≤ 1000) := by show _ ≤ _; rw [ByteArray.size_extract]; omega
    have hmin : min 255 lab.size = 255 := by omega
    go_enter Tryd.func57, Tryd.ntmps57
    go_wp2_with (at_builtin; go_must (refine Lib.wpList_append_own_string _ rfl (.tmp 15) (.tmp 16) 27 9 rfl w.heap.size 5 i0 Tryd.underlying27 Tryd.underlying9 hi hz0 hz1 hz2 (.slice (some ⟨w.heap.size, 0, none⟩) 1 1) 1 [.int .u8 (255 : Int)] rfl (World.ownsRow_lit w #[.int .u8 (255 : Int)] 1 (Nat.le_refl _) (by unfold maxLen; omega) rfl) (lab.extract 0 255) rfl (by have := HSZ.out; unfold maxLen; omega) (by have := HSZ.out; omega) (by simp) ?_); intro v1 w1 own1 g1 nil1)
    obtain ⟨s2, hs2⟩ : ∃ s, s = lab.extract 0 255 := ⟨_, rfl⟩
    obtain ⟨labl, hlabl⟩ : ∃ l, l = s2.data.toList := ⟨_, rfl⟩
    have HLB : Hid (labl = s2.data.toList) := hlabl
    have hll2 : labl.length = s2.size := by rw [hlabl]; simp
    have hll : labl.length = 255 := by rw [hll2, hs2, ByteArray.size_extract]; omega
    have HLL : Hid (labl.length ≤ 255) := by show _ ≤ _; omega
    have HS2 : Hid (s2.data.toList = lab.data.toList.take 255) := by show _ = _; rw [hs2]; simp
    have h255 : (lab.extract 0 255).size = 255 := by rw [← hs2]; omega
    rw [h255, ← hs2] at own1
    have own1 : w1.ownsRow w.heap.size 5 1 v1 (1 + labl.length) ([.int .u8 (labl.length : Int)] ++ Lib.strCells s2) := by rw [hll]; exact own1
    clear hs2 hlabl
    have O1 : Hid (OwnB w1 w.heap.size 5 v1 (partsL labl (ls.take 0)).flatten) := by
      show OwnB _ _ _ _ _
      have e : (partsL labl (ls.take 0)).flatten = UInt8.ofNat labl.length :: labl := by simp [partsL]
      rw [e]
      unfold OwnB
      have e2 : cellsB (UInt8.ofNat labl.length :: labl) = [Value.int .u8 (labl.length : Int)] ++ Lib.strCells s2 := by
        rw [Lib.strCells, ← HLB.out]
        simp only [cellsB, List.map_cons, List.cons_append, List.nil_append]
        rw [UInt8.toNat_ofNat', Nat.mod_eq_of_lt (by omega)]
      rw [e2, List.length_cons, Nat.add_comm labl.length 1]
      exact own1
    have B1 := Lib.hid ((alloc_below w (.cells #[.int .u8 (255 : Int)] 5)).grown g1 (alloc_below w _).size (fun k hk => by have e2 : w.heap.size = k := (by simpa [Value.ownBlock] using hk); omega))
    have hres : infoB lab.data.toList ls = (partsL labl ls).flatten := by rw [HLB.out, HS2.out, infoB]
    have HRES := Lib.hid hres
    have hfl := partsL_flat labl ls HL.out
    have HFL : Hid ((partsL labl ls).flatten.length ≤ 1000000000) := by show _ ≤ _; have := HN.out; omega
    clear own1 g1 nil1 hres hfl hll2 hll
    obtain ⟨HN0, hHN0⟩ : ∃ n : Nat, n = ls.length := ⟨_, rfl⟩
    have HNN := Lib.hid hHN0
    go_loopw [5, 6] (fun v i wr => ∃ k : Nat, k ≤ ls.length ∧ i = .int .i64 k ∧ OwnB wr w.heap.size 5 v (partsL labl (ls.take k)).flatten ∧ Below w.heap.size w wr) (fun _ i _ => ls.length - (intOf i).toNat)
    case atStart => exact ⟨0, Nat.zero_le _, rfl, O1.out, B1.out⟩
    case round =>
      clear O1 B1 hHN0
      obtain ⟨k, hk, rfl, hO, hB⟩ := hrel
      have HO := Lib.hid hO
      have HBW := Lib.hid hB
      clear hO hB
      by_cases hlt : k < ls.length
      · obtain ⟨A', c', hv, hc1, hc2, hc3⟩ := HB.out
        injection hv with e1 e2 e3
        subst e1 e3
        obtain ⟨b, off, rfl, hcell⟩ := hc3 (by omega)
        obtain ⟨u, hcu, hbu⟩ := hcell k hlt
        have hcu2 := (HBW.out.cell (World.block_lt_of_cell? w _ hcu)).trans hcu
        have HU := Lib.hid hbu
        obtain ⟨UA2, uc2, rfl, q1, q2, _⟩ := hbu
        obtain ⟨bl, hbl⟩ : ∃ l, l = ls[k] := ⟨_, rfl⟩
        have hbn : bl.length ≤ 1000 := by rw [hbl]; exact HL.out _ (List.getElem_mem _)
        have hnx := partsL_next labl ls k hlt
        have hle : (partsL labl (ls.take k)).flatten.length ≤ 1000000 := by
          have h1 := partsL_flat labl (ls.take k) (fun b hb => HL.out b (List.mem_of_mem_take hb))
          have h2 : (ls.take k).length ≤ ls.length := by rw [List.length_take]; exact Nat.min_le_right _ _
          have := HN.out
          have := HLL.out
          omega
        rw [← hbl] at hnx HU hcu2 hcu q1
        have HNX := Lib.hid hnx
        obtain ⟨m, hm⟩ : ∃ m, m = bl.length := ⟨_, rfl⟩
        have HM := Lib.hid hm
        rw [← hm] at hcu2 hbn q1 HU
        have v1 : IntKind.u64.wrap (m : Int) = (m : Int) := by rw [IntKind.wrap_u64]; omega
        have HCU := Lib.hid hcu
        unfold maxLen at q2 hc2
        clear hcell hbl hnx hm hc3
        go_wp2_with fail
        refine (refHigh_any _ m (by omega) 4 (by omega)).mono ?_
        intro e w4 h
        obtain ⟨u4, he, hu4, b4⟩ := h
        subst he
        have e4 : highI m 4 = highB4 m := by rw [highI, show (4 : Int) = ((4 : Nat) : Int) from rfl, lowI_in m 4 (by omega) (by omega), highB4]
        rw [e4] at hu4
        have HU4 := Lib.hid hu4
        have HO4 := Lib.hid (HO.out.below b4)
        have B4 := Lib.hid (below_size HBW.out b4)
        have h4l : (highB4 m).length = 4 := by rw [highB4, List.length_reverse, lowB_length]
        clear hu4 b4 HO HBW e4
        go_wp2_with (first
          | (at_builtin; refine wpList_appB _ rfl (.tmp 24) (.tmp 31) 27 rfl w 5 Tryd.infoB Tryd.underlying27 _ _ (partsL labl (ls.take k)).flatten (highB4 m) rfl rfl HO4.out HU4.out (by omega) B4.out ?_; intro v6 w6 O6 B6; have HO6 := Lib.hid O6; have HB6 := Lib.hid B6; have hcu3 := (B6.cell (World.block_lt_of_cell? w _ HCU.out)).trans HCU.out; rw [← HM.out] at hcu3; clear O6 B6)
          | (at_builtin; refine wpList_appB _ rfl (.tmp 33) (.tmp 37) 27 rfl w 5 Tryd.infoB Tryd.underlying27 _ _ ((partsL labl (ls.take k)).flatten ++ highB4 m) bl rfl rfl HO6.out (HU.out.below HB6.out) (by rw [List.length_append]; have := HM.out; omega) HB6.out ?_; intro v7 w7 O7 B7; have HB7 := Lib.hid B7; clear B7))
        have HO7 : Hid (OwnB w7 w.heap.size 5 v7 (partsL labl (ls.take (k + 1))).flatten) := by
          show OwnB _ _ _ _ _
          rw [HNX.out, List.flatten_append, ← HM.out]
          have e : ([highB4 m, bl] : List (List UInt8)).flatten = highB4 m ++ bl := by simp
          rw [e, ← List.append_assoc]
          exact O7
        clear O7 hcu3
        go_roundw
        case rel => exact ⟨k + 1, by omega, by go_num, HO7.out, HB7.out⟩
        case measure => simp [intOf]; omega
      · have hkn : k = ls.length := by omega
        have HO2 := Lib.hid HO.out
        rw [hkn, List.take_of_length_le (Nat.le_refl _)] at HO2
        clear hkn HO
        go_wp2
        go_ret
        exact ⟨_, rfl, by rw [HRES.out]; exact HO2.out, HBW.out⟩
end Go.Proofs.YtdojaighchgghaaDoor
