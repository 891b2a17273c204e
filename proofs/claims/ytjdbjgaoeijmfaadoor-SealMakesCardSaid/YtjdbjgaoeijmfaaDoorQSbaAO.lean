/-
  Texts that belong together, merged: MacL, SealRefB, StreamR, StreamS. Conditions: as each theorem names them.
-/
import Derived.Test.YtjdbjgaoeijmfaaDoorQSbaAK
import Derived.Test.YtjdbjgaoeijmfaaDoorQSbaAB
import Derived.Lib.AppendStr
import Derived.Test.YtjdbjgaoeijmfaaDoorQSbaAN
import Derived.Test.YtjdbjgaoeijmfaaDoorQSbaAM
import Derived.Test.YtjdbjgaoeijmfaaDoorQSbaAJ
import Derived.Test.YtjdbjgaoeijmfaaDoorQSbaAC
import Derived.Test.YtjdbjgaoeijmfaaDoorQSbaAF
import Derived.Deep.QuietTactic
import Derived.BigQuiet
import Derived.Test.YtjdbjgaoeijmfaaDoorQSbaAD
section
namespace Go.Proofs.YtjdbjgaoeijmfaaDoor
open Go.RowKit
set_option linter.unusedVariables false
set_option maxRecDepth 20000

set_option maxHeartbeats 4000000 in
theorem refInfo_any (w : World) (lab : ByteArray) (hlab : lab.size ≤ 1000) (A : Option Addr) (c : Nat) (ls : List (List UInt8)) (hb : Bss w (.slice A ls.length c) ls) (hn : ls.length ≤ 100) (hl : ∀ b ∈ ls, b.length ≤ 1000) :
    Calls Tryd.prog 30 #[.string lab, .slice A ls.length c] w (RetOwn w 5 (infoB lab.data.toList ls)) := by
  obtain ⟨i0, hi, hz0, hz1, hz2⟩ := info_parts Tryd.infoB
  have HB := Lib.hid hb
  have HN := Lib.hid hn
  have HL := Lib.hid hl
  clear hb hl hn
  by_cases hs : lab.size ≤ 255
  · have d1 : decide ((255 : Int) < (lab.size : Int)) = false := by simp; omega
    have HSZ : Hid (lab.size ≤ 1000) := hlab
    go_enter Tryd.func30, Tryd.ntmps30
    go_wp2_with (at_builtin; go_must (refine Lib.wpList_append_own_string _ rfl (.tmp 15) (.tmp 16) 24 9 rfl w.heap.size 5 i0 Tryd.underlying24 Tryd.underlying9 hi hz0 hz1 hz2 (.slice (some ⟨w.heap.size, 0, none⟩) 1 1) 1 [.int .u8 (lab.size : Int)] rfl (World.ownsRow_lit w #[.int .u8 (lab.size : Int)] 1 (Nat.le_refl _) (by unfold maxLen; omega) rfl) lab rfl (by have := HSZ.out; unfold maxLen; omega) (by have := HSZ.out; omega) (by simp) ?_); intro v1 w1 own1 g1 nil1)
    obtain ⟨s2, hs2⟩ : ∃ s, s = lab := ⟨_, rfl⟩
    obtain ⟨labl, hlabl⟩ : ∃ l, l = s2.data.toList := ⟨_, rfl⟩
    have HLB : Hid (labl = s2.data.toList) := hlabl
    have hll : labl.length = lab.size := by rw [hlabl, hs2]; simp
    have hll2 : labl.length = s2.size := by rw [hll, hs2]
    have HLL : Hid (labl.length ≤ 255) := by show _ ≤ _; omega
    have HS2 := Lib.hid hs2
    rw [← hll, ← hs2] at own1
    clear hs2 hlabl
    have O1 : Hid (OwnB w1 w.heap.size 5 v1 (partsL labl (ls.take 0)).flatten) := by
      show OwnB _ _ _ _ _
      have e : (partsL labl (ls.take 0)).flatten = UInt8.ofNat labl.length :: labl := by simp [partsL]
      rw [e]
      unfold OwnB
      have e2 : cellsB (UInt8.ofNat labl.length :: labl) = [Value.int .u8 (labl.length : Int)] ++ Lib.strCells s2 := by
        rw [Lib.strCells, ← HLB.out]
        simp only [cellsB, List.map_cons, List.cons_append, List.nil_append]
        rw [UInt8.toNat_ofNat', Nat.mod_eq_of_lt (by omega)]
      rw [e2, List.length_cons, Nat.add_comm labl.length 1]
      exact own1
    have B1 := Lib.hid ((alloc_below w (.cells #[.int .u8 (lab.size : Int)] 5)).grown g1 (alloc_below w _).size (fun k hk => by have e2 : w.heap.size = k := (by simpa [Value.ownBlock] using hk); omega))
    have hres : infoB lab.data.toList ls = (partsL labl ls).flatten := by rw [HLB.out, HS2.out, infoB, List.take_of_length_le (by simp; omega)]
    have HRES := Lib.hid hres
    have hfl := partsL_flat labl ls HL.out
    have HFL : Hid ((partsL labl ls).flatten.length ≤ 1000000000) := by show _ ≤ _; have := HN.out; omega
    clear own1 g1 nil1 hres hfl hll2 hll
    obtain ⟨HN0, hHN0⟩ : ∃ n : Nat, n = ls.length := ⟨_, rfl⟩
    have HNN := Lib.hid hHN0
    go_loopw [5, 6] (fun v i wr => ∃ k : Nat, k ≤ ls.length ∧ i = .int .i64 k ∧ OwnB wr w.heap.size 5 v (partsL labl (ls.take k)).flatten ∧ Below w.heap.size w wr) (fun _ i _ => ls.length - (intOf i).toNat)
    case atStart => exact ⟨0, Nat.zero_le _, rfl, O1.out, B1.out⟩
    case round =>
      clear O1 B1 hHN0
      obtain ⟨k, hk, rfl, hO, hB⟩ := hrel
      have HO := Lib.hid hO
      have HBW := Lib.hid hB
      clear hO hB
      by_cases hlt : k < ls.length
      · obtain ⟨A', c', hv, hc1, hc2, hc3⟩ := HB.out
        injection hv with e1 e2 e3
        subst e1 e3
        obtain ⟨b, off, rfl, hcell⟩ := hc3 (by omega)
        obtain ⟨u, hcu, hbu⟩ := hcell k hlt
        have hcu2 := (HBW.out.cell (World.block_lt_of_cell? w _ hcu)).trans hcu
        have HU := Lib.hid hbu
        obtain ⟨UA2, uc2, rfl, q1, q2, _⟩ := hbu
        obtain ⟨bl, hbl⟩ : ∃ l, l = ls[k] := ⟨_, rfl⟩
        have hbn : bl.length ≤ 1000 := by rw [hbl]; exact HL.out _ (List.getElem_mem _)
        have hnx := partsL_next labl ls k hlt
        have hle : (partsL labl (ls.take k)).flatten.length ≤ 1000000 := by
          have h1 := partsL_flat labl (ls.take k) (fun b hb => HL.out b (List.mem_of_mem_take hb))
          have h2 : (ls.take k).length ≤ ls.length := by rw [List.length_take]; exact Nat.min_le_right _ _
          have := HN.out
          have := HLL.out
          omega
        rw [← hbl] at hnx HU hcu2 hcu q1
        have HNX := Lib.hid hnx
        obtain ⟨m, hm⟩ : ∃ m, m = bl.length := ⟨_, rfl⟩
        have HM := Lib.hid hm
        rw [← hm] at hcu2 hbn q1 HU
        have v1 : IntKind.u64.wrap (m : Int) = (m : Int) := by rw [IntKind.wrap_u64]; omega
        have HCU := Lib.hid hcu
        unfold maxLen at q2 hc2
        clear hcell hbl hnx hm hc3
        go_wp2_with fail
        refine (refHigh_any _ m (by omega) 4 (by omega)).mono ?_
        intro e w4 h
        obtain ⟨u4, he, hu4, b4⟩ := h
        subst he
        have e4 : highI m 4 = highB4 m := by rw [highI, show (4 : Int) = ((4 : Nat) : Int) from rfl, lowI_in m 4 (by omega) (by omega), highB4]
        rw [e4] at hu4
        have HU4 := Lib.hid hu4
        have HO4 := Lib.hid (HO.out.below b4)
        have B4 := Lib.hid (below_size HBW.out b4)
        have h4l : (highB4 m).length = 4 := by rw [highB4, List.length_reverse, lowB_length]
        clear hu4 b4 HO HBW e4
        go_wp2_with (first
          | (at_builtin; refine wpList_appB _ rfl (.tmp 24) (.tmp 31) 24 rfl w 5 Tryd.infoB Tryd.underlying24 _ _ (partsL labl (ls.take k)).flatten (highB4 m) rfl rfl HO4.out HU4.out (by omega) B4.out ?_; intro v6 w6 O6 B6; have HO6 := Lib.hid O6; have HB6 := Lib.hid B6; have hcu3 := (B6.cell (World.block_lt_of_cell? w _ HCU.out)).trans HCU.out; rw [← HM.out] at hcu3; clear O6 B6)
          | (at_builtin; refine wpList_appB _ rfl (.tmp 33) (.tmp 37) 24 rfl w 5 Tryd.infoB Tryd.underlying24 _ _ ((partsL labl (ls.take k)).flatten ++ highB4 m) bl rfl rfl HO6.out (HU.out.below HB6.out) (by rw [List.length_append]; have := HM.out; omega) HB6.out ?_; intro v7 w7 O7 B7; have HB7 := Lib.hid B7; clear B7))
        have HO7 : Hid (OwnB w7 w.heap.size 5 v7 (partsL labl (ls.take (k + 1))).flatten) := by
          show OwnB _ _ _ _ _
          rw [HNX.out, List.flatten_append, ← HM.out]
          have e : ([highB4 m, bl] : List (List UInt8)).flatten = highB4 m ++ bl := by simp
          rw [e, ← List.append_assoc]
          exact O7
        clear O7 hcu3
        go_roundw
        case rel => exact ⟨k + 1, by omega, by go_num, HO7.out, HB7.out⟩
        case measure => simp [intOf]; omega
      · have hkn : k = ls.length := by omega
        have HO2 := Lib.hid HO.out
        rw [hkn, List.take_of_length_le (Nat.le_refl _)] at HO2
        clear hkn HO
        go_wp2
        go_ret
        exact ⟨_, rfl, by rw [HRES.out]; exact HO2.out, HBW.out⟩
  · have d1 : decide ((255 : Int) < (lab.size : Int)) = true := by simp; omega
    have HSZ : Hid ((lab.extract 0 255).size ≤ 1000) := by show _ ≤ _; rw [ByteArray.size_extract]; omega
    have hmin : min 255 lab.size = 255 := by omega
    go_enter Tryd.func30, Tryd.ntmps30
    go_wp2_with (at_builtin; go_must (refine Lib.wpList_append_own_string _ rfl (.tmp 15) (.tmp 16) 24 9 rfl w.heap.size 5 i0 Tryd.underlying24 Tryd.underlying9 hi hz0 hz1 hz2 (.slice (some ⟨w.heap.size, 0, none⟩) 1 1) 1 [.int .u8 (255 : Int)] rfl (World.ownsRow_lit w #[.int .u8 (255 : Int)] 1 (Nat.le_refl _) (by unfold maxLen; omega) rfl) (lab.extract 0 255) rfl (by have := HSZ.out; unfold maxLen; omega) (by have := HSZ.out; omega) (by simp) ?_); intro v1 w1 own1 g1 nil1)
    obtain ⟨s2, hs2⟩ : ∃ s, s = lab.extract 0 255 := ⟨_, rfl⟩
    obtain ⟨labl, hlabl⟩ : ∃ l, l = s2.data.toList := ⟨_, rfl⟩
    have HLB : Hid (labl = s2.data.toList) := hlabl
    have hll2 : labl.length = s2.size := by rw [hlabl]; simp
    have hll : labl.length = 255 := by rw [hll2, hs2, ByteArray.size_extract]; omega
    have HLL : Hid (labl.length ≤ 255) := by show _ ≤ _; omega
    have HS2 : Hid (s2.data.toList = lab.data.toList.take 255) := by show _ = _; rw [hs2]; simp
    have h255 : (lab.extract 0 255).size = 255 := by rw [← hs2]; omega
    rw [h255, ← hs2] at own1
    have own1 : w1.ownsRow w.heap.size 5 1 v1 (1 + labl.length) ([.int .u8 (labl.length : Int)] ++ Lib.strCells s2) := by rw [hll]; exact own1
    clear hs2 hlabl
    have O1 : Hid (OwnB w1 w.heap.size 5 v1 (partsL labl (ls.take 0)).flatten) := by
      show OwnB _ _ _ _ _
      have e : (partsL labl (ls.take 0)).flatten = UInt8.ofNat labl.length :: labl := by simp [partsL]
      rw [e]
      unfold OwnB
      have e2 : cellsB (UInt8.ofNat labl.length :: labl) = [Value.int .u8 (labl.length : Int)] ++ Lib.strCells s2 := by
        rw [Lib.strCells, ← HLB.out]
        simp only [cellsB, List.map_cons, List.cons_append, List.nil_append]
        rw [UInt8.toNat_ofNat', Nat.mod_eq_of_lt (by omega)]
      rw [e2, List.length_cons, Nat.add_comm labl.length 1]
      exact own1
    have B1 := Lib.hid ((alloc_below w (.cells #[.int .u8 (255 : Int)] 5)).grown g1 (alloc_below w _).size (fun k hk => by have e2 : w.heap.size = k := (by simpa [Value.ownBlock] using hk); omega))
    have hres : infoB lab.data.toList ls = (partsL labl ls).flatten := by rw [HLB.out, HS2.out, infoB]
    have HRES := Lib.hid hres
    have hfl := partsL_flat labl ls HL.out
    have HFL : Hid ((partsL labl ls).flatten.length ≤ 1000000000) := by show _ ≤ _; have := HN.out; omega
    clear own1 g1 nil1 hres hfl hll2 hll
    obtain ⟨HN0, hHN0⟩ : ∃ n : Nat, n = ls.length := ⟨_, rfl⟩
    have HNN := Lib.hid hHN0
    go_loopw [5, 6] (fun v i wr => ∃ k : Nat, k ≤ ls.length ∧ i = .int .i64 k ∧ OwnB wr w.heap.size 5 v (partsL labl (ls.take k)).flatten ∧ Below w.heap.size w wr) (fun _ i _ => ls.length - (intOf i).toNat)
    case atStart => exact ⟨0, Nat.zero_le _, rfl, O1.out, B1.out⟩
    case round =>
      clear O1 B1 hHN0
      obtain ⟨k, hk, rfl, hO, hB⟩ := hrel
      have HO := Lib.hid hO
      have HBW := Lib.hid hB
      clear hO hB
      by_cases hlt : k < ls.length
      · obtain ⟨A', c', hv, hc1, hc2, hc3⟩ := HB.out
        injection hv with e1 e2 e3
        subst e1 e3
        obtain ⟨b, off, rfl, hcell⟩ := hc3 (by omega)
        obtain ⟨u, hcu, hbu⟩ := hcell k hlt
        have hcu2 := (HBW.out.cell (World.block_lt_of_cell? w _ hcu)).trans hcu
        have HU := Lib.hid hbu
        obtain ⟨UA2, uc2, rfl, q1, q2, _⟩ := hbu
        obtain ⟨bl, hbl⟩ : ∃ l, l = ls[k] := ⟨_, rfl⟩
        have hbn : bl.length ≤ 1000 := by rw [hbl]; exact HL.out _ (List.getElem_mem _)
        have hnx := partsL_next labl ls k hlt
        have hle : (partsL labl (ls.take k)).flatten.length ≤ 1000000 := by
          have h1 := partsL_flat labl (ls.take k) (fun b hb => HL.out b (List.mem_of_mem_take hb))
          have h2 : (ls.take k).length ≤ ls.length := by rw [List.length_take]; exact Nat.min_le_right _ _
          have := HN.out
          have := HLL.out
          omega
        rw [← hbl] at hnx HU hcu2 hcu q1
        have HNX := Lib.hid hnx
        obtain ⟨m, hm⟩ : ∃ m, m = bl.length := ⟨_, rfl⟩
        have HM := Lib.hid hm
        rw [← hm] at hcu2 hbn q1 HU
        have v1 : IntKind.u64.wrap (m : Int) = (m : Int) := by rw [IntKind.wrap_u64]; omega
        have HCU := Lib.hid hcu
        unfold maxLen at q2 hc2
        clear hcell hbl hnx hm hc3
        go_wp2_with fail
        refine (refHigh_any _ m (by omega) 4 (by omega)).mono ?_
        intro e w4 h
        obtain ⟨u4, he, hu4, b4⟩ := h
        subst he
        have e4 : highI m 4 = highB4 m := by rw [highI, show (4 : Int) = ((4 : Nat) : Int) from rfl, lowI_in m 4 (by omega) (by omega), highB4]
        rw [e4] at hu4
        have HU4 := Lib.hid hu4
        have HO4 := Lib.hid (HO.out.below b4)
        have B4 := Lib.hid (below_size HBW.out b4)
        have h4l : (highB4 m).length = 4 := by rw [highB4, List.length_reverse, lowB_length]
        clear hu4 b4 HO HBW e4
        go_wp2_with (first
          | (at_builtin; refine wpList_appB _ rfl (.tmp 24) (.tmp 31) 24 rfl w 5 Tryd.infoB Tryd.underlying24 _ _ (partsL labl (ls.take k)).flatten (highB4 m) rfl rfl HO4.out HU4.out (by omega) B4.out ?_; intro v6 w6 O6 B6; have HO6 := Lib.hid O6; have HB6 := Lib.hid B6; have hcu3 := (B6.cell (World.block_lt_of_cell? w _ HCU.out)).trans HCU.out; rw [← HM.out] at hcu3; clear O6 B6)
          | (at_builtin; refine wpList_appB _ rfl (.tmp 33) (.tmp 37) 24 rfl w 5 Tryd.infoB Tryd.underlying24 _ _ ((partsL labl (ls.take k)).flatten ++ highB4 m) bl rfl rfl HO6.out (HU.out.below HB6.out) (by rw [List.length_append]; have := HM.out; omega) HB6.out ?_; intro v7 w7 O7 B7; have HB7 := Lib.hid B7; clear B7))
        have HO7 : Hid (OwnB w7 w.heap.size 5 v7 (partsL labl (ls.take (k + 1))).flatten) := by
          show OwnB _ _ _ _ _
          rw [HNX.out, List.flatten_append, ← HM.out]
          have e : ([highB4 m, bl] : List (List UInt8)).flatten = highB4 m ++ bl := by simp
          rw [e, ← List.append_assoc]
          exact O7
        clear O7 hcu3
        go_roundw
        case rel => exact ⟨k + 1, by omega, by go_num, HO7.out, HB7.out⟩
        case measure => simp [intOf]; omega
      · have hkn : k = ls.length := by omega
        have HO2 := Lib.hid HO.out
        rw [hkn, List.take_of_length_le (Nat.le_refl _)] at HO2
        clear hkn HO
        go_wp2
        go_ret
        exact ⟨_, rfl, by rw [HRES.out]; exact HO2.out, HBW.out⟩
end Go.Proofs.YtjdbjgaoeijmfaaDoor
end
section
namespace Go.Proofs.YtjdbjgaoeijmfaaDoor
open Go.RowKit
set_option linter.unusedVariables false
set_option maxRecDepth 20000

theorem refDerive_none (w0 w : World) (g n : Nat) (lab : ByteArray) (hl : lab.size ≤ 1000) (key : List UInt8) (h : LogR w0 w g n w) (hn : n ≤ 1000000) (hk : key.length = 32) (hi : (infoB lab.data.toList []).length ≤ 90000) :
    Calls Tryd.prog 20 #[.pointer (some ⟨g, 0, none⟩), .agg (keyC key), .string lab, .slice none 0 0] w fun e w' => ∃ n', n' ≤ n + 3 ∧ e = .returned (.agg (keyC (macB key (infoB lab.data.toList [] ++ [1])))) ∧ LogR w0 w g n' w' :=
  refDerive_of w0 w g n lab none 0 0 key (infoB lab.data.toList []) _ rfl h hn hk hi fun x _ => refInfo_any x lab hl none 0 [] (Bss.nil x) (by decide) (by simp)
set_option maxHeartbeats 2000000 in
theorem refTag_any (w0 w : World) (g n : Nat) (hr : LogR w0 w g n w) (hn : n ≤ 950000) (key : List UInt8) (hk : key.length = 32) (va vh : Value) (aside hid : List UInt8) (ha : Bs w va aside) (hh : Bs w vh hid) (hal : aside.length ≤ 4000) (hhl : hid.length ≤ 5000) :
    Calls Tryd.prog 13 #[.pointer (some ⟨g, 0, none⟩), keyV key, va, vh] w fun e x => ∃ n', n' ≤ n + 6 ∧ e = .returned (.agg (keyC (tagB key aside hid))) ∧ LogR w0 w g n' x := by
  have HR := Lib.hid hr
  have HK := Lib.hid hk
  have HA := Lib.hid ha
  have HH := Lib.hid hh
  have hgl := hr.glt
  obtain ⟨AA, ac, rfl, _, _, _⟩ := ha
  obtain ⟨TA, tc, rfl, _, _, _⟩ := hh
  obtain ⟨tk, htk⟩ : ∃ k, k = tagK key := ⟨_, rfl⟩
  obtain ⟨sg, hsg⟩ : ∃ k, k = (lowB aside.length 8).reverse ++ (aside ++ hid) := ⟨_, rfl⟩
  obtain ⟨tg, htg⟩ : ∃ k, k = tagB key aside hid := ⟨_, rfl⟩
  have hTG : macB tk sg = tg := by rw [htk, hsg, htg]; rfl
  have LK : Hid (tk.length = 32) := by show _ = _; rw [htk]; exact tagK_length key
  have LT : Hid (tg.length = 32) := by show _ = _; rw [htg, tagB, macB_length]
  have LS : Hid (sg.length ≤ 100000) := by show _ ≤ _; rw [hsg, List.length_append, List.length_reverse, lowB_length, List.length_append]; omega
  have HD : Hid (∀ x m, LogR w0 x g m x → m ≤ 1000000 → Calls Tryd.prog 20 #[.pointer (some ⟨g, 0, none⟩), .agg (keyC key), .string { data := #[116, 97, 103] }, .slice none 0 0] x fun e w' => ∃ n', n' ≤ m + 3 ∧ e = .returned (.agg (keyC tk)) ∧ LogR w0 x g n' w') := fun x m h hm => by
    have h1 := refDerive_none w0 x g m { data := #[116, 97, 103] } (by decide) key h hm HK.out (by decide)
    rw [htk]
    exact h1
  have HSG : Hid (∀ x, Bs x (.slice AA aside.length ac) aside → Bs x (.slice TA hid.length tc) hid → Calls Tryd.prog 23 #[.slice AA aside.length ac, .slice TA hid.length tc] x (RetOwn x 5 sg)) := fun x h1 h2 => by rw [hsg]; exact refSigned_own x _ _ aside hid h1 h2 hal hhl
  have HM : Hid (∀ x m u v, LogR w0 x g m x → m ≤ 100000000 → Bs x u tk → Bs x v sg → Calls Tryd.prog 22 #[.pointer (some ⟨g, 0, none⟩), u, v] x fun e w' => ∃ n', n' ≤ m + 3 ∧ e = .returned (.agg (keyC tg)) ∧ LogR w0 x g n' w') := fun x m u v h hm hu hv => by
    have h1 := refMacSum_any w0 x g m u v tk sg h hm hu (by rw [LK.out]; omega) hv LS.out
    rwa [hTG] at h1
  have HBY : Hid (∀ x, Calls Tryd.prog 16 #[.agg (keyC tk)] x (RetOwn x 5 tk)) := fun x => refBytes_own x tk LK.out
  rw [← htg]
  clear htk hsg htg hTG hr hk
  go_enter Tryd.func13, Tryd.ntmps13
  go_wp2_with (first
    | ((with_reducible refine wpList_box_row (o := ⟨some 5, _, _, _, _, _⟩) rfl 23 (.tmp 1) rfl (keyC key) (by with_unfolding_all rfl) ?_); intro g5 w1 n1)
    | ((with_reducible refine wpList_alloc_row (o := ⟨some 8, _, _, _, _, _⟩) rfl 23 rfl (keyC zeroKey) Tryd.zeroK ?_); intro g8 w2 n2)
    | (with_reducible refine wpList_load_row (o := ⟨some 11, _, _, _, _, _⟩) rfl 23 (.tmp 5) rfl g5 (by with_unfolding_all rfl) 23 (keyC key) (0, 0) (.array 32 5) (by with_unfolding_all exact n1.row.kept n2.below) Tryd.underlying23 rfl (Tryd.sizeKey key HK.out) ?_))
  have b2 := below_size n1.below n2.below
  have R2 := Lib.hid (HR.out.kept b2)
  have S2 := Lib.hid n2.row
  have h8 : w.heap.size ≤ g8 := by have := n2.spot; have := n1.below.size; omega
  have h8g : g8 ≠ g := by omega
  clear n1 n2 HR b2
  refine (HD.out _ n (by exact R2.out.self) (by omega)).mono ?_
  intro e w3 h
  obtain ⟨n3, hn3, he, r3⟩ := h
  subst he
  have R3 := Lib.hid (R2.out.trans r3)
  have S3 := Lib.hid (r3.other S2.out h8g)
  have l8 := S3.out.lt
  clear r3 R2 S2 HD
  go_wp2_with (first
    | ((with_reducible refine wpList_alloc_row (o := ⟨some 9, _, _, _, _, _⟩) rfl 23 rfl (keyC zeroKey) Tryd.zeroK ?_); intro g9 w4 n4)
    | ((with_reducible refine wpList_store_row (o := ⟨none, _, _, _, _, _⟩) rfl 23 (.tmp 9) (.tmp 12) rfl g9 23 _ (keyC tk) (by with_unfolding_all rfl) (by with_unfolding_all rfl) n4.row (keyC_same zeroKey_length LK.out) (Tryd.sizeKey tk LK.out) (keyC_one tk) ?_); intro w5 p5; have b5 := (laid_put n4 p5).1; have R5 := Lib.hid (R3.out.kept b5); have S5 := Lib.hid (S3.out.kept b5); have K5 := Lib.hid p5.row; clear n4 p5 b5 R3 S3)
    | (with_reducible refine wpList_load_row (o := ⟨some 14, _, _, _, _, _⟩) rfl 23 (.tmp 9) rfl g9 (by with_unfolding_all rfl) 23 (keyC tk) (0, 0) (.array 32 5) (by with_unfolding_all exact K5.out) Tryd.underlying23 rfl (Tryd.sizeKey tk LK.out) ?_))
  refine (HBY.out _).mono ?_
  intro e w6 h
  obtain ⟨v6, he, o6, b6⟩ := h
  subst he
  have R6 := Lib.hid (R5.out.kept b6)
  have S6 := Lib.hid (S5.out.kept b6)
  have V6 := Lib.hid o6.bs
  clear o6 b6 R5 S5 K5 HBY
  go_wp2_with fail
  refine (HSG.out _ (by exact R6.out.bs HA.out) (by exact R6.out.bs HH.out)).mono ?_
  intro e w7 h
  obtain ⟨v7, he, o7, b7⟩ := h
  subst he
  have R7 := Lib.hid (R6.out.kept b7)
  have S7 := Lib.hid (S6.out.kept b7)
  have V7 := Lib.hid (V6.out.below b7)
  have U7 := Lib.hid o7.bs
  clear o7 b7 R6 S6 V6 HSG
  go_wp2_with fail
  refine (HM.out _ n3 _ _ (by exact R7.out.self) (by omega) (by exact V7.out) (by exact U7.out)).mono ?_
  intro e w8 h
  obtain ⟨n8, hn8, he, r8⟩ := h
  subst he
  have R8 := Lib.hid (R7.out.trans r8)
  have S8 := Lib.hid (r8.other S7.out h8g)
  clear r8 R7 S7 V7 U7 HM
  go_wp2_with ((with_reducible refine wpList_store_row (o := ⟨none, _, _, _, _, _⟩) rfl 23 (.tmp 8) (.tmp 19) rfl g8 23 _ (keyC tg) (by with_unfolding_all rfl) (by with_unfolding_all rfl) S8.out (keyC_same zeroKey_length LT.out) (Tryd.sizeKey tg LT.out) (keyC_one tg) ?_); intro w9 p9)
  refine bodyPost_ret (results_cell_row rfl _ _ g8 23 (keyC tg) (0, 0) (.array 32 5) rfl p9.row Tryd.underlying23 rfl (Tryd.sizeKey tg LT.out)) rfl ⟨n8, by omega, rfl, R8.out.put p9 h8 h8g⟩
end Go.Proofs.YtjdbjgaoeijmfaaDoor
end
section
namespace Go.Proofs.YtjdbjgaoeijmfaaDoor
open Go.RowKit
set_option linter.unusedVariables false
set_option maxRecDepth 20000

theorem left_any (w : World) (x : UInt32) (n : Nat) (h1 : 1 ≤ n) (h2 : n ≤ 31) :
    Calls Tryd.prog 58 #[.int .u32 (x.toNat : Int), .int .i64 (n : Int)] w fun e w' => e = .returned (.int .u32 ((rotl x n).toNat : Int)) ∧ ∃ n, w' = w.drewN n := by
  have hx := x.toNat_lt
  obtain ⟨m, hm⟩ : ∃ m, m + n = 32 := ⟨32 - n, by omega⟩
  have hs2 : IntKind.i64.wrap (32 - (n : Int)) = (m : Int) := by rw [IntWalk.i64_in _ (by omega)]; omega
  have hle : (n : Int) ≤ 32 := by omega
  go_enter Tryd.func58, Tryd.ntmps58
  go_wp2
  go_quiet (fail)
  go_wp2
  go_ret
  exact ⟨ret_int (rotl_int x n m hm), _, rfl⟩

theorem Tryd.zeroW16 : (Tryd.prog.info? 89).map (·.zero) = some (some (.agg (wordsC zeroW))) := by kernel_rfl
theorem Tryd.sizeW16 (l : List UInt32) (h : l.length = 16) : (Tryd.prog.info? 89).map (·.size) = some (wordsC l).size := by
  rw [wordsC_size, h]
  exact (by kernel_rfl : (Tryd.prog.info? 89).map (·.size) = some 16)

set_option maxHeartbeats 4000000 in
theorem refQuarter_any (w : World) (ws : List UInt32) (hl : ws.length = 16) (a b c d : Int) :
    Calls Tryd.prog 47 #[.agg (wordsC ws), .int .i64 a, .int .i64 b, .int .i64 c, .int .i64 d] w (RetV w (.agg (wordsC (quarterW ws (low4 a) (low4 b) (low4 c) (low4 d))))) := by
  have ha := and15 a
  have hb := and15 b
  have hc := and15 c
  have hd := and15 d
  have la := low4_lt a
  have lb := low4_lt b
  have lc := low4_lt c
  have ld := low4_lt d
  generalize low4 a = a' at *
  generalize low4 b = b' at *
  generalize low4 c = c' at *
  generalize low4 d = d' at *
  obtain ⟨fin, hfin⟩ : ∃ fin, fin = quarterW ws a' b' c' d' := ⟨_, rfl⟩
  rw [← hfin]
  have HF := Lib.hid hfin
  have LF : Hid (fin.length = 16) := by show _ = _; rw [hfin, quarterW_length, hl]
  obtain ⟨v0, hv0⟩ : ∃ v0, v0 = ws := ⟨_, rfl⟩
  have HV0 := Lib.hid hv0
  have L0 : Hid (v0.length = 16) := by show _ = _; rw [hv0, hl]
  rw [← hv0]
  clear hfin hv0 hl
  have qa : (a' : Int) < 16 := by omega
  have qb : (b' : Int) < 16 := by omega
  have qc : (c' : Int) < 16 := by omega
  have qd : (d' : Int) < 16 := by omega
  go_enter Tryd.func47, Tryd.ntmps47
  go_wp2_with (first
    | ((with_reducible refine wpList_box_row (o := ⟨some 5, _, _, _, _, _⟩) rfl 89 (.tmp 0) rfl (wordsC v0) (by with_unfolding_all rfl) ?_); intro g1 w1 n1)
    | ((with_reducible refine wpList_alloc_row (o := ⟨some 10, _, _, _, _, _⟩) rfl 89 rfl (wordsC zeroW) Tryd.zeroW16 ?_); intro g2 wa0 n2))
  have R0 : Hid (RowAt wa0 g1 89 (wordsC v0)) := n1.row.kept n2.below
  have hg1 : w.heap.size ≤ g1 := Nat.le_of_eq n1.spot.symm
  have hg2 : w.heap.size ≤ g2 := by rw [n2.spot]; exact n1.below.size
  have hne : g2 ≠ g1 := by have := n2.spot; have := n1.row.lt; omega
  have B0 : Hid (Below w.heap.size w wa0) := below_size n1.below n2.below
  have Z0 : Hid (RowAt wa0 g2 89 (wordsC zeroW)) := n2.row
  have HNE := Lib.hid hne
  clear n1 n2 hne ha hb hc hd
  have c1 := wordsC_cell R0.out a' (by rw [L0.out]; omega)
  have c2 := wordsC_cell R0.out b' (by rw [L0.out]; omega)
  have hfz := R0.out.frozen a'
  obtain ⟨xs, hxs⟩ : ∃ xs, xs = v0.getD a' 0 + v0.getD b' 0 := ⟨_, rfl⟩
  have hsum : IntKind.u32.wrap (((v0.getD a' 0).toNat : Int) + ((v0.getD b' 0).toNat : Int)) = (xs.toNat : Int) := by rw [add32, hxs]
  have hput := R0.out.put a' (.int .u32 (xs.toNat : Int))
  rw [wordsC_put] at hput
  obtain ⟨v1, hvm⟩ : ∃ v1, v1 = v0.set a' xs := ⟨_, rfl⟩
  rw [← hvm] at hput
  have LM : Hid (v1.length = 16) := by show _ = _; rw [hvm, List.length_set, L0.out]
  have HST : Hid (stirW v0 a' b' d' 16 = v1.set d' (rotl (v1.getD d' 0 ^^^ v1.getD a' 0) 16)) := by
    show _ = _
    rw [hvm, hxs]
    rfl
  have HP := Lib.hid hput
  generalize v0.getD a' 0 = x1 at c1 hsum
  generalize v0.getD b' 0 = x2 at c2 hsum
  clear hput hvm hxs
  go_wp2_with fail
  go_still_tail 9, (by kernel_rfl)
  change wpList _ _ _ _ _ wa0.drew
  have hcell : wa0.drew.cell? ⟨g1, a', none⟩ = some (.int .u32 (x1.toNat : Int)) := c1
  have hfz2 : wa0.drew.frozen? ⟨g1, a', none⟩ = false := hfz
  clear c1 c2 hfz hsum
  go_wp2_with fail
  clear hcell hfz2
  have RM : Hid (RowAt (wa0.setCell ⟨g1, a', none⟩ (.int .u32 (xs.toNat : Int))).drew g1 89 (wordsC v1)) := HP.out.drew
  have BM : Hid (Below w.heap.size w (wa0.setCell ⟨g1, a', none⟩ (.int .u32 (xs.toNat : Int))).drew) := (B0.out.setCell hg1 _).drew
  have ZM : Hid (RowAt (wa0.setCell ⟨g1, a', none⟩ (.int .u32 (xs.toNat : Int))).drew g2 89 (wordsC zeroW)) := (Z0.out.far (by show g2 ≠ g1; exact HNE.out) _).drew
  clear HP R0 B0 Z0
  generalize (wa0.setCell ⟨g1, a', none⟩ (.int .u32 (xs.toNat : Int))).drew = wm at RM BM ZM ⊢
  have c3 := wordsC_cell RM.out d' (by rw [LM.out]; omega)
  have c4 := wordsC_cell RM.out a' (by rw [LM.out]; omega)
  have hfz := RM.out.frozen d'
  obtain ⟨z, hz⟩ : ∃ z, z = v1.getD d' 0 ^^^ v1.getD a' 0 := ⟨_, rfl⟩
  have hxor : bits .xor .u32 ((v1.getD d' 0).toNat : Int) ((v1.getD a' 0).toNat : Int) = (z.toNat : Int) := by rw [xor32, hz]
  have HX := Lib.hid hxor
  have hput := fun n => (RM.out.drewN n).put d' (.int .u32 ((rotl z 16).toNat : Int))
  obtain ⟨v2, hvo⟩ : ∃ v2, v2 = stirW v0 a' b' d' 16 := ⟨_, rfl⟩
  have hfin : v1.set d' (rotl z 16) = v2 := by rw [hvo, HST.out, hz]
  simp only [wordsC_put, hfin] at hput
  have HP := Lib.hid hput
  have HVO0 := Lib.hid hvo
  have L1 : Hid (v2.length = 16) := by show _ = _; rw [hvo, stirW_length, L0.out]
  clear hput hfin hz hvo HST hxor
  generalize v1.getD d' 0 = y1 at c3 HX
  generalize v1.getD a' 0 = y2 at c4 HX
  refine plain_region (S := fun W' => ∃ n, W' = wm.drewN n) (fin := fun j => j == 10) (by kernel_rfl) ?_
  have hS : ∃ n, wm.drew = wm.drewN n := ⟨1, rfl⟩
  change walkS _ _ _ _ _ _ 11 _ _ _
  refine walkS_take (i := 0) (oi := ⟨some 28, _, _, _, _, _⟩) (v := .int .i64 (d' : Int)) rfl (by kernel_rfl) (by kernel_rfl) (fun _ _ _ h => h) _ _ _ _ (by kernel_rfl) (by kernel_rfl) (Or.inl ⟨by rfl, fun w' hS' => (by clear hS hS'; go_simp)⟩) hS ?_
  simp only [Act.put, List.setIfInBounds_toArray, List.set_cons_zero, List.set_cons_succ]
  refine walkS_take (i := 1) (oi := ⟨some 29, _, _, _, _, _⟩) (v := .int .i64 (d' : Int)) rfl (by kernel_rfl) (by kernel_rfl) (fun _ _ _ h => h) _ _ _ _ (by kernel_rfl) (by kernel_rfl) (Or.inl ⟨by rfl, fun w' hS' => (by clear hS hS'; go_simp)⟩) hS ?_
  simp only [Act.put, List.setIfInBounds_toArray, List.set_cons_zero, List.set_cons_succ]
  refine walkS_take (i := 2) (oi := ⟨some 30, _, _, _, _, _⟩) (v := .pointer (some ⟨g1, d', none⟩)) rfl (by kernel_rfl) (by kernel_rfl) (fun _ _ _ h => h) _ _ _ _ (by kernel_rfl) (by kernel_rfl) (Or.inl ⟨by rfl, fun w' hS' => (by clear hS hS'; go_simp)⟩) hS ?_
  simp only [Act.put, List.setIfInBounds_toArray, List.set_cons_zero, List.set_cons_succ]
  refine walkS_take (i := 3) (oi := ⟨some 31, _, _, _, _, _⟩) (v := .int .u32 (y1.toNat : Int)) rfl (by kernel_rfl) (by kernel_rfl) (fun _ _ _ h => h) _ _ _ _ (by kernel_rfl) (by kernel_rfl) (Or.inl ⟨by rfl, fun w' hS' => (by obtain ⟨n, rfl⟩ := hS'; have c5 : (wm.drewN n).cell? ⟨g1, d', none⟩ = some (.int .u32 (y1.toNat : Int)) := c3; clear hS; go_simp)⟩) hS ?_
  simp only [Act.put, List.setIfInBounds_toArray, List.set_cons_zero, List.set_cons_succ]
  refine walkS_take (i := 4) (oi := ⟨some 32, _, _, _, _, _⟩) (v := .int .i64 (a' : Int)) rfl (by kernel_rfl) (by kernel_rfl) (fun _ _ _ h => h) _ _ _ _ (by kernel_rfl) (by kernel_rfl) (Or.inl ⟨by rfl, fun w' hS' => (by clear hS hS'; go_simp)⟩) hS ?_
  simp only [Act.put, List.setIfInBounds_toArray, List.set_cons_zero, List.set_cons_succ]
  refine walkS_take (i := 5) (oi := ⟨some 33, _, _, _, _, _⟩) (v := .pointer (some ⟨g1, a', none⟩)) rfl (by kernel_rfl) (by kernel_rfl) (fun _ _ _ h => h) _ _ _ _ (by kernel_rfl) (by kernel_rfl) (Or.inl ⟨by rfl, fun w' hS' => (by clear hS hS'; go_simp)⟩) hS ?_
  simp only [Act.put, List.setIfInBounds_toArray, List.set_cons_zero, List.set_cons_succ]
  refine walkS_take (i := 6) (oi := ⟨some 34, _, _, _, _, _⟩) (v := .int .u32 (y2.toNat : Int)) rfl (by kernel_rfl) (by kernel_rfl) (fun _ _ _ h => h) _ _ _ _ (by kernel_rfl) (by kernel_rfl) (Or.inl ⟨by rfl, fun w' hS' => (by obtain ⟨n, rfl⟩ := hS'; have c5 : (wm.drewN n).cell? ⟨g1, a', none⟩ = some (.int .u32 (y2.toNat : Int)) := c4; clear hS; go_simp)⟩) hS ?_
  simp only [Act.put, List.setIfInBounds_toArray, List.set_cons_zero, List.set_cons_succ]
  refine walkS_take (i := 7) (oi := ⟨some 35, _, _, _, _, _⟩) (v := .int .u32 (z.toNat : Int)) rfl (by kernel_rfl) (by kernel_rfl) (fun _ _ _ h => h) _ _ _ _ (by kernel_rfl) (by kernel_rfl) (Or.inl ⟨by rfl, fun w' hS' => (by have hx := HX.out; clear hS hS'; go_simp)⟩) hS ?_
  simp only [Act.put, List.setIfInBounds_toArray, List.set_cons_zero, List.set_cons_succ]
  refine walkS_only (i := 8) (o := ⟨some 36, _, _, _, _, _⟩) (by kernel_rfl) rfl rfl fun K hK => ?_
  clear hS
  go_simp
  refine (left_any _ z 16 (by omega) (by omega)).mono ?_
  rintro e w5 ⟨rfl, m, rfl⟩
  have hS : ∃ n, wm.drew.drewN m = wm.drewN n := ⟨1 + m, World.drewN_drewN wm 1 m⟩
  refine hK _ _ (.inr hS) ?_
  clear hK K
  refine walkS_take (i := 9) (oi := ⟨some 37, _, _, _, _, _⟩) (v := .pointer (some ⟨g1, d', none⟩)) rfl (by kernel_rfl) (by kernel_rfl) (fun _ _ _ h => h) _ _ _ _ (by kernel_rfl) (by kernel_rfl) (Or.inl ⟨by rfl, fun w' hS' => (by clear hS hS'; go_simp)⟩) hS ?_
  simp only [Act.put, List.setIfInBounds_toArray, List.set_cons_zero, List.set_cons_succ]
  refine walkS_only (i := 10) (o := ⟨none, _, _, _, _, _⟩) (by kernel_rfl) rfl rfl fun K hK => ?_
  obtain ⟨m2, hm2⟩ := hS
  rw [hm2]
  clear hm2
  have c5 : (wm.drewN m2).cell? ⟨g1, d', none⟩ = some (.int .u32 (y1.toNat : Int)) := c3
  have f5 : (wm.drewN m2).frozen? ⟨g1, d', none⟩ = false := hfz
  clear c3 c4 hfz
  go_simp
  refine hK _ _ (.inl rfl) ?_
  clear hK K c5 f5
  refine walkS_done (by kernel_rfl) ?_ _
  have R1 : Hid (RowAt ((wm.drewN m2).setCell ⟨g1, d', none⟩ (.int .u32 ((rotl z 16).toNat : Int))) g1 89 (wordsC v2)) := HP.out m2
  have B1 : Hid (Below w.heap.size w ((wm.drewN m2).setCell ⟨g1, d', none⟩ (.int .u32 ((rotl z 16).toNat : Int)))) := (below_drewN BM.out m2).setCell hg1 _
  have Z1 : Hid (RowAt ((wm.drewN m2).setCell ⟨g1, d', none⟩ (.int .u32 ((rotl z 16).toNat : Int))) g2 89 (wordsC zeroW)) := (ZM.out.drewN m2).far (by show g2 ≠ g1; exact HNE.out) _
  clear HP BM RM ZM LM L0 HX
  generalize (wm.drewN m2).setCell ⟨g1, d', none⟩ (.int .u32 ((rotl z 16).toNat : Int)) = wa1 at R1 B1 Z1 ⊢
  clear wa0 wm v1
  have c1 := wordsC_cell R1.out c' (by rw [L1.out]; omega)
  have c2 := wordsC_cell R1.out d' (by rw [L1.out]; omega)
  have hfz := R1.out.frozen c'
  obtain ⟨xs, hxs⟩ : ∃ xs, xs = v2.getD c' 0 + v2.getD d' 0 := ⟨_, rfl⟩
  have hsum : IntKind.u32.wrap (((v2.getD c' 0).toNat : Int) + ((v2.getD d' 0).toNat : Int)) = (xs.toNat : Int) := by rw [add32, hxs]
  have hput := R1.out.put c' (.int .u32 (xs.toNat : Int))
  rw [wordsC_put] at hput
  obtain ⟨v3, hvm⟩ : ∃ v3, v3 = v2.set c' xs := ⟨_, rfl⟩
  rw [← hvm] at hput
  have LM : Hid (v3.length = 16) := by show _ = _; rw [hvm, List.length_set, L1.out]
  have HST : Hid (stirW v2 c' d' b' 12 = v3.set b' (rotl (v3.getD b' 0 ^^^ v3.getD c' 0) 12)) := by
    show _ = _
    rw [hvm, hxs]
    rfl
  have HP := Lib.hid hput
  generalize v2.getD c' 0 = x1 at c1 hsum
  generalize v2.getD d' 0 = x2 at c2 hsum
  clear hput hvm hxs
  go_wp2_with fail
  go_still_tail 9, (by kernel_rfl)
  change wpList _ _ _ _ _ wa1.drew
  have hcell : wa1.drew.cell? ⟨g1, c', none⟩ = some (.int .u32 (x1.toNat : Int)) := c1
  have hfz2 : wa1.drew.frozen? ⟨g1, c', none⟩ = false := hfz
  clear c1 c2 hfz hsum
  go_wp2_with fail
  clear hcell hfz2
  have RM : Hid (RowAt (wa1.setCell ⟨g1, c', none⟩ (.int .u32 (xs.toNat : Int))).drew g1 89 (wordsC v3)) := HP.out.drew
  have BM : Hid (Below w.heap.size w (wa1.setCell ⟨g1, c', none⟩ (.int .u32 (xs.toNat : Int))).drew) := (B1.out.setCell hg1 _).drew
  have ZM : Hid (RowAt (wa1.setCell ⟨g1, c', none⟩ (.int .u32 (xs.toNat : Int))).drew g2 89 (wordsC zeroW)) := (Z1.out.far (by show g2 ≠ g1; exact HNE.out) _).drew
  clear HP R1 B1 Z1
  generalize (wa1.setCell ⟨g1, c', none⟩ (.int .u32 (xs.toNat : Int))).drew = wm at RM BM ZM ⊢
  have c3 := wordsC_cell RM.out b' (by rw [LM.out]; omega)
  have c4 := wordsC_cell RM.out c' (by rw [LM.out]; omega)
  have hfz := RM.out.frozen b'
  obtain ⟨z, hz⟩ : ∃ z, z = v3.getD b' 0 ^^^ v3.getD c' 0 := ⟨_, rfl⟩
  have hxor : bits .xor .u32 ((v3.getD b' 0).toNat : Int) ((v3.getD c' 0).toNat : Int) = (z.toNat : Int) := by rw [xor32, hz]
  have HX := Lib.hid hxor
  have hput := fun n => (RM.out.drewN n).put b' (.int .u32 ((rotl z 12).toNat : Int))
  obtain ⟨v4, hvo⟩ : ∃ v4, v4 = stirW v2 c' d' b' 12 := ⟨_, rfl⟩
  have hfin : v3.set b' (rotl z 12) = v4 := by rw [hvo, HST.out, hz]
  simp only [wordsC_put, hfin] at hput
  have HP := Lib.hid hput
  have HVO1 := Lib.hid hvo
  have L2 : Hid (v4.length = 16) := by show _ = _; rw [hvo, stirW_length, L1.out]
  clear hput hfin hz hvo HST hxor
  generalize v3.getD b' 0 = y1 at c3 HX
  generalize v3.getD c' 0 = y2 at c4 HX
  refine plain_region (S := fun W' => ∃ n, W' = wm.drewN n) (fin := fun j => j == 10) (by kernel_rfl) ?_
  have hS : ∃ n, wm.drew = wm.drewN n := ⟨1, rfl⟩
  change walkS _ _ _ _ _ _ 11 _ _ _
  refine walkS_take (i := 0) (oi := ⟨some 47, _, _, _, _, _⟩) (v := .int .i64 (b' : Int)) rfl (by kernel_rfl) (by kernel_rfl) (fun _ _ _ h => h) _ _ _ _ (by kernel_rfl) (by kernel_rfl) (Or.inl ⟨by rfl, fun w' hS' => (by clear hS hS'; go_simp)⟩) hS ?_
  simp only [Act.put, List.setIfInBounds_toArray, List.set_cons_zero, List.set_cons_succ]
  refine walkS_take (i := 1) (oi := ⟨some 48, _, _, _, _, _⟩) (v := .int .i64 (b' : Int)) rfl (by kernel_rfl) (by kernel_rfl) (fun _ _ _ h => h) _ _ _ _ (by kernel_rfl) (by kernel_rfl) (Or.inl ⟨by rfl, fun w' hS' => (by clear hS hS'; go_simp)⟩) hS ?_
  simp only [Act.put, List.setIfInBounds_toArray, List.set_cons_zero, List.set_cons_succ]
  refine walkS_take (i := 2) (oi := ⟨some 49, _, _, _, _, _⟩) (v := .pointer (some ⟨g1, b', none⟩)) rfl (by kernel_rfl) (by kernel_rfl) (fun _ _ _ h => h) _ _ _ _ (by kernel_rfl) (by kernel_rfl) (Or.inl ⟨by rfl, fun w' hS' => (by clear hS hS'; go_simp)⟩) hS ?_
  simp only [Act.put, List.setIfInBounds_toArray, List.set_cons_zero, List.set_cons_succ]
  refine walkS_take (i := 3) (oi := ⟨some 50, _, _, _, _, _⟩) (v := .int .u32 (y1.toNat : Int)) rfl (by kernel_rfl) (by kernel_rfl) (fun _ _ _ h => h) _ _ _ _ (by kernel_rfl) (by kernel_rfl) (Or.inl ⟨by rfl, fun w' hS' => (by obtain ⟨n, rfl⟩ := hS'; have c5 : (wm.drewN n).cell? ⟨g1, b', none⟩ = some (.int .u32 (y1.toNat : Int)) := c3; clear hS; go_simp)⟩) hS ?_
  simp only [Act.put, List.setIfInBounds_toArray, List.set_cons_zero, List.set_cons_succ]
  refine walkS_take (i := 4) (oi := ⟨some 51, _, _, _, _, _⟩) (v := .int .i64 (c' : Int)) rfl (by kernel_rfl) (by kernel_rfl) (fun _ _ _ h => h) _ _ _ _ (by kernel_rfl) (by kernel_rfl) (Or.inl ⟨by rfl, fun w' hS' => (by clear hS hS'; go_simp)⟩) hS ?_
  simp only [Act.put, List.setIfInBounds_toArray, List.set_cons_zero, List.set_cons_succ]
  refine walkS_take (i := 5) (oi := ⟨some 52, _, _, _, _, _⟩) (v := .pointer (some ⟨g1, c', none⟩)) rfl (by kernel_rfl) (by kernel_rfl) (fun _ _ _ h => h) _ _ _ _ (by kernel_rfl) (by kernel_rfl) (Or.inl ⟨by rfl, fun w' hS' => (by clear hS hS'; go_simp)⟩) hS ?_
  simp only [Act.put, List.setIfInBounds_toArray, List.set_cons_zero, List.set_cons_succ]
  refine walkS_take (i := 6) (oi := ⟨some 53, _, _, _, _, _⟩) (v := .int .u32 (y2.toNat : Int)) rfl (by kernel_rfl) (by kernel_rfl) (fun _ _ _ h => h) _ _ _ _ (by kernel_rfl) (by kernel_rfl) (Or.inl ⟨by rfl, fun w' hS' => (by obtain ⟨n, rfl⟩ := hS'; have c5 : (wm.drewN n).cell? ⟨g1, c', none⟩ = some (.int .u32 (y2.toNat : Int)) := c4; clear hS; go_simp)⟩) hS ?_
  simp only [Act.put, List.setIfInBounds_toArray, List.set_cons_zero, List.set_cons_succ]
  refine walkS_take (i := 7) (oi := ⟨some 54, _, _, _, _, _⟩) (v := .int .u32 (z.toNat : Int)) rfl (by kernel_rfl) (by kernel_rfl) (fun _ _ _ h => h) _ _ _ _ (by kernel_rfl) (by kernel_rfl) (Or.inl ⟨by rfl, fun w' hS' => (by have hx := HX.out; clear hS hS'; go_simp)⟩) hS ?_
  simp only [Act.put, List.setIfInBounds_toArray, List.set_cons_zero, List.set_cons_succ]
  refine walkS_only (i := 8) (o := ⟨some 55, _, _, _, _, _⟩) (by kernel_rfl) rfl rfl fun K hK => ?_
  clear hS
  go_simp
  refine (left_any _ z 12 (by omega) (by omega)).mono ?_
  rintro e w5 ⟨rfl, m, rfl⟩
  have hS : ∃ n, wm.drew.drewN m = wm.drewN n := ⟨1 + m, World.drewN_drewN wm 1 m⟩
  refine hK _ _ (.inr hS) ?_
  clear hK K
  refine walkS_take (i := 9) (oi := ⟨some 56, _, _, _, _, _⟩) (v := .pointer (some ⟨g1, b', none⟩)) rfl (by kernel_rfl) (by kernel_rfl) (fun _ _ _ h => h) _ _ _ _ (by kernel_rfl) (by kernel_rfl) (Or.inl ⟨by rfl, fun w' hS' => (by clear hS hS'; go_simp)⟩) hS ?_
  simp only [Act.put, List.setIfInBounds_toArray, List.set_cons_zero, List.set_cons_succ]
  refine walkS_only (i := 10) (o := ⟨none, _, _, _, _, _⟩) (by kernel_rfl) rfl rfl fun K hK => ?_
  obtain ⟨m2, hm2⟩ := hS
  rw [hm2]
  clear hm2
  have c5 : (wm.drewN m2).cell? ⟨g1, b', none⟩ = some (.int .u32 (y1.toNat : Int)) := c3
  have f5 : (wm.drewN m2).frozen? ⟨g1, b', none⟩ = false := hfz
  clear c3 c4 hfz
  go_simp
  refine hK _ _ (.inl rfl) ?_
  clear hK K c5 f5
  refine walkS_done (by kernel_rfl) ?_ _
  have R2 : Hid (RowAt ((wm.drewN m2).setCell ⟨g1, b', none⟩ (.int .u32 ((rotl z 12).toNat : Int))) g1 89 (wordsC v4)) := HP.out m2
  have B2 : Hid (Below w.heap.size w ((wm.drewN m2).setCell ⟨g1, b', none⟩ (.int .u32 ((rotl z 12).toNat : Int)))) := (below_drewN BM.out m2).setCell hg1 _
  have Z2 : Hid (RowAt ((wm.drewN m2).setCell ⟨g1, b', none⟩ (.int .u32 ((rotl z 12).toNat : Int))) g2 89 (wordsC zeroW)) := (ZM.out.drewN m2).far (by show g2 ≠ g1; exact HNE.out) _
  clear HP BM RM ZM LM L1 HX
  generalize (wm.drewN m2).setCell ⟨g1, b', none⟩ (.int .u32 ((rotl z 12).toNat : Int)) = wa2 at R2 B2 Z2 ⊢
  clear wa1 wm v3
  have c1 := wordsC_cell R2.out a' (by rw [L2.out]; omega)
  have c2 := wordsC_cell R2.out b' (by rw [L2.out]; omega)
  have hfz := R2.out.frozen a'
  obtain ⟨xs, hxs⟩ : ∃ xs, xs = v4.getD a' 0 + v4.getD b' 0 := ⟨_, rfl⟩
  have hsum : IntKind.u32.wrap (((v4.getD a' 0).toNat : Int) + ((v4.getD b' 0).toNat : Int)) = (xs.toNat : Int) := by rw [add32, hxs]
  have hput := R2.out.put a' (.int .u32 (xs.toNat : Int))
  rw [wordsC_put] at hput
  obtain ⟨v5, hvm⟩ : ∃ v5, v5 = v4.set a' xs := ⟨_, rfl⟩
  rw [← hvm] at hput
  have LM : Hid (v5.length = 16) := by show _ = _; rw [hvm, List.length_set, L2.out]
  have HST : Hid (stirW v4 a' b' d' 8 = v5.set d' (rotl (v5.getD d' 0 ^^^ v5.getD a' 0) 8)) := by
    show _ = _
    rw [hvm, hxs]
    rfl
  have HP := Lib.hid hput
  generalize v4.getD a' 0 = x1 at c1 hsum
  generalize v4.getD b' 0 = x2 at c2 hsum
  clear hput hvm hxs
  go_wp2_with fail
  go_still_tail 9, (by kernel_rfl)
  change wpList _ _ _ _ _ wa2.drew
  have hcell : wa2.drew.cell? ⟨g1, a', none⟩ = some (.int .u32 (x1.toNat : Int)) := c1
  have hfz2 : wa2.drew.frozen? ⟨g1, a', none⟩ = false := hfz
  clear c1 c2 hfz hsum
  go_wp2_with fail
  clear hcell hfz2
  have RM : Hid (RowAt (wa2.setCell ⟨g1, a', none⟩ (.int .u32 (xs.toNat : Int))).drew g1 89 (wordsC v5)) := HP.out.drew
  have BM : Hid (Below w.heap.size w (wa2.setCell ⟨g1, a', none⟩ (.int .u32 (xs.toNat : Int))).drew) := (B2.out.setCell hg1 _).drew
  have ZM : Hid (RowAt (wa2.setCell ⟨g1, a', none⟩ (.int .u32 (xs.toNat : Int))).drew g2 89 (wordsC zeroW)) := (Z2.out.far (by show g2 ≠ g1; exact HNE.out) _).drew
  clear HP R2 B2 Z2
  generalize (wa2.setCell ⟨g1, a', none⟩ (.int .u32 (xs.toNat : Int))).drew = wm at RM BM ZM ⊢
  have c3 := wordsC_cell RM.out d' (by rw [LM.out]; omega)
  have c4 := wordsC_cell RM.out a' (by rw [LM.out]; omega)
  have hfz := RM.out.frozen d'
  obtain ⟨z, hz⟩ : ∃ z, z = v5.getD d' 0 ^^^ v5.getD a' 0 := ⟨_, rfl⟩
  have hxor : bits .xor .u32 ((v5.getD d' 0).toNat : Int) ((v5.getD a' 0).toNat : Int) = (z.toNat : Int) := by rw [xor32, hz]
  have HX := Lib.hid hxor
  have hput := fun n => (RM.out.drewN n).put d' (.int .u32 ((rotl z 8).toNat : Int))
  obtain ⟨v6, hvo⟩ : ∃ v6, v6 = stirW v4 a' b' d' 8 := ⟨_, rfl⟩
  have hfin : v5.set d' (rotl z 8) = v6 := by rw [hvo, HST.out, hz]
  simp only [wordsC_put, hfin] at hput
  have HP := Lib.hid hput
  have HVO2 := Lib.hid hvo
  have L3 : Hid (v6.length = 16) := by show _ = _; rw [hvo, stirW_length, L2.out]
  clear hput hfin hz hvo HST hxor
  generalize v5.getD d' 0 = y1 at c3 HX
  generalize v5.getD a' 0 = y2 at c4 HX
  refine plain_region (S := fun W' => ∃ n, W' = wm.drewN n) (fin := fun j => j == 10) (by kernel_rfl) ?_
  have hS : ∃ n, wm.drew = wm.drewN n := ⟨1, rfl⟩
  change walkS _ _ _ _ _ _ 11 _ _ _
  refine walkS_take (i := 0) (oi := ⟨some 66, _, _, _, _, _⟩) (v := .int .i64 (d' : Int)) rfl (by kernel_rfl) (by kernel_rfl) (fun _ _ _ h => h) _ _ _ _ (by kernel_rfl) (by kernel_rfl) (Or.inl ⟨by rfl, fun w' hS' => (by clear hS hS'; go_simp)⟩) hS ?_
  simp only [Act.put, List.setIfInBounds_toArray, List.set_cons_zero, List.set_cons_succ]
  refine walkS_take (i := 1) (oi := ⟨some 67, _, _, _, _, _⟩) (v := .int .i64 (d' : Int)) rfl (by kernel_rfl) (by kernel_rfl) (fun _ _ _ h => h) _ _ _ _ (by kernel_rfl) (by kernel_rfl) (Or.inl ⟨by rfl, fun w' hS' => (by clear hS hS'; go_simp)⟩) hS ?_
  simp only [Act.put, List.setIfInBounds_toArray, List.set_cons_zero, List.set_cons_succ]
  refine walkS_take (i := 2) (oi := ⟨some 68, _, _, _, _, _⟩) (v := .pointer (some ⟨g1, d', none⟩)) rfl (by kernel_rfl) (by kernel_rfl) (fun _ _ _ h => h) _ _ _ _ (by kernel_rfl) (by kernel_rfl) (Or.inl ⟨by rfl, fun w' hS' => (by clear hS hS'; go_simp)⟩) hS ?_
  simp only [Act.put, List.setIfInBounds_toArray, List.set_cons_zero, List.set_cons_succ]
  refine walkS_take (i := 3) (oi := ⟨some 69, _, _, _, _, _⟩) (v := .int .u32 (y1.toNat : Int)) rfl (by kernel_rfl) (by kernel_rfl) (fun _ _ _ h => h) _ _ _ _ (by kernel_rfl) (by kernel_rfl) (Or.inl ⟨by rfl, fun w' hS' => (by obtain ⟨n, rfl⟩ := hS'; have c5 : (wm.drewN n).cell? ⟨g1, d', none⟩ = some (.int .u32 (y1.toNat : Int)) := c3; clear hS; go_simp)⟩) hS ?_
  simp only [Act.put, List.setIfInBounds_toArray, List.set_cons_zero, List.set_cons_succ]
  refine walkS_take (i := 4) (oi := ⟨some 70, _, _, _, _, _⟩) (v := .int .i64 (a' : Int)) rfl (by kernel_rfl) (by kernel_rfl) (fun _ _ _ h => h) _ _ _ _ (by kernel_rfl) (by kernel_rfl) (Or.inl ⟨by rfl, fun w' hS' => (by clear hS hS'; go_simp)⟩) hS ?_
  simp only [Act.put, List.setIfInBounds_toArray, List.set_cons_zero, List.set_cons_succ]
  refine walkS_take (i := 5) (oi := ⟨some 71, _, _, _, _, _⟩) (v := .pointer (some ⟨g1, a', none⟩)) rfl (by kernel_rfl) (by kernel_rfl) (fun _ _ _ h => h) _ _ _ _ (by kernel_rfl) (by kernel_rfl) (Or.inl ⟨by rfl, fun w' hS' => (by clear hS hS'; go_simp)⟩) hS ?_
  simp only [Act.put, List.setIfInBounds_toArray, List.set_cons_zero, List.set_cons_succ]
  refine walkS_take (i := 6) (oi := ⟨some 72, _, _, _, _, _⟩) (v := .int .u32 (y2.toNat : Int)) rfl (by kernel_rfl) (by kernel_rfl) (fun _ _ _ h => h) _ _ _ _ (by kernel_rfl) (by kernel_rfl) (Or.inl ⟨by rfl, fun w' hS' => (by obtain ⟨n, rfl⟩ := hS'; have c5 : (wm.drewN n).cell? ⟨g1, a', none⟩ = some (.int .u32 (y2.toNat : Int)) := c4; clear hS; go_simp)⟩) hS ?_
  simp only [Act.put, List.setIfInBounds_toArray, List.set_cons_zero, List.set_cons_succ]
  refine walkS_take (i := 7) (oi := ⟨some 73, _, _, _, _, _⟩) (v := .int .u32 (z.toNat : Int)) rfl (by kernel_rfl) (by kernel_rfl) (fun _ _ _ h => h) _ _ _ _ (by kernel_rfl) (by kernel_rfl) (Or.inl ⟨by rfl, fun w' hS' => (by have hx := HX.out; clear hS hS'; go_simp)⟩) hS ?_
  simp only [Act.put, List.setIfInBounds_toArray, List.set_cons_zero, List.set_cons_succ]
  refine walkS_only (i := 8) (o := ⟨some 74, _, _, _, _, _⟩) (by kernel_rfl) rfl rfl fun K hK => ?_
  clear hS
  go_simp
  refine (left_any _ z 8 (by omega) (by omega)).mono ?_
  rintro e w5 ⟨rfl, m, rfl⟩
  have hS : ∃ n, wm.drew.drewN m = wm.drewN n := ⟨1 + m, World.drewN_drewN wm 1 m⟩
  refine hK _ _ (.inr hS) ?_
  clear hK K
  refine walkS_take (i := 9) (oi := ⟨some 75, _, _, _, _, _⟩) (v := .pointer (some ⟨g1, d', none⟩)) rfl (by kernel_rfl) (by kernel_rfl) (fun _ _ _ h => h) _ _ _ _ (by kernel_rfl) (by kernel_rfl) (Or.inl ⟨by rfl, fun w' hS' => (by clear hS hS'; go_simp)⟩) hS ?_
  simp only [Act.put, List.setIfInBounds_toArray, List.set_cons_zero, List.set_cons_succ]
  refine walkS_only (i := 10) (o := ⟨none, _, _, _, _, _⟩) (by kernel_rfl) rfl rfl fun K hK => ?_
  obtain ⟨m2, hm2⟩ := hS
  rw [hm2]
  clear hm2
  have c5 : (wm.drewN m2).cell? ⟨g1, d', none⟩ = some (.int .u32 (y1.toNat : Int)) := c3
  have f5 : (wm.drewN m2).frozen? ⟨g1, d', none⟩ = false := hfz
  clear c3 c4 hfz
  go_simp
  refine hK _ _ (.inl rfl) ?_
  clear hK K c5 f5
  refine walkS_done (by kernel_rfl) ?_ _
  have R3 : Hid (RowAt ((wm.drewN m2).setCell ⟨g1, d', none⟩ (.int .u32 ((rotl z 8).toNat : Int))) g1 89 (wordsC v6)) := HP.out m2
  have B3 : Hid (Below w.heap.size w ((wm.drewN m2).setCell ⟨g1, d', none⟩ (.int .u32 ((rotl z 8).toNat : Int)))) := (below_drewN BM.out m2).setCell hg1 _
  have Z3 : Hid (RowAt ((wm.drewN m2).setCell ⟨g1, d', none⟩ (.int .u32 ((rotl z 8).toNat : Int))) g2 89 (wordsC zeroW)) := (ZM.out.drewN m2).far (by show g2 ≠ g1; exact HNE.out) _
  clear HP BM RM ZM LM L2 HX
  generalize (wm.drewN m2).setCell ⟨g1, d', none⟩ (.int .u32 ((rotl z 8).toNat : Int)) = wa3 at R3 B3 Z3 ⊢
  clear wa2 wm v5
  have c1 := wordsC_cell R3.out c' (by rw [L3.out]; omega)
  have c2 := wordsC_cell R3.out d' (by rw [L3.out]; omega)
  have hfz := R3.out.frozen c'
  obtain ⟨xs, hxs⟩ : ∃ xs, xs = v6.getD c' 0 + v6.getD d' 0 := ⟨_, rfl⟩
  have hsum : IntKind.u32.wrap (((v6.getD c' 0).toNat : Int) + ((v6.getD d' 0).toNat : Int)) = (xs.toNat : Int) := by rw [add32, hxs]
  have hput := R3.out.put c' (.int .u32 (xs.toNat : Int))
  rw [wordsC_put] at hput
  obtain ⟨v7, hvm⟩ : ∃ v7, v7 = v6.set c' xs := ⟨_, rfl⟩
  rw [← hvm] at hput
  have LM : Hid (v7.length = 16) := by show _ = _; rw [hvm, List.length_set, L3.out]
  have HST : Hid (stirW v6 c' d' b' 7 = v7.set b' (rotl (v7.getD b' 0 ^^^ v7.getD c' 0) 7)) := by
    show _ = _
    rw [hvm, hxs]
    rfl
  have HP := Lib.hid hput
  generalize v6.getD c' 0 = x1 at c1 hsum
  generalize v6.getD d' 0 = x2 at c2 hsum
  clear hput hvm hxs
  go_wp2_with fail
  go_still_tail 9, (by kernel_rfl)
  change wpList _ _ _ _ _ wa3.drew
  have hcell : wa3.drew.cell? ⟨g1, c', none⟩ = some (.int .u32 (x1.toNat : Int)) := c1
  have hfz2 : wa3.drew.frozen? ⟨g1, c', none⟩ = false := hfz
  clear c1 c2 hfz hsum
  go_wp2_with fail
  clear hcell hfz2
  have RM : Hid (RowAt (wa3.setCell ⟨g1, c', none⟩ (.int .u32 (xs.toNat : Int))).drew g1 89 (wordsC v7)) := HP.out.drew
  have BM : Hid (Below w.heap.size w (wa3.setCell ⟨g1, c', none⟩ (.int .u32 (xs.toNat : Int))).drew) := (B3.out.setCell hg1 _).drew
  have ZM : Hid (RowAt (wa3.setCell ⟨g1, c', none⟩ (.int .u32 (xs.toNat : Int))).drew g2 89 (wordsC zeroW)) := (Z3.out.far (by show g2 ≠ g1; exact HNE.out) _).drew
  clear HP R3 B3 Z3
  generalize (wa3.setCell ⟨g1, c', none⟩ (.int .u32 (xs.toNat : Int))).drew = wm at RM BM ZM ⊢
  have c3 := wordsC_cell RM.out b' (by rw [LM.out]; omega)
  have c4 := wordsC_cell RM.out c' (by rw [LM.out]; omega)
  have hfz := RM.out.frozen b'
  obtain ⟨z, hz⟩ : ∃ z, z = v7.getD b' 0 ^^^ v7.getD c' 0 := ⟨_, rfl⟩
  have hxor : bits .xor .u32 ((v7.getD b' 0).toNat : Int) ((v7.getD c' 0).toNat : Int) = (z.toNat : Int) := by rw [xor32, hz]
  have HX := Lib.hid hxor
  have hput := fun n => (RM.out.drewN n).put b' (.int .u32 ((rotl z 7).toNat : Int))
  obtain ⟨v8, hvo⟩ : ∃ v8, v8 = stirW v6 c' d' b' 7 := ⟨_, rfl⟩
  have hfin : v7.set b' (rotl z 7) = v8 := by rw [hvo, HST.out, hz]
  simp only [wordsC_put, hfin] at hput
  have HP := Lib.hid hput
  have HVO3 := Lib.hid hvo
  have L4 : Hid (v8.length = 16) := by show _ = _; rw [hvo, stirW_length, L3.out]
  clear hput hfin hz hvo HST hxor
  generalize v7.getD b' 0 = y1 at c3 HX
  generalize v7.getD c' 0 = y2 at c4 HX
  refine plain_region (S := fun W' => ∃ n, W' = wm.drewN n) (fin := fun j => j == 10) (by kernel_rfl) ?_
  have hS : ∃ n, wm.drew = wm.drewN n := ⟨1, rfl⟩
  change walkS _ _ _ _ _ _ 11 _ _ _
  refine walkS_take (i := 0) (oi := ⟨some 85, _, _, _, _, _⟩) (v := .int .i64 (b' : Int)) rfl (by kernel_rfl) (by kernel_rfl) (fun _ _ _ h => h) _ _ _ _ (by kernel_rfl) (by kernel_rfl) (Or.inl ⟨by rfl, fun w' hS' => (by clear hS hS'; go_simp)⟩) hS ?_
  simp only [Act.put, List.setIfInBounds_toArray, List.set_cons_zero, List.set_cons_succ]
  refine walkS_take (i := 1) (oi := ⟨some 86, _, _, _, _, _⟩) (v := .int .i64 (b' : Int)) rfl (by kernel_rfl) (by kernel_rfl) (fun _ _ _ h => h) _ _ _ _ (by kernel_rfl) (by kernel_rfl) (Or.inl ⟨by rfl, fun w' hS' => (by clear hS hS'; go_simp)⟩) hS ?_
  simp only [Act.put, List.setIfInBounds_toArray, List.set_cons_zero, List.set_cons_succ]
  refine walkS_take (i := 2) (oi := ⟨some 87, _, _, _, _, _⟩) (v := .pointer (some ⟨g1, b', none⟩)) rfl (by kernel_rfl) (by kernel_rfl) (fun _ _ _ h => h) _ _ _ _ (by kernel_rfl) (by kernel_rfl) (Or.inl ⟨by rfl, fun w' hS' => (by clear hS hS'; go_simp)⟩) hS ?_
  simp only [Act.put, List.setIfInBounds_toArray, List.set_cons_zero, List.set_cons_succ]
  refine walkS_take (i := 3) (oi := ⟨some 88, _, _, _, _, _⟩) (v := .int .u32 (y1.toNat : Int)) rfl (by kernel_rfl) (by kernel_rfl) (fun _ _ _ h => h) _ _ _ _ (by kernel_rfl) (by kernel_rfl) (Or.inl ⟨by rfl, fun w' hS' => (by obtain ⟨n, rfl⟩ := hS'; have c5 : (wm.drewN n).cell? ⟨g1, b', none⟩ = some (.int .u32 (y1.toNat : Int)) := c3; clear hS; go_simp)⟩) hS ?_
  simp only [Act.put, List.setIfInBounds_toArray, List.set_cons_zero, List.set_cons_succ]
  refine walkS_take (i := 4) (oi := ⟨some 89, _, _, _, _, _⟩) (v := .int .i64 (c' : Int)) rfl (by kernel_rfl) (by kernel_rfl) (fun _ _ _ h => h) _ _ _ _ (by kernel_rfl) (by kernel_rfl) (Or.inl ⟨by rfl, fun w' hS' => (by clear hS hS'; go_simp)⟩) hS ?_
  simp only [Act.put, List.setIfInBounds_toArray, List.set_cons_zero, List.set_cons_succ]
  refine walkS_take (i := 5) (oi := ⟨some 90, _, _, _, _, _⟩) (v := .pointer (some ⟨g1, c', none⟩)) rfl (by kernel_rfl) (by kernel_rfl) (fun _ _ _ h => h) _ _ _ _ (by kernel_rfl) (by kernel_rfl) (Or.inl ⟨by rfl, fun w' hS' => (by clear hS hS'; go_simp)⟩) hS ?_
  simp only [Act.put, List.setIfInBounds_toArray, List.set_cons_zero, List.set_cons_succ]
  refine walkS_take (i := 6) (oi := ⟨some 91, _, _, _, _, _⟩) (v := .int .u32 (y2.toNat : Int)) rfl (by kernel_rfl) (by kernel_rfl) (fun _ _ _ h => h) _ _ _ _ (by kernel_rfl) (by kernel_rfl) (Or.inl ⟨by rfl, fun w' hS' => (by obtain ⟨n, rfl⟩ := hS'; have c5 : (wm.drewN n).cell? ⟨g1, c', none⟩ = some (.int .u32 (y2.toNat : Int)) := c4; clear hS; go_simp)⟩) hS ?_
  simp only [Act.put, List.setIfInBounds_toArray, List.set_cons_zero, List.set_cons_succ]
  refine walkS_take (i := 7) (oi := ⟨some 92, _, _, _, _, _⟩) (v := .int .u32 (z.toNat : Int)) rfl (by kernel_rfl) (by kernel_rfl) (fun _ _ _ h => h) _ _ _ _ (by kernel_rfl) (by kernel_rfl) (Or.inl ⟨by rfl, fun w' hS' => (by have hx := HX.out; clear hS hS'; go_simp)⟩) hS ?_
  simp only [Act.put, List.setIfInBounds_toArray, List.set_cons_zero, List.set_cons_succ]
  refine walkS_only (i := 8) (o := ⟨some 93, _, _, _, _, _⟩) (by kernel_rfl) rfl rfl fun K hK => ?_
  clear hS
  go_simp
  refine (left_any _ z 7 (by omega) (by omega)).mono ?_
  rintro e w5 ⟨rfl, m, rfl⟩
  have hS : ∃ n, wm.drew.drewN m = wm.drewN n := ⟨1 + m, World.drewN_drewN wm 1 m⟩
  refine hK _ _ (.inr hS) ?_
  clear hK K
  refine walkS_take (i := 9) (oi := ⟨some 94, _, _, _, _, _⟩) (v := .pointer (some ⟨g1, b', none⟩)) rfl (by kernel_rfl) (by kernel_rfl) (fun _ _ _ h => h) _ _ _ _ (by kernel_rfl) (by kernel_rfl) (Or.inl ⟨by rfl, fun w' hS' => (by clear hS hS'; go_simp)⟩) hS ?_
  simp only [Act.put, List.setIfInBounds_toArray, List.set_cons_zero, List.set_cons_succ]
  refine walkS_only (i := 10) (o := ⟨none, _, _, _, _, _⟩) (by kernel_rfl) rfl rfl fun K hK => ?_
  obtain ⟨m2, hm2⟩ := hS
  rw [hm2]
  clear hm2
  have c5 : (wm.drewN m2).cell? ⟨g1, b', none⟩ = some (.int .u32 (y1.toNat : Int)) := c3
  have f5 : (wm.drewN m2).frozen? ⟨g1, b', none⟩ = false := hfz
  clear c3 c4 hfz
  go_simp
  refine hK _ _ (.inl rfl) ?_
  clear hK K c5 f5
  refine walkS_done (by kernel_rfl) ?_ _
  have R4 : Hid (RowAt ((wm.drewN m2).setCell ⟨g1, b', none⟩ (.int .u32 ((rotl z 7).toNat : Int))) g1 89 (wordsC v8)) := HP.out m2
  have B4 : Hid (Below w.heap.size w ((wm.drewN m2).setCell ⟨g1, b', none⟩ (.int .u32 ((rotl z 7).toNat : Int)))) := (below_drewN BM.out m2).setCell hg1 _
  have Z4 : Hid (RowAt ((wm.drewN m2).setCell ⟨g1, b', none⟩ (.int .u32 ((rotl z 7).toNat : Int))) g2 89 (wordsC zeroW)) := (ZM.out.drewN m2).far (by show g2 ≠ g1; exact HNE.out) _
  clear HP BM RM ZM LM L3 HX
  generalize (wm.drewN m2).setCell ⟨g1, b', none⟩ (.int .u32 ((rotl z 7).toNat : Int)) = wa4 at R4 B4 Z4 ⊢
  clear wa3 wm v7
  have hfv : fin = v8 := by rw [HF.out, HVO3.out, HVO2.out, HVO1.out, HVO0.out, HV0.out]; rfl
  have R5 : Hid (RowAt wa4 g1 89 (wordsC fin)) := by rw [hfv]; exact R4
  clear hfv R4
  go_wp2_with (first | (with_reducible refine wpList_load_row (o := ⟨some 95, _, _, _, _, _⟩) rfl 89 (.tmp 5) rfl g1 (by with_unfolding_all rfl) 89 (wordsC fin) (0, 0) (.array 16 48) (by with_unfolding_all exact R5.out) Tryd.underlying89 rfl (Tryd.sizeW16 fin LF.out) ?_) | ((with_reducible refine wpList_store_row (o := ⟨none, _, _, _, _, _⟩) rfl 89 (.tmp 10) (.tmp 95) rfl g2 89 _ (wordsC fin) (by with_unfolding_all rfl) (by with_unfolding_all rfl) Z4.out (wordsC_same zeroW_length LF.out) (Tryd.sizeW16 fin LF.out) (wordsC_one fin) ?_); intro w9 p9))
  refine bodyPost_ret (results_cell_row rfl _ _ g2 89 (wordsC fin) (0, 0) (.array 16 48) rfl p9.row Tryd.underlying89 rfl (Tryd.sizeW16 fin LF.out)) rfl ⟨rfl, ?_⟩
  exact p9.below B4.out B4.out.size hg2
end Go.Proofs.YtjdbjgaoeijmfaaDoor
end
section
namespace Go.Proofs.YtjdbjgaoeijmfaaDoor
open Go.RowKit
set_option linter.unusedVariables false
set_option maxRecDepth 20000

theorem word_sum (b0 b1 b2 b3 : UInt8) (l : List UInt8) (h : l = [b0, b1, b2, b3]) : ((b0.toNat : Int) + (b1.toNat : Int) * 256 + (b2.toNat : Int) * 65536 + (b3.toNat : Int) * 16777216) = (((UInt32.ofNat (ofLowB l)).toNat : Nat) : Int) := by
  subst h
  have h0 := b0.toNat_lt
  have h1 := b1.toNat_lt
  have h2 := b2.toNat_lt
  have h3 := b3.toNat_lt
  have hv : ofLowB [b0, b1, b2, b3] = b0.toNat + b1.toNat * 256 + b2.toNat * 65536 + b3.toNat * 16777216 := by simp only [ofLowB]; omega
  rw [hv, UInt32.toNat_ofNat_of_lt' (by simp only [UInt32.size]; omega)]
  omega

set_option maxHeartbeats 400000 in
theorem word_any (w : World) (v : Value) (l : List UInt8) (h : Bs w v l) (hl : l.length = 4) :
    Calls Tryd.prog 46 #[v] w fun e w' => e = .returned (.int .u32 ((UInt32.ofNat (ofLowB l)).toNat : Int)) ∧ ∃ n, w' = w.drewN n := by
  obtain ⟨A, c, rfl, h1, h2, h3⟩ := h
  unfold maxLen at h2
  obtain ⟨b, off, rfl, hc⟩ := h3 (by omega)
  obtain ⟨b0, b1, b2, b3, hlist⟩ : ∃ b0 b1 b2 b3, l = [b0, b1, b2, b3] := by
    match l, hl with
    | [b0, b1, b2, b3], _ => exact ⟨b0, b1, b2, b3, rfl⟩
  have hs := word_sum b0 b1 b2 b3 l hlist
  have HS := Lib.hid hs
  subst hlist
  have c0 := hc 0 (by simp)
  have c1 := hc 1 (by simp)
  have c2 := hc 2 (by simp)
  have c3 := hc 3 (by simp)
  simp only [List.getElem_cons_zero, List.getElem_cons_succ, Nat.add_zero] at c0 c1 c2 c3
  have h0 := b0.toNat_lt
  have h1' := b1.toNat_lt
  have h2' := b2.toNat_lt
  have h3' := b3.toNat_lt
  clear hc h3 hs hl
  generalize (UInt32.ofNat (ofLowB [b0, b1, b2, b3])) = res at HS ⊢
  go_enter Tryd.func46, Tryd.ntmps46
  go_wp2
  go_quiet (fail)
  go_wp2
  go_ret
  refine ⟨ret_int ?_, _, rfl⟩
  exact HS.out

theorem bytesLow_getD (ws : List UInt32) : ∀ (q r : Nat), r < 4 → q < ws.length → (bytesLow ws).getD (4 * q + r) 0 = byteN (ws.getD q 0).toNat r := by
  induction ws with
  | nil => intro q r _ h; simp at h
  | cons x l ih =>
    intro q r hr hq
    have hc : bytesLow (x :: l) = lowB x.toNat 4 ++ bytesLow l := by simp [bytesLow]
    rw [hc, List.getD_eq_getElem?_getD]
    cases q with
    | zero =>
      rw [List.getElem?_append_left (by rw [lowB_length]; omega)]
      simp [lowB, hr]
    | succ q =>
      rw [List.getElem?_append_right (by rw [lowB_length]; omega), lowB_length, show 4 * (q + 1) + r - 4 = 4 * q + r by omega, ← List.getD_eq_getElem?_getD, ih q r hr (by simpa using hq)]
      simp
theorem zipAdd_getD (a b : List UInt32) (q : Nat) (ha : q < a.length) (hb : q < b.length) : (List.zipWith (· + ·) a b).getD q 0 = a.getD q 0 + b.getD q 0 := by
  have hz : q < (List.zipWith (· + ·) a b).length := by rw [List.length_zipWith]; omega
  rw [List.getD_eq_getElem?_getD, List.getElem?_eq_getElem hz, List.getElem_zipWith]
  simp [List.getD_eq_getElem?_getD, ha, hb]
theorem quarter_row (w : List UInt32) (i j : Nat) (h : j < 4) (a b c d : Int) (ha : a = j) (hb : b = 4 + j) (hc : c = 8 + j) (hd : d = 12 + j) :
    quarterW (runS w (8 * i + j)) (low4 a) (low4 b) (low4 c) (low4 d) = runS w (8 * i + (j + 1)) := by
  subst ha hb hc hd
  rw [runS_step w i j (by omega)]
  have : j = 0 ∨ j = 1 ∨ j = 2 ∨ j = 3 := by omega
  rcases this with rfl | rfl | rfl | rfl <;> rfl
theorem quarter_diag (w : List UInt32) (i j : Nat) (h : j < 4) (a b c d : Int) (ha : a = j) (hb : b = 4 + ((j + 1) % 4 : Nat)) (hc : c = 8 + ((j + 2) % 4 : Nat)) (hd : d = 12 + ((j + 3) % 4 : Nat)) :
    quarterW (runS w (8 * i + (4 + j))) (low4 a) (low4 b) (low4 c) (low4 d) = runS w (8 * i + (4 + (j + 1))) := by
  subst ha hb hc hd
  rw [show 4 + (j + 1) = (4 + j) + 1 by omega, runS_step w i (4 + j) (by omega)]
  have : j = 0 ∨ j = 1 ∨ j = 2 ∨ j = 3 := by omega
  rcases this with rfl | rfl | rfl | rfl <;> rfl
end Go.Proofs.YtjdbjgaoeijmfaaDoor
end
