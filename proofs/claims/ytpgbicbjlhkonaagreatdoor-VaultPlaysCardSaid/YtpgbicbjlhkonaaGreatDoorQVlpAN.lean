/-
  Texts that belong together, merged: VpE, CodD, CodI. Conditions: as each theorem names them.
-/
import Derived.Test.YtpgbicbjlhkonaaGreatDoorQVlpAM
import Derived.Test.YtpgbicbjlhkonaaGreatDoorQVlpAL
import Derived.Laws.CopyRow
import Derived.Test.YtpgbicbjlhkonaaGreatDoorQVlpAC
import Derived.RangeFuncNested
section
namespace Go.Proofs.YtpgbicbjlhkonaaGreatDoor
open Go.RowKit Go.Shelf
attribute [local go_sem] Oper.semAt_some
set_option linter.unusedVariables false
set_option maxRecDepth 20000

def stateL (q : Nat) (v : Value) : Array Value := #[.int .u64 (q : Int), v]
theorem Tryz.sizeState (q : Nat) (v : Value) : (Tryz.prog.info? 89).map (·.size) = some (stateL q v).size := (by kernel_rfl : (Tryz.prog.info? 89).map (·.size) = some 2)
theorem not_state : ¬ VTy 89 := by unfold VTy; decide
theorem not_bytes : ¬ VTy 38 := by unfold VTy; decide
/-- Bytes that stay. -/
def Stay (F : Nat → Prop) (x : World) (gm g : Nat) (w : World) (v : Value) (b : List UInt8) : Prop := ∀ z N d, VS F x gm g N d z → Lk w z → Bs z v b
/-- What stands between two rounds of a fill. -/
def FillI (F : Nat → Prop) (xw : World) (gm g M : Nat) (d : Dev) (w : World) (A : Nat) (b : List UInt8) (n g1 gs gO gL : Nat) (pre : List Nat) (W : World) : Prop :=
  ((d.run (WD A b (pre.length - 1))).1 = 0 ∧ VS F xw gm g M (d.run (WD A b (pre.length - 1))).2 W ∧ Lk w W) ∧ (Boxed W gO 25 (.int .i64 0) ∧ RowAt W g1 84 (slotL g A n) ∧ RowAt W gs 84 (slotL g A n)) ∧ pre.length - 1 ≤ chunks b ∧ ∃ UA uc, Boxed W gL 38 (.slice UA (b.length - 256 * (pre.length - 1)) uc) ∧ Stay F xw gm g w (.slice UA (b.length - 256 * (pre.length - 1)) uc) (b.drop (256 * (pre.length - 1)))
/-- How it is left ahead of its end. -/
def FillX (F : Nat → Prop) (xw : World) (gm g M : Nat) (d : Dev) (w : World) (A : Nat) (b : List UInt8) (gO : Nat) (c : Code) (pre : List Nat) (W : World) : Prop :=
  (∃ j, c = .ret ∧ j < chunks b ∧ (d.run (WD A b (j + 1))).1 ≠ 0 ∧ VS F xw gm g M (d.run (WD A b (j + 1))).2 W ∧ Lk w W ∧ Boxed W gO 25 (.int .i64 (d.run (WD A b (j + 1))).1)) ∨
      (c = .exit 0 ∧ (d.run (WD A b (chunks b))).1 = 0 ∧ VS F xw gm g M (d.run (WD A b (chunks b))).2 W ∧ Lk w W ∧ Boxed W gO 25 (.int .i64 0))
section
variable {F : Nat → Prop} {xw w : World} {gm g M : Nat} {d : Dev}
theorem Stay.cut {A : Option Addr} {n c : Nat} {b : List UInt8} (h : Stay F xw gm g w (.slice A n c) b) (k : Nat) (hk : k ≤ b.length) : Stay F xw gm g w (.slice (if c = k then A else Option.map (fun x => x.add k) A) (n - k) (c - k)) (b.drop k) := fun z N d hv hl => by
  have h0 := h z N d hv hl
  obtain ⟨A', c', hv', h1, h2, h3⟩ := h0
  injection hv' with e1 e2 e3
  subst e1 e2 e3
  exact (h z N d hv hl).cut k hk
theorem Stay.fore {A : Option Addr} {n c : Nat} {b : List UInt8} (h : Stay F xw gm g w (.slice A n c) b) (k : Nat) (hk : k ≤ b.length) : Stay F xw gm g w (.slice A k c) (b.take k) := fun z N d hv hl => (h z N d hv hl).fore2 k hk
set_option maxHeartbeats 4000000 in
theorem fill_any (h : VS F xw gm g M d w) (hp : d.pend.length ≤ 500000) (A n q : Nat) (hn : n ≤ 200) (hA : A ≤ 1000) (vb : Value) (b : List UInt8) (hb : Stay F xw gm g w vb b) (hbl : b.length ≤ 256 * n) :
    Calls Tryz.prog 34 #[.agg (slotL g A n), .agg (stateL q vb)] w fun e z => e = .returned (.int .i64 (d.run (WD A b (chunks b))).1) ∧ VS F xw gm g M (d.run (WD A b (chunks b))).2 z ∧ Lk w z := by
  have HH := Lib.hid h
  have HB := Lib.hid hb
  have hxw := h.size
  obtain ⟨VA, vc, rfl, hc1, hc2, _⟩ := hb w M d h (Lk.refl _)
  have hch : chunks b ≤ n := chunks_le hbl
  unfold maxLen at hc2
  clear h hb
  refine (callsIn_wide (n := 3)).1 ?_
  refine callsIn_of_wp_marks Tryz.func34 rfl trivial ?_ rfl
  simp only [Tryz.ntmps34, List.size_toArray, List.length_cons, List.length_nil, Nat.reduceAdd, Nat.reduceSub, Array.replicate_succ, Array.replicate_zero, List.push_toArray, List.append_toArray, List.nil_append, List.cons_append]
  refine wpIn_wide.2 ?_
  go_wp2_with (first
    | ((with_reducible refine wpList_box_row (o := ⟨some 2, _, _, _, _, _⟩) rfl 84 (.tmp 0) rfl (slotL g A n) (by with_unfolding_all rfl) ?_); intro g1 w1 n1; have R1 := Lib.hid n1.row; have B1 := Lib.hid n1.below; clear n1)
    | ((with_reducible refine wpList_box_row (o := ⟨some 3, _, _, _, _, _⟩) rfl 89 (.tmp 1) rfl (stateL q (.slice VA b.length vc)) (by with_unfolding_all rfl) ?_); intro g2 w2 n2; have R2 := Lib.hid n2.row; have B2 := Lib.hid (below_size B1.out n2.below); have R12 := Lib.hid (R1.out.kept n2.below); have c2 : (w2.alloc (.cells #[.int .i64 0] 25)).cell? ⟨g2, 1, none⟩ = some (.slice VA b.length vc) := (n2.row.alloc _).cell 1; clear n2)
    | (with_reducible refine wpList_load_row (o := ⟨some 12, _, _, _, _, _⟩) rfl 84 (.tmp 2) rfl g1 (by with_unfolding_all rfl) 84 (slotL g A n) (0, 0) _ (by with_unfolding_all exact ((R12.out.alloc _).alloc _)) Tryz.underlying84 rfl (Tryz.sizeSlot g A n) ?_))
  obtain ⟨gO, hgO⟩ : ∃ gO, gO = w2.heap.size := ⟨_, rfl⟩
  obtain ⟨gL, hgL⟩ : ∃ gL, gL = w2.heap.size + 1 := ⟨_, rfl⟩
  obtain ⟨w3, hw3⟩ : ∃ w3, w3 = (w2.alloc (.cells #[.int .i64 0] 25)).alloc (.cells #[.slice VA b.length vc] 38) := ⟨_, rfl⟩
  have BO3 : Hid (Boxed w3 gO 25 (.int .i64 0)) := by show Boxed _ _ _ _; rw [hw3, hgO]; exact (Boxed.new w2 _ _).alloc _
  have BL3 : Hid (Boxed w3 gL 38 (.slice VA b.length vc)) := by
    show Boxed _ _ _ _
    rw [hw3, hgL]
    have := Boxed.new (w2.alloc (.cells #[.int .i64 0] 25)) 38 (.slice VA b.length vc)
    rw [World.size_alloc] at this
    exact this
  have B3 : Hid (Below w.heap.size w w3) := by show Below _ _ _; rw [hw3]; exact below_size (below_size B2.out (alloc_below _ _)) (alloc_below _ _)
  have R3 : Hid (RowAt w3 g1 84 (slotL g A n)) := by show RowAt _ _ _ _; rw [hw3]; exact (R12.out.alloc _).alloc _
  have hgw : w.heap.size ≤ gO := by rw [hgO]; exact B2.out.size
  have hgw2 : w.heap.size ≤ gL := by rw [hgL]; have := B2.out.size; omega
  have hOL : gO ≠ gL := by omega
  rw [← hw3, ← hgL, ← hgO]
  clear hw3 hgO hgL B1 R1 R2 B2 R12 c2
  refine (sectors_any w3 g A n).mono ?_
  rintro e w5 ⟨gs, rfl, es, hgs, b5⟩
  have EV := Lib.hid es
  have BO5 := Lib.hid (boxed_below BO3.out b5)
  have BL5 := Lib.hid (boxed_below BL3.out b5)
  have R5 := Lib.hid (R3.out.kept b5)
  have B5 := Lib.hid (below_size B3.out b5)
  have hsl := es.lt
  have hO5 := BO5.out.lt
  have hL5 := BL5.out.lt
  have hg5 := R5.out.lt
  have hOs : gO ≠ gs := fun e => by
    have := (Array.getElem?_eq_some_iff.1 BO3.out).1
    omega
  have hLs : gL ≠ gs := fun e => by
    have := (Array.getElem?_eq_some_iff.1 BL3.out).1
    omega
  have hg1s : g1 ≠ gO := fun e => by
    have h1 := BO5.out
    rw [← e] at h1
    exact absurd (row_typed (show RowAt w5 g1 25 #[.int .i64 0] from h1) R5.out) (by decide)
  have hg1L : g1 ≠ gL := fun e => by
    have h1 := BL5.out
    rw [← e] at h1
    exact absurd (row_typed (show RowAt w5 g1 38 #[_] from h1) R5.out) (by decide)
  clear es b5 BO3 BL3 R3 B3
  go_wp2_with fail
  refine (wpIn_wide (n := 3)).1 ?_
  refine wpIn_rangeFunc_N (F := Fence.wide) rfl (by omega) (gf := 80) (lb := #[.pointer (some ⟨gs, 0, none⟩)]) rfl trivial (enters_of Tryz.func80 (by kernel_rfl) rfl)
    (sectors1_tells 2 (by omega) gs g A n (by omega) (by omega) w5 EV.out) (fun _ _ h => h.elim) keepsAt_t (keepsAt_b (fun k hk => hk ▸ hsl)) (Below.refl _ _) (fun _ => rfl)
    (FillI F xw gm g M d w A b n g1 gs gO gL)
    (FillX F xw gm g M d w A b gO)
    ?hI ?hIx (fun _ _ _ _ h => h.elim) (fun _ _ _ _ _ h => h.elim)
    ⟨⟨rfl, HH.out.kept B5.out, Lk.of_below B5.out⟩, ⟨BO5.out, R5.out, EV.out⟩, Nat.zero_le _, VA, vc, BL5.out, HB.out⟩
    (fun x a' W => a' = { tmps := #[.agg (slotL g A n), .agg (stateL q (.slice VA b.length vc)), .pointer (some ⟨g1, 0, none⟩), .pointer (some ⟨g2, 0, none⟩), .pointer (some ⟨gO, 0, none⟩), .pointer (some ⟨gL, 0, none⟩), .int .i64 (x : Int), .int .i64 ((A : Int) + (x : Int)), undef, undef, .pointer (some ⟨g2, 1, none⟩), .slice VA b.length vc, .agg (slotL g A n), .func (.func 80) #[] #[.pointer (some ⟨gs, 0, none⟩)], .int .i64 (x : Int), .int .i64 ((A : Int) + (x : Int)), undef, undef, undef, undef, undef, undef, undef, undef, undef, undef, undef, undef, undef, undef, undef, undef, undef, undef, undef, undef, undef], defers := [] })
    (fun x a' _ X Y row hs hg hr => hs)
    ?assign ?body ?done ?stop
  case hI =>
    rintro s X Y row ⟨⟨i0, i1, i2⟩, ⟨i3, i4, i5⟩, i6, UA, uc, i7, i8⟩ hg hr
    have hne : ∀ k, k < w5.heap.size → some k ≠ row := fun k hk e => by have := (hr k e.symm).1; omega
    have hB := B5.out.size
    exact ⟨⟨i0, i1.far hg fun r e => ⟨by have := (hr r e).1; omega, (hr r e).2⟩, i2.grown hg fun r e => by have := (hr r e).1; omega⟩, ⟨i3.kept hg (hne gO hO5), i4.grown hg (hne g1 hg5), i5.grown hg (hne gs hsl)⟩, i6, UA, uc, i7.kept hg (hne gL hL5), i8⟩
  case hIx =>
    rintro c s X Y row hs hg hr
    have hne : ∀ k, k < w5.heap.size → some k ≠ row := fun k hk e => by have := (hr k e.symm).1; omega
    have hB := B5.out.size
    have hv : ∀ {d'}, VS F xw gm g M d' X → VS F xw gm g M d' Y := fun i2 => i2.far hg fun r e => ⟨by have := (hr r e).1; omega, (hr r e).2⟩
    have hl : Lk w X → Lk w Y := fun i3 => i3.grown hg fun r e => by have := (hr r e).1; omega
    rcases hs with ⟨j, i0, i1, i2, i3, i4, i5⟩ | ⟨i0, i1, i2, i3, i4⟩
    · exact .inl ⟨j, i0, i1, i2, hv i3, hl i4, i5.kept hg (hne gO hO5)⟩
    · exact .inr ⟨i0, i1, hv i2, hl i3, i4.kept hg (hne gO hO5)⟩
  case assign =>
    rintro lo pre x W K hI hK
    gi_wp2
    exact hK _ _ ((KeepsOthers.of_below (Below.refl _ _)).from _) (KeepsAt.refl _ _) hI rfl
  case body =>
    rintro lo pre x a' W hlo hrec ⟨⟨h0, hV, hL⟩, ⟨hO, hR1, hE⟩, hm, UA, uc, hBL, hSt⟩ rfl ⟨hx, hxn⟩
    have hlen1 : (pre ++ [x]).length - 1 = x := by rw [List.length_append, List.length_singleton]; omega
    by_cases hx0 : x = 0
    · subst hx0
      have hp0 : pre.length - 1 = 0 := by omega
      rw [hp0] at h0 hV hm hBL hSt
      have HI : Hid (FillI F xw gm g M d w A b n g1 gs gO gL (pre ++ [0]) W) := by
        show FillI _ _ _ _ _ _ _ _ _ _ _ _ _ _ _ _
        unfold FillI
        rw [hlen1]
        exact ⟨⟨h0, hV, hL⟩, ⟨hO, hR1, hE⟩, hm, UA, uc, hBL, hSt⟩
      clear h0 hV hm hBL hSt hL hO hR1 hE hrec hlen1 hp0 hx
      gi_wp2
      exact ⟨KeepsFrom.refl _ _, KeepsAt.refl _ _, HI.out⟩
    · obtain ⟨m, hm1⟩ : ∃ m, m = pre.length - 1 := ⟨_, rfl⟩
      have hxm : x = m + 1 := by omega
      rw [← hm1] at h0 hV hm hBL hSt
      rw [hxm] at hlen1
      subst hxm
      obtain ⟨Lm, hLm⟩ : ∃ Lm, Lm = b.length - 256 * m := ⟨_, rfl⟩
      rw [← hLm] at hBL hSt
      have cg : W.cell? ⟨g1, 0, none⟩ = some (.pointer (some ⟨g, 0, none⟩)) := hR1.cell 0
      have cL := hBL.cell
      have hd1 : decide (((m + 1 : Nat) : Int) = 0) = false := by simp; omega
      have hd1' : ¬ (((m + 1 : Nat) : Int) = 0) := by omega
      by_cases hLz : Lm = 0
      · have hmc : m = chunks b := by unfold chunks at hm ⊢; omega
        subst hmc
        have HX : Hid (VS F xw gm g M (d.run (WD A b (chunks b))).2 W) := hV
        have HL := Lib.hid hL
        have HO := Lib.hid hO
        have H0 := Lib.hid h0
        subst hLz
        clear hLm h0 hV hBL hSt hL hO hR1 hE hrec hx hm1 hm
        gi_wp2
        exact ⟨KeepsFrom.refl _ _, .inr ⟨rfl, H0.out, HX.out, HL.out, HO.out⟩⟩
      · have HLm := Lib.hid hLm
        have hmb : 256 * m < b.length := by omega
        have HCH : Hid ((b.drop (256 * m)).take (min Lm 256) = chunk b m) := by
          show _ = _
          unfold chunk
          by_cases h3 : 256 ≤ Lm
          · rw [Nat.min_eq_right h3]
          · rw [Nat.min_eq_left (by omega), List.take_of_length_le (by rw [List.length_drop]; omega), List.take_of_length_le (by rw [List.length_drop]; omega)]
        have HDR : Hid ((b.drop (256 * m)).drop (min Lm 256) = b.drop (256 * (m + 1))) := by
          show _ = _
          rw [List.drop_drop]
          by_cases h3 : 256 ≤ Lm
          · rw [Nat.min_eq_right h3]; congr 1
          · rw [Nat.min_eq_left (by omega), List.drop_eq_nil_of_le (by omega), List.drop_eq_nil_of_le (by omega)]
        have hLm2 : Lm - min Lm 256 = b.length - 256 * (m + 1) := by omega
        have HL2 := Lib.hid hLm2
        have hmc : m + 1 ≤ chunks b := by unfold chunks; omega
        have HS : Hid (d.run (WD A b (m + 1)) = ((d.run (WD A b m)).2.writeE ((A : Int) + ((m : Int) + 1)) (chunk b m), (d.run (WD A b m)).2.write ((A : Int) + ((m : Int) + 1)) (chunk b m))) := by
          show _ = _
          rw [WD_succ, Dev.run_snoc _ h0, show (A : Int) + ((m : Int) + 1) = ((A + 1 + m : Nat) : Int) by omega]
          rfl
        have hpk := d.run_pend (WD A b m)
        rw [WD_len] at hpk
        have hch2 : chunks b ≤ 200 := by omega
        have HW : Hid (∀ (vq : Value) (W' : World), VS F xw gm g M (d.run (WD A b m)).2 W' → Bs W' vq (chunk b m) → Calls Tryz.prog 19 #[.pointer (some ⟨g, 0, none⟩), .int .i64 ((A : Int) + ((m : Int) + 1)), vq] W' fun e z => e = .returned (.int .i64 ((d.run (WD A b m)).2.writeE ((A : Int) + ((m : Int) + 1)) (chunk b m))) ∧ VS F xw gm g M ((d.run (WD A b m)).2.write ((A : Int) + ((m : Int) + 1)) (chunk b m)) z ∧ Lk W' z) := fun vq W' hv hq => hv.write _ vq _ hq (by omega)
        have hdl : (b.drop (256 * m)).length = Lm := by rw [List.length_drop]; omega
        have HV := Lib.hid hV
        have HL := Lib.hid hL
        have HO := Lib.hid hO
        have HR1 := Lib.hid hR1
        have HE := Lib.hid hE
        have HBL := Lib.hid hBL
        have HST := Lib.hid hSt
        have HLEN := Lib.hid hlen1
        have HDL := Lib.hid hdl
        generalize (d.run (WD A b m)).2 = dk at HS HW HV
        generalize hew : dk.writeE ((A : Int) + ((m : Int) + 1)) (chunk b m) = ew at HS HW
        generalize hdw : dk.write ((A : Int) + ((m : Int) + 1)) (chunk b m) = dw at HS HW
        generalize b.drop (256 * m) = rest at HST HCH HDR HDL
        generalize chunk b m = ck at HCH HW
        have hLmb : Lm ≤ 60000 := by omega
        have hx2 : ((m + 1 : Nat) : Int) = (m : Int) + 1 := by omega
        clear hx hrec hpk hV hL hO hR1 hE h0 hew hdw hBL hSt hlen1 hLm hLm2 hdl hm1 hmb
        have hd2 : decide ((Lm : Int) = 0) = false := by simp; omega
        have hd2' : ¬ ((Lm : Int) = 0) := by omega
        have key : ∃ sz : Nat, sz = min Lm 256 ∧ ((sz = 256 ∧ (256 : Int) < (Lm : Int)) ∨ (sz = Lm ∧ ¬ (256 : Int) < (Lm : Int))) := ⟨_, rfl, by omega⟩
        obtain ⟨sz, hsz, key⟩ := key
        rw [← hsz] at HCH HDR HL2
        have hszL : sz ≤ Lm := by omega
        clear hsz
        rcases key with ⟨hs1, hs2⟩ | ⟨hs1, hs2⟩
        · subst hs1
          gi_wp2
          have hu := HST.out W M dk HV.out HL.out
          obtain ⟨hLc, huc⟩ : Lm ≤ uc ∧ uc ≤ maxLen := by
            obtain ⟨_, _, hv', q1, q2, _⟩ := hu
            injection hv' with _ _ e3
            subst e3
            exact ⟨by rw [HDL.out] at q1; exact q1, q2⟩
          unfold maxLen at huc
          have q1 : (256 : Int) ≤ (uc : Int) := by omega
          have q0 : ¬ (256 : Int) < 0 := by omega
          clear hu
          refine round_region (S := fun W' => RowAt W' g1 84 (slotL g A n) ∧ Boxed W' gL 38 (.slice UA Lm uc)) (fin := fun j => j == 7) (by kernel_rfl) (by kernel_rfl) (by rintro ⟨_, _, h⟩; exact h) ?_
          have hS : RowAt W.drew g1 84 (slotL g A n) ∧ Boxed W.drew gL 38 (.slice UA Lm uc) := ⟨HR1.out.drew, HBL.out⟩
          change walkS _ _ _ _ _ _ 8 _ _ _
          refine walkS_take (i := 0) (oi := ⟨some 24, _, _, _, _, _⟩) (v := .pointer (some ⟨g1, 0, none⟩)) rfl (by kernel_rfl) (by kernel_rfl) (fun _ _ _ h => h) _ _ _ _ (by kernel_rfl) (by kernel_rfl) (Or.inl ⟨by rfl, fun w' hS' => (by clear hS hS'; go_simp)⟩) hS ?_
          try simp only [Act.put, List.setIfInBounds_toArray, List.set_cons_zero, List.set_cons_succ]
          refine walkS_take (i := 1) (oi := ⟨some 25, _, _, _, _, _⟩) (v := .pointer (some ⟨g, 0, none⟩)) rfl (by kernel_rfl) (by kernel_rfl) (fun _ _ _ h => h) _ _ _ _ (by kernel_rfl) (by kernel_rfl) (Or.inl ⟨by rfl, fun w' hS' => (by have h1 : w'.cell? ⟨g1, 0, none⟩ = some (.pointer (some ⟨g, 0, none⟩)) := hS'.1.cell 0; clear hS hS'; go_simp)⟩) hS ?_
          try simp only [Act.put, List.setIfInBounds_toArray, List.set_cons_zero, List.set_cons_succ]
          refine walkS_take (i := 2) (oi := ⟨some 26, _, _, _, _, _⟩) (v := .int .i64 ((A : Int) + ((m : Int) + 1))) rfl (by kernel_rfl) (by kernel_rfl) (fun _ _ _ h => h) _ _ _ _ (by kernel_rfl) (by kernel_rfl) (Or.inl ⟨by rfl, fun w' hS' => (by clear hS hS'; go_simp)⟩) hS ?_
          try simp only [Act.put, List.setIfInBounds_toArray, List.set_cons_zero, List.set_cons_succ]
          refine walkS_take (i := 3) (oi := ⟨some 27, _, _, _, _, _⟩) (v := .slice UA Lm uc) rfl (by kernel_rfl) (by kernel_rfl) (fun _ _ _ h => h) _ _ _ _ (by kernel_rfl) (by kernel_rfl) (Or.inl ⟨by rfl, fun w' hS' => (by have h1 := hS'.2.cell; clear hS hS'; go_simp)⟩) hS ?_
          try simp only [Act.put, List.setIfInBounds_toArray, List.set_cons_zero, List.set_cons_succ]
          refine walkS_take (i := 4) (oi := ⟨some 28, _, _, _, _, _⟩) (v := .int .i64 256) rfl (by kernel_rfl) (by kernel_rfl) (fun _ _ _ h => h) _ _ _ _ (by kernel_rfl) (by kernel_rfl) (Or.inl ⟨by rfl, fun w' hS' => (by clear hS hS'; go_simp)⟩) hS ?_
          try simp only [Act.put, List.setIfInBounds_toArray, List.set_cons_zero, List.set_cons_succ]
          refine walkS_take (i := 5) (oi := ⟨some 29, _, _, _, _, _⟩) (v := .slice UA 256 uc) rfl (by kernel_rfl) (by kernel_rfl) (fun _ _ _ h => h) _ _ _ _ (by kernel_rfl) (by kernel_rfl) (Or.inl ⟨by rfl, fun w' hS' => (by clear hS hS'; go_simp)⟩) hS ?_
          try simp only [Act.put, List.setIfInBounds_toArray, List.set_cons_zero, List.set_cons_succ]
          refine walkS_only (i := 6) (o := ⟨some 30, _, _, _, _, _⟩) (by kernel_rfl) rfl rfl fun KK hKK => ?_
          have HBS : Hid (Bs W.drew (.slice UA 256 uc) ck) := by
            have h1 := (HST.out.fore 256 (by rw [HDL.out]; omega)) W M dk HV.out HL.out
            rw [HCH.out] at h1
            exact h1.drew
          clear hS
          go_simp
          refine (HW.out _ _ (HV.out.kept (Below.refl _ _).drew) HBS.out).mono ?_
          rintro e W1 ⟨rfl, v1, l1⟩
          have l1' : Lk W W1 := (Lk.of_below (Below.refl _ W).drew).trans l1
          have V1 := Lib.hid v1
          have L1 := Lib.hid (HL.out.trans l1')
          have O1 := Lib.hid (l1'.box HO.out not_errno)
          have R1 := Lib.hid (l1'.row HR1.out not_slot)
          have BL1 := Lib.hid (l1'.box HBL.out not_bytes)
          have E1 := Lib.hid (l1'.row HE.out not_slot)
          have KF := Lib.hid (l1'.from w5.heap.size)
          refine hKK _ _ (.inr ⟨R1.out, BL1.out⟩) ?_
          clear hKK KK
          try simp only [Act.put, List.setIfInBounds_toArray, List.set_cons_zero, List.set_cons_succ]
          refine walkS_only (i := 7) (o := ⟨some 9, _, _, _, _, _⟩) (by kernel_rfl) rfl rfl fun KK hKK => ?_
          clear v1 l1 l1' HL HO HR1 HBL HW HV HBS cg cL
          go_simp
          refine hKK _ _ (.inl rfl) ?_
          clear hKK KK
          refine walkS_done (by kernel_rfl) ?_ _
          have fO := O1.out.frozen
          have fL := BL1.out.frozen
          have cO := O1.out.cell
          have cL := BL1.out.cell
          by_cases he : ew = 0
          · have hd3 : decide (ew = 0) = true := decide_eq_true he
            have hd3' : (ew != 0) = false := by simp [he]
            have HS0 : Hid ((d.run (WD A b (m + 1))).1 = 0 ∧ (d.run (WD A b (m + 1))).2 = dw) := ⟨by rw [HS.out]; exact he, by rw [HS.out]⟩
            clear hd3 HS
            subst he
            have q2 : ¬ ((Lm : Int) < (256 : Int)) := by omega
            obtain ⟨UB, hUB⟩ : ∃ UB, UB = (if uc = 256 then UA else Option.map (fun x => x.add 256) UA) := ⟨_, rfl⟩
            have HC := Lib.hid (HST.out.cut 256 (by rw [HDL.out]; omega))
            rw [HDR.out, ← hUB, HL2.out] at HC
            have HL2' := HL2.out
            have HUB := Lib.hid hUB
            clear hUB
            have hfin : ∀ W2, W2 = W1.setCell ⟨gL, 0, none⟩ (.slice UB (b.length - 256 * (m + 1)) (uc - 256)) → ownPostG w5.heap.size (KeepsAt fun k => k = gs) (FillI F xw gm g M d w A b n g1 gs gO gL) (FillX F xw gm g M d w A b gO) (pre ++ [m + 1]) W .normal { tmps := #[], defers := [] } W2 := by
              intro W2 hW2
              have hgs2 := grownBy_setCell' W1 gL (.slice UB (b.length - 256 * (m + 1)) (uc - 256))
              rw [← hW2] at hgs2
              have E3 : RowAt W2 gs 84 (slotL g A n) := E1.out.grown hgs2 (by intro e; injection e with e; exact hLs e.symm)
              refine ⟨KF.out.trans ?_, fun k hk => by subst hk; exact E3.trans HE.out.symm, ⟨?_, ?_, ?_⟩, ⟨O1.out.kept hgs2 (by intro e; injection e with e; exact hOL e), R1.out.grown hgs2 (by intro e; injection e with e; exact hg1L e), E3⟩, ?_, UB, uc - 256, ?_, ?_⟩
              · rw [hW2]; exact (KeepsOthers.setCell _ _ _).from _
              · rw [HLEN.out]; exact HS0.out.1
              · rw [HLEN.out, HS0.out.2]; exact V1.out.own HH.out hgs2 hgw2 (show RowAt W1 gL _ _ from BL1.out) not_bytes
              · exact L1.out.grown hgs2 fun r e => by injection e with e; omega
              · rw [HLEN.out]; exact hmc
              · rw [HLEN.out, hW2]; exact BL1.out.set _
              · rw [HLEN.out]; exact HC.out
            have HFIN := Lib.hid hfin
            clear hfin HL2 HC
            by_cases hcs : uc = 256
            · have hUA : UB = UA := by rw [HUB.out, if_pos hcs]
              subst hUA
              exfalso
              omega
            · have hUA : UB = Option.map (fun x => x.add 256) UA := by rw [HUB.out, if_neg hcs]
              subst hUA
              gi_wp2
              exact HFIN.out _ rfl
          · have hd3 : decide (ew = 0) = false := decide_eq_false he
            have hd3' : (ew != 0) = true := by simp [he]
            gi_wp2
            have hgs2 := grownBy_setCell' W1 gO (.int .i64 ew)
            refine ⟨KF.out.trans ((KeepsOthers.setCell _ _ _).from _), .inl ⟨m, rfl, hmc, ?_, ?_, L1.out.grown hgs2 (fun r e => by injection e with e; omega), ?_⟩⟩
            · rw [HS.out]; exact he
            · rw [HS.out]; exact V1.out.own HH.out hgs2 hgw (show RowAt W1 gO _ _ from O1.out) not_errno
            · rw [HS.out]; exact O1.out.set _
        · have hs1' : Lm = sz := hs1.symm
          clear hs1
          subst hs1'
          gi_wp2
          have hu := HST.out W M dk HV.out HL.out
          obtain ⟨hLc, huc⟩ : Lm ≤ uc ∧ uc ≤ maxLen := by
            obtain ⟨_, _, hv', q1, q2, _⟩ := hu
            injection hv' with _ _ e3
            subst e3
            exact ⟨by rw [HDL.out] at q1; exact q1, q2⟩
          unfold maxLen at huc
          have q1 : ((Lm : Int) : Int) ≤ (uc : Int) := by omega
          have q0 : ¬ ((Lm : Int) : Int) < 0 := by omega
          clear hu
          refine round_region (S := fun W' => RowAt W' g1 84 (slotL g A n) ∧ Boxed W' gL 38 (.slice UA Lm uc)) (fin := fun j => j == 7) (by kernel_rfl) (by kernel_rfl) (by rintro ⟨_, _, h⟩; exact h) ?_
          have hS : RowAt W.drew g1 84 (slotL g A n) ∧ Boxed W.drew gL 38 (.slice UA Lm uc) := ⟨HR1.out.drew, HBL.out⟩
          change walkS _ _ _ _ _ _ 8 _ _ _
          refine walkS_take (i := 0) (oi := ⟨some 24, _, _, _, _, _⟩) (v := .pointer (some ⟨g1, 0, none⟩)) rfl (by kernel_rfl) (by kernel_rfl) (fun _ _ _ h => h) _ _ _ _ (by kernel_rfl) (by kernel_rfl) (Or.inl ⟨by rfl, fun w' hS' => (by clear hS hS'; go_simp)⟩) hS ?_
          try simp only [Act.put, List.setIfInBounds_toArray, List.set_cons_zero, List.set_cons_succ]
          refine walkS_take (i := 1) (oi := ⟨some 25, _, _, _, _, _⟩) (v := .pointer (some ⟨g, 0, none⟩)) rfl (by kernel_rfl) (by kernel_rfl) (fun _ _ _ h => h) _ _ _ _ (by kernel_rfl) (by kernel_rfl) (Or.inl ⟨by rfl, fun w' hS' => (by have h1 : w'.cell? ⟨g1, 0, none⟩ = some (.pointer (some ⟨g, 0, none⟩)) := hS'.1.cell 0; clear hS hS'; go_simp)⟩) hS ?_
          try simp only [Act.put, List.setIfInBounds_toArray, List.set_cons_zero, List.set_cons_succ]
          refine walkS_take (i := 2) (oi := ⟨some 26, _, _, _, _, _⟩) (v := .int .i64 ((A : Int) + ((m : Int) + 1))) rfl (by kernel_rfl) (by kernel_rfl) (fun _ _ _ h => h) _ _ _ _ (by kernel_rfl) (by kernel_rfl) (Or.inl ⟨by rfl, fun w' hS' => (by clear hS hS'; go_simp)⟩) hS ?_
          try simp only [Act.put, List.setIfInBounds_toArray, List.set_cons_zero, List.set_cons_succ]
          refine walkS_take (i := 3) (oi := ⟨some 27, _, _, _, _, _⟩) (v := .slice UA Lm uc) rfl (by kernel_rfl) (by kernel_rfl) (fun _ _ _ h => h) _ _ _ _ (by kernel_rfl) (by kernel_rfl) (Or.inl ⟨by rfl, fun w' hS' => (by have h1 := hS'.2.cell; clear hS hS'; go_simp)⟩) hS ?_
          try simp only [Act.put, List.setIfInBounds_toArray, List.set_cons_zero, List.set_cons_succ]
          refine walkS_take (i := 4) (oi := ⟨some 28, _, _, _, _, _⟩) (v := .int .i64 (Lm : Int)) rfl (by kernel_rfl) (by kernel_rfl) (fun _ _ _ h => h) _ _ _ _ (by kernel_rfl) (by kernel_rfl) (Or.inl ⟨by rfl, fun w' hS' => (by clear hS hS'; go_simp)⟩) hS ?_
          try simp only [Act.put, List.setIfInBounds_toArray, List.set_cons_zero, List.set_cons_succ]
          refine walkS_take (i := 5) (oi := ⟨some 29, _, _, _, _, _⟩) (v := .slice UA Lm uc) rfl (by kernel_rfl) (by kernel_rfl) (fun _ _ _ h => h) _ _ _ _ (by kernel_rfl) (by kernel_rfl) (Or.inl ⟨by rfl, fun w' hS' => (by clear hS hS'; go_simp)⟩) hS ?_
          try simp only [Act.put, List.setIfInBounds_toArray, List.set_cons_zero, List.set_cons_succ]
          refine walkS_only (i := 6) (o := ⟨some 30, _, _, _, _, _⟩) (by kernel_rfl) rfl rfl fun KK hKK => ?_
          have HBS : Hid (Bs W.drew (.slice UA Lm uc) ck) := by
            have h1 := (HST.out.fore Lm (by rw [HDL.out]; omega)) W M dk HV.out HL.out
            rw [HCH.out] at h1
            exact h1.drew
          clear hS
          go_simp
          refine (HW.out _ _ (HV.out.kept (Below.refl _ _).drew) HBS.out).mono ?_
          rintro e W1 ⟨rfl, v1, l1⟩
          have l1' : Lk W W1 := (Lk.of_below (Below.refl _ W).drew).trans l1
          have V1 := Lib.hid v1
          have L1 := Lib.hid (HL.out.trans l1')
          have O1 := Lib.hid (l1'.box HO.out not_errno)
          have R1 := Lib.hid (l1'.row HR1.out not_slot)
          have BL1 := Lib.hid (l1'.box HBL.out not_bytes)
          have E1 := Lib.hid (l1'.row HE.out not_slot)
          have KF := Lib.hid (l1'.from w5.heap.size)
          refine hKK _ _ (.inr ⟨R1.out, BL1.out⟩) ?_
          clear hKK KK
          try simp only [Act.put, List.setIfInBounds_toArray, List.set_cons_zero, List.set_cons_succ]
          refine walkS_only (i := 7) (o := ⟨some 9, _, _, _, _, _⟩) (by kernel_rfl) rfl rfl fun KK hKK => ?_
          clear v1 l1 l1' HL HO HR1 HBL HW HV HBS cg cL
          go_simp
          refine hKK _ _ (.inl rfl) ?_
          clear hKK KK
          refine walkS_done (by kernel_rfl) ?_ _
          have fO := O1.out.frozen
          have fL := BL1.out.frozen
          have cO := O1.out.cell
          have cL := BL1.out.cell
          by_cases he : ew = 0
          · have hd3 : decide (ew = 0) = true := decide_eq_true he
            have hd3' : (ew != 0) = false := by simp [he]
            have HS0 : Hid ((d.run (WD A b (m + 1))).1 = 0 ∧ (d.run (WD A b (m + 1))).2 = dw) := ⟨by rw [HS.out]; exact he, by rw [HS.out]⟩
            clear hd3 HS
            subst he
            have q2 : ¬ ((Lm : Int) < ((Lm : Int) : Int)) := by omega
            obtain ⟨UB, hUB⟩ : ∃ UB, UB = (if uc = Lm then UA else Option.map (fun x => x.add Lm) UA) := ⟨_, rfl⟩
            have HC := Lib.hid (HST.out.cut Lm (by rw [HDL.out]; omega))
            rw [HDR.out, ← hUB, HL2.out] at HC
            have HL2' := HL2.out
            have HUB := Lib.hid hUB
            clear hUB
            have hfin : ∀ W2, W2 = W1.setCell ⟨gL, 0, none⟩ (.slice UB (b.length - 256 * (m + 1)) (uc - Lm)) → ownPostG w5.heap.size (KeepsAt fun k => k = gs) (FillI F xw gm g M d w A b n g1 gs gO gL) (FillX F xw gm g M d w A b gO) (pre ++ [m + 1]) W .normal { tmps := #[], defers := [] } W2 := by
              intro W2 hW2
              have hgs2 := grownBy_setCell' W1 gL (.slice UB (b.length - 256 * (m + 1)) (uc - Lm))
              rw [← hW2] at hgs2
              have E3 : RowAt W2 gs 84 (slotL g A n) := E1.out.grown hgs2 (by intro e; injection e with e; exact hLs e.symm)
              refine ⟨KF.out.trans ?_, fun k hk => by subst hk; exact E3.trans HE.out.symm, ⟨?_, ?_, ?_⟩, ⟨O1.out.kept hgs2 (by intro e; injection e with e; exact hOL e), R1.out.grown hgs2 (by intro e; injection e with e; exact hg1L e), E3⟩, ?_, UB, uc - Lm, ?_, ?_⟩
              · rw [hW2]; exact (KeepsOthers.setCell _ _ _).from _
              · rw [HLEN.out]; exact HS0.out.1
              · rw [HLEN.out, HS0.out.2]; exact V1.out.own HH.out hgs2 hgw2 (show RowAt W1 gL _ _ from BL1.out) not_bytes
              · exact L1.out.grown hgs2 fun r e => by injection e with e; omega
              · rw [HLEN.out]; exact hmc
              · rw [HLEN.out, hW2]; exact BL1.out.set _
              · rw [HLEN.out]; exact HC.out
            have HFIN := Lib.hid hfin
            clear hfin HL2 HC
            by_cases hcs : uc = Lm
            · have hUA : UB = UA := by rw [HUB.out, if_pos hcs]
              subst hUA
              subst hcs
              rw [Nat.sub_self] at HFIN
              gi_wp2
              exact HFIN.out _ (by rw [show b.length - 256 * (m + 1) = 0 by omega])
            · have hUA : UB = Option.map (fun x => x.add Lm) UA := by rw [HUB.out, if_neg hcs]
              subst hUA
              gi_wp2
              exact HFIN.out _ rfl
          · have hd3 : decide (ew = 0) = false := decide_eq_false he
            have hd3' : (ew != 0) = true := by simp [he]
            gi_wp2
            have hgs2 := grownBy_setCell' W1 gO (.int .i64 ew)
            refine ⟨KF.out.trans ((KeepsOthers.setCell _ _ _).from _), .inl ⟨m, rfl, hmc, ?_, ?_, L1.out.grown hgs2 (fun r e => by injection e with e; omega), ?_⟩⟩
            · rw [HS.out]; exact he
            · rw [HS.out]; exact V1.out.own HH.out hgs2 hgw (show RowAt W1 gO _ _ from O1.out) not_errno
            · rw [HS.out]; exact O1.out.set _
  case done =>
    rintro D xs W hD rfl ⟨⟨h0, hV, hL⟩, ⟨hO, hR1, hE⟩, hm, UA, uc, hBL, hSt⟩ hK
    rw [List.length_range, show n + 1 - 1 = n by omega] at h0 hV hm
    have hnc : n = chunks b := by omega
    rw [hnc] at h0 hV
    have H0 := Lib.hid h0
    have HV := Lib.hid hV
    have HL := Lib.hid hL
    have HO := Lib.hid hO
    have HK := Lib.hid hK
    clear h0 hV hL hO hE hK hR1 hBL hSt hm hnc
    have cO := HO.out.cell
    have fO := HO.out.frozen
    go_wp2
    have hgs2 := grownBy_setCell' W gO (.int .i64 0)
    have hDO : D ≠ gO := fun e => by
      have h1 := HO.out
      have h2 := HK.out
      rw [e, show W.heap[gO]? = _ from h1] at h2
      cases h2
    have hK2 : (W.setCell ⟨gO, 0, none⟩ (.int .i64 0)).heap[D]? = some (.deferred (some [])) := (hgs2.block D (Array.getElem?_eq_some_iff.1 HK.out).1 (by intro e; injection e with e; exact hDO e)).trans HK.out
    refine ⟨by simp, .inl ⟨_, _, rfl, run_takeDeferred hK2, ?_⟩⟩
    have hO2 := HO.out.set (.int .i64 0)
    have hgp := grownBy_putObj' (W.setCell ⟨gO, 0, none⟩ (.int .i64 0)) D (.deferred none)
    have hO3 := hO2.kept hgp (by intro e; injection e with e; exact hDO e.symm)
    have hB := B5.out.size
    have hr2 : ∀ r, some D = some r → xw.heap.size ≤ r ∧ ∃ o : Obj, (W.setCell ⟨gO, 0, none⟩ (.int .i64 0)).heap[r]? = some o ∧ o.isCells = false := fun r e => by
      cases e
      exact ⟨by omega, _, hK2, rfl⟩
    refine ⟨_, Tryz.results_errno rfl _ _ gO 0 rfl hO3.cell, ?_, ?_, ?_⟩
    · rw [H0.out]
    · exact (HV.out.own HH.out hgs2 hgw (show RowAt W gO _ _ from HO.out) not_errno).far hgp hr2
    · exact (HL.out.grown hgs2 (fun r e => by injection e with e; omega)).grown hgp fun r e => by injection e with e; omega
  case stop =>
    rintro D c pre W hD hSp hX hK
    rcases hX with ⟨j, rfl, hj, h0, hV, hL, hO⟩ | ⟨rfl, h0, hV, hL, hO⟩
    · have HS : Hid (d.run (WD A b (chunks b)) = d.run (WD A b (j + 1))) := by
        show _ = _
        obtain ⟨rest, e⟩ := WD_pre A b (j + 1) (chunks b - (j + 1))
        rw [show j + 1 + (chunks b - (j + 1)) = chunks b by omega] at e
        rw [e, Dev.run_stop _ h0]
      have HV := Lib.hid hV
      have HL := Lib.hid hL
      have HO := Lib.hid hO
      have HK := Lib.hid hK
      clear hV hL hO hK h0 hSp
      gi_wp2
      have hDO : D ≠ gO := fun e => by
        have h1 := HO.out
        have h2 := HK.out
        rw [e, show W.heap[gO]? = _ from h1] at h2
        cases h2
      refine ⟨by simp, .inl ⟨_, _, rfl, run_takeDeferred HK.out, ?_⟩⟩
      have hgp := grownBy_putObj' W D (.deferred none)
      have hO3 := HO.out.kept hgp (by intro e; injection e with e; exact hDO e.symm)
      have hB := B5.out.size
      have hr2 : ∀ r, some D = some r → xw.heap.size ≤ r ∧ ∃ o : Obj, W.heap[r]? = some o ∧ o.isCells = false := fun r e => by
        cases e
        exact ⟨by omega, _, HK.out, rfl⟩
      refine ⟨_, Tryz.results_errno rfl _ _ gO _ rfl hO3.cell, ?_, ?_, ?_⟩
      · rw [HS.out]
      · rw [HS.out]; exact HV.out.far hgp hr2
      · exact HL.out.grown hgp fun r e => by injection e with e; omega
    · have H0 := Lib.hid h0
      have HV := Lib.hid hV
      have HL := Lib.hid hL
      have HO := Lib.hid hO
      have HK := Lib.hid hK
      clear h0 hV hL hO hK hSp
      have cO := HO.out.cell
      have fO := HO.out.frozen
      refine wpIn_wide.2 ?_
      go_wp2
      have hgs2 := grownBy_setCell' W gO (.int .i64 0)
      have hDO : D ≠ gO := fun e => by
        have h1 := HO.out
        have h2 := HK.out
        rw [e, show W.heap[gO]? = _ from h1] at h2
        cases h2
      have hK2 : (W.setCell ⟨gO, 0, none⟩ (.int .i64 0)).heap[D]? = some (.deferred (some [])) := (hgs2.block D (Array.getElem?_eq_some_iff.1 HK.out).1 (by intro e; injection e with e; exact hDO e)).trans HK.out
      refine ⟨by simp, .inl ⟨_, _, rfl, run_takeDeferred hK2, ?_⟩⟩
      have hO2 := HO.out.set (.int .i64 0)
      have hgp := grownBy_putObj' (W.setCell ⟨gO, 0, none⟩ (.int .i64 0)) D (.deferred none)
      have hO3 := hO2.kept hgp (by intro e; injection e with e; exact hDO e.symm)
      have hB := B5.out.size
      have hr2 : ∀ r, some D = some r → xw.heap.size ≤ r ∧ ∃ o : Obj, (W.setCell ⟨gO, 0, none⟩ (.int .i64 0)).heap[r]? = some o ∧ o.isCells = false := fun r e => by
        cases e
        exact ⟨by omega, _, hK2, rfl⟩
      refine ⟨_, Tryz.results_errno rfl _ _ gO 0 rfl hO3.cell, ?_, ?_, ?_⟩
      · rw [H0.out]
      · exact (HV.out.own HH.out hgs2 hgw (show RowAt W gO _ _ from HO.out) not_errno).far hgp hr2
      · exact (HL.out.grown hgs2 (fun r e => by injection e with e; omega)).grown hgp fun r e => by injection e with e; omega
end
end Go.Proofs.YtpgbicbjlhkonaaGreatDoor
end
section
namespace Go.Proofs.YtpgbicbjlhkonaaGreatDoor
open Go.RowKit
set_option linter.unusedVariables false
set_option maxRecDepth 20000

theorem Tryz.infoBy : (Tryz.prog.info? 5).map (fun i => (i.zero, i.size, i.bytes)) = some (some (.int .u8 0), 1, 1) := by kernel_rfl
/-- copy of a key, or of nothing, over a key's row. -/
theorem run_copyKey {P : Program} (w : World) (dT ty elem : TypeId) (hu : P.underlying dT = some (.slice elem)) (hs : (P.info? elem).map (·.size) = some 1) (g : Nat) (t : TypeId) (v : Value) (l : List UInt8) (hv : Bs w v l) (hl : l.length = 32 ∨ l = []) (hr : RowAt w g t (keyC zeroKey)) :
    ∃ n w', (Builtin.copy_ #[dT, dT] ty #[.slice (some ⟨g, 0, none⟩) 32 32, v]).run P w = .ok (goInt n) w' ∧ PutRow w g t (keyC (if l.length = 32 then l else zeroKey)) w' := by
  obtain ⟨A, c, rfl, h1, h2, h3⟩ := hv
  rcases hl with hl | rfl
  · obtain ⟨b, off, rfl, hc⟩ := h3 (by omega)
    have h := run_copy_row (P := P) w dT dT ty elem g 0 32 32 ⟨b, off, none⟩ l.length c (keyC zeroKey) t (cellsB l) hu hs hr (by rw [cellsB_length, hl]; rfl) (fun j x hx => by
      have hj := (List.getElem?_eq_some_iff.1 hx).1
      rw [cellsB_length] at hj
      rw [cellsB_get l j hj] at hx
      have hadd : (⟨b, off, none⟩ : Addr).add j = ⟨b, off + j, none⟩ := by unfold Addr.add; split <;> simp_all
      rw [hadd, hc j hj, hx]) (by rw [cellsB_length, hl, keyC_size, zeroKey_length]; omega) (cellsB_one l)
    have e : ((keyC zeroKey).toList.take 0 ++ cellsB l ++ (keyC zeroKey).toList.drop (0 + (cellsB l).length)).toArray = keyC l := by
      rw [List.drop_eq_nil_of_le (by rw [cellsB_length, hl, Array.length_toList, keyC_size, zeroKey_length]; omega)]
      simp [keyC]
    rw [e] at h
    rw [if_pos hl]
    exact ⟨_, _, h, setRow_put hr⟩
  · have e1 : (if ([] : List UInt8).length = 32 then [] else zeroKey) = zeroKey := rfl
    rw [e1]
    rcases A with _ | ad
    · obtain ⟨iz, hz, hsz⟩ := Option.map_eq_some_iff.1 hs
      refine ⟨0, w, ?_, ⟨hr, World.grownBy.refl _ _, rfl⟩⟩
      simp [Builtin.copy_, run_underlying hu, Builtin.lenOf, Builtin.firstCells, sizeOf, typeInfo, hz, storeCells]
    · have h := run_copy_row (P := P) w dT dT ty elem g 0 32 32 ad 0 c (keyC zeroKey) t [] hu hs hr rfl (fun j x hx => by cases hx) (by simp) (by simp)
      have e : ((keyC zeroKey).toList.take 0 ++ [] ++ (keyC zeroKey).toList.drop (0 + ([] : List Value).length)).toArray = keyC zeroKey := by simp
      rw [e] at h
      exact ⟨_, _, h, setRow_put hr⟩

set_option maxHeartbeats 1000000 in
theorem inEnd_any (w : World) (i : Nat) (s : St) (h : InAt w i s) :
    Calls Tryz.prog 78 #[.pointer (some ⟨i, 0, none⟩)] w fun e w' => e = .returned (.int .i64 s.fin) ∧ w = w' := by
  obtain ⟨l, y⟩ := s
  obtain ⟨v, hr, hv, _⟩ := h
  have c0 : w.cell? ⟨i, 0, none⟩ = some v := hr.cell 0
  have c1 : w.cell? ⟨i, 1, none⟩ = some (.int .i64 y) := hr.cell 1
  obtain ⟨A, c, rfl, _, _, _⟩ := hv
  clear hr
  simp only at c0 c1
  by_cases hy : y = 0
  · subst hy
    by_cases hl : l = []
    · subst hl
      have HF : Hid ((St.mk [] 0).fin = 0) := by show _ = _; unfold St.fin; rw [if_pos rfl, if_pos rfl]
      go_enter Tryz.func78, Tryz.ntmps78
      go_wp2
      go_ret
      exact ⟨by rw [HF.out]; rfl, rfl⟩
    · have hp : 0 < l.length := List.length_pos_iff.2 hl
      have hd : decide ((0 : Int) < (l.length : Int)) = true := by simp; omega
      have HF : Hid ((St.mk l 0).fin = 50) := by show _ = _; unfold St.fin; rw [if_pos rfl, if_neg hl]
      clear hl
      go_enter Tryz.func78, Tryz.ntmps78
      go_wp2
      go_ret
      exact ⟨by rw [HF.out]; rfl, rfl⟩
  · have hd : decide (y = 0) = false := by simp [hy]
    have HF : Hid ((St.mk l y).fin = y) := by show _ = _; unfold St.fin; rw [if_neg hy]
    go_enter Tryz.func78, Tryz.ntmps78
    go_wp2
    go_ret
    exact ⟨by rw [HF.out]; rfl, rfl⟩

set_option maxHeartbeats 1000000 in
theorem read_any (w : World) (v : Value) (l : List UInt8) (h : Bs w v l) (hl : l.length ≤ 140737488355000) :
    Calls Tryz.prog 75 #[v] w fun e w' => ∃ i, e = .returned (.pointer (some ⟨i, 0, none⟩)) ∧ w.heap.size ≤ i ∧ InAt w' i ⟨l, 0⟩ ∧ Below w.heap.size w w' := by
  have HC := Lib.hid (clone_any w v l h hl)
  obtain ⟨A, c, rfl, _, _, _⟩ := h
  go_enter Tryz.func75, Tryz.ntmps75
  go_wp2_with fail
  refine HC.out.mono ?_
  intro e w1 hh
  obtain ⟨v1, he, ho, b1⟩ := hh
  subst he
  have HO := Lib.hid ho
  have HB := Lib.hid b1
  obtain ⟨A1, c1, rfl, _, _⟩ := ho.shape
  clear ho b1
  go_wp2
  go_ret
  refine ⟨_, rfl, HB.out.size, ⟨_, RowAt.new w1 156 #[.slice A1 l.length c1, .int .i64 0], HO.out.bs.alloc _, (U8At.of HO.out).below (alloc_below _ _)⟩, below_size HB.out (alloc_below _ _)⟩
end Go.Proofs.YtpgbicbjlhkonaaGreatDoor
end
section
namespace Go.Proofs.YtpgbicbjlhkonaaGreatDoor
open Go.RowKit Go.Shelf
attribute [local go_sem] Oper.semAt_some
set_option linter.unusedVariables false
set_option maxRecDepth 20000

/-- What Chunk's function has captured: the bytes, and how many each time. -/
structure Cut32 (w : World) (b1 b2 : Nat) (A : Option Addr) (cap N : Nat) : Prop where
  list : Boxed w b1 38 (.slice A (32 * N) cap)
  size : Boxed w b2 3 (.int .i64 32)
def CutAt32 (b1 b2 : Nat) (k : Nat) : Prop := k = b1 ∨ k = b2
theorem Cut32.kept {w w' : World} {b1 b2 cap N : Nat} {A : Option Addr} (h : Cut32 w b1 b2 A cap N) (hk : KeepsAt (CutAt32 b1 b2) w w') : Cut32 w' b1 b2 A cap N :=
  ⟨(hk b1 (.inl rfl)).trans h.list, (hk b2 (.inr rfl)).trans h.size⟩
theorem Cut32.lt {w : World} {b1 b2 cap N : Nat} {A : Option Addr} (h : Cut32 w b1 b2 A cap N) : ∀ k, CutAt32 b1 b2 k → k < w.heap.size := by
  rintro k (rfl | rfl)
  · exact h.list.lt
  · exact h.size.lt
theorem Cut32.below {w w' : World} {b1 b2 cap N : Nat} {A : Option Addr} (h : Cut32 w b1 b2 A cap N) (hb : Below w.heap.size w w') : Cut32 w' b1 b2 A cap N :=
  h.kept (KeepsAt.of_below hb h.lt)

theorem take_fin32 (N k : Nat) (h : k < N) : (List.finRange N).take (k + 1) = (List.finRange N).take k ++ [⟨k, h⟩] := by
  rw [List.take_succ_eq_append_getElem (by simpa using h)]
  simp

set_option maxHeartbeats 2000000 in
theorem chunk1_stops32 (n : Nat) (hn : 1 ≤ n) (b1 b2 b off cap N : Nat) (A : Option Addr) (hA : 0 < N → A = some ⟨b, off, none⟩) (hcap : 32 * N ≤ cap) (hmax : cap ≤ maxLen) (w : World) (env : Cut32 w b1 b2 A cap N) :
    SeqStopsK Fence.wide n Tryz.prog 108 #[.pointer (some ⟨b1, 0, none⟩), .pointer (some ⟨b2, 0, none⟩)]
      (fun x : Fin N => #[.slice (some ⟨b, off + 32 * x.val, none⟩) 32 32]) (KeepsAt (CutAt32 b1 b2)) (fun ys => ys = List.finRange N) (fun _ => True) N w := by
  intro l J Jx W hW hJ hJx hY h0
  unfold maxLen at hmax
  have env0 : Cut32 W b1 b2 A cap N := env.below hW
  have EV := Lib.hid env0
  have HJ := Lib.hid hJ
  have HY := Lib.hid hY
  obtain ⟨L, hL⟩ : ∃ L, L = 32 * N := ⟨_, rfl⟩
  rw [← hL] at hcap
  have HL := Lib.hid hL
  clear env env0 hW hJ hJx hY hL
  refine callsIn_of_wp Tryz.func108 rfl trivial ?_ rfl
  simp only [Tryz.ntmps108, List.size_toArray, List.length_cons, List.length_nil, Nat.reduceAdd, Nat.reduceSub, Array.replicate_succ, Array.replicate_zero, List.push_toArray, List.append_toArray, List.nil_append, List.cons_append]
  gi_wp2
  gi_loopw [4] (fun i wr => ∃ k p : Nat, k ≤ N ∧ Hid (p = 32 * k) ∧ i = .int .i64 p ∧ J ((List.finRange N).take k) wr ∧ Cut32 wr b1 b2 A cap N) (fun i _ => L - (intOf i).toNat)
  case atStart => exact ⟨0, 0, Nat.zero_le _, rfl, rfl, h0, EV.out⟩
  case round =>
    clear h0 EV
    obtain ⟨k, p, hk, HP, rfl, hJs, hev⟩ := hrel
    have hd1 := hev.list.cell
    have hd2 := hev.size.cell
    rw [← HL.out] at hd1
    have EV := Lib.hid hev
    have HJs := Lib.hid hJs
    clear hev hJs
    by_cases hlt : k < N
    · rw [hA (by omega)] at hd1
      obtain ⟨fn, tmps, assign, body, hy, hR⟩ := HY.out _ ⟨k, hlt⟩ wr.drew (HJ.out _ _ _ none HJs.out (grown_of_below (Below.refl _ _).drew) (fun r e => by cases e)) (by simp; omega)
      have hpl : p + 32 ≤ L := by have := HP.out; have := HL.out; omega
      have hne : ¬ cap = p := by omega
      have hlt2 : (p : Int) < (L : Int) := by omega
      dsimp only at hy
      have hoff : off + 32 * k = off + p := by have := HP.out; omega
      rw [hoff] at hy
      have hd3 : wr.drew.cell? ⟨b1, 0, none⟩ = some (.slice (some ⟨b, off, none⟩) L cap) := hd1
      have hd4 : wr.drew.cell? ⟨b2, 0, none⟩ = some (.int .i64 32) := hd2
      have hle1 : (p : Int) ≤ (L : Int) := by omega
      have hmin : (32 : Int) ≤ ((L - p : Nat) : Int) := by omega
      have hpl2 := hpl
      gi_wp2
      gi_region
      all_goals (
        have hmn : ¬ (((L - p : Nat) : Int) < 32) := by omega
        try simp only [if_neg hmn]
        gi_wp2
        refine hR.mono ?_
        rintro e W3 (⟨rfl, hJ3, hk3⟩ | ⟨rfl, hJx3⟩)
        · have EV3 := (EV.out.below (Below.refl _ _).drew).kept hk3
          have hd5 := EV3.size.cell
          gi_wp2
          go_roundw
          case rel => exact ⟨k + 1, p + 32, by omega, by have := HP.out; show p + 32 = _; omega, by go_num, by rw [take_fin32 N k hlt]; exact hJ3, EV3⟩
          case measure => simp [intOf]; omega
        · gi_wp2
          refine bodyPost_ret (results_none rfl _ _ _) rfl ?_
          exact ⟨⟨_, rfl⟩, .inr ⟨_, trivial, hJx3⟩⟩)
    · have hpl : p = L := by
        have h1 := HP.out
        have h2 := HL.out
        have h3 : k = N := by omega
        subst h3; omega
      have hge : ¬ (p : Int) < (L : Int) := by omega
      have hkN : (List.finRange N).take k = List.finRange N := List.take_of_length_le (by simp; omega)
      have HJ5 : Hid (J (List.finRange N) wr) := by rw [← hkN]; exact HJs
      gi_wp2
      go_end0
      exact ⟨⟨_, rfl⟩, .inl HJ5.out⟩

set_option maxHeartbeats 400000 in
theorem chunk_any32 (w : World) (A : Option Addr) (cap N : Nat) :
    Calls Tryz.prog 95 #[.slice A (32 * N) cap, .int .i64 32] w fun e w' => ∃ b1 b2 : Nat,
      e = .returned (.func (.func 108) #[] #[.pointer (some ⟨b1, 0, none⟩), .pointer (some ⟨b2, 0, none⟩)]) ∧ Cut32 w' b1 b2 A cap N ∧ (w.heap.size ≤ b1 ∧ w.heap.size ≤ b2) ∧ Below w.heap.size w w' := by
  go_enter Tryz.func95, Tryz.ntmps95
  go_wp2
  go_ret
  have bb : Below w.heap.size w (w.alloc (.cells #[.slice A (32 * N) cap] 38)) := (Below.refl _ _).alloc (Nat.le_refl _) _
  have h2 := Boxed.new (w.alloc (.cells #[.slice A (32 * N) cap] 38)) 3 (.int .i64 32)
  rw [World.size_alloc] at h2
  exact ⟨w.heap.size, w.heap.size + 1, rfl, ⟨(Boxed.new w 38 (.slice A (32 * N) cap)).alloc _, h2⟩, ⟨Nat.le_refl _, Nat.le_succ _⟩, bb.alloc bb.size _⟩
end Go.Proofs.YtpgbicbjlhkonaaGreatDoor
end
