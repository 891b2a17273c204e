/-
  CodecReads: for every input the call returns true, and each argument reads as it read before. Conditions: none beyond the given statement's own.
-/
import Derived.Test.YtjhhpakaemnemaaQCorAH
import Derived.Test.YtjhhpakaemnemaaQCorAI
import Derived.Test.YtjhhpakaemnemaaQCorAJ
import Derived.Test.YtjhhpakaemnemaaRows
import Derived.OpenShut
import Derived.ShutString
import Derived.ChangeOld
section
namespace Go.Proofs.Ytjhhpakaemnemaa
open Go.RowKit
set_option linter.unusedVariables false
set_option maxRecDepth 20000

def askC (x : Int × Int) : List Value := [.int .i64 x.1, .int .i64 x.2]
def Asks (w : World) (v : Value) (l : List (Int × Int)) : Prop := Rw w v 2 l.length (fun j => askC (l.getD j (0, 0)))
theorem two_cells {c : List Value} (h : c.length = 2) {a b : Value} (h0 : (c.drop 0).take 1 = [a]) (h1 : (c.drop 1).take 1 = [b]) : c = [a, b] := by
  match c, h with
  | [x0, x1], _ =>
    simp at h0 h1
    rw [h0, h1]
theorem open_asks {H : Type} {enc : TypeId × Value → H} {W : World} {base : Nat} {sp : Nat → Bool} {held : Bool} {fuel : Nat} {cs : List Value} {x : DataW H × List MemPlace} (h : DataW.trod enc Try.prog W base sp held fuel 40 cs = some x) :
    ∃ (v : Value) (l : List (Int × Int)), cs = [v] ∧ Asks W v l := by
  obtain ⟨v, n, f, hcs, hR, hf⟩ := open_rows (sz := 2) (by omega) Try.underlying40 (by kernel_rfl) (fun _ _ _ h _ => h) h
  have each : ∀ j, j < n → ∃ it : Int × Int, f j = askC it := fun j hj => by
    obtain ⟨hfl, m, y, hy⟩ := hf j hj
    obtain ⟨xs, m', _, _, _, hxl, hxe⟩ := DataW.trod_struct Try.underlying47 hy
    have f0 := hxe 0 _ rfl
    have f1 := hxe 1 _ rfl
    have hl4 : xs.length = 2 := hxl
    rw [List.getElem?_eq_getElem (by omega)] at f0 f1
    obtain ⟨k, c0, _, w0⟩ := DataW.trod_int (k := .i64) Try.underlying3 f0
    obtain ⟨z, c1, _, w1⟩ := DataW.trod_int (k := .i64) Try.underlying3 f1
    exact ⟨(k, z), two_cells hfl c0 c1⟩
  refine ⟨v, List.ofFn fun i : Fin n => (each i.1 i.2).choose, hcs, ?_⟩
  unfold Asks
  rw [List.length_ofFn]
  obtain ⟨A, c, hv, h1, h2, h3⟩ := hR
  refine ⟨A, c, hv, h1, h2, fun hl => ?_⟩
  obtain ⟨b, off, hA, hc⟩ := h3 hl
  refine ⟨b, off, hA, fun j hj => ?_⟩
  have hs := (each j hj).choose_spec
  have e1 : (List.ofFn fun i : Fin n => (each i.1 i.2).choose).getD j (0, 0) = (each j hj).choose := by
    rw [List.getD_eq_getElem?_getD, List.getElem?_eq_getElem (by rw [List.length_ofFn]; exact hj), List.getElem_ofFn]
    rfl
  simp only [e1]
  rw [← hs]
  exact hc j hj

theorem RiAt.beside {w w' : World} {r i : Nat} {bv : Value} {b : List UInt8} {s s2 : St} (h : RiAt w r bv b s) (hi : InAt w i s2) (hg : w.grownBy w' (some i)) : RiAt w' r bv b s := by
  obtain ⟨h0, a, h1, h2, h3⟩ := h
  refine ⟨hi.bs h0 hg, a, h1.grown hg fun e => ?_, h2, h3⟩
  injection e with e
  obtain ⟨v, hr, _⟩ := hi
  rw [← e] at hr
  have e2 := h1.symm.trans hr
  injection e2 with e2
  injection e2 with _ e2 _
  exact absurd e2 (by decide)
theorem InAt.beside {w w' : World} {r i : Nat} {bv : Value} {b : List UInt8} {s s2 : St} (h : InAt w i s) (hr : RiAt w r bv b s2) (hg : w.grownBy w' (some r)) : InAt w' i s := by
  obtain ⟨h0, a, h1, h2, h3⟩ := hr
  refine h.far h1 (by decide) (fun e => ?_) hg
  obtain ⟨v, hr, _⟩ := h
  rw [← e] at hr
  have e2 := h1.symm.trans hr
  injection e2 with e2
  injection e2 with _ e2 _
  exact absurd e2 (by decide)
theorem RiAt.drew {w : World} {r : Nat} {bv : Value} {b : List UInt8} {s : St} (h : RiAt w r bv b s) : RiAt w.drew r bv b s := h

set_option maxHeartbeats 8000000 in
theorem codecReads_walk (w : World) (bv : Value) (b : List UInt8) (hbv : Bs w bv b) (v : Value) (l : List (Int × Int)) (hl : Asks w v l) :
    Calls Try.prog 5 #[bv, v] w (RetV w (.bool true)) := by
  have HA := Lib.hid (fun w => awake_true w)
  have HBV := Lib.hid hbv
  obtain ⟨BA, bc, rfl, _, _, _⟩ := hbv
  obtain ⟨A, c, rfl, q1, q2, q3⟩ := hl
  unfold maxLen at q2
  by_cases hs0 : (5000 : Int) < (b.length : Int)
  · clear q3
    go_enter Try.func5, Try.ntmps5
    go_wp2_with fail
    refine (HA.out _).mono ?_
    intro e w1 hh
    obtain ⟨he, b1⟩ := hh
    subst he
    have B1 := Lib.hid b1
    clear b1
    go_wp2
    go_ret
    exact ⟨rfl, B1.out⟩
  · by_cases hs1 : (20 : Int) < (l.length : Int)
    · clear q3
      go_enter Try.func5, Try.ntmps5
      go_wp2_with fail
      refine (HA.out _).mono ?_
      intro e w1 hh
      obtain ⟨he, b1⟩ := hh
      subst he
      have B1 := Lib.hid b1
      clear b1
      go_wp2
      go_ret
      exact ⟨rfl, B1.out⟩
    · have hn20 : l.length ≤ 20 := by omega
      have hbl : b.length ≤ 1000000000 := by omega
      obtain ⟨bv, hbv⟩ : ∃ bv, bv = Value.slice BA b.length bc := ⟨_, rfl⟩
      have HBV2 := Lib.hid hbv
      have HR0 := Lib.hid (fun w h => read_any w (.slice BA b.length bc) b h (by omega))
      clear hbv
      go_enter Try.func5, Try.ntmps5
      go_wp2_with fail
      refine (HA.out _).mono ?_
      intro e w1 hh
      obtain ⟨he, b1⟩ := hh
      subst he
      have B1 := Lib.hid b1
      clear b1 HA
      go_wp2_with fail
      refine (HR0.out _ (HBV.out.below B1.out)).mono ?_
      intro e w2 hh
      obtain ⟨i, he, hi0, hi, b2⟩ := hh
      subst he
      have hlo : w.heap.size ≤ i := Nat.le_trans B1.out.size hi0
      have I2 := Lib.hid hi
      have B2 := Lib.hid (below_size B1.out b2)
      clear hi b2 HR0 B1 hi0
      obtain ⟨w3, hw3⟩ : ∃ w3, w3 = w2.alloc (.cells #[.slice BA b.length bc, .int .i64 0, .int .i64 0] 45) := ⟨_, rfl⟩
      obtain ⟨r, hr⟩ : ∃ r, r = w2.heap.size := ⟨_, rfl⟩
      have bw3 : Below w2.heap.size w2 w3 := by rw [hw3]; exact alloc_below _ _
      have I3 := Lib.hid (I2.out.kept bw3)
      have B3 := Lib.hid (below_size B2.out bw3)
      have R3 : Hid (RiAt w3 r bv b ⟨b, 0⟩) := by
        refine ⟨by rw [HBV2.out]; exact HBV.out.below B3.out, 0, ?_, by omega, fun _ => rfl⟩
        rw [hw3, hr, HBV2.out]
        exact RowAt.new _ _ _
      have hlr : w.heap.size ≤ r := by rw [hr]; exact B2.out.size
      have HW3 := Lib.hid hw3
      have HRR := Lib.hid hr
      clear hw3 hr bw3
      go_wp2_with fail
      rw [← HW3.out, ← HRR.out]
      go_loopw [8] (fun k wr => ∃ (j : Nat) (s : St), j ≤ l.length ∧ k = .int .i64 (j : Int) ∧ InAt wr i s ∧ RiAt wr r bv b s ∧ Below w.heap.size w wr) (fun k _ => l.length - (intOf k).toNat)
      case atStart => exact ⟨0, _, by omega, rfl, I3.out, R3.out, B3.out⟩
      case round =>
        clear I3 R3 B3 HW3 HRR I2 B2
        obtain ⟨j, s, hj, rfl, hI, hR, hB⟩ := hrel
        have HI := Lib.hid hI
        have HR := Lib.hid hR
        have HB := Lib.hid hB
        clear hI hR hB
        by_cases hlt : j < l.length
        · have hlt2 : (j : Int) < (l.length : Int) := by omega
          have hw1 : IntKind.i64.wrap ((j : Int) + 1) = (j : Int) + 1 := IntWalk.i64_in _ (by omega)
          have hq0 : ¬ ((j : Int) < 0) := by omega
          obtain ⟨b0, off, rfl, hc⟩ := q3 (by omega)
          have hcj : ∀ (i : Nat) u, (askC (l.getD j (0, 0)))[i]? = some u → w.cell? ⟨b0, off + j * 2 + i, none⟩ = some u := fun i u hu => hc j hlt i u hu
          obtain ⟨x, hx⟩ : ∃ x, x = l.getD j (0, 0) := ⟨_, rfl⟩
          rw [← hx] at hcj
          clear hx
          obtain ⟨d, n⟩ := x
          have hcell : ∀ (i : Nat) u, (askC (d, n))[i]? = some u → w.cell? ⟨b0, off + j * 2 + i, none⟩ = some u := fun i u hu => hcj i u hu
          have CW : Hid (∀ W, Below w.heap.size w W → ∀ (i : Nat) u, (askC (d, n))[i]? = some u → W.cell? ⟨b0, off + j * 2 + i, none⟩ = some u) := fun W hW i u hu => (hW.cell (World.block_lt_of_cell? w _ (hcell i u hu))).trans (hcell i u hu)
          have c0 := CW.out wr HB.out 0 _ rfl
          have c1 := CW.out wr HB.out 1 _ rfl
          simp only at c0 c1
          rw [Nat.add_zero] at c0
          clear hc hcj q3 hcell
          by_cases hd1 : d = 1
          · subst hd1
            go_wp2_with fail
            refine plain_region (S := (fun W => W.cell? ⟨b0, off + j * 2 + 1, none⟩ = some (.int .i64 n))) (fin := fun _ => false) (by kernel_rfl) ?_
            have hS : wr.drew.cell? ⟨b0, off + j * 2 + 1, none⟩ = some (.int .i64 n) := CW.out _ HB.out.drew 1 _ rfl
            change walkS _ _ _ _ _ _ 16 _ _ _
            refine walkS_take (i := 0) (oi := ⟨some 41, _, _, _, _, _⟩) (v := .pointer (some ⟨i, 0, none⟩)) rfl (by kernel_rfl) (by kernel_rfl) (fun _ _ _ h => h) _ _ _ _ (by kernel_rfl) (by kernel_rfl) (Or.inl ⟨by rfl, fun w' hS' => (by clear hS hS'; go_simp)⟩) hS ?_
            try simp only [Act.put, List.setIfInBounds_toArray, List.set_cons_zero, List.set_cons_succ]
            refine walkS_take (i := 1) (oi := ⟨some 42, _, _, _, _, _⟩) (v := .slice (some ⟨b0, off, none⟩) l.length c) rfl (by kernel_rfl) (by kernel_rfl) (fun _ _ _ h => h) _ _ _ _ (by kernel_rfl) (by kernel_rfl) (Or.inl ⟨by rfl, fun w' hS' => (by clear hS hS'; go_simp)⟩) hS ?_
            try simp only [Act.put, List.setIfInBounds_toArray, List.set_cons_zero, List.set_cons_succ]
            refine walkS_take (i := 2) (oi := ⟨some 43, _, _, _, _, _⟩) (v := .int .i64 (j : Int)) rfl (by kernel_rfl) (by kernel_rfl) (fun _ _ _ h => h) _ _ _ _ (by kernel_rfl) (by kernel_rfl) (Or.inl ⟨by rfl, fun w' hS' => (by clear hS hS'; go_simp)⟩) hS ?_
            try simp only [Act.put, List.setIfInBounds_toArray, List.set_cons_zero, List.set_cons_succ]
            refine walkS_take (i := 3) (oi := ⟨some 44, _, _, _, _, _⟩) (v := .pointer (some ⟨b0, off + j * 2, none⟩)) rfl (by kernel_rfl) (by kernel_rfl) (fun _ _ _ h => h) _ _ _ _ (by kernel_rfl) (by kernel_rfl) (Or.inl ⟨by rfl, fun w' hS' => (by clear hS hS'; go_simp)⟩) hS ?_
            try simp only [Act.put, List.setIfInBounds_toArray, List.set_cons_zero, List.set_cons_succ]
            refine walkS_take (i := 4) (oi := ⟨some 45, _, _, _, _, _⟩) (v := .pointer (some ⟨b0, off + j * 2 + 1, none⟩)) rfl (by kernel_rfl) (by kernel_rfl) (fun _ _ _ h => h) _ _ _ _ (by kernel_rfl) (by kernel_rfl) (Or.inl ⟨by rfl, fun w' hS' => (by clear hS hS'; go_simp)⟩) hS ?_
            try simp only [Act.put, List.setIfInBounds_toArray, List.set_cons_zero, List.set_cons_succ]
            refine walkS_take (i := 5) (oi := ⟨some 46, _, _, _, _, _⟩) (v := .int .i64 n) rfl (by kernel_rfl) (by kernel_rfl) (fun _ _ _ h => h) _ _ _ _ (by kernel_rfl) (by kernel_rfl) (Or.inl ⟨by rfl, fun w' hS' => (by have c0 := hS'; clear hS hS'; go_simp)⟩) hS ?_
            try simp only [Act.put, List.setIfInBounds_toArray, List.set_cons_zero, List.set_cons_succ]
            refine walkS_take (i := 7) (oi := ⟨some 48, _, _, _, _, _⟩) (v := .pointer (some ⟨r, 0, none⟩)) rfl (by kernel_rfl) (by kernel_rfl) (fun _ _ _ h => h) _ _ _ _ (by kernel_rfl) (by kernel_rfl) (Or.inl ⟨by rfl, fun w' hS' => (by clear hS hS'; go_simp)⟩) hS ?_
            try simp only [Act.put, List.setIfInBounds_toArray, List.set_cons_zero, List.set_cons_succ]
            refine walkS_take (i := 8) (oi := ⟨some 49, _, _, _, _, _⟩) (v := .slice (some ⟨b0, off, none⟩) l.length c) rfl (by kernel_rfl) (by kernel_rfl) (fun _ _ _ h => h) _ _ _ _ (by kernel_rfl) (by kernel_rfl) (Or.inl ⟨by rfl, fun w' hS' => (by clear hS hS'; go_simp)⟩) hS ?_
            try simp only [Act.put, List.setIfInBounds_toArray, List.set_cons_zero, List.set_cons_succ]
            refine walkS_take (i := 9) (oi := ⟨some 50, _, _, _, _, _⟩) (v := .int .i64 (j : Int)) rfl (by kernel_rfl) (by kernel_rfl) (fun _ _ _ h => h) _ _ _ _ (by kernel_rfl) (by kernel_rfl) (Or.inl ⟨by rfl, fun w' hS' => (by clear hS hS'; go_simp)⟩) hS ?_
            try simp only [Act.put, List.setIfInBounds_toArray, List.set_cons_zero, List.set_cons_succ]
            refine walkS_take (i := 10) (oi := ⟨some 51, _, _, _, _, _⟩) (v := .pointer (some ⟨b0, off + j * 2, none⟩)) rfl (by kernel_rfl) (by kernel_rfl) (fun _ _ _ h => h) _ _ _ _ (by kernel_rfl) (by kernel_rfl) (Or.inl ⟨by rfl, fun w' hS' => (by clear hS hS'; go_simp)⟩) hS ?_
            try simp only [Act.put, List.setIfInBounds_toArray, List.set_cons_zero, List.set_cons_succ]
            refine walkS_take (i := 11) (oi := ⟨some 52, _, _, _, _, _⟩) (v := .pointer (some ⟨b0, off + j * 2 + 1, none⟩)) rfl (by kernel_rfl) (by kernel_rfl) (fun _ _ _ h => h) _ _ _ _ (by kernel_rfl) (by kernel_rfl) (Or.inl ⟨by rfl, fun w' hS' => (by clear hS hS'; go_simp)⟩) hS ?_
            try simp only [Act.put, List.setIfInBounds_toArray, List.set_cons_zero, List.set_cons_succ]
            refine walkS_take (i := 12) (oi := ⟨some 53, _, _, _, _, _⟩) (v := .int .i64 n) rfl (by kernel_rfl) (by kernel_rfl) (fun _ _ _ h => h) _ _ _ _ (by kernel_rfl) (by kernel_rfl) (Or.inl ⟨by rfl, fun w' hS' => (by have c0 := hS'; clear hS hS'; go_simp)⟩) hS ?_
            try simp only [Act.put, List.setIfInBounds_toArray, List.set_cons_zero, List.set_cons_succ]
            clear hS
            refine walkS_only (i := 6) (o := ⟨some 47, _, _, _, _, _⟩) (by kernel_rfl) rfl rfl fun KK hKK => ?_
            go_simp
            refine (inNumber_any wr.drew i s n HI.out.drew).mono ?_
            intro e w4 hh
            obtain ⟨he, hi, hg⟩ := hh
            subst he
            have I4 := Lib.hid hi
            have R4 := Lib.hid (RiAt.beside (show RiAt wr.drew r bv b s from HR.out) (show InAt wr.drew i s from HI.out) hg)
            have B4 : Hid (Below w.heap.size w w4) := HB.out.drew.grown hg HB.out.size (fun k e => by injection e with e; omega)
            clear hi hg
            refine hKK _ _ (.inr (CW.out _ B4.out 1 _ rfl)) ?_
            clear hKK KK
            try simp only [Act.put, List.setIfInBounds_toArray, List.set_cons_zero, List.set_cons_succ]
            refine walkS_only (i := 13) (o := ⟨some 54, _, _, _, _, _⟩) (by kernel_rfl) rfl rfl fun KK hKK => ?_
            go_simp
            refine (riNumber_any w4 r bv b s n hbl R4.out).mono ?_
            intro e w5 hh
            obtain ⟨he, hi, hg⟩ := hh
            subst he
            have R5 := Lib.hid hi
            have I5 := Lib.hid (I4.out.beside R4.out hg)
            have B5 : Hid (Below w.heap.size w w5) := B4.out.grown hg B4.out.size (fun k e => by injection e with e; omega)
            clear hi hg I4 R4 B4
            refine hKK _ _ (.inr (CW.out _ B5.out 1 _ rfl)) ?_
            clear hKK KK
            try simp only [Act.put, List.setIfInBounds_toArray, List.set_cons_zero, List.set_cons_succ]
            refine walkS_only (i := 14) (o := ⟨some 55, _, _, _, _, _⟩) (by kernel_rfl) rfl rfl fun KK hKK => ?_
            go_simp
            refine hKK _ _ (.inr (CW.out _ B5.out 1 _ rfl)) ?_
            clear hKK KK
            try simp only [Act.put, List.setIfInBounds_toArray, List.set_cons_zero, List.set_cons_succ]
            refine walkS_only (i := 15) (o := ⟨some 9, _, _, _, _, _⟩) (by kernel_rfl) rfl rfl fun KK hKK => ?_
            refine wp_assignE (.tmp 55) rfl ?_
            refine hKK _ _ (.inr (CW.out _ B5.out 1 _ rfl)) (walkS_done (by kernel_rfl) ?_ _)
            clear hKK KK
            try simp only [Act.put, List.setIfInBounds_toArray, List.set_cons_zero, List.set_cons_succ]
            obtain ⟨S', hS'⟩ : ∃ S', S' = s.numS n := ⟨_, rfl⟩
            rw [← hS'] at I5 R5
            clear hS'
            obtain ⟨y', hy'⟩ : ∃ y', y' = S'.fin := ⟨_, rfl⟩
            have HE1 := Lib.hid (fun w h => inEnd_any w i S' h)
            have HE2 := Lib.hid (fun w h => riEnd_any w r bv b S' h)
            rw [← hy'] at HE1 HE2
            have hyy : decide (y' = y') = true := by simp
            clear hy'
            go_wp2_with fail
            refine (HE1.out _ I5.out).mono ?_
            intro e w6 hh
            obtain ⟨he, rfl⟩ := hh
            subst he
            go_wp2_with fail
            refine (HE2.out _ R5.out).mono ?_
            intro e w7 hh
            obtain ⟨he, b7⟩ := hh
            subst he
            have I7 := Lib.hid (I5.out.kept b7)
            have R7 := Lib.hid (R5.out.kept b7)
            have B7 := Lib.hid (below_size B5.out b7)
            clear b7 I5 R5 B5
            go_wp2_with fail
            go_roundw
            case rel => exact ⟨j + 1, S', by omega, by go_num, I7.out, R7.out, B7.out⟩
            case measure => simp [intOf]; omega
          · have hdd1 : decide (d = 1) = false := by simp [hd1]
            by_cases hd2 : d = 2
            · subst hd2
              go_wp2_with fail
              refine plain_region (S := (fun W => W.cell? ⟨b0, off + j * 2 + 1, none⟩ = some (.int .i64 n))) (fin := fun _ => false) (by kernel_rfl) ?_
              have hS : wr.drew.cell? ⟨b0, off + j * 2 + 1, none⟩ = some (.int .i64 n) := CW.out _ HB.out.drew 1 _ rfl
              change walkS _ _ _ _ _ _ 16 _ _ _
              refine walkS_take (i := 0) (oi := ⟨some 58, _, _, _, _, _⟩) (v := .pointer (some ⟨i, 0, none⟩)) rfl (by kernel_rfl) (by kernel_rfl) (fun _ _ _ h => h) _ _ _ _ (by kernel_rfl) (by kernel_rfl) (Or.inl ⟨by rfl, fun w' hS' => (by clear hS hS'; go_simp)⟩) hS ?_
              try simp only [Act.put, List.setIfInBounds_toArray, List.set_cons_zero, List.set_cons_succ]
              refine walkS_take (i := 1) (oi := ⟨some 59, _, _, _, _, _⟩) (v := .slice (some ⟨b0, off, none⟩) l.length c) rfl (by kernel_rfl) (by kernel_rfl) (fun _ _ _ h => h) _ _ _ _ (by kernel_rfl) (by kernel_rfl) (Or.inl ⟨by rfl, fun w' hS' => (by clear hS hS'; go_simp)⟩) hS ?_
              try simp only [Act.put, List.setIfInBounds_toArray, List.set_cons_zero, List.set_cons_succ]
              refine walkS_take (i := 2) (oi := ⟨some 60, _, _, _, _, _⟩) (v := .int .i64 (j : Int)) rfl (by kernel_rfl) (by kernel_rfl) (fun _ _ _ h => h) _ _ _ _ (by kernel_rfl) (by kernel_rfl) (Or.inl ⟨by rfl, fun w' hS' => (by clear hS hS'; go_simp)⟩) hS ?_
              try simp only [Act.put, List.setIfInBounds_toArray, List.set_cons_zero, List.set_cons_succ]
              refine walkS_take (i := 3) (oi := ⟨some 61, _, _, _, _, _⟩) (v := .pointer (some ⟨b0, off + j * 2, none⟩)) rfl (by kernel_rfl) (by kernel_rfl) (fun _ _ _ h => h) _ _ _ _ (by kernel_rfl) (by kernel_rfl) (Or.inl ⟨by rfl, fun w' hS' => (by clear hS hS'; go_simp)⟩) hS ?_
              try simp only [Act.put, List.setIfInBounds_toArray, List.set_cons_zero, List.set_cons_succ]
              refine walkS_take (i := 4) (oi := ⟨some 62, _, _, _, _, _⟩) (v := .pointer (some ⟨b0, off + j * 2 + 1, none⟩)) rfl (by kernel_rfl) (by kernel_rfl) (fun _ _ _ h => h) _ _ _ _ (by kernel_rfl) (by kernel_rfl) (Or.inl ⟨by rfl, fun w' hS' => (by clear hS hS'; go_simp)⟩) hS ?_
              try simp only [Act.put, List.setIfInBounds_toArray, List.set_cons_zero, List.set_cons_succ]
              refine walkS_take (i := 5) (oi := ⟨some 63, _, _, _, _, _⟩) (v := .int .i64 n) rfl (by kernel_rfl) (by kernel_rfl) (fun _ _ _ h => h) _ _ _ _ (by kernel_rfl) (by kernel_rfl) (Or.inl ⟨by rfl, fun w' hS' => (by have c0 := hS'; clear hS hS'; go_simp)⟩) hS ?_
              try simp only [Act.put, List.setIfInBounds_toArray, List.set_cons_zero, List.set_cons_succ]
              refine walkS_take (i := 7) (oi := ⟨some 65, _, _, _, _, _⟩) (v := .pointer (some ⟨r, 0, none⟩)) rfl (by kernel_rfl) (by kernel_rfl) (fun _ _ _ h => h) _ _ _ _ (by kernel_rfl) (by kernel_rfl) (Or.inl ⟨by rfl, fun w' hS' => (by clear hS hS'; go_simp)⟩) hS ?_
              try simp only [Act.put, List.setIfInBounds_toArray, List.set_cons_zero, List.set_cons_succ]
              refine walkS_take (i := 8) (oi := ⟨some 66, _, _, _, _, _⟩) (v := .slice (some ⟨b0, off, none⟩) l.length c) rfl (by kernel_rfl) (by kernel_rfl) (fun _ _ _ h => h) _ _ _ _ (by kernel_rfl) (by kernel_rfl) (Or.inl ⟨by rfl, fun w' hS' => (by clear hS hS'; go_simp)⟩) hS ?_
              try simp only [Act.put, List.setIfInBounds_toArray, List.set_cons_zero, List.set_cons_succ]
              refine walkS_take (i := 9) (oi := ⟨some 67, _, _, _, _, _⟩) (v := .int .i64 (j : Int)) rfl (by kernel_rfl) (by kernel_rfl) (fun _ _ _ h => h) _ _ _ _ (by kernel_rfl) (by kernel_rfl) (Or.inl ⟨by rfl, fun w' hS' => (by clear hS hS'; go_simp)⟩) hS ?_
              try simp only [Act.put, List.setIfInBounds_toArray, List.set_cons_zero, List.set_cons_succ]
              refine walkS_take (i := 10) (oi := ⟨some 68, _, _, _, _, _⟩) (v := .pointer (some ⟨b0, off + j * 2, none⟩)) rfl (by kernel_rfl) (by kernel_rfl) (fun _ _ _ h => h) _ _ _ _ (by kernel_rfl) (by kernel_rfl) (Or.inl ⟨by rfl, fun w' hS' => (by clear hS hS'; go_simp)⟩) hS ?_
              try simp only [Act.put, List.setIfInBounds_toArray, List.set_cons_zero, List.set_cons_succ]
              refine walkS_take (i := 11) (oi := ⟨some 69, _, _, _, _, _⟩) (v := .pointer (some ⟨b0, off + j * 2 + 1, none⟩)) rfl (by kernel_rfl) (by kernel_rfl) (fun _ _ _ h => h) _ _ _ _ (by kernel_rfl) (by kernel_rfl) (Or.inl ⟨by rfl, fun w' hS' => (by clear hS hS'; go_simp)⟩) hS ?_
              try simp only [Act.put, List.setIfInBounds_toArray, List.set_cons_zero, List.set_cons_succ]
              refine walkS_take (i := 12) (oi := ⟨some 70, _, _, _, _, _⟩) (v := .int .i64 n) rfl (by kernel_rfl) (by kernel_rfl) (fun _ _ _ h => h) _ _ _ _ (by kernel_rfl) (by kernel_rfl) (Or.inl ⟨by rfl, fun w' hS' => (by have c0 := hS'; clear hS hS'; go_simp)⟩) hS ?_
              try simp only [Act.put, List.setIfInBounds_toArray, List.set_cons_zero, List.set_cons_succ]
              clear hS
              refine walkS_only (i := 6) (o := ⟨some 64, _, _, _, _, _⟩) (by kernel_rfl) rfl rfl fun KK hKK => ?_
              go_simp
              refine (inBytes_any wr.drew i s n HI.out.drew).mono ?_
              intro e w4 hh
              obtain ⟨v4, he, hv, _, hi, hg⟩ := hh
              subst he
              have V4 := Lib.hid hv
              obtain ⟨A4, c4, rfl, _, _, _⟩ := hv
              have I4 := Lib.hid hi
              have R4 := Lib.hid (RiAt.beside (show RiAt wr.drew r bv b s from HR.out) (show InAt wr.drew i s from HI.out) hg)
              have B4 : Hid (Below w.heap.size w w4) := HB.out.drew.grown hg HB.out.size (fun k e => by injection e with e; omega)
              clear hi hg
              refine hKK _ _ (.inr (CW.out _ B4.out 1 _ rfl)) ?_
              clear hKK KK
              try simp only [Act.put, List.setIfInBounds_toArray, List.set_cons_zero, List.set_cons_succ]
              refine walkS_only (i := 13) (o := ⟨some 71, _, _, _, _, _⟩) (by kernel_rfl) rfl rfl fun KK hKK => ?_
              go_simp
              refine (riBytes_any w4 r bv b s n hbl R4.out).mono ?_
              intro e w5 hh
              obtain ⟨v5, he, hv, hi, hg⟩ := hh
              subst he
              have V5 := Lib.hid hv
              obtain ⟨A5, c5, rfl, _, _, _⟩ := hv
              have R5 := Lib.hid hi
              have I5 := Lib.hid (I4.out.beside R4.out hg)
              have V45 := Lib.hid (R4.out.bs V4.out hg)
              have B5 : Hid (Below w.heap.size w w5) := B4.out.grown hg B4.out.size (fun k e => by injection e with e; omega)
              clear hi hg I4 R4 B4
              refine hKK _ _ (.inr (CW.out _ B5.out 1 _ rfl)) ?_
              clear hKK KK
              try simp only [Act.put, List.setIfInBounds_toArray, List.set_cons_zero, List.set_cons_succ]
              refine walkS_only (i := 14) (o := ⟨some 72, _, _, _, _, _⟩) (by kernel_rfl) rfl rfl fun KK hKK => ?_
              go_simp
              refine (same_yes w5 _ _ (s.byt n) V45.out V5.out).mono ?_
              intro e w6 hh
              obtain ⟨he, b6⟩ := hh
              subst he
              have I6 := Lib.hid (I5.out.kept b6)
              have R6 := Lib.hid (R5.out.kept b6)
              have B6 := Lib.hid (below_size B5.out b6)
              clear b6 I5 R5 B5 V45 V5 V4
              have I5 := I6
              have R5 := R6
              have B5 := B6
              clear I6 R6 B6
              refine hKK _ _ (.inr (CW.out _ B5.out 1 _ rfl)) ?_
              clear hKK KK
              try simp only [Act.put, List.setIfInBounds_toArray, List.set_cons_zero, List.set_cons_succ]
              refine walkS_only (i := 15) (o := ⟨some 9, _, _, _, _, _⟩) (by kernel_rfl) rfl rfl fun KK hKK => ?_
              refine wp_assignE (.tmp 72) rfl ?_
              refine hKK _ _ (.inr (CW.out _ B5.out 1 _ rfl)) (walkS_done (by kernel_rfl) ?_ _)
              clear hKK KK
              try simp only [Act.put, List.setIfInBounds_toArray, List.set_cons_zero, List.set_cons_succ]
              obtain ⟨S', hS'⟩ : ∃ S', S' = s.bytS n := ⟨_, rfl⟩
              rw [← hS'] at I5 R5
              clear hS'
              obtain ⟨y', hy'⟩ : ∃ y', y' = S'.fin := ⟨_, rfl⟩
              have HE1 := Lib.hid (fun w h => inEnd_any w i S' h)
              have HE2 := Lib.hid (fun w h => riEnd_any w r bv b S' h)
              rw [← hy'] at HE1 HE2
              have hyy : decide (y' = y') = true := by simp
              clear hy'
              go_wp2_with fail
              refine (HE1.out _ I5.out).mono ?_
              intro e w6 hh
              obtain ⟨he, rfl⟩ := hh
              subst he
              go_wp2_with fail
              refine (HE2.out _ R5.out).mono ?_
              intro e w7 hh
              obtain ⟨he, b7⟩ := hh
              subst he
              have I7 := Lib.hid (I5.out.kept b7)
              have R7 := Lib.hid (R5.out.kept b7)
              have B7 := Lib.hid (below_size B5.out b7)
              clear b7 I5 R5 B5
              go_wp2_with fail
              go_roundw
              case rel => exact ⟨j + 1, S', by omega, by go_num, I7.out, R7.out, B7.out⟩
              case measure => simp [intOf]; omega
            · have hdd2 : decide (d = 2) = false := by simp [hd2]
              by_cases hd3 : d = 3
              · subst hd3
                have heq := fun W => Try.eqKeyIn s.key s.key s.key_len s.key_len W
                rw [beq_self_eq_true] at heq
                have HEQ := Lib.hid heq
                clear heq
                go_wp2_with fail
                refine (inKey_any wr i s HI.out).mono ?_
                intro e w4 hh
                obtain ⟨he, hi, hg⟩ := hh
                subst he
                have I4 := Lib.hid hi
                have R4 := Lib.hid (RiAt.beside (show RiAt wr r bv b s from HR.out) (show InAt wr i s from HI.out) hg)
                have B4 : Hid (Below w.heap.size w w4) := HB.out.grown hg HB.out.size (fun k e => by injection e with e; omega)
                clear hi hg
                go_wp2_with fail
                refine (riKey_any w4 r bv b s hbl R4.out).mono ?_
                intro e w5 hh
                obtain ⟨he, hi, hg⟩ := hh
                subst he
                have R5 := Lib.hid hi
                have I5 := Lib.hid (I4.out.beside R4.out hg)
                have B5 : Hid (Below w.heap.size w w5) := B4.out.grown hg B4.out.size (fun k e => by injection e with e; omega)
                clear hi hg I4 R4 B4
                obtain ⟨S', hS'⟩ : ∃ S', S' = s.rest 32 := ⟨_, rfl⟩
                rw [← hS'] at I5 R5
                clear hS'
                have he := HEQ.out
                have hgd := Try.eqGuardKey
                obtain ⟨y', hy'⟩ : ∃ y', y' = S'.fin := ⟨_, rfl⟩
                have HE1 := Lib.hid (fun w h => inEnd_any w i S' h)
                have HE2 := Lib.hid (fun w h => riEnd_any w r bv b S' h)
                rw [← hy'] at HE1 HE2
                have hyy : decide (y' = y') = true := by simp
                clear hy'
                go_wp2_with fail
                refine (HE1.out _ I5.out).mono ?_
                intro e w6 hh
                obtain ⟨he, rfl⟩ := hh
                subst he
                go_wp2_with fail
                refine (HE2.out _ R5.out).mono ?_
                intro e w7 hh
                obtain ⟨he, b7⟩ := hh
                subst he
                have I7 := Lib.hid (I5.out.kept b7)
                have R7 := Lib.hid (R5.out.kept b7)
                have B7 := Lib.hid (below_size B5.out b7)
                clear b7 I5 R5 B5
                go_wp2_with fail
                go_roundw
                case rel => exact ⟨j + 1, S', by omega, by go_num, I7.out, R7.out, B7.out⟩
                case measure => simp [intOf]; omega
              · have hdd3 : decide (d = 3) = false := by simp [hd3]
                by_cases hd4 : d = 4
                · subst hd4
                  go_wp2_with fail
                  refine plain_region (S := (fun W => W.cell? ⟨b0, off + j * 2 + 1, none⟩ = some (.int .i64 n))) (fin := fun _ => false) (by kernel_rfl) ?_
                  have hS : wr.drew.cell? ⟨b0, off + j * 2 + 1, none⟩ = some (.int .i64 n) := CW.out _ HB.out.drew 1 _ rfl
                  change walkS _ _ _ _ _ _ 16 _ _ _
                  refine walkS_take (i := 0) (oi := ⟨some 82, _, _, _, _, _⟩) (v := .pointer (some ⟨i, 0, none⟩)) rfl (by kernel_rfl) (by kernel_rfl) (fun _ _ _ h => h) _ _ _ _ (by kernel_rfl) (by kernel_rfl) (Or.inl ⟨by rfl, fun w' hS' => (by clear hS hS'; go_simp)⟩) hS ?_
                  try simp only [Act.put, List.setIfInBounds_toArray, List.set_cons_zero, List.set_cons_succ]
                  refine walkS_take (i := 1) (oi := ⟨some 83, _, _, _, _, _⟩) (v := .slice (some ⟨b0, off, none⟩) l.length c) rfl (by kernel_rfl) (by kernel_rfl) (fun _ _ _ h => h) _ _ _ _ (by kernel_rfl) (by kernel_rfl) (Or.inl ⟨by rfl, fun w' hS' => (by clear hS hS'; go_simp)⟩) hS ?_
                  try simp only [Act.put, List.setIfInBounds_toArray, List.set_cons_zero, List.set_cons_succ]
                  refine walkS_take (i := 2) (oi := ⟨some 84, _, _, _, _, _⟩) (v := .int .i64 (j : Int)) rfl (by kernel_rfl) (by kernel_rfl) (fun _ _ _ h => h) _ _ _ _ (by kernel_rfl) (by kernel_rfl) (Or.inl ⟨by rfl, fun w' hS' => (by clear hS hS'; go_simp)⟩) hS ?_
                  try simp only [Act.put, List.setIfInBounds_toArray, List.set_cons_zero, List.set_cons_succ]
                  refine walkS_take (i := 3) (oi := ⟨some 85, _, _, _, _, _⟩) (v := .pointer (some ⟨b0, off + j * 2, none⟩)) rfl (by kernel_rfl) (by kernel_rfl) (fun _ _ _ h => h) _ _ _ _ (by kernel_rfl) (by kernel_rfl) (Or.inl ⟨by rfl, fun w' hS' => (by clear hS hS'; go_simp)⟩) hS ?_
                  try simp only [Act.put, List.setIfInBounds_toArray, List.set_cons_zero, List.set_cons_succ]
                  refine walkS_take (i := 4) (oi := ⟨some 86, _, _, _, _, _⟩) (v := .pointer (some ⟨b0, off + j * 2 + 1, none⟩)) rfl (by kernel_rfl) (by kernel_rfl) (fun _ _ _ h => h) _ _ _ _ (by kernel_rfl) (by kernel_rfl) (Or.inl ⟨by rfl, fun w' hS' => (by clear hS hS'; go_simp)⟩) hS ?_
                  try simp only [Act.put, List.setIfInBounds_toArray, List.set_cons_zero, List.set_cons_succ]
                  refine walkS_take (i := 5) (oi := ⟨some 87, _, _, _, _, _⟩) (v := .int .i64 n) rfl (by kernel_rfl) (by kernel_rfl) (fun _ _ _ h => h) _ _ _ _ (by kernel_rfl) (by kernel_rfl) (Or.inl ⟨by rfl, fun w' hS' => (by have c0 := hS'; clear hS hS'; go_simp)⟩) hS ?_
                  try simp only [Act.put, List.setIfInBounds_toArray, List.set_cons_zero, List.set_cons_succ]
                  refine walkS_take (i := 7) (oi := ⟨some 89, _, _, _, _, _⟩) (v := .pointer (some ⟨r, 0, none⟩)) rfl (by kernel_rfl) (by kernel_rfl) (fun _ _ _ h => h) _ _ _ _ (by kernel_rfl) (by kernel_rfl) (Or.inl ⟨by rfl, fun w' hS' => (by clear hS hS'; go_simp)⟩) hS ?_
                  try simp only [Act.put, List.setIfInBounds_toArray, List.set_cons_zero, List.set_cons_succ]
                  refine walkS_take (i := 8) (oi := ⟨some 90, _, _, _, _, _⟩) (v := .slice (some ⟨b0, off, none⟩) l.length c) rfl (by kernel_rfl) (by kernel_rfl) (fun _ _ _ h => h) _ _ _ _ (by kernel_rfl) (by kernel_rfl) (Or.inl ⟨by rfl, fun w' hS' => (by clear hS hS'; go_simp)⟩) hS ?_
                  try simp only [Act.put, List.setIfInBounds_toArray, List.set_cons_zero, List.set_cons_succ]
                  refine walkS_take (i := 9) (oi := ⟨some 91, _, _, _, _, _⟩) (v := .int .i64 (j : Int)) rfl (by kernel_rfl) (by kernel_rfl) (fun _ _ _ h => h) _ _ _ _ (by kernel_rfl) (by kernel_rfl) (Or.inl ⟨by rfl, fun w' hS' => (by clear hS hS'; go_simp)⟩) hS ?_
                  try simp only [Act.put, List.setIfInBounds_toArray, List.set_cons_zero, List.set_cons_succ]
                  refine walkS_take (i := 10) (oi := ⟨some 92, _, _, _, _, _⟩) (v := .pointer (some ⟨b0, off + j * 2, none⟩)) rfl (by kernel_rfl) (by kernel_rfl) (fun _ _ _ h => h) _ _ _ _ (by kernel_rfl) (by kernel_rfl) (Or.inl ⟨by rfl, fun w' hS' => (by clear hS hS'; go_simp)⟩) hS ?_
                  try simp only [Act.put, List.setIfInBounds_toArray, List.set_cons_zero, List.set_cons_succ]
                  refine walkS_take (i := 11) (oi := ⟨some 93, _, _, _, _, _⟩) (v := .pointer (some ⟨b0, off + j * 2 + 1, none⟩)) rfl (by kernel_rfl) (by kernel_rfl) (fun _ _ _ h => h) _ _ _ _ (by kernel_rfl) (by kernel_rfl) (Or.inl ⟨by rfl, fun w' hS' => (by clear hS hS'; go_simp)⟩) hS ?_
                  try simp only [Act.put, List.setIfInBounds_toArray, List.set_cons_zero, List.set_cons_succ]
                  refine walkS_take (i := 12) (oi := ⟨some 94, _, _, _, _, _⟩) (v := .int .i64 n) rfl (by kernel_rfl) (by kernel_rfl) (fun _ _ _ h => h) _ _ _ _ (by kernel_rfl) (by kernel_rfl) (Or.inl ⟨by rfl, fun w' hS' => (by have c0 := hS'; clear hS hS'; go_simp)⟩) hS ?_
                  try simp only [Act.put, List.setIfInBounds_toArray, List.set_cons_zero, List.set_cons_succ]
                  clear hS
                  refine walkS_only (i := 6) (o := ⟨some 88, _, _, _, _, _⟩) (by kernel_rfl) rfl rfl fun KK hKK => ?_
                  go_simp
                  refine (inKeys_any wr.drew i s n HI.out.drew).mono ?_
                  intro e w4 hh
                  obtain ⟨v4, he, hv, _, hi, hg⟩ := hh
                  subst he
                  have V4 := Lib.hid hv
                  obtain ⟨A4, c4, rfl, _, _, _⟩ := hv
                  have I4 := Lib.hid hi
                  have R4 := Lib.hid (RiAt.beside (show RiAt wr.drew r bv b s from HR.out) (show InAt wr.drew i s from HI.out) hg)
                  have B4 : Hid (Below w.heap.size w w4) := HB.out.drew.grown hg HB.out.size (fun k e => by injection e with e; omega)
                  clear hi hg
                  refine hKK _ _ (.inr (CW.out _ B4.out 1 _ rfl)) ?_
                  clear hKK KK
                  try simp only [Act.put, List.setIfInBounds_toArray, List.set_cons_zero, List.set_cons_succ]
                  refine walkS_only (i := 13) (o := ⟨some 95, _, _, _, _, _⟩) (by kernel_rfl) rfl rfl fun KK hKK => ?_
                  go_simp
                  refine (riKeys_any w4 r bv b s n hbl R4.out).mono ?_
                  intro e w5 hh
                  obtain ⟨v5, he, hv, hi, hg⟩ := hh
                  subst he
                  have V5 := Lib.hid hv
                  obtain ⟨A5, c5, rfl, _, _, _⟩ := hv
                  have R5 := Lib.hid hi
                  have I5 := Lib.hid (I4.out.beside R4.out hg)
                  have V45 := Lib.hid (R4.out.kl V4.out hg)
                  have B5 : Hid (Below w.heap.size w w5) := B4.out.grown hg B4.out.size (fun k e => by injection e with e; omega)
                  clear hi hg I4 R4 B4
                  refine hKK _ _ (.inr (CW.out _ B5.out 1 _ rfl)) ?_
                  clear hKK KK
                  try simp only [Act.put, List.setIfInBounds_toArray, List.set_cons_zero, List.set_cons_succ]
                  refine walkS_only (i := 14) (o := ⟨some 96, _, _, _, _, _⟩) (by kernel_rfl) rfl rfl fun KK hKK => ?_
                  go_simp
                  refine (refKeys_same w5 _ _ (s.keys n) V45.out V5.out (by have := s.keys_le n; omega)).mono ?_
                  intro e w6 hh
                  obtain ⟨he, b6⟩ := hh
                  subst he
                  have I6 := Lib.hid (I5.out.kept b6)
                  have R6 := Lib.hid (R5.out.kept b6)
                  have B6 := Lib.hid (below_size B5.out b6)
                  clear b6 I5 R5 B5 V45 V5 V4
                  have I5 := I6
                  have R5 := R6
                  have B5 := B6
                  clear I6 R6 B6
                  refine hKK _ _ (.inr (CW.out _ B5.out 1 _ rfl)) ?_
                  clear hKK KK
                  try simp only [Act.put, List.setIfInBounds_toArray, List.set_cons_zero, List.set_cons_succ]
                  refine walkS_only (i := 15) (o := ⟨some 9, _, _, _, _, _⟩) (by kernel_rfl) rfl rfl fun KK hKK => ?_
                  refine wp_assignE (.tmp 96) rfl ?_
                  refine hKK _ _ (.inr (CW.out _ B5.out 1 _ rfl)) (walkS_done (by kernel_rfl) ?_ _)
                  clear hKK KK
                  try simp only [Act.put, List.setIfInBounds_toArray, List.set_cons_zero, List.set_cons_succ]
                  obtain ⟨S', hS'⟩ : ∃ S', S' = s.keyS n := ⟨_, rfl⟩
                  rw [← hS'] at I5 R5
                  clear hS'
                  obtain ⟨y', hy'⟩ : ∃ y', y' = S'.fin := ⟨_, rfl⟩
                  have HE1 := Lib.hid (fun w h => inEnd_any w i S' h)
                  have HE2 := Lib.hid (fun w h => riEnd_any w r bv b S' h)
                  rw [← hy'] at HE1 HE2
                  have hyy : decide (y' = y') = true := by simp
                  clear hy'
                  go_wp2_with fail
                  refine (HE1.out _ I5.out).mono ?_
                  intro e w6 hh
                  obtain ⟨he, rfl⟩ := hh
                  subst he
                  go_wp2_with fail
                  refine (HE2.out _ R5.out).mono ?_
                  intro e w7 hh
                  obtain ⟨he, b7⟩ := hh
                  subst he
                  have I7 := Lib.hid (I5.out.kept b7)
                  have R7 := Lib.hid (R5.out.kept b7)
                  have B7 := Lib.hid (below_size B5.out b7)
                  clear b7 I5 R5 B5
                  go_wp2_with fail
                  go_roundw
                  case rel => exact ⟨j + 1, S', by omega, by go_num, I7.out, R7.out, B7.out⟩
                  case measure => simp [intOf]; omega
                · have hdd4 : decide (d = 4) = false := by simp [hd4]
                  obtain ⟨S', hS'⟩ : ∃ S', S' = s := ⟨_, rfl⟩
                  have I5 : Hid (InAt wr i S') := hS' ▸ HI.out
                  have R5 : Hid (RiAt wr r bv b S') := hS' ▸ HR.out
                  have B5 := HB
                  clear hS' HI HR HB
                  obtain ⟨y', hy'⟩ : ∃ y', y' = S'.fin := ⟨_, rfl⟩
                  have HE1 := Lib.hid (fun w h => inEnd_any w i S' h)
                  have HE2 := Lib.hid (fun w h => riEnd_any w r bv b S' h)
                  rw [← hy'] at HE1 HE2
                  have hyy : decide (y' = y') = true := by simp
                  clear hy'
                  go_wp2_with fail
                  refine (HE1.out _ I5.out).mono ?_
                  intro e w6 hh
                  obtain ⟨he, rfl⟩ := hh
                  subst he
                  go_wp2_with fail
                  refine (HE2.out _ R5.out).mono ?_
                  intro e w7 hh
                  obtain ⟨he, b7⟩ := hh
                  subst he
                  have I7 := Lib.hid (I5.out.kept b7)
                  have R7 := Lib.hid (R5.out.kept b7)
                  have B7 := Lib.hid (below_size B5.out b7)
                  clear b7 I5 R5 B5
                  go_wp2_with fail
                  go_roundw
                  case rel => exact ⟨j + 1, S', by omega, by go_num, I7.out, R7.out, B7.out⟩
                  case measure => simp [intOf]; omega
        · have hk2 : j = l.length := by omega
          have hge : ¬ ((j : Int) < (l.length : Int)) := by omega
          clear hlt hk2
          go_wp2_with fail
          go_ret
          exact ⟨rfl, HB.out⟩
end Go.Proofs.Ytjhhpakaemnemaa
end
section
namespace Go.Proofs.Ytjhhpakaemnemaa.codecReads
open Go.ChangeShapes Go.WideShapes Go.ChangeAt Go.RowKit
open Go.ChangeMaps (open_string shut_string)
set_option linter.unusedVariables false

theorem own : ownKnob Try.prog.godebug = none := by kernel_rfl
theorem laidOut : laidOutB Try.prog = true := by kernel_rfl

set_option maxRecDepth 100000 in
theorem lifted (os : Os) (started : os.Started) (H : Type) (enc : TypeId × Value → H) :
    ReturnsInHanded {} Try.checked os 5 .any (Rows.codecReadsSpec.pre6 enc Try.prog Try.f5 Rows.codecReadsRow.domain false) (Rows.codecReadsSpec.post enc Try.prog Try.f5 false true false false) := by
  refine returnsInHanded_of_change (C := Try.checked) own started (by kernel_rfl) Try.func5
    (ChangeSpec.witness6 (enc := enc) (C := Try.checked) false ⟨#[], #[.slice none 0 0, .slice none 0 0], []⟩ 8 (by kernel_rfl) (by kernel_rfl) (by kernel_rfl) (by kernel_rfl)) ?_
  intro W base args ds gs before hval0 hW hcnd _
  have hval : ∀ (j : Nat) t v, Try.f5.params[j]? = some t → args[j]? = some v → Value.okWide Try.prog W .any base t v := hval0
  have hW' := hW
  obtain ⟨p, q, hA0, hV, rfl, hfz, hnd⟩ := hW
  have hA : DataW.TrodAll enc Try.prog W 0 (fun _ => true) true Try.f5.params.toList args.toList ds p := hA0
  rw [Try.params5] at hA hval
  obtain ⟨v0, vs0, d0, ds0, p0, q0, hargs, rfl, rfl, h0, r0⟩ := trodAll_cons hA
  obtain ⟨v1, vs1, d1, ds1, p1, q1, rfl, rfl, rfl, h1, r1⟩ := trodAll_cons r0
  obtain ⟨rfl, rfl, rfl⟩ := trodAll_nil r1
  obtain rfl : args = #[v0, v1] := by cases args; simp_all
  obtain ⟨rfl, rfl⟩ := trodVars_none hV
  obtain ⟨a0, len0, cap0, rfl⟩ := okWide_slice Try.underlying25 (hval 0 25 v0 rfl rfl)
  have k0 := h0
  have lt0 : ∀ x ∈ p0, x.block < W.heap.size := by obtain ⟨m, hm⟩ := k0; exact DataW.trod_lt m _ _ _ hm
  obtain ⟨l0, w0⟩ : ∃ l, Bs W (.slice a0 len0 cap0) l := by
    obtain ⟨fuel, hf⟩ := h0
    rcases open_ints Try.underlying25 Try.underlying5 (by kernel_rfl) hf with ⟨hcs, _⟩ | ⟨x, l, c, zs, hcs, _, hl, hm, hz, _, hcell, hwz⟩
    · simp [Value.cells] at hcs
      obtain ⟨rfl, rfl, rfl⟩ := hcs
      exact ⟨[], Bs.nil W⟩
    · simp [Value.cells] at hcs
      obtain ⟨rfl, rfl, rfl⟩ := hcs
      exact bs_of_ints hl hm (by simpa using hz) hcell hwz
  obtain ⟨a1, len1, cap1, rfl⟩ := okWide_slice Try.underlying40 (hval 1 40 v1 rfl rfl)
  have k1 := h1
  have lt1 : ∀ x ∈ p1, x.block < W.heap.size := by obtain ⟨m, hm⟩ := k1; exact DataW.trod_lt m _ _ _ hm
  obtain ⟨l1, w1⟩ : ∃ l : List (Int × Int), Asks W (.slice a1 len1 cap1) l := by
    obtain ⟨fuel, hf⟩ := h1
    obtain ⟨v, l, hcs, hl⟩ := open_asks hf
    simp [Value.cells] at hcs
    exact ⟨l, hcs ▸ hl⟩
  clear hA0 hval0
  refine (codecReads_walk W _ l0 w0 _ l1 w1).mono fun e W' ⟨he, bel⟩ => ?_
  subst he
  exact ⟨_, rfl, _, _, _, [], _, [], hW', trodAll_mk1 (shut_bool Try.underlying4 _), (trodAll_cons_mk (Below.trod laidOut (by kernel_rfl) (of_decide_eq_true (by kernel_rfl)) k0 bel lt0) (trodAll_cons_mk (Below.trod laidOut (by kernel_rfl) (of_decide_eq_true (by kernel_rfl)) k1 bel lt1) trodAll_mk0)), rfl, bel.frame _, fun h => by cases h⟩

theorem over : Rows.codecReadsRow.holds Try.pinned (OpenSpec.ofChange Rows.codecReadsSpec) :=
  OpenClaim.holds_of_wide 5 Try.f5 rfl rfl rfl rfl rfl rfl rfl ⟨rfl, rfl, rfl, rfl, rfl⟩ rfl rfl rfl rfl rfl (by kernel_rfl) Try.func5 (by kernel_rfl)
    (of_decide_eq_true (by kernel_rfl)) (by unfold Func.isWrapper; first | (rw [if_pos (by decide +kernel)]; kernel_rfl) | (rw [if_neg (by decide +kernel)]; exact ⟨rfl, rfl⟩))
    (fun os started H enc _ => lifted os started H enc)

theorem proved : Rows.CodecReadsSaid := over
#print axioms proved
end Go.Proofs.Ytjhhpakaemnemaa.codecReads
end
