/-
  Texts that belong together, merged: ShaY, L, KeyEq, ArrEq, MapKey, E, ShaZ, ShaAl. Conditions: as each theorem names them.
-/
import Derived.Test.YtckpnkohaaebdaaDoorQShpAD
import Derived.Test.YtckpnkohaaebdaaDoorQShpAA
import Derived.Stop.BytesEq
import Derived.StillTactics
import Derived.MapKept
import Derived.Deep.RegionLaw
section
namespace Go.Proofs.YtckpnkohaaebdaaDoor
open Go.RowKit
set_option linter.unusedVariables false
set_option maxRecDepth 20000

theorem El.new {w : World} {base base' : Nat} {u : Value} {l : List UInt8} (h : OwnB w base' 5 u l) : El base w u l := El.own h
theorem back_below {w w' : World} {g : Nat} {t : TypeId} {cs : Array Value} (h : RowAt w g t cs) (hg : w.grownBy w' (some g)) (h' : RowAt w' g t cs) : Below w.heap.size w w' :=
  ⟨hg.os, hg.tape, hg.output, hg.size, fun k hk => by
    by_cases e : k = g
    · rw [e]; exact h'.trans h.symm
    · exact hg.block k hk (fun e2 => by injection e2 with e2; exact e e2)⟩
theorem OwnSs.nil (w : World) (base : Nat) : OwnSs w base (.slice none 0 0) [] := ⟨[], World.ownsRow_nil _ _ _ _, rfl, fun j h => by simp at h⟩
theorem cell_put {w : World} {g : Nat} {t : TypeId} {cs : Array Value} (hr : RowAt w g t cs) (i : Nat) (u : Value) (b o : Nat) (h : ¬ (b = g ∧ o = i)) : (w.setCell ⟨g, i, none⟩ u).cell? ⟨b, o, none⟩ = w.cell? ⟨b, o, none⟩ := by
  by_cases e : b = g
  · subst e
    rw [(hr.put i u).cell, hr.cell]
    have : ¬ i = o := fun e => h ⟨rfl, e.symm⟩
    simp [this]
  · exact World.cell?_of_block (a := ⟨b, o, none⟩) (heap_setCell_other w ⟨g, i, none⟩ b u e)
theorem Bs.put {w : World} {v : Value} {l : List UInt8} (h : Bs w v l) {g : Nat} {t : TypeId} {cs : Array Value} (hr : RowAt w g t cs) (i : Nat) (u : Value) (h1 : ∀ x, cs[i]? ≠ some (.int .u8 x)) : Bs (w.setCell ⟨g, i, none⟩ u) v l := by
  obtain ⟨A, c, hv, p1, p2, p3⟩ := h
  refine ⟨A, c, hv, p1, p2, fun hl => ?_⟩
  obtain ⟨b, off, hA, hc⟩ := p3 hl
  refine ⟨b, off, hA, fun j hj => ?_⟩
  rw [cell_put hr i u b (off + j) (fun ⟨e1, e2⟩ => ?_)]
  · exact hc j hj
  · have := hc j hj
    rw [e1, e2, hr.cell] at this
    exact h1 _ this
theorem Bss.put {w : World} {v : Value} {ls : List (List UInt8)} (h : Bss w v ls) {g : Nat} {t : TypeId} {cs : Array Value} (hr : RowAt w g t cs) (i : Nat) (u : Value) (h1 : ∀ x, cs[i]? ≠ some (.int .u8 x)) (h2 : ∀ A n c, cs[i]? ≠ some (.slice A n c)) : Bss (w.setCell ⟨g, i, none⟩ u) v ls := by
  obtain ⟨A, c, hv, p1, p2, p3⟩ := h
  refine ⟨A, c, hv, p1, p2, fun hl => ?_⟩
  obtain ⟨b, off, hA, hc⟩ := p3 hl
  refine ⟨b, off, hA, fun j hj => ?_⟩
  obtain ⟨x, hx, hb⟩ := hc j hj
  refine ⟨x, ?_, hb.put hr i u h1⟩
  rw [cell_put hr i u b (off + j) (fun ⟨e1, e2⟩ => ?_)]
  · exact hx
  · obtain ⟨A', c', hv', _⟩ := hb
    rw [e1, e2, hr.cell, hv'] at hx
    exact h2 _ _ _ hx
set_option maxHeartbeats 2000000 in
theorem Inputs_keep (w0 w : World) (g n : Nat) (ls : List (List UInt8)) (hk : MeetK w0 g n ls w) (hl : ls.length ≤ 1000000) (hs : ∀ l ∈ ls, l.length ≤ 1000000) :
    Calls Tryd.prog 25 #[.pointer (some ⟨g, 0, none⟩)] w fun e w' => ∃ v, e = .returned v ∧ Bss w' v ls ∧ Below w.heap.size w w' := by
  obtain ⟨s, vs, hr, ho, hv, he⟩ := hk.rows
  have c2 : w.cell? ⟨g, 2, none⟩ = some (.int .i32 0) := hr.cell 2
  have z2 : w.frozen? ⟨g, 2, none⟩ = false := hr.frozen 2
  have HR0 := Lib.hid hr
  have R1 : Hid (RowAt (w.setCell ⟨g, 2, none⟩ (.int .i32 1)) g 83 #[.bool true, .int .i64 (n : Int), .int .i32 1, .int .u32 0, s]) := hr.put 2 (.int .i32 1)
  have B1 : Hid (Bss (w.setCell ⟨g, 2, none⟩ (.int .i32 1)) s ls) := by
    have h1 := own_put_other ho hr (by decide) 2 (.int .i32 1)
    rw [hv] at h1
    exact Bss.own h1 hv fun j a b => OwnB.bs (own_put_other (he j a b) hr (by decide) 2 (.int .i32 1))
  have G1 := Lib.hid (put_grown w g 2 (.int .i32 1))
  have HS := Lib.hid hs
  clear hr ho hv he hk hs
  go_enter_defers Tryd.func25, Tryd.ntmps25
  go_wp2_with fail
  refine (Go.MuLone.lock_free muLib ⟨g, 2, none⟩ _ c2 z2).mono ?_
  intro e w1 h
  obtain ⟨he, hw⟩ := h
  subst he
  rw [← hw] at R1 B1 G1
  clear hw c2 z2
  have c4 : w1.cell? ⟨g, 4, none⟩ = some s := R1.out.cell 4
  obtain ⟨A, c, rfl, q1, q2, q3⟩ := id B1.out
  unfold maxLen at q2
  go_wp2_with fail
  go_loopw [3, 20] (fun v i wr => ∃ k : Nat, k ≤ ls.length ∧ i = .int .i64 (k : Int) ∧ OwnSs wr w1.heap.size v (ls.take k) ∧ Below w1.heap.size w1 wr) (fun _ i _ => ls.length - (intOf i).toNat)
  case atStart => exact ⟨0, by omega, rfl, OwnSs.nil _ _, Below.refl _ _⟩
  case round =>
    obtain ⟨k, hk, rfl, hO, hE⟩ := hrel
    have E := Lib.hid hE
    have SS := Lib.hid hO
    clear hE hO
    by_cases hlt : k < ls.length
    · obtain ⟨b, off, rfl, hc⟩ := q3 (by omega)
      obtain ⟨u, hcu, hbu⟩ := hc k hlt
      have hcell : wr.cell? ⟨b, off + k, none⟩ = some u := (E.out.cell (p := ⟨b, off + k, none⟩) (World.block_lt_of_cell? w1 _ hcu)).trans hcu
      obtain ⟨l, hl2⟩ : ∃ l, l = ls[k] := ⟨_, rfl⟩
      rw [← hl2] at hbu
      have HBU := Lib.hid (hbu.below E.out)
      have HTK : Hid (ls.take k ++ [l] = ls.take (k + 1)) := by rw [hl2]; exact (List.take_succ_eq_append_getElem hlt).symm
      have HLL : Hid (l.length ≤ 1000000) := HS.out l (by rw [hl2]; exact List.getElem_mem hlt)
      have HTL : Hid ((ls.take k).length ≤ 1000000) := by show _ ≤ _; rw [List.length_take]; omega
      have hw1 : IntKind.i64.wrap ((k : Int) + 1) = (k : Int) + 1 := IntWalk.i64_in _ (by omega)
      have hlt2 : (k : Int) < (ls.length : Int) := by omega
      have hq0 : ¬ ((k : Int) < 0) := by omega
      obtain ⟨UA, uc, rfl, _⟩ := id hbu
      clear hc hcu hbu hl2 q3
      go_wp2_with fail
      refine (clone_any wr _ l HBU.out (by have := HLL.out; omega)).mono ?_
      intro e w5 hh
      obtain ⟨v5, he, h5, b5⟩ := hh
      subst he
      have O5 := Lib.hid h5
      have E5 := Lib.hid (below_size E.out b5)
      have S5 := Lib.hid (SS.out.below b5)
      have HZ5 : Hid (w1.heap.size ≤ w5.heap.size) := E5.out.size
      clear b5 h5
      obtain ⟨A5, c5, rfl, _⟩ := O5.out.shape
      go_wp2_with (at_builtin; refine wpList_appSs1 (o := ⟨some 28, _, _, _, _, _⟩) rfl (.tmp 24) (.tmp 27) 38 rfl w1.heap.size Tryd.infoS Tryd.underlying38 _ _ w5.heap.size (ls.take k) l rfl rfl (by exact RowAt.new w5 _ _) (S5.out.below (alloc_below _ _)) (El.own (base := w1.heap.size) (O5.out.below (alloc_below _ _))) HTL.out (by have := HZ5.out; simp; omega) ?_; intro v6 w6 own6 gr6 ow6; rw [HTK.out] at own6; have S6 := Lib.hid own6; have E6 := Lib.hid ((E5.out.alloc HZ5.out (.cells #[.slice A5 l.length c5] 27)).grown gr6 (by have := HZ5.out; simp; omega) ow6); clear own6 gr6 ow6)
      go_roundw
      case rel => exact ⟨k + 1, by omega, by go_num, S6.out, E6.out⟩
      case measure => simp [intOf]; omega
    · have hkn : k = ls.length := by omega
      subst hkn
      have S6 : Hid (OwnSs wr w1.heap.size u3 ls) := by have := SS.out; rwa [List.take_of_length_le (Nat.le_refl _)] at this
      clear SS q3 hlt
      go_wp2_with fail
      refine leaves_cons (f := 49) (args := #[.pointer (some ⟨g, 2, none⟩)]) (by simp) (by simp [go_sem]) ?_
      have R2 := Lib.hid (R1.out.kept E.out)
      refine (Go.MuLone.unlock_deferred muLib ⟨g, 2, none⟩ .returning _ (R2.out.cell 2) (R2.out.frozen 2)).mono ?_
      intro e u' w5 h
      obtain ⟨h1, h2, h3⟩ := h
      subst h1 h2 h3
      refine ⟨_, results_tmp rfl _ _ _, _, rfl, ?_, ?_⟩
      · exact S6.out.bss.put R2.out 2 _ (fun x => by simp) (fun A n c => by simp)
      · have g1 : w.grownBy wr (some g) := G1.out.trans ⟨E.out.os, E.out.tape, E.out.output, E.out.size, fun k hk _ => E.out.block k hk⟩
        exact back_below HR0.out (g1.trans (put_grown wr g 2 (.int .i32 0))) (R2.out.put 2 (.int .i32 0))
end Go.Proofs.YtckpnkohaaebdaaDoor
end
section
namespace Go.Proofs.YtckpnkohaaebdaaDoor
open Go.RowKit
set_option linter.unusedVariables false

theorem keyC_put (l : List UInt8) (i : Nat) (b : UInt8) : (keyC l).setIfInBounds i (.int .u8 (b.toNat : Int)) = keyC (l.set i b) := by
  unfold keyC
  rw [← cellsB_set]
  simp
theorem keyC_cell {w : World} {g : Nat} {t : TypeId} {l : List UInt8} (h : RowAt w g t (keyC l)) (i : Nat) (hi : i < l.length) : w.cell? ⟨g, i, none⟩ = some (.int .u8 (l[i].toNat : Int)) := by
  rw [h.cell i]
  have := cellsB_get l i hi
  simpa [keyC] using this
theorem Tryd.buildK (w : World) : (Instr.build 33 #[]).run Tryd.prog w = .ok (keyV zeroKey) w := by kernel_rfl





set_option maxHeartbeats 1000000 in
theorem refBytes_any (w : World) (l : List UInt8) (hl : l.length = 32) :
    Calls Tryd.prog 54 #[keyV l] w (RetBs w l) := by
  have HL := Lib.hid hl
  have hl1 : l.length ≤ 32 := by omega
  have hl2 : 32 ≤ l.length := by omega
  clear hl
  go_enter Tryd.func54, Tryd.ntmps54
  go_wp2_with ((with_reducible refine wpList_box_row (o := ⟨some 1, _, _, _, _, _⟩) rfl 33 (.tmp 0) rfl (keyC l) (by with_unfolding_all rfl) ?_); intro g1 w1 n1)
  go_loopw [3, 4] (fun v i wr => ∃ k : Nat, k ≤ l.length ∧ i = .int .i64 k ∧ OwnB wr w1.heap.size 5 v (l.take k) ∧ Below w1.heap.size w1 wr) (fun _ i _ => l.length - (intOf i).toNat)
  case atStart => exact ⟨0, Nat.zero_le _, rfl, OwnB.nil _ _ _, Below.refl _ _⟩
  case round =>
    obtain ⟨k, hk, rfl, hown, hb⟩ := hrel
    have HO := Lib.hid hown
    have HB := Lib.hid hb
    have hsz := hb.size
    clear hown hb
    by_cases hlt : k < l.length
    · have hcell := keyC_cell (n1.row.kept HB.out) k hlt
      have HT := Lib.hid (List.take_succ_eq_append_getElem hlt)
      go_wp2_with (at_builtin; refine wpList_appB _ rfl (.tmp 9) (.tmp 13) 27 rfl w1 5 Tryd.infoB Tryd.underlying27 _ _ _ [l[k]] rfl rfl (HO.out.alloc _) (Bs.lit1 _ _ _ _ rfl) (by simp; omega) (HB.out.alloc hsz _) ?_; intro v2 w2 hown2 hb2)
      go_roundw
      case rel => exact ⟨k + 1, by omega, by go_num, by rw [HT.out]; exact hown2, hb2⟩
      case measure => simp [intOf]; omega
    · have HO2 : Hid (OwnB wr w1.heap.size 5 u3 l) := by
        have := HO.out; rwa [List.take_of_length_le (by omega)] at this
      go_wp2
      go_ret
      exact ⟨_, rfl, HO2.out.bs, below_size n1.below HB.out⟩
end Go.Proofs.YtckpnkohaaebdaaDoor
end
section
namespace Go.Proofs.YtckpnkohaaebdaaDoor
open Go.RowKit

theorem Tryd.sizeOfB (w : World) : (sizeOf 5).run Tryd.prog w = .ok 1 w := by kernel_rfl
theorem Tryd.eqKeyIn (a b : List UInt8) (ha : a.length = 32) (hb : b.length = 32) (w : World) :
    (Op.equalIn 10000 33 (.agg (keyC a)) (.agg (keyC b))).run Tryd.prog w = .ok (a == b) w :=
  run_equalIn_bytes w 9998 33 5 32 Tryd.underlying33 Tryd.underlying5 Tryd.sizeOfB a b ha hb
theorem Tryd.eqGuardKey : Tryd.prog.eqGuardType Tryd.prog.depth 33 = false := by kernel_rfl
theorem zeroLit : (#[.int .u8 0, .int .u8 0, .int .u8 0, .int .u8 0, .int .u8 0, .int .u8 0, .int .u8 0, .int .u8 0, .int .u8 0, .int .u8 0, .int .u8 0, .int .u8 0, .int .u8 0, .int .u8 0, .int .u8 0, .int .u8 0, .int .u8 0, .int .u8 0, .int .u8 0, .int .u8 0, .int .u8 0, .int .u8 0, .int .u8 0, .int .u8 0, .int .u8 0, .int .u8 0, .int .u8 0, .int .u8 0, .int .u8 0, .int .u8 0, .int .u8 0, .int .u8 0] : Array Value) = keyC zeroKey := rfl
theorem Tryd.eqZeroIn (w : World) : (Op.equalIn 10000 33 (.agg (keyC zeroKey)) (.agg #[.int .u8 0, .int .u8 0, .int .u8 0, .int .u8 0, .int .u8 0, .int .u8 0, .int .u8 0, .int .u8 0, .int .u8 0, .int .u8 0, .int .u8 0, .int .u8 0, .int .u8 0, .int .u8 0, .int .u8 0, .int .u8 0, .int .u8 0, .int .u8 0, .int .u8 0, .int .u8 0, .int .u8 0, .int .u8 0, .int .u8 0, .int .u8 0, .int .u8 0, .int .u8 0, .int .u8 0, .int .u8 0, .int .u8 0, .int .u8 0, .int .u8 0, .int .u8 0])).run Tryd.prog w = .ok true w := by
  rw [zeroLit, Tryd.eqKeyIn zeroKey zeroKey zeroKey_length zeroKey_length w, beq_self_eq_true]
end Go.Proofs.YtckpnkohaaebdaaDoor
end
section
namespace Go.Proofs.YtckpnkohaaebdaaDoor
open Go.RowKit
set_option linter.unusedVariables false

theorem range_all (a b : List UInt32) (h : a.length = b.length) : ((List.range a.length).all fun i => a.getD i 0 == b.getD i 0) = (a == b) := by
  rw [Bool.eq_iff_iff, List.all_eq_true, beq_iff_eq]
  constructor
  · intro hall
    apply List.ext_getElem h
    intro i h1 h2
    have := hall i (List.mem_range.2 h1)
    simpa [h1, h2] using this
  · rintro rfl i _
    exact beq_self_eq_true _
theorem words_eqIn {P : Program} (w : World) (d : Nat) (t e : TypeId) (n : Nat) (ht : P.underlying t = some (.array n e)) (he : P.underlying e = some (.int .u32)) (hs : ∀ w, (sizeOf e).run P w = .ok 1 w)
    (a b : List UInt32) (ha : a.length = n) (hb : b.length = n) : (Op.equalIn (d + 2) t (.agg (wordsC a)) (.agg (wordsC b))).run P w = .ok (a == b) w := by
  rw [← range_all a b (ha.trans hb.symm), ha, List.range_eq_range', Op.equalIn]
  simp only [Sem.run_bind, run_underlying ht, Result.andThen_ok, hs, Std.Legacy.Range.forIn_eq_forIn_range', Std.Legacy.Range.size, Nat.sub_zero, Nat.add_sub_cancel, Nat.div_one]
  have hin : ∀ i ∈ List.range' 0 n 1, i < n := fun i hi => by
    have := (List.mem_range'_1.1 hi).2
    omega
  generalize List.range' 0 n 1 = r at hin ⊢
  induction r with
  | nil => simp
  | cons i r ih =>
    have hi : i < n := hin i (by simp)
    have at_ : ∀ l : List UInt32, l.length = n → (part e (wordsC l) (i * 1)).run P w = .ok (.int .u32 ((l.getD i 0).toNat : Int)) w := fun l hl => by
      simp [part, isAgg, run_underlying he, wordsC_get l i (by omega)]
    have one : (Op.equalIn (d + 1) e (.int .u32 ((a.getD i 0).toNat : Int)) (.int .u32 ((b.getD i 0).toNat : Int))).run P w = .ok (a.getD i 0 == b.getD i 0) w := by
      rw [run_equalIn_int w d e .u32 .u32 _ _ he]
      congr 1
      rw [Bool.eq_iff_iff, beq_iff_eq, beq_iff_eq, ← UInt32.toNat_inj]
      omega
    simp only [List.forIn_cons, Sem.run_bind, at_ a ha, at_ b hb, one, Result.andThen_ok, List.all_cons]
    cases hc : (a.getD i 0 == b.getD i 0)
    · simp
    · simp only [Bool.not_true, Bool.false_eq_true, if_false, Sem.run_pure, Result.andThen_ok, Bool.true_and]
      exact ih fun j hj => hin j (List.mem_cons_of_mem _ hj)

theorem bytes_eqIn {P : Program} (w : World) (d : Nat) (t e : TypeId) (n : Nat) (ht : P.underlying t = some (.array n e)) (he : P.underlying e = some (.int .u8)) (hs : ∀ w, (sizeOf e).run P w = .ok 1 w)
    (a b : List UInt8) (ha : a.length = n) (hb : b.length = n) : (Op.equalIn (d + 2) t (.agg (keyC a)) (.agg (keyC b))).run P w = .ok (a == b) w :=
  run_equalIn_bytes w d t e n ht he hs a b ha hb

/-- What is not wanted is passed by. -/
theorem still_skip {P : Program} {ops : Array Oper} {w : World} {Q : Act → Prop} {a : Act} {o : Oper} {rest : List Oper} (hw : Region.wanted o (yielded ops a.tmps) = false)
    (h : wpStill P ops w Q rest (a.put o.dst undef)) : wpStill P ops w Q (o :: rest) a := by
  refine wpStill_step fun K hK => ?_
  rw [hw]
  simp only [Bool.false_eq_true, if_false]
  exact hK _ h
/-- A whole array is read. -/
theorem still_load_row {P : Program} {ops : Array Oper} {w : World} {Q : Act → Prop} {a : Act} {o : Oper} {rest : List Oper} (ty : TypeId) (x : Operand) (ho : o.op = .load ty x) (hw : Region.wanted o (yielded ops a.tmps) = true)
    (g : Nat) (hx : a.eval x = .pointer (some ⟨g, 0, none⟩)) (t : TypeId) (cs : Array Value) (fr : Nat × Nat) (d : TypeDesc) (hg : w.heap[g]? = some (.cells cs t fr))
    (hu : P.underlying ty = some d) (hd : (match d with | .struct _ | .array _ _ => true | _ => false) = true) (hi : (P.info? ty).map (·.size) = some cs.size)
    (h : wpStill P ops w Q rest (a.put o.dst (.agg cs))) : wpStill P ops w Q (o :: rest) a := by
  refine wpStill_step fun K hK => ?_
  rw [if_pos hw]
  unfold Oper.still execOp
  simp only [ho, hx, Instr.loadAt, Instr.sureAddr, Sem.run_bind, Sem.run_pure, Result.andThen_ok, run_loadVar_row w g t ty cs fr d hg hu hd hi]
  exact ⟨rfl, hK _ h⟩

/-- A walk of a region that only reads, closed to whoever would open it. -/
structure StillG (P : Program) (ops : Array Oper) (w : World) (Q : Act → Prop) (l : List Oper) (a : Act) : Prop where
  out : wpStill P ops w Q l a
theorem StillG.nil {P : Program} {ops : Array Oper} {w : World} {Q : Act → Prop} {a : Act} (h : Q a) : StillG P ops w Q [] a := ⟨wpStill_nil h⟩
theorem StillG.step {P : Program} {ops : Array Oper} {w : World} {Q : Act → Prop} {a : Act} {o : Oper} {rest : List Oper} (hw : Region.wanted o (yielded ops a.tmps) = true)
    (h : ∀ K : Act → Prop, (∀ a, StillG P ops w Q rest a → K a) → o.still P a w K) : StillG P ops w Q (o :: rest) a :=
  ⟨wpStill_step fun K hK => by rw [if_pos hw]; exact h K fun a k => hK a k.out⟩
theorem StillG.skip {P : Program} {ops : Array Oper} {w : World} {Q : Act → Prop} {a : Act} {o : Oper} {rest : List Oper} (hw : Region.wanted o (yielded ops a.tmps) = false)
    (h : StillG P ops w Q rest (a.put o.dst undef)) : StillG P ops w Q (o :: rest) a := ⟨still_skip hw h.out⟩
theorem StillG.row {P : Program} {ops : Array Oper} {w : World} {Q : Act → Prop} {a : Act} {o : Oper} {rest : List Oper} (ty : TypeId) (x : Operand) (ho : o.op = .load ty x) (hw : Region.wanted o (yielded ops a.tmps) = true)
    (g : Nat) (hx : a.eval x = .pointer (some ⟨g, 0, none⟩)) (t : TypeId) (cs : Array Value) (fr : Nat × Nat) (d : TypeDesc) (hg : w.heap[g]? = some (.cells cs t fr))
    (hu : P.underlying ty = some d) (hd : (match d with | .struct _ | .array _ _ => true | _ => false) = true) (hi : (P.info? ty).map (·.size) = some cs.size)
    (h : StillG P ops w Q rest (a.put o.dst (.agg cs))) : StillG P ops w Q (o :: rest) a := ⟨still_load_row ty x ho hw g hx t cs fr d hg hu hd hi h.out⟩
theorem region_stillG {P : Program} {id : Nat} {Q : Exit → Act → World → Prop} {a : Act} {w : World} {l : List Oper} (hm : P.follows .mixedOrders = true) (hB : Region.lexB .any l.toArray = true)
    (h : StillG P l.toArray w.drew (fun a' => Q .normal a' w.drew) l a) : (Code.region id l.toArray true).wp P Q a w := wp_region_still_lit hm hB h.out
end Go.Proofs.YtckpnkohaaebdaaDoor
end
section
namespace Go.Proofs.YtckpnkohaaebdaaDoor
open Go.RowKit
set_option linter.unusedVariables false
set_option maxRecDepth 20000

/-- The first number that stands beside k. -/
def findM (k : List UInt8) : List (List UInt8 × Nat) → Option Nat
  | [] => none
  | p :: m => if k == p.1 then some p.2 else findM k m
def entE (p : List UInt8 × Nat) : Value × Value := (.agg (keyC p.1), .int .i64 (p.2 : Int))
/-- The map at g: its keys and numbers, in the order in which they came. -/
def MapAt (w : World) (g : Nat) (m : List (List UInt8 × Nat)) : Prop :=
  ∃ (es : Array MapEntry) (c : Nat), w.heap[g]? = some (.map es c) ∧ es.toList.map (fun e => (e.key, e.val)) = m.map entE ∧ ∀ p ∈ m, p.1.length = 32
theorem MapAt.lt {w : World} {g : Nat} {m : List (List UInt8 × Nat)} (h : MapAt w g m) : g < w.heap.size := by
  obtain ⟨_, _, h, _⟩ := h
  exact (Array.getElem?_eq_some_iff.1 h).1
theorem MapAt.kept {w w' : World} {g : Nat} {m : List (List UInt8 × Nat)} (h : MapAt w g m) (hb : Below w.heap.size w w') : MapAt w' g m := by
  have hl := h.lt
  obtain ⟨es, c, h1, h2⟩ := h
  exact ⟨es, c, (hb.block g hl).trans h1, h2⟩
theorem MapAt.grown {w w' : World} {g : Nat} {m : List (List UInt8 × Nat)} {row : Option Nat} (h : MapAt w g m) (hb : w.grownBy w' row) (hg : some g ≠ row) : MapAt w' g m := by
  have hl := h.lt
  obtain ⟨es, c, h1, h2⟩ := h
  exact ⟨es, c, (hb.block g hl hg).trans h1, h2⟩
section
variable {P : Program} {kt b : TypeId}
theorem run_checkKey (w : World) (em : Bool) (hk : P.underlying kt = some (.array 32 b)) (hb : P.underlying b = some (.int .u8)) (hs : ∀ w, (sizeOf b).run P w = .ok 1 w) (k : List UInt8) (hl : k.length = 32) :
    (Instr.checkKey em 10000 kt (.agg (keyC k))).run P w = .ok () w := by
  rw [Instr.checkKey]
  simp only [Sem.run_bind, Sem.run_pure, run_underlying hk, Result.andThen_ok, Std.Legacy.Range.forIn_eq_forIn_range', Std.Legacy.Range.size, Nat.sub_zero, Nat.add_sub_cancel, Nat.div_one]
  have hin : ∀ i ∈ List.range' 0 32 1, i < 32 := fun i hi => by
    have := (List.mem_range'_1.1 hi).2
    omega
  generalize List.range' 0 32 1 = r at hin ⊢
  induction r with
  | nil => simp
  | cons i r ih =>
    have hi : i < 32 := hin i (by simp)
    have at_ : (part b (keyC k) (i * 1)).run P w = .ok (.int .u8 ((k[i]'(by omega)).toNat : Int)) w := by
      have : (keyC k)[i]? = some (.int .u8 ((k[i]'(by omega)).toNat : Int)) := by
        rw [keyC, List.getElem?_toArray, cellsB_get k i (by omega)]
      simp [part, isAgg, run_underlying hb, this]
    have one : (Instr.checkKey em 9999 b (.int .u8 ((k[i]'(by omega)).toNat : Int))).run P w = .ok () w := by
      rw [Instr.checkKey]
      simp [Sem.run_bind, run_underlying hb]
    simp only [List.forIn_cons, Sem.run_bind, hs, at_, one, Result.andThen_ok, Sem.run_pure]
    exact ih fun j hj => hin j (List.mem_cons_of_mem _ hj)
theorem run_findAsking (w : World) (hq : ∀ x y : List UInt8, x.length = 32 → y.length = 32 → (Op.equal kt (.agg (keyC x)) (.agg (keyC y))).run P w = .ok (x == y) w) (k : List UInt8) (hl : k.length = 32) :
    ∀ (m : List (List UInt8 × Nat)) (es : List MapEntry) (i : Nat), es.map (fun e => (e.key, e.val)) = m.map entE → (∀ p ∈ m, p.1.length = 32) →
      ∃ r, (Instr.findAsking kt (.agg (keyC k)) es i).run P w = .ok r w ∧ r.map (·.2) = (findM k m).map fun j => Value.int .i64 (j : Int) := by
  intro m
  induction m with
  | nil =>
    intro es i he hm
    have : es = [] := by simpa using he
    subst this
    exact ⟨none, by simp [Instr.findAsking], rfl⟩
  | cons p m ih =>
    intro es i he hm
    match es, he with
    | e :: es, he =>
      simp only [List.map_cons, List.cons.injEq] at he
      obtain ⟨h1, h2⟩ := he
      have hk : e.key = .agg (keyC p.1) := congrArg (·.1) h1
      have hv : e.val = .int .i64 (p.2 : Int) := congrArg (·.2) h1
      have q := hq k p.1 hl (hm p (by simp))
      rw [Instr.findAsking]
      simp only [Sem.run_bind, hk, q, Result.andThen_ok, findM]
      by_cases hb : k = p.1
      · refine ⟨some (i, e.val), by simp [hb], by simp [hb, hv]⟩
      · obtain ⟨r, hr, hr2⟩ := ih es (i + 1) h2 fun x hx => hm x (List.mem_cons_of_mem _ hx)
        refine ⟨r, by simp [hb, hr], by simp [hb, hr2]⟩
theorem run_findKey (w : World) (hk : P.underlying kt = some (.array 32 b)) (hq : ∀ x y : List UInt8, x.length = 32 → y.length = 32 → (Op.equal kt (.agg (keyC x)) (.agg (keyC y))).run P w = .ok (x == y) w) (k : List UInt8) (hl : k.length = 32)
    (m : List (List UInt8 × Nat)) (es : List MapEntry) (he : es.map (fun e => (e.key, e.val)) = m.map entE) (hm : ∀ p ∈ m, p.1.length = 32) :
    ∃ r, (Instr.findKey kt (.agg (keyC k)) es).run P w = .ok r w ∧ r.map (·.2) = (findM k m).map fun j => Value.int .i64 (j : Int) := by
  unfold Instr.findKey
  simp only [Sem.run_bind, run_underlying hk, Result.andThen_ok]
  match m, es, he with
  | [], [], _ => exact ⟨none, by simp [Instr.findNow], rfl⟩
  | p :: m, e :: es, he =>
    have h1 : e.key = .agg (keyC p.1) := by
      simp only [List.map_cons, List.cons.injEq] at he
      exact congrArg (·.1) he.1
    have : Instr.findNow (.array 32 b) (.agg (keyC k)) (e :: es) 0 = none := by
      simp [Instr.findNow, Instr.sameNow]
    rw [this]
    exact run_findAsking w hq k hl (p :: m) (e :: es) 0 he hm
/-- What a look-up hands back. -/
def seenM (k : List UInt8) (m : List (List UInt8 × Nat)) : Value := match findM k m with
  | some j => .tuple #[.int .i64 (j : Int), .bool true]
  | none => .tuple #[.int .i64 0, .bool false]
theorem run_lookK {w : World} {o : Oper} {a : Act} {mt et : TypeId} (x y : Operand) (ho : o.op = .lookup mt x y true) (g : Nat) (m : List (List UInt8 × Nat)) (k : List UInt8) (hl : k.length = 32) (hx : a.eval x = .map (some g)) (hy : a.eval y = .agg (keyC k)) (hM : MapAt w g m)
    (hmt : P.underlying mt = some (.map kt et)) (hk : P.underlying kt = some (.array 32 b)) (hb : P.underlying b = some (.int .u8)) (hs : ∀ w, (sizeOf b).run P w = .ok 1 w) (hz : (P.info? et).map (·.zero) = some (some (.int .i64 0)))
    (hq : ∀ x y : List UInt8, x.length = 32 → y.length = 32 → (Op.equal kt (.agg (keyC x)) (.agg (keyC y))).run P w = .ok (x == y) w) :
    (execOp a.eval o).run P w = .ok (.value (seenM k m)) w := by
  obtain ⟨es, c, h1, h2, h3⟩ := hM
  obtain ⟨r, hr, hr2⟩ := run_findKey w hk hq k hl m es.toList h2 h3
  have hc := fun em => run_checkKey w em hk hb hs k hl
  have hz2 : (zeroValue et).run P w = .ok (.int .i64 0) w := by
    obtain ⟨i, hi, hz⟩ := Option.map_eq_some_iff.1 hz
    simp [zeroValue, typeInfo, hi, hz]
  have key : (Instr.lookup mt (.map (some g)) (.agg (keyC k)) true).run P w = .ok (seenM k m) w := by
    unfold seenM
    rcases hf : findM k m with _ | j
    · rw [hf] at hr2
      have hrn : r = none := by simpa using hr2
      subst hrn
      simp [Instr.lookup, run_underlying hmt, MapKept.run_getObj_map h1, hc, hr, hz2, Result.andThen]
    · rw [hf] at hr2
      obtain ⟨⟨q1, q2⟩, hrs, hv⟩ := Option.map_eq_some_iff.1 hr2
      simp only at hv
      subst hrs hv
      simp [Instr.lookup, run_underlying hmt, MapKept.run_getObj_map h1, hc, hr, Result.andThen]
  unfold execOp
  simp only [ho, hx, hy]
  simp only [Sem.run_bind, key, Result.andThen_ok, Sem.run_pure]
/-- A new key is stored. -/
theorem wp_newK {w : World} {o : Oper} {a : Act} {K : Act → World → Prop} {Q : Exit → Act → World → Prop} {mt et : TypeId} (x y z : Operand) (ho : o.op = .mapUpdate mt x y z) (g : Nat) (m : List (List UInt8 × Nat)) (k : List UInt8) (j : Nat) (hl : k.length = 32) (hx : a.eval x = .map (some g)) (hy : a.eval y = .agg (keyC k)) (hzv : a.eval z = .int .i64 (j : Int)) (hM : MapAt w g m) (hn : findM k m = none)
    (hmt : P.underlying mt = some (.map kt et)) (hk : P.underlying kt = some (.array 32 b)) (hb : P.underlying b = some (.int .u8)) (hs : ∀ w, (sizeOf b).run P w = .ok 1 w)
    (hq : ∀ x y : List UInt8, x.length = 32 → y.length = 32 → (Op.equal kt (.agg (keyC x)) (.agg (keyC y))).run P w = .ok (x == y) w)
    (h : ∀ w', MapAt w' g (m ++ [(k, j)]) → w.grownBy w' (some g) → K (a.put o.dst undef) w') : o.wp P a w K Q := by
  have hgl := hM.lt
  obtain ⟨es, c, h1, h2, h3⟩ := hM
  obtain ⟨r, hr, hr2⟩ := run_findKey w hk hq k hl m es.toList h2 h3
  have hc := fun em => run_checkKey w em hk hb hs k hl
  have hrn : r = none := by rw [hn] at hr2; simpa using hr2
  subst hrn
  have key : (Instr.mapUpdate mt (.map (some g)) (.agg (keyC k)) (.int .i64 (j : Int))).run P w = .ok () { w with heap := w.heap.setIfInBounds g (.map (es.push { key := .agg (keyC k), val := .int .i64 (j : Int), born := c }) (c + 1)) } := by
    simp [Instr.mapUpdate, run_underlying hmt, MapKept.run_getObj_map h1, hc, hr, MapKept.run_setObj_map _ h1, Result.andThen]
  unfold Oper.wp execOp
  simp only [ho, hx, hy, hzv]
  simp only [Sem.run_bind, key, Result.andThen_ok, Sem.run_pure]
  refine h _ ⟨es.push { key := .agg (keyC k), val := .int .i64 (j : Int), born := c }, c + 1, ?_, ?_, ?_⟩ ⟨rfl, rfl, rfl, by simp, fun i _ hne => ?_⟩
  · show (w.heap.setIfInBounds g _)[g]? = _
    rw [Array.getElem?_setIfInBounds_self_of_lt hgl]
  · simp [h2, entE]
  · intro p hp
    rcases List.mem_append.1 hp with hp | hp
    · exact h3 p hp
    · have : p = (k, j) := by simpa using hp
      rw [this]; exact hl
  · show (w.heap.setIfInBounds g _)[i]? = _
    rw [Array.getElem?_setIfInBounds_ne (fun e => hne (by rw [e]))]
theorem wpList_newK {w : World} {ops : Array Oper} {rest : List Oper} {o : Oper} {a : Act} {Q : Exit → Act → World → Prop} {mt et : TypeId} (hgd : o.guard = none) (x y z : Operand) (ho : o.op = .mapUpdate mt x y z) (g : Nat) (m : List (List UInt8 × Nat)) (k : List UInt8) (j : Nat) (hl : k.length = 32) (hx : a.eval x = .map (some g)) (hy : a.eval y = .agg (keyC k)) (hzv : a.eval z = .int .i64 (j : Int)) (hM : MapAt w g m) (hn : findM k m = none)
    (hmt : P.underlying mt = some (.map kt et)) (hk : P.underlying kt = some (.array 32 b)) (hb : P.underlying b = some (.int .u8)) (hs : ∀ w, (sizeOf b).run P w = .ok 1 w)
    (hq : ∀ x y : List UInt8, x.length = 32 → y.length = 32 → (Op.equal kt (.agg (keyC x)) (.agg (keyC y))).run P w = .ok (x == y) w)
    (h : ∀ w', MapAt w' g (m ++ [(k, j)]) → w.grownBy w' (some g) → wpList P ops Q rest (a.put o.dst undef) w') : wpList P ops Q (o :: rest) a w :=
  wpList_plain hgd fun _ hK => wp_newK x y z ho g m k j hl hx hy hzv hM hn hmt hk hb hs hq fun w' h1 h2 => hK _ _ (h w' h1 h2)
theorem MapAt.new (w : World) : MapAt (w.alloc (.map #[] 0)) w.heap.size [] := ⟨#[], 0, heap_alloc_new w _, rfl, by simp⟩
end
end Go.Proofs.YtckpnkohaaebdaaDoor
end
section
namespace Go.Proofs.YtckpnkohaaebdaaDoor
open Go.RowKit
set_option linter.unusedVariables false
set_option maxRecDepth 20000

theorem xor_byte (a b : UInt8) : bits .xor .u8 (a.toNat : Int) (b.toNat : Int) = ((a ^^^ b).toNat : Int) := by
  rw [u8_xor_nat _ _ a.toNat_lt b.toNat_lt, UInt8.toNat_xor]
theorem or_byte (a b : UInt8) : bits .or .u8 (a.toNat : Int) (b.toNat : Int) = ((a ||| b).toNat : Int) := by
  rw [u8_or_nat _ _ a.toNat_lt b.toNat_lt, UInt8.toNat_or]


theorem xorB_take (a b : List UInt8) (k : Nat) (ha : k < a.length) (hb : k < b.length) : (xorB a b).take (k + 1) = (xorB a b).take k ++ [a[k] ^^^ b[k]] := by
  have h : k < (xorB a b).length := by rw [xorB_length]; omega
  rw [List.take_succ_eq_append_getElem h, xorB_get a b k h ha hb]


/-- What is gathered of the differences of the first k places (0 stands for what is not there). -/
def gathered (a b : List UInt8) : Nat → UInt8
  | 0 => 0
  | k + 1 => gathered a b k ||| (a.getD k 0 ^^^ b.getD k 0)
theorem or_eq_zero (x y : UInt8) : x ||| y = 0 ↔ x = 0 ∧ y = 0 := by
  constructor
  · intro h
    have h1 : x.toNat ||| y.toNat = 0 := by rw [← UInt8.toNat_or, h]; rfl
    have h2 := Nat.or_eq_zero_iff.1 h1
    exact ⟨UInt8.toNat_inj.1 (by simpa using h2.1), UInt8.toNat_inj.1 (by simpa using h2.2)⟩
  · rintro ⟨rfl, rfl⟩; rfl
theorem xor_eq_zero (x y : UInt8) : x ^^^ y = 0 ↔ x = y := UInt8.xor_eq_zero_iff
theorem gathered_zero (a b : List UInt8) (k : Nat) : gathered a b k = 0 ↔ ∀ j, j < k → a.getD j 0 = b.getD j 0 := by
  induction k with
  | zero => simp [gathered]
  | succ k ih =>
    rw [gathered, or_eq_zero, ih, xor_eq_zero]
    constructor
    · rintro ⟨h1, h2⟩ j hj
      rcases Nat.lt_succ_iff_lt_or_eq.1 hj with h | h
      · exact h1 j h
      · rw [h]; exact h2
    · intro h
      exact ⟨fun j hj => h j (by omega), h k (by omega)⟩
theorem gathered_same (a b : List UInt8) (hl : a.length = b.length) : gathered a b (max a.length b.length) = 0 ↔ a = b := by
  rw [gathered_zero]
  constructor
  · intro h
    apply List.ext_getElem hl
    intro j h1 h2
    have := h j (by omega)
    simpa [List.getD_eq_getElem?_getD, h1, h2] using this
  · rintro rfl j _
    rfl

theorem at_any (w : World) (va : Value) (a : List UInt8) (ha : Bs w va a) (i : Nat) (hm : i ≤ maxLen) :
    Calls Tryd.prog 81 #[va, .int .i64 (i : Int)] w fun e w' => e = .returned (.int .u8 ((a.getD i 0).toNat : Int)) ∧ w = w' := by
  by_cases h : i < a.length
  · rw [List.getD_eq_getElem?_getD, List.getElem?_eq_getElem h]
    exact at_in w va a ha i h
  · rw [List.getD_eq_getElem?_getD, List.getElem?_eq_none (by omega)]
    exact at_out w va a ha i (by omega) hm

set_option maxHeartbeats 800000 in
theorem Same_any (w : World) (va vb : Value) (a b : List UInt8) (ha : Bs w va a) (hb : Bs w vb b) :
    Calls Tryd.prog 69 #[va, vb] w fun e w' => e = .returned (.bool (a == b)) ∧ w = w' := by
  have HA := Lib.hid ha
  have HBb := Lib.hid hb
  obtain ⟨A, ca, rfl, ha1, ha2, ha3⟩ := ha
  obtain ⟨B, cb, rfl, hb1, hb2, hb3⟩ := hb
  unfold maxLen at ha2 hb2
  clear ha3 hb3
  have hmax : max a.length b.length ≤ 9223372036854775807 := by omega
  by_cases hle : a.length < b.length
  all_goals
    go_enter Tryd.func69, Tryd.ntmps69
    go_wp2
    go_loop [5, 12] (fun d i => ∃ (k : Nat) (g : UInt8), k ≤ max a.length b.length ∧ i = .int .i64 k ∧ g = gathered a b k ∧ d = .int .u8 (g.toNat : Int)) (fun _ i => max a.length b.length - (intOf i).toNat)
    case atStart => exact ⟨0, 0, Nat.zero_le _, rfl, rfl, rfl⟩
    case round =>
      obtain ⟨k, g, hk, rfl, hg, rfl⟩ := hrel
      have HG := Lib.hid hg
      have hg8 := g.toNat_lt
      clear hg
      by_cases hlt : k < max a.length b.length
      · go_wp2_with fail
        refine (at_any _ _ a HA.out k (by unfold maxLen; omega)).mono ?_
        rintro e w' ⟨rfl, rfl⟩
        have hd1 := (a.getD k 0).toNat_lt
        go_wp2_with fail
        refine (at_any _ _ b HBb.out k (by unfold maxLen; omega)).mono ?_
        rintro e w' ⟨rfl, rfl⟩
        have hd2 := (b.getD k 0).toNat_lt
        go_wp2
        go_round
        case rel => exact ⟨k + 1, gathered a b (k + 1), by omega, by go_num, rfl, by rw [gathered, ← or_byte, ← xor_byte, HG.out]; first | (simp [show k < b.length by omega]; done) | (simp [show k < a.length by omega]; done)⟩
        case measure => simp [intOf]; omega
      · have hks : k = max a.length b.length := by omega
        by_cases hl : a.length = b.length
        · have hl1 : ((a.length : Int) == (b.length : Int)) = true := by simp [hl]
          by_cases hz : g = 0
          · have hz1 : ((g.toNat : Int) == 0) = true := by rw [hz]; rfl
            have hfin : (a == b) = true := by
              rw [beq_iff_eq, ← gathered_same a b hl, ← hks, ← HG.out, hz]
            have Hf := Lib.hid hfin
            clear hfin hl hz hks
            go_wp2
            go_ret
            exact ⟨by rw [Hf.out]; rfl, rfl⟩
          · have hz1 : ((g.toNat : Int) == 0) = false := by
              rw [beq_eq_false_iff_ne]; intro h; exact hz (UInt8.toNat_inj.1 (by simpa using h))
            have hfin : (a == b) = false := by
              rw [beq_eq_false_iff_ne]; intro h; rw [← gathered_same a b hl, ← hks, ← HG.out] at h; exact hz h
            have Hf := Lib.hid hfin
            clear hfin hl hz hks
            go_wp2
            go_ret
            exact ⟨by rw [Hf.out]; rfl, rfl⟩
        · have hl1 : ((a.length : Int) == (b.length : Int)) = false := by rw [beq_eq_false_iff_ne]; omega
          have hfin : (a == b) = false := by
            rw [beq_eq_false_iff_ne]; rintro rfl; exact hl rfl
          have Hf := Lib.hid hfin
          clear hfin hl hks
          by_cases hz : ((g.toNat : Int) == 0) = true
          · go_wp2
            go_ret
            exact ⟨by rw [Hf.out]; rfl, rfl⟩
          · have hz1 : ((g.toNat : Int) == 0) = false := by simpa using hz
            clear hz
            go_wp2
            go_ret
            exact ⟨by rw [Hf.out]; rfl, rfl⟩
end Go.Proofs.YtckpnkohaaebdaaDoor
end
section
namespace Go.Proofs.YtckpnkohaaebdaaDoor
open Go.RowKit
set_option linter.unusedVariables false
set_option maxRecDepth 20000

def inX (ins : List (List UInt8)) (j : Nat) : List UInt8 := ins.getD j []
def inD (ins : List (List UInt8)) (j : Nat) : List UInt8 := digestB (inX ins j)
/-- Among the first k inputs no two are unlike and have one digest. -/
def NoAl (ins : List (List UInt8)) (k : Nat) : Prop := ∀ i, i < k → ∀ j, j < i → inD ins j = inD ins i → inX ins j = inX ins i
/-- The first two that are. -/
structure FirstAl (ins : List (List UInt8)) (j i : Nat) : Prop where
  lt : j < i
  len : i < ins.length
  none : NoAl ins i
  dig : inD ins j = inD ins i
  ne : inX ins j ≠ inX ins i
  least : ∀ j', j' < j → inD ins j' ≠ inD ins i
/-- What the map tells of the first k inputs. -/
structure MapOk (ins : List (List UInt8)) (k : Nat) (m : List (List UInt8 × Nat)) : Prop where
  no : NoAl ins k
  yes : ∀ d a, findM d m = some a → a < k ∧ inD ins a = d ∧ ∀ j, j < a → inD ins j ≠ d
  none : ∀ d, findM d m = none → ∀ j, j < k → inD ins j ≠ d
theorem findM_append (d : List UInt8) (m : List (List UInt8 × Nat)) (p : List UInt8 × Nat) : findM d (m ++ [p]) = match findM d m with
    | some a => some a
    | none => if d = p.1 then some p.2 else none := by
  induction m with
  | nil => by_cases h : d = p.1 <;> simp [findM, h]
  | cons q m ih =>
    by_cases h : d = q.1
    · simp [findM, h]
    · simp [findM, h, ih]
theorem MapOk.start (ins : List (List UInt8)) : MapOk ins 0 [] := ⟨fun i h => by omega, fun d a h => by simp [findM] at h, fun d _ j h => by omega⟩
theorem MapOk.new {ins : List (List UInt8)} {k : Nat} {m : List (List UInt8 × Nat)} (h : MapOk ins k m) (hn : findM (inD ins k) m = .none) : MapOk ins (k + 1) (m ++ [(inD ins k, k)]) where
  no i hi j hj e := by
    by_cases hik : i = k
    · subst hik
      exact absurd e (h.none _ hn j hj)
    · exact h.no i (by omega) j hj e
  yes d a hd := by
    rw [findM_append] at hd
    rcases hf : findM d m with _ | b
    · rw [hf] at hd
      simp only at hd
      by_cases e : d = inD ins k
      · rw [if_pos e] at hd
        injection hd with hd
        subst hd
        exact ⟨by omega, e.symm, fun j hj => h.none d hf j hj⟩
      · rw [if_neg e] at hd; cases hd
    · rw [hf] at hd
      simp only at hd
      injection hd with hd
      subst hd
      obtain ⟨h1, h2, h3⟩ := h.yes d b hf
      exact ⟨by omega, h2, h3⟩
  none d hd j hj := by
    rw [findM_append] at hd
    rcases hf : findM d m with _ | b
    · rw [hf] at hd
      simp only at hd
      by_cases e : d = inD ins k
      · rw [if_pos e] at hd; cases hd
      · by_cases hjk : j = k
        · rw [hjk]; exact fun e2 => e e2.symm
        · exact h.none d hf j (by omega)
    · rw [hf] at hd; cases hd
theorem MapOk.same {ins : List (List UInt8)} {k a : Nat} {m : List (List UInt8 × Nat)} (h : MapOk ins k m) (hn : findM (inD ins k) m = some a) (he : inX ins a = inX ins k) : MapOk ins (k + 1) m where
  no i hi j hj e := by
    by_cases hik : i = k
    · subst hik
      obtain ⟨h1, h2, h3⟩ := h.yes _ a hn
      rcases Nat.lt_trichotomy j a with hl | hl | hl
      · exact absurd e (h3 j hl)
      · rw [hl]; exact he
      · have := h.no j hj a hl (h2.trans e.symm)
        rw [← this]; exact he
    · exact h.no i (by omega) j hj e
  yes d b hd := by
    obtain ⟨h1, h2, h3⟩ := h.yes d b hd
    exact ⟨by omega, h2, h3⟩
  none d hd j hj := by
    by_cases hjk : j = k
    · intro e
      rw [hjk] at e
      rw [← e, hn] at hd
      cases hd
    · exact h.none d hd j (by omega)
theorem MapOk.found {ins : List (List UInt8)} {k a : Nat} {m : List (List UInt8 × Nat)} (h : MapOk ins k m) (hk : k < ins.length) (hn : findM (inD ins k) m = some a) (he : inX ins a ≠ inX ins k) : FirstAl ins a k := by
  obtain ⟨h1, h2, h3⟩ := h.yes _ a hn
  exact ⟨h1, hk, h.no, h2, he, h3⟩
theorem wpList_valK {P : Program} {w : World} {ops : Array Oper} {rest : List Oper} {o : Oper} {a : Act} {Q : Exit → Act → World → Prop} (hgd : o.guard = none) (v : Value) (hr : (execOp a.eval o).run P w = .ok (.value v) w) (h : wpList P ops Q rest (a.put o.dst v) w) : wpList P ops Q (o :: rest) a w :=
  wpList_plain hgd fun _ hK => by
    unfold Oper.wp
    rw [hr]
    exact hK _ _ h
theorem Tryd.equalK (W : World) (x y : List UInt8) (hx : x.length = 32) (hy : y.length = 32) : (Op.equal 33 (.agg (keyC x)) (.agg (keyC y))).run Tryd.prog W = .ok (x == y) W := Tryd.eqKeyIn x y hx hy W
theorem Tryd.zeroI : (Tryd.prog.info? 3).map (·.zero) = some (some (.int .i64 0)) := by kernel_rfl

/-- What firstAlike hands back. -/
def AlRet (ins : List (List UInt8)) (e : Ending) (w' : World) : Prop :=
  (NoAl ins ins.length ∧ e = .returned (.tuple #[.slice none 0 0, .slice none 0 0, .bool false])) ∨
  ∃ j i a b, FirstAl ins j i ∧ e = .returned (.tuple #[a, b, .bool true]) ∧ Bs w' a (inX ins j) ∧ Bs w' b (inX ins i)
set_option maxHeartbeats 1000000 in
theorem firstAlike_any (w : World) (ht : Tabs w) (v : Value) (ins : List (List UInt8)) (h : Bss w v ins) (hl : ins.length ≤ 1000000) (hs : ∀ l ∈ ins, l.length ≤ 1000000) :
    Calls Tryd.prog 51 #[v, .func (.func 45) #[] #[]] w fun e w' => AlRet ins e w' ∧ Below w.heap.size w w' := by
  have HH := Lib.hid h
  have HT := Lib.hid ht
  have HS := Lib.hid hs
  have hmm := @run_makeMap Tryd.prog
  obtain ⟨A, c, rfl, q1, q2, q3⟩ := h
  unfold maxLen at q2
  clear ht hs
  go_enter Tryd.func51, Tryd.ntmps51
  go_wp2_with fail
  go_loopw [16] (fun i wr => ∃ (k : Nat) (m : List (List UInt8 × Nat)), k ≤ ins.length ∧ i = .int .i64 (k : Int) ∧ MapAt wr w.heap.size m ∧ MapOk ins k m ∧ Below w.heap.size w wr) (fun i _ => ins.length - (intOf i).toNat)
  case atStart => exact ⟨0, [], by omega, rfl, MapAt.new w, MapOk.start ins, alloc_below _ _⟩
  case round =>
    obtain ⟨k, m, hk, rfl, hM, hO, hE⟩ := hrel
    have E := Lib.hid hE
    have M := Lib.hid hM
    have OK := Lib.hid hO
    clear hE hM hO
    by_cases hlt : k < ins.length
    · obtain ⟨b, off, rfl, hc⟩ := q3 (by omega)
      obtain ⟨u, hcu, hbu⟩ := hc k hlt
      have hcell : wr.cell? ⟨b, off + k, none⟩ = some u := (E.out.cell (p := ⟨b, off + k, none⟩) (World.block_lt_of_cell? w _ hcu)).trans hcu
      have hx : ins[k] = inX ins k := by unfold inX; rw [List.getD_eq_getElem?_getD, List.getElem?_eq_getElem hlt]; rfl
      have HSL : Hid ((inX ins k).length ≤ 1000000) := by rw [← hx]; exact HS.out _ (List.getElem_mem hlt)
      rw [hx] at hbu
      have HBU := Lib.hid (hbu.below E.out)
      have HC := Lib.hid hc
      have HLT := Lib.hid hlt
      have hw1 : IntKind.i64.wrap ((k : Int) + 1) = (k : Int) + 1 := IntWalk.i64_in _ (by omega)
      have hlt2 : (k : Int) < (ins.length : Int) := by omega
      have hq0 : ¬ ((k : Int) < 0) := by omega
      obtain ⟨x, hxx⟩ : ∃ x, x = inX ins k := ⟨_, rfl⟩
      obtain ⟨d, hd⟩ : ∃ d, d = inD ins k := ⟨_, rfl⟩
      have HD : Hid (∀ W v, Tabs W → Bs W v x → Calls Tryd.prog 45 #[v] W (RetV W (keyV d))) := fun W v h1 h2 => by
        rw [hd, show inD ins k = digestB x by rw [hxx]; rfl]
        exact digest_any W h1 v x h2 (by rw [hxx]; exact HSL.out)
      have DL : Hid (d.length = 32) := by show _ = _; rw [hd]; exact digestB_length _
      rw [← hxx] at HBU hbu
      have HX := Lib.hid hxx
      have HDD := Lib.hid hd
      obtain ⟨UA, uc, rfl, _⟩ := id hbu
      clear hc hcu hbu hx hxx hd q3 hlt
      unfold keyV at HD
      go_wp2_with fail
      refine (HD.out _ _ (HT.out.below E.out) HBU.out).mono ?_
      intro e w5 hh
      obtain ⟨he, b5⟩ := hh
      subst he
      have E5 := Lib.hid (below_size E.out b5)
      have M5 := Lib.hid (M.out.kept b5)
      have HBU5 := Lib.hid (HBU.out.below b5)
      clear b5 HD M HBU
      rcases hf : findM d m with _ | a
      · have HSEEN : Hid (seenM d m = .tuple #[.int .i64 0, .bool false]) := by show _ = _; unfold seenM; rw [hf]
        have HF := Lib.hid hf
        clear hf
        go_wp2_with (first
          | ((with_reducible refine wpList_alloc_row (o := ⟨some 10, _, _, _, _, _⟩) rfl 33 rfl (keyC zeroKey) Tryd.zeroK ?_); intro g10 x6 n6; have N6 := Lib.hid n6; clear n6)
          | ((with_reducible refine wpList_store_row (o := ⟨none, _, _, _, _, _⟩) rfl 33 (.tmp 10) (.tmp 23) rfl g10 33 (keyC zeroKey) (keyC d) (by with_unfolding_all rfl) (by with_unfolding_all rfl) (by with_unfolding_all exact N6.out.row) (keyC_same zeroKey_length DL.out) (Tryd.sizeKey d DL.out) (keyC_one d) ?_); intro w7 p7; have L7 := (laid_put N6.out p7).1; have R7 := Lib.hid p7.row; have M7 := Lib.hid (M5.out.kept L7); have HBU7 := Lib.hid (HBU5.out.below L7); have E7 := Lib.hid (below_size E5.out L7); clear p7 L7 N6 M5 E5 HBU5)
          | (with_reducible refine wpList_load_row (o := ⟨some 26, _, _, _, _, _⟩) rfl 33 (.tmp 10) rfl g10 (by with_unfolding_all rfl) 33 (keyC d) (0, 0) (.array 32 5) (by with_unfolding_all exact R7.out) Tryd.underlying33 rfl (Tryd.sizeKey d DL.out) ?_)
          | (with_reducible refine wpList_valK (o := ⟨some 27, _, _, _, _, _⟩) rfl (.tuple #[.int .i64 0, .bool false]) (by rw [← HSEEN.out]; exact run_lookK (.tmp 25) (.tmp 26) (by with_unfolding_all rfl) w.heap.size m d DL.out (by with_unfolding_all rfl) (by with_unfolding_all rfl) M7.out Tryd.underlying105 Tryd.underlying33 Tryd.underlying5 Tryd.sizeOfB Tryd.zeroI (fun x y hx hy => Tryd.equalK _ x y hx hy)) ?_)
          | (with_reducible refine wpList_load_row (o := ⟨some 33, _, _, _, _, _⟩) rfl 33 (.tmp 10) rfl g10 (by with_unfolding_all rfl) 33 (keyC d) (0, 0) (.array 32 5) (by with_unfolding_all exact R7.out) Tryd.underlying33 rfl (Tryd.sizeKey d DL.out) ?_)
          | ((with_reducible refine wpList_newK (o := ⟨none, _, _, _, _, _⟩) rfl (.tmp 32) (.tmp 33) (.tmp 34) rfl w.heap.size m d k DL.out (by with_unfolding_all rfl) (by with_unfolding_all rfl) (by with_unfolding_all rfl) M7.out HF.out Tryd.underlying105 Tryd.underlying33 Tryd.underlying5 Tryd.sizeOfB (fun x y hx hy => Tryd.equalK _ x y hx hy) ?_); intro w8 m8 g8; have M8 := Lib.hid m8; have E8 := Lib.hid (E7.out.grown g8 E7.out.size (fun k e => by injection e with e; omega)); clear m8 g8))
        go_roundw
        case rel => exact ⟨k + 1, m ++ [(d, k)], by omega, by go_num, M8.out, (by have := OK.out.new (by rw [← HDD.out]; exact HF.out); rwa [← HDD.out] at this), E8.out⟩
        case measure => simp [intOf]; omega
      · have HSEEN : Hid (seenM d m = .tuple #[.int .i64 (a : Int), .bool true]) := by show _ = _; unfold seenM; rw [hf]
        have HF := Lib.hid hf
        obtain ⟨ha1, ha2, ha3⟩ := OK.out.yes d a hf
        have hal : a < ins.length := by have := HLT.out; omega
        obtain ⟨ua, hca, hba⟩ := HC.out a hal
        have hxa : ins[a] = inX ins a := by unfold inX; rw [List.getD_eq_getElem?_getD, List.getElem?_eq_getElem hal]; rfl
        rw [hxa] at hba
        have HCA : Hid (∀ W, Below w.heap.size w W → W.cell? ⟨b, off + a, none⟩ = some ua) := fun W hW => (hW.cell (p := ⟨b, off + a, none⟩) (World.block_lt_of_cell? w _ hca)).trans hca
        have HBA0 := Lib.hid hba
        have hla2 : (a : Int) < (ins.length : Int) := by omega
        have hqa : ¬ ((a : Int) < 0) := by omega
        obtain ⟨y, hyy⟩ : ∃ y, y = inX ins a := ⟨_, rfl⟩
        rw [← hyy] at HBA0 hba
        obtain ⟨VA, vc, rfl, _⟩ := id hba
        have HY := Lib.hid hyy
        clear hf ha1 ha2 ha3 hca hba hxa hyy
        by_cases hyx : y = x
        · have HYX : Hid (inX ins a = inX ins k) := by show _ = _; rw [← HY.out, ← HX.out, hyx]
          have HSM : Hid (∀ W u v, Bs W u y → Bs W v x → Calls Tryd.prog 69 #[u, v] W fun e w' => e = .returned (.bool true) ∧ W = w') := fun W u v h1 h2 => by
            have := Same_any W u v y x h1 h2
            rwa [show (y == x) = true by simp [hyx]] at this
          clear hyx
          go_wp2_with (first
            | ((with_reducible refine wpList_alloc_row (o := ⟨some 10, _, _, _, _, _⟩) rfl 33 rfl (keyC zeroKey) Tryd.zeroK ?_); intro g10 x6 n6; have N6 := Lib.hid n6; clear n6)
            | ((with_reducible refine wpList_store_row (o := ⟨none, _, _, _, _, _⟩) rfl 33 (.tmp 10) (.tmp 23) rfl g10 33 (keyC zeroKey) (keyC d) (by with_unfolding_all rfl) (by with_unfolding_all rfl) (by with_unfolding_all exact N6.out.row) (keyC_same zeroKey_length DL.out) (Tryd.sizeKey d DL.out) (keyC_one d) ?_); intro w7 p7; have L7 := (laid_put N6.out p7).1; have R7 := Lib.hid p7.row; have M7 := Lib.hid (M5.out.kept L7); have HBU7 := Lib.hid (HBU5.out.below L7); have E7 := Lib.hid (below_size E5.out L7); have ca7 := HCA.out _ E7.out; clear p7 L7 N6 M5 E5 HBU5)
            | (with_reducible refine wpList_load_row (o := ⟨some 26, _, _, _, _, _⟩) rfl 33 (.tmp 10) rfl g10 (by with_unfolding_all rfl) 33 (keyC d) (0, 0) (.array 32 5) (by with_unfolding_all exact R7.out) Tryd.underlying33 rfl (Tryd.sizeKey d DL.out) ?_)
            | (with_reducible refine wpList_valK (o := ⟨some 27, _, _, _, _, _⟩) rfl (.tuple #[.int .i64 (a : Int), .bool true]) (by rw [← HSEEN.out]; exact run_lookK (.tmp 25) (.tmp 26) (by with_unfolding_all rfl) w.heap.size m d DL.out (by with_unfolding_all rfl) (by with_unfolding_all rfl) M7.out Tryd.underlying105 Tryd.underlying33 Tryd.underlying5 Tryd.sizeOfB Tryd.zeroI (fun x y hx hy => Tryd.equalK _ x y hx hy)) ?_))
          refine (HSM.out _ _ _ (HBA0.out.below E7.out) (HBU7.out)).mono ?_
          intro e w8 hh
          obtain ⟨he, hw⟩ := hh
          subst he hw
          go_wp2_with fail
          go_roundw
          case rel => exact ⟨k + 1, m, by omega, by go_num, M7.out, OK.out.same (by rw [← HDD.out]; exact HF.out) HYX.out, E7.out⟩
          case measure => simp [intOf]; omega
        · have HYX : Hid (inX ins a ≠ inX ins k) := by show _ ≠ _; rw [← HY.out, ← HX.out]; exact hyx
          have HSM : Hid (∀ W u v, Bs W u y → Bs W v x → Calls Tryd.prog 69 #[u, v] W fun e w' => e = .returned (.bool false) ∧ W = w') := fun W u v h1 h2 => by
            have := Same_any W u v y x h1 h2
            rwa [show (y == x) = false by simp [hyx]] at this
          clear hyx
          go_wp2_with (first
            | ((with_reducible refine wpList_alloc_row (o := ⟨some 10, _, _, _, _, _⟩) rfl 33 rfl (keyC zeroKey) Tryd.zeroK ?_); intro g10 x6 n6; have N6 := Lib.hid n6; clear n6)
            | ((with_reducible refine wpList_store_row (o := ⟨none, _, _, _, _, _⟩) rfl 33 (.tmp 10) (.tmp 23) rfl g10 33 (keyC zeroKey) (keyC d) (by with_unfolding_all rfl) (by with_unfolding_all rfl) (by with_unfolding_all exact N6.out.row) (keyC_same zeroKey_length DL.out) (Tryd.sizeKey d DL.out) (keyC_one d) ?_); intro w7 p7; have L7 := (laid_put N6.out p7).1; have R7 := Lib.hid p7.row; have M7 := Lib.hid (M5.out.kept L7); have HBU7 := Lib.hid (HBU5.out.below L7); have E7 := Lib.hid (below_size E5.out L7); have ca7 := HCA.out _ E7.out; clear p7 L7 N6 M5 E5 HBU5)
            | (with_reducible refine wpList_load_row (o := ⟨some 26, _, _, _, _, _⟩) rfl 33 (.tmp 10) rfl g10 (by with_unfolding_all rfl) 33 (keyC d) (0, 0) (.array 32 5) (by with_unfolding_all exact R7.out) Tryd.underlying33 rfl (Tryd.sizeKey d DL.out) ?_)
            | (with_reducible refine wpList_valK (o := ⟨some 27, _, _, _, _, _⟩) rfl (.tuple #[.int .i64 (a : Int), .bool true]) (by rw [← HSEEN.out]; exact run_lookK (.tmp 25) (.tmp 26) (by with_unfolding_all rfl) w.heap.size m d DL.out (by with_unfolding_all rfl) (by with_unfolding_all rfl) M7.out Tryd.underlying105 Tryd.underlying33 Tryd.underlying5 Tryd.sizeOfB Tryd.zeroI (fun x y hx hy => Tryd.equalK _ x y hx hy)) ?_))
          refine (HSM.out _ _ _ (HBA0.out.below E7.out) HBU7.out).mono ?_
          intro e w8 hh
          obtain ⟨he, hw⟩ := hh
          subst he hw
          have FA := Lib.hid (OK.out.found HLT.out (by rw [← HDD.out]; exact HF.out) HYX.out)
          go_wp2_with fail
          refine bodyPost_ret (results_tmp3 rfl _ _ _) rfl ⟨.inr ⟨a, k, _, _, FA.out, rfl, ?_, ?_⟩, E7.out⟩
          · rw [← HY.out]; exact HBA0.out.below E7.out
          · rw [← HX.out]; exact HBU7.out
    · have hkn : k = ins.length := by omega
      subst hkn
      have NO := Lib.hid OK.out.no
      clear OK M q3 hlt
      go_wp2_with fail
      exact bodyPost_ret (results_tmp3 rfl _ _ _) rfl ⟨.inl ⟨NO.out, rfl⟩, E.out⟩
end Go.Proofs.YtckpnkohaaebdaaDoor
end
section
namespace Go.Proofs.YtckpnkohaaebdaaDoor
open Go.RowKit
set_option linter.unusedVariables false
set_option maxRecDepth 20000

set_option maxHeartbeats 1000000 in
theorem Alike_keep (w0 w : World) (g n : Nat) (ls : List (List UInt8)) (hk : MeetK w0 g n ls w) (hl : ls.length ≤ 1000000) (hs : ∀ l ∈ ls, l.length ≤ 1000000) :
    Calls Tryd.prog 26 #[.pointer (some ⟨g, 0, none⟩)] w fun e w' => AlRet ls e w' ∧ Below w.heap.size w w' := by
  have HK := Lib.hid hk
  have HI := Lib.hid (Inputs_keep w0 w g n ls hk hl hs)
  have HS := Lib.hid hs
  clear hk hs
  go_enter Tryd.func26, Tryd.ntmps26
  go_wp2_with fail
  refine HI.out.mono ?_
  intro e w1 hh
  obtain ⟨v, he, hv, b1⟩ := hh
  subst he
  have HV := Lib.hid hv
  have B1 := Lib.hid b1
  have T1 : Hid (Tabs w1) := HK.out.tabs.below b1
  clear hv b1 HI
  go_wp2_with fail
  refine (firstAlike_any w1 T1.out v ls HV.out hl HS.out).mono ?_
  intro e w2 hh
  obtain ⟨hr, b2⟩ := hh
  have B2 := Lib.hid (below_size B1.out b2)
  clear b2
  rcases hr with ⟨h1, he⟩ | ⟨j, i, a, b, h1, he, h2, h3⟩
  · subst he
    have H1 := Lib.hid h1
    clear h1
    go_wp2_with fail
    exact bodyPost_ret (results_tmp3 rfl _ _ _) rfl ⟨.inl ⟨H1.out, rfl⟩, B2.out⟩
  · subst he
    have H1 := Lib.hid h1
    have H2 := Lib.hid h2
    have H3 := Lib.hid h3
    clear h1
    obtain ⟨_, _, rfl, _⟩ := h2
    obtain ⟨_, _, rfl, _⟩ := h3
    go_wp2_with fail
    exact bodyPost_ret (results_tmp3 rfl _ _ _) rfl ⟨.inr ⟨j, i, _, _, H1.out, rfl, H2.out, H3.out⟩, B2.out⟩
theorem Load_any (w : World) (g n : Nat) (hc : w.cell? ⟨g, 1, none⟩ = some (.int .i64 (n : Int))) :
    Calls Tryd.prog 47 #[.pointer (some ⟨g, 1, none⟩)] w fun e w' => e = .returned (.int .i64 (n : Int)) ∧ w = w' := by
  have hld := run_call_load (P := Tryd.prog) Tryd.func66 (by kernel_rfl) (by kernel_rfl) (by kernel_rfl) .i64 (by kernel_rfl) hc
  go_enter Tryd.func47, Tryd.ntmps47
  go_wp2
  go_ret
  exact ⟨rfl, rfl⟩
theorem Count_row (w : World) (g n : Nat) (cs : Array Value) (hr : RowAt w g 83 cs) (hc : cs[1]? = some (.int .i64 (n : Int))) :
    Calls Tryd.prog 24 #[.pointer (some ⟨g, 0, none⟩)] w fun e w' => e = .returned (.int .i64 (n : Int)) ∧ w = w' := by
  have c1 : w.cell? ⟨g, 1, none⟩ = some (.int .i64 (n : Int)) := by rw [hr.cell]; exact hc
  have HL := Lib.hid (Load_any w g n c1)
  clear hr hc c1
  go_enter Tryd.func24, Tryd.ntmps24
  go_wp2_with fail
  refine HL.out.mono ?_
  intro e w1 hh
  obtain ⟨he, hw⟩ := hh
  subst he hw
  go_wp2_with fail
  go_ret
  exact ⟨rfl, rfl⟩
end Go.Proofs.YtckpnkohaaebdaaDoor
end
