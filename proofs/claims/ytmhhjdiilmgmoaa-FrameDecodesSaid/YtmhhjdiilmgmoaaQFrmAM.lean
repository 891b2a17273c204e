/-
  Texts that belong together, merged: FrmK0, FrmC, CodRd, FrmQ. Conditions: as each theorem names them.
-/
import Derived.Test.YtmhhjdiilmgmoaaQFrmAL
import Derived.Lib.SliceRun
import Derived.Test.YtmhhjdiilmgmoaaQFrmAH
import Derived.Test.YtmhhjdiilmgmoaaQFrmAE
import Derived.Test.YtmhhjdiilmgmoaaQFrmAI
section
namespace Go.Proofs.Ytmhhjdiilmgmoaa
open Go.RowKit
set_option linter.unusedVariables false
set_option maxRecDepth 20000

theorem wpList_make {P : Program} {w : World} {ops : Array Oper} {rest : List Oper} {o : Oper} {a : Act} {Q : Exit → Act → World → Prop} (hgd : o.guard = none) (t e : TypeId) (x y : Operand) (ho : o.op = .makeSlice t x y) (n c : Nat) (hx : a.eval x = .int .i64 (n : Int)) (hy : a.eval y = .int .i64 (c : Int)) (ht : P.underlying t = some (.slice e)) (z : Value) (size bytes : Nat)
    (hinfo : (P.info? e).map (fun i => (i.zero, i.size, i.bytes)) = some (some z, size, bytes)) (cs : Array Value) (hcs : madeCells z.cells (c * size) = cs) (hnc : n ≤ c) (hc : c ≤ 100000) (hb : bytes ≤ 100000)
    (h : ∀ g w', NewRow w g e cs w' → wpList P ops Q rest (a.put o.dst (.slice (some ⟨g, 0, none⟩) n c)) w') : wpList P ops Q (o :: rest) a w := by
  obtain ⟨i, hi, hz0, hz1, hz2⟩ := info_parts hinfo
  have hbb : i.bytes * c ≤ 281474976710656 := by
    rw [hz2]
    exact Nat.le_trans (Nat.mul_le_mul hb hc) (by decide)
  have hr := run_make (P := P) w t e i z ht hi hz0 .i64 .i64 n c (by omega) (by omega) (by rw [← Int.natCast_mul]; omega) (by omega)
  simp only [Int.toNat_natCast] at hr
  rw [hz1, hcs] at hr
  refine wpList_plain hgd fun _ hK => ?_
  unfold Oper.wp execOp
  simp only [ho, hx, hy, Sem.run_bind]
  rw [hr]
  exact hK _ _ (h _ _ (NewRow.mk_ w e cs))
theorem wp_make {P : Program} {w : World} {o : Oper} {a : Act} {K : Act → World → Prop} {Q : Exit → Act → World → Prop} (t e : TypeId) (x y : Operand) (ho : o.op = .makeSlice t x y) (n c : Nat) (hx : a.eval x = .int .i64 (n : Int)) (hy : a.eval y = .int .i64 (c : Int)) (ht : P.underlying t = some (.slice e)) (z : Value) (size bytes : Nat)
    (hinfo : (P.info? e).map (fun i => (i.zero, i.size, i.bytes)) = some (some z, size, bytes)) (cs : Array Value) (hcs : madeCells z.cells (c * size) = cs) (hnc : n ≤ c) (hc : c ≤ 100000) (hb : bytes ≤ 100000)
    (h : ∀ g w', NewRow w g e cs w' → K (a.put o.dst (.slice (some ⟨g, 0, none⟩) n c)) w') : o.wp P a w K Q := by
  obtain ⟨i, hi, hz0, hz1, hz2⟩ := info_parts hinfo
  have hbb : i.bytes * c ≤ 281474976710656 := by
    rw [hz2]
    exact Nat.le_trans (Nat.mul_le_mul hb hc) (by decide)
  have hr := run_make (P := P) w t e i z ht hi hz0 .i64 .i64 n c (by omega) (by omega) (by rw [← Int.natCast_mul]; omega) (by omega)
  simp only [Int.toNat_natCast] at hr
  rw [hz1, hcs] at hr
  unfold Oper.wp execOp
  simp only [ho, hx, hy, Sem.run_bind]
  rw [hr]
  exact h _ _ (NewRow.mk_ w e cs)
theorem wp_val {P : Program} {w : World} {o : Oper} {a : Act} {K : Act → World → Prop} {Q : Exit → Act → World → Prop} (v : Value) (hr : (execOp a.eval o).run P w = .ok (.value v) w) (h : K (a.put o.dst v) w) : o.wp P a w K Q := by
  unfold Oper.wp
  rw [hr]
  exact h
def zerosB (n : Nat) : List UInt8 := List.replicate n 0
theorem made63 : madeCells (Value.int .u8 0).cells (63 * 1) = (cellsB (zerosB 63)).toArray := by kernel_rfl
theorem made64 : madeCells (Value.int .u8 0).cells (64 * 1) = (cellsB (zerosB 64)).toArray := by kernel_rfl
def zerosK : List (List UInt8) := List.replicate 67 zeroKey
theorem keyC_zero (i : Nat) (hi : i < 32) : (keyC zeroKey)[i]? = some (Value.int .u8 0) := by
  unfold keyC cellsB zeroKey
  rw [List.getElem?_toArray, List.getElem?_map, List.getElem?_replicate, if_pos hi]; rfl
theorem zerosK_flat : zerosK.flatten = List.replicate 2144 0 := by
  show (List.replicate 67 (List.replicate 32 (0 : UInt8))).flatten = _
  rw [List.flatten_replicate_replicate]
theorem made67 : madeCells (Value.agg (keyC zeroKey)).cells (67 * 32) = keyC zerosK.flatten := by
  rw [zerosK_flat]
  have hz : ∀ i, i < 32 → (keyC zeroKey)[i]! = Value.int .u8 0 := by
    intro i hi
    have h := keyC_zero i hi
    rw [Array.getElem!_eq_getD, Array.getD_eq_getD_getElem?, h]; rfl
  apply Array.ext_getElem?
  intro i
  show ((Array.range (67 * 32)).map (fun j => (keyC zeroKey)[j % (keyC zeroKey).size]!))[i]? = _
  rw [Array.getElem?_map]
  by_cases hi : i < 2144
  · rw [Array.getElem?_range, if_pos hi]
    rw [Option.map_some, keyC_size, zeroKey_length, hz _ (Nat.mod_lt _ (by omega))]
    rw [keyC, List.getElem?_toArray]
    simp only [cellsB, List.getElem?_map, List.getElem?_replicate, if_pos hi]
    rfl
  · rw [Array.getElem?_eq_none (by simp; omega), Array.getElem?_eq_none (by rw [keyC_size, List.length_replicate]; omega)]
    rfl
theorem zerosK_len : ∀ l ∈ zerosK, l.length = 32 := fun l hl => by rw [(List.mem_replicate.1 hl).2]; exact zeroKey_length
theorem Bs.of_row {w : World} {g : Nat} {t : TypeId} {l : List UInt8} (h : RowAt w g t (cellsB l).toArray) (hn : l.length ≤ 1000) : Bs w (.slice (some ⟨g, 0, none⟩) l.length l.length) l :=
  ⟨_, _, rfl, Nat.le_refl _, by unfold maxLen; omega, fun _ => ⟨g, 0, rfl, fun j hj => by rw [Nat.zero_add, h.cell, List.getElem?_toArray, cellsB_get l j hj]⟩⟩
def exFr (n : Nat) (ls : List (List UInt8)) : Fr := ⟨1, 0, zeroKey, zeroKey, zeroKey, zerosB n, ls⟩
theorem exFr_ok (n : Nat) (ls : List (List UInt8)) : (exFr n ls).Ok := ⟨by show 1 < 4294967296; omega, by show 0 < 4294967296; omega, zeroKey_length, zeroKey_length, zeroKey_length⟩
theorem Try.built5 (A : Option Addr) (n c : Nat) : Try.prog.built 28 [(0, .int .u32 1), (5, .slice A n c)] = some (frC (exFr n []) (.slice A n c) nilS) := by kernel_rfl
theorem Try.built56 (A B : Option Addr) (n c m d : Nat) : Try.prog.built 28 [(0, .int .u32 1), (5, .slice A n c), (6, .slice B m d)] = some (frC (exFr n []) (.slice A n c) (.slice B m d)) := by kernel_rfl
def key1 : List UInt8 := 1 :: List.replicate 31 0
def key2 : List UInt8 := 2 :: List.replicate 31 0
theorem Try.built1 : Try.prog.built 24 [(0, .int .u8 1)] = some (keyC key1) := by kernel_rfl
theorem Try.built2 : Try.prog.built 24 [(0, .int .u8 2)] = some (keyC key2) := by kernel_rfl
def exBu : List (List UInt8) := [key1, zeroKey, zeroKey, key2]
theorem exBu_ok : BuOk exBu := ⟨rfl, by intro l hl; simp only [exBu, List.mem_cons, List.not_mem_nil, or_false] at hl; rcases hl with rfl | rfl | rfl | rfl <;> rfl⟩
theorem Try.builtEx : Try.prog.built 39 [(0, .agg (keyC key1)), (3, .agg (keyC key2))] = some (keyC exBu.flatten) := by kernel_rfl
/-- Two bundles are equal as values just if their keys are. -/
theorem Try.stoodBu : Try.prog.stoodInHeld 39 = false := by kernel_rfl
theorem Try.fieldsBu : (Try.prog.fieldsOf 39).toList.map (fun f => (f.name == "_", f.type, f.offset)) = [(false, 24, 0), (false, 24, 32), (false, 24, 64), (false, 24, 96)] := by kernel_rfl
theorem Try.undBu : Try.prog.underlying 39 = some (.struct (Try.prog.fieldsOf 39)) := by kernel_rfl
theorem Try.eqGuardBu : Try.prog.eqGuardType Try.prog.depth 39 = false := by kernel_rfl
theorem part_key (w : World) (ks : List (List UInt8)) (h : BuOk ks) (i : Nat) (hi : i < 4) : (part 24 (keyC ks.flatten) (i * 32)).run Try.prog w = .ok (.agg (keyC (keyI ks i))) w := by
  have hs := Try.sizeK
  obtain ⟨f, hf, hz⟩ := Option.map_eq_some_iff.1 hs
  have e : (keyC ks.flatten).extract (i * 32) (i * 32 + 32) = keyC (keyI ks i) := by
    have h1 := keys_part ks h.2 i _ (keyI_get ks i (by rw [h.1]; exact hi))
    rw [cellsB_length, keyI_len h.2 i] at h1
    apply Array.toList_inj.1
    rw [Array.toList_extract, List.extract_eq_take_drop, show i * 32 + 32 - i * 32 = 32 by omega]
    exact h1
  unfold part isAgg
  simp [run_underlying Try.underlying24, sizeOf, typeInfo, hf, hz, e]
theorem eqFields_step {P : Program} {w : World} {d : Nat} {xs ys : Array Value} {f : Field} {fs : List Field} {ty : TypeId} {o : Nat} {x y : Value} {r : Bool} (h : (f.name == "_", f.type, f.offset) = (false, ty, o))
    (hx : (part ty xs o).run P w = .ok x w) (hy : (part ty ys o).run P w = .ok y w) (he : (Op.equalIn d ty x y).run P w = .ok r w) :
    (Op.eqFields d xs ys (f :: fs)).run P w = if r = true then (Op.eqFields d xs ys fs).run P w else .ok false w := by
  injection h with h1 h2
  injection h2 with h2 h3
  have h1' : f.name ≠ "_" := by simpa using h1
  rw [Op.eqFields, if_pos h1']
  simp only [Sem.run_bind, h2, h3, hx, hy, he, Result.andThen_ok]
  cases r <;> simp
theorem keys_four {a b : List (List UInt8)} (ha : BuOk a) (hb : BuOk b) : (a == b) = ((keyI a 0 == keyI b 0) && ((keyI a 1 == keyI b 1) && ((keyI a 2 == keyI b 2) && (keyI a 3 == keyI b 3)))) := by
  rw [Bool.eq_iff_iff]
  simp only [Bool.and_eq_true, beq_iff_eq]
  constructor
  · rintro rfl; exact ⟨rfl, rfl, rfl, rfl⟩
  · rintro ⟨h0, h1, h2, h3⟩
    rw [four_keys ha.1, four_keys hb.1, h0, h1, h2, h3]
theorem Try.eqBu (w : World) (a b : List (List UInt8)) (ha : BuOk a) (hb : BuOk b) : (Op.equalIn 10000 39 (.agg (keyC a.flatten)) (.agg (keyC b.flatten))).run Try.prog w = .ok (a == b) w := by
  rw [run_equalIn_struct w 9999 _ _ _ Try.undBu Try.stoodBu, keys_four ha hb]
  have pk : ∀ i, (Op.equalIn 9999 24 (.agg (keyC (keyI a i))) (.agg (keyC (keyI b i)))).run Try.prog w = .ok (keyI a i == keyI b i) w := fun i => run_equalIn_bytes w 9997 24 5 32 Try.underlying24 Try.underlying5 Try.sizeOfB _ _ (keyI_len ha.2 i) (keyI_len hb.2 i)
  have hfs := Try.fieldsBu
  generalize (Try.prog.fieldsOf 39).toList = fs at hfs
  have hl := congrArg List.length hfs
  rw [List.length_map] at hl
  obtain ⟨f0, f1, f2, f3, rfl⟩ : ∃ f0 f1 f2 f3, fs = [f0, f1, f2, f3] := by
    match fs, hl with
    | [f0, f1, f2, f3], _ => exact ⟨f0, f1, f2, f3, rfl⟩
  · simp only [List.map_cons, List.map_nil] at hfs
    injection hfs with h0 hfs
    injection hfs with h1 hfs
    injection hfs with h2 hfs
    injection hfs with h3 hfs
    rw [eqFields_step h0 (part_key w a ha 0 (by omega)) (part_key w b hb 0 (by omega)) (pk 0)]
    rw [eqFields_step h1 (part_key w a ha 1 (by omega)) (part_key w b hb 1 (by omega)) (pk 1)]
    rw [eqFields_step h2 (part_key w a ha 2 (by omega)) (part_key w b hb 2 (by omega)) (pk 2)]
    rw [eqFields_step h3 (part_key w a ha 3 (by omega)) (part_key w b hb 3 (by omega)) (pk 3)]
    generalize (keyI a 0 == keyI b 0) = x0
    generalize (keyI a 1 == keyI b 1) = x1
    generalize (keyI a 2 == keyI b 2) = x2
    generalize (keyI a 3 == keyI b 3) = x3
    cases x0 <;> cases x1 <;> cases x2 <;> cases x3 <;> simp [Op.eqFields]
theorem lit_ownF (w : World) (l : List UInt8) (c : Array Value) (hc : c.toList = cellsB l) (hm : l.length ≤ maxLen) : OwnB (w.alloc (.cells c 5)) w.heap.size 5 (.slice (some ⟨w.heap.size, 0, none⟩) l.length l.length) l := by
  have h := World.ownsRow_lit (base := w.heap.size) (e := 5) (size := 1) w c l.length (Nat.le_refl _) hm (by rw [← Array.length_toList, hc, cellsB_length]; omega)
  rw [hc] at h
  exact h
theorem eqBu_run {o : Oper} {a : Act} {W : World} (op : BinOp) (hop : op = .eql ∨ op = .neq) (x y : Operand) (rt : TypeId) (ho : o.op = .binOp op 39 x y rt) (u v : Array Value) (r : Bool) (hq : (Op.equalIn 10000 39 (.agg u) (.agg v)).run Try.prog W = .ok r W) (hx : a.eval x = .agg u) (hy : a.eval y = .agg v) :
    (execOp a.eval o).run Try.prog W = .ok (.value (.bool (if op = .eql then r else !r))) W := by
  have hgd := Try.eqGuardBu
  have hq2 : (Op.equal 39 (.agg u) (.agg v)).run Try.prog W = .ok r W := hq
  have h1 : (binOp .eql 39 (.agg u) (.agg v)).run Try.prog W = .ok (.bool r) W := by
    show ((do pure (.bool (← Op.equal 39 (.agg u) (.agg v))) : Sem Value)).run Try.prog W = _
    simp only [Sem.run_bind, hq2, Result.andThen_ok, Sem.run_pure]
  have h2 : (binOp .neq 39 (.agg u) (.agg v)).run Try.prog W = .ok (.bool !r) W := by
    show ((do pure (.bool (!(← Op.equal 39 (.agg u) (.agg v)))) : Sem Value)).run Try.prog W = _
    simp only [Sem.run_bind, hq2, Result.andThen_ok, Sem.run_pure]
  have g1 : ∀ op, (eqGuard op 39 x y (.agg u) (.agg v)).run Try.prog W = .ok () W := by
    intro op
    unfold eqGuard
    clear h1 h2 hq hq2
    cases op <;> go_simp
  unfold execOp
  simp only [ho, hx, hy]
  rcases hop with rfl | rfl
  · simp only [Sem.run_bind, g1, h1, Result.andThen_ok, Sem.run_pure]; rfl
  · simp only [Sem.run_bind, g1, h2, Result.andThen_ok, Sem.run_pure]; rfl
end Go.Proofs.Ytmhhjdiilmgmoaa
end
section
namespace Go.Proofs.Ytmhhjdiilmgmoaa
open Go.RowKit
set_option linter.unusedVariables false
set_option maxRecDepth 20000

def coreO (f : Fr) : List UInt8 := if shapeE f = 0 then coreB f else []
def encO (f : Fr) : List UInt8 := if checkE f = 0 then encB f else []
set_option maxHeartbeats 4000000 in
theorem core_own (w : World) (v : Value) (f : Fr) (h : FrV w v f) :
    Calls Try.prog 12 #[v] w fun e w' => ∃ u, e = .returned (.tuple #[u, .int .i64 (shapeE f)]) ∧ Bs w' u (coreO f) ∧ U8At w' u ∧ Below w.heap.size w w' := by
  obtain ⟨bv, sv, rfl, ho, h1, h2⟩ := h
  have HO := Lib.hid ho
  have H1 := Lib.hid h1
  have H2 := Lib.hid h2
  have HS : Hid (∀ w v, FrV w v f → Calls Try.prog 25 #[v] w fun e w' => e = .returned (.int .i64 (shapeE f)) ∧ Below w.heap.size w w') := fun w v h => checkCore_any w v f h
  have HW : Hid (∀ w v, FrV w v f → Calls Try.prog 26 #[v] w fun e w' => ∃ o x, e = .returned (.pointer (some ⟨o, 0, none⟩)) ∧ OutAt w' o x (coreS f) ∧ w.heap.size ≤ o ∧ (∀ k, x.ownBlock = some k → w.heap.size ≤ k) ∧ Below w.heap.size w w') := fun w v h => writeCore_any w v f h
  obtain ⟨A, c, rfl, _, q2, _⟩ := h1
  obtain ⟨B, d, rfl, _, q3, _⟩ := h2
  have HV : Hid (∀ w', Below w.heap.size w w' → FrV w' (.agg (frC f (.slice A f.box.length c) (.slice B f.sign.length d))) f) := fun w' hb => ⟨_, _, rfl, HO.out, H1.out.below hb, H2.out.below hb⟩
  clear q2 q3 ho
  by_cases a0 : shapeE f = 0
  · have EL : Hid (coreO f = coreB f) := if_pos a0
    have hl : (coreB f).length ≤ 1000 := by have := coreB_length HO.out; have := shape_zero (a0); omega
    have LS : Hid ((coreB f).length ≤ 1000) := hl
    rw [a0] at HS ⊢
    have HD : Hid (∀ w o v, OutAt w o v (coreS f) → Calls Try.prog 27 #[.pointer (some ⟨o, 0, none⟩)] w fun e w' => ∃ u, e = .returned (.tuple #[u, .int .i64 0]) ∧ OwnB w' w.heap.size 5 u (coreB f) ∧ Below w.heap.size w w') := fun w o v h => by rw [core_ok a0] at h; exact outDone_any w o v _ h (by show (coreB f).length ≤ _; omega)
    clear a0 hl
    go_enter Try.func12, Try.ntmps12
    go_wp2_with (first
      | ((with_reducible refine wpList_box_row (o := ⟨some 1, _, _, _, _, _⟩) rfl 28 (.tmp 0) rfl (frC f (.slice A f.box.length c) (.slice B f.sign.length d)) (by with_unfolding_all rfl) ?_); intro g1 w1 n1; have HR : Hid (FrAt w1 g1 f (.slice A f.box.length c) (.slice B f.sign.length d)) := n1.row; have HB := Lib.hid n1.below; have HS1 := Lib.hid n1.spot; clear n1)
      | (with_reducible refine wpList_load_row (o := ⟨some 5, _, _, _, _, _⟩) rfl 28 (.tmp 1) rfl g1 (by with_unfolding_all rfl) 28 (frC f (.slice A f.box.length c) (.slice B f.sign.length d)) (0, 0) _ (by with_unfolding_all exact HR.out) Try.underlying28 rfl (Try.sizeFr HO.out _ _) ?_))
    refine (HS.out _ _ (HV.out _ HB.out)).mono ?_
    intro e w2 hh
    obtain ⟨he, b2⟩ := hh
    subst he
    have HR2 : Hid (FrAt w2 g1 f (.slice A f.box.length c) (.slice B f.sign.length d)) := RowAt.kept HR.out b2
    have B2 := Lib.hid (below_size HB.out b2)
    clear b2 HR
    go_wp2_with (first
      | (with_reducible refine wpList_load_row (o := ⟨some 10, _, _, _, _, _⟩) rfl 28 (.tmp 1) rfl g1 (by with_unfolding_all rfl) 28 (frC f (.slice A f.box.length c) (.slice B f.sign.length d)) (0, 0) _ (by with_unfolding_all exact HR2.out) Try.underlying28 rfl (Try.sizeFr HO.out _ _) ?_))
    refine (HW.out _ _ (HV.out _ B2.out)).mono ?_
    intro e w3 hh
    obtain ⟨o, x, he, h3, ho3, hx3, b3⟩ := hh
    subst he
    have H3 := Lib.hid h3
    have HR3 : Hid (FrAt w3 g1 f (.slice A f.box.length c) (.slice B f.sign.length d)) := RowAt.kept HR2.out b3
    have B3 := Lib.hid (below_size B2.out b3)
    have HN3 : Hid (w.heap.size ≤ o ∧ (∀ k, x.ownBlock = some k → w.heap.size ≤ k) ∧ g1 ≠ o) := by
      have := B2.out.size
      have := HR2.out.lt
      refine ⟨by omega, fun k hk => by have := hx3 k hk; omega, by omega⟩
    clear b3 HR2 h3 ho3 hx3
    go_wp2_with fail
    refine (HD.out _ _ _ H3.out).mono ?_
    intro e w4 hh
    obtain ⟨u, he, hu, b4⟩ := hh
    subst he
    have HU := Lib.hid hu
    have B4 := Lib.hid (below_size B3.out b4)
    clear hu b4
    go_wp2
    go_ret2
    exact ⟨u, rfl, by rw [EL.out]; exact HU.out.bs, U8At.of HU.out, B4.out⟩
  · have EL : Hid (coreO f = []) := if_neg a0
    have hd : (shapeE f != 0) = true := by simpa using a0
    obtain ⟨x, hx⟩ : ∃ x, x = shapeE f := ⟨_, rfl⟩
    rw [← hx] at HS hd ⊢
    clear a0 hx
    go_enter Try.func12, Try.ntmps12
    go_wp2_with (first
      | ((with_reducible refine wpList_box_row (o := ⟨some 1, _, _, _, _, _⟩) rfl 28 (.tmp 0) rfl (frC f (.slice A f.box.length c) (.slice B f.sign.length d)) (by with_unfolding_all rfl) ?_); intro g1 w1 n1; have HR : Hid (FrAt w1 g1 f (.slice A f.box.length c) (.slice B f.sign.length d)) := n1.row; have HB := Lib.hid n1.below; have HS1 := Lib.hid n1.spot; clear n1)
      | (with_reducible refine wpList_load_row (o := ⟨some 5, _, _, _, _, _⟩) rfl 28 (.tmp 1) rfl g1 (by with_unfolding_all rfl) 28 (frC f (.slice A f.box.length c) (.slice B f.sign.length d)) (0, 0) _ (by with_unfolding_all exact HR.out) Try.underlying28 rfl (Try.sizeFr HO.out _ _) ?_))
    refine (HS.out _ _ (HV.out _ HB.out)).mono ?_
    intro e w2 hh
    obtain ⟨he, b2⟩ := hh
    subst he
    have B2 := Lib.hid (below_size HB.out b2)
    clear b2 HR
    go_wp2
    go_ret2
    exact ⟨_, rfl, by rw [EL.out]; exact Bs.nil _, U8At.nil _ _ _, B2.out⟩
set_option maxHeartbeats 4000000 in
theorem encode_own (w : World) (v : Value) (f : Fr) (h : FrV w v f) :
    Calls Try.prog 14 #[v] w fun e w' => ∃ u, e = .returned (.tuple #[u, .int .i64 (checkE f)]) ∧ Bs w' u (encO f) ∧ U8At w' u ∧ Below w.heap.size w w' := by
  obtain ⟨bv, sv, rfl, ho, h1, h2⟩ := h
  have HO := Lib.hid ho
  have H1 := Lib.hid h1
  have H2 := Lib.hid h2
  have HS : Hid (∀ w v, FrV w v f → Calls Try.prog 11 #[v] w fun e w' => e = .returned (.int .i64 (checkE f)) ∧ Below w.heap.size w w') := fun w v h => check_any w v f h
  have HW : Hid (∀ w v, FrV w v f → Calls Try.prog 26 #[v] w fun e w' => ∃ o x, e = .returned (.pointer (some ⟨o, 0, none⟩)) ∧ OutAt w' o x (coreS f) ∧ w.heap.size ≤ o ∧ (∀ k, x.ownBlock = some k → w.heap.size ≤ k) ∧ Below w.heap.size w w') := fun w v h => writeCore_any w v f h
  obtain ⟨A, c, rfl, _, q2, _⟩ := h1
  obtain ⟨B, d, rfl, _, q3, _⟩ := h2
  have HV : Hid (∀ w', Below w.heap.size w w' → FrV w' (.agg (frC f (.slice A f.box.length c) (.slice B f.sign.length d))) f) := fun w' hb => ⟨_, _, rfl, HO.out, H1.out.below hb, H2.out.below hb⟩
  clear q2 q3 ho
  by_cases a0 : checkE f = 0
  · have EL : Hid (encO f = encB f) := if_pos a0
    have hl : (coreB f).length ≤ 1000 := by have := coreB_length HO.out; have := shape_zero ((check_zero a0).1); omega
    have LS : Hid ((coreB f).length ≤ 1000) := hl
    have HK : Hid (∀ w o v u, OutAt w o v (coreS f) → Kl w u f.sign → (0 < f.sign.length → Off o v u) → Calls Try.prog 32 #[.pointer (some ⟨o, 0, none⟩), u] w fun e w' => e = .returned (.tuple #[]) ∧ ∃ v', OutAt w' o v' ⟨encB f, 0⟩ ∧ OutStep w w' o v v') := fun w o v u h hu hf => by
      have := outKeys_any w o v (coreS f) u f.sign h hu hf (by rw [core_ok (check_zero a0).1]; show (coreB f).length ≤ _; omega)
      rwa [enc_ok a0] at this
    have hl2 : (encB f).length ≤ 5000 := by
      have h3 := H2.out
      obtain ⟨_, _, _, _, _, h32, _⟩ := h3
      rw [encB, List.length_append, List.length_append, List.length_reverse, lowB_length, flat_len32 _ h32, (check_zero a0).2]; omega
    rw [a0] at HS ⊢
    have HD : Hid (∀ w o v, OutAt w o v ⟨encB f, 0⟩ → Calls Try.prog 27 #[.pointer (some ⟨o, 0, none⟩)] w fun e w' => ∃ u, e = .returned (.tuple #[u, .int .i64 0]) ∧ OwnB w' w.heap.size 5 u (encB f) ∧ Below w.heap.size w w') := fun w o v h => outDone_any w o v _ h (by show (encB f).length ≤ _; omega)
    clear hl2
    clear a0 hl
    go_enter Try.func14, Try.ntmps14
    go_wp2_with (first
      | ((with_reducible refine wpList_box_row (o := ⟨some 1, _, _, _, _, _⟩) rfl 28 (.tmp 0) rfl (frC f (.slice A f.box.length c) (.slice B f.sign.length d)) (by with_unfolding_all rfl) ?_); intro g1 w1 n1; have HR : Hid (FrAt w1 g1 f (.slice A f.box.length c) (.slice B f.sign.length d)) := n1.row; have HB := Lib.hid n1.below; have HS1 := Lib.hid n1.spot; clear n1)
      | (with_reducible refine wpList_load_row (o := ⟨some 6, _, _, _, _, _⟩) rfl 28 (.tmp 1) rfl g1 (by with_unfolding_all rfl) 28 (frC f (.slice A f.box.length c) (.slice B f.sign.length d)) (0, 0) _ (by with_unfolding_all exact HR.out) Try.underlying28 rfl (Try.sizeFr HO.out _ _) ?_))
    refine (HS.out _ _ (HV.out _ HB.out)).mono ?_
    intro e w2 hh
    obtain ⟨he, b2⟩ := hh
    subst he
    have HR2 : Hid (FrAt w2 g1 f (.slice A f.box.length c) (.slice B f.sign.length d)) := RowAt.kept HR.out b2
    have B2 := Lib.hid (below_size HB.out b2)
    clear b2 HR
    go_wp2_with (first
      | (with_reducible refine wpList_load_row (o := ⟨some 11, _, _, _, _, _⟩) rfl 28 (.tmp 1) rfl g1 (by with_unfolding_all rfl) 28 (frC f (.slice A f.box.length c) (.slice B f.sign.length d)) (0, 0) _ (by with_unfolding_all exact HR2.out) Try.underlying28 rfl (Try.sizeFr HO.out _ _) ?_))
    refine (HW.out _ _ (HV.out _ B2.out)).mono ?_
    intro e w3 hh
    obtain ⟨o, x, he, h3, ho3, hx3, b3⟩ := hh
    subst he
    have H3 := Lib.hid h3
    have HR3 : Hid (FrAt w3 g1 f (.slice A f.box.length c) (.slice B f.sign.length d)) := RowAt.kept HR2.out b3
    have B3 := Lib.hid (below_size B2.out b3)
    have HN3 : Hid (w.heap.size ≤ o ∧ (∀ k, x.ownBlock = some k → w.heap.size ≤ k) ∧ g1 ≠ o) := by
      have := B2.out.size
      have := HR2.out.lt
      refine ⟨by omega, fun k hk => by have := hx3 k hk; omega, by omega⟩
    clear b3 HR2 h3 ho3 hx3
    have I3 : Hid (WIn w w3 g1 28 (frC f (.slice A f.box.length c) (.slice B f.sign.length d)) o x (coreS f)) := ⟨H3.out, HR3.out, B3.out, HN3.out.1, HN3.out.2.1, HN3.out.2.2⟩
    have c3 := HR3.out.sign HO.out
    clear H3 HR3 B3 HN3
    go_wp2_with fail
    refine (HK.out _ _ _ _ I3.out.out (H2.out.below I3.out.below) fun hl => I3.out.off (H2.out.low hl)).mono ?_
    intro e w4 hh
    obtain ⟨he, v4, h4, s4⟩ := hh
    subst he
    have I4 := Lib.hid (I3.out.step (by decide) h4 s4)
    clear I3 h4 s4 c3
    go_wp2_with fail
    refine (HD.out _ _ _ I4.out.out).mono ?_
    intro e w5 hh
    obtain ⟨u, he, hu, b5⟩ := hh
    subst he
    have HU := Lib.hid hu
    have B5 := Lib.hid (below_size I4.out.below b5)
    clear hu b5
    go_wp2
    go_ret2
    exact ⟨u, rfl, by rw [EL.out]; exact HU.out.bs, U8At.of HU.out, B5.out⟩
  · have EL : Hid (encO f = []) := if_neg a0
    have hd : (checkE f != 0) = true := by simpa using a0
    obtain ⟨x, hx⟩ : ∃ x, x = checkE f := ⟨_, rfl⟩
    rw [← hx] at HS hd ⊢
    clear a0 hx
    go_enter Try.func14, Try.ntmps14
    go_wp2_with (first
      | ((with_reducible refine wpList_box_row (o := ⟨some 1, _, _, _, _, _⟩) rfl 28 (.tmp 0) rfl (frC f (.slice A f.box.length c) (.slice B f.sign.length d)) (by with_unfolding_all rfl) ?_); intro g1 w1 n1; have HR : Hid (FrAt w1 g1 f (.slice A f.box.length c) (.slice B f.sign.length d)) := n1.row; have HB := Lib.hid n1.below; have HS1 := Lib.hid n1.spot; clear n1)
      | (with_reducible refine wpList_load_row (o := ⟨some 6, _, _, _, _, _⟩) rfl 28 (.tmp 1) rfl g1 (by with_unfolding_all rfl) 28 (frC f (.slice A f.box.length c) (.slice B f.sign.length d)) (0, 0) _ (by with_unfolding_all exact HR.out) Try.underlying28 rfl (Try.sizeFr HO.out _ _) ?_))
    refine (HS.out _ _ (HV.out _ HB.out)).mono ?_
    intro e w2 hh
    obtain ⟨he, b2⟩ := hh
    subst he
    have B2 := Lib.hid (below_size HB.out b2)
    clear b2 HR
    go_wp2
    go_ret2
    exact ⟨_, rfl, by rw [EL.out]; exact Bs.nil _, U8At.nil _ _ _, B2.out⟩
theorem core_any (w : World) (v : Value) (f : Fr) (h : FrV w v f) :
    Calls Try.prog 12 #[v] w fun e w' => ∃ u, e = .returned (.tuple #[u, .int .i64 (shapeE f)]) ∧ Bs w' u (coreO f) ∧ Below w.heap.size w w' :=
  (core_own w v f h).mono fun e w' ⟨u, he, h1, _, h2⟩ => ⟨u, he, h1, h2⟩
theorem encode_any (w : World) (v : Value) (f : Fr) (h : FrV w v f) :
    Calls Try.prog 14 #[v] w fun e w' => ∃ u, e = .returned (.tuple #[u, .int .i64 (checkE f)]) ∧ Bs w' u (encO f) ∧ Below w.heap.size w w' :=
  (encode_own w v f h).mono fun e w' ⟨u, he, h1, _, h2⟩ => ⟨u, he, h1, h2⟩
end Go.Proofs.Ytmhhjdiilmgmoaa
end
section
namespace Go.Proofs.Ytmhhjdiilmgmoaa
open Go.RowKit
set_option linter.unusedVariables false
set_option maxRecDepth 20000

/-- T reads just c. -/
structure Rd (T : St → St) (c : List UInt8) : Prop where
  go : ∀ r, T ⟨c ++ r, 0⟩ = ⟨r, 0⟩
  cut : ∀ n, n < c.length → (T ⟨c.take n, 0⟩).e = 3
def Stays (T : St → St) : Prop := ∀ s, s.e ≠ 0 → T s = s
theorem Stays.comp {T U : St → St} (h : Stays T) (k : Stays U) : Stays (fun s => U (T s)) := fun s hs => by
  show U (T s) = s
  rw [h s hs, k s hs]
theorem Rd.comp {T U : St → St} {c d : List UInt8} (h : Rd T c) (k : Rd U d) (hu : Stays U) : Rd (fun s => U (T s)) (c ++ d) where
  go r := by
    show U (T ⟨c ++ d ++ r, 0⟩) = _
    rw [List.append_assoc, h.go, k.go]
  cut n hn := by
    show (U (T ⟨(c ++ d).take n, 0⟩)).e = 3
    rw [List.length_append] at hn
    by_cases h1 : n < c.length
    · rw [List.take_append_of_le_length (by omega)]
      have := h.cut n h1
      rw [hu _ (by rw [this]; decide)]
      exact this
    · rw [List.take_append, List.take_of_length_le (by omega), h.go]
      exact k.cut _ (by omega)
theorem bytS_stay (s : St) (m : Int) (h : s.e ≠ 0) : s.bytS m = s := by
  unfold St.bytS
  rw [cntS_stay s _ h]
  exact (take_err s _ h).2
theorem keyS_stay (s : St) (m : Int) (h : s.e ≠ 0) : s.keyS m = s := by
  unfold St.keyS
  rw [cntS_stay s _ h]
  exact (take_err s _ h).2
theorem num_val (n k : Nat) (hk : isNum k = true) (hn : n < 256 ^ k) (r : List UInt8) : St.num ⟨(lowB n k).reverse ++ r, 0⟩ k = n := by
  have h8 := inNum_shape k hk
  obtain ⟨d1, d2⟩ := take_ok (lowB n k).reverse r k (high_length _ _).symm
  unfold St.num
  rw [if_pos hk, Int.toNat_natCast, d1, List.take_of_length_le (by rw [high_length]; omega), of_high _ _ hn]
theorem num_rd (n k : Nat) (hk : isNum k = true) : Rd (fun s => s.numS k) (lowB n k).reverse where
  go r := by
    obtain ⟨d1, d2⟩ := take_ok (lowB n k).reverse r k (high_length _ _).symm
    show St.numS _ _ = _
    unfold St.numS
    rw [if_pos hk, Int.toNat_natCast, d2]
  cut j hj := by
    rw [high_length] at hj
    show (St.numS _ _).e = 3
    unfold St.numS
    rw [if_pos hk, Int.toNat_natCast, rest_short _ _ (by rw [List.length_take, high_length]; omega)]
theorem byt_val (b r : List UInt8) (m : Int) (h1 : (b.length : Int) ≤ m) (h2 : b.length ≤ 4000) : St.byt ⟨(lowB b.length 2).reverse ++ b ++ r, 0⟩ m = b := by
  unfold St.byt
  obtain ⟨c1, c2⟩ := two_cnt [] (b ++ r) b.length (min m 4000) (by omega) (by omega)
  rw [List.append_assoc, c1, c2]
  exact (take_ok b r b.length rfl).1
theorem byt_rd (b : List UInt8) (m : Int) (h1 : (b.length : Int) ≤ m) (h2 : b.length ≤ 4000) : Rd (fun s => s.bytS m) ((lowB b.length 2).reverse ++ b) where
  go r := by
    show St.bytS _ _ = _
    unfold St.bytS
    obtain ⟨c1, c2⟩ := two_cnt [] (b ++ r) b.length (min m 4000) (by omega) (by omega)
    rw [List.append_assoc, c1, c2]
    exact (take_ok b r b.length rfl).2
  cut n hn := by
    show (St.bytS _ _).e = 3
    unfold St.bytS
    rw [List.length_append, high_length] at hn
    by_cases h3 : n < 2
    · rcases short_cnt (((lowB b.length 2).reverse ++ b).take n) (min m 4000) (take_high _ _ _ h3) with e | ⟨s, e, e2⟩
      · rw [e, (take_err _ _ (by decide)).2]
      · rw [e, (take_err _ _ (by rw [e2]; decide)).2, e2]
    · rw [take_past _ _ _ (by omega)]
      obtain ⟨c1, c2⟩ := two_cnt [] (b.take (n - 2)) b.length (min m 4000) (by omega) (by omega)
      rw [c1, c2, rest_short _ _ (by rw [List.length_take]; omega)]
theorem key_val (ls : List (List UInt8)) (h32 : ∀ l ∈ ls, l.length = 32) (r : List UInt8) (m : Int) (h1 : (ls.length : Int) ≤ m) (h2 : ls.length ≤ 100) : St.keys ⟨(lowB ls.length 2).reverse ++ ls.flatten ++ r, 0⟩ m = ls := by
  have hfl := flat_len32 ls h32
  unfold St.keys St.keyB
  obtain ⟨c1, c2⟩ := two_cnt [] (ls.flatten ++ r) ls.length (min m 100) (by omega) (by omega)
  rw [List.append_assoc, c1, c2]
  obtain ⟨d1, d2⟩ := take_ok ls.flatten r (32 * ls.length) (by rw [hfl]; omega)
  rw [d1, hfl, show ls.length * 32 / 32 = ls.length by omega, cut_flat ls h32]
theorem key_rd (ls : List (List UInt8)) (h32 : ∀ l ∈ ls, l.length = 32) (m : Int) (h1 : (ls.length : Int) ≤ m) (h2 : ls.length ≤ 100) : Rd (fun s => s.keyS m) ((lowB ls.length 2).reverse ++ ls.flatten) where
  go r := by
    show St.keyS _ _ = _
    unfold St.keyS
    have hfl := flat_len32 ls h32
    obtain ⟨c1, c2⟩ := two_cnt [] (ls.flatten ++ r) ls.length (min m 100) (by omega) (by omega)
    rw [List.append_assoc, c1, c2]
    exact (take_ok ls.flatten r (32 * ls.length) (by rw [hfl]; omega)).2
  cut n hn := by
    show (St.keyS _ _).e = 3
    unfold St.keyS
    have hfl := flat_len32 ls h32
    rw [List.length_append, high_length, hfl] at hn
    by_cases h3 : n < 2
    · rcases short_cnt (((lowB ls.length 2).reverse ++ ls.flatten).take n) (min m 100) (take_high _ _ _ h3) with e | ⟨s, e, e2⟩
      · rw [e, (take_err _ _ (by decide)).2]
      · rw [e, (take_err _ _ (by rw [e2]; decide)).2, e2]
    · rw [take_past _ _ _ (by omega)]
      obtain ⟨c1, c2⟩ := two_cnt [] (ls.flatten.take (n - 2)) ls.length (min m 100) (by omega) (by omega)
      rw [c1, c2, rest_short _ _ (by rw [List.length_take, hfl]; omega)]
/-! What was read is what would be written. -/
theorem num_back (s : St) (k : Nat) (hk : isNum k = true) (h : (s.numS k).e = 0) : s.e = 0 ∧ s.l = (lowB (s.num k) k).reverse ++ (s.numS k).l ∧ s.num k < 256 ^ k := by
  obtain ⟨q1, q2, q3, q4⟩ := num_read s k hk h
  have hl : (s.l.take k).length = k := List.length_take_of_le q2
  have h1 := ofHighB_lt (s.l.take k)
  have h2 := high_of (s.l.take k)
  rw [hl] at h1 h2
  rw [q3, h2, q4]
  exact ⟨q1, (List.take_append_drop _ _).symm, h1⟩
theorem byt_back (s : St) (m : Int) (h : (s.bytS m).e = 0) : s.e = 0 ∧ s.l = (lowB (s.byt m).length 2).reverse ++ s.byt m ++ (s.bytS m).l ∧ ((s.byt m).length : Int) ≤ m := by
  unfold St.bytS at h ⊢
  unfold St.byt
  rcases rest_cases (s.cntS (min m 4000)) (s.cnt (min m 4000)) with ⟨h1, h2, h3, h4⟩ | ⟨h1, _⟩
  · obtain ⟨q1, q2, q3, q4, q5, q6⟩ := cnt_read s _ h1
    rw [h3, h4, q4]
    rw [q6, q4] at h2
    rw [q6]
    simp only at h2 ⊢
    have hl : ((s.l.drop 2).take (s.num 2)).length = s.num 2 := List.length_take_of_le h2
    refine ⟨q1, ?_, by rw [hl]; omega⟩
    rw [hl, q5, head_two s q2, List.append_assoc, ← q5, List.take_append_drop, List.take_append_drop]
  · exact absurd h h1
theorem key_back (s : St) (m : Int) (h : (s.keyS m).e = 0) : s.e = 0 ∧ s.l = (lowB (s.keys m).length 2).reverse ++ (s.keys m).flatten ++ (s.keyS m).l ∧ ((s.keys m).length : Int) ≤ m := by
  unfold St.keyS at h ⊢
  unfold St.keys St.keyB
  rcases rest_cases (s.cntS (min m 100)) (32 * s.cnt (min m 100)) with ⟨h1, h2, h3, h4⟩ | ⟨h1, _⟩
  · obtain ⟨q1, q2, q3, q4, q5, q6⟩ := cnt_read s _ h1
    rw [h3, h4, q4]
    rw [q6, q4] at h2
    rw [q6]
    simp only at h2 ⊢
    have hl : ((s.l.drop 2).take (32 * s.num 2)).length = 32 * s.num 2 := List.length_take_of_le h2
    obtain ⟨f1, f2, _⟩ := flat_cut (s.num 2) _ hl
    rw [hl, Nat.mul_div_cancel_left _ (by omega), f2, f1]
    refine ⟨q1, ?_, by omega⟩
    rw [q5, head_two s q2, List.append_assoc, ← q5, List.take_append_drop, List.take_append_drop]
  · exact absurd h h1
end Go.Proofs.Ytmhhjdiilmgmoaa
end
section
namespace Go.Proofs.Ytmhhjdiilmgmoaa
open Go.RowKit
set_option linter.unusedVariables false
set_option maxRecDepth 20000

/-- A frame that may be sent: its keys' lengths. -/
def Fr.Good (f : Fr) : Prop := f.Ok ∧ ∀ l ∈ f.sign, l.length = 32
def tri (f : Fr) : List (List UInt8) := [f.eph, f.epoch, f.next]
theorem tri32 {f : Fr} (h : f.Ok) : ∀ l ∈ tri f, l.length = 32 := by
  intro l hl
  simp only [tri, List.mem_cons, List.not_mem_nil, or_false] at hl
  rcases hl with rfl | rfl | rfl
  · exact h.eph
  · exact h.epoch
  · exact h.next
/-- All of a frame's bytes, part by part. -/
theorem encB_parts (f : Fr) : encB f = (lowB 1 1).reverse ++ ((lowB f.n 4).reverse ++ ((lowB f.ack 4).reverse ++ (((lowB 3 2).reverse ++ (tri f).flatten) ++ (((lowB f.box.length 2).reverse ++ f.box) ++ ((lowB f.sign.length 2).reverse ++ f.sign.flatten))))) := by
  simp [encB, coreB, tri, List.append_assoc]
def rdT6 (s : St) : St := s.keyS 67
def rdT5 (s : St) : St := rdT6 (s.bytS 264)
def rdT4 (s : St) : St := rdT5 (s.keyS 3)
def rdT3 (s : St) : St := rdT4 (s.numS ((4 : Nat) : Int))
def rdT2 (s : St) : St := rdT3 (s.numS ((4 : Nat) : Int))
def rdT (s : St) : St := rdT2 (s.numS ((1 : Nat) : Int))
theorem rdS6_eq (b : List UInt8) : rdS6 b = rdT ⟨b, 0⟩ := by
  unfold rdS6 rdS5 rdS4 rdS3 rdS2 rdS1 rdS0 rdT rdT2 rdT3 rdT4 rdT5 rdT6
  rfl
theorem st6 : Stays rdT6 := fun s hs => keyS_stay s 67 hs
theorem st5 : Stays rdT5 := fun s hs => by unfold rdT5; rw [bytS_stay s 264 hs]; exact st6 s hs
theorem st4 : Stays rdT4 := fun s hs => by unfold rdT4; rw [keyS_stay s 3 hs]; exact st5 s hs
theorem st3 : Stays rdT3 := fun s hs => by unfold rdT3; rw [numS_stay s _ hs]; exact st4 s hs
theorem st2 : Stays rdT2 := fun s hs => by unfold rdT2; rw [numS_stay s _ hs]; exact st3 s hs
theorem rdT_rd {f : Fr} (h : checkE f = 0) (hg : f.Good) : Rd rdT (encB f) := by
  obtain ⟨h1, h2⟩ := check_zero h
  obtain ⟨a1, a2, a3, a4, a5⟩ := shape_zero h1
  rw [encB_parts]
  have e6 : Rd rdT6 _ := key_rd f.sign hg.2 67 (by omega) (by omega)
  have e5 : Rd rdT5 _ := (byt_rd f.box 264 (by omega) (by omega)).comp e6 st6
  have e4 : Rd rdT4 _ := (key_rd (tri f) (tri32 hg.1) 3 (by simp [tri]) (by simp [tri])).comp e5 st5
  have e3 : Rd rdT3 _ := (num_rd f.ack 4 rfl).comp e4 st4
  have e2 : Rd rdT2 _ := (num_rd f.n 4 rfl).comp e3 st3
  have e1 : Rd rdT _ := (num_rd 1 1 rfl).comp e2 st2
  exact e1
theorem encB_length {f : Fr} (h : checkE f = 0) (hg : f.Good) : (encB f).length = f.box.length + 2255 ∧ (encB f).length ≤ 2519 := by
  obtain ⟨h1, h2⟩ := check_zero h
  obtain ⟨a1, a2, a3, a4, a5⟩ := shape_zero h1
  have := coreB_length hg.1
  rw [encB, List.length_append, List.length_append, List.length_reverse, lowB_length, flat_len32 _ hg.2, h2]
  omega
/-- The values that are read of a frame's bytes, whatever stands behind. -/
theorem rd_vals {f : Fr} (h : checkE f = 0) (hg : f.Good) (r : List UInt8) : rdM (encB f ++ r) = 1 ∧ rdK (encB f ++ r) = tri f ∧ rdF (encB f ++ r) = f := by
  obtain ⟨h1, h2⟩ := check_zero h
  obtain ⟨a1, a2, a3, a4, a5⟩ := shape_zero h1
  obtain ⟨p5, e5⟩ : ∃ p5, p5 = ((lowB f.sign.length 2).reverse ++ f.sign.flatten) ++ r := ⟨_, rfl⟩
  obtain ⟨p4, e4⟩ : ∃ p4, p4 = ((lowB f.box.length 2).reverse ++ f.box) ++ p5 := ⟨_, rfl⟩
  obtain ⟨p3, e3⟩ : ∃ p3, p3 = ((lowB (tri f).length 2).reverse ++ (tri f).flatten) ++ p4 := ⟨_, rfl⟩
  obtain ⟨p2, e2⟩ : ∃ p2, p2 = (lowB f.ack 4).reverse ++ p3 := ⟨_, rfl⟩
  obtain ⟨p1, e1⟩ : ∃ p1, p1 = (lowB f.n 4).reverse ++ p2 := ⟨_, rfl⟩
  have e0 : encB f ++ r = (lowB 1 1).reverse ++ p1 := by
    rw [encB_parts, e1, e2, e3, e4, e5]
    simp [tri, List.append_assoc]
  rw [e0]
  have s1 : rdS1 ((lowB 1 1).reverse ++ p1) = ⟨p1, 0⟩ := (num_rd 1 1 rfl).go p1
  have s2 : rdS2 ((lowB 1 1).reverse ++ p1) = ⟨p2, 0⟩ := by
    unfold rdS2
    rw [s1, e1]
    exact (num_rd f.n 4 rfl).go p2
  have s3 : rdS3 ((lowB 1 1).reverse ++ p1) = ⟨p3, 0⟩ := by
    unfold rdS3
    rw [s2, e2]
    exact (num_rd f.ack 4 rfl).go p3
  have s4 : rdS4 ((lowB 1 1).reverse ++ p1) = ⟨p4, 0⟩ := by
    unfold rdS4
    rw [s3, e3]
    exact (key_rd (tri f) (tri32 hg.1) 3 (by simp [tri]) (by simp [tri])).go p4
  have s5 : rdS5 ((lowB 1 1).reverse ++ p1) = ⟨p5, 0⟩ := by
    unfold rdS5
    rw [s4, e4]
    exact (byt_rd f.box 264 (by omega) (by omega)).go p5
  have k : rdK ((lowB 1 1).reverse ++ p1) = tri f := by
    unfold rdK
    rw [s3, e3]
    exact key_val (tri f) (tri32 hg.1) p4 3 (by simp [tri]) (by simp [tri])
  refine ⟨?_, k, ?_⟩
  · unfold rdM rdS0
    exact num_val 1 1 rfl (by decide) p1
  · simp only [rdF, rdF0]
    rw [k, s1, s2, s4, s5, e1, e2, e4, e5]
    rw [show St.num ⟨(lowB f.n 4).reverse ++ ((lowB f.ack 4).reverse ++ p3), 0⟩ 4 = f.n from num_val f.n 4 rfl (by omega) _]
    rw [show St.num ⟨(lowB f.ack 4).reverse ++ p3, 0⟩ 4 = f.ack from num_val f.ack 4 rfl (by omega) _]
    rw [show St.byt ⟨(lowB f.box.length 2).reverse ++ f.box ++ ((lowB f.sign.length 2).reverse ++ f.sign.flatten ++ r), 0⟩ 264 = f.box from byt_val f.box _ 264 (by omega) (by omega)]
    rw [show St.keys ⟨(lowB f.sign.length 2).reverse ++ f.sign.flatten ++ r, 0⟩ 67 = f.sign from key_val f.sign hg.2 r 67 (by omega) (by omega)]
    rfl
theorem wrong_one (e m : Int) (k M K : Int) (h : e ≠ 0) : wrongE e m k M K = e := if_pos h
theorem dec_enc {f : Fr} (h : checkE f = 0) (hg : f.Good) : decE (encB f) = 0 ∧ decF (encB f) = f := by
  obtain ⟨v1, v2, v3⟩ := rd_vals h hg []
  rw [List.append_nil] at v1 v2 v3
  have s6 : rdS6 (encB f) = ⟨[], 0⟩ := by
    have := (rdT_rd h hg).go []
    rw [List.append_nil] at this
    rw [rdS6_eq, this]
  have w : rdW (encB f) = 0 := by
    unfold rdW
    rw [s6, v1, v2]; rfl
  have d : decE (encB f) = 0 := by
    unfold decE
    rw [if_neg (by have := (encB_length h hg).2; omega), w, v3, h]; rfl
  exact ⟨d, by unfold decF; rw [if_pos d, v3]⟩
theorem dec_more {f : Fr} (h : checkE f = 0) (hg : f.Good) (x : UInt8) : decE (encB f ++ [x]) = 50 := by
  have s6 : rdS6 (encB f ++ [x]) = ⟨[x], 0⟩ := by rw [rdS6_eq, (rdT_rd h hg).go [x]]
  have w : rdW (encB f ++ [x]) = 50 := by
    unfold rdW
    rw [s6]; rfl
  unfold decE
  rw [if_neg (by have := (encB_length h hg).2; rw [List.length_append]; simp; omega), w]; rfl
theorem dec_less {f : Fr} (h : checkE f = 0) (hg : f.Good) (n : Nat) (hn : n < (encB f).length) : decE ((encB f).take n) = 3 := by
  have s6 : (rdS6 ((encB f).take n)).e = 3 := by rw [rdS6_eq, (rdT_rd h hg).cut n hn]
  have w : rdW ((encB f).take n) = 3 := by
    unfold rdW
    rw [show (rdS6 ((encB f).take n)).fin = 3 by unfold St.fin; rw [s6]; rfl]; rfl
  unfold decE
  rw [if_neg (by have := (encB_length h hg).2; rw [List.length_take]; omega), w]; rfl
theorem wrong_other (e : Int) (m k M K : Int) (h : m ≠ M) : wrongE e m k M K ≠ 0 := by
  unfold wrongE
  split
  · assumption
  · rw [if_pos (.inl h)]; decide
theorem enc_no_bundle {f : Fr} (h : checkE f = 0) (hg : f.Good) : bdW (encB f) ≠ 0 := by
  have v1 := (rd_vals h hg []).1
  rw [List.append_nil] at v1
  unfold bdW
  rw [v1]
  exact wrong_other _ _ _ _ _ (by decide)
theorem rdM_of_dec {b : List UInt8} (h : decE b = 0) : rdM b = 1 ∧ (rdK b).length = 3 ∧ (rdS6 b).fin = 0 ∧ checkE (rdF b) = 0 ∧ b.length ≤ 8000 := by
  unfold decE at h
  by_cases h1 : 8000 < b.length
  · rw [if_pos h1] at h; cases h
  · rw [if_neg h1] at h
    by_cases h2 : rdW b = 0
    · rw [if_neg (by simpa using h2)] at h
      unfold rdW wrongE at h2
      by_cases h3 : (rdS6 b).fin = 0
      · rw [if_neg (by simpa using h3)] at h2
        by_cases h4 : (rdM b : Int) ≠ 1 ∨ ((rdK b).length : Int) ≠ 3
        · rw [if_pos h4] at h2; cases h2
        · refine ⟨?_, ?_, h3, h, by omega⟩
          · have : (rdM b : Int) = 1 := by simpa using fun e => h4 (.inl e)
            omega
          · have : ((rdK b).length : Int) = 3 := by simpa using fun e => h4 (.inr e)
            omega
      · rw [if_pos (by simpa using h3)] at h2; exact absurd h2 h3
    · rw [if_pos (by simpa using h2)] at h; exact absurd h h2
theorem dec_no_bundle {b : List UInt8} (h : decE b = 0) : bdW b ≠ 0 := by
  unfold bdW
  rw [(rdM_of_dec h).1]
  exact wrong_other _ _ _ _ _ (by decide)
/-- What is read is written. -/
theorem enc_dec {b : List UInt8} (h : decE b = 0) : encO (decF b) = b := by
  obtain ⟨h1, h2, h3, h4, h5⟩ := rdM_of_dec h
  have hf : decF b = rdF b := by unfold decF; rw [if_pos h]
  rw [hf]
  unfold encO
  rw [if_pos h4]
  obtain ⟨e6, l6⟩ := (fin_zero _).1 h3
  unfold rdS6 at e6 l6
  obtain ⟨e5, b5, _⟩ := key_back _ 67 e6
  unfold rdS5 at e5
  obtain ⟨e4, b4, _⟩ := byt_back _ 264 e5
  unfold rdS4 at e4
  obtain ⟨e3, b3, _⟩ := key_back _ 3 e4
  unfold rdS3 at e3
  obtain ⟨e2, b2, _⟩ := num_back _ 4 rfl e3
  unfold rdS2 at e2
  obtain ⟨e1, b1, _⟩ := num_back _ 4 rfl e2
  unfold rdS1 at e1
  obtain ⟨e0, b0, _⟩ := num_back _ 1 rfl e1
  rw [l6, List.append_nil] at b5
  have q0 : b = (lowB (rdM b) 1).reverse ++ (rdS1 b).l := b0
  have q1 : (rdS1 b).l = (lowB ((rdS1 b).num 4) 4).reverse ++ (rdS2 b).l := b1
  have q2 : (rdS2 b).l = (lowB ((rdS2 b).num 4) 4).reverse ++ (rdS3 b).l := b2
  have q3 : (rdS3 b).l = (lowB (rdK b).length 2).reverse ++ (rdK b).flatten ++ (rdS4 b).l := b3
  have q4 : (rdS4 b).l = (lowB ((rdS4 b).byt 264).length 2).reverse ++ (rdS4 b).byt 264 ++ (rdS5 b).l := b4
  have q5 : (rdS5 b).l = (lowB ((rdS5 b).keys 67).length 2).reverse ++ ((rdS5 b).keys 67).flatten := b5
  have kt : rdK b = tri (rdF b) := by
    have h3k : ∀ ks : List (List UInt8), ks.length = 3 → ks = [keyI ks 0, keyI ks 1, keyI ks 2] := by
      intro ks hk
      match ks, hk with
      | [x, y, z], _ => rfl
    exact h3k _ h2
  rw [h1] at q0
  rw [h2] at q3
  rw [encB_parts]
  have fn : (rdF b).n = (rdS1 b).num 4 := by simp only [rdF, rdF0]
  have fa : (rdF b).ack = (rdS2 b).num 4 := by simp only [rdF, rdF0]
  have fb : (rdF b).box = (rdS4 b).byt 264 := by simp only [rdF, rdF0]
  have fs : (rdF b).sign = (rdS5 b).keys 67 := by simp only [rdF, rdF0]
  rw [fn, fa, fb, fs, ← kt]
  conv => rhs; rw [q0, q1, q2, q3, q4, q5]
theorem encB_inj {f g : Fr} (hf : checkE f = 0) (hg : checkE g = 0) (gf : f.Good) (gg : g.Good) (h : encB f = encB g) : f = g := by
  rw [← (dec_enc hf gf).2, ← (dec_enc hg gg).2, h]
theorem checkE_sign {f g : Fr} (hf : checkE f = 0) (hg : checkE g = 0) : checkE { g with sign := f.sign } = 0 := by
  obtain ⟨h1, h2⟩ := check_zero hf
  obtain ⟨h3, h4⟩ := check_zero hg
  unfold checkE
  have e : shapeE { g with sign := f.sign } = shapeE g := rfl
  rw [e, h3]
  simp [h2]
theorem coreB_inj {f g : Fr} (hf : checkE f = 0) (hg : checkE g = 0) (gf : f.Good) (gg : g.Good) (h : coreB f = coreB g) : f = { g with sign := f.sign } := by
  refine encB_inj hf (checkE_sign hf hg) gf ⟨⟨gg.1.n, gg.1.ack, gg.1.eph, gg.1.epoch, gg.1.next⟩, gf.2⟩ ?_
  show coreB f ++ _ = coreB g ++ _
  rw [h]
theorem coreB_sign (g : Fr) (s : List (List UInt8)) : coreB { g with sign := s } = coreB g := rfl
/-! Bundles. -/
def bdT : St → St := fun s => ((s.numS ((1 : Nat) : Int)).keyS 4)
theorem bdS2_eq (b : List UInt8) : bdS2 b = bdT ⟨b, 0⟩ := by simp only [bdS2, bdS1, rdS0, bdT]; rfl
theorem bun_parts {ks : List (List UInt8)} (h : BuOk ks) : bunB ks = (lowB 2 1).reverse ++ ((lowB ks.length 2).reverse ++ ks.flatten) := by rw [h.1]; rfl
theorem bdT_rd {ks : List (List UInt8)} (h : BuOk ks) : Rd bdT (bunB ks) := by
  rw [bun_parts h]
  exact (num_rd 2 1 rfl).comp (key_rd ks h.2 4 (by rw [h.1]; omega) (by rw [h.1]; omega)) (fun s hs => keyS_stay s 4 hs)
theorem bd_vals {ks : List (List UInt8)} (h : BuOk ks) (r : List UInt8) : rdM (bunB ks ++ r) = 2 ∧ bdK (bunB ks ++ r) = ks := by
  have e0 : bunB ks ++ r = (lowB 2 1).reverse ++ ((lowB ks.length 2).reverse ++ ks.flatten ++ r) := by rw [bun_parts h, List.append_assoc]
  rw [e0]
  refine ⟨?_, ?_⟩
  · unfold rdM rdS0
    exact num_val 2 1 rfl (by decide) _
  · unfold bdK
    rw [show bdS1 ((lowB 2 1).reverse ++ ((lowB ks.length 2).reverse ++ ks.flatten ++ r)) = ⟨_, 0⟩ from (num_rd 2 1 rfl).go _]
    exact key_val ks h.2 r 4 (by rw [h.1]; omega) (by rw [h.1]; omega)
theorem bd_enc {ks : List (List UInt8)} (h : BuOk ks) : bdW (bunB ks) = 0 ∧ bdF (bunB ks) = ks := by
  obtain ⟨v1, v2⟩ := bd_vals h []
  rw [List.append_nil] at v1 v2
  have s : bdS2 (bunB ks) = ⟨[], 0⟩ := by
    have := (bdT_rd h).go []
    rw [List.append_nil] at this
    rw [bdS2_eq, this]
  have w : bdW (bunB ks) = 0 := by
    unfold bdW
    rw [s, v1, v2, h.1]; rfl
  exact ⟨w, by unfold bdF; rw [if_pos w, v2]⟩
theorem bd_more {ks : List (List UInt8)} (h : BuOk ks) (x : UInt8) : bdW (bunB ks ++ [x]) = 50 := by
  unfold bdW
  rw [bdS2_eq, (bdT_rd h).go [x]]; rfl
theorem bd_less {ks : List (List UInt8)} (h : BuOk ks) (n : Nat) (hn : n < (bunB ks).length) : bdW ((bunB ks).take n) = 3 := by
  have s := (bdT_rd h).cut n hn
  unfold bdW
  rw [bdS2_eq, show (bdT ⟨(bunB ks).take n, 0⟩).fin = 3 by unfold St.fin; rw [s]; rfl]; rfl
theorem bun_no_frame {ks : List (List UInt8)} (h : BuOk ks) : decE (bunB ks) ≠ 0 := fun e => by
  have v1 := (bd_vals h []).1
  rw [List.append_nil] at v1
  rw [(rdM_of_dec e).1] at v1
  cases v1
theorem bunB_inj {ks js : List (List UInt8)} (h : BuOk ks) (k : BuOk js) (e : bunB ks = bunB js) : ks = js := by
  rw [← (bd_enc h).2, ← (bd_enc k).2, e]
theorem bun_dec {b : List UInt8} (h : bdW b = 0) : bunB (bdF b) = b := by
  have hf : bdF b = bdK b := by unfold bdF; rw [if_pos h]
  rw [hf]
  unfold bdW wrongE at h
  by_cases h3 : (bdS2 b).fin = 0
  · rw [if_neg (by simpa using h3)] at h
    by_cases h4 : (rdM b : Int) ≠ 2 ∨ ((bdK b).length : Int) ≠ 4
    · rw [if_pos h4] at h; cases h
    · have m : rdM b = 2 := by
        have : (rdM b : Int) = 2 := by simpa using fun e => h4 (.inl e)
        omega
      have k4 : (bdK b).length = 4 := by
        have : ((bdK b).length : Int) = 4 := by simpa using fun e => h4 (.inr e)
        omega
      obtain ⟨e6, l6⟩ := (fin_zero _).1 h3
      unfold bdS2 at e6 l6
      obtain ⟨e5, b5, _⟩ := key_back _ 4 e6
      unfold bdS1 at e5
      obtain ⟨e0, b0, _⟩ := num_back _ 1 rfl e5
      rw [l6, List.append_nil] at b5
      have q0 : b = (lowB (rdM b) 1).reverse ++ (bdS1 b).l := b0
      have q1 : (bdS1 b).l = (lowB (bdK b).length 2).reverse ++ (bdK b).flatten := b5
      rw [m, q1, k4] at q0
      exact q0.symm
  · rw [if_pos (by simpa using h3)] at h; exact absurd h h3
end Go.Proofs.Ytmhhjdiilmgmoaa
end
