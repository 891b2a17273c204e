/-
  Texts that belong together, merged: MapKey, E, ShaZ, A, Same. Conditions: as each theorem names them.
-/
import Derived.Test.YtckpnkohaaebdaaDoorQShmAA
import Derived.Test.YtckpnkohaaebdaaDoorQShmAF
import Derived.MapKept
import Derived.Deep.RegionLaw
import Derived.Test.YtckpnkohaaebdaaDoorChecked
import Derived.WalkKit
import Derived.LoopTactic
import Derived.RegionTactic
import Derived.Deep.QuietTactic
import Derived.BigQuiet
import Derived.Outline
import Derived.WalkSpells
section
namespace Go.Proofs.YtckpnkohaaebdaaDoor
open Go.RowKit
set_option linter.unusedVariables false
set_option maxRecDepth 20000

/-- The first number that stands beside k. -/
def findM (k : List UInt8) : List (List UInt8 × Nat) → Option Nat
  | [] => none
  | p :: m => if k == p.1 then some p.2 else findM k m
def entE (p : List UInt8 × Nat) : Value × Value := (.agg (keyC p.1), .int .i64 (p.2 : Int))
/-- The map at g: its keys and numbers, in the order in which they came. -/
def MapAt (w : World) (g : Nat) (m : List (List UInt8 × Nat)) : Prop :=
  ∃ (es : Array MapEntry) (c : Nat), w.heap[g]? = some (.map es c) ∧ es.toList.map (fun e => (e.key, e.val)) = m.map entE ∧ ∀ p ∈ m, p.1.length = 32
theorem MapAt.lt {w : World} {g : Nat} {m : List (List UInt8 × Nat)} (h : MapAt w g m) : g < w.heap.size := by
  obtain ⟨_, _, h, _⟩ := h
  exact (Array.getElem?_eq_some_iff.1 h).1
theorem MapAt.kept {w w' : World} {g : Nat} {m : List (List UInt8 × Nat)} (h : MapAt w g m) (hb : Below w.heap.size w w') : MapAt w' g m := by
  have hl := h.lt
  obtain ⟨es, c, h1, h2⟩ := h
  exact ⟨es, c, (hb.block g hl).trans h1, h2⟩
theorem MapAt.grown {w w' : World} {g : Nat} {m : List (List UInt8 × Nat)} {row : Option Nat} (h : MapAt w g m) (hb : w.grownBy w' row) (hg : some g ≠ row) : MapAt w' g m := by
  have hl := h.lt
  obtain ⟨es, c, h1, h2⟩ := h
  exact ⟨es, c, (hb.block g hl hg).trans h1, h2⟩
section
variable {P : Program} {kt b : TypeId}
theorem run_checkKey (w : World) (em : Bool) (hk : P.underlying kt = some (.array 32 b)) (hb : P.underlying b = some (.int .u8)) (hs : ∀ w, (sizeOf b).run P w = .ok 1 w) (k : List UInt8) (hl : k.length = 32) :
    (Instr.checkKey em 10000 kt (.agg (keyC k))).run P w = .ok () w := by
  rw [Instr.checkKey]
  simp only [Sem.run_bind, Sem.run_pure, run_underlying hk, Result.andThen_ok, Std.Legacy.Range.forIn_eq_forIn_range', Std.Legacy.Range.size, Nat.sub_zero, Nat.add_sub_cancel, Nat.div_one]
  have hin : ∀ i ∈ List.range' 0 32 1, i < 32 := fun i hi => by
    have := (List.mem_range'_1.1 hi).2
    omega
  generalize List.range' 0 32 1 = r at hin ⊢
  induction r with
  | nil => simp
  | cons i r ih =>
    have hi : i < 32 := hin i (by simp)
    have at_ : (part b (keyC k) (i * 1)).run P w = .ok (.int .u8 ((k[i]'(by omega)).toNat : Int)) w := by
      have : (keyC k)[i]? = some (.int .u8 ((k[i]'(by omega)).toNat : Int)) := by
        rw [keyC, List.getElem?_toArray, cellsB_get k i (by omega)]
      simp [part, isAgg, run_underlying hb, this]
    have one : (Instr.checkKey em 9999 b (.int .u8 ((k[i]'(by omega)).toNat : Int))).run P w = .ok () w := by
      rw [Instr.checkKey]
      simp [Sem.run_bind, run_underlying hb]
    simp only [List.forIn_cons, Sem.run_bind, hs, at_, one, Result.andThen_ok, Sem.run_pure]
    exact ih fun j hj => hin j (List.mem_cons_of_mem _ hj)
theorem run_findAsking (w : World) (hq : ∀ x y : List UInt8, x.length = 32 → y.length = 32 → (Op.equal kt (.agg (keyC x)) (.agg (keyC y))).run P w = .ok (x == y) w) (k : List UInt8) (hl : k.length = 32) :
    ∀ (m : List (List UInt8 × Nat)) (es : List MapEntry) (i : Nat), es.map (fun e => (e.key, e.val)) = m.map entE → (∀ p ∈ m, p.1.length = 32) →
      ∃ r, (Instr.findAsking kt (.agg (keyC k)) es i).run P w = .ok r w ∧ r.map (·.2) = (findM k m).map fun j => Value.int .i64 (j : Int) := by
  intro m
  induction m with
  | nil =>
    intro es i he hm
    have : es = [] := by simpa using he
    subst this
    exact ⟨none, by simp [Instr.findAsking], rfl⟩
  | cons p m ih =>
    intro es i he hm
    match es, he with
    | e :: es, he =>
      simp only [List.map_cons, List.cons.injEq] at he
      obtain ⟨h1, h2⟩ := he
      have hk : e.key = .agg (keyC p.1) := congrArg (·.1) h1
      have hv : e.val = .int .i64 (p.2 : Int) := congrArg (·.2) h1
      have q := hq k p.1 hl (hm p (by simp))
      rw [Instr.findAsking]
      simp only [Sem.run_bind, hk, q, Result.andThen_ok, findM]
      by_cases hb : k = p.1
      · refine ⟨some (i, e.val), by simp [hb], by simp [hb, hv]⟩
      · obtain ⟨r, hr, hr2⟩ := ih es (i + 1) h2 fun x hx => hm x (List.mem_cons_of_mem _ hx)
        refine ⟨r, by simp [hb, hr], by simp [hb, hr2]⟩
theorem run_findKey (w : World) (hk : P.underlying kt = some (.array 32 b)) (hq : ∀ x y : List UInt8, x.length = 32 → y.length = 32 → (Op.equal kt (.agg (keyC x)) (.agg (keyC y))).run P w = .ok (x == y) w) (k : List UInt8) (hl : k.length = 32)
    (m : List (List UInt8 × Nat)) (es : List MapEntry) (he : es.map (fun e => (e.key, e.val)) = m.map entE) (hm : ∀ p ∈ m, p.1.length = 32) :
    ∃ r, (Instr.findKey kt (.agg (keyC k)) es).run P w = .ok r w ∧ r.map (·.2) = (findM k m).map fun j => Value.int .i64 (j : Int) := by
  unfold Instr.findKey
  simp only [Sem.run_bind, run_underlying hk, Result.andThen_ok]
  match m, es, he with
  | [], [], _ => exact ⟨none, by simp [Instr.findNow], rfl⟩
  | p :: m, e :: es, he =>
    have h1 : e.key = .agg (keyC p.1) := by
      simp only [List.map_cons, List.cons.injEq] at he
      exact congrArg (·.1) he.1
    have : Instr.findNow (.array 32 b) (.agg (keyC k)) (e :: es) 0 = none := by
      simp [Instr.findNow, Instr.sameNow]
    rw [this]
    exact run_findAsking w hq k hl (p :: m) (e :: es) 0 he hm
/-- What a look-up hands back. -/
def seenM (k : List UInt8) (m : List (List UInt8 × Nat)) : Value := match findM k m with
  | some j => .tuple #[.int .i64 (j : Int), .bool true]
  | none => .tuple #[.int .i64 0, .bool false]
theorem run_lookK {w : World} {o : Oper} {a : Act} {mt et : TypeId} (x y : Operand) (ho : o.op = .lookup mt x y true) (g : Nat) (m : List (List UInt8 × Nat)) (k : List UInt8) (hl : k.length = 32) (hx : a.eval x = .map (some g)) (hy : a.eval y = .agg (keyC k)) (hM : MapAt w g m)
    (hmt : P.underlying mt = some (.map kt et)) (hk : P.underlying kt = some (.array 32 b)) (hb : P.underlying b = some (.int .u8)) (hs : ∀ w, (sizeOf b).run P w = .ok 1 w) (hz : (P.info? et).map (·.zero) = some (some (.int .i64 0)))
    (hq : ∀ x y : List UInt8, x.length = 32 → y.length = 32 → (Op.equal kt (.agg (keyC x)) (.agg (keyC y))).run P w = .ok (x == y) w) :
    (execOp a.eval o).run P w = .ok (.value (seenM k m)) w := by
  obtain ⟨es, c, h1, h2, h3⟩ := hM
  obtain ⟨r, hr, hr2⟩ := run_findKey w hk hq k hl m es.toList h2 h3
  have hc := fun em => run_checkKey w em hk hb hs k hl
  have hz2 : (zeroValue et).run P w = .ok (.int .i64 0) w := by
    obtain ⟨i, hi, hz⟩ := Option.map_eq_some_iff.1 hz
    simp [zeroValue, typeInfo, hi, hz]
  have key : (Instr.lookup mt (.map (some g)) (.agg (keyC k)) true).run P w = .ok (seenM k m) w := by
    unfold seenM
    rcases hf : findM k m with _ | j
    · rw [hf] at hr2
      have hrn : r = none := by simpa using hr2
      subst hrn
      simp [Instr.lookup, run_underlying hmt, MapKept.run_getObj_map h1, hc, hr, hz2, Result.andThen]
    · rw [hf] at hr2
      obtain ⟨⟨q1, q2⟩, hrs, hv⟩ := Option.map_eq_some_iff.1 hr2
      simp only at hv
      subst hrs hv
      simp [Instr.lookup, run_underlying hmt, MapKept.run_getObj_map h1, hc, hr, Result.andThen]
  unfold execOp
  simp only [ho, hx, hy]
  simp only [Sem.run_bind, key, Result.andThen_ok, Sem.run_pure]
/-- A new key is stored. -/
theorem wp_newK {w : World} {o : Oper} {a : Act} {K : Act → World → Prop} {Q : Exit → Act → World → Prop} {mt et : TypeId} (x y z : Operand) (ho : o.op = .mapUpdate mt x y z) (g : Nat) (m : List (List UInt8 × Nat)) (k : List UInt8) (j : Nat) (hl : k.length = 32) (hx : a.eval x = .map (some g)) (hy : a.eval y = .agg (keyC k)) (hzv : a.eval z = .int .i64 (j : Int)) (hM : MapAt w g m) (hn : findM k m = none)
    (hmt : P.underlying mt = some (.map kt et)) (hk : P.underlying kt = some (.array 32 b)) (hb : P.underlying b = some (.int .u8)) (hs : ∀ w, (sizeOf b).run P w = .ok 1 w)
    (hq : ∀ x y : List UInt8, x.length = 32 → y.length = 32 → (Op.equal kt (.agg (keyC x)) (.agg (keyC y))).run P w = .ok (x == y) w)
    (h : ∀ w', MapAt w' g (m ++ [(k, j)]) → w.grownBy w' (some g) → K (a.put o.dst undef) w') : o.wp P a w K Q := by
  have hgl := hM.lt
  obtain ⟨es, c, h1, h2, h3⟩ := hM
  obtain ⟨r, hr, hr2⟩ := run_findKey w hk hq k hl m es.toList h2 h3
  have hc := fun em => run_checkKey w em hk hb hs k hl
  have hrn : r = none := by rw [hn] at hr2; simpa using hr2
  subst hrn
  have key : (Instr.mapUpdate mt (.map (some g)) (.agg (keyC k)) (.int .i64 (j : Int))).run P w = .ok () { w with heap := w.heap.setIfInBounds g (.map (es.push { key := .agg (keyC k), val := .int .i64 (j : Int), born := c }) (c + 1)) } := by
    simp [Instr.mapUpdate, run_underlying hmt, MapKept.run_getObj_map h1, hc, hr, MapKept.run_setObj_map _ h1, Result.andThen]
  unfold Oper.wp execOp
  simp only [ho, hx, hy, hzv]
  simp only [Sem.run_bind, key, Result.andThen_ok, Sem.run_pure]
  refine h _ ⟨es.push { key := .agg (keyC k), val := .int .i64 (j : Int), born := c }, c + 1, ?_, ?_, ?_⟩ ⟨rfl, rfl, rfl, by simp, fun i _ hne => ?_⟩
  · show (w.heap.setIfInBounds g _)[g]? = _
    rw [Array.getElem?_setIfInBounds_self_of_lt hgl]
  · simp [h2, entE]
  · intro p hp
    rcases List.mem_append.1 hp with hp | hp
    · exact h3 p hp
    · have : p = (k, j) := by simpa using hp
      rw [this]; exact hl
  · show (w.heap.setIfInBounds g _)[i]? = _
    rw [Array.getElem?_setIfInBounds_ne (fun e => hne (by rw [e]))]
theorem wpList_newK {w : World} {ops : Array Oper} {rest : List Oper} {o : Oper} {a : Act} {Q : Exit → Act → World → Prop} {mt et : TypeId} (hgd : o.guard = none) (x y z : Operand) (ho : o.op = .mapUpdate mt x y z) (g : Nat) (m : List (List UInt8 × Nat)) (k : List UInt8) (j : Nat) (hl : k.length = 32) (hx : a.eval x = .map (some g)) (hy : a.eval y = .agg (keyC k)) (hzv : a.eval z = .int .i64 (j : Int)) (hM : MapAt w g m) (hn : findM k m = none)
    (hmt : P.underlying mt = some (.map kt et)) (hk : P.underlying kt = some (.array 32 b)) (hb : P.underlying b = some (.int .u8)) (hs : ∀ w, (sizeOf b).run P w = .ok 1 w)
    (hq : ∀ x y : List UInt8, x.length = 32 → y.length = 32 → (Op.equal kt (.agg (keyC x)) (.agg (keyC y))).run P w = .ok (x == y) w)
    (h : ∀ w', MapAt w' g (m ++ [(k, j)]) → w.grownBy w' (some g) → wpList P ops Q rest (a.put o.dst undef) w') : wpList P ops Q (o :: rest) a w :=
  wpList_plain hgd fun _ hK => wp_newK x y z ho g m k j hl hx hy hzv hM hn hmt hk hb hs hq fun w' h1 h2 => hK _ _ (h w' h1 h2)
theorem MapAt.new (w : World) : MapAt (w.alloc (.map #[] 0)) w.heap.size [] := ⟨#[], 0, heap_alloc_new w _, rfl, by simp⟩
end
end Go.Proofs.YtckpnkohaaebdaaDoor
end
section
namespace Go.Proofs.YtckpnkohaaebdaaDoor
open Go.RowKit
set_option linter.unusedVariables false
set_option maxRecDepth 20000

theorem xor_byte (a b : UInt8) : bits .xor .u8 (a.toNat : Int) (b.toNat : Int) = ((a ^^^ b).toNat : Int) := by
  rw [u8_xor_nat _ _ a.toNat_lt b.toNat_lt, UInt8.toNat_xor]
theorem or_byte (a b : UInt8) : bits .or .u8 (a.toNat : Int) (b.toNat : Int) = ((a ||| b).toNat : Int) := by
  rw [u8_or_nat _ _ a.toNat_lt b.toNat_lt, UInt8.toNat_or]


theorem xorB_take (a b : List UInt8) (k : Nat) (ha : k < a.length) (hb : k < b.length) : (xorB a b).take (k + 1) = (xorB a b).take k ++ [a[k] ^^^ b[k]] := by
  have h : k < (xorB a b).length := by rw [xorB_length]; omega
  rw [List.take_succ_eq_append_getElem h, xorB_get a b k h ha hb]


/-- What is gathered of the differences of the first k places (0 stands for what is not there). -/
def gathered (a b : List UInt8) : Nat → UInt8
  | 0 => 0
  | k + 1 => gathered a b k ||| (a.getD k 0 ^^^ b.getD k 0)
theorem or_eq_zero (x y : UInt8) : x ||| y = 0 ↔ x = 0 ∧ y = 0 := by
  constructor
  · intro h
    have h1 : x.toNat ||| y.toNat = 0 := by rw [← UInt8.toNat_or, h]; rfl
    have h2 := Nat.or_eq_zero_iff.1 h1
    exact ⟨UInt8.toNat_inj.1 (by simpa using h2.1), UInt8.toNat_inj.1 (by simpa using h2.2)⟩
  · rintro ⟨rfl, rfl⟩; rfl
theorem xor_eq_zero (x y : UInt8) : x ^^^ y = 0 ↔ x = y := UInt8.xor_eq_zero_iff
theorem gathered_zero (a b : List UInt8) (k : Nat) : gathered a b k = 0 ↔ ∀ j, j < k → a.getD j 0 = b.getD j 0 := by
  induction k with
  | zero => simp [gathered]
  | succ k ih =>
    rw [gathered, or_eq_zero, ih, xor_eq_zero]
    constructor
    · rintro ⟨h1, h2⟩ j hj
      rcases Nat.lt_succ_iff_lt_or_eq.1 hj with h | h
      · exact h1 j h
      · rw [h]; exact h2
    · intro h
      exact ⟨fun j hj => h j (by omega), h k (by omega)⟩
theorem gathered_same (a b : List UInt8) (hl : a.length = b.length) : gathered a b (max a.length b.length) = 0 ↔ a = b := by
  rw [gathered_zero]
  constructor
  · intro h
    apply List.ext_getElem hl
    intro j h1 h2
    have := h j (by omega)
    simpa [List.getD_eq_getElem?_getD, h1, h2] using this
  · rintro rfl j _
    rfl

theorem at_any (w : World) (va : Value) (a : List UInt8) (ha : Bs w va a) (i : Nat) (hm : i ≤ maxLen) :
    Calls Tryd.prog 81 #[va, .int .i64 (i : Int)] w fun e w' => e = .returned (.int .u8 ((a.getD i 0).toNat : Int)) ∧ w = w' := by
  by_cases h : i < a.length
  · rw [List.getD_eq_getElem?_getD, List.getElem?_eq_getElem h]
    exact at_in w va a ha i h
  · rw [List.getD_eq_getElem?_getD, List.getElem?_eq_none (by omega)]
    exact at_out w va a ha i (by omega) hm

set_option maxHeartbeats 800000 in
theorem Same_any (w : World) (va vb : Value) (a b : List UInt8) (ha : Bs w va a) (hb : Bs w vb b) :
    Calls Tryd.prog 69 #[va, vb] w fun e w' => e = .returned (.bool (a == b)) ∧ w = w' := by
  have HA := Lib.hid ha
  have HBb := Lib.hid hb
  obtain ⟨A, ca, rfl, ha1, ha2, ha3⟩ := ha
  obtain ⟨B, cb, rfl, hb1, hb2, hb3⟩ := hb
  unfold maxLen at ha2 hb2
  clear ha3 hb3
  have hmax : max a.length b.length ≤ 9223372036854775807 := by omega
  by_cases hle : a.length < b.length
  all_goals
    go_enter Tryd.func69, Tryd.ntmps69
    go_wp2
    go_loop [5, 12] (fun d i => ∃ (k : Nat) (g : UInt8), k ≤ max a.length b.length ∧ i = .int .i64 k ∧ g = gathered a b k ∧ d = .int .u8 (g.toNat : Int)) (fun _ i => max a.length b.length - (intOf i).toNat)
    case atStart => exact ⟨0, 0, Nat.zero_le _, rfl, rfl, rfl⟩
    case round =>
      obtain ⟨k, g, hk, rfl, hg, rfl⟩ := hrel
      have HG := Lib.hid hg
      have hg8 := g.toNat_lt
      clear hg
      by_cases hlt : k < max a.length b.length
      · go_wp2_with fail
        refine (at_any _ _ a HA.out k (by unfold maxLen; omega)).mono ?_
        rintro e w' ⟨rfl, rfl⟩
        have hd1 := (a.getD k 0).toNat_lt
        go_wp2_with fail
        refine (at_any _ _ b HBb.out k (by unfold maxLen; omega)).mono ?_
        rintro e w' ⟨rfl, rfl⟩
        have hd2 := (b.getD k 0).toNat_lt
        go_wp2
        go_round
        case rel => exact ⟨k + 1, gathered a b (k + 1), by omega, by go_num, rfl, by rw [gathered, ← or_byte, ← xor_byte, HG.out]; first | (simp [show k < b.length by omega]; done) | (simp [show k < a.length by omega]; done)⟩
        case measure => simp [intOf]; omega
      · have hks : k = max a.length b.length := by omega
        by_cases hl : a.length = b.length
        · have hl1 : ((a.length : Int) == (b.length : Int)) = true := by simp [hl]
          by_cases hz : g = 0
          · have hz1 : ((g.toNat : Int) == 0) = true := by rw [hz]; rfl
            have hfin : (a == b) = true := by
              rw [beq_iff_eq, ← gathered_same a b hl, ← hks, ← HG.out, hz]
            have Hf := Lib.hid hfin
            clear hfin hl hz hks
            go_wp2
            go_ret
            exact ⟨by rw [Hf.out]; rfl, rfl⟩
          · have hz1 : ((g.toNat : Int) == 0) = false := by
              rw [beq_eq_false_iff_ne]; intro h; exact hz (UInt8.toNat_inj.1 (by simpa using h))
            have hfin : (a == b) = false := by
              rw [beq_eq_false_iff_ne]; intro h; rw [← gathered_same a b hl, ← hks, ← HG.out] at h; exact hz h
            have Hf := Lib.hid hfin
            clear hfin hl hz hks
            go_wp2
            go_ret
            exact ⟨by rw [Hf.out]; rfl, rfl⟩
        · have hl1 : ((a.length : Int) == (b.length : Int)) = false := by rw [beq_eq_false_iff_ne]; omega
          have hfin : (a == b) = false := by
            rw [beq_eq_false_iff_ne]; rintro rfl; exact hl rfl
          have Hf := Lib.hid hfin
          clear hfin hl hks
          by_cases hz : ((g.toNat : Int) == 0) = true
          · go_wp2
            go_ret
            exact ⟨by rw [Hf.out]; rfl, rfl⟩
          · have hz1 : ((g.toNat : Int) == 0) = false := by simpa using hz
            clear hz
            go_wp2
            go_ret
            exact ⟨by rw [Hf.out]; rfl, rfl⟩
end Go.Proofs.YtckpnkohaaebdaaDoor
end
section
namespace Go.Proofs.YtckpnkohaaebdaaDoor
open Go.RowKit
set_option linter.unusedVariables false
set_option maxRecDepth 20000

def inX (ins : List (List UInt8)) (j : Nat) : List UInt8 := ins.getD j []
def inD (ins : List (List UInt8)) (j : Nat) : List UInt8 := digestB (inX ins j)
/-- Among the first k inputs no two are unlike and have one digest. -/
def NoAl (ins : List (List UInt8)) (k : Nat) : Prop := ∀ i, i < k → ∀ j, j < i → inD ins j = inD ins i → inX ins j = inX ins i
/-- The first two that are. -/
structure FirstAl (ins : List (List UInt8)) (j i : Nat) : Prop where
  lt : j < i
  len : i < ins.length
  none : NoAl ins i
  dig : inD ins j = inD ins i
  ne : inX ins j ≠ inX ins i
  least : ∀ j', j' < j → inD ins j' ≠ inD ins i
/-- What the map tells of the first k inputs. -/
structure MapOk (ins : List (List UInt8)) (k : Nat) (m : List (List UInt8 × Nat)) : Prop where
  no : NoAl ins k
  yes : ∀ d a, findM d m = some a → a < k ∧ inD ins a = d ∧ ∀ j, j < a → inD ins j ≠ d
  none : ∀ d, findM d m = none → ∀ j, j < k → inD ins j ≠ d
theorem findM_append (d : List UInt8) (m : List (List UInt8 × Nat)) (p : List UInt8 × Nat) : findM d (m ++ [p]) = match findM d m with
    | some a => some a
    | none => if d = p.1 then some p.2 else none := by
  induction m with
  | nil => by_cases h : d = p.1 <;> simp [findM, h]
  | cons q m ih =>
    by_cases h : d = q.1
    · simp [findM, h]
    · simp [findM, h, ih]
theorem MapOk.start (ins : List (List UInt8)) : MapOk ins 0 [] := ⟨fun i h => by omega, fun d a h => by simp [findM] at h, fun d _ j h => by omega⟩
theorem MapOk.new {ins : List (List UInt8)} {k : Nat} {m : List (List UInt8 × Nat)} (h : MapOk ins k m) (hn : findM (inD ins k) m = .none) : MapOk ins (k + 1) (m ++ [(inD ins k, k)]) where
  no i hi j hj e := by
    by_cases hik : i = k
    · subst hik
      exact absurd e (h.none _ hn j hj)
    · exact h.no i (by omega) j hj e
  yes d a hd := by
    rw [findM_append] at hd
    rcases hf : findM d m with _ | b
    · rw [hf] at hd
      simp only at hd
      by_cases e : d = inD ins k
      · rw [if_pos e] at hd
        injection hd with hd
        subst hd
        exact ⟨by omega, e.symm, fun j hj => h.none d hf j hj⟩
      · rw [if_neg e] at hd; cases hd
    · rw [hf] at hd
      simp only at hd
      injection hd with hd
      subst hd
      obtain ⟨h1, h2, h3⟩ := h.yes d b hf
      exact ⟨by omega, h2, h3⟩
  none d hd j hj := by
    rw [findM_append] at hd
    rcases hf : findM d m with _ | b
    · rw [hf] at hd
      simp only at hd
      by_cases e : d = inD ins k
      · rw [if_pos e] at hd; cases hd
      · by_cases hjk : j = k
        · rw [hjk]; exact fun e2 => e e2.symm
        · exact h.none d hf j (by omega)
    · rw [hf] at hd; cases hd
theorem MapOk.same {ins : List (List UInt8)} {k a : Nat} {m : List (List UInt8 × Nat)} (h : MapOk ins k m) (hn : findM (inD ins k) m = some a) (he : inX ins a = inX ins k) : MapOk ins (k + 1) m where
  no i hi j hj e := by
    by_cases hik : i = k
    · subst hik
      obtain ⟨h1, h2, h3⟩ := h.yes _ a hn
      rcases Nat.lt_trichotomy j a with hl | hl | hl
      · exact absurd e (h3 j hl)
      · rw [hl]; exact he
      · have := h.no j hj a hl (h2.trans e.symm)
        rw [← this]; exact he
    · exact h.no i (by omega) j hj e
  yes d b hd := by
    obtain ⟨h1, h2, h3⟩ := h.yes d b hd
    exact ⟨by omega, h2, h3⟩
  none d hd j hj := by
    by_cases hjk : j = k
    · intro e
      rw [hjk] at e
      rw [← e, hn] at hd
      cases hd
    · exact h.none d hd j (by omega)
theorem MapOk.found {ins : List (List UInt8)} {k a : Nat} {m : List (List UInt8 × Nat)} (h : MapOk ins k m) (hk : k < ins.length) (hn : findM (inD ins k) m = some a) (he : inX ins a ≠ inX ins k) : FirstAl ins a k := by
  obtain ⟨h1, h2, h3⟩ := h.yes _ a hn
  exact ⟨h1, hk, h.no, h2, he, h3⟩
theorem wpList_valK {P : Program} {w : World} {ops : Array Oper} {rest : List Oper} {o : Oper} {a : Act} {Q : Exit → Act → World → Prop} (hgd : o.guard = none) (v : Value) (hr : (execOp a.eval o).run P w = .ok (.value v) w) (h : wpList P ops Q rest (a.put o.dst v) w) : wpList P ops Q (o :: rest) a w :=
  wpList_plain hgd fun _ hK => by
    unfold Oper.wp
    rw [hr]
    exact hK _ _ h
theorem Tryd.equalK (W : World) (x y : List UInt8) (hx : x.length = 32) (hy : y.length = 32) : (Op.equal 33 (.agg (keyC x)) (.agg (keyC y))).run Tryd.prog W = .ok (x == y) W := Tryd.eqKeyIn x y hx hy W
theorem Tryd.zeroI : (Tryd.prog.info? 3).map (·.zero) = some (some (.int .i64 0)) := by kernel_rfl

/-- What firstAlike hands back. -/
def AlRet (ins : List (List UInt8)) (e : Ending) (w' : World) : Prop :=
  (NoAl ins ins.length ∧ e = .returned (.tuple #[.slice none 0 0, .slice none 0 0, .bool false])) ∨
  ∃ j i a b, FirstAl ins j i ∧ e = .returned (.tuple #[a, b, .bool true]) ∧ Bs w' a (inX ins j) ∧ Bs w' b (inX ins i)
set_option maxHeartbeats 1000000 in
theorem firstAlike_any (w : World) (ht : Tabs w) (v : Value) (ins : List (List UInt8)) (h : Bss w v ins) (hl : ins.length ≤ 1000000) (hs : ∀ l ∈ ins, l.length ≤ 1000000) :
    Calls Tryd.prog 51 #[v, .func (.func 45) #[] #[]] w fun e w' => AlRet ins e w' ∧ Below w.heap.size w w' := by
  have HH := Lib.hid h
  have HT := Lib.hid ht
  have HS := Lib.hid hs
  have hmm := @run_makeMap Tryd.prog
  obtain ⟨A, c, rfl, q1, q2, q3⟩ := h
  unfold maxLen at q2
  clear ht hs
  go_enter Tryd.func51, Tryd.ntmps51
  go_wp2_with fail
  go_loopw [16] (fun i wr => ∃ (k : Nat) (m : List (List UInt8 × Nat)), k ≤ ins.length ∧ i = .int .i64 (k : Int) ∧ MapAt wr w.heap.size m ∧ MapOk ins k m ∧ Below w.heap.size w wr) (fun i _ => ins.length - (intOf i).toNat)
  case atStart => exact ⟨0, [], by omega, rfl, MapAt.new w, MapOk.start ins, alloc_below _ _⟩
  case round =>
    obtain ⟨k, m, hk, rfl, hM, hO, hE⟩ := hrel
    have E := Lib.hid hE
    have M := Lib.hid hM
    have OK := Lib.hid hO
    clear hE hM hO
    by_cases hlt : k < ins.length
    · obtain ⟨b, off, rfl, hc⟩ := q3 (by omega)
      obtain ⟨u, hcu, hbu⟩ := hc k hlt
      have hcell : wr.cell? ⟨b, off + k, none⟩ = some u := (E.out.cell (p := ⟨b, off + k, none⟩) (World.block_lt_of_cell? w _ hcu)).trans hcu
      have hx : ins[k] = inX ins k := by unfold inX; rw [List.getD_eq_getElem?_getD, List.getElem?_eq_getElem hlt]; rfl
      have HSL : Hid ((inX ins k).length ≤ 1000000) := by rw [← hx]; exact HS.out _ (List.getElem_mem hlt)
      rw [hx] at hbu
      have HBU := Lib.hid (hbu.below E.out)
      have HC := Lib.hid hc
      have HLT := Lib.hid hlt
      have hw1 : IntKind.i64.wrap ((k : Int) + 1) = (k : Int) + 1 := IntWalk.i64_in _ (by omega)
      have hlt2 : (k : Int) < (ins.length : Int) := by omega
      have hq0 : ¬ ((k : Int) < 0) := by omega
      obtain ⟨x, hxx⟩ : ∃ x, x = inX ins k := ⟨_, rfl⟩
      obtain ⟨d, hd⟩ : ∃ d, d = inD ins k := ⟨_, rfl⟩
      have HD : Hid (∀ W v, Tabs W → Bs W v x → Calls Tryd.prog 45 #[v] W (RetV W (keyV d))) := fun W v h1 h2 => by
        rw [hd, show inD ins k = digestB x by rw [hxx]; rfl]
        exact digest_any W h1 v x h2 (by rw [hxx]; exact HSL.out)
      have DL : Hid (d.length = 32) := by show _ = _; rw [hd]; exact digestB_length _
      rw [← hxx] at HBU hbu
      have HX := Lib.hid hxx
      have HDD := Lib.hid hd
      obtain ⟨UA, uc, rfl, _⟩ := id hbu
      clear hc hcu hbu hx hxx hd q3 hlt
      unfold keyV at HD
      go_wp2_with fail
      refine (HD.out _ _ (HT.out.below E.out) HBU.out).mono ?_
      intro e w5 hh
      obtain ⟨he, b5⟩ := hh
      subst he
      have E5 := Lib.hid (below_size E.out b5)
      have M5 := Lib.hid (M.out.kept b5)
      have HBU5 := Lib.hid (HBU.out.below b5)
      clear b5 HD M HBU
      rcases hf : findM d m with _ | a
      · have HSEEN : Hid (seenM d m = .tuple #[.int .i64 0, .bool false]) := by show _ = _; unfold seenM; rw [hf]
        have HF := Lib.hid hf
        clear hf
        go_wp2_with (first
          | ((with_reducible refine wpList_alloc_row (o := ⟨some 10, _, _, _, _, _⟩) rfl 33 rfl (keyC zeroKey) Tryd.zeroK ?_); intro g10 x6 n6; have N6 := Lib.hid n6; clear n6)
          | ((with_reducible refine wpList_store_row (o := ⟨none, _, _, _, _, _⟩) rfl 33 (.tmp 10) (.tmp 23) rfl g10 33 (keyC zeroKey) (keyC d) (by with_unfolding_all rfl) (by with_unfolding_all rfl) (by with_unfolding_all exact N6.out.row) (keyC_same zeroKey_length DL.out) (Tryd.sizeKey d DL.out) (keyC_one d) ?_); intro w7 p7; have L7 := (laid_put N6.out p7).1; have R7 := Lib.hid p7.row; have M7 := Lib.hid (M5.out.kept L7); have HBU7 := Lib.hid (HBU5.out.below L7); have E7 := Lib.hid (below_size E5.out L7); clear p7 L7 N6 M5 E5 HBU5)
          | (with_reducible refine wpList_load_row (o := ⟨some 26, _, _, _, _, _⟩) rfl 33 (.tmp 10) rfl g10 (by with_unfolding_all rfl) 33 (keyC d) (0, 0) (.array 32 5) (by with_unfolding_all exact R7.out) Tryd.underlying33 rfl (Tryd.sizeKey d DL.out) ?_)
          | (with_reducible refine wpList_valK (o := ⟨some 27, _, _, _, _, _⟩) rfl (.tuple #[.int .i64 0, .bool false]) (by rw [← HSEEN.out]; exact run_lookK (.tmp 25) (.tmp 26) (by with_unfolding_all rfl) w.heap.size m d DL.out (by with_unfolding_all rfl) (by with_unfolding_all rfl) M7.out Tryd.underlying105 Tryd.underlying33 Tryd.underlying5 Tryd.sizeOfB Tryd.zeroI (fun x y hx hy => Tryd.equalK _ x y hx hy)) ?_)
          | (with_reducible refine wpList_load_row (o := ⟨some 33, _, _, _, _, _⟩) rfl 33 (.tmp 10) rfl g10 (by with_unfolding_all rfl) 33 (keyC d) (0, 0) (.array 32 5) (by with_unfolding_all exact R7.out) Tryd.underlying33 rfl (Tryd.sizeKey d DL.out) ?_)
          | ((with_reducible refine wpList_newK (o := ⟨none, _, _, _, _, _⟩) rfl (.tmp 32) (.tmp 33) (.tmp 34) rfl w.heap.size m d k DL.out (by with_unfolding_all rfl) (by with_unfolding_all rfl) (by with_unfolding_all rfl) M7.out HF.out Tryd.underlying105 Tryd.underlying33 Tryd.underlying5 Tryd.sizeOfB (fun x y hx hy => Tryd.equalK _ x y hx hy) ?_); intro w8 m8 g8; have M8 := Lib.hid m8; have E8 := Lib.hid (E7.out.grown g8 E7.out.size (fun k e => by injection e with e; omega)); clear m8 g8))
        go_roundw
        case rel => exact ⟨k + 1, m ++ [(d, k)], by omega, by go_num, M8.out, (by have := OK.out.new (by rw [← HDD.out]; exact HF.out); rwa [← HDD.out] at this), E8.out⟩
        case measure => simp [intOf]; omega
      · have HSEEN : Hid (seenM d m = .tuple #[.int .i64 (a : Int), .bool true]) := by show _ = _; unfold seenM; rw [hf]
        have HF := Lib.hid hf
        obtain ⟨ha1, ha2, ha3⟩ := OK.out.yes d a hf
        have hal : a < ins.length := by have := HLT.out; omega
        obtain ⟨ua, hca, hba⟩ := HC.out a hal
        have hxa : ins[a] = inX ins a := by unfold inX; rw [List.getD_eq_getElem?_getD, List.getElem?_eq_getElem hal]; rfl
        rw [hxa] at hba
        have HCA : Hid (∀ W, Below w.heap.size w W → W.cell? ⟨b, off + a, none⟩ = some ua) := fun W hW => (hW.cell (p := ⟨b, off + a, none⟩) (World.block_lt_of_cell? w _ hca)).trans hca
        have HBA0 := Lib.hid hba
        have hla2 : (a : Int) < (ins.length : Int) := by omega
        have hqa : ¬ ((a : Int) < 0) := by omega
        obtain ⟨y, hyy⟩ : ∃ y, y = inX ins a := ⟨_, rfl⟩
        rw [← hyy] at HBA0 hba
        obtain ⟨VA, vc, rfl, _⟩ := id hba
        have HY := Lib.hid hyy
        clear hf ha1 ha2 ha3 hca hba hxa hyy
        by_cases hyx : y = x
        · have HYX : Hid (inX ins a = inX ins k) := by show _ = _; rw [← HY.out, ← HX.out, hyx]
          have HSM : Hid (∀ W u v, Bs W u y → Bs W v x → Calls Tryd.prog 69 #[u, v] W fun e w' => e = .returned (.bool true) ∧ W = w') := fun W u v h1 h2 => by
            have := Same_any W u v y x h1 h2
            rwa [show (y == x) = true by simp [hyx]] at this
          clear hyx
          go_wp2_with (first
            | ((with_reducible refine wpList_alloc_row (o := ⟨some 10, _, _, _, _, _⟩) rfl 33 rfl (keyC zeroKey) Tryd.zeroK ?_); intro g10 x6 n6; have N6 := Lib.hid n6; clear n6)
            | ((with_reducible refine wpList_store_row (o := ⟨none, _, _, _, _, _⟩) rfl 33 (.tmp 10) (.tmp 23) rfl g10 33 (keyC zeroKey) (keyC d) (by with_unfolding_all rfl) (by with_unfolding_all rfl) (by with_unfolding_all exact N6.out.row) (keyC_same zeroKey_length DL.out) (Tryd.sizeKey d DL.out) (keyC_one d) ?_); intro w7 p7; have L7 := (laid_put N6.out p7).1; have R7 := Lib.hid p7.row; have M7 := Lib.hid (M5.out.kept L7); have HBU7 := Lib.hid (HBU5.out.below L7); have E7 := Lib.hid (below_size E5.out L7); have ca7 := HCA.out _ E7.out; clear p7 L7 N6 M5 E5 HBU5)
            | (with_reducible refine wpList_load_row (o := ⟨some 26, _, _, _, _, _⟩) rfl 33 (.tmp 10) rfl g10 (by with_unfolding_all rfl) 33 (keyC d) (0, 0) (.array 32 5) (by with_unfolding_all exact R7.out) Tryd.underlying33 rfl (Tryd.sizeKey d DL.out) ?_)
            | (with_reducible refine wpList_valK (o := ⟨some 27, _, _, _, _, _⟩) rfl (.tuple #[.int .i64 (a : Int), .bool true]) (by rw [← HSEEN.out]; exact run_lookK (.tmp 25) (.tmp 26) (by with_unfolding_all rfl) w.heap.size m d DL.out (by with_unfolding_all rfl) (by with_unfolding_all rfl) M7.out Tryd.underlying105 Tryd.underlying33 Tryd.underlying5 Tryd.sizeOfB Tryd.zeroI (fun x y hx hy => Tryd.equalK _ x y hx hy)) ?_))
          refine (HSM.out _ _ _ (HBA0.out.below E7.out) (HBU7.out)).mono ?_
          intro e w8 hh
          obtain ⟨he, hw⟩ := hh
          subst he hw
          go_wp2_with fail
          go_roundw
          case rel => exact ⟨k + 1, m, by omega, by go_num, M7.out, OK.out.same (by rw [← HDD.out]; exact HF.out) HYX.out, E7.out⟩
          case measure => simp [intOf]; omega
        · have HYX : Hid (inX ins a ≠ inX ins k) := by show _ ≠ _; rw [← HY.out, ← HX.out]; exact hyx
          have HSM : Hid (∀ W u v, Bs W u y → Bs W v x → Calls Tryd.prog 69 #[u, v] W fun e w' => e = .returned (.bool false) ∧ W = w') := fun W u v h1 h2 => by
            have := Same_any W u v y x h1 h2
            rwa [show (y == x) = false by simp [hyx]] at this
          clear hyx
          go_wp2_with (first
            | ((with_reducible refine wpList_alloc_row (o := ⟨some 10, _, _, _, _, _⟩) rfl 33 rfl (keyC zeroKey) Tryd.zeroK ?_); intro g10 x6 n6; have N6 := Lib.hid n6; clear n6)
            | ((with_reducible refine wpList_store_row (o := ⟨none, _, _, _, _, _⟩) rfl 33 (.tmp 10) (.tmp 23) rfl g10 33 (keyC zeroKey) (keyC d) (by with_unfolding_all rfl) (by with_unfolding_all rfl) (by with_unfolding_all exact N6.out.row) (keyC_same zeroKey_length DL.out) (Tryd.sizeKey d DL.out) (keyC_one d) ?_); intro w7 p7; have L7 := (laid_put N6.out p7).1; have R7 := Lib.hid p7.row; have M7 := Lib.hid (M5.out.kept L7); have HBU7 := Lib.hid (HBU5.out.below L7); have E7 := Lib.hid (below_size E5.out L7); have ca7 := HCA.out _ E7.out; clear p7 L7 N6 M5 E5 HBU5)
            | (with_reducible refine wpList_load_row (o := ⟨some 26, _, _, _, _, _⟩) rfl 33 (.tmp 10) rfl g10 (by with_unfolding_all rfl) 33 (keyC d) (0, 0) (.array 32 5) (by with_unfolding_all exact R7.out) Tryd.underlying33 rfl (Tryd.sizeKey d DL.out) ?_)
            | (with_reducible refine wpList_valK (o := ⟨some 27, _, _, _, _, _⟩) rfl (.tuple #[.int .i64 (a : Int), .bool true]) (by rw [← HSEEN.out]; exact run_lookK (.tmp 25) (.tmp 26) (by with_unfolding_all rfl) w.heap.size m d DL.out (by with_unfolding_all rfl) (by with_unfolding_all rfl) M7.out Tryd.underlying105 Tryd.underlying33 Tryd.underlying5 Tryd.sizeOfB Tryd.zeroI (fun x y hx hy => Tryd.equalK _ x y hx hy)) ?_))
          refine (HSM.out _ _ _ (HBA0.out.below E7.out) HBU7.out).mono ?_
          intro e w8 hh
          obtain ⟨he, hw⟩ := hh
          subst he hw
          have FA := Lib.hid (OK.out.found HLT.out (by rw [← HDD.out]; exact HF.out) HYX.out)
          go_wp2_with fail
          refine bodyPost_ret (results_tmp3 rfl _ _ _) rfl ⟨.inr ⟨a, k, _, _, FA.out, rfl, ?_, ?_⟩, E7.out⟩
          · rw [← HY.out]; exact HBA0.out.below E7.out
          · rw [← HX.out]; exact HBU7.out
    · have hkn : k = ins.length := by omega
      subst hkn
      have NO := Lib.hid OK.out.no
      clear OK M q3 hlt
      go_wp2_with fail
      exact bodyPost_ret (results_tmp3 rfl _ _ _) rfl ⟨.inl ⟨NO.out, rfl⟩, E.out⟩
end Go.Proofs.YtckpnkohaaebdaaDoor
end
section
namespace Go.Proofs.YtckpnkohaaebdaaDoor
open Go.RowKit

/-- The first k bytes are alike. -/
def alikeTo (a b : List UInt8) (k : Nat) : Prop := a.take k = b.take k

theorem alike_step (a b : List UInt8) (k : Nat) (ha : k < a.length) (hb : k < b.length) (h : alikeTo a b k) (he : a[k] = b[k]) : alikeTo a b (k + 1) := by
  unfold alikeTo at *
  rw [List.take_succ_eq_append_getElem ha, List.take_succ_eq_append_getElem hb, h, he]

theorem byte_eq {a b : UInt8} (h : ((a.toNat : Int) = (b.toNat : Int))) : a = b := UInt8.toNat_inj.1 (by omega)

set_option maxHeartbeats 400000 in
theorem refSame (w : World) (va vb : Value) (a b : List UInt8) (ha : Bs w va a) (hb : Bs w vb b) :
    Calls Tryd.prog 18 #[va, vb] w fun e w' => e = .returned (.bool (a == b)) ∧ ∃ n, w' = w.drewN n := by
  obtain ⟨A, ca, rfl, ha1, ha2, ha3⟩ := ha
  obtain ⟨B, cb, rfl, hb1, hb2, hb3⟩ := hb
  unfold maxLen at ha2 hb2
  by_cases hl : a.length = b.length
  · have hl1 : ((a.length : Int) != (b.length : Int)) = false := by simp [hl]
    have Hl := Lib.hid hl
    have hle : a.length ≤ b.length := by omega
    clear hl
    go_enter Tryd.func18, Tryd.ntmps18
    go_wp2
    go_loopw [5] (fun i wr => ∃ k n : Nat, k ≤ a.length ∧ i = .int .i64 k ∧ wr = w.drewN n ∧ alikeTo a b k) (fun i _ => a.length - (intOf i).toNat)
    case atStart => exact ⟨0, 0, Nat.zero_le _, rfl, rfl, by simp [alikeTo]⟩
    case round =>
      obtain ⟨k, n, hk, rfl, rfl, hal⟩ := hrel
      by_cases hlt : k < a.length
      · obtain ⟨b0, o0, rfl, hca⟩ := ha3 (by omega)
        obtain ⟨b1, o1, rfl, hcb⟩ := hb3 (by omega)
        have h0 := hca k hlt
        have h1 := hcb k (by omega)
        clear hca hcb
        by_cases he : a[k] = b[k]
        · have he1 : ((a[k].toNat : Int) != (b[k].toNat : Int)) = false := by simp [he]
          have He := Lib.hid he
          clear he
          go_wp2
          go_quiet (fail)
          go_wp2
          go_roundw
          case rel => exact ⟨k + 1, _, by omega, by go_num, rfl, alike_step a b k hlt (by omega) hal He.out⟩
          case measure => simp [intOf]; omega
        · have he1 : ((a[k].toNat : Int) != (b[k].toNat : Int)) = true := by
            rw [bne_iff_ne]; intro h; exact he (byte_eq h)
          have hfin : (a == b) = false := by
            rw [beq_eq_false_iff_ne]; rintro rfl; exact he rfl
          have Hf := Lib.hid hfin
          clear he hfin
          go_wp2
          go_quiet (fail)
          go_wp2
          go_ret
          exact ⟨by rw [Hf.out]; rfl, _, by first | rfl | exact World.drewN_drewN _ _ _⟩
      · have hfin : (a == b) = true := by
          rw [beq_iff_eq]
          have := Hl.out
          unfold alikeTo at hal
          rwa [List.take_of_length_le (by omega), List.take_of_length_le (by omega)] at hal
        have Hf := Lib.hid hfin
        clear hfin
        go_wp2
        go_ret
        exact ⟨by rw [Hf.out]; rfl, _, by first | rfl | exact World.drewN_drewN _ _ _⟩
  · have hl1 : ((a.length : Int) != (b.length : Int)) = true := by rw [bne_iff_ne]; omega
    have hfin : (a == b) = false := by
      rw [beq_eq_false_iff_ne]; rintro rfl; exact hl rfl
    have Hf := Lib.hid hfin
    clear hfin hl
    go_enter Tryd.func18, Tryd.ntmps18
    go_wp2
    go_ret
    exact ⟨by rw [Hf.out]; rfl, 0, rfl⟩
end Go.Proofs.YtckpnkohaaebdaaDoor
end
section
namespace Go.Proofs.YtckpnkohaaebdaaDoor
open Go.RowKit

theorem same_ret (w : World) (va vb : Value) (a b : List UInt8) (ha : Bs w va a) (hb : Bs w vb b) :
    Calls Tryd.prog 18 #[va, vb] w (RetV w (.bool (a == b))) := (refSame w va vb a b ha hb).mono fun _ _ h => RetV.quiet h
theorem same_yes (w : World) (va vb : Value) (a : List UInt8) (ha : Bs w va a) (hb : Bs w vb a) :
    Calls Tryd.prog 18 #[va, vb] w (RetV w (.bool true)) := by
  have := same_ret w va vb a a ha hb
  rwa [beq_self_eq_true] at this
end Go.Proofs.YtckpnkohaaebdaaDoor
end
