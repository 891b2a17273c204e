/-
  Texts that belong together, merged: EnvM, Nats, FieldMath, FieldA, FieldB, FieldC. Conditions: as each theorem names them.
-/
import Derived.Test.YthipdfmaaeoijaaQEpcAA
import Derived.Test.YthipdfmaaeoijaaQEpcAB
import Derived.IntWalk
import Derived.Laws.BitsAllLaws
import Derived.Stop.BytesEq
import Derived.Test.YthipdfmaaeoijaaChecked
import Derived.WalkKit
import Derived.LoopTactic
import Derived.RegionTactic
import Derived.Deep.QuietTactic
import Derived.BigQuiet
import Derived.Outline
import Derived.WalkSpells
import Derived.WalkLawsBesides
import Derived.Lib.Mul64
import Derived.Laws.Externs
section
namespace Go.Proofs.Ythipdfmaaeoijaa
open Go.RowKit
set_option linter.unusedVariables false
set_option maxRecDepth 20000

structure EnvM (w0 : World) (ms : List (Nat × IntKind × List (Nat × Value))) (rs : List (Nat × TypeId × Array Value)) (w : World) : Prop where
  env : Env w0 rs w
  maps : ∀ x ∈ ms, (∃ o, w.heap[x.1]? = some o ∧ MapO x.2.1 x.2.2 o) ∧ w0.heap.size ≤ x.1
  mapart : (ms.map (·.1)).Nodup
section
variable {w0 w w' : World} {ms ms' : List (Nat × IntKind × List (Nat × Value))} {rs rs' : List (Nat × TypeId × Array Value)} {g : Nat} {t : TypeId} {cs old : Array Value} {kd : IntKind} {m m' : List (Nat × Value)}
theorem EnvM.start (w : World) : EnvM w [] [] w := ⟨Env.start w, by simp, by simp⟩
theorem EnvM.size (h : EnvM w0 ms rs w) : w0.heap.size ≤ w.heap.size := h.env.below.size
theorem EnvM.row (h : EnvM w0 ms rs w) (i : Nat) (hi : rs[i]? = some (g, t, cs)) : RowAt w g t cs := h.env.row i hi
theorem EnvM.rowOf (h : EnvM w0 ms rs w) (hm : (g, t, cs) ∈ rs) : RowAt w g t cs := (h.env.rows _ hm).1
theorem MapO.ne {o : Obj} (h : MapO kd m o) (hg : w.heap[g]? = some o) {k : Nat} (hr : RowAt w k t cs) : g ≠ k := by
  rintro rfl
  obtain ⟨es, c, rfl, _⟩ := h
  unfold RowAt at hr
  rw [hg] at hr
  cases hr
theorem EnvM.call (h : EnvM w0 ms rs w) (b : Below w.heap.size w w') : EnvM w0 ms rs w' :=
  ⟨h.env.call b, fun x hx => by
    obtain ⟨⟨o, ho, hm⟩, hs⟩ := h.maps x hx
    exact ⟨⟨o, (b.block _ (Array.getElem?_eq_some_iff.1 ho).1).trans ho, hm⟩, hs⟩, h.mapart⟩
theorem EnvM.new (h : EnvM w0 ms rs w) (n : NewRow w g t cs w') : EnvM w0 ms ((g, t, cs) :: rs) w' := ⟨h.env.new n, (h.call n.below).maps, h.mapart⟩
theorem EnvM.drew (h : EnvM w0 ms rs w) : EnvM w0 ms rs w.drew := ⟨h.env.drew, h.maps, h.mapart⟩
theorem EnvM.drewN (h : EnvM w0 ms rs w) (n : Nat) : EnvM w0 ms rs (w.drewN n) := ⟨h.env.drewN n, h.maps, h.mapart⟩
theorem EnvM.turned (h : EnvM w0 ms rs w) (i : Nat) (hi : rs[i]? = some (g, t, old)) (hr : RowAt w' g t cs) (hg : w.grownBy w' (some g)) : EnvM w0 ms (rs.set i (g, t, cs)) w' :=
  ⟨h.env.turned i hi hr hg, fun x hx => by
    obtain ⟨⟨o, ho, hm⟩, hs⟩ := h.maps x hx
    exact ⟨⟨o, (hg.block _ (Array.getElem?_eq_some_iff.1 ho).1 (fun e => hm.ne ho (h.row i hi) (by injection e))).trans ho, hm⟩, hs⟩, h.mapart⟩
theorem EnvM.put (h : EnvM w0 ms rs w) (i : Nat) (hi : rs[i]? = some (g, t, old)) (p : PutRow w g t cs w') : EnvM w0 ms (rs.set i (g, t, cs)) w' := h.turned i hi p.row p.grown
theorem EnvM.cell (h : EnvM w0 ms rs w) (i : Nat) (hi : rs[i]? = some (g, t, old)) (j : Nat) (u : Value) : EnvM w0 ms (rs.set i (g, t, old.setIfInBounds j u)) (w.setCell ⟨g, j, none⟩ u) :=
  h.turned i hi ((h.row i hi).put j u) (grown_setCell w g j u)
theorem EnvM.less (h : EnvM w0 ms rs w) (hs : rs'.Sublist rs) : EnvM w0 ms rs' w := ⟨h.env.less hs, h.maps, h.mapart⟩
theorem EnvM.rest {r : Nat × TypeId × Array Value} (h : EnvM w0 ms (r :: rs) w) : EnvM w0 ms rs w := h.less (List.sublist_cons_self _ _)
theorem EnvM.lessM (h : EnvM w0 ms rs w) (hs : ms'.Sublist ms) : EnvM w0 ms' rs w := ⟨h.env, fun x hx => h.maps x (hs.subset hx), List.Pairwise.sublist (hs.map _) h.mapart⟩
theorem EnvM.perm (h : EnvM w0 ms rs w) (hp : rs'.Perm rs) : EnvM w0 ms rs' w := ⟨⟨h.env.below, fun r hr => h.env.rows r (hp.subset hr), (hp.map _).nodup_iff.2 h.env.apart⟩, h.maps, h.mapart⟩
theorem EnvM.permM (h : EnvM w0 ms rs w) (hp : ms'.Perm ms) : EnvM w0 ms' rs w := ⟨h.env, fun x hx => h.maps x (hp.subset hx), (hp.map _).nodup_iff.2 h.mapart⟩
theorem EnvM.mapAt (h : EnvM w0 ms rs w) (i : Nat) (hi : ms[i]? = some (g, kd, m)) : ∃ o, w.heap[g]? = some o ∧ MapO kd m o := (h.maps _ (List.mem_of_getElem? hi)).1
theorem EnvM.mapIn (h : EnvM w0 ms rs w) (i : Nat) (hi : ms[i]? = some (g, kd, m)) : MapIn kd w (some g) m := h.mapAt i hi
theorem EnvM.turnM (h : EnvM w0 ((g, kd, m) :: ms) rs w) {o : Obj} (hg : w.grownBy w' (some g)) (ho : w'.heap[g]? = some o) (hm : MapO kd m' o) : EnvM w0 ((g, kd, m') :: ms) rs w' := by
  obtain ⟨⟨o0, ho0, hm0⟩, hs0⟩ := h.maps (g, kd, m) (by simp)
  refine ⟨h.env.grown hg (fun r hr e => hm0.ne ho0 (h.env.rows r hr).1 (by injection e with e; exact e.symm)) (fun k e => by injection e with e; subst e; exact hs0), fun x hx => ?_, h.mapart⟩
  rcases List.mem_cons.1 hx with rfl | hx
  · exact ⟨⟨o, ho, hm⟩, hs0⟩
  · obtain ⟨⟨o1, ho1, hm1⟩, hs1⟩ := h.maps x (List.mem_cons_of_mem _ hx)
    refine ⟨⟨o1, (hg.block _ (Array.getElem?_eq_some_iff.1 ho1).1 fun e => ?_).trans ho1, hm1⟩, hs1⟩
    injection e with e
    exact (List.nodup_cons.1 h.mapart).1 (List.mem_map.2 ⟨x, hx, e⟩)
theorem EnvM.newM (h : EnvM w0 ms rs w) (kd : IntKind) : EnvM w0 ((w.heap.size, kd, []) :: ms) rs (w.alloc (.map #[] 0)) := by
  have h2 := h.call ((Below.refl w.heap.size w).alloc (Nat.le_refl _) (.map #[] 0))
  refine ⟨h2.env, fun x hx => ?_, List.nodup_cons.2 ⟨fun hm => ?_, h.mapart⟩⟩
  · rcases List.mem_cons.1 hx with rfl | hx
    · exact ⟨⟨_, heap_alloc_new w _, MapO.empty kd⟩, h.size⟩
    · exact h2.maps x hx
  · obtain ⟨x, hx, e⟩ := List.mem_map.1 hm
    obtain ⟨⟨o, ho, _⟩, _⟩ := h.maps x hx
    have := (Array.getElem?_eq_some_iff.1 ho).1
    have e2 : x.1 = w.heap.size := e
    omega
theorem EnvM.ret (h : EnvM w0 ms rs w) (v : Value) : RetV w0 v (.returned v) w := ⟨rfl, h.env.below⟩
theorem EnvM.cellAt (h : EnvM w0 ms rs w) (i : Nat) (hi : rs[i]? = some (g, t, cs)) (j : Nat) {v : Value} (hv : cs[j]? = some v) : w.cell? ⟨g, j, none⟩ = some v := ((h.row i hi).cell j).trans hv
theorem EnvM.fzAt (h : EnvM w0 ms rs w) (i : Nat) (hi : rs[i]? = some (g, t, cs)) (j : Nat) : w.frozen? ⟨g, j, none⟩ = false := (h.row i hi).frozen j
end
section
variable {P : Program} {w0 w : World} {ms : List (Nat × IntKind × List (Nat × Value))} {rs : List (Nat × TypeId × Array Value)} {ops : Array Oper} {rest : List Oper} {o : Oper} {a : Act} {Q : Exit → Act → World → Prop}
theorem wpM_alloc (hgd : o.guard = none) (ty : TypeId) (ho : o.op = .alloc ty) (z : Array Value) (hz : (P.info? ty).map (·.zero) = some (some (.agg z))) (hE : EnvM w0 ms rs w)
    (h : ∀ g w', EnvM w0 ms ((g, ty, z) :: rs) w' → wpList P ops Q rest (a.put o.dst (.pointer (some ⟨g, 0, none⟩))) w') : wpList P ops Q (o :: rest) a w :=
  wpList_alloc_row hgd ty ho z hz fun g w' n => h g w' (hE.new n)
theorem wpM_box (hgd : o.guard = none) (ty : TypeId) (x : Operand) (ho : o.op = .box ty x) (cs : Array Value) (hx : a.eval x = .agg cs) (hE : EnvM w0 ms rs w)
    (h : ∀ g w', EnvM w0 ms ((g, ty, cs) :: rs) w' → wpList P ops Q rest (a.put o.dst (.pointer (some ⟨g, 0, none⟩))) w') : wpList P ops Q (o :: rest) a w :=
  wpList_box_row hgd ty x ho cs hx fun g w' n => h g w' (hE.new n)
theorem wpM_store (hgd : o.guard = none) (ty : TypeId) (x y : Operand) (ho : o.op = .store ty x y) (i g : Nat) (t : TypeId) (old cs : Array Value) (hi : rs[i]? = some (g, t, old)) (hx : a.eval x = .pointer (some ⟨g, 0, none⟩)) (hy : a.eval y = .agg cs)
    (hso : old.size = cs.size) (hs : (P.info? ty).map (·.size) = some cs.size) (h1 : ∀ u ∈ cs.toList, u.oneCell' = true) (hE : EnvM w0 ms rs w)
    (h : ∀ w', EnvM w0 ms (rs.set i (g, t, cs)) w' → wpList P ops Q rest (a.put o.dst undef) w') : wpList P ops Q (o :: rest) a w :=
  wpList_store_row hgd ty x y ho g t old cs hx hy (hE.row i hi) hso hs h1 fun w' p => h w' (hE.put i hi p)
theorem wpM_load (hgd : o.guard = none) (ty : TypeId) (x : Operand) (ho : o.op = .load ty x) (i g : Nat) (t : TypeId) (cs : Array Value) (d : TypeDesc) (hi : rs[i]? = some (g, t, cs)) (hx : a.eval x = .pointer (some ⟨g, 0, none⟩))
    (hu : P.underlying ty = some d) (hd : (match d with | .struct _ | .array _ _ => true | _ => false) = true) (hs : (P.info? ty).map (·.size) = some cs.size) (hE : EnvM w0 ms rs w)
    (h : wpList P ops Q rest (a.put o.dst (.agg cs)) w) : wpList P ops Q (o :: rest) a w :=
  wpList_load_row hgd ty x ho g hx t cs (0, 0) d (hE.row i hi) hu hd hs h
end
end Go.Proofs.Ythipdfmaaeoijaa
end
section
namespace Go.Proofs.Ythipdfmaaeoijaa
open Go.RowKit
set_option linter.unusedVariables false

def cellsN (l : List Nat) : List Value := l.map fun x : Nat => Value.int .u64 (x : Int)
def natsC (l : List Nat) : Array Value := (cellsN l).toArray
theorem cellsN_length (l : List Nat) : (cellsN l).length = l.length := by simp [cellsN]
theorem natsC_size (l : List Nat) : (natsC l).size = l.length := by simp [natsC, cellsN]
theorem natsC_list (l : List Nat) : (natsC l).toList = cellsN l := rfl
theorem natsC_one (l : List Nat) : ∀ u ∈ (natsC l).toList, u.oneCell' = true := by
  intro u hu
  obtain ⟨b, _, rfl⟩ := List.mem_map.1 (show u ∈ cellsN l from hu)
  rfl
theorem natsC_get (l : List Nat) (j : Nat) (h : j < l.length) : (natsC l)[j]? = some (.int .u64 ((l.getD j 0 : Nat) : Int)) := by
  simp [natsC, cellsN, h]
theorem natsC_cell {w : World} {g : Nat} {t : TypeId} {l : List Nat} (h : RowAt w g t (natsC l)) (j : Nat) (hj : j < l.length) : w.cell? ⟨g, j, none⟩ = some (.int .u64 ((l.getD j 0 : Nat) : Int)) := by
  rw [h.cell, natsC_get l j hj]
theorem natsC_put (l : List Nat) (j x : Nat) : (natsC l).setIfInBounds j (.int .u64 (x : Int)) = natsC (l.set j x) := by
  apply Array.toList_inj.1
  simp [natsC, cellsN, List.map_set]
theorem natsC_same {a b : List Nat} {n : Nat} (ha : a.length = n) (hb : b.length = n) : (natsC a).size = (natsC b).size := by rw [natsC_size, natsC_size, ha, hb]
theorem sizeN {P : Program} {t : TypeId} {n : Nat} (hs : (P.info? t).map (·.size) = some n) (l : List Nat) (h : l.length = n) : (P.info? t).map (·.size) = some (natsC l).size := by rw [natsC_size, h, hs]
theorem Env.cellN {w0 w : World} {rs : List (Nat × TypeId × Array Value)} {g : Nat} {t : TypeId} {l : List Nat} (h : Env w0 rs w) (i : Nat) (hi : rs[i]? = some (g, t, natsC l)) (j x : Nat) :
    Env w0 (rs.set i (g, t, natsC (l.set j x))) (w.setCell ⟨g, j, none⟩ (.int .u64 (x : Int))) := h.cellTo i hi j _ (natsC_put l j x)
theorem Env.getN {w0 w : World} {rs : List (Nat × TypeId × Array Value)} {g : Nat} {t : TypeId} {l : List Nat} (h : Env w0 rs w) (i : Nat) (hi : rs[i]? = some (g, t, natsC l)) (j : Nat) (hj : j < l.length) :
    w.cell? ⟨g, j, none⟩ = some (.int .u64 ((l.getD j 0 : Nat) : Int)) := natsC_cell (h.row i hi) j hj
theorem Env.fzN {w0 w : World} {rs : List (Nat × TypeId × Array Value)} {g : Nat} {t : TypeId} {cs : Array Value} (h : Env w0 rs w) (i : Nat) (hi : rs[i]? = some (g, t, cs)) (j : Nat) :
    w.frozen? ⟨g, j, none⟩ = false := (h.row i hi).frozen j

theorem getD_lt {l : List Nat} {B : Nat} (h : ∀ x ∈ l, x < B) (hB : 0 < B) (j : Nat) : l.getD j 0 < B := by
  rw [List.getD_eq_getElem?_getD]
  cases hc : l[j]? with
  | none => simpa using hB
  | some x => simpa using h x (List.mem_of_getElem? hc)
theorem all_set {l : List Nat} {B : Nat} (h : ∀ x ∈ l, x < B) (j y : Nat) (hy : y < B) : ∀ x ∈ l.set j y, x < B := by
  intro x hx
  rcases List.mem_or_eq_of_mem_set hx with hx | rfl
  · exact h x hx
  · exact hy

/-! What the walk's terms come to. -/
theorem wrap64 (n : Nat) (h : n < 18446744073709551616) : IntKind.u64.wrap (n : Int) = (n : Int) := by rw [IntKind.wrap_u64]; omega
theorem and51 (n : Nat) (h : n < 18446744073709551616) : bits .and .u64 (n : Int) 2251799813685247 = ((n % 2251799813685248 : Nat) : Int) := by
  have := u64_and_nat n 2251799813685247 h (by omega)
  rw [show ((2251799813685247 : Nat) : Int) = 2251799813685247 from rfl] at this
  rw [this]
  congr 1
  exact Nat.and_two_pow_sub_one_eq_mod n 51
theorem or_add (a b s : Nat) (ha : a < 2 ^ s) (hb : b % 2 ^ s = 0) : a ||| b = a + b := by
  have e : b = 2 ^ s * (b / 2 ^ s) := by have := Nat.div_add_mod b (2 ^ s); omega
  rw [e, Nat.or_comm, ← Nat.two_pow_add_eq_or_of_lt ha, Nat.add_comm]
theorem or64 (a b s : Nat) (ha : a < 2 ^ s) (hb : b % 2 ^ s = 0) (h1 : a < 18446744073709551616) (h2 : b < 18446744073709551616) : bits .or .u64 (a : Int) (b : Int) = ((a + b : Nat) : Int) := by
  rw [u64_or_nat a b h1 h2, or_add a b s ha hb]
theorem or64r (a b s : Nat) (ha : a < 2 ^ s) (hb : b % 2 ^ s = 0) (h1 : a < 18446744073709551616) (h2 : b < 18446744073709551616) : bits .or .u64 (b : Int) (a : Int) = ((a + b : Nat) : Int) := by
  rw [u64_or_nat b a h2 h1, Nat.or_comm, or_add a b s ha hb]

/-- Arrays of words held against one another. -/
theorem rangeN_all (a b : List Nat) (h : a.length = b.length) : ((List.range a.length).all fun i => a.getD i 0 == b.getD i 0) = (a == b) := by
  rw [Bool.eq_iff_iff, List.all_eq_true, beq_iff_eq]
  constructor
  · intro hall
    apply List.ext_getElem h
    intro i h1 h2
    have := hall i (List.mem_range.2 h1)
    simpa [h1, h2] using this
  · rintro rfl i _
    exact beq_self_eq_true _
theorem nats_eqIn {P : Program} (w : World) (d : Nat) (t e : TypeId) (n : Nat) (ht : P.underlying t = some (.array n e)) (he : P.underlying e = some (.int .u64)) (hs : ∀ w, (sizeOf e).run P w = .ok 1 w)
    (a b : List Nat) (ha : a.length = n) (hb : b.length = n) : (Op.equalIn (d + 2) t (.agg (natsC a)) (.agg (natsC b))).run P w = .ok (a == b) w := by
  rw [← rangeN_all a b (ha.trans hb.symm), ha, List.range_eq_range', Op.equalIn]
  simp only [Sem.run_bind, run_underlying ht, Result.andThen_ok, hs, Std.Legacy.Range.forIn_eq_forIn_range', Std.Legacy.Range.size, Nat.sub_zero, Nat.add_sub_cancel, Nat.div_one]
  have hin : ∀ i ∈ List.range' 0 n 1, i < n := fun i hi => by
    have := (List.mem_range'_1.1 hi).2
    omega
  generalize List.range' 0 n 1 = r at hin ⊢
  induction r with
  | nil => simp
  | cons i r ih =>
    have hi : i < n := hin i (by simp)
    have at_ : ∀ l : List Nat, l.length = n → (part e (natsC l) (i * 1)).run P w = .ok (.int .u64 ((l.getD i 0 : Nat) : Int)) w := fun l hl => by
      simp [part, isAgg, run_underlying he, natsC_get l i (by omega)]
    have one : (Op.equalIn (d + 1) e (.int .u64 ((a.getD i 0 : Nat) : Int)) (.int .u64 ((b.getD i 0 : Nat) : Int))).run P w = .ok (a.getD i 0 == b.getD i 0) w := by
      rw [run_equalIn_int w d e .u64 .u64 _ _ he]
      congr 1
      rw [Bool.eq_iff_iff, beq_iff_eq, beq_iff_eq]
      omega
    simp only [List.forIn_cons, Sem.run_bind, at_ a ha, at_ b hb, one, Result.andThen_ok, List.all_cons]
    cases hc : (a.getD i 0 == b.getD i 0)
    · simp
    · simp only [Bool.not_true, Bool.false_eq_true, if_false, Sem.run_pure, Result.andThen_ok, Bool.true_and]
      exact ih fun j hj => hin j (List.mem_cons_of_mem _ hj)
/-- 'x[i]' of an array of words by value. -/
theorem run_indexN {P : Program} (w : World) (t e : TypeId) (n : Nat) (l : List Nat) (i : Nat) (ht : P.underlying t = some (.array n e)) (he : P.underlying e = some (.int .u64)) (hs : (P.info? e).map (·.size) = some 1) (hl : l.length = n) (hi : i < n) :
    (Instr.index t (.agg (natsC l)) (.int .i64 (i : Int))).run P w = .ok (.int .u64 ((l.getD i 0 : Nat) : Int)) w := by
  obtain ⟨f, hf, hz⟩ := Option.map_eq_some_iff.1 hs
  simp [Instr.index, run_underlying ht, asIntOf, hi, part, isAgg, run_underlying he, sizeOf, typeInfo, hf, hz, natsC_get l i (by omega), go_sem]
/-- 'x[i]' of an array of structs of m cells, by value. -/
theorem run_index_struct {P : Program} (w : World) (t e : TypeId) (n m : Nat) (fs : Array Field) (cs : Array Value) (kd : IntKind) (i : Nat) (ht : P.underlying t = some (.array n e)) (he : P.underlying e = some (.struct fs)) (hs : (P.info? e).map (·.size) = some m) (hi : i < n) :
    (Instr.index t (.agg cs) (.int kd (i : Int))).run P w = .ok (.agg (cs.extract (i * m) (i * m + m))) w := by
  obtain ⟨f, hf, hz⟩ := Option.map_eq_some_iff.1 hs
  simp [Instr.index, run_underlying ht, asIntOf, hi, part, isAgg, run_underlying he, sizeOf, typeInfo, hf, hz, go_sem]
/-! A struct that is made of one part, as long as the whole. -/
theorem fill_list (l : List Value) : ∀ (k : Nat) (acc : Array Value), acc.size = k + l.length → (l.zipIdx k).foldl (fun cs x => cs.setIfInBounds (0 + x.2) x.1) acc = (acc.toList.take k ++ l).toArray := by
  induction l with
  | nil => intro k acc h; simp only [List.zipIdx_nil, List.foldl_nil]; rw [List.take_of_length_le (by simp at h; simp; omega)]; simp
  | cons c l ih =>
    intro k acc h
    simp only [List.length_cons] at h
    simp only [List.zipIdx_cons, List.foldl_cons]
    rw [ih (k + 1) _ (by simp; omega)]
    congr 1
    simp only [Array.toList_setIfInBounds, Nat.zero_add]
    rw [List.take_succ_eq_append_getElem (by simp; omega)]
    simp [List.take_set_of_le]
theorem fill_whole (z cs : Array Value) (h : z.size = cs.size) : cs.zipIdx.foldl (fun acc x => acc.setIfInBounds (0 + x.2) x.1) z = cs := by
  rw [← Array.foldl_toList, Array.toList_zipIdx, fill_list cs.toList 0 z (by simpa using h)]
  simp
theorem run_build1 {P : Program} (w : World) (t : TypeId) (f : Field) (n : Nat) (z cs : Array Value) (hu : P.underlying t = some (.struct #[f])) (h0 : f.offset = 0) (hs : (P.info? f.type).map (·.size) = some n) (hz : (P.info? t).map (·.zero) = some (some (.agg z))) (hzn : z.size = n) (hc : cs.size = n) :
    (Instr.build t #[(0, .agg cs)]).run P w = .ok (.agg cs) w := by
  obtain ⟨i, hi, hi2⟩ := Option.map_eq_some_iff.1 hs
  obtain ⟨j, hj, hj2⟩ := Option.map_eq_some_iff.1 hz
  have hf := fill_whole z cs (by omega)
  simp [Instr.build, zeroValue, typeInfo, hj, hj2, run_underlying hu, sizeOf, hi, hi2, Instr.fill, Value.cells, h0, hzn, hc, go_sem]
  simpa [hc] using hf
section
variable {P : Program} {w : World} {ops : Array Oper} {rest : List Oper} {o : Oper} {a : Act} {Q : Exit → Act → World → Prop}
theorem wpList_build1 (hgd : o.guard = none) (t : TypeId) (x : Operand) (ho : o.op = .build t #[(0, x)]) (cs : Array Value) (hx : a.eval x = .agg cs) (f : Field) (n : Nat) (z : Array Value) (hu : P.underlying t = some (.struct #[f])) (h0 : f.offset = 0) (hs : (P.info? f.type).map (·.size) = some n) (hz : (P.info? t).map (·.zero) = some (some (.agg z))) (hzn : z.size = n) (hc : cs.size = n)
    (h : wpList P ops Q rest (a.put o.dst (.agg cs)) w) : wpList P ops Q (o :: rest) a w := by
  refine wpList_plain hgd fun _ hK => ?_
  unfold Oper.wp execOp
  simp [ho, hx, run_build1 w t f n z cs hu h0 hs hz hzn hc]
  exact hK _ _ h
variable {w0 : World} {rs : List (Nat × TypeId × Array Value)}
theorem wpE_loadN (hgd : o.guard = none) (ty : TypeId) (x : Operand) (ho : o.op = .load ty x) (i g k : Nat) (t : TypeId) (l m : List Nat) (d : TypeDesc) (hi : rs[i]? = some (g, t, natsC l)) (hx : a.eval x = .pointer (some ⟨g, k, none⟩))
    (hp : (l.drop k).take m.length = m)
    (hu : P.underlying ty = some d) (hd : d.isRow = true) (hs : (P.info? ty).map (·.size) = some m.length) (hE : Env w0 rs w)
    (h : wpList P ops Q rest (a.put o.dst (.agg (natsC m))) w) : wpList P ops Q (o :: rest) a w :=
  wpE_loadP hgd ty x ho i g k t (natsC l) (cellsN m) d hi hx (by rw [cellsN_length, natsC_list]; unfold cellsN; rw [← List.map_drop, ← List.map_take, hp]) hu hd (by rw [cellsN_length, hs]) hE h
theorem wpE_storeN (hgd : o.guard = none) (ty : TypeId) (x y : Operand) (ho : o.op = .store ty x y) (i g k : Nat) (t : TypeId) (l m l' : List Nat) (hi : rs[i]? = some (g, t, natsC l)) (hx : a.eval x = .pointer (some ⟨g, k, none⟩)) (hy : a.eval y = .agg (natsC m))
    (hk : k + m.length ≤ l.length) (hc : l.take k ++ m ++ l.drop (k + m.length) = l') (hs : (P.info? ty).map (·.size) = some m.length) (hE : Env w0 rs w)
    (h : ∀ w', Env w0 (rs.set i (g, t, natsC l')) w' → wpList P ops Q rest (a.put o.dst undef) w') : wpList P ops Q (o :: rest) a w :=
  wpE_storeP hgd ty x y ho i g k t (natsC l) (natsC l') (natsC m) hi hx hy (by rw [natsC_size, natsC_size]; exact hk) (by rw [← hc, natsC_size]; simp [natsC, cellsN]) (by rw [natsC_size, hs]) (natsC_one m) hE h
end
end Go.Proofs.Ythipdfmaaeoijaa
end
section
namespace Go.Proofs.Ythipdfmaaeoijaa
set_option linter.unusedVariables false

def Mx : Nat := 2251799813685248
def pF : Nat := 57896044618658097711785492504343953926634992332820282019728792003956564819949
theorem Mx_pos : 0 < Mx := by decide
theorem Mx5 : Mx ^ 5 = pF + 19 := by decide

def valL : List Nat → Nat
  | [] => 0
  | x :: l => x + Mx * valL l
def digL : Nat → Nat → List Nat
  | 0, _ => []
  | k + 1, n => n % Mx :: digL k (n / Mx)

theorem digL_length (k n : Nat) : (digL k n).length = k := by
  induction k generalizing n with
  | zero => rfl
  | succ k ih => simp [digL, ih]
theorem digL_lt (k n : Nat) : ∀ x ∈ digL k n, x < Mx := by
  induction k generalizing n with
  | zero => intro x hx; cases hx
  | succ k ih =>
    intro x hx
    rcases List.mem_cons.1 hx with rfl | hx
    · exact Nat.mod_lt _ Mx_pos
    · exact ih _ x hx
theorem digL_valL (l : List Nat) (h : ∀ x ∈ l, x < Mx) : digL l.length (valL l) = l := by
  induction l with
  | nil => rfl
  | cons x l ih =>
    have hx := h x (by simp)
    simp only [List.length_cons, digL, valL]
    rw [Nat.add_mul_mod_self_left, Nat.mod_eq_of_lt hx, Nat.add_mul_div_left _ _ Mx_pos, Nat.div_eq_of_lt hx, Nat.zero_add, ih fun y hy => h y (by simp [hy])]
theorem valL_digL (k n : Nat) : valL (digL k n) = n % Mx ^ k := by
  induction k generalizing n with
  | zero => simp [digL, valL, Nat.mod_one]
  | succ k ih => rw [digL, valL, ih, Nat.pow_succ, Nat.mul_comm (Mx ^ k), Nat.mod_mul]
theorem digL_snoc (k n : Nat) : digL (k + 1) n = digL k n ++ [n / Mx ^ k % Mx] := by
  induction k generalizing n with
  | zero => simp [digL]
  | succ k ih =>
    rw [digL, ih, digL]
    simp [Nat.div_div_eq_div_mul, Nat.pow_succ, Nat.mul_comm]
theorem digL_mod (k n x : Nat) : digL k (n + Mx ^ k * x) = digL k n := by
  induction k generalizing n with
  | zero => rfl
  | succ k ih =>
    have e : n + Mx ^ (k + 1) * x = n + Mx * (Mx ^ k * x) := by rw [Nat.pow_succ, Nat.mul_comm (Mx ^ k) Mx, Nat.mul_assoc]
    rw [digL, digL, e, Nat.add_mul_mod_self_left, Nat.add_mul_div_left _ _ Mx_pos, ih]
theorem valL_append (a b : List Nat) : valL (a ++ b) = valL a + Mx ^ a.length * valL b := by
  induction a with
  | nil => simp [valL]
  | cons x a ih =>
    simp only [List.cons_append, valL, ih, List.length_cons, Nat.pow_succ]
    rw [Nat.mul_add, ← Nat.mul_assoc, Nat.mul_comm Mx (Mx ^ a.length), Nat.add_assoc]
theorem digL_inj {k m n : Nat} (hm : m < Mx ^ k) (hn : n < Mx ^ k) (h : digL k m = digL k n) : m = n := by
  have := congrArg valL h
  rwa [valL_digL, valL_digL, Nat.mod_eq_of_lt hm, Nat.mod_eq_of_lt hn] at this

/-- What carrying has made of the first k, and what it hands on. -/
def stC (l : List Nat) (k : Nat) : List Nat := digL k (valL (l.take k)) ++ l.drop k
def cyC (l : List Nat) (k : Nat) : Nat := valL (l.take k) / Mx ^ k
theorem stC_length (l : List Nat) (k : Nat) (h : k ≤ l.length) : (stC l k).length = l.length := by simp [stC, digL_length]; omega
theorem stC_zero (l : List Nat) : stC l 0 = l := by simp [stC, digL]
theorem cyC_zero (l : List Nat) : cyC l 0 = 0 := by simp [cyC, valL]
theorem take_val (l : List Nat) (k : Nat) (h : k < l.length) : valL (l.take (k + 1)) = valL (l.take k) + Mx ^ k * l.getD k 0 := by
  rw [List.take_succ_eq_append_getElem h, valL_append, List.length_take_of_le (by omega)]
  simp [valL, h]
theorem cyC_succ (l : List Nat) (k : Nat) (h : k < l.length) : cyC l (k + 1) = (l.getD k 0 + cyC l k) / Mx := by
  unfold cyC
  rw [take_val l k h, Nat.pow_succ, ← Nat.div_div_eq_div_mul, Nat.add_mul_div_left _ _ (Nat.pow_pos Mx_pos), Nat.add_comm]
theorem stC_get (l : List Nat) (k : Nat) (h : k < l.length) : (stC l k).getD k 0 = l.getD k 0 := by
  simp only [stC, List.getD_eq_getElem?_getD]
  rw [List.getElem?_append_right (by rw [digL_length]; exact Nat.le_refl _), digL_length, Nat.sub_self, List.getElem?_drop]
  simp
theorem stC_step (l : List Nat) (k : Nat) (h : k < l.length) : (stC l k).set k ((l.getD k 0 + cyC l k) % Mx) = stC l (k + 1) := by
  unfold stC
  rw [List.set_append_right _ _ (by rw [digL_length]; exact Nat.le_refl _), digL_length, Nat.sub_self, digL_snoc, take_val l k h, digL_mod, List.append_assoc]
  congr 1
  rw [List.drop_eq_getElem_cons h, List.set_cons_zero]
  have e : (valL (l.take k) + Mx ^ k * l.getD k 0) / Mx ^ k % Mx = (l.getD k 0 + cyC l k) % Mx := by
    rw [Nat.add_mul_div_left _ _ (Nat.pow_pos Mx_pos), Nat.add_comm]
    rfl
  rw [e]
  rfl
theorem cyC_lt (l : List Nat) (B : Nat) (hB : ∀ x ∈ l, x < B) (hB0 : 0 < B) (k : Nat) (h : k ≤ l.length) : Mx * cyC l k < 2 * B := by
  induction k with
  | zero => rw [cyC_zero]; omega
  | succ k ih =>
    have hx : l.getD k 0 < B := by
      have := hB (l[k]'(by omega)) (List.getElem_mem _)
      simpa [List.getD_eq_getElem?_getD, show k < l.length by omega] using this
    have h1 := ih (by omega)
    rw [cyC_succ l k (by omega)]
    have h2 := Nat.mul_div_le (l.getD k 0 + cyC l k) Mx
    have h3 : 2 * cyC l k ≤ Mx * cyC l k := Nat.mul_le_mul_right _ (by decide)
    omega

/-- One round of carrying, what is left over coming back to the first one nineteen times. -/
def carriedL (l : List Nat) : List Nat := (digL 5 (valL l)).set 0 (valL l % Mx + 19 * (valL l / Mx ^ 5))
def foldN (n : Nat) : Nat := n % Mx ^ 5 + 19 * (n / Mx ^ 5)
theorem carriedL_length (l : List Nat) : (carriedL l).length = 5 := by simp [carriedL, digL_length]
theorem digL5 (n : Nat) : digL 5 n = [n % Mx, n / Mx % Mx, n / Mx / Mx % Mx, n / Mx / Mx / Mx % Mx, n / Mx / Mx / Mx / Mx % Mx] := rfl
theorem carriedL_val (l : List Nat) : valL (carriedL l) = foldN (valL l) := by
  generalize hn : valL l = n
  have h1 := valL_digL 5 n
  unfold carriedL foldN
  rw [hn]
  rw [digL5] at h1 ⊢
  simp only [List.set_cons_zero, valL] at h1 ⊢
  omega
theorem foldN_mod (n : Nat) : foldN n % pF = n % pF := by
  have h := Nat.div_add_mod n (Mx ^ 5)
  have e : n = foldN n + pF * (n / Mx ^ 5) := by
    unfold foldN
    have : Mx ^ 5 * (n / Mx ^ 5) = pF * (n / Mx ^ 5) + 19 * (n / Mx ^ 5) := by rw [Mx5, Nat.add_mul]
    omega
  rw [e, Nat.add_mul_mod_self_left]
  rw [← e]
theorem carried_again (n2 : Nat) (h : n2 < Mx ^ 5 + 2000000) : (digL 5 n2).set 0 (n2 % Mx + 19 * (n2 / Mx ^ 5)) = digL 5 (foldN n2) ∧ foldN n2 < Mx ^ 5 := by
  rcases Nat.lt_or_ge n2 (Mx ^ 5) with hl | hl
  · have e : foldN n2 = n2 := by unfold foldN; rw [Nat.mod_eq_of_lt hl, Nat.div_eq_of_lt hl]; omega
    rw [e, Nat.div_eq_of_lt hl, digL5]
    exact ⟨by simp, hl⟩
  · obtain ⟨s, rfl⟩ : ∃ s, n2 = s + Mx ^ 5 * 1 := ⟨n2 - Mx ^ 5, by omega⟩
    have hs : s < 2000000 := by omega
    have hM : 3000000 < Mx := by decide
    have hM5 : Mx < Mx ^ 5 := by decide
    have d1 : (s + Mx ^ 5 * 1) / Mx ^ 5 = 1 := by rw [Nat.add_mul_div_left _ _ (by decide), Nat.div_eq_of_lt (by omega)]
    have d2 : (s + Mx ^ 5 * 1) % Mx ^ 5 = s := by rw [Nat.add_mul_mod_self_left, Nat.mod_eq_of_lt (by omega)]
    have d3 : (s + Mx ^ 5 * 1) % Mx = s := by
      rw [show s + Mx ^ 5 * 1 = s + Mx * Mx ^ 4 by rw [Nat.mul_one, Nat.mul_comm Mx]; rfl, Nat.add_mul_mod_self_left, Nat.mod_eq_of_lt (by omega)]
    have e : foldN (s + Mx ^ 5 * 1) = s + 19 := by unfold foldN; rw [d1, d2]
    rw [e, d1, d3, digL_mod, digL5, digL5]
    have z1 : s / Mx = 0 := Nat.div_eq_of_lt (by omega)
    have z2 : (s + 19) / Mx = 0 := Nat.div_eq_of_lt (by omega)
    have z3 : (s + 19) % Mx = s + 19 := Nat.mod_eq_of_lt (by omega)
    refine ⟨?_, by omega⟩
    rw [z1, z2, z3]
    simp
theorem valL5_lt (l : List Nat) (hl : l.length = 5) (h : ∀ x ∈ l, x < 9223372036854775808) : valL l < Mx ^ 5 * 8192 := by
  match l, hl with
  | [a, b, c, d, e], _ =>
    have ha := h a (by simp)
    have hb := h b (by simp)
    have hc := h c (by simp)
    have hd := h d (by simp)
    have he := h e (by simp)
    simp only [valL, Mx]
    omega
theorem foldN_lt (n : Nat) (h : n < Mx ^ 5 * 8192) : foldN n < Mx ^ 5 + 2000000 := by
  have h1 : n / Mx ^ 5 < 8192 := Nat.div_lt_of_lt_mul h
  have h2 := Nat.mod_lt n (show 0 < Mx ^ 5 by decide)
  unfold foldN
  omega

/-- What two rounds make. -/
def twiceN (n : Nat) : Nat := foldN (foldN n)
theorem carried_twice (l : List Nat) (hl : l.length = 5) (h : ∀ x ∈ l, x < 9223372036854775808) : carriedL (carriedL l) = digL 5 (twiceN (valL l)) ∧ twiceN (valL l) < Mx ^ 5 := by
  have h1 := carried_again (foldN (valL l)) (foldN_lt _ (valL5_lt l hl h))
  unfold twiceN
  refine ⟨?_, h1.2⟩
  rw [← h1.1]
  unfold carriedL
  rw [show valL ((digL 5 (valL l)).set 0 (valL l % Mx + 19 * (valL l / Mx ^ 5))) = foldN (valL l) from carriedL_val l]
theorem twiceN_mod (n : Nat) : twiceN n % pF = n % pF := by unfold twiceN; rw [foldN_mod, foldN_mod]
theorem carriedL_lt (l : List Nat) (hl : l.length = 5) (h : ∀ x ∈ l, x < 9223372036854775808) : ∀ x ∈ carriedL l, x < 9223372036854775808 := by
  have h1 : valL l / Mx ^ 5 < 8192 := Nat.div_lt_of_lt_mul (valL5_lt l hl h)
  have h2 := Nat.mod_lt (valL l) Mx_pos
  have hM : Mx + 200000 < 9223372036854775808 := by decide
  intro x hx
  rcases List.mem_or_eq_of_mem_set hx with hx | rfl
  · have := digL_lt 5 _ x hx
    omega
  · omega

/-- The one array of a number below p. -/
def elemL (n : Nat) : List Nat := digL 5 n
theorem elemL_length (n : Nat) : (elemL n).length = 5 := digL_length 5 n
theorem elemL_lt (n : Nat) : ∀ x ∈ elemL n, x < Mx := digL_lt 5 n
theorem pF_lt : pF < Mx ^ 5 := by decide
theorem elemL_val (n : Nat) (h : n < pF) : valL (elemL n) = n := by
  unfold elemL
  rw [valL_digL, Nat.mod_eq_of_lt (Nat.lt_trans h pF_lt)]
theorem elemL_inj {m n : Nat} (hm : m < pF) (hn : n < pF) (h : elemL m = elemL n) : m = n := by
  have := congrArg valL h
  rwa [elemL_val m hm, elemL_val n hn] at this

/-- Whether what two rounds have left is not below p. -/
theorem not_below (m : Nat) (h : m < Mx ^ 5) : (2251799813685229 ≤ m % Mx ∧ digL 5 m = [m % Mx, 2251799813685247, 2251799813685247, 2251799813685247, 2251799813685247]) ↔ pF ≤ m := by
  rw [digL5]
  simp only [List.cons.injEq, and_true, true_and]
  unfold Mx at *
  unfold pF
  omega
theorem less_p (m : Nat) (h : m < Mx ^ 5) (hp : pF ≤ m) : [m % Mx - 2251799813685229, 0, 0, 0, 0] = elemL (m % pF) := by
  have e : m % pF = m - pF := by
    rw [Nat.mod_eq_sub_mod hp, Nat.mod_eq_of_lt]
    rw [Mx5] at h
    unfold pF at *
    omega
  unfold elemL
  rw [e, digL5]
  simp only [List.cons.injEq, and_true]
  unfold Mx at *
  unfold pF at *
  omega
theorem below_p (m : Nat) (hp : ¬ pF ≤ m) : digL 5 m = elemL (m % pF) := by
  unfold elemL
  rw [Nat.mod_eq_of_lt (by omega)]
end Go.Proofs.Ythipdfmaaeoijaa
end
section
namespace Go.Proofs.Ythipdfmaaeoijaa
open Go.RowKit
set_option linter.unusedVariables false
set_option maxRecDepth 20000

theorem Try.sz5p : (Try.prog.info? 57).map (·.size) = some 5 := by kernel_rfl
theorem Try.sz5e : (Try.prog.info? 59).map (·.size) = some 5 := by kernel_rfl
theorem Try.sz5w : (Try.prog.info? 56).map (·.size) = some 5 := by kernel_rfl
theorem Try.szU64 : (Try.prog.info? 55).map (·.size) = some 1 := by kernel_rfl
def zero5 : List Nat := [0, 0, 0, 0, 0]
theorem zero5_length : zero5.length = 5 := rfl
theorem Try.zero5p : (Try.prog.info? 57).map (·.zero) = some (some (.agg (natsC zero5))) := by kernel_rfl
theorem Try.zero5e : (Try.prog.info? 59).map (·.zero) = some (some (.agg (natsC zero5))) := by kernel_rfl
theorem Try.zero5w : (Try.prog.info? 56).map (·.zero) = some (some (.agg (natsC zero5))) := by kernel_rfl

theorem place_any (w : World) (i : Nat) (hi : i < 5) :
    Calls Try.prog 39 #[.int .i64 (i : Int)] w fun e w' => e = .returned (.tuple #[.int .i64 ((51 * i / 64 : Nat) : Int), .int .u64 ((51 * i % 64 : Nat) : Int)]) ∧ w = w' := by
  go_enter Try.func39, Try.ntmps39
  go_wp2
  go_ret2
  have h1 : ((51 * i / 64 : Nat) : Int) = (51 * (i : Int)) / 64 := by omega
  have h2 : ((51 * i % 64 : Nat) : Int) = (51 * (i : Int)) % 64 := by omega
  exact ⟨by rw [h1, h2]; rfl, rfl⟩

set_option maxHeartbeats 1000000 in
theorem carried_any (w : World) (l : List Nat) (hl : l.length = 5) (hB : ∀ x ∈ l, x < 9223372036854775808) :
    Calls Try.prog 41 #[.agg (natsC l)] w (RetV w (.agg (natsC (carriedL l)))) := by
  have HL := Lib.hid hl
  have HB := Lib.hid hB
  clear hl hB
  have E0 := Env.start w
  go_enter Try.func41, Try.ntmps41
  go_wp2_with (first
    | ((with_reducible refine wpE_box (o := ⟨some 1, _, _, _, _, _⟩) rfl 57 (.tmp 0) rfl (natsC l) (by with_unfolding_all rfl) E0 ?_); intro g1 w1 E1)
    | ((with_reducible refine wpE_alloc (o := ⟨some 2, _, _, _, _, _⟩) rfl 57 rfl (natsC zero5) Try.zero5p E1 ?_); intro g2 w2 E2))
  have E2' := Lib.hid E2
  clear E0 E1 E2
  go_loopw [3, 5] (fun c i wr => ∃ k : Nat, k ≤ 5 ∧ i = .int .i64 k ∧ c = .int .u64 ((cyC l k : Nat) : Int) ∧ Env w [(g2, 57, natsC zero5), (g1, 57, natsC (stC l k))] wr) (fun _ i _ => 5 - (intOf i).toNat)
  case atStart => exact ⟨0, by omega, rfl, by rw [cyC_zero]; rfl, by rw [stC_zero]; exact E2'.out⟩
  case round =>
    clear E2'
    obtain ⟨k, hk, rfl, rfl, hE⟩ := hrel
    have E := Lib.hid hE
    clear hE
    by_cases hlt : k < 5
    · have hsl : (stC l k).length = 5 := by rw [stC_length l k (by rw [HL.out]; omega), HL.out]
      have c1 := E.out.getN 1 rfl k (by rw [hsl]; omega)
      have f1 := E.out.fzN 1 rfl k
      rw [stC_get l k (by rw [HL.out]; omega)] at c1
      have hx := getD_lt HB.out (by omega) k
      have hc := cyC_lt l _ HB.out (by omega) k (by rw [HL.out]; omega)
      have hc2 : cyC l k < 16384 := by unfold Mx at hc; omega
      have hstep := stC_step l k (by rw [HL.out]; omega)
      have hcy := cyC_succ l k (by rw [HL.out]; omega)
      generalize l.getD k 0 = x at c1 hx hstep hcy
      generalize cyC l k = c at hc2 hstep hcy ⊢
      clear hc hsl
      have E3 := (E.out.cellN 1 rfl k (x + c)).cellN 1 rfl k ((x + c) % 2251799813685248)
      simp only [List.set_cons_zero, List.set_cons_succ, List.set_set] at E3
      rw [show (stC l k).set k ((x + c) % 2251799813685248) = stC l (k + 1) from hstep] at E3
      have HE := Lib.hid E3
      have hsum : IntKind.u64.wrap ((x : Int) + (c : Int)) = ((x + c : Nat) : Int) := by rw [IntKind.wrap_u64]; omega
      have hdiv : ((x + c : Nat) : Int) / 2251799813685248 = ((cyC l (k + 1) : Nat) : Int) := by rw [hcy]; unfold Mx; omega
      have hand := and51 (x + c) (by omega)
      have hq : (k : Int) < 5 := by omega
      generalize (x + c) % 2251799813685248 = y at HE hand
      generalize x + c = s at HE hsum hdiv hand
      obtain ⟨c', hc'⟩ : ∃ c', c' = cyC l (k + 1) := ⟨_, rfl⟩
      rw [← hc'] at hdiv
      have HC := Lib.hid hc'
      clear hc'
      clear hstep hcy E3 E
      go_wp2
      go_roundw
      case rel => exact ⟨k + 1, by omega, by go_num, by rw [HC.out], HE.out⟩
      case measure => simp [intOf]; omega
    · have hk5 : k = 5 := by omega
      have e1 : stC l k = digL 5 (valL l) := by
        rw [hk5]
        unfold stC
        rw [List.take_of_length_le (by rw [HL.out]; omega), List.drop_eq_nil_of_le (by rw [HL.out]; omega), List.append_nil]
      have e2 : cyC l k = valL l / Mx ^ 5 := by rw [hk5]; unfold cyC; rw [List.take_of_length_le (by rw [HL.out]; omega)]
      have hsl : (stC l k).length = 5 := by rw [e1, digL_length]
      have hfin : (stC l k).set 0 ((stC l k).getD 0 0 + 19 * cyC l k) = carriedL l := by rw [e1, e2]; rfl
      have c1 := E.out.getN 1 rfl 0 (by rw [hsl]; omega)
      have f1 := E.out.fzN 1 rfl 0
      have hd2 : (stC l k).getD 0 0 < 2251799813685248 := by rw [e1]; exact getD_lt (digL_lt 5 _) Mx_pos 0
      have hc := cyC_lt l _ HB.out (by omega) k (by rw [HL.out]; omega)
      have hc2 : cyC l k < 16384 := by unfold Mx at hc; omega
      have E3 := E.out.cellN 1 rfl 0 ((stC l k).getD 0 0 + 19 * cyC l k)
      simp only [List.set_cons_zero, List.set_cons_succ] at E3
      rw [hfin] at E3
      have HE := Lib.hid E3
      clear hc E3 E hfin hsl e1 e2 hk5
      generalize (stC l k).getD 0 0 = x at c1 hd2 HE
      generalize cyC l k = c at hc2 HE ⊢
      have hx : x + 19 * c < 18446744073709551616 := by omega
      obtain ⟨s, hs⟩ : ∃ s, s = x + 19 * c := ⟨_, rfl⟩
      have hsum : (x : Int) + 19 * (c : Int) = (s : Int) := by omega
      rw [← hs] at HE hx
      clear hs
      go_wp2_with (first
        | (with_reducible refine wpE_load (o := ⟨some 30, _, _, _, _, _⟩) rfl 57 (.tmp 1) rfl 1 g1 57 (natsC (carriedL l)) (.array 5 55) (by with_unfolding_all rfl) (by with_unfolding_all rfl) Try.underlying57 rfl (sizeN Try.sz5p _ (carriedL_length l)) HE.out ?_)
        | ((with_reducible refine wpE_store (o := ⟨none, _, _, _, _, _⟩) rfl 57 (.tmp 2) (.tmp 30) rfl 0 g2 57 (natsC zero5) (natsC (carriedL l)) (by with_unfolding_all rfl) (by with_unfolding_all rfl) (by with_unfolding_all rfl) (natsC_same zero5_length (carriedL_length l)) (sizeN Try.sz5p _ (carriedL_length l)) (natsC_one _) HE.out ?_); intro w9 E9))
      refine bodyPost_ret (results_cell_row rfl _ _ g2 57 (natsC (carriedL l)) (0, 0) (.array 5 55) rfl (E9.row 0 rfl) Try.underlying57 rfl (sizeN Try.sz5p _ (carriedL_length l))) rfl (E9.ret _)
end Go.Proofs.Ythipdfmaaeoijaa
end
section
namespace Go.Proofs.Ythipdfmaaeoijaa
open Go.RowKit
set_option linter.unusedVariables false
set_option maxRecDepth 20000

theorem Try.sizeOfU64 (w : World) : (sizeOf 55).run Try.prog w = .ok 1 w := by kernel_rfl
theorem Try.eqPartsIn (a b : List Nat) (ha : a.length = 5) (hb : b.length = 5) (w : World) :
    (Op.equalIn 10000 57 (.agg (natsC a)) (.agg (natsC b))).run Try.prog w = .ok (a == b) w :=
  nats_eqIn w 9998 57 55 5 Try.underlying57 Try.underlying55 Try.sizeOfU64 a b ha hb
theorem Try.eqGuardParts : Try.prog.eqGuardType Try.prog.depth 57 = false := by kernel_rfl
theorem maskV (x : Nat) : Value.agg #[.int .u64 (x : Int), .int .u64 2251799813685247, .int .u64 2251799813685247, .int .u64 2251799813685247, .int .u64 2251799813685247] = .agg (natsC [x, 2251799813685247, 2251799813685247, 2251799813685247, 2251799813685247]) := rfl
theorem lessV (x : Nat) : Value.agg #[.int .u64 (x : Int), .int .u64 0, .int .u64 0, .int .u64 0, .int .u64 0] = .agg (natsC [x, 0, 0, 0, 0]) := rfl

theorem less_length (y : Nat) : [y, 0, 0, 0, 0].length = 5 := rfl

set_option maxHeartbeats 1000000 in
theorem reduced_any (w : World) (l : List Nat) (hl : l.length = 5) (hB : ∀ x ∈ l, x < 9223372036854775808) :
    Calls Try.prog 27 #[.agg (natsC l)] w (RetV w (.agg (natsC (elemL (valL l % pF))))) := by
  have C1 : Hid (∀ w, Calls Try.prog 41 #[.agg (natsC l)] w (RetV w (.agg (natsC (carriedL l))))) := fun w => carried_any w l hl hB
  have C2 : Hid (∀ w, Calls Try.prog 41 #[.agg (natsC (carriedL l))] w (RetV w (.agg (natsC (carriedL (carriedL l)))))) := fun w => carried_any w _ (carriedL_length l) (carriedL_lt l hl hB)
  obtain ⟨htw, hlt⟩ := carried_twice l hl hB
  have hmod := twiceN_mod (valL l)
  obtain ⟨m, hm⟩ : ∃ m, m = twiceN (valL l) := ⟨_, rfl⟩
  rw [← hm] at htw hlt hmod
  rw [← hmod]
  rw [htw] at C2
  have HL := Lib.hid hl
  have h0 : (digL 5 m).getD 0 0 = m % Mx := rfl
  have hml : m % Mx < 2251799813685248 := Nat.mod_lt _ Mx_pos
  obtain ⟨x, hx⟩ : ∃ x, x = m % Mx := ⟨_, rfl⟩
  rw [← hx] at h0 hml
  have HX := Lib.hid hx
  have HLT := Lib.hid hlt
  have hd := digL_length 5 m
  have HD := Lib.hid hd
  have hnb := not_below m hlt
  rw [← hx] at hnb
  have cases3 : (2251799813685229 ≤ x ∧ digL 5 m = [x, 2251799813685247, 2251799813685247, 2251799813685247, 2251799813685247] ∧ [x - 2251799813685229, 0, 0, 0, 0] = elemL (m % pF)) ∨ (2251799813685229 ≤ x ∧ digL 5 m ≠ [x, 2251799813685247, 2251799813685247, 2251799813685247, 2251799813685247] ∧ digL 5 m = elemL (m % pF)) ∨ (x < 2251799813685229 ∧ digL 5 m = elemL (m % pF)) := by
    by_cases hp : pF ≤ m
    · have h := hnb.2 hp
      exact .inl ⟨h.1, h.2, by rw [hx]; exact less_p m hlt hp⟩
    · by_cases hg : 2251799813685229 ≤ x
      · exact .inr (.inl ⟨hg, fun he => hp (hnb.1 ⟨hg, he⟩), below_p m hp⟩)
      · exact .inr (.inr ⟨by omega, below_p m hp⟩)
  clear hl hB htw hlt hmod hm hd hnb hx
  have E0 := Env.start w
  go_enter Try.func27, Try.ntmps27
  go_wp2_with (first
    | ((with_reducible refine wpE_box (o := ⟨some 1, _, _, _, _, _⟩) rfl 57 (.tmp 0) rfl (natsC l) (by with_unfolding_all rfl) E0 ?_); intro g1 w1 E1)
    | ((with_reducible refine wpE_alloc (o := ⟨some 2, _, _, _, _, _⟩) rfl 59 rfl (natsC zero5) Try.zero5e E1 ?_); intro g2 w2 E2)
    | (with_reducible refine wpE_load (o := ⟨some 3, _, _, _, _, _⟩) rfl 57 (.tmp 1) rfl 1 g1 57 (natsC l) (.array 5 55) (by with_unfolding_all rfl) (by with_unfolding_all rfl) Try.underlying57 rfl (sizeN Try.sz5p _ HL.out) E2 ?_))
  refine (C1.out _).mono ?_
  rintro e w3 ⟨rfl, b3⟩
  have E3 := Lib.hid (E2.call b3)
  clear E0 E1 E2 b3
  go_wp2_with fail
  refine (C2.out _).mono ?_
  rintro e w4 ⟨rfl, b4⟩
  have E4 := Lib.hid (E3.out.call b4)
  clear E3 b4
  have HEQ : Hid (∀ b : Bool, (digL 5 m == [x, 2251799813685247, 2251799813685247, 2251799813685247, 2251799813685247]) = b → ∀ W, (Op.equalIn 10000 57 (.agg (natsC (digL 5 m))) (.agg #[.int .u64 (x : Int), .int .u64 2251799813685247, .int .u64 2251799813685247, .int .u64 2251799813685247, .int .u64 2251799813685247])).run Try.prog W = .ok b W) := fun b hb W => by
    rw [maskV, Try.eqPartsIn _ _ HD.out rfl W, hb]
  have H0 := Lib.hid h0
  clear h0
  rcases cases3 with ⟨hge, heq, hout⟩ | ⟨hge, heq, hout⟩ | ⟨hge, hout⟩
  · have hQ := HEQ.out true (by rw [← heq, beq_self_eq_true])
    have HO := Lib.hid hout
    have hgb : decide ((2251799813685229 : Int) ≤ (x : Int)) = true := by rw [decide_eq_true_eq]; omega
    obtain ⟨y, hy⟩ : ∃ y, y = x - 2251799813685229 := ⟨_, rfl⟩
    have hsub : (x : Int) - 2251799813685229 = (y : Int) := by omega
    have hyl : y < 18446744073709551616 := by omega
    rw [← hy] at HO
    clear heq hout HEQ hy
    go_wp2_with (first
      | ((with_reducible refine wpE_store (o := ⟨none, _, _, _, _, _⟩) rfl 57 (.tmp 1) (.tmp 5) rfl 1 g1 57 (natsC l) (natsC (digL 5 m)) (by with_unfolding_all rfl) (by with_unfolding_all rfl) (by with_unfolding_all rfl) (natsC_same HL.out HD.out) (sizeN Try.sz5p _ HD.out) (natsC_one _) E4.out ?_); intro w5 E5; simp only [List.set_cons_zero, List.set_cons_succ] at E5; have c1 := E5.getN 1 rfl 0 (by rw [HD.out]; omega); rw [H0.out] at c1)
      | (with_reducible refine wpListG_load_row (o := ⟨some 10, _, _, _, _, _⟩) 57 (.tmp 1) rfl (by with_unfolding_all go_simp) g1 (by with_unfolding_all rfl) 57 (natsC (digL 5 m)) (.array 5 55) (E5.row 1 rfl) Try.underlying57 rfl (sizeN Try.sz5p _ HD.out) ?_)
      | ((with_reducible refine wpE_store (o := ⟨none, _, _, _, _, _⟩) rfl 57 (.tmp 1) (.tmp 19) rfl 1 g1 57 (natsC (digL 5 m)) (natsC [y, 0, 0, 0, 0]) (by with_unfolding_all rfl) (by with_unfolding_all rfl) (by with_unfolding_all exact lessV y) (natsC_same HD.out (less_length y)) (sizeN Try.sz5p _ (less_length y)) (natsC_one _) E5 ?_); intro w6 E6; simp only [List.set_cons_zero, List.set_cons_succ] at E6)
      | (with_reducible refine wpE_load (o := ⟨some 20, _, _, _, _, _⟩) rfl 57 (.tmp 1) rfl 1 g1 57 (natsC [y, 0, 0, 0, 0]) (.array 5 55) (by with_unfolding_all rfl) (by with_unfolding_all rfl) Try.underlying57 rfl (sizeN Try.sz5p _ (less_length y)) E6 ?_)
      | (with_reducible refine wpList_build1 (o := ⟨some 21, _, _, _, _, _⟩) rfl 59 (.tmp 20) rfl (natsC [y, 0, 0, 0, 0]) (by with_unfolding_all rfl) _ 5 _ Try.underlying59 rfl Try.sz5p Try.zero5e rfl (by rw [natsC_size, (less_length y)]) ?_)
      | ((with_reducible refine wpE_store (o := ⟨none, _, _, _, _, _⟩) rfl 59 (.tmp 2) (.tmp 21) rfl 0 g2 59 (natsC zero5) (natsC [y, 0, 0, 0, 0]) (by with_unfolding_all rfl) (by with_unfolding_all rfl) (by with_unfolding_all rfl) (natsC_same zero5_length (less_length y)) (sizeN Try.sz5e _ (less_length y)) (natsC_one _) E6 ?_); intro w9 E9))
    refine bodyPost_ret (results_cell_row rfl _ _ g2 59 (natsC [y, 0, 0, 0, 0]) (0, 0) _ rfl (E9.row 0 rfl) Try.underlying59 rfl (sizeN Try.sz5e _ (less_length y))) rfl ?_
    rw [← HO.out]
    exact E9.ret _
  · have hQ := HEQ.out false (by simpa using heq)
    have HO := Lib.hid hout
    have hgb : decide ((2251799813685229 : Int) ≤ (x : Int)) = true := by rw [decide_eq_true_eq]; omega
    clear heq hout HEQ
    go_wp2_with (first
      | ((with_reducible refine wpE_store (o := ⟨none, _, _, _, _, _⟩) rfl 57 (.tmp 1) (.tmp 5) rfl 1 g1 57 (natsC l) (natsC (digL 5 m)) (by with_unfolding_all rfl) (by with_unfolding_all rfl) (by with_unfolding_all rfl) (natsC_same HL.out HD.out) (sizeN Try.sz5p _ HD.out) (natsC_one _) E4.out ?_); intro w5 E5; simp only [List.set_cons_zero, List.set_cons_succ] at E5; have c1 := E5.getN 1 rfl 0 (by rw [HD.out]; omega); rw [H0.out] at c1)
      | (with_reducible refine wpListG_load_row (o := ⟨some 10, _, _, _, _, _⟩) 57 (.tmp 1) rfl (by with_unfolding_all go_simp) g1 (by with_unfolding_all rfl) 57 (natsC (digL 5 m)) (.array 5 55) (E5.row 1 rfl) Try.underlying57 rfl (sizeN Try.sz5p _ HD.out) ?_)
      | (with_reducible refine wpE_load (o := ⟨some 20, _, _, _, _, _⟩) rfl 57 (.tmp 1) rfl 1 g1 57 (natsC (digL 5 m)) (.array 5 55) (by with_unfolding_all rfl) (by with_unfolding_all rfl) Try.underlying57 rfl (sizeN Try.sz5p _ HD.out) E5 ?_)
      | (with_reducible refine wpList_build1 (o := ⟨some 21, _, _, _, _, _⟩) rfl 59 (.tmp 20) rfl (natsC (digL 5 m)) (by with_unfolding_all rfl) _ 5 _ Try.underlying59 rfl Try.sz5p Try.zero5e rfl (by rw [natsC_size, HD.out]) ?_)
      | ((with_reducible refine wpE_store (o := ⟨none, _, _, _, _, _⟩) rfl 59 (.tmp 2) (.tmp 21) rfl 0 g2 59 (natsC zero5) (natsC (digL 5 m)) (by with_unfolding_all rfl) (by with_unfolding_all rfl) (by with_unfolding_all rfl) (natsC_same zero5_length HD.out) (sizeN Try.sz5e _ HD.out) (natsC_one _) E5 ?_); intro w9 E9))
    refine bodyPost_ret (results_cell_row rfl _ _ g2 59 (natsC (digL 5 m)) (0, 0) _ rfl (E9.row 0 rfl) Try.underlying59 rfl (sizeN Try.sz5e _ HD.out)) rfl ?_
    rw [← HO.out]
    exact E9.ret _
  · have HO := Lib.hid hout
    have hgb : decide ((2251799813685229 : Int) ≤ (x : Int)) = false := by rw [decide_eq_false_iff_not]; omega
    clear hout HEQ
    go_wp2_with (first
      | ((with_reducible refine wpE_store (o := ⟨none, _, _, _, _, _⟩) rfl 57 (.tmp 1) (.tmp 5) rfl 1 g1 57 (natsC l) (natsC (digL 5 m)) (by with_unfolding_all rfl) (by with_unfolding_all rfl) (by with_unfolding_all rfl) (natsC_same HL.out HD.out) (sizeN Try.sz5p _ HD.out) (natsC_one _) E4.out ?_); intro w5 E5; simp only [List.set_cons_zero, List.set_cons_succ] at E5; have c1 := E5.getN 1 rfl 0 (by rw [HD.out]; omega); rw [H0.out] at c1)
      | (with_reducible refine wpE_load (o := ⟨some 20, _, _, _, _, _⟩) rfl 57 (.tmp 1) rfl 1 g1 57 (natsC (digL 5 m)) (.array 5 55) (by with_unfolding_all rfl) (by with_unfolding_all rfl) Try.underlying57 rfl (sizeN Try.sz5p _ HD.out) E5 ?_)
      | (with_reducible refine wpList_build1 (o := ⟨some 21, _, _, _, _, _⟩) rfl 59 (.tmp 20) rfl (natsC (digL 5 m)) (by with_unfolding_all rfl) _ 5 _ Try.underlying59 rfl Try.sz5p Try.zero5e rfl (by rw [natsC_size, HD.out]) ?_)
      | ((with_reducible refine wpE_store (o := ⟨none, _, _, _, _, _⟩) rfl 59 (.tmp 2) (.tmp 21) rfl 0 g2 59 (natsC zero5) (natsC (digL 5 m)) (by with_unfolding_all rfl) (by with_unfolding_all rfl) (by with_unfolding_all rfl) (natsC_same zero5_length HD.out) (sizeN Try.sz5e _ HD.out) (natsC_one _) E5 ?_); intro w9 E9))
    refine bodyPost_ret (results_cell_row rfl _ _ g2 59 (natsC (digL 5 m)) (0, 0) _ rfl (E9.row 0 rfl) Try.underlying59 rfl (sizeN Try.sz5e _ HD.out)) rfl ?_
    rw [← HO.out]
    exact E9.ret _
end Go.Proofs.Ythipdfmaaeoijaa
end
section
namespace Go.Proofs.Ythipdfmaaeoijaa
open Go.RowKit
set_option linter.unusedVariables false
set_option maxRecDepth 20000

theorem and32n (a : Nat) (ha : a < 18446744073709551616) : bits .and .u64 (a : Int) 4294967295 = ((a % 4294967296 : Nat) : Int) := by
  have h := u64_and_nat a 4294967295 ha (by omega)
  rw [show ((4294967295 : Nat) : Int) = 4294967295 from rfl] at h
  rw [h]
  congr 1
  exact Nat.and_two_pow_sub_one_eq_mod a 32
theorem div32n (a : Nat) : (a : Int) / 4294967296 = ((a / 4294967296 : Nat) : Int) := by omega
theorem muln (a b : Nat) : (a : Int) * (b : Int) = ((a * b : Nat) : Int) := (Int.natCast_mul a b).symm
theorem addn (a b : Nat) : (a : Int) + (b : Int) = ((a + b : Nat) : Int) := (Int.natCast_add a b).symm
theorem wrapm (a : Nat) : IntKind.u64.wrap (a : Int) = ((a % 18446744073709551616 : Nat) : Int) := by rw [IntKind.wrap_u64]; omega

set_option maxHeartbeats 1000000 in
theorem Mul64_any (x y : Nat) (hx : x < 18446744073709551616) (hy : y < 18446744073709551616) (w : World) :
    Calls Try.prog 71 #[.int .u64 (x : Int), .int .u64 (y : Int)] w fun e w' => e = .returned (.tuple #[.int .u64 ((x * y / 18446744073709551616 : Nat) : Int), .int .u64 ((x * y % 18446744073709551616 : Nat) : Int)]) ∧ w = w' := by
  obtain ⟨bd, bt, bw, hhi⟩ := Lib.mul64_hi x y hx hy
  have ba := Lib.half_mul_le (a := x / 4294967296) (b := y / 4294967296) (by omega) (by omega)
  have bb := Lib.half_mul_le (a := x / 4294967296) (b := y % 4294967296) (by omega) (by omega)
  have bc := Lib.half_mul_le (a := x % 4294967296) (b := y / 4294967296) (by omega) (by omega)
  have ba' : x / 4294967296 * (y / 4294967296) < 18446744073709551616 := by omega
  have bb' : x / 4294967296 * (y % 4294967296) < 18446744073709551616 := by omega
  have bc' : x % 4294967296 * (y / 4294967296) < 18446744073709551616 := by omega
  have bh1 : x / 4294967296 * (y / 4294967296) + (x / 4294967296 * (y % 4294967296) + x % 4294967296 * (y % 4294967296) / 4294967296) / 4294967296 < 18446744073709551616 := by omega
  have bh : x / 4294967296 * (y / 4294967296) + (x / 4294967296 * (y % 4294967296) + x % 4294967296 * (y % 4294967296) / 4294967296) / 4294967296 + ((x / 4294967296 * (y % 4294967296) + x % 4294967296 * (y % 4294967296) / 4294967296) % 4294967296 + x % 4294967296 * (y / 4294967296)) / 4294967296 < 18446744073709551616 := by omega
  go_enter Try.func71, Try.ntmps71
  go_wp2
  simp only [and32n x hx, and32n y hy, div32n, muln, addn, wrap64 _ bd, wrap64 _ bb', wrap64 _ bt, and32n _ bt, wrap64 _ bc', wrap64 _ bw, wrap64 _ ba', wrap64 _ bh1, wrap64 _ bh, wrapm (x * y)]
  rw [hhi]
  go_ret2
  exact ⟨rfl, rfl⟩

theorem Add64_run (x y c s d : Nat) (hc : c ≤ 1) (hs : s = (x + y + c) % 18446744073709551616) (hd : d = (x + y + c) / 18446744073709551616) (w : World) :
    (callFunc 72 #[.int .u64 (x : Int), .int .u64 (y : Int), .int .u64 (c : Int)]).run Try.prog w = .ok (.value (.tuple #[.int .u64 (s : Int), .int .u64 (d : Int)])) w := by
  subst hs hd
  rw [run_callFunc_extern Try.func72 (by kernel_rfl) (by kernel_rfl) (by kernel_rfl) (e := add64Entry) (by kernel_rfl), run_add64 x y c (by omega) (by omega) (by omega) (by omega)]
  simp only [Result.andThen]
  congr 5 <;> omega

/-- A sum of products, as two words. -/
def wideL (n : Nat) : List Nat := [n / 18446744073709551616, n % 18446744073709551616]
theorem wideL_length (n : Nat) : (wideL n).length = 2 := rfl
theorem Try.sz2 : (Try.prog.info? 100).map (·.size) = some 2 := by kernel_rfl
theorem Try.zero2 : (Try.prog.info? 100).map (·.zero) = some (some (.agg (natsC [0, 0]))) := by kernel_rfl
theorem two_length (a b : Nat) : [a, b].length = 2 := rfl
theorem twoV (a b : Nat) : Value.agg #[.int .u64 (a : Int), .int .u64 (b : Int)] = .agg (natsC [a, b]) := rfl

set_option maxHeartbeats 1000000 in
theorem plus_any (n a b : Nat) (ha : a < 18446744073709551616) (hb : b < 18446744073709551616) (hn : n + a * b < 340282366920938463463374607431768211456) (w : World) :
    Calls Try.prog 58 #[.agg (natsC (wideL n)), .int .u64 (a : Int), .int .u64 (b : Int)] w (RetV w (.agg (natsC (wideL (n + a * b))))) := by
  have M1 := Lib.hid (fun w => Mul64_any a b ha hb w)
  obtain ⟨m, hm⟩ : ∃ m, m = a * b := ⟨_, rfl⟩
  rw [← hm] at M1 hn ⊢
  clear hm
  obtain ⟨h, hh⟩ : ∃ h, h = n / 18446744073709551616 := ⟨_, rfl⟩
  obtain ⟨l, hl⟩ : ∃ l, l = n % 18446744073709551616 := ⟨_, rfl⟩
  obtain ⟨mh, hmh⟩ : ∃ h, h = m / 18446744073709551616 := ⟨_, rfl⟩
  obtain ⟨ml, hml⟩ : ∃ l, l = m % 18446744073709551616 := ⟨_, rfl⟩
  obtain ⟨s, hs⟩ : ∃ s, s = (l + ml + 0) % 18446744073709551616 := ⟨_, rfl⟩
  obtain ⟨c, hc⟩ : ∃ c, c = (l + ml + 0) / 18446744073709551616 := ⟨_, rfl⟩
  obtain ⟨t, ht⟩ : ∃ t, t = (h + mh + c) % 18446744073709551616 := ⟨_, rfl⟩
  obtain ⟨d, hd⟩ : ∃ d, d = (h + mh + c) / 18446744073709551616 := ⟨_, rfl⟩
  have e0 : wideL n = [h, l] := by unfold wideL; rw [← hh, ← hl]
  have e1 : wideL (n + m) = [t, s] := by
    unfold wideL
    simp only [List.cons.injEq, and_true]
    omega
  rw [← hmh, ← hml] at M1
  rw [e0, e1]
  have A1 : ∀ W, (callFunc 72 #[.int .u64 (l : Int), .int .u64 (ml : Int), .int .u64 0]).run Try.prog W = .ok (.value (.tuple #[.int .u64 (s : Int), .int .u64 (c : Int)])) W := fun W => Add64_run l ml 0 s c (by omega) hs hc W
  have A2 : ∀ W, (callFunc 72 #[.int .u64 (h : Int), .int .u64 (mh : Int), .int .u64 (c : Int)]).run Try.prog W = .ok (.value (.tuple #[.int .u64 (t : Int), .int .u64 (d : Int)])) W := fun W => Add64_run h mh c t d (by omega) ht hd W
  clear hh hl hmh hml hs hc ht hd e0 e1 hn
  have E0 := Env.start w
  go_enter Try.func58, Try.ntmps58
  go_wp2_with (first
    | ((with_reducible refine wpE_box (o := ⟨some 3, _, _, _, _, _⟩) rfl 100 (.tmp 0) rfl (natsC [h, l]) (by with_unfolding_all rfl) E0 ?_); intro g1 w1 E1)
    | ((with_reducible refine wpE_alloc (o := ⟨some 6, _, _, _, _, _⟩) rfl 100 rfl (natsC [0, 0]) Try.zero2 E1 ?_); intro g2 w2 E2; have c1 := E2.getN 1 rfl 0 (by simp); have c2 := E2.getN 1 rfl 1 (by simp); simp only [List.getD_cons_zero, List.getD_cons_succ] at c1 c2; clear E0 E1)
    | ((with_reducible refine (M1.out _).mono ?_); rintro e w3 ⟨rfl, rfl⟩)
    | ((with_reducible refine wpE_store (o := ⟨none, _, _, _, _, _⟩) rfl 100 (.tmp 6) (.tmp 33) rfl 0 g2 100 (natsC [0, 0]) (natsC [t, s]) (by with_unfolding_all rfl) (by with_unfolding_all rfl) (by with_unfolding_all exact twoV t s) (natsC_same (two_length 0 0) (two_length t s)) (sizeN Try.sz2 _ (two_length t s)) (natsC_one _) E2 ?_); intro w9 E9))
  exact bodyPost_ret (results_cell_row rfl _ _ g2 100 (natsC [t, s]) (0, 0) _ rfl (E9.row 0 rfl) Try.underlying100 rfl (sizeN Try.sz2 _ (two_length t s))) rfl (E9.ret _)

/-- Sums of products in a row. -/
def widesL (ws : List Nat) : List Nat := ws.flatMap wideL
theorem widesL_length (ws : List Nat) : (widesL ws).length = 2 * ws.length := by
  induction ws with
  | nil => rfl
  | cons a ws ih => simp only [widesL, List.flatMap_cons, List.length_append, wideL_length, List.length_cons] at *; omega
theorem widesL_part (ws : List Nat) (k : Nat) (h : k < ws.length) : ((widesL ws).drop (2 * k)).take 2 = wideL (ws.getD k 0) := by
  induction ws generalizing k with
  | nil => simp at h
  | cons a ws ih =>
    cases k with
    | zero => simp [widesL, wideL]
    | succ k =>
      have := ih k (by simpa using h)
      simpa [widesL, wideL, Nat.mul_add] using this
theorem widesL_set (ws : List Nat) (k n : Nat) (h : k < ws.length) : (widesL ws).take (2 * k) ++ wideL n ++ (widesL ws).drop (2 * k + 2) = widesL (ws.set k n) := by
  induction ws generalizing k with
  | nil => simp at h
  | cons a ws ih =>
    cases k with
    | zero => simp [widesL, wideL]
    | succ k =>
      have := ih k (by simpa using h)
      simpa [widesL, wideL, Nat.mul_add] using this
theorem Try.sz10 : (Try.prog.info? 101).map (·.size) = some 10 := by kernel_rfl
def zero10 : List Nat := [0, 0, 0, 0, 0, 0, 0, 0, 0, 0]
theorem zero10_length : zero10.length = 10 := rfl
theorem Try.zero10 : (Try.prog.info? 101).map (·.zero) = some (some (.agg (natsC zero10))) := by kernel_rfl
theorem index_wide (w : World) (ws : List Nat) (hl : ws.length = 5) (k : Nat) (hk : k < 5) : (Instr.index 101 (.agg (natsC (widesL ws))) (.int .i64 (k : Int))).run Try.prog w = .ok (.agg (natsC (wideL (ws.getD k 0)))) w := by
  rw [run_index_struct w 101 100 5 2 _ _ .i64 k Try.underlying101 Try.underlying100 Try.sz2 hk]
  congr 2
  apply Array.toList_inj.1
  rw [Array.toList_extract]
  have := widesL_part ws k (by omega)
  rw [← this]
  simp [natsC, cellsN, List.extract, Nat.mul_comm]

/-- What is made of the first k sums, and zeros behind them. -/
def stN (ws : List Nat) (k : Nat) : List Nat := digL k (valL (ws.take k)) ++ List.replicate (5 - k) 0
theorem stN_length (ws : List Nat) (k : Nat) (h : k ≤ 5) : (stN ws k).length = 5 := by simp [stN, digL_length]; omega
theorem stN_step (ws : List Nat) (hl : ws.length = 5) (k : Nat) (h : k < 5) : (stN ws k).set k ((ws.getD k 0 + cyC ws k) % Mx) = stN ws (k + 1) := by
  unfold stN
  rw [List.set_append_right _ _ (by rw [digL_length]; exact Nat.le_refl _), digL_length, Nat.sub_self, digL_snoc, take_val ws k (by omega), digL_mod, List.append_assoc]
  congr 1
  rw [show 5 - k = (5 - (k + 1)) + 1 by omega, List.replicate_succ, List.set_cons_zero]
  have e : (valL (ws.take k) + Mx ^ k * ws.getD k 0) / Mx ^ k % Mx = (ws.getD k 0 + cyC ws k) % Mx := by
    rw [Nat.add_mul_div_left _ _ (Nat.pow_pos Mx_pos), Nat.add_comm]
    rfl
  rw [e]
  rfl
end Go.Proofs.Ythipdfmaaeoijaa
end
