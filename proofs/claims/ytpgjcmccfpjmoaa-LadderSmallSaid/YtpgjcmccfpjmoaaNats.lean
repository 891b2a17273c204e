/-
  Words of 64 bits as numbers: arrays of them in rows, what the walk's Int terms come to. Conditions: as each theorem names them.
-/
import Derived.Test.YtpgjcmccfpjmoaaEnv
import Derived.IntWalk
import Derived.Laws.BitsAllLaws
import Derived.Stop.BytesEq
namespace Go.Proofs.Ytpgjcmccfpjmoaa
open Go.RowKit
set_option linter.unusedVariables false

def cellsN (l : List Nat) : List Value := l.map fun x : Nat => Value.int .u64 (x : Int)
def natsC (l : List Nat) : Array Value := (cellsN l).toArray
theorem cellsN_length (l : List Nat) : (cellsN l).length = l.length := by simp [cellsN]
theorem natsC_size (l : List Nat) : (natsC l).size = l.length := by simp [natsC, cellsN]
theorem natsC_list (l : List Nat) : (natsC l).toList = cellsN l := rfl
theorem natsC_one (l : List Nat) : ∀ u ∈ (natsC l).toList, u.oneCell' = true := by
  intro u hu
  obtain ⟨b, _, rfl⟩ := List.mem_map.1 (show u ∈ cellsN l from hu)
  rfl
theorem natsC_get (l : List Nat) (j : Nat) (h : j < l.length) : (natsC l)[j]? = some (.int .u64 ((l.getD j 0 : Nat) : Int)) := by
  simp [natsC, cellsN, h]
theorem natsC_cell {w : World} {g : Nat} {t : TypeId} {l : List Nat} (h : RowAt w g t (natsC l)) (j : Nat) (hj : j < l.length) : w.cell? ⟨g, j, none⟩ = some (.int .u64 ((l.getD j 0 : Nat) : Int)) := by
  rw [h.cell, natsC_get l j hj]
theorem natsC_put (l : List Nat) (j x : Nat) : (natsC l).setIfInBounds j (.int .u64 (x : Int)) = natsC (l.set j x) := by
  apply Array.toList_inj.1
  simp [natsC, cellsN, List.map_set]
theorem natsC_same {a b : List Nat} {n : Nat} (ha : a.length = n) (hb : b.length = n) : (natsC a).size = (natsC b).size := by rw [natsC_size, natsC_size, ha, hb]
theorem sizeN {P : Program} {t : TypeId} {n : Nat} (hs : (P.info? t).map (·.size) = some n) (l : List Nat) (h : l.length = n) : (P.info? t).map (·.size) = some (natsC l).size := by rw [natsC_size, h, hs]
theorem Env.cellN {w0 w : World} {rs : List (Nat × TypeId × Array Value)} {g : Nat} {t : TypeId} {l : List Nat} (h : Env w0 rs w) (i : Nat) (hi : rs[i]? = some (g, t, natsC l)) (j x : Nat) :
    Env w0 (rs.set i (g, t, natsC (l.set j x))) (w.setCell ⟨g, j, none⟩ (.int .u64 (x : Int))) := h.cellTo i hi j _ (natsC_put l j x)
theorem Env.getN {w0 w : World} {rs : List (Nat × TypeId × Array Value)} {g : Nat} {t : TypeId} {l : List Nat} (h : Env w0 rs w) (i : Nat) (hi : rs[i]? = some (g, t, natsC l)) (j : Nat) (hj : j < l.length) :
    w.cell? ⟨g, j, none⟩ = some (.int .u64 ((l.getD j 0 : Nat) : Int)) := natsC_cell (h.row i hi) j hj
theorem Env.fzN {w0 w : World} {rs : List (Nat × TypeId × Array Value)} {g : Nat} {t : TypeId} {cs : Array Value} (h : Env w0 rs w) (i : Nat) (hi : rs[i]? = some (g, t, cs)) (j : Nat) :
    w.frozen? ⟨g, j, none⟩ = false := (h.row i hi).frozen j

theorem getD_lt {l : List Nat} {B : Nat} (h : ∀ x ∈ l, x < B) (hB : 0 < B) (j : Nat) : l.getD j 0 < B := by
  rw [List.getD_eq_getElem?_getD]
  cases hc : l[j]? with
  | none => simpa using hB
  | some x => simpa using h x (List.mem_of_getElem? hc)
theorem all_set {l : List Nat} {B : Nat} (h : ∀ x ∈ l, x < B) (j y : Nat) (hy : y < B) : ∀ x ∈ l.set j y, x < B := by
  intro x hx
  rcases List.mem_or_eq_of_mem_set hx with hx | rfl
  · exact h x hx
  · exact hy

/-! What the walk's terms come to. -/
theorem wrap64 (n : Nat) (h : n < 18446744073709551616) : IntKind.u64.wrap (n : Int) = (n : Int) := by rw [IntKind.wrap_u64]; omega
theorem and51 (n : Nat) (h : n < 18446744073709551616) : bits .and .u64 (n : Int) 2251799813685247 = ((n % 2251799813685248 : Nat) : Int) := by
  have := u64_and_nat n 2251799813685247 h (by omega)
  rw [show ((2251799813685247 : Nat) : Int) = 2251799813685247 from rfl] at this
  rw [this]
  congr 1
  exact Nat.and_two_pow_sub_one_eq_mod n 51
theorem or_add (a b s : Nat) (ha : a < 2 ^ s) (hb : b % 2 ^ s = 0) : a ||| b = a + b := by
  have e : b = 2 ^ s * (b / 2 ^ s) := by have := Nat.div_add_mod b (2 ^ s); omega
  rw [e, Nat.or_comm, ← Nat.two_pow_add_eq_or_of_lt ha, Nat.add_comm]
theorem or64 (a b s : Nat) (ha : a < 2 ^ s) (hb : b % 2 ^ s = 0) (h1 : a < 18446744073709551616) (h2 : b < 18446744073709551616) : bits .or .u64 (a : Int) (b : Int) = ((a + b : Nat) : Int) := by
  rw [u64_or_nat a b h1 h2, or_add a b s ha hb]
theorem or64r (a b s : Nat) (ha : a < 2 ^ s) (hb : b % 2 ^ s = 0) (h1 : a < 18446744073709551616) (h2 : b < 18446744073709551616) : bits .or .u64 (b : Int) (a : Int) = ((a + b : Nat) : Int) := by
  rw [u64_or_nat b a h2 h1, Nat.or_comm, or_add a b s ha hb]

/-- Arrays of words held against one another. -/
theorem rangeN_all (a b : List Nat) (h : a.length = b.length) : ((List.range a.length).all fun i => a.getD i 0 == b.getD i 0) = (a == b) := by
  rw [Bool.eq_iff_iff, List.all_eq_true, beq_iff_eq]
  constructor
  · intro hall
    apply List.ext_getElem h
    intro i h1 h2
    have := hall i (List.mem_range.2 h1)
    simpa [h1, h2] using this
  · rintro rfl i _
    exact beq_self_eq_true _
theorem nats_eqIn {P : Program} (w : World) (d : Nat) (t e : TypeId) (n : Nat) (ht : P.underlying t = some (.array n e)) (he : P.underlying e = some (.int .u64)) (hs : ∀ w, (sizeOf e).run P w = .ok 1 w)
    (a b : List Nat) (ha : a.length = n) (hb : b.length = n) : (Op.equalIn (d + 2) t (.agg (natsC a)) (.agg (natsC b))).run P w = .ok (a == b) w := by
  rw [← rangeN_all a b (ha.trans hb.symm), ha, List.range_eq_range', Op.equalIn]
  simp only [Sem.run_bind, run_underlying ht, Result.andThen_ok, hs, Std.Legacy.Range.forIn_eq_forIn_range', Std.Legacy.Range.size, Nat.sub_zero, Nat.add_sub_cancel, Nat.div_one]
  have hin : ∀ i ∈ List.range' 0 n 1, i < n := fun i hi => by
    have := (List.mem_range'_1.1 hi).2
    omega
  generalize List.range' 0 n 1 = r at hin ⊢
  induction r with
  | nil => simp
  | cons i r ih =>
    have hi : i < n := hin i (by simp)
    have at_ : ∀ l : List Nat, l.length = n → (part e (natsC l) (i * 1)).run P w = .ok (.int .u64 ((l.getD i 0 : Nat) : Int)) w := fun l hl => by
      simp [part, isAgg, run_underlying he, natsC_get l i (by omega)]
    have one : (Op.equalIn (d + 1) e (.int .u64 ((a.getD i 0 : Nat) : Int)) (.int .u64 ((b.getD i 0 : Nat) : Int))).run P w = .ok (a.getD i 0 == b.getD i 0) w := by
      rw [run_equalIn_int w d e .u64 .u64 _ _ he]
      congr 1
      rw [Bool.eq_iff_iff, beq_iff_eq, beq_iff_eq]
      omega
    simp only [List.forIn_cons, Sem.run_bind, at_ a ha, at_ b hb, one, Result.andThen_ok, List.all_cons]
    cases hc : (a.getD i 0 == b.getD i 0)
    · simp
    · simp only [Bool.not_true, Bool.false_eq_true, if_false, Sem.run_pure, Result.andThen_ok, Bool.true_and]
      exact ih fun j hj => hin j (List.mem_cons_of_mem _ hj)
/-- 'x[i]' of an array of words by value. -/
theorem run_indexN {P : Program} (w : World) (t e : TypeId) (n : Nat) (l : List Nat) (i : Nat) (ht : P.underlying t = some (.array n e)) (he : P.underlying e = some (.int .u64)) (hs : (P.info? e).map (·.size) = some 1) (hl : l.length = n) (hi : i < n) :
    (Instr.index t (.agg (natsC l)) (.int .i64 (i : Int))).run P w = .ok (.int .u64 ((l.getD i 0 : Nat) : Int)) w := by
  obtain ⟨f, hf, hz⟩ := Option.map_eq_some_iff.1 hs
  simp [Instr.index, run_underlying ht, asIntOf, hi, part, isAgg, run_underlying he, sizeOf, typeInfo, hf, hz, natsC_get l i (by omega), go_sem]
/-- 'x[i]' of an array of structs of m cells, by value. -/
theorem run_index_struct {P : Program} (w : World) (t e : TypeId) (n m : Nat) (fs : Array Field) (cs : Array Value) (kd : IntKind) (i : Nat) (ht : P.underlying t = some (.array n e)) (he : P.underlying e = some (.struct fs)) (hs : (P.info? e).map (·.size) = some m) (hi : i < n) :
    (Instr.index t (.agg cs) (.int kd (i : Int))).run P w = .ok (.agg (cs.extract (i * m) (i * m + m))) w := by
  obtain ⟨f, hf, hz⟩ := Option.map_eq_some_iff.1 hs
  simp [Instr.index, run_underlying ht, asIntOf, hi, part, isAgg, run_underlying he, sizeOf, typeInfo, hf, hz, go_sem]
/-! A struct that is made of one part, as long as the whole. -/
theorem fill_list (l : List Value) : ∀ (k : Nat) (acc : Array Value), acc.size = k + l.length → (l.zipIdx k).foldl (fun cs x => cs.setIfInBounds (0 + x.2) x.1) acc = (acc.toList.take k ++ l).toArray := by
  induction l with
  | nil => intro k acc h; simp only [List.zipIdx_nil, List.foldl_nil]; rw [List.take_of_length_le (by simp at h; simp; omega)]; simp
  | cons c l ih =>
    intro k acc h
    simp only [List.length_cons] at h
    simp only [List.zipIdx_cons, List.foldl_cons]
    rw [ih (k + 1) _ (by simp; omega)]
    congr 1
    simp only [Array.toList_setIfInBounds, Nat.zero_add]
    rw [List.take_succ_eq_append_getElem (by simp; omega)]
    simp [List.take_set_of_le]
theorem fill_whole (z cs : Array Value) (h : z.size = cs.size) : cs.zipIdx.foldl (fun acc x => acc.setIfInBounds (0 + x.2) x.1) z = cs := by
  rw [← Array.foldl_toList, Array.toList_zipIdx, fill_list cs.toList 0 z (by simpa using h)]
  simp
theorem run_build1 {P : Program} (w : World) (t : TypeId) (f : Field) (n : Nat) (z cs : Array Value) (hu : P.underlying t = some (.struct #[f])) (h0 : f.offset = 0) (hs : (P.info? f.type).map (·.size) = some n) (hz : (P.info? t).map (·.zero) = some (some (.agg z))) (hzn : z.size = n) (hc : cs.size = n) :
    (Instr.build t #[(0, .agg cs)]).run P w = .ok (.agg cs) w := by
  obtain ⟨i, hi, hi2⟩ := Option.map_eq_some_iff.1 hs
  obtain ⟨j, hj, hj2⟩ := Option.map_eq_some_iff.1 hz
  have hf := fill_whole z cs (by omega)
  simp [Instr.build, zeroValue, typeInfo, hj, hj2, run_underlying hu, sizeOf, hi, hi2, Instr.fill, Value.cells, h0, hzn, hc, go_sem]
  simpa [hc] using hf
section
variable {P : Program} {w : World} {ops : Array Oper} {rest : List Oper} {o : Oper} {a : Act} {Q : Exit → Act → World → Prop}
theorem wpList_build1 (hgd : o.guard = none) (t : TypeId) (x : Operand) (ho : o.op = .build t #[(0, x)]) (cs : Array Value) (hx : a.eval x = .agg cs) (f : Field) (n : Nat) (z : Array Value) (hu : P.underlying t = some (.struct #[f])) (h0 : f.offset = 0) (hs : (P.info? f.type).map (·.size) = some n) (hz : (P.info? t).map (·.zero) = some (some (.agg z))) (hzn : z.size = n) (hc : cs.size = n)
    (h : wpList P ops Q rest (a.put o.dst (.agg cs)) w) : wpList P ops Q (o :: rest) a w := by
  refine wpList_plain hgd fun _ hK => ?_
  unfold Oper.wp execOp
  simp [ho, hx, run_build1 w t f n z cs hu h0 hs hz hzn hc]
  exact hK _ _ h
variable {w0 : World} {rs : List (Nat × TypeId × Array Value)}
theorem wpE_loadN (hgd : o.guard = none) (ty : TypeId) (x : Operand) (ho : o.op = .load ty x) (i g k : Nat) (t : TypeId) (l m : List Nat) (d : TypeDesc) (hi : rs[i]? = some (g, t, natsC l)) (hx : a.eval x = .pointer (some ⟨g, k, none⟩))
    (hp : (l.drop k).take m.length = m)
    (hu : P.underlying ty = some d) (hd : d.isRow = true) (hs : (P.info? ty).map (·.size) = some m.length) (hE : Env w0 rs w)
    (h : wpList P ops Q rest (a.put o.dst (.agg (natsC m))) w) : wpList P ops Q (o :: rest) a w :=
  wpE_loadP hgd ty x ho i g k t (natsC l) (cellsN m) d hi hx (by rw [cellsN_length, natsC_list]; unfold cellsN; rw [← List.map_drop, ← List.map_take, hp]) hu hd (by rw [cellsN_length, hs]) hE h
theorem wpE_storeN (hgd : o.guard = none) (ty : TypeId) (x y : Operand) (ho : o.op = .store ty x y) (i g k : Nat) (t : TypeId) (l m l' : List Nat) (hi : rs[i]? = some (g, t, natsC l)) (hx : a.eval x = .pointer (some ⟨g, k, none⟩)) (hy : a.eval y = .agg (natsC m))
    (hk : k + m.length ≤ l.length) (hc : l.take k ++ m ++ l.drop (k + m.length) = l') (hs : (P.info? ty).map (·.size) = some m.length) (hE : Env w0 rs w)
    (h : ∀ w', Env w0 (rs.set i (g, t, natsC l')) w' → wpList P ops Q rest (a.put o.dst undef) w') : wpList P ops Q (o :: rest) a w :=
  wpE_storeP hgd ty x y ho i g k t (natsC l) (natsC l') (natsC m) hi hx hy (by rw [natsC_size, natsC_size]; exact hk) (by rw [← hc, natsC_size]; simp [natsC, cellsN]) (by rw [natsC_size, hs]) (natsC_one m) hE h
end
end Go.Proofs.Ytpgjcmccfpjmoaa
