/-
  Words for devices in memory: rows of sectors and of writes, what a call turns and what stays. Conditions: as each theorem names them.
-/
import Derived.Test.YtenmgpijhaalbaaChecked
import Derived.Test.YtenmgpijhaalbaaDevA
import Derived.Test.YtenmgpijhaalbaaEnv
import Derived.Laws.Tables
import Derived.Great.BuildSlice
import Derived.Laws.MakeOwn
namespace Go.Proofs.Ytenmgpijhaalbaa
open Go.RowKit
set_option linter.unusedVariables false

/-! Lists of one length, joined. -/
section
variable {α : Type} {n : Nat}
theorem flat_length {ls : List (List α)} (h : ∀ l ∈ ls, l.length = n) : ls.flatten.length = ls.length * n := by
  induction ls with
  | nil => simp
  | cons l ls ih =>
    rw [List.flatten_cons, List.length_append, ih (fun x hx => h x (List.mem_cons_of_mem _ hx)), h l (List.mem_cons_self ..), List.length_cons, Nat.add_mul]
    omega
theorem flat_drop {ls : List (List α)} (h : ∀ l ∈ ls, l.length = n) (i : Nat) : ls.flatten.drop (i * n) = (ls.drop i).flatten := by
  induction i generalizing ls with
  | zero => simp
  | succ i ih =>
    rcases ls with _ | ⟨l, ls⟩
    · simp
    · have hl : l.length = n := h l (List.mem_cons_self ..)
      rw [List.flatten_cons, List.drop_succ_cons, ← ih (fun x hx => h x (List.mem_cons_of_mem _ hx)), Nat.add_mul, Nat.one_mul, Nat.add_comm, List.drop_append, hl]
      rw [List.drop_eq_nil_of_le (by omega), Nat.add_sub_cancel_left, List.nil_append]
theorem flat_take {ls : List (List α)} (h : ∀ l ∈ ls, l.length = n) (i : Nat) : ls.flatten.take (i * n) = (ls.take i).flatten := by
  induction i generalizing ls with
  | zero => simp
  | succ i ih =>
    rcases ls with _ | ⟨l, ls⟩
    · simp
    · have hl : l.length = n := h l (List.mem_cons_self ..)
      rw [List.flatten_cons, List.take_succ_cons, List.flatten_cons, ← ih (fun x hx => h x (List.mem_cons_of_mem _ hx)), Nat.add_mul, Nat.one_mul, Nat.add_comm, List.take_append, hl]
      rw [List.take_of_length_le (by omega), Nat.add_sub_cancel_left]
theorem flat_part {ls : List (List α)} (h : ∀ l ∈ ls, l.length = n) {i : Nat} {l : List α} (hi : ls[i]? = some l) : (ls.flatten.drop (i * n)).take n = l := by
  rw [flat_drop h i]
  obtain ⟨h1, rfl⟩ := List.getElem?_eq_some_iff.1 hi
  rw [List.drop_eq_getElem_cons h1, List.flatten_cons]
  exact List.take_left' (h _ (List.getElem_mem h1))
theorem flat_set {ls : List (List α)} (h : ∀ l ∈ ls, l.length = n) {i : Nat} (hi : i < ls.length) {x : List α} (hx : x.length = n) : ls.flatten.take (i * n) ++ x ++ ls.flatten.drop (i * n + n) = (ls.set i x).flatten := by
  have e : i * n + n = (i + 1) * n := by rw [Nat.add_mul, Nat.one_mul]
  rw [e, flat_drop h (i + 1), flat_take h i, List.set_eq_take_append_cons_drop, if_pos hi, List.flatten_append, List.flatten_cons, List.append_assoc]
end
theorem cellsB_take (l : List UInt8) (k : Nat) : cellsB (l.take k) = (cellsB l).take k := by simp [cellsB]
theorem cellsB_drop (l : List UInt8) (k : Nat) : cellsB (l.drop k) = (cellsB l).drop k := by simp [cellsB]
/-- The cells of a row of writes. -/
def wr1 (x : Nat × List UInt8) : List Value := Value.int .i64 (x.1 : Int) :: cellsB x.2
def wrC (p : List (Nat × List UInt8)) : List Value := (p.map wr1).flatten
theorem wr1_length {x : Nat × List UInt8} (h : x.2.length = 256) : (wr1 x).length = 257 := by
  unfold wr1
  rw [List.length_cons, cellsB_length, h]
theorem wr1_one (x : Nat × List UInt8) : ∀ u ∈ wr1 x, u.oneCell' = true := by
  intro u hu
  rcases List.mem_cons.1 hu with rfl | hu
  · rfl
  · exact cellsB_one _ u hu
theorem wrC_one (p : List (Nat × List UInt8)) : ∀ u ∈ wrC p, u.oneCell' = true := by
  intro u hu
  obtain ⟨l, hl, hu⟩ := List.mem_flatten.1 hu
  obtain ⟨x, _, rfl⟩ := List.mem_map.1 hl
  exact wr1_one x u hu
theorem wrC_all {p : List (Nat × List UInt8)} (h : ∀ x ∈ p, x.2.length = 256) : ∀ l ∈ p.map wr1, l.length = 257 := by
  intro l hl
  obtain ⟨x, hx, rfl⟩ := List.mem_map.1 hl
  exact wr1_length (h x hx)
theorem wrC_length {p : List (Nat × List UInt8)} (h : ∀ x ∈ p, x.2.length = 256) : (wrC p).length = p.length * 257 := by
  unfold wrC
  rw [flat_length (wrC_all h), List.length_map]
theorem wrC_part {p : List (Nat × List UInt8)} (h : ∀ x ∈ p, x.2.length = 256) {i : Nat} {x : Nat × List UInt8} (hi : p[i]? = some x) : ((wrC p).drop (i * 257)).take 257 = wr1 x :=
  flat_part (wrC_all h) (by rw [List.getElem?_map, hi]; rfl)
theorem wrC_snoc (p : List (Nat × List UInt8)) (x : Nat × List UInt8) : wrC (p ++ [x]) = wrC p ++ wr1 x := by simp [wrC]

/-! What a call turns: blocks of F, and what is new. -/
structure Turns (F : Nat → Prop) (w w' : World) : Prop where
  os : w'.os = w.os
  tape : w'.tape = w.tape
  output : w'.output = w.output
  size : w.heap.size ≤ w'.heap.size
  block : ∀ k, k < w.heap.size → ¬ F k → w'.heap[k]? = w.heap[k]?
def Wide (F : Nat → Prop) (w w' : World) (k : Nat) : Prop := F k ∨ (w.heap.size ≤ k ∧ k < w'.heap.size)
section
variable {F G : Nat → Prop} {w w' w2 : World}
theorem Turns.refl (F : Nat → Prop) (w : World) : Turns F w w := ⟨rfl, rfl, rfl, Nat.le_refl _, fun _ _ _ => rfl⟩
theorem Turns.mono (h : Turns F w w') (hF : ∀ k, k < w.heap.size → F k → G k) : Turns G w w' := ⟨h.os, h.tape, h.output, h.size, fun k hk hn => h.block k hk fun hf => hn (hF k hk hf)⟩
theorem Turns.trans (h : Turns F w w') (h2 : Turns G w' w2) (hG : ∀ k, k < w.heap.size → G k → F k) : Turns F w w2 :=
  ⟨h2.os.trans h.os, h2.tape.trans h.tape, h2.output.trans h.output, Nat.le_trans h.size h2.size, fun k hk hn => (h2.block k (Nat.lt_of_lt_of_le hk h.size) fun hg => hn (hG k hk hg)).trans (h.block k hk hn)⟩
theorem Turns.same (h : Turns F w w') (h2 : Turns F w' w2) : Turns F w w2 := h.trans h2 fun _ _ h => h
theorem Turns.wide (h : Turns F w w') (h2 : Turns (Wide F w w') w' w2) : Turns F w w2 := h.trans h2 fun k hk hw => hw.elim id fun h => by omega
theorem Turns.of_below (F : Nat → Prop) (h : Below w.heap.size w w') : Turns F w w' := ⟨h.os, h.tape, h.output, h.size, fun k hk _ => h.block k hk⟩
theorem Turns.of_grown {r : Option Nat} (h : w.grownBy w' r) (hr : ∀ k, r = some k → F k) : Turns F w w' := ⟨h.os, h.tape, h.output, h.size, fun k hk hn => h.block k hk fun e => hn (hr k e.symm)⟩
theorem Turns.drewN (h : Turns F w w') (n : Nat) : Turns F w (w'.drewN n) := ⟨h.os, h.tape, h.output, h.size, h.block⟩
theorem Turns.drew (h : Turns F w w') : Turns F w w'.drew := ⟨h.os, h.tape, h.output, h.size, h.block⟩
theorem Turns.below {B : Nat} {w0 : World} (h : Turns F w w') (hb : Below B w0 w) (hB : B ≤ w.heap.size) (hF : ∀ k, F k → B ≤ k) : Below B w0 w' :=
  hb.trans ⟨h.os, h.tape, h.output, h.size, fun k hk => h.block k (Nat.lt_of_lt_of_le hk hB) fun hf => by have := hF k hf; omega⟩
theorem Turns.row (h : Turns F w w') {g : Nat} {t : TypeId} {cs : Array Value} (hr : RowAt w g t cs) (hg : ¬ F g) : RowAt w' g t cs := (h.block g hr.lt hg).trans hr
theorem Turns.cell (h : Turns F w w') {p : Addr} {v : Value} (hc : w.cell? p = some v) (hg : ¬ F p.block) : w'.cell? p = some v := (World.cell?_of_block (h.block p.block (World.block_lt_of_cell? w p hc) hg)).trans hc
theorem Turns.own (h : Turns F w w') {base size n : Nat} {e : TypeId} {v : Value} {xs : List Value} (ho : w.ownsRow base e size v n xs) (hv : ∀ k, v.ownBlock = some k → ¬ F k) : w'.ownsRow base e size v n xs := by
  refine ⟨ho.1, ?_⟩
  rcases ho.2 with h1 | ⟨g, cap, cur, rfl, hb, hg, h2⟩
  · exact .inl h1
  · exact .inr ⟨g, cap, cur, rfl, hb, (h.block g (RowAt.lt hg) (hv g rfl)).trans hg, h2⟩
theorem Turns.bs (h : Turns F w w') {v : Value} {l : List UInt8} (hb : Bs w v l) (hv : ∀ k, v.ownBlock = some k → ¬ F k) : Bs w' v l := by
  obtain ⟨A, c, rfl, h1, h2, h3⟩ := hb
  refine ⟨A, c, rfl, h1, h2, fun hl => ?_⟩
  obtain ⟨b, off, rfl, hc⟩ := h3 hl
  exact ⟨b, off, rfl, fun j hj => h.cell (hc j hj) (hv b rfl)⟩
end

/-! A slice whose row the call knows whole: a part of it is read, or written. -/
section
variable {P : Program} {w : World} {base size n cap g : Nat} {e : TypeId} {xs : List Value}
theorem own_at (h : w.ownsRow base e size (.slice (some ⟨g, 0, none⟩) n cap) n xs) : ∃ cur, RowAt w g e cur ∧ base ≤ g ∧ n ≤ cap ∧ cap ≤ maxLen ∧ cur.size = cap * size ∧ cur.toList.take (n * size) = xs := by
  rcases h.2 with ⟨h1, _⟩ | ⟨g', cap', cur, hv, hb, hg, h2, h3, h4, h5⟩
  · cases h1
  · injection hv with e1 _ e3
    injection e1 with e1
    injection e1 with e1 _ _
    subst e1 e3
    exact ⟨cur, hg, hb, h2, h3, h4, h5⟩
theorem own_lt (h : w.ownsRow base e size (.slice (some ⟨g, 0, none⟩) n cap) n xs) : g < w.heap.size := by
  obtain ⟨cur, hr, _⟩ := own_at h
  exact hr.lt
theorem own_range (h : w.ownsRow base e size (.slice (some ⟨g, 0, none⟩) n cap) n xs) (k m : Nat) : w.rangeAt g k ((xs.drop k).take m) := by
  obtain ⟨cur, hr, _, _, _, _, ht⟩ := own_at h
  intro j v hv
  rw [hr.cell]
  rw [List.getElem?_take] at hv
  split at hv
  · rw [List.getElem?_drop, ← ht, List.getElem?_take] at hv
    split at hv
    · simpa using hv
    · cases hv
  · cases hv
theorem own_stored (h : w.ownsRow base e size (.slice (some ⟨g, 0, none⟩) n cap) n xs) (k : Nat) (ps : List Value) (hk : k + ps.length ≤ n * size) :
    ∃ cur w', RowAt w g e cur ∧ k + ps.length ≤ cur.size ∧ w' = w.setRow g (cur.toList.take k ++ ps ++ cur.toList.drop (k + ps.length)).toArray ∧
      w'.ownsRow base e size (.slice (some ⟨g, 0, none⟩) n cap) n (xs.take k ++ ps ++ xs.drop (k + ps.length)) ∧ w.grownBy w' (some g) ∧ w'.heap.size = w.heap.size := by
  obtain ⟨cur, hr, hb, h1, h2, h3, h4⟩ := own_at h
  have hle : n * size ≤ cap * size := Nat.mul_le_mul_right _ h1
  have p := setRow_put (cs := (cur.toList.take k ++ ps ++ cur.toList.drop (k + ps.length)).toArray) hr
  have hxl := h.1
  have hcl : cur.toList.length = cap * size := by rw [Array.length_toList, h3]
  refine ⟨cur, _, hr, by omega, rfl, ⟨?_, .inr ⟨g, cap, _, rfl, hb, p.row, h1, h2, ?_, ?_⟩⟩, p.grown, p.size⟩
  · rw [List.length_append, List.length_append, List.length_take, List.length_drop]
    omega
  · rw [List.size_toArray, List.length_append, List.length_append, List.length_take, List.length_drop, hcl]
    omega
  · rw [← h4]
    show ((cur.toList.take k ++ ps ++ cur.toList.drop (k + ps.length))).take (n * size) = _
    apply List.ext_getElem?
    intro j
    simp only [List.getElem?_take, List.getElem?_append, List.length_take, List.length_append, List.getElem?_drop, hcl]
    by_cases hj : j < n * size
    · rw [if_pos hj]
      have e1 : min k (cap * size) = k := by omega
      have e2 : min k (min (n * size) (cap * size)) = k := by omega
      rw [e1, e2]
      by_cases h5 : j < k + ps.length
      · rw [if_pos h5, if_pos h5]
        by_cases h6 : j < k
        · simp [h6, hj]
        · rw [if_neg h6, if_neg h6]
      · rw [if_neg h5, if_neg h5, if_pos (by omega)]
    · rw [if_neg hj]
      have e2 : min k (min (n * size) (cap * size)) = k := by omega
      rw [e2, if_neg (by omega), if_neg (by omega)]
/-- A part of it is written. -/
theorem wpList_storeO {ops : Array Oper} {rest : List Oper} {o : Oper} {a : Act} {Q : Exit → Act → World → Prop} (hgd : o.guard = none) (ty : TypeId) (x y : Operand) (ho : o.op = .store ty x y) (k : Nat) (ps : List Value) (hx : a.eval x = .pointer (some ⟨g, k, none⟩)) (hy : a.eval y = .agg ps.toArray)
    (hown : w.ownsRow base e size (.slice (some ⟨g, 0, none⟩) n cap) n xs) (hk : k + ps.length ≤ n * size) (hs : (P.info? ty).map (·.size) = some ps.length) (h1 : ∀ u ∈ ps, u.oneCell' = true)
    (h : ∀ w', w'.ownsRow base e size (.slice (some ⟨g, 0, none⟩) n cap) n (xs.take k ++ ps ++ xs.drop (k + ps.length)) → w.grownBy w' (some g) → wpList P ops Q rest (a.put o.dst undef) w') : wpList P ops Q (o :: rest) a w := by
  obtain ⟨cur, w', hr, hf, rfl, ho2, hg, _⟩ := own_stored hown k ps hk
  refine wpList_plain hgd fun _ hK => ?_
  obtain ⟨f, hf2, hz⟩ := Option.map_eq_some_iff.1 hs
  have hrun := run_storeCells_at (P := P) g k e ps 0 cur w hr (by simpa using hf) h1
  rw [Nat.add_zero] at hrun
  unfold Oper.wp execOp
  simp [ho, Instr.storeAt, Instr.sureAddr, storeVar, hx, hy, sizeOf, typeInfo, hf2, hz, Value.cells, hrun]
  rw [← List.append_assoc]
  exact hK _ _ (h _ ho2 hg)
/-- copy, of as many as both have. -/
theorem wpList_copyO {ops : Array Oper} {rest : List Oper} {o : Oper} {a : Act} {Q : Exit → Act → World → Prop} (hgd : o.guard = none) (d s : Operand) (dT sT : TypeId)
    (ho : o.op = .call { callee := .builtin .copy, args := #[d, s], argTypes := #[dT, sT] }) (elem : TypeId) (hu : P.underlying dT = some (.slice elem)) (hsz : (P.info? elem).map (·.size) = some size)
    {base2 g2 cap2 : Nat} {e2 : TypeId} {ys : List Value} (hd : a.eval d = .slice (some ⟨g, 0, none⟩) n cap) (hs : a.eval s = .slice (some ⟨g2, 0, none⟩) n cap2)
    (hown : w.ownsRow base e size (.slice (some ⟨g, 0, none⟩) n cap) n xs) (hsrc : w.ownsRow base2 e2 size (.slice (some ⟨g2, 0, none⟩) n cap2) n ys) (h1 : ∀ u ∈ ys, u.oneCell' = true)
    (h : ∀ w', w'.ownsRow base e size (.slice (some ⟨g, 0, none⟩) n cap) n ys → w.grownBy w' (some g) → wpList P ops Q rest (a.put o.dst (goInt n)) w') : wpList P ops Q (o :: rest) a w := by
  have hyl := hsrc.1
  obtain ⟨cur, w', hr, hf, rfl, ho2, hg, _⟩ := own_stored hown 0 ys (by omega)
  have e0 : xs.take 0 ++ ys ++ xs.drop (0 + ys.length) = ys := by
    have := hown.1
    rw [List.drop_eq_nil_of_le (by omega)]
    simp
  rw [e0] at ho2
  have hl := run_loadCells_list (P := P) w ⟨g2, 0, none⟩ ys (fun j v hv => by
    have hadd : (⟨g2, 0, none⟩ : Addr).add j = ⟨g2, 0 + j, none⟩ := by unfold Addr.add; split <;> simp_all
    rw [hadd]
    have h2 := own_range hsrc 0 ys.length
    rw [List.drop_zero, List.take_length] at h2
    exact h2 j v hv)
  rw [hyl] at hl
  have hst := run_storeCells_at (P := P) g 0 e ys 0 cur w hr (by simpa using hf) h1
  rw [Nat.add_zero] at hst
  refine wpList_plain hgd fun K hK => ?_
  have hrun : (Builtin.copy_ #[dT, sT] o.type #[.slice (some ⟨g, 0, none⟩) n cap, .slice (some ⟨g2, 0, none⟩) n cap2]).run P w = .ok (goInt n) (w.setRow g (cur.toList.take 0 ++ ys ++ cur.toList.drop (0 + ys.length)).toArray) := by
    cases hq : P.info? elem with
    | none => simp [hq] at hsz
    | some i =>
      have hi : i.size = size := by simpa [hq] using hsz
      simp [Builtin.copy_, run_underlying hu, Builtin.lenOf, Builtin.firstCells, sizeOf, typeInfo, hq, hi, hl, hst]
  unfold Oper.wp execOp
  simp only [ho, resolve, invoke, builtin, Sem.run_bind, Sem.run_pure, Result.andThen_ok, List.map_toArray, List.map_cons, List.map_nil, hd, hs, hrun]
  exact hK _ _ (h _ ho2 hg)
/-- A part of a row is read. -/
theorem wpStill_val {ops : Array Oper} {rest : List Oper} {o : Oper} {a : Act} {Q : Act → Prop} {v : Value} (hgd : o.guard = none) (hr : (execOp a.eval o).run P w = .ok (.value v) w) (h : wpStill P ops w Q rest (a.put o.dst v)) : wpStill P ops w Q (o :: rest) a := by
  refine wpStill_step fun K hK => ?_
  have hw : Region.wanted o (yielded ops a.tmps) = true := by simp [Region.wanted, hgd]
  rw [if_pos hw]
  unfold Oper.still
  rw [hr]
  exact ⟨rfl, hK _ h⟩
theorem run_load_range {o : Oper} {a : Act} (ty : TypeId) (x : Operand) (ho : o.op = .load ty x) (k : Nat) (ps : List Value) (d : TypeDesc) (hx : a.eval x = .pointer (some ⟨g, k, none⟩)) (hr : w.rangeAt g k ps)
    (hu : P.underlying ty = some d) (hd : d.isRow = true) (hs : (P.info? ty).map (·.size) = some ps.length) : (execOp a.eval o).run P w = .ok (.value (.agg ps.toArray)) w := by
  unfold execOp
  simp only [ho, hx, Instr.loadAt, Instr.sureAddr, Sem.run_bind, Sem.run_pure, Result.andThen_ok, run_loadVar_mid w g k ty ps d hr hu hd hs]
end
theorem run_builtOp {P : Program} {w : World} {o : Oper} {a : Act} (ty : TypeId) (parts : Array (Nat × Operand)) (ho : o.op = .build ty parts) (cells : Array Value) (hb : P.built ty (parts.map fun (i, x) => (i, a.eval x)).toList = some cells) : (execOp a.eval o).run P w = .ok (.value (.agg cells)) w := by
  have hr := run_build (P := P) w ty _ cells hb
  unfold execOp
  simp only [ho]
  simp only [Sem.run_bind, Sem.run_pure, hr, Result.andThen_ok]
theorem run_idxAt {P : Program} {w : World} {o : Oper} {a : Act} (sz : Nat) (ty e : TypeId) (x y : Operand) (ho : o.op = .indexAddr ty x y) (g off n c k : Nat) (hx : a.eval x = .slice (some ⟨g, off, none⟩) n c) (hy : a.eval y = .int .i64 (k : Int)) (hk : k < n)
    (hu : P.underlying ty = some (.slice e)) (hs : (P.info? e).map (·.size) = some sz) : (execOp a.eval o).run P w = .ok (.value (.pointer (some ⟨g, off + k * sz, none⟩))) w := by
  obtain ⟨f, hf, hz⟩ := Option.map_eq_some_iff.1 hs
  unfold execOp
  simp only [ho, hx, hy]
  simp [Instr.indexAt, asIntOf, run_underlying hu, sizeOf, typeInfo, hf, hz, hk, go_sem]
theorem run_idxAt0 {P : Program} {w : World} {o : Oper} {a : Act} (sz : Nat) (ty e : TypeId) (x y : Operand) (ho : o.op = .indexAddr ty x y) (g n c k : Nat) (hx : a.eval x = .slice (some ⟨g, 0, none⟩) n c) (hy : a.eval y = .int .i64 (k : Int)) (hk : k < n)
    (hu : P.underlying ty = some (.slice e)) (hs : (P.info? e).map (·.size) = some sz) : (execOp a.eval o).run P w = .ok (.value (.pointer (some ⟨g, k * sz, none⟩))) w := by
  have := run_idxAt (P := P) (w := w) sz ty e x y ho g 0 n c k hx hy hk hu hs
  rwa [Nat.zero_add] at this
theorem wpList_val {P : Program} {w : World} {ops : Array Oper} {rest : List Oper} {o : Oper} {a : Act} {Q : Exit → Act → World → Prop} (hgd : o.guard = none) (v : Value) (hr : (execOp a.eval o).run P w = .ok (.value v) w) (h : wpList P ops Q rest (a.put o.dst v) w) : wpList P ops Q (o :: rest) a w :=
  wpList_plain hgd fun _ hK => by
    unfold Oper.wp
    rw [hr]
    exact hK _ _ h
theorem wp_val {P : Program} {w : World} {o : Oper} {a : Act} {K : Act → World → Prop} {Q : Exit → Act → World → Prop} (v : Value) (hr : (execOp a.eval o).run P w = .ok (.value v) w) (h : K (a.put o.dst v) w) : o.wp P a w K Q := by
  unfold Oper.wp
  rw [hr]
  exact h
def zeroWr : Array Value := (wr1 (0, zeroSec)).toArray
theorem Try.zeroWrite : (Try.prog.info? 69).map (·.zero) = some (some (.agg zeroWr)) := by kernel_rfl
theorem Try.infoWrite : (Try.prog.info? 69).map (fun i => (i.zero, i.size, i.bytes)) = some (some (.agg zeroWr), 257, 264) := by kernel_rfl
theorem Try.infoSector : (Try.prog.info? 67).map (fun i => (i.zero, i.size, i.bytes)) = some (some (.agg (cellsB zeroSec).toArray), 256, 256) := by kernel_rfl
theorem Try.sizeWrite : (Try.prog.info? 69).map (·.size) = some 257 := by kernel_rfl
theorem Try.sizeSector : (Try.prog.info? 67).map (·.size) = some 256 := by kernel_rfl
theorem Try.builtWrite (i : Nat) : Try.prog.built 69 [(0, .int .i64 (i : Int))] = some (wr1 (i, zeroSec)).toArray := by kernel_rfl
theorem Try.sizeWr (x : Nat × List UInt8) (h : x.2.length = 256) : (Try.prog.info? 69).map (·.size) = some (wr1 x).toArray.size := by
  rw [List.size_toArray, wr1_length h]
  exact Try.sizeWrite
theorem zeroWr_size (x : Nat × List UInt8) (h : x.2.length = 256) : zeroWr.size = (wr1 x).toArray.size := by
  unfold zeroWr
  rw [List.size_toArray, List.size_toArray, wr1_length h, wr1_length zeroSec_length]
theorem Try.sizeSecB (l : List UInt8) (h : l.length = 256) : (Try.prog.info? 67).map (·.size) = some (cellsB l).length := by
  rw [cellsB_length, h]
  exact Try.sizeSector
/-- A slice of one element is built. -/
theorem wp_oneRow {P : Program} {w : World} {o : Oper} {a : Act} {K : Act → World → Prop} {Q : Exit → Act → World → Prop} (ty e : TypeId) (x : Operand) (ho : o.op = .buildSlice ty 1 #[(0, x)]) (cs : List Value) (sz bytes : Nat) (z : Value) (hx : a.eval x = .agg cs.toArray) (hl : cs.length = sz) (h0 : 0 < sz) (hsm : sz ≤ 16777216)
    (hu : P.underlying ty = some (.slice e)) (hinfo : (P.info? e).map (fun i => (i.zero, i.size, i.bytes)) = some (some z, sz, bytes))
    (h : ∀ g w', NewRow w g e cs.toArray w' → K (a.put o.dst (.slice (some ⟨g, 0, none⟩) 1 1)) w') : o.wp P a w K Q := by
  obtain ⟨ie, hie, hz0, hz1, hz2⟩ := info_parts hinfo
  refine wp_buildSlice ty e 1 _ ho cs.toArray ie z hu hie hz0 (by rw [hz1]; omega) (by rw [hz1]; omega) ?_ (h _ _ (NewRow.mk_ w e _))
  have hp : (#[((0 : Nat), x)].map fun (i, x) => (i, a.eval x)).toList = ([Value.agg cs.toArray].zipIdx 0).map fun x => (x.2, x.1) := by simp [hx]
  have he : some cs.toArray = some ([Value.agg cs.toArray].flatMap fun v => v.cells.toList).toArray := by
    rw [List.flatMap_cons, List.flatMap_nil, List.append_nil]
    rfl
  rw [hp, hz1, he]
  refine Great.fill_whole h0 _ _ (fun v hv => ?_) (by simp)
  obtain rfl : v = .agg cs.toArray := List.mem_singleton.1 hv
  show cs.toArray.size = sz
  rw [List.size_toArray, hl]
theorem wpList_oneRow {P : Program} {w : World} {ops : Array Oper} {rest : List Oper} {o : Oper} {a : Act} {Q : Exit → Act → World → Prop} (hgd : o.guard = none) (ty e : TypeId) (x : Operand) (ho : o.op = .buildSlice ty 1 #[(0, x)]) (cs : List Value) (sz bytes : Nat) (z : Value) (hx : a.eval x = .agg cs.toArray) (hl : cs.length = sz) (h0 : 0 < sz) (hsm : sz ≤ 16777216)
    (hu : P.underlying ty = some (.slice e)) (hinfo : (P.info? e).map (fun i => (i.zero, i.size, i.bytes)) = some (some z, sz, bytes))
    (h : ∀ g w', NewRow w g e cs.toArray w' → wpList P ops Q rest (a.put o.dst (.slice (some ⟨g, 0, none⟩) 1 1)) w') : wpList P ops Q (o :: rest) a w :=
  wpList_plain hgd fun _ hK => wp_oneRow ty e x ho cs sz bytes z hx hl h0 hsm hu hinfo fun g w' n => hK _ _ (h g w' n)
theorem wpList_makeR {P : Program} {w : World} {ops : Array Oper} {rest : List Oper} {o : Oper} {a : Act} {Q : Exit → Act → World → Prop} (hgd : o.guard = none) (t e : TypeId) (x y : Operand) (ho : o.op = .makeSlice t x y) (n c : Nat) (hx : a.eval x = .int .i64 (n : Int)) (hy : a.eval y = .int .i64 (c : Int)) (ht : P.underlying t = some (.slice e)) (z : Value) (size bytes : Nat)
    (hinfo : (P.info? e).map (fun i => (i.zero, i.size, i.bytes)) = some (some z, size, bytes)) (cs : Array Value) (hcs : madeCells z.cells (c * size) = cs) (hnc : n ≤ c) (hc : c ≤ 100000) (hb : bytes ≤ 100000)
    (h : ∀ g w', NewRow w g e cs w' → wpList P ops Q rest (a.put o.dst (.slice (some ⟨g, 0, none⟩) n c)) w') : wpList P ops Q (o :: rest) a w := by
  obtain ⟨i, hi, hz0, hz1, hz2⟩ := info_parts hinfo
  have hbb : i.bytes * c ≤ 281474976710656 := by
    rw [hz2]
    exact Nat.le_trans (Nat.mul_le_mul hb hc) (by decide)
  have hr := run_make (P := P) w t e i z ht hi hz0 .i64 .i64 n c (by omega) (by omega) (by rw [← Int.natCast_mul]; omega) (by omega)
  simp only [Int.toNat_natCast] at hr
  rw [hz1, hcs] at hr
  refine wpList_plain hgd fun _ hK => ?_
  unfold Oper.wp execOp
  simp only [ho, hx, hy, Sem.run_bind]
  rw [hr]
  exact hK _ _ (h _ _ (NewRow.mk_ w e cs))
theorem wp_makeR {P : Program} {w : World} {o : Oper} {a : Act} {K : Act → World → Prop} {Q : Exit → Act → World → Prop} (t e : TypeId) (x y : Operand) (ho : o.op = .makeSlice t x y) (n c : Nat) (hx : a.eval x = .int .i64 (n : Int)) (hy : a.eval y = .int .i64 (c : Int)) (ht : P.underlying t = some (.slice e)) (z : Value) (size bytes : Nat)
    (hinfo : (P.info? e).map (fun i => (i.zero, i.size, i.bytes)) = some (some z, size, bytes)) (cs : Array Value) (hcs : madeCells z.cells (c * size) = cs) (hnc : n ≤ c) (hc : c ≤ 100000) (hb : bytes ≤ 100000)
    (h : ∀ g w', NewRow w g e cs w' → K (a.put o.dst (.slice (some ⟨g, 0, none⟩) n c)) w') : o.wp P a w K Q := by
  obtain ⟨i, hi, hz0, hz1, hz2⟩ := info_parts hinfo
  have hbb : i.bytes * c ≤ 281474976710656 := by
    rw [hz2]
    exact Nat.le_trans (Nat.mul_le_mul hb hc) (by decide)
  have hr := run_make (P := P) w t e i z ht hi hz0 .i64 .i64 n c (by omega) (by omega) (by rw [← Int.natCast_mul]; omega) (by omega)
  simp only [Int.toNat_natCast] at hr
  rw [hz1, hcs] at hr
  unfold Oper.wp execOp
  simp only [ho, hx, hy, Sem.run_bind]
  rw [hr]
  exact h _ _ (NewRow.mk_ w e cs)
/-- A part of a row is written. -/
theorem wpList_storeRP {P : Program} {w : World} {ops : Array Oper} {rest : List Oper} {o : Oper} {a : Act} {Q : Exit → Act → World → Prop} (hgd : o.guard = none) (ty : TypeId) (x y : Operand) (ho : o.op = .store ty x y) (g k : Nat) (t : TypeId) (old cs : Array Value) (ps : List Value) (hx : a.eval x = .pointer (some ⟨g, k, none⟩)) (hy : a.eval y = .agg ps.toArray)
    (hr : RowAt w g t old) (hk : k + ps.length ≤ old.size) (hc : (old.toList.take k ++ ps ++ old.toList.drop (k + ps.length)).toArray = cs) (hs : (P.info? ty).map (·.size) = some ps.length) (h1 : ∀ u ∈ ps, u.oneCell' = true)
    (h : ∀ w', PutRow w g t cs w' → wpList P ops Q rest (a.put o.dst undef) w') : wpList P ops Q (o :: rest) a w := by
  refine wpList_plain hgd fun _ hK => ?_
  obtain ⟨f, hf, hz⟩ := Option.map_eq_some_iff.1 hs
  have hrun := run_storeCells_at (P := P) g k t ps 0 old w hr (by simpa using hk) h1
  rw [Nat.add_zero, hc] at hrun
  unfold Oper.wp execOp
  simp [ho, Instr.storeAt, Instr.sureAddr, storeVar, hx, hy, sizeOf, typeInfo, hf, hz, Value.cells, hrun]
  exact hK _ _ (h _ (setRow_put hr))
end Go.Proofs.Ytenmgpijhaalbaa
