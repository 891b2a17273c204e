/-
  Texts that belong together, merged: DevM, DevB, DevC. Conditions: as each theorem names them.
-/
import Derived.Test.YtpgbicbjlhkonaaGreatDoorChecked
import Derived.Test.YtpgbicbjlhkonaaGreatDoorQVlpAB
import Derived.Test.YtpgbicbjlhkonaaGreatDoorQVlpAC
import Derived.Laws.Tables
import Derived.Great.BuildSlice
import Derived.Laws.MakeOwn
import Derived.Test.YtpgbicbjlhkonaaGreatDoorQVlpAA
import Derived.Deep.Onto
import Derived.Maps.AppendAt
import Derived.StillTailTactics
section
namespace Go.Proofs.YtpgbicbjlhkonaaGreatDoor
open Go.RowKit
set_option linter.unusedVariables false

/-! Lists of one length, joined. -/
section
variable {α : Type} {n : Nat}
theorem dflat_length {ls : List (List α)} (h : ∀ l ∈ ls, l.length = n) : ls.flatten.length = ls.length * n := by
  induction ls with
  | nil => simp
  | cons l ls ih =>
    rw [List.flatten_cons, List.length_append, ih (fun x hx => h x (List.mem_cons_of_mem _ hx)), h l (List.mem_cons_self ..), List.length_cons, Nat.add_mul]
    omega
theorem dflat_drop {ls : List (List α)} (h : ∀ l ∈ ls, l.length = n) (i : Nat) : ls.flatten.drop (i * n) = (ls.drop i).flatten := by
  induction i generalizing ls with
  | zero => simp
  | succ i ih =>
    rcases ls with _ | ⟨l, ls⟩
    · simp
    · have hl : l.length = n := h l (List.mem_cons_self ..)
      rw [List.flatten_cons, List.drop_succ_cons, ← ih (fun x hx => h x (List.mem_cons_of_mem _ hx)), Nat.add_mul, Nat.one_mul, Nat.add_comm, List.drop_append, hl]
      rw [List.drop_eq_nil_of_le (by omega), Nat.add_sub_cancel_left, List.nil_append]
theorem dflat_take {ls : List (List α)} (h : ∀ l ∈ ls, l.length = n) (i : Nat) : ls.flatten.take (i * n) = (ls.take i).flatten := by
  induction i generalizing ls with
  | zero => simp
  | succ i ih =>
    rcases ls with _ | ⟨l, ls⟩
    · simp
    · have hl : l.length = n := h l (List.mem_cons_self ..)
      rw [List.flatten_cons, List.take_succ_cons, List.flatten_cons, ← ih (fun x hx => h x (List.mem_cons_of_mem _ hx)), Nat.add_mul, Nat.one_mul, Nat.add_comm, List.take_append, hl]
      rw [List.take_of_length_le (by omega), Nat.add_sub_cancel_left]
theorem dflat_part {ls : List (List α)} (h : ∀ l ∈ ls, l.length = n) {i : Nat} {l : List α} (hi : ls[i]? = some l) : (ls.flatten.drop (i * n)).take n = l := by
  rw [dflat_drop h i]
  obtain ⟨h1, rfl⟩ := List.getElem?_eq_some_iff.1 hi
  rw [List.drop_eq_getElem_cons h1, List.flatten_cons]
  exact List.take_left' (h _ (List.getElem_mem h1))
theorem flat_set {ls : List (List α)} (h : ∀ l ∈ ls, l.length = n) {i : Nat} (hi : i < ls.length) {x : List α} (hx : x.length = n) : ls.flatten.take (i * n) ++ x ++ ls.flatten.drop (i * n + n) = (ls.set i x).flatten := by
  have e : i * n + n = (i + 1) * n := by rw [Nat.add_mul, Nat.one_mul]
  rw [e, dflat_drop h (i + 1), dflat_take h i, List.set_eq_take_append_cons_drop, if_pos hi, List.flatten_append, List.flatten_cons, List.append_assoc]
end
theorem cellsB_take (l : List UInt8) (k : Nat) : cellsB (l.take k) = (cellsB l).take k := by simp [cellsB]
theorem cellsB_drop (l : List UInt8) (k : Nat) : cellsB (l.drop k) = (cellsB l).drop k := by simp [cellsB]
/-- The cells of a row of writes. -/
def wr1 (x : Nat × List UInt8) : List Value := Value.int .i64 (x.1 : Int) :: cellsB x.2
def wrC (p : List (Nat × List UInt8)) : List Value := (p.map wr1).flatten
theorem wr1_length {x : Nat × List UInt8} (h : x.2.length = 256) : (wr1 x).length = 257 := by
  unfold wr1
  rw [List.length_cons, cellsB_length, h]
theorem wr1_one (x : Nat × List UInt8) : ∀ u ∈ wr1 x, u.oneCell' = true := by
  intro u hu
  rcases List.mem_cons.1 hu with rfl | hu
  · rfl
  · exact cellsB_one _ u hu
theorem wrC_one (p : List (Nat × List UInt8)) : ∀ u ∈ wrC p, u.oneCell' = true := by
  intro u hu
  obtain ⟨l, hl, hu⟩ := List.mem_flatten.1 hu
  obtain ⟨x, _, rfl⟩ := List.mem_map.1 hl
  exact wr1_one x u hu
theorem wrC_all {p : List (Nat × List UInt8)} (h : ∀ x ∈ p, x.2.length = 256) : ∀ l ∈ p.map wr1, l.length = 257 := by
  intro l hl
  obtain ⟨x, hx, rfl⟩ := List.mem_map.1 hl
  exact wr1_length (h x hx)
theorem wrC_length {p : List (Nat × List UInt8)} (h : ∀ x ∈ p, x.2.length = 256) : (wrC p).length = p.length * 257 := by
  unfold wrC
  rw [dflat_length (wrC_all h), List.length_map]
theorem wrC_part {p : List (Nat × List UInt8)} (h : ∀ x ∈ p, x.2.length = 256) {i : Nat} {x : Nat × List UInt8} (hi : p[i]? = some x) : ((wrC p).drop (i * 257)).take 257 = wr1 x :=
  dflat_part (wrC_all h) (by rw [List.getElem?_map, hi]; rfl)
theorem wrC_snoc (p : List (Nat × List UInt8)) (x : Nat × List UInt8) : wrC (p ++ [x]) = wrC p ++ wr1 x := by simp [wrC]

/-! What a call turns: blocks of F, and what is new. -/
structure Turns (F : Nat → Prop) (w w' : World) : Prop where
  os : w'.os = w.os
  tape : w'.tape = w.tape
  output : w'.output = w.output
  size : w.heap.size ≤ w'.heap.size
  block : ∀ k, k < w.heap.size → ¬ F k → w'.heap[k]? = w.heap[k]?
def Wide (F : Nat → Prop) (w w' : World) (k : Nat) : Prop := F k ∨ (w.heap.size ≤ k ∧ k < w'.heap.size)
section
variable {F G : Nat → Prop} {w w' w2 : World}
theorem Turns.refl (F : Nat → Prop) (w : World) : Turns F w w := ⟨rfl, rfl, rfl, Nat.le_refl _, fun _ _ _ => rfl⟩
theorem Turns.mono (h : Turns F w w') (hF : ∀ k, k < w.heap.size → F k → G k) : Turns G w w' := ⟨h.os, h.tape, h.output, h.size, fun k hk hn => h.block k hk fun hf => hn (hF k hk hf)⟩
theorem Turns.trans (h : Turns F w w') (h2 : Turns G w' w2) (hG : ∀ k, k < w.heap.size → G k → F k) : Turns F w w2 :=
  ⟨h2.os.trans h.os, h2.tape.trans h.tape, h2.output.trans h.output, Nat.le_trans h.size h2.size, fun k hk hn => (h2.block k (Nat.lt_of_lt_of_le hk h.size) fun hg => hn (hG k hk hg)).trans (h.block k hk hn)⟩
theorem Turns.same (h : Turns F w w') (h2 : Turns F w' w2) : Turns F w w2 := h.trans h2 fun _ _ h => h
theorem Turns.wide (h : Turns F w w') (h2 : Turns (Wide F w w') w' w2) : Turns F w w2 := h.trans h2 fun k hk hw => hw.elim id fun h => by omega
theorem Turns.of_below (F : Nat → Prop) (h : Below w.heap.size w w') : Turns F w w' := ⟨h.os, h.tape, h.output, h.size, fun k hk _ => h.block k hk⟩
theorem Turns.of_grown {r : Option Nat} (h : w.grownBy w' r) (hr : ∀ k, r = some k → F k) : Turns F w w' := ⟨h.os, h.tape, h.output, h.size, fun k hk hn => h.block k hk fun e => hn (hr k e.symm)⟩
theorem Turns.drewN (h : Turns F w w') (n : Nat) : Turns F w (w'.drewN n) := ⟨h.os, h.tape, h.output, h.size, h.block⟩
theorem Turns.drew (h : Turns F w w') : Turns F w w'.drew := ⟨h.os, h.tape, h.output, h.size, h.block⟩
theorem Turns.below {B : Nat} {w0 : World} (h : Turns F w w') (hb : Below B w0 w) (hB : B ≤ w.heap.size) (hF : ∀ k, F k → B ≤ k) : Below B w0 w' :=
  hb.trans ⟨h.os, h.tape, h.output, h.size, fun k hk => h.block k (Nat.lt_of_lt_of_le hk hB) fun hf => by have := hF k hf; omega⟩
theorem Turns.row (h : Turns F w w') {g : Nat} {t : TypeId} {cs : Array Value} (hr : RowAt w g t cs) (hg : ¬ F g) : RowAt w' g t cs := (h.block g hr.lt hg).trans hr
theorem Turns.cell (h : Turns F w w') {p : Addr} {v : Value} (hc : w.cell? p = some v) (hg : ¬ F p.block) : w'.cell? p = some v := (World.cell?_of_block (h.block p.block (World.block_lt_of_cell? w p hc) hg)).trans hc
theorem Turns.own (h : Turns F w w') {base size n : Nat} {e : TypeId} {v : Value} {xs : List Value} (ho : w.ownsRow base e size v n xs) (hv : ∀ k, v.ownBlock = some k → ¬ F k) : w'.ownsRow base e size v n xs := by
  refine ⟨ho.1, ?_⟩
  rcases ho.2 with h1 | ⟨g, cap, cur, rfl, hb, hg, h2⟩
  · exact .inl h1
  · exact .inr ⟨g, cap, cur, rfl, hb, (h.block g (RowAt.lt hg) (hv g rfl)).trans hg, h2⟩
theorem Turns.bs (h : Turns F w w') {v : Value} {l : List UInt8} (hb : Bs w v l) (hv : ∀ k, v.ownBlock = some k → ¬ F k) : Bs w' v l := by
  obtain ⟨A, c, rfl, h1, h2, h3⟩ := hb
  refine ⟨A, c, rfl, h1, h2, fun hl => ?_⟩
  obtain ⟨b, off, rfl, hc⟩ := h3 hl
  exact ⟨b, off, rfl, fun j hj => h.cell (hc j hj) (hv b rfl)⟩
end

/-! A slice whose row the call knows whole: a part of it is read, or written. -/
section
variable {P : Program} {w : World} {base size n cap g : Nat} {e : TypeId} {xs : List Value}
theorem own_at (h : w.ownsRow base e size (.slice (some ⟨g, 0, none⟩) n cap) n xs) : ∃ cur, RowAt w g e cur ∧ base ≤ g ∧ n ≤ cap ∧ cap ≤ maxLen ∧ cur.size = cap * size ∧ cur.toList.take (n * size) = xs := by
  rcases h.2 with ⟨h1, _⟩ | ⟨g', cap', cur, hv, hb, hg, h2, h3, h4, h5⟩
  · cases h1
  · injection hv with e1 _ e3
    injection e1 with e1
    injection e1 with e1 _ _
    subst e1 e3
    exact ⟨cur, hg, hb, h2, h3, h4, h5⟩
theorem own_lt (h : w.ownsRow base e size (.slice (some ⟨g, 0, none⟩) n cap) n xs) : g < w.heap.size := by
  obtain ⟨cur, hr, _⟩ := own_at h
  exact hr.lt
theorem own_range (h : w.ownsRow base e size (.slice (some ⟨g, 0, none⟩) n cap) n xs) (k m : Nat) : w.rangeAt g k ((xs.drop k).take m) := by
  obtain ⟨cur, hr, _, _, _, _, ht⟩ := own_at h
  intro j v hv
  rw [hr.cell]
  rw [List.getElem?_take] at hv
  split at hv
  · rw [List.getElem?_drop, ← ht, List.getElem?_take] at hv
    split at hv
    · simpa using hv
    · cases hv
  · cases hv
theorem own_stored (h : w.ownsRow base e size (.slice (some ⟨g, 0, none⟩) n cap) n xs) (k : Nat) (ps : List Value) (hk : k + ps.length ≤ n * size) :
    ∃ cur w', RowAt w g e cur ∧ k + ps.length ≤ cur.size ∧ w' = w.setRow g (cur.toList.take k ++ ps ++ cur.toList.drop (k + ps.length)).toArray ∧
      w'.ownsRow base e size (.slice (some ⟨g, 0, none⟩) n cap) n (xs.take k ++ ps ++ xs.drop (k + ps.length)) ∧ w.grownBy w' (some g) ∧ w'.heap.size = w.heap.size := by
  obtain ⟨cur, hr, hb, h1, h2, h3, h4⟩ := own_at h
  have hle : n * size ≤ cap * size := Nat.mul_le_mul_right _ h1
  have p := setRow_put (cs := (cur.toList.take k ++ ps ++ cur.toList.drop (k + ps.length)).toArray) hr
  have hxl := h.1
  have hcl : cur.toList.length = cap * size := by rw [Array.length_toList, h3]
  refine ⟨cur, _, hr, by omega, rfl, ⟨?_, .inr ⟨g, cap, _, rfl, hb, p.row, h1, h2, ?_, ?_⟩⟩, p.grown, p.size⟩
  · rw [List.length_append, List.length_append, List.length_take, List.length_drop]
    omega
  · rw [List.size_toArray, List.length_append, List.length_append, List.length_take, List.length_drop, hcl]
    omega
  · rw [← h4]
    show ((cur.toList.take k ++ ps ++ cur.toList.drop (k + ps.length))).take (n * size) = _
    apply List.ext_getElem?
    intro j
    simp only [List.getElem?_take, List.getElem?_append, List.length_take, List.length_append, List.getElem?_drop, hcl]
    by_cases hj : j < n * size
    · rw [if_pos hj]
      have e1 : min k (cap * size) = k := by omega
      have e2 : min k (min (n * size) (cap * size)) = k := by omega
      rw [e1, e2]
      by_cases h5 : j < k + ps.length
      · rw [if_pos h5, if_pos h5]
        by_cases h6 : j < k
        · simp [h6, hj]
        · rw [if_neg h6, if_neg h6]
      · rw [if_neg h5, if_neg h5, if_pos (by omega)]
    · rw [if_neg hj]
      have e2 : min k (min (n * size) (cap * size)) = k := by omega
      rw [e2, if_neg (by omega), if_neg (by omega)]
/-- A part of it is written. -/
theorem wpList_storeO {ops : Array Oper} {rest : List Oper} {o : Oper} {a : Act} {Q : Exit → Act → World → Prop} (hgd : o.guard = none) (ty : TypeId) (x y : Operand) (ho : o.op = .store ty x y) (k : Nat) (ps : List Value) (hx : a.eval x = .pointer (some ⟨g, k, none⟩)) (hy : a.eval y = .agg ps.toArray)
    (hown : w.ownsRow base e size (.slice (some ⟨g, 0, none⟩) n cap) n xs) (hk : k + ps.length ≤ n * size) (hs : (P.info? ty).map (·.size) = some ps.length) (h1 : ∀ u ∈ ps, u.oneCell' = true)
    (h : ∀ w', w'.ownsRow base e size (.slice (some ⟨g, 0, none⟩) n cap) n (xs.take k ++ ps ++ xs.drop (k + ps.length)) → w.grownBy w' (some g) → wpList P ops Q rest (a.put o.dst undef) w') : wpList P ops Q (o :: rest) a w := by
  obtain ⟨cur, w', hr, hf, rfl, ho2, hg, _⟩ := own_stored hown k ps hk
  refine wpList_plain hgd fun _ hK => ?_
  obtain ⟨f, hf2, hz⟩ := Option.map_eq_some_iff.1 hs
  have hrun := run_storeCells_at (P := P) g k e ps 0 cur w hr (by simpa using hf) h1
  rw [Nat.add_zero] at hrun
  unfold Oper.wp execOp
  simp [ho, Instr.storeAt, Instr.sureAddr, storeVar, hx, hy, sizeOf, typeInfo, hf2, hz, Value.cells, hrun]
  rw [← List.append_assoc]
  exact hK _ _ (h _ ho2 hg)
/-- copy, of as many as both have. -/
theorem wpList_copyO {ops : Array Oper} {rest : List Oper} {o : Oper} {a : Act} {Q : Exit → Act → World → Prop} (hgd : o.guard = none) (d s : Operand) (dT sT : TypeId)
    (ho : o.op = .call { callee := .builtin .copy, args := #[d, s], argTypes := #[dT, sT] }) (elem : TypeId) (hu : P.underlying dT = some (.slice elem)) (hsz : (P.info? elem).map (·.size) = some size)
    {base2 g2 cap2 : Nat} {e2 : TypeId} {ys : List Value} (hd : a.eval d = .slice (some ⟨g, 0, none⟩) n cap) (hs : a.eval s = .slice (some ⟨g2, 0, none⟩) n cap2)
    (hown : w.ownsRow base e size (.slice (some ⟨g, 0, none⟩) n cap) n xs) (hsrc : w.ownsRow base2 e2 size (.slice (some ⟨g2, 0, none⟩) n cap2) n ys) (h1 : ∀ u ∈ ys, u.oneCell' = true)
    (h : ∀ w', w'.ownsRow base e size (.slice (some ⟨g, 0, none⟩) n cap) n ys → w.grownBy w' (some g) → wpList P ops Q rest (a.put o.dst (goInt n)) w') : wpList P ops Q (o :: rest) a w := by
  have hyl := hsrc.1
  obtain ⟨cur, w', hr, hf, rfl, ho2, hg, _⟩ := own_stored hown 0 ys (by omega)
  have e0 : xs.take 0 ++ ys ++ xs.drop (0 + ys.length) = ys := by
    have := hown.1
    rw [List.drop_eq_nil_of_le (by omega)]
    simp
  rw [e0] at ho2
  have hl := run_loadCells_list (P := P) w ⟨g2, 0, none⟩ ys (fun j v hv => by
    have hadd : (⟨g2, 0, none⟩ : Addr).add j = ⟨g2, 0 + j, none⟩ := by unfold Addr.add; split <;> simp_all
    rw [hadd]
    have h2 := own_range hsrc 0 ys.length
    rw [List.drop_zero, List.take_length] at h2
    exact h2 j v hv)
  rw [hyl] at hl
  have hst := run_storeCells_at (P := P) g 0 e ys 0 cur w hr (by simpa using hf) h1
  rw [Nat.add_zero] at hst
  refine wpList_plain hgd fun K hK => ?_
  have hrun : (Builtin.copy_ #[dT, sT] o.type #[.slice (some ⟨g, 0, none⟩) n cap, .slice (some ⟨g2, 0, none⟩) n cap2]).run P w = .ok (goInt n) (w.setRow g (cur.toList.take 0 ++ ys ++ cur.toList.drop (0 + ys.length)).toArray) := by
    cases hq : P.info? elem with
    | none => simp [hq] at hsz
    | some i =>
      have hi : i.size = size := by simpa [hq] using hsz
      simp [Builtin.copy_, run_underlying hu, Builtin.lenOf, Builtin.firstCells, sizeOf, typeInfo, hq, hi, hl, hst]
  unfold Oper.wp execOp
  simp only [ho, resolve, invoke, builtin, Sem.run_bind, Sem.run_pure, Result.andThen_ok, List.map_toArray, List.map_cons, List.map_nil, hd, hs, hrun]
  exact hK _ _ (h _ ho2 hg)
/-- A part of a row is read. -/
theorem wpStill_val {ops : Array Oper} {rest : List Oper} {o : Oper} {a : Act} {Q : Act → Prop} {v : Value} (hgd : o.guard = none) (hr : (execOp a.eval o).run P w = .ok (.value v) w) (h : wpStill P ops w Q rest (a.put o.dst v)) : wpStill P ops w Q (o :: rest) a := by
  refine wpStill_step fun K hK => ?_
  have hw : Region.wanted o (yielded ops a.tmps) = true := by simp [Region.wanted, hgd]
  rw [if_pos hw]
  unfold Oper.still
  rw [hr]
  exact ⟨rfl, hK _ h⟩
theorem run_load_range {o : Oper} {a : Act} (ty : TypeId) (x : Operand) (ho : o.op = .load ty x) (k : Nat) (ps : List Value) (d : TypeDesc) (hx : a.eval x = .pointer (some ⟨g, k, none⟩)) (hr : w.rangeAt g k ps)
    (hu : P.underlying ty = some d) (hd : d.isRow = true) (hs : (P.info? ty).map (·.size) = some ps.length) : (execOp a.eval o).run P w = .ok (.value (.agg ps.toArray)) w := by
  unfold execOp
  simp only [ho, hx, Instr.loadAt, Instr.sureAddr, Sem.run_bind, Sem.run_pure, Result.andThen_ok, run_loadVar_mid w g k ty ps d hr hu hd hs]
end
theorem run_builtOp {P : Program} {w : World} {o : Oper} {a : Act} (ty : TypeId) (parts : Array (Nat × Operand)) (ho : o.op = .build ty parts) (cells : Array Value) (hb : P.built ty (parts.map fun (i, x) => (i, a.eval x)).toList = some cells) : (execOp a.eval o).run P w = .ok (.value (.agg cells)) w := by
  have hr := run_build (P := P) w ty _ cells hb
  unfold execOp
  simp only [ho]
  simp only [Sem.run_bind, Sem.run_pure, hr, Result.andThen_ok]
theorem run_idxAt {P : Program} {w : World} {o : Oper} {a : Act} (sz : Nat) (ty e : TypeId) (x y : Operand) (ho : o.op = .indexAddr ty x y) (g off n c k : Nat) (hx : a.eval x = .slice (some ⟨g, off, none⟩) n c) (hy : a.eval y = .int .i64 (k : Int)) (hk : k < n)
    (hu : P.underlying ty = some (.slice e)) (hs : (P.info? e).map (·.size) = some sz) : (execOp a.eval o).run P w = .ok (.value (.pointer (some ⟨g, off + k * sz, none⟩))) w := by
  obtain ⟨f, hf, hz⟩ := Option.map_eq_some_iff.1 hs
  unfold execOp
  simp only [ho, hx, hy]
  simp [Instr.indexAt, asIntOf, run_underlying hu, sizeOf, typeInfo, hf, hz, hk, go_sem]
theorem run_idxAt0 {P : Program} {w : World} {o : Oper} {a : Act} (sz : Nat) (ty e : TypeId) (x y : Operand) (ho : o.op = .indexAddr ty x y) (g n c k : Nat) (hx : a.eval x = .slice (some ⟨g, 0, none⟩) n c) (hy : a.eval y = .int .i64 (k : Int)) (hk : k < n)
    (hu : P.underlying ty = some (.slice e)) (hs : (P.info? e).map (·.size) = some sz) : (execOp a.eval o).run P w = .ok (.value (.pointer (some ⟨g, k * sz, none⟩))) w := by
  have := run_idxAt (P := P) (w := w) sz ty e x y ho g 0 n c k hx hy hk hu hs
  rwa [Nat.zero_add] at this
theorem wpList_val {P : Program} {w : World} {ops : Array Oper} {rest : List Oper} {o : Oper} {a : Act} {Q : Exit → Act → World → Prop} (hgd : o.guard = none) (v : Value) (hr : (execOp a.eval o).run P w = .ok (.value v) w) (h : wpList P ops Q rest (a.put o.dst v) w) : wpList P ops Q (o :: rest) a w :=
  wpList_plain hgd fun _ hK => by
    unfold Oper.wp
    rw [hr]
    exact hK _ _ h
theorem wp_val {P : Program} {w : World} {o : Oper} {a : Act} {K : Act → World → Prop} {Q : Exit → Act → World → Prop} (v : Value) (hr : (execOp a.eval o).run P w = .ok (.value v) w) (h : K (a.put o.dst v) w) : o.wp P a w K Q := by
  unfold Oper.wp
  rw [hr]
  exact h
def zeroWr : Array Value := (wr1 (0, zeroSec)).toArray
theorem Tryz.zeroWrite : (Tryz.prog.info? 104).map (·.zero) = some (some (.agg zeroWr)) := by kernel_rfl
theorem Tryz.infoWrite : (Tryz.prog.info? 104).map (fun i => (i.zero, i.size, i.bytes)) = some (some (.agg zeroWr), 257, 264) := by kernel_rfl
theorem Tryz.infoSector : (Tryz.prog.info? 102).map (fun i => (i.zero, i.size, i.bytes)) = some (some (.agg (cellsB zeroSec).toArray), 256, 256) := by kernel_rfl
theorem Tryz.sizeWrite : (Tryz.prog.info? 104).map (·.size) = some 257 := by kernel_rfl
theorem Tryz.sizeSector : (Tryz.prog.info? 102).map (·.size) = some 256 := by kernel_rfl
theorem Tryz.builtWrite (i : Nat) : Tryz.prog.built 104 [(0, .int .i64 (i : Int))] = some (wr1 (i, zeroSec)).toArray := by kernel_rfl
theorem Tryz.sizeWr (x : Nat × List UInt8) (h : x.2.length = 256) : (Tryz.prog.info? 104).map (·.size) = some (wr1 x).toArray.size := by
  rw [List.size_toArray, wr1_length h]
  exact Tryz.sizeWrite
theorem zeroWr_size (x : Nat × List UInt8) (h : x.2.length = 256) : zeroWr.size = (wr1 x).toArray.size := by
  unfold zeroWr
  rw [List.size_toArray, List.size_toArray, wr1_length h, wr1_length zeroSec_length]
theorem Tryz.sizeSecB (l : List UInt8) (h : l.length = 256) : (Tryz.prog.info? 102).map (·.size) = some (cellsB l).length := by
  rw [cellsB_length, h]
  exact Tryz.sizeSector
/-- A slice of one element is built. -/
theorem wp_oneRow {P : Program} {w : World} {o : Oper} {a : Act} {K : Act → World → Prop} {Q : Exit → Act → World → Prop} (ty e : TypeId) (x : Operand) (ho : o.op = .buildSlice ty 1 #[(0, x)]) (cs : List Value) (sz bytes : Nat) (z : Value) (hx : a.eval x = .agg cs.toArray) (hl : cs.length = sz) (h0 : 0 < sz) (hsm : sz ≤ 16777216)
    (hu : P.underlying ty = some (.slice e)) (hinfo : (P.info? e).map (fun i => (i.zero, i.size, i.bytes)) = some (some z, sz, bytes))
    (h : ∀ g w', NewRow w g e cs.toArray w' → K (a.put o.dst (.slice (some ⟨g, 0, none⟩) 1 1)) w') : o.wp P a w K Q := by
  obtain ⟨ie, hie, hz0, hz1, hz2⟩ := info_parts hinfo
  refine wp_buildSlice ty e 1 _ ho cs.toArray ie z hu hie hz0 (by rw [hz1]; omega) (by rw [hz1]; omega) ?_ (h _ _ (NewRow.mk_ w e _))
  have hp : (#[((0 : Nat), x)].map fun (i, x) => (i, a.eval x)).toList = ([Value.agg cs.toArray].zipIdx 0).map fun x => (x.2, x.1) := by simp [hx]
  have he : some cs.toArray = some ([Value.agg cs.toArray].flatMap fun v => v.cells.toList).toArray := by
    rw [List.flatMap_cons, List.flatMap_nil, List.append_nil]
    rfl
  rw [hp, hz1, he]
  refine Great.fill_whole h0 _ _ (fun v hv => ?_) (by simp)
  obtain rfl : v = .agg cs.toArray := List.mem_singleton.1 hv
  show cs.toArray.size = sz
  rw [List.size_toArray, hl]
theorem wpList_oneRow {P : Program} {w : World} {ops : Array Oper} {rest : List Oper} {o : Oper} {a : Act} {Q : Exit → Act → World → Prop} (hgd : o.guard = none) (ty e : TypeId) (x : Operand) (ho : o.op = .buildSlice ty 1 #[(0, x)]) (cs : List Value) (sz bytes : Nat) (z : Value) (hx : a.eval x = .agg cs.toArray) (hl : cs.length = sz) (h0 : 0 < sz) (hsm : sz ≤ 16777216)
    (hu : P.underlying ty = some (.slice e)) (hinfo : (P.info? e).map (fun i => (i.zero, i.size, i.bytes)) = some (some z, sz, bytes))
    (h : ∀ g w', NewRow w g e cs.toArray w' → wpList P ops Q rest (a.put o.dst (.slice (some ⟨g, 0, none⟩) 1 1)) w') : wpList P ops Q (o :: rest) a w :=
  wpList_plain hgd fun _ hK => wp_oneRow ty e x ho cs sz bytes z hx hl h0 hsm hu hinfo fun g w' n => hK _ _ (h g w' n)
theorem wpList_makeR {P : Program} {w : World} {ops : Array Oper} {rest : List Oper} {o : Oper} {a : Act} {Q : Exit → Act → World → Prop} (hgd : o.guard = none) (t e : TypeId) (x y : Operand) (ho : o.op = .makeSlice t x y) (n c : Nat) (hx : a.eval x = .int .i64 (n : Int)) (hy : a.eval y = .int .i64 (c : Int)) (ht : P.underlying t = some (.slice e)) (z : Value) (size bytes : Nat)
    (hinfo : (P.info? e).map (fun i => (i.zero, i.size, i.bytes)) = some (some z, size, bytes)) (cs : Array Value) (hcs : madeCells z.cells (c * size) = cs) (hnc : n ≤ c) (hc : c ≤ 100000) (hb : bytes ≤ 100000)
    (h : ∀ g w', NewRow w g e cs w' → wpList P ops Q rest (a.put o.dst (.slice (some ⟨g, 0, none⟩) n c)) w') : wpList P ops Q (o :: rest) a w := by
  obtain ⟨i, hi, hz0, hz1, hz2⟩ := info_parts hinfo
  have hbb : i.bytes * c ≤ 281474976710656 := by
    rw [hz2]
    exact Nat.le_trans (Nat.mul_le_mul hb hc) (by decide)
  have hr := run_make (P := P) w t e i z ht hi hz0 .i64 .i64 n c (by omega) (by omega) (by rw [← Int.natCast_mul]; omega) (by omega)
  simp only [Int.toNat_natCast] at hr
  rw [hz1, hcs] at hr
  refine wpList_plain hgd fun _ hK => ?_
  unfold Oper.wp execOp
  simp only [ho, hx, hy, Sem.run_bind]
  rw [hr]
  exact hK _ _ (h _ _ (NewRow.mk_ w e cs))
theorem wp_makeR {P : Program} {w : World} {o : Oper} {a : Act} {K : Act → World → Prop} {Q : Exit → Act → World → Prop} (t e : TypeId) (x y : Operand) (ho : o.op = .makeSlice t x y) (n c : Nat) (hx : a.eval x = .int .i64 (n : Int)) (hy : a.eval y = .int .i64 (c : Int)) (ht : P.underlying t = some (.slice e)) (z : Value) (size bytes : Nat)
    (hinfo : (P.info? e).map (fun i => (i.zero, i.size, i.bytes)) = some (some z, size, bytes)) (cs : Array Value) (hcs : madeCells z.cells (c * size) = cs) (hnc : n ≤ c) (hc : c ≤ 100000) (hb : bytes ≤ 100000)
    (h : ∀ g w', NewRow w g e cs w' → K (a.put o.dst (.slice (some ⟨g, 0, none⟩) n c)) w') : o.wp P a w K Q := by
  obtain ⟨i, hi, hz0, hz1, hz2⟩ := info_parts hinfo
  have hbb : i.bytes * c ≤ 281474976710656 := by
    rw [hz2]
    exact Nat.le_trans (Nat.mul_le_mul hb hc) (by decide)
  have hr := run_make (P := P) w t e i z ht hi hz0 .i64 .i64 n c (by omega) (by omega) (by rw [← Int.natCast_mul]; omega) (by omega)
  simp only [Int.toNat_natCast] at hr
  rw [hz1, hcs] at hr
  unfold Oper.wp execOp
  simp only [ho, hx, hy, Sem.run_bind]
  rw [hr]
  exact h _ _ (NewRow.mk_ w e cs)
/-- A part of a row is written. -/
theorem wpList_storeRP {P : Program} {w : World} {ops : Array Oper} {rest : List Oper} {o : Oper} {a : Act} {Q : Exit → Act → World → Prop} (hgd : o.guard = none) (ty : TypeId) (x y : Operand) (ho : o.op = .store ty x y) (g k : Nat) (t : TypeId) (old cs : Array Value) (ps : List Value) (hx : a.eval x = .pointer (some ⟨g, k, none⟩)) (hy : a.eval y = .agg ps.toArray)
    (hr : RowAt w g t old) (hk : k + ps.length ≤ old.size) (hc : (old.toList.take k ++ ps ++ old.toList.drop (k + ps.length)).toArray = cs) (hs : (P.info? ty).map (·.size) = some ps.length) (h1 : ∀ u ∈ ps, u.oneCell' = true)
    (h : ∀ w', PutRow w g t cs w' → wpList P ops Q rest (a.put o.dst undef) w') : wpList P ops Q (o :: rest) a w := by
  refine wpList_plain hgd fun _ hK => ?_
  obtain ⟨f, hf, hz⟩ := Option.map_eq_some_iff.1 hs
  have hrun := run_storeCells_at (P := P) g k t ps 0 old w hr (by simpa using hk) h1
  rw [Nat.add_zero, hc] at hrun
  unfold Oper.wp execOp
  simp [ho, Instr.storeAt, Instr.sureAddr, storeVar, hx, hy, sizeOf, typeInfo, hf, hz, Value.cells, hrun]
  exact hK _ _ (h _ (setRow_put hr))
end Go.Proofs.YtpgbicbjlhkonaaGreatDoor
end
section
namespace Go.Proofs.YtpgbicbjlhkonaaGreatDoor
open Go.RowKit
set_option linter.unusedVariables false
set_option maxRecDepth 20000

structure DevIs (w : World) (g gn cn gs cs : Nat) (vp : Value) (d : Dev) : Prop where
  row : RowAt w g 65 #[.slice (some ⟨gn, 0, none⟩) d.now.length cn, .slice (some ⟨gs, 0, none⟩) d.now.length cs, vp, .bool d.there, .int .i64 d.left, .bool d.burnt]
  now : w.ownsRow 0 102 256 (.slice (some ⟨gn, 0, none⟩) d.now.length cn) d.now.length (cellsB d.now.flatten)
  sure : w.ownsRow 0 102 256 (.slice (some ⟨gs, 0, none⟩) d.now.length cs) d.now.length (cellsB d.sure.flatten)
  pend : w.ownsRow 0 104 257 vp d.pend.length (wrC d.pend)
  apart : gn ≠ gs
  ok : d.Ok
/-- The device's blocks. -/
def Foot (g gn gs : Nat) (vp : Value) (k : Nat) : Prop := k = g ∨ k = gn ∨ k = gs ∨ vp.ownBlock = some k

theorem own_typed {w : World} {base size n : Nat} {e : TypeId} {v : Value} {xs : List Value} (h : w.ownsRow base e size v n xs) {k : Nat} (hk : v.ownBlock = some k) : ∃ cur, RowAt w k e cur := by
  rcases h.2 with ⟨rfl, _⟩ | ⟨g, cap, cur, rfl, _, hg, _⟩
  · cases hk
  · obtain rfl : g = k := by simpa [Value.ownBlock] using hk
    exact ⟨cur, hg⟩
theorem row_typed {w : World} {k : Nat} {t e : TypeId} {cs cs' : Array Value} (h : RowAt w k t cs) (h2 : RowAt w k e cs') : t = e := by
  have e1 := h.symm.trans h2
  injection e1 with e1
  injection e1 with _ e1 _
section
variable {w w' : World} {g gn cn gs cs : Nat} {vp : Value} {d : Dev}
theorem DevIs.nowRow (h : DevIs w g gn cn gs cs vp d) : ∃ cur, RowAt w gn 102 cur := own_typed h.now rfl
theorem DevIs.sureRow (h : DevIs w g gn cn gs cs vp d) : ∃ cur, RowAt w gs 102 cur := own_typed h.sure rfl
theorem DevIs.now_g (h : DevIs w g gn cn gs cs vp d) : gn ≠ g := fun e => by
  obtain ⟨cur, hr⟩ := h.nowRow
  exact absurd (row_typed (e ▸ hr) h.row) (by decide)
theorem DevIs.sure_g (h : DevIs w g gn cn gs cs vp d) : gs ≠ g := fun e => by
  obtain ⟨cur, hr⟩ := h.sureRow
  exact absurd (row_typed (e ▸ hr) h.row) (by decide)
theorem DevIs.pend_g (h : DevIs w g gn cn gs cs vp d) : vp.ownBlock ≠ some g := fun e => by
  obtain ⟨cur, hr⟩ := own_typed h.pend e
  exact absurd (row_typed hr h.row) (by decide)
theorem DevIs.pend_now (h : DevIs w g gn cn gs cs vp d) : vp.ownBlock ≠ some gn := fun e => by
  obtain ⟨cur, hr⟩ := own_typed h.pend e
  obtain ⟨cur2, hr2⟩ := h.nowRow
  exact absurd (row_typed hr hr2) (by decide)
theorem DevIs.pend_sure (h : DevIs w g gn cn gs cs vp d) : vp.ownBlock ≠ some gs := fun e => by
  obtain ⟨cur, hr⟩ := own_typed h.pend e
  obtain ⟨cur2, hr2⟩ := h.sureRow
  exact absurd (row_typed hr hr2) (by decide)
theorem DevIs.lt (h : DevIs w g gn cn gs cs vp d) {k : Nat} (hk : Foot g gn gs vp k) : k < w.heap.size := by
  rcases hk with rfl | rfl | rfl | hk
  · exact h.row.lt
  · obtain ⟨cur, hr⟩ := h.nowRow
    exact hr.lt
  · obtain ⟨cur, hr⟩ := h.sureRow
    exact hr.lt
  · obtain ⟨cur, hr⟩ := own_typed h.pend hk
    exact hr.lt
theorem DevIs.turned {F : Nat → Prop} (h : DevIs w g gn cn gs cs vp d) (ht : Turns F w w') (hF : ∀ k, Foot g gn gs vp k → ¬ F k) : DevIs w' g gn cn gs cs vp d where
  row := ht.row h.row (hF g (.inl rfl))
  now := ht.own h.now fun k hk => hF k (.inr (.inl (by simpa [Value.ownBlock] using hk.symm)))
  sure := ht.own h.sure fun k hk => hF k (.inr (.inr (.inl (by simpa [Value.ownBlock] using hk.symm))))
  pend := ht.own h.pend fun k hk => hF k (.inr (.inr (.inr hk)))
  apart := h.apart
  ok := h.ok
theorem DevIs.kept (h : DevIs w g gn cn gs cs vp d) (hb : Below w.heap.size w w') : DevIs w' g gn cn gs cs vp d := h.turned (F := fun _ => False) (Turns.of_below _ hb) fun _ _ h => h
theorem DevIs.drew (h : DevIs w g gn cn gs cs vp d) : DevIs w.drew g gn cn gs cs vp d := h.kept (Below.refl _ _).drew
/-- Its own row is written. -/
theorem DevIs.rowed (h : DevIs w g gn cn gs cs vp d) (hg : w.grownBy w' (some g)) {d' : Dev} (hr : RowAt w' g 65 #[.slice (some ⟨gn, 0, none⟩) d.now.length cn, .slice (some ⟨gs, 0, none⟩) d.now.length cs, vp, .bool d'.there, .int .i64 d'.left, .bool d'.burnt])
    (h1 : d'.now = d.now) (h2 : d'.sure = d.sure) (h3 : d'.pend = d.pend) (hok : d'.Ok) : DevIs w' g gn cn gs cs vp d' := by
  have ht : Turns (fun k => k = g) w w' := Turns.of_grown hg fun k hk => by injection hk with hk; exact hk.symm
  refine ⟨?_, ?_, ?_, ?_, h.apart, hok⟩
  · rw [h1]; exact hr
  · rw [h1]; exact ht.own h.now fun k hk e => h.now_g (by subst e; simpa [Value.ownBlock] using hk)
  · rw [h1, h2]; exact ht.own h.sure fun k hk e => h.sure_g (by subst e; simpa [Value.ownBlock] using hk)
  · rw [h3]; exact ht.own h.pend fun k hk e => h.pend_g (by subst e; exact hk)
theorem DevIs.vp_shape (h : DevIs w g gn cn gs cs vp d) : ∃ A c, vp = .slice A d.pend.length c := by
  rcases h.pend.2 with ⟨rfl, h0⟩ | ⟨k, cap, cur, rfl, _⟩
  · exact ⟨none, 0, by rw [h0]⟩
  · exact ⟨_, _, rfl⟩
theorem DevIs.cell (h : DevIs w g gn cn gs cs vp d) (i : Nat) (v : Value) (hv : (#[.slice (some ⟨gn, 0, none⟩) d.now.length cn, .slice (some ⟨gs, 0, none⟩) d.now.length cs, vp, .bool d.there, .int .i64 d.left, .bool d.burnt] : Array Value)[i]? = some v) : w.cell? ⟨g, i, none⟩ = some v := (h.row.cell i).trans hv
end

section
variable (w : World) (g gn cn gs cs : Nat) (vp : Value) (d : Dev)
theorem devLen_any (h : DevIs w g gn cn gs cs vp d) : Calls Tryz.prog 57 #[.pointer (some ⟨g, 0, none⟩)] w (RetV w (.int .i64 (d.now.length : Int))) := by
  have c0 := h.cell 0 _ rfl
  clear h
  go_enter Tryz.func57, Tryz.ntmps57
  go_wp2
  go_ret
  exact ⟨rfl, Below.refl _ _⟩
theorem devHas_any (h : DevIs w g gn cn gs cs vp d) (i : Int) : Calls Tryz.prog 50 #[.pointer (some ⟨g, 0, none⟩), .int .i64 i] w (RetV w (.bool (d.has i))) := by
  have HL : Hid (∀ w, DevIs w g gn cn gs cs vp d → Calls Tryz.prog 57 #[.pointer (some ⟨g, 0, none⟩)] w (RetV w (.int .i64 (d.now.length : Int)))) := fun w h => devLen_any w g gn cn gs cs vp d h
  have HH := Lib.hid h
  clear h
  by_cases h0 : 0 ≤ i
  · have hd : decide (0 ≤ i) = true := decide_eq_true h0
    go_enter Tryz.func50, Tryz.ntmps50
    go_wp2_with fail
    refine (HL.out _ HH.out).mono ?_
    rintro e w1 ⟨rfl, b1⟩
    have HB := Lib.hid b1
    clear b1
    go_wp2
    go_ret
    exact ⟨by unfold Dev.has; rw [hd]; rfl, HB.out⟩
  · have hd : decide (0 ≤ i) = false := decide_eq_false h0
    go_enter Tryz.func50, Tryz.ntmps50
    go_wp2
    go_ret
    exact ⟨by unfold Dev.has; rw [hd]; rfl, Below.refl _ _⟩
theorem devSet_any (h : DevIs w g gn cn gs cs vp d) (n : Int) (hn : -9223372036854775808 ≤ n ∧ n ≤ 9223372036854775807) : Calls Tryz.prog 47 #[.pointer (some ⟨g, 3, none⟩), .int .i64 n] w fun e w' => e = .returned (.tuple #[]) ∧ DevIs w' g gn cn gs cs vp (d.set n) ∧ w.grownBy w' (some g) := by
  have HH := Lib.hid h
  have c3 := h.cell 3 _ rfl
  have c4 := h.cell 4 _ rfl
  have z3 := h.row.frozen 3
  have z4 := h.row.frozen 4
  clear h
  go_enter Tryz.func47, Tryz.ntmps47
  go_wp2
  go_end0
  refine ⟨rfl, HH.out.rowed ((grown_setCell _ _ _ _).trans (grown_setCell _ _ _ _)) ((HH.out.row.put 3 _).put 4 _) rfl rfl rfl (HH.out.ok.set hn), (grown_setCell _ _ _ _).trans (grown_setCell _ _ _ _)⟩
theorem devSpend_any (h : DevIs w g gn cn gs cs vp d) : Calls Tryz.prog 51 #[.pointer (some ⟨g, 3, none⟩)] w fun e w' => e = .returned (.bool d.goes) ∧ DevIs w' g gn cn gs cs vp d.spend ∧ w.grownBy w' (some g) := by
  have HH := Lib.hid h
  have c3 := h.cell 3 _ rfl
  have c4 := h.cell 4 _ rfl
  have c5 := h.cell 5 _ rfl
  have z4 := h.row.frozen 4
  have z5 := h.row.frozen 5
  have hok := Lib.hid h.ok.spend
  have hl := h.ok.left
  have hf := h.ok.fuse
  clear h
  obtain ⟨now, sure, pend, there, left, burnt⟩ := d
  simp only at *
  rcases there with _ | _
  · rcases burnt with _ | _
    · have e1 : Hid (Dev.goes ⟨now, sure, pend, false, left, false⟩ = true) := rfl
      go_enter Tryz.func51, Tryz.ntmps51
      go_wp2
      go_ret
      exact ⟨rfl, HH.out.rowed (World.grownBy.refl _ _) HH.out.row rfl rfl rfl hok.out, World.grownBy.refl _ _⟩
    · go_enter Tryz.func51, Tryz.ntmps51
      go_wp2
      go_ret
      exact ⟨rfl, HH.out.rowed (World.grownBy.refl _ _) HH.out.row rfl rfl rfl hok.out, World.grownBy.refl _ _⟩
  · by_cases h0 : left = 0
    · subst h0
      rcases burnt with _ | _
      · go_enter Tryz.func51, Tryz.ntmps51
        go_wp2
        go_ret
        exact ⟨rfl, HH.out.rowed (grown_setCell _ _ _ _) (HH.out.row.put 5 _) rfl rfl rfl hok.out, grown_setCell _ _ _ _⟩
      · go_enter Tryz.func51, Tryz.ntmps51
        go_wp2
        go_ret
        exact ⟨rfl, HH.out.rowed (grown_setCell _ _ _ _) (HH.out.row.put 5 _) rfl rfl rfl hok.out, grown_setCell _ _ _ _⟩
    · have hd : decide (left = 0) = false := decide_eq_false h0
      have hf1 := hf rfl
      have hw : IntKind.i64.wrap (left - 1) = left - 1 := IntWalk.i64_in _ (by omega)
      rcases burnt with _ | _
      · have e1 : Hid (Dev.goes ⟨now, sure, pend, true, left, false⟩ = true) := by show _ = _; simp [Dev.goes, h0]
        have e2 : Hid (Dev.spend ⟨now, sure, pend, true, left, false⟩ = ⟨now, sure, pend, true, left - 1, false⟩) := by show _ = _; unfold Dev.spend; rw [e1.out]; rfl
        go_enter Tryz.func51, Tryz.ntmps51
        go_wp2
        go_ret
        rw [e1.out, e2.out]
        refine ⟨rfl, HH.out.rowed (grown_setCell _ _ _ _) (HH.out.row.put 4 _) rfl rfl rfl (e2.out ▸ hok.out), grown_setCell _ _ _ _⟩
      · go_enter Tryz.func51, Tryz.ntmps51
        go_wp2
        go_ret
        exact ⟨rfl, HH.out.rowed (World.grownBy.refl _ _) HH.out.row rfl rfl rfl hok.out, World.grownBy.refl _ _⟩
end
end Go.Proofs.YtpgbicbjlhkonaaGreatDoor
end
section
namespace Go.Proofs.YtpgbicbjlhkonaaGreatDoor
open Go.RowKit
set_option linter.unusedVariables false
set_option maxRecDepth 20000

/-- What a call that writes to a device tells. -/
def DevRet (w : World) (g gn cn gs cs : Nat) (vp : Value) (d : Dev) (v : Value) (e : Ending) (w' : World) : Prop :=
  ∃ vp', e = .returned v ∧ DevIs w' g gn cn gs cs vp' d ∧ Turns (Foot g gn gs vp) w w' ∧ ∀ k, vp'.ownBlock = some k → vp.ownBlock = some k ∨ w.heap.size ≤ k
theorem foot_grown {w w' : World} {g gn gs : Nat} {vp : Value} (hg : w.grownBy w' (some g)) : Turns (Foot g gn gs vp) w w' := Turns.of_grown hg fun k hk => by injection hk with hk; exact .inl hk.symm
theorem DevIs.bs {w w' : World} {g gn cn gs cs : Nat} {vp : Value} {d : Dev} (h : DevIs w g gn cn gs cs vp d) (hg : w.grownBy w' (some g)) {v : Value} {l : List UInt8} (hb : Bs w v l) : Bs w' v l := by
  obtain ⟨A, c, rfl, h1, h2, h3⟩ := hb
  refine ⟨A, c, rfl, h1, h2, fun hl => ?_⟩
  obtain ⟨b, off, rfl, hc⟩ := h3 hl
  refine ⟨b, off, rfl, fun j hj => ?_⟩
  have hcj := hc j hj
  have hne : b ≠ g := by
    intro e
    subst e
    rw [h.row.cell] at hcj
    obtain ⟨A2, c2, e2⟩ := h.vp_shape
    rw [e2] at hcj
    generalize off + j = m at hcj
    match m, hcj with
    | 0, hcj => simp at hcj
    | 1, hcj => simp at hcj
    | 2, hcj => simp at hcj
    | 3, hcj => simp at hcj
    | 4, hcj => simp at hcj
    | 5, hcj => simp at hcj
    | m + 6, hcj => simp at hcj
  exact (World.cell?_of_block (hg.block b (World.block_lt_of_cell? w _ hcj) fun e => hne (Option.some.inj e))).trans hcj
theorem spliced_write (i : Int) (b : List UInt8) (hb : b.length ≤ 256) : splice (Value.int .i64 i :: cellsB zeroSec) 1 (cellsB b) = Value.int .i64 i :: cellsB (pad b) := by
  unfold splice pad
  rw [cellsB_append, cellsB_length]
  have e : (cellsB zeroSec).drop b.length = cellsB (List.replicate (256 - b.length) 0) := by
    rw [← cellsB_drop]
    unfold zeroSec
    rw [List.drop_replicate]
  rw [Nat.add_comm 1, List.drop_succ_cons, e]
  rfl

theorem wr_range {w : World} {gw : Nat} {t : TypeId} {x : Nat × List UInt8} (h : RowAt w gw t (wr1 x).toArray) : w.rangeAt gw 1 (cellsB x.2) := by
  have := rangeAt_row (k := 1) (n := (cellsB x.2).length) h
  rw [show (((wr1 x).toArray.toList.drop 1).take (cellsB x.2).length) = cellsB x.2 from List.take_length] at this
  exact this
theorem row_from {w : World} {g : Nat} {t : TypeId} {l : List Value} (h : RowAt w g t l.toArray) : ∀ j v, l[j]? = some v → w.cell? ((⟨g, 0, none⟩ : Addr).add j) = some v := by
  intro j v hj
  have hadd : (⟨g, 0, none⟩ : Addr).add j = ⟨g, j, none⟩ := by unfold Addr.add; split <;> simp_all
  rw [hadd, h.cell j]
  simpa using hj
section
variable {w w' w2 : World} {g gn cn gs cs : Nat} {vp : Value} {d : Dev}
theorem foot_turns {r : Option Nat} (hg : w.grownBy w' r) (hr : ∀ k, r = some k → Foot g gn gs vp k) : Turns (Foot g gn gs vp) w w' := Turns.of_grown hg hr
/-- A sector is written. -/
theorem DevIs.stored (h : DevIs w g gn cn gs cs vp d) {ls : List (List UInt8)} (ho : w'.ownsRow 0 102 256 (.slice (some ⟨gn, 0, none⟩) d.now.length cn) d.now.length (cellsB ls.flatten)) (hg : w.grownBy w' (some gn)) (hl : ls.length = d.now.length) (hok : ({ d with now := ls } : Dev).Ok) : DevIs w' g gn cn gs cs vp { d with now := ls } := by
  have ht : Turns (fun k => k = gn) w w' := Turns.of_grown hg fun k hk => (Option.some.inj hk).symm
  refine ⟨?_, ?_, ?_, ?_, h.apart, hok⟩
  · rw [hl]; exact ht.row h.row fun e => h.now_g e.symm
  · rw [hl]; exact ho
  · rw [hl]; exact ht.own h.sure fun k hk e => h.apart (by subst e; exact (Option.some.inj hk).symm)
  · exact ht.own h.pend fun k hk e => h.pend_now (by subst e; exact hk)
theorem DevIs.storedS (h : DevIs w g gn cn gs cs vp d) {ls : List (List UInt8)} (ho : w'.ownsRow 0 102 256 (.slice (some ⟨gs, 0, none⟩) d.now.length cs) d.now.length (cellsB ls.flatten)) (hg : w.grownBy w' (some gs)) (hok : ({ d with sure := ls } : Dev).Ok) : DevIs w' g gn cn gs cs vp { d with sure := ls } := by
  have ht : Turns (fun k => k = gs) w w' := Turns.of_grown hg fun k hk => (Option.some.inj hk).symm
  refine ⟨?_, ?_, ?_, ?_, h.apart, hok⟩
  · exact ht.row h.row fun e => h.sure_g e.symm
  · exact ht.own h.now fun k hk e => h.apart (by subst e; exact Option.some.inj hk)
  · exact ho
  · exact ht.own h.pend fun k hk e => h.pend_sure (by subst e; exact hk)
/-- One more write is pending. -/
theorem DevIs.appended {vp' : Value} {p : List (Nat × List UInt8)} (h : DevIs w g gn cn gs cs vp d) (ho : w'.ownsRow 0 104 257 vp' p.length (wrC p)) (ht : Turns (fun k => vp.ownBlock = some k) w w') (hok : ({ d with pend := p } : Dev).Ok) :
    DevIs (w'.setCell ⟨g, 2, none⟩ vp') g gn cn gs cs vp' { d with pend := p } ∧ Turns (Foot g gn gs vp) w (w'.setCell ⟨g, 2, none⟩ vp') := by
  have hr := ht.row h.row h.pend_g
  have ht2 : Turns (fun k => k = g) w' (w'.setCell ⟨g, 2, none⟩ vp') := Turns.of_grown (grown_setCell _ _ _ _) fun k hk => (Option.some.inj hk).symm
  have h2 : Turns (Foot g gn gs vp) w (w'.setCell ⟨g, 2, none⟩ vp') := (ht.mono fun k _ hk => .inr (.inr (.inr hk))).same (ht2.mono fun k _ hk => .inl hk)
  refine ⟨⟨hr.put 2 vp', ?_, ?_, ?_, h.apart, hok⟩, h2⟩
  · exact ht2.own (ht.own h.now fun k hk e => h.pend_now (by rw [e, ← hk]; rfl)) fun k hk e => h.now_g (by subst e; exact Option.some.inj hk)
  · exact ht2.own (ht.own h.sure fun k hk e => h.pend_sure (by rw [e, ← hk]; rfl)) fun k hk e => h.sure_g (by subst e; exact Option.some.inj hk)
  · refine ht2.own ho fun k hk e => ?_
    subst e
    obtain ⟨cur, hr2⟩ := own_typed ho hk
    exact absurd (row_typed hr2 hr) (by decide)
end
theorem wp_append_at {P : Program} {w : World} {o : Oper} {a : Act} {K : Act → World → Prop} {Q : Exit → Act → World → Prop} (s x : Operand) (t : TypeId)
    (ho : o.op = .call { callee := .builtin .append, args := #[s, x], argTypes := #[t, t] })
    (base : Nat) (e : TypeId) (z : Value) (size bytes : Nat) (ht : P.underlying t = some (.slice e)) (hinfo : (P.info? e).map (fun i => (i.zero, i.size, i.bytes)) = some (some z, size, bytes)) (hzs : z.cells.size = size) (hsz : 0 < size)
    (v : Value) (n : Nat) (xs : List Value) (hs : a.eval s = v) (hown : w.ownsRow base e size v n xs)
    (ad : Addr) (m c : Nat) (news : List Value) (hx : a.eval x = .slice (some ad) m c) (hl : news.length = m * size) (hnews : ∀ j u, news[j]? = some u → w.cell? (ad.add j) = some u) (h1 : ∀ u ∈ news, u.oneCell' = true)
    (h63 : n + m ≤ maxLen) (hbytes : (n + m) * bytes ≤ 140737488355328) (hbase : base ≤ w.heap.size)
    (h : ∀ v' w', w'.ownsRow base e size v' (n + m) (xs ++ news) → w.grownBy w' v.ownBlock → (v'.ownBlock = v.ownBlock ∨ v'.ownBlock = some w.heap.size) → K (a.put o.dst v') w') : o.wp P a w K Q := by
  obtain ⟨i, hi, hz0, hz1, hz2⟩ := info_parts hinfo
  obtain ⟨v', w', hr, h2, h3, _, h5⟩ := run_append_own_at (P := P) w base t o.type e i z size bytes ht hi hz0 hz1 hz2 hzs hsz v n xs hown ad m c news hl hnews h1 h63 hbytes hbase
  unfold Oper.wp execOp
  simp only [ho, resolve, invoke, builtin, Sem.run_bind, Sem.run_pure, Result.andThen_ok, List.map_toArray, List.map_cons, List.map_nil, hs, hx, hr]
  exact h v' w' h2 h3 h5
theorem cells_from {w : World} {A : Option Addr} {n c : Nat} {l : List UInt8} (h : Bs w (.slice A n c) l) (h0 : 0 < l.length) : ∃ ad, A = some ad ∧ ∀ j v, (cellsB l)[j]? = some v → w.cell? (ad.add j) = some v := by
  obtain ⟨A', c', hv, _, _, h3⟩ := h
  injection hv with e1 e2 e3
  subst e1
  obtain ⟨b, off, rfl, hc⟩ := h3 h0
  refine ⟨_, rfl, fun j v hj => ?_⟩
  have hadd : (⟨b, off, none⟩ : Addr).add j = ⟨b, off + j, none⟩ := by unfold Addr.add; split <;> simp_all
  have hj1 := (List.getElem?_eq_some_iff.1 hj).1
  rw [cellsB_length] at hj1
  rw [cellsB_get l j hj1] at hj
  injection hj with hj
  rw [hadd, hc j hj1, hj]
set_option maxHeartbeats 2000000 in
theorem devWrite_any (w : World) (g gn cn gs cs : Nat) (vp : Value) (d : Dev) (h : DevIs w g gn cn gs cs vp d) (i : Int) (vb : Value) (b : List UInt8) (hb : Bs w vb b) (hp : d.pend.length ≤ 1000000) :
    Calls Tryz.prog 19 #[.pointer (some ⟨g, 0, none⟩), .int .i64 i, vb] w (DevRet w g gn cn gs cs vp (d.write i b) (.int .i64 (d.writeE i b))) := by
  have H1 : Hid (∀ w, DevIs w g gn cn gs cs vp d → Calls Tryz.prog 50 #[.pointer (some ⟨g, 0, none⟩), .int .i64 i] w (RetV w (.bool (d.has i)))) := fun w h => devHas_any w g gn cn gs cs vp d h i
  have H2 : Hid (∀ w, DevIs w g gn cn gs cs vp d → Calls Tryz.prog 51 #[.pointer (some ⟨g, 3, none⟩)] w fun e w' => e = .returned (.bool d.goes) ∧ DevIs w' g gn cn gs cs vp d.spend ∧ w.grownBy w' (some g)) := fun w h => devSpend_any w g gn cn gs cs vp d h
  have HH := Lib.hid h
  have HB := Lib.hid hb
  obtain ⟨A, c, rfl, hb1, hb2, hb3⟩ := hb
  clear h hb3
  by_cases hi : d.has i = false
  · have e1 : Hid (d.writeE i b = 60) := by show _ = _; unfold Dev.writeE; rw [if_pos hi]
    have e2 : Hid (d.write i b = d) := by show _ = _; unfold Dev.write; rw [if_pos hi]
    rw [hi] at H1
    go_enter Tryz.func19, Tryz.ntmps19
    go_wp2_with fail
    refine (H1.out _ HH.out).mono ?_
    rintro e w1 ⟨rfl, b1⟩
    have B1 := Lib.hid b1
    clear b1
    go_wp2_with fail
    go_ret
    rw [e1.out, e2.out]
    exact ⟨vp, rfl, HH.out.kept B1.out, Turns.of_below _ B1.out, fun k hk => .inl hk⟩
  · simp only [Bool.not_eq_false] at hi
    have hlt := Dev.has_lt hi
    obtain ⟨j, rfl⟩ : ∃ j : Nat, i = (j : Int) := ⟨i.toNat, by omega⟩
    have hj : j < d.now.length := by simpa using hlt.2
    have hle := HH.out.ok.most
    clear hlt
    have HI := Lib.hid hi
    have e1 : Hid (d.writeE j b = if 256 < b.length then 2 else if d.goes then 0 else 61) := by show _ = _; unfold Dev.writeE; rw [HI.out]; rfl
    have e2 : Hid (d.write j b = if 256 < b.length then d else if d.goes then d.spend.put j (pad b) else d.spend) := by show _ = _; unfold Dev.write; rw [HI.out]; rfl
    rw [hi] at H1
    clear hi HI
    by_cases hl : 256 < b.length
    · have hd : decide ((256 : Int) < (b.length : Int)) = true := by simp; omega
      rw [if_pos hl] at e1 e2
      go_enter Tryz.func19, Tryz.ntmps19
      go_wp2_with fail
      refine (H1.out _ HH.out).mono ?_
      rintro e w1 ⟨rfl, b1⟩
      have B1 := Lib.hid b1
      clear b1
      go_wp2_with fail
      go_ret
      rw [e1.out, e2.out]
      exact ⟨vp, rfl, HH.out.kept B1.out, Turns.of_below _ B1.out, fun k hk => .inl hk⟩
    · have hd : decide ((256 : Int) < (b.length : Int)) = false := by simp; omega
      rw [if_neg hl] at e1 e2
      by_cases hg : d.goes = true
      · rw [hg] at e1 e2 H2
        rw [if_pos rfl] at e1 e2
        go_enter Tryz.func19, Tryz.ntmps19
        go_wp2_with fail
        refine (H1.out _ HH.out).mono ?_
        rintro e w1 ⟨rfl, b1⟩
        have B1 := Lib.hid b1
        clear b1
        go_wp2_with fail
        refine (H2.out _ (HH.out.kept B1.out)).mono ?_
        rintro e w2 ⟨rfl, h2, g2⟩
        have D2 := Lib.hid h2
        have T2 := Lib.hid ((Turns.of_below (Foot g gn gs vp) B1.out).same (foot_grown g2))
        have B2 := Lib.hid ((HH.out.kept B1.out).bs g2 (HB.out.below B1.out))
        clear h2 g2
        go_wp2_with (first
          | (with_reducible refine wpList_val (o := ⟨some 21, _, _, _, _, _⟩) rfl (.agg (wr1 (j, zeroSec)).toArray) (by exact run_builtOp 104 #[(0, .tmp 20)] rfl _ (by with_unfolding_all exact Tryz.builtWrite _)) ?_)
          | ((with_reducible refine wpList_alloc_row (o := ⟨some 7, _, _, _, _, _⟩) rfl 104 rfl zeroWr Tryz.zeroWrite ?_); intro gw w3 n3; have N3 := Lib.hid n3; clear n3)
          | ((with_reducible refine wpList_store_row (o := ⟨none, _, _, _, _, _⟩) rfl 104 (.tmp 7) (.tmp 21) rfl gw 104 zeroWr (wr1 (j, zeroSec)).toArray (by with_unfolding_all rfl) (by with_unfolding_all rfl) N3.out.row (zeroWr_size (j, zeroSec) zeroSec_length) (Tryz.sizeWr (j, zeroSec) zeroSec_length) (wr1_one (j, zeroSec)) ?_); intro w4 p4; have L4 := Lib.hid (laid_put N3.out p4).1; have R4 := Lib.hid p4.row; clear p4)
          | ((with_reducible refine wpList_copy_splice (o := ⟨some 25, _, _, _, _, _⟩) rfl (.tmp 23) (.tmp 24) 38 38 rfl 5 Tryz.underlying38 (by kernel_rfl) (some ⟨gw, 1, none⟩) A 256 256 b.length c (by with_unfolding_all rfl) (by with_unfolding_all rfl) gw 1 (wr1 (j, zeroSec)) 104 (by with_unfolding_all exact R4.out) (cellsB b) (by rw [cellsB_length]; exact (Nat.min_eq_left (by omega)).symm) (by intro hz; exact ⟨rfl, cells_from (B2.out.below L4.out) (by rw [cellsB_length] at hz; exact hz)⟩) (by rw [cellsB_length, wr1_length zeroSec_length]; omega) (cellsB_one b) w2.heap.size w2 L4.out (Nat.le_of_eq N3.out.spot.symm) ?_); intro w5 r5 b5))
        have D5 := Lib.hid (D2.out.kept b5)
        have R5 : Hid (RowAt w5 gw 104 (wr1 (j, pad b)).toArray) := by
          have := r5.out
          unfold wr1 at this
          rw [spliced_write _ _ (by omega)] at this
          exact this
        have T5 := Lib.hid (T2.out.same (Turns.of_below _ b5))
        have LP : Hid ((pad b).length = 256) := pad_length (by omega)
        have NE : Hid (vp.ownBlock ≠ some gw) := fun e => by
          have h1 := D2.out.lt (.inr (.inr (.inr e)))
          have h2 := N3.out.spot
          omega
        clear r5 b5 L4 R4 D2 T2 B2 N3 B1
        have HO := Lib.hid D5.out.now
        have hc0 : w5.cell? ⟨g, 0, none⟩ = some (.slice (some ⟨gn, 0, none⟩) d.now.length cn) := D5.out.cell 0 _ rfl
        have hj2 : (j : Int) < (d.now.length : Int) := by omega
        have RG : Hid (w5.drew.rangeAt gw 1 (cellsB (pad b))) := wr_range (x := (j, pad b)) R5.out.drew
        go_still_tail 8, (by kernel_rfl)
        refine wpStill_val (o := ⟨some 32, _, _, _, _, _⟩) rfl (by exact run_load_range 102 (.tmp 31) rfl 1 (cellsB (pad b)) _ (by with_unfolding_all rfl) (by with_unfolding_all exact RG.out) Tryz.underlying102 rfl (Tryz.sizeSecB _ LP.out)) ?_
        simp only [Act.put, List.setIfInBounds_toArray, List.set_cons_zero, List.set_cons_succ]
        refine wpStill_val (o := ⟨some 33, _, _, _, _, _⟩) rfl (by exact run_idxAt 256 60 102 (.tmp 29) (.tmp 30) rfl gn 0 d.now.length cn j (by with_unfolding_all rfl) (by with_unfolding_all rfl) hj Tryz.underlying60 Tryz.sizeSector) ?_
        simp only [Act.put, List.setIfInBounds_toArray, List.set_cons_zero, List.set_cons_succ]
        refine wpStill_nil ?_
        change wpList _ _ _ _ _ w5.drew
        simp only [Nat.zero_add]
        have hfit : j * 256 + (cellsB (pad b)).length ≤ d.now.length * 256 := by
          rw [cellsB_length, LP.out]
          have := Nat.mul_le_mul_right 256 (Nat.succ_le_of_lt hj)
          rw [Nat.succ_mul] at this
          exact this
        clear hc0 hj2 RG
        have ES : Hid ((cellsB d.now.flatten).take (j * 256) ++ cellsB (pad b) ++ (cellsB d.now.flatten).drop (j * 256 + (cellsB (pad b)).length) = cellsB (d.now.set j (pad b)).flatten) := by
          show _ = _
          rw [← flat_set HH.out.ok.now hj LP.out, cellsB_append, cellsB_append, cellsB_take, cellsB_drop, cellsB_length, LP.out]
        have OK6 : Hid ({ d.spend with now := d.now.set j (pad b) } : Dev).Ok := by
          have := D5.out.ok.put (i := j) hj LP.out
          exact ⟨this.same, this.least, this.most, this.now, this.sure, fun x hx => this.pend x (List.mem_append_left _ hx), this.left, this.fuse⟩
        go_wp2_with ((with_reducible refine wpList_storeO (o := ⟨none, _, _, _, _, _⟩) rfl 102 (.tmp 33) (.tmp 32) rfl (j * 256) (cellsB (pad b)) (by with_unfolding_all rfl) (by with_unfolding_all rfl) (by with_unfolding_all exact D5.out.drew.now) hfit (Tryz.sizeSecB _ LP.out) (cellsB_one _) ?_); intro w6 o6 g6)
        have o6' : w6.ownsRow 0 102 256 (.slice (some ⟨gn, 0, none⟩) d.now.length cn) d.now.length (cellsB (d.now.set j (pad b)).flatten) := by
          rw [← ES.out]; exact o6
        have D6 := Lib.hid (D5.out.drew.stored o6' g6 (List.length_set ..) OK6.out)
        have g6' : Turns (fun k => k = gn) w5 w6 := (Turns.of_below _ (Below.refl _ _).drew).same (Turns.of_grown g6 fun k hk => (Option.some.inj hk).symm)
        have R6 := Lib.hid (g6'.row R5.out (by
          intro e
          subst e
          obtain ⟨cur, hr⟩ := D5.out.nowRow
          exact absurd (row_typed hr R5.out) (by decide)))
        have T6 := Lib.hid (T5.out.same (g6'.mono fun k _ hk => .inr (.inl hk)))
        clear o6 o6' g6 g6' ES OK6 D5 R5 T5 HO hfit
        have hc2 : w6.cell? ⟨g, 2, none⟩ = some vp := D6.out.cell 2 _ rfl
        have hS : (fun W : World => W.cell? ⟨g, 2, none⟩ = some vp ∧ RowAt W gw 104 (wr1 (j, pad b)).toArray) w6.drew := ⟨hc2, R6.out.drew⟩
        refine plain_region (S := fun W => W.cell? ⟨g, 2, none⟩ = some vp ∧ RowAt W gw 104 (wr1 (j, pad b)).toArray) (fin := fun i => i == 10) (by kernel_rfl) ?_
        change walkS _ _ _ _ _ _ 11 _ _ _
        refine walkS_take (i := 0) (oi := ⟨some 34, _, _, _, _, _⟩) (v := (.pointer (some ⟨g, 0, none⟩))) rfl (by kernel_rfl) (by kernel_rfl) (fun _ _ _ h => h) _ _ _ _ (by kernel_rfl) (by kernel_rfl) (Or.inl ⟨by rfl, fun w' hS' => (by clear hS hS'; go_simp)⟩) hS ?_
        try simp only [Act.put, List.setIfInBounds_toArray, List.set_cons_zero, List.set_cons_succ]
        refine walkS_take (i := 1) (oi := ⟨some 35, _, _, _, _, _⟩) (v := (.pointer (some ⟨g, 0, none⟩))) rfl (by kernel_rfl) (by kernel_rfl) (fun _ _ _ h => h) _ _ _ _ (by kernel_rfl) (by kernel_rfl) (Or.inl ⟨by rfl, fun w' hS' => (by clear hS hS'; go_simp)⟩) hS ?_
        try simp only [Act.put, List.setIfInBounds_toArray, List.set_cons_zero, List.set_cons_succ]
        refine walkS_take (i := 2) (oi := ⟨some 36, _, _, _, _, _⟩) (v := (.pointer (some ⟨g, 0, none⟩))) rfl (by kernel_rfl) (by kernel_rfl) (fun _ _ _ h => h) _ _ _ _ (by kernel_rfl) (by kernel_rfl) (Or.inl ⟨by rfl, fun w' hS' => (by clear hS hS'; go_simp)⟩) hS ?_
        try simp only [Act.put, List.setIfInBounds_toArray, List.set_cons_zero, List.set_cons_succ]
        refine walkS_take (i := 3) (oi := ⟨some 37, _, _, _, _, _⟩) (v := (.pointer (some ⟨g, 2, none⟩))) rfl (by kernel_rfl) (by kernel_rfl) (fun _ _ _ h => h) _ _ _ _ (by kernel_rfl) (by kernel_rfl) (Or.inl ⟨by rfl, fun w' hS' => (by clear hS hS'; go_simp)⟩) hS ?_
        try simp only [Act.put, List.setIfInBounds_toArray, List.set_cons_zero, List.set_cons_succ]
        refine walkS_take (i := 4) (oi := ⟨some 38, _, _, _, _, _⟩) (v := vp) rfl (by kernel_rfl) (by kernel_rfl) (fun _ _ _ h => h) _ _ _ _ (by kernel_rfl) (by kernel_rfl) (Or.inl ⟨by rfl, fun w' hS' => (by have h1 := hS'.1; clear hS hS'; go_simp)⟩) hS ?_
        try simp only [Act.put, List.setIfInBounds_toArray, List.set_cons_zero, List.set_cons_succ]
        refine walkS_take (i := 5) (oi := ⟨some 39, _, _, _, _, _⟩) (v := (.agg (wr1 (j, pad b)).toArray)) rfl (by kernel_rfl) (by kernel_rfl) (fun _ _ _ h => h) _ _ _ _ (by kernel_rfl) (by kernel_rfl) (Or.inl ⟨by rfl, fun w' hS' => (run_load_row 104 (.tmp 7) rfl gw rfl _ (wr1 (j, pad b)).toArray (0, 0) _ hS'.2 Tryz.underlying104 rfl (Tryz.sizeWr (j, pad b) LP.out))⟩) hS ?_
        try simp only [Act.put, List.setIfInBounds_toArray, List.set_cons_zero, List.set_cons_succ]
        clear hS
        refine walkS_only (i := 6) (o := ⟨some 40, _, _, _, _, _⟩) (by kernel_rfl) rfl rfl fun KK hKK => ?_
        refine wp_oneRow 61 104 (.tmp 39) rfl (wr1 (j, pad b)) 257 264 (.agg zeroWr) (by with_unfolding_all rfl) (wr1_length (x := (j, pad b)) LP.out) (by decide) (by decide) Tryz.underlying61 Tryz.infoWrite ?_
        intro g7 w7 n7
        have N7 := Lib.hid n7
        have b7 := n7.below
        refine hKK _ _ (.inr ⟨?_, R6.out.drew.kept b7⟩) ?_
        · rw [b7.cell (p := ⟨g, 2, none⟩) D6.out.drew.row.lt]; exact hc2
        try simp only [Act.put, List.setIfInBounds_toArray, List.set_cons_zero, List.set_cons_succ]
        clear hKK KK
        have D7 := Lib.hid (D6.out.drew.kept b7)
        have R7 := Lib.hid (R6.out.drew.kept b7)
        have T7 := Lib.hid (T6.out.same (Turns.of_below _ (below_size (Below.refl _ _).drew b7)))
        have Q7 := Lib.hid n7.row
        clear n7 b7 N7 hc2 D6 R6 T6
        refine walkS_only (i := 7) (o := ⟨some 41, _, _, _, _, _⟩) (by kernel_rfl) rfl rfl fun KK hKK => ?_
        have hne : vp.ownBlock ≠ some gw := NE.out
        refine wp_append_at (.tmp 38) (.tmp 40) 61 rfl 0 104 (.agg zeroWr) 257 264 Tryz.underlying61 Tryz.infoWrite (by decide) (by decide) vp d.pend.length (wrC d.pend) (by with_unfolding_all rfl) D7.out.pend ⟨g7, 0, none⟩ 1 1 (wr1 (j, pad b)) (by with_unfolding_all rfl) (by rw [wr1_length (x := (j, pad b)) LP.out]) (row_from Q7.out) (wr1_one _) (by unfold maxLen; omega) (by omega) (Nat.zero_le _) ?_
        intro vp' w8 own8 g8 at8
        have hS : (fun W : World => W.cell? ⟨g, 2, none⟩ = some vp ∧ RowAt W gw 104 (wr1 (j, pad b)).toArray) w8 := ⟨(RowAt.grown D7.out.row g8 (fun e => D7.out.pend_g e.symm)).cell 2, R7.out.grown g8 (fun e => hne e.symm)⟩
        refine hKK _ _ (.inr hS) ?_
        try simp only [Act.put, List.setIfInBounds_toArray, List.set_cons_zero, List.set_cons_succ]
        clear hKK KK
        have HO8 : Hid (w8.ownsRow 0 104 257 vp' (d.pend ++ [(j, pad b)]).length (wrC (d.pend ++ [(j, pad b)]))) := by
          rw [wrC_snoc, List.length_append]
          exact own8
        have HT8 : Hid (Turns (fun k => vp.ownBlock = some k) w7 w8) := Turns.of_grown g8 fun k hk => hk
        have HA := Lib.hid at8
        clear own8 g8 at8
        refine walkS_only (i := 8) (o := ⟨some 42, _, _, _, _, _⟩) (by kernel_rfl) rfl rfl fun KK hKK => ?_
        go_simp
        refine hKK _ _ (.inr hS) ?_
        clear hKK KK
        refine walkS_take (i := 9) (oi := ⟨some 43, _, _, _, _, _⟩) (v := (.pointer (some ⟨g, 2, none⟩))) rfl (by kernel_rfl) (by kernel_rfl) (fun _ _ _ h => h) _ _ _ _ (by kernel_rfl) (by kernel_rfl) (Or.inl ⟨by rfl, fun w' hS' => (by clear hS hS'; go_simp)⟩) hS ?_
        try simp only [Act.put, List.setIfInBounds_toArray, List.set_cons_zero, List.set_cons_succ]
        refine walkS_only (i := 10) (o := ⟨none, _, _, _, _, _⟩) (by kernel_rfl) rfl rfl fun KK hKK => ?_
        have z2 : w8.frozen? ⟨g, 2, none⟩ = false := (HT8.out.row D7.out.row D7.out.pend_g).frozen 2
        have hc8 := hS.1
        clear hS
        have OK8 : Hid ({ d.spend with now := d.now.set j (pad b), pend := d.pend ++ [(j, pad b)] } : Dev).Ok := HH.out.ok.spend.put (i := j) hj LP.out
        have F8 := D7.out.appended HO8.out HT8.out OK8.out
        have D8 := Lib.hid F8.1
        have T8 := Lib.hid (T7.out.same F8.2)
        clear F8
        obtain ⟨A8, m8, c8, rfl⟩ : ∃ A m c, vp' = .slice A m c := ⟨_, _, _, D8.out.vp_shape.choose_spec.choose_spec⟩
        go_simp
        refine hKK _ _ (.inl rfl) ?_
        clear hKK KK
        refine walkS_done (by kernel_rfl) ?_ _
        go_wp2
        go_ret
        rw [e1.out, e2.out]
        refine ⟨_, rfl, D8.out, T8.out, fun k hk => ?_⟩
        rcases HA.out with h | h
        · exact .inl (h ▸ hk)
        · right
          have : k = w7.heap.size := by rw [hk] at h; exact Option.some.inj h
          rw [this]
          exact T7.out.size
      · simp only [Bool.not_eq_true] at hg
        rw [hg] at e1 e2 H2
        rw [if_neg (by decide)] at e1 e2
        go_enter Tryz.func19, Tryz.ntmps19
        go_wp2_with fail
        refine (H1.out _ HH.out).mono ?_
        rintro e w1 ⟨rfl, b1⟩
        have B1 := Lib.hid b1
        clear b1
        go_wp2_with fail
        refine (H2.out _ (HH.out.kept B1.out)).mono ?_
        rintro e w2 ⟨rfl, h2, g2⟩
        have D2 := Lib.hid h2
        have T2 := Lib.hid ((Turns.of_below (Foot g gn gs vp) B1.out).same (foot_grown g2))
        clear h2 g2
        go_wp2_with fail
        go_ret
        rw [e1.out, e2.out]
        exact ⟨vp, rfl, D2.out, T2.out, fun k hk => .inl hk⟩
end Go.Proofs.YtpgbicbjlhkonaaGreatDoor
end
