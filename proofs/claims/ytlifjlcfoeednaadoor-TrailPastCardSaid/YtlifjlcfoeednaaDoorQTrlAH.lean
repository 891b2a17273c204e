/-
  Texts that belong together, merged: AppRow, KeyEx, Fill, EqF, TrlA, TrlB, TrlC, TrlN. Conditions: as each theorem names them.
-/
import Derived.Test.YtlifjlcfoeednaaDoorQTrlAF
import Derived.Deep.AppendLies
import Derived.Test.YtlifjlcfoeednaaDoorQTrlAG
import Derived.Test.YtlifjlcfoeednaaDoorQTrlAA
import Derived.Lib.SlBytesConst
section
namespace Go.Proofs.YtlifjlcfoeednaaDoor
open Go.RowKit
set_option linter.unusedVariables false
set_option maxRecDepth 20000

/-- A slice of cells that lies in a block of R. -/
def Row_ (w : World) (R : Nat → Prop) (v : Value) (n : Nat) (cs : List Value) : Prop :=
  ∃ A c, v = .slice A n c ∧ n ≤ c ∧ c ≤ maxLen ∧ (0 < n → ∃ b off, A = some ⟨b, off, none⟩ ∧ R b ∧ w.rangeAt b off cs)
section
variable {P : Program} {w : World} {R : Nat → Prop}
/-- append of a whole row that is read (nil, empty or not) onto the call's own row. -/
theorem run_appRow (base : Nat) (t ty e : TypeId) (z : Value) (size bytes : Nat) (ht : P.underlying t = some (.slice e)) (hinfo : (P.info? e).map (fun i => (i.zero, i.size, i.bytes)) = some (some z, size, bytes)) (hzs : z.cells.size = size) (hsz : 0 < size)
    (v : Value) (n : Nat) (xs : List Value) (hown : w.ownsRow base e size v n xs) (u : Value) (m : Nat) (cs : List Value) (hu : Row_ w R u m cs) (hl : cs.length = m * size) (h1 : ∀ y ∈ cs, y.oneCell' = true)
    (h63 : n + m ≤ maxLen) (hbytes : (n + m) * bytes ≤ 140737488355328) (hbase : base ≤ w.heap.size) :
    ∃ v' w', (Builtin.append_ #[t, t] ty #[v, u]).run P w = .ok v' w' ∧ w'.ownsRow base e size v' (n + m) (xs ++ cs) ∧ w.grownBy w' v.ownBlock ∧ (v'.ownBlock = v.ownBlock ∨ v'.ownBlock = some w.heap.size) := by
  obtain ⟨i, hi, hz0, hz1, hz2⟩ := info_parts hinfo
  obtain ⟨A, c, rfl, q1, q2, q3⟩ := hu
  rcases Nat.eq_zero_or_pos m with hm | hm
  · subst hm
    obtain rfl : cs = [] := List.eq_nil_of_length_eq_zero (by omega)
    rcases A with _ | ad
    · refine ⟨v, w, ?_, by simpa using hown, World.grownBy.refl w _, .inl rfl⟩
      rcases hown.2 with ⟨rfl, _⟩ | ⟨g, cap, cur, rfl, _, _, hnc, _⟩
      · simp [Builtin.append_, run_underlying ht, sizeOf, typeInfo, hi, Builtin.lenOf, Builtin.firstCells]
      · simp [Builtin.append_, run_underlying ht, sizeOf, typeInfo, hi, Builtin.lenOf, Builtin.firstCells, hnc, storeCells]
    · obtain ⟨v', w', hr, h2, h3, _, h5⟩ := run_append_own_at (P := P) w base t ty e i z size bytes ht hi hz0 hz1 hz2 hzs hsz v n xs hown ad 0 c [] (by simp) (fun j u hj => by simp at hj) (by simp) h63 hbytes hbase
      exact ⟨v', w', hr, h2, h3, h5⟩
  · obtain ⟨b, off, rfl, _, hc⟩ := q3 hm
    obtain ⟨v', w', hr, h2, h3, _, h5⟩ := run_append_own_at (P := P) w base t ty e i z size bytes ht hi hz0 hz1 hz2 hzs hsz v n xs hown ⟨b, off, none⟩ m c cs hl (fun j u hj => by
      have hadd : (⟨b, off, none⟩ : Addr).add j = ⟨b, off + j, none⟩ := by unfold Addr.add; split <;> simp_all
      rw [hadd]
      exact hc j u hj) h1 h63 hbytes hbase
    exact ⟨v', w', hr, h2, h3, h5⟩
theorem wpList_appRow {ops : Array Oper} {rest : List Oper} {o : Oper} {a : Act} {Q : Exit → Act → World → Prop} (hgd : o.guard = none) (s x : Operand) (t : TypeId)
    (ho : o.op = .call { callee := .builtin .append, args := #[s, x], argTypes := #[t, t] })
    (base : Nat) (e : TypeId) (z : Value) (size bytes : Nat) (ht : P.underlying t = some (.slice e)) (hinfo : (P.info? e).map (fun i => (i.zero, i.size, i.bytes)) = some (some z, size, bytes)) (hzs : z.cells.size = size) (hsz : 0 < size)
    (v : Value) (n : Nat) (xs : List Value) (hs : a.eval s = v) (hown : w.ownsRow base e size v n xs) (u : Value) (m : Nat) (cs : List Value) (hx : a.eval x = u) (hu : Row_ w R u m cs) (hl : cs.length = m * size) (h1 : ∀ y ∈ cs, y.oneCell' = true)
    (h63 : n + m ≤ maxLen) (hbytes : (n + m) * bytes ≤ 140737488355328) (hbase : base ≤ w.heap.size)
    (h : ∀ v' w', w'.ownsRow base e size v' (n + m) (xs ++ cs) → w.grownBy w' v.ownBlock → (v'.ownBlock = v.ownBlock ∨ v'.ownBlock = some w.heap.size) → wpList P ops Q rest (a.put o.dst v') w') : wpList P ops Q (o :: rest) a w := by
  refine wpList_plain hgd fun _ hK => ?_
  obtain ⟨v', w', hr, h2, h3, h5⟩ := run_appRow (P := P) (w := w) base t o.type e z size bytes ht hinfo hzs hsz v n xs hown u m cs hu hl h1 h63 hbytes hbase
  unfold Oper.wp execOp
  simp only [ho, resolve, invoke, builtin, Sem.run_bind, Sem.run_pure, Result.andThen_ok, List.map_toArray, List.map_cons, List.map_nil, hs, hx, hr]
  exact hK _ _ (h v' w' h2 h3 h5)
end
end Go.Proofs.YtlifjlcfoeednaaDoor
end
section
namespace Go.Proofs.YtlifjlcfoeednaaDoor
open Go.RowKit
set_option linter.unusedVariables false
set_option maxRecDepth 20000

/-- The row of a list of keys, if there is one yet. -/
def exRow (v : Value) (ls : List (List UInt8)) (base : Nat) (ex : List (Nat × TypeId × Array Value)) : Prop :=
  (ex = [] ∧ v = .slice none 0 0 ∧ ls = []) ∨ ∃ g cap cur, ex = [(g, 24, cur)] ∧ v = .slice (some ⟨g, 0, none⟩) ls.length cap ∧ base ≤ g ∧ ls.length ≤ cap ∧ cap ≤ maxLen ∧ cur.size = cap * 32 ∧ cur.toList.take (ls.length * 32) = cellsB ls.flatten
theorem ex_own {w0 x : World} {v : Value} {ls : List (List UInt8)} {base : Nat} {rs ex : List (Nat × TypeId × Array Value)} (h : exRow v ls base ex) (hl : ∀ l ∈ ls, l.length = 32) (hE : Env w0 (rs ++ ex) x) : x.ownsRow base 24 32 v ls.length (cellsB ls.flatten) := by
  refine ⟨by rw [cellsB_length, flat_length ls hl], ?_⟩
  rcases h with ⟨_, hv, hls⟩ | ⟨g, cap, cur, rfl, hv, h1, h2, h3, h4, h5⟩
  · exact .inl ⟨hv, by rw [hls]; rfl⟩
  · exact .inr ⟨g, cap, cur, hv, h1, (hE.rows (g, 24, cur) (List.mem_append_right _ (List.mem_singleton.2 rfl))).1, h2, h3, h4, h5⟩
theorem at_left {α : Type} {rs ex : List α} {m : Nat} {y : α} (h : rs[m]? = some y) : (rs ++ ex)[m]? = some y := by
  have := (List.getElem?_eq_some_iff.1 h).1
  rw [List.getElem?_append_left this, h]
theorem set_left {α : Type} {rs ex : List α} {m : Nat} {x y : α} (h : rs[m]? = some y) : (rs ++ ex).set m x = rs.set m x ++ ex := List.set_append_left _ _ (List.getElem?_eq_some_iff.1 h).1
/-- append of a key. -/
theorem wp_appKey {P : Program} {w0 w : World} {rs ex : List (Nat × TypeId × Array Value)} {o : Oper} {a : Act} {K : Act → World → Prop} {Q : Exit → Act → World → Prop} (s x : Operand) (t : TypeId)
    (ho : o.op = .call { callee := .builtin .append, args := #[s, x], argTypes := #[t, t] })
    (hinfo : (P.info? 24).map (fun i => (i.zero, i.size, i.bytes)) = some (some (.agg (keyC zeroKey)), 32, 32)) (ht : P.underlying t = some (.slice 24))
    (base : Nat) (v : Value) (ls : List (List UInt8)) (l : List UInt8) (b : Nat) (hs : a.eval s = v) (hx : a.eval x = .slice (some ⟨b, 0, none⟩) 1 1) (hb : RowAt w b 24 (keyC l)) (hll : l.length = 32) (hls : ∀ l ∈ ls, l.length = 32)
    (hex : exRow v ls base ex) (hE : Env w0 (rs ++ ex) w) (hB : ∀ r ∈ rs, r.1 < base) (h0 : w0.heap.size ≤ base) (hbw : base ≤ w.heap.size) (hn : ls.length ≤ 1000)
    (h : ∀ v' w' ex', exRow v' (ls ++ [l]) base ex' → Env w0 (rs ++ ex') w' → base ≤ w'.heap.size → K (a.put o.dst v') w') : o.wp P a w K Q := by
  obtain ⟨i0, hi, hz0, hz1, hz2⟩ := info_parts hinfo
  have hown := ex_own hex hls hE
  refine wp_append_own w s x t ho base 24 i0 (.agg (keyC zeroKey)) 32 32 ht hi hz0 hz1 hz2 rfl (by decide) v ls.length (cellsB ls.flatten) hs hown ⟨b, 0, none⟩ 1 1 (cellsB l) hx (by rw [cellsB_length, hll]) (fun j y hj => ?_) (cellsB_one l) (by unfold maxLen; omega) (by omega) hbw fun v' w' ho' hg' _ => ?_
  · have hadd : (⟨b, 0, none⟩ : Addr).add j = ⟨b, j, none⟩ := by unfold Addr.add; split <;> simp_all
    rw [hadd, hb.cell j]
    simpa [keyC] using hj
  · have hEr : Env w0 rs w' := (hE.less (List.sublist_append_left _ _)).grown hg' (fun r hm e => by
      have h1 := hB r hm
      have h2 := (World.ownsRow.lt hown r.1 e.symm).1
      omega) (fun k hk => Nat.le_trans h0 (World.ownsRow.lt hown k hk).1)
    have hsz := Nat.le_trans hbw hg'.size
    rcases ho'.2 with ⟨_, hc⟩ | ⟨g', cap', cur', rfl, hbg, hrow, q1, q2, q3, q4⟩
    · omega
    · refine h _ w' [(g', 24, cur')] (.inr ⟨g', cap', cur', rfl, by simp, hbg, by simpa using q1, q2, q3, by simpa [cellsB] using q4⟩) ?_ hsz
      have := hEr.add hrow (Nat.le_trans h0 hbg) fun r hm => by have := hB r hm; omega
      refine ⟨this.below, fun r hr => ?_, ?_⟩
      · rcases List.mem_append.1 hr with hr | hr
        · exact this.rows r (List.mem_cons_of_mem _ hr)
        · exact this.rows r (List.mem_cons.2 (.inl (List.mem_singleton.1 hr)))
      · rw [List.map_append]
        have h3 := this.apart
        rw [List.map_cons] at h3
        have h4 : ([g'] ++ rs.map fun r => r.1).Nodup := h3
        have hp : List.Perm ([g'] ++ rs.map fun r => r.1) ((rs.map fun r => r.1) ++ [g']) := List.perm_append_comm
        exact hp.nodup_iff.1 h4
/-- Behind all of these rows. -/
def topOf (rs : List (Nat × TypeId × Array Value)) : Nat := rs.foldr (fun r a => max (r.1 + 1) a) 0
theorem lt_topOf {rs : List (Nat × TypeId × Array Value)} : ∀ r ∈ rs, r.1 < topOf rs := by
  induction rs with
  | nil => intro r h; cases h
  | cons x rs ih =>
    intro r h
    have e : topOf (x :: rs) = max (x.1 + 1) (topOf rs) := rfl
    rcases List.mem_cons.1 h with rfl | h
    · rw [e]; exact Nat.lt_of_lt_of_le (Nat.lt_succ_self _) (Nat.le_max_left _ _)
    · rw [e]; exact Nat.lt_of_lt_of_le (ih r h) (Nat.le_max_right _ _)
theorem topOf_le {rs : List (Nat × TypeId × Array Value)} {B : Nat} (h : ∀ r ∈ rs, r.1 < B) : topOf rs ≤ B := by
  induction rs with
  | nil => exact Nat.zero_le _
  | cons x rs ih =>
    have e : topOf (x :: rs) = max (x.1 + 1) (topOf rs) := rfl
    rw [e]
    exact Nat.max_le.2 ⟨h x List.mem_cons_self, ih fun r hr => h r (List.mem_cons_of_mem _ hr)⟩
theorem topOf_set {rs : List (Nat × TypeId × Array Value)} {g : Nat} {t t' : TypeId} {o c : Array Value} : ∀ {m : Nat}, rs[m]? = some (g, t, o) → topOf (rs.set m (g, t', c)) = topOf rs := by
  induction rs with
  | nil => intro m h; rfl
  | cons x rs ih =>
    intro m h
    cases m with
    | zero =>
      have : x = (g, t, o) := by simpa using h
      subst this
      rfl
    | succ m =>
      have h2 := ih (m := m) (by simpa using h)
      show max (x.1 + 1) (topOf (rs.set m (g, t', c))) = max (x.1 + 1) (topOf rs)
      rw [h2]

end Go.Proofs.YtlifjlcfoeednaaDoor
end
section
namespace Go.Proofs.YtlifjlcfoeednaaDoor
open Go.RowKit
set_option linter.unusedVariables false

theorem fill_part (z : List Value) (off : Nat) (l : List Value) (h : off + l.length ≤ z.length) : l.toArray.zipIdx.foldl (fun acc x => acc.setIfInBounds (off + x.2) x.1) z.toArray = (z.take off ++ l ++ z.drop (off + l.length)).toArray := by
  have key : ∀ (l : List Value) (k : Nat) (acc : List Value), off + k + l.length ≤ acc.length → (l.zipIdx k).foldl (fun (acc : Array Value) x => acc.setIfInBounds (off + x.2) x.1) acc.toArray = (acc.take (off + k) ++ l ++ acc.drop (off + k + l.length)).toArray := by
    intro l
    induction l with
    | nil => intro k acc h; simp
    | cons v l ih =>
      intro k acc h
      rw [List.length_cons] at h
      rw [List.zipIdx_cons, List.foldl_cons]
      have e : (acc.toArray.setIfInBounds (off + k) v) = (acc.set (off + k) v).toArray := by simp
      rw [e, ih (k + 1) (acc.set (off + k) v) (by rw [List.length_set]; omega)]
      congr 1
      rw [List.take_set, List.drop_set_of_lt (by omega), List.length_cons, show off + (k + 1) = off + k + 1 by omega, List.take_succ_eq_append_getElem (by omega), List.set_append_right _ _ (by rw [List.length_take]; omega), List.length_take, Nat.min_eq_left (by omega), Nat.sub_self, List.set_cons_zero]
      simp only [List.append_assoc, List.cons_append, List.nil_append]
      rw [show off + k + 1 + l.length = off + k + (l.length + 1) by omega]
  have := key l 0 z (by simpa using h)
  simpa using this
end Go.Proofs.YtlifjlcfoeednaaDoor
end
section
namespace Go.Proofs.YtlifjlcfoeednaaDoor
open Go.RowKit
set_option linter.unusedVariables false
set_option maxRecDepth 20000
theorem eqFields_step {P : Program} {w : World} {d : Nat} {xs ys : Array Value} {f : Field} {fs : List Field} {ty : TypeId} {o : Nat} {x y : Value} {r : Bool} (h : (f.name == "_", f.type, f.offset) = (false, ty, o))
    (hx : (part ty xs o).run P w = .ok x w) (hy : (part ty ys o).run P w = .ok y w) (he : (Op.equalIn d ty x y).run P w = .ok r w) :
    (Op.eqFields d xs ys (f :: fs)).run P w = if r = true then (Op.eqFields d xs ys fs).run P w else .ok false w := by
  injection h with h1 h2
  injection h2 with h2 h3
  have h1' : f.name ≠ "_" := by simpa using h1
  rw [Op.eqFields, if_pos h1']
  simp only [Sem.run_bind, h2, h3, hx, hy, he, Result.andThen_ok]
  cases r <;> simp
end Go.Proofs.YtlifjlcfoeednaaDoor
end
section
namespace Go.Proofs.YtlifjlcfoeednaaDoor
open Go.RowKit
set_option linter.unusedVariables false
set_option maxRecDepth 20000

/-- A trail's cells: its head, its number. -/
def trL (h : List UInt8) (n : Nat) : List Value := cellsB h ++ [.int .u32 (n : Int)]
def trC (h : List UInt8) (n : Nat) : Array Value := (trL h n).toArray
section
variable (s : List UInt8) (k : Nat)
theorem trL_length (ls : s.length = 32) : (trL s k).length = 33 := by simp [trL, cellsB_length, ls]
theorem trC_size (ls : s.length = 32) : (trC s k).size = 33 := by simp [trC, trL, cellsB_length, ls]
theorem trL_32 (ls : s.length = 32) : (trL s k)[32]? = some (.int .u32 (k : Int)) := by
  rw [trL, List.getElem?_append_right (by simp [cellsB_length, ls])]
  simp [cellsB_length, ls]
theorem trC_32 (ls : s.length = 32) : (trC s k)[32]? = some (.int .u32 (k : Int)) := by
  rw [trC, List.getElem?_toArray]
  exact trL_32 s k ls
theorem trC_seed : ((trC s k).toList.drop 0).take (cellsB s).length = cellsB s := by
  simp [trC, trL]
theorem trL_one : ∀ u ∈ trL s k, u.oneCell' = true := fun u hu => by
  simp only [trL, List.mem_append] at hu
  rcases hu with hu | hu
  · exact cellsB_one s u hu
  · rw [List.mem_singleton.1 hu]; rfl
theorem trC_one : ∀ u ∈ (trC s k).toList, u.oneCell' = true := trL_one s k
end
theorem trC_same {s t : List UInt8} {k j : Nat} (ls : s.length = 32) (lt : t.length = 32) : (trC s k).size = (trC t j).size := by rw [trC_size s k ls, trC_size t j lt]
theorem trL_set (s : List UInt8) (k x : Nat) (ls : s.length = 32) : (trL s k).set 32 (.int .u32 (x : Int)) = trL s x := by
  rw [trL, List.set_append_right _ _ (by simp [cellsB_length, ls])]
  simp [cellsB_length, ls, trL]
/-- One of a list. -/
def tr1 (t : List UInt8 × Nat) : List Value := trL t.1 t.2
def zeroT : List UInt8 × Nat := (zeroKey, 0)
/-- A list of trails as cells. -/
def trF (L : List (List UInt8 × Nat)) : List Value := (L.map tr1).flatten
def HeadsOk (L : List (List UInt8 × Nat)) : Prop := ∀ t ∈ L, t.1.length = 32
section
variable {L M : List (List UInt8 × Nat)}
theorem HeadsOk.each (h : HeadsOk L) : ∀ l ∈ L.map tr1, l.length = 33 := fun l hl => by
  obtain ⟨t, ht, rfl⟩ := List.mem_map.1 hl
  exact trL_length _ _ (h t ht)
theorem trF_length (h : HeadsOk L) : (trF L).length = L.length * 33 := by rw [trF, dflat_length h.each, List.length_map]
theorem trF_append : trF (L ++ M) = trF L ++ trF M := by simp [trF]
theorem trF_single (t : List UInt8 × Nat) : trF [t] = tr1 t := by simp [trF]
theorem trF_one : ∀ u ∈ trF L, u.oneCell' = true := fun u hu => by
  obtain ⟨l, hl, hu⟩ := List.mem_flatten.1 hu
  obtain ⟨t, _, rfl⟩ := List.mem_map.1 hl
  exact trL_one _ _ u hu
theorem trF_part (h : HeadsOk L) {i : Nat} {t : List UInt8 × Nat} (hi : L[i]? = some t) : ((trF L).drop (i * 33)).take 33 = tr1 t := by
  rw [trF, dflat_part h.each (by rw [List.getElem?_map, hi]; rfl)]
theorem trF_take (h : HeadsOk L) (i : Nat) : (trF L).take (i * 33) = trF (L.take i) := by
  rw [trF, dflat_take h.each, ← List.map_take, trF]
theorem trF_drop (h : HeadsOk L) (i : Nat) : (trF L).drop (i * 33) = trF (L.drop i) := by
  rw [trF, dflat_drop h.each, ← List.map_drop, trF]
theorem trF_set (h : HeadsOk L) {i : Nat} (hi : i < L.length) (t : List UInt8 × Nat) (ht : t.1.length = 32) : (trF L).take (i * 33) ++ tr1 t ++ (trF L).drop (i * 33 + 33) = trF (L.set i t) := by
  rw [trF, flat_set (x := tr1 t) h.each (by rw [List.length_map]; exact hi) (trL_length _ _ ht), trF, List.map_set]
theorem trF_head (h : HeadsOk L) {i : Nat} {t : List UInt8 × Nat} (hi : L[i]? = some t) : ((trF L).drop (i * 33)).take 32 = cellsB t.1 := by
  have h1 := trF_part h hi
  have h2 : ((((trF L).drop (i * 33)).take 33).take 32) = (tr1 t).take 32 := by rw [h1]
  rw [List.take_take, show min 32 33 = 32 by omega] at h2
  rw [h2, tr1, trL, List.take_left' (by rw [cellsB_length]; exact h t (List.mem_of_getElem? hi))]
theorem trF_num (h : HeadsOk L) {i : Nat} {t : List UInt8 × Nat} (hi : L[i]? = some t) : (trF L)[i * 33 + 32]? = some (.int .u32 (t.2 : Int)) := by
  have h1 := trF_part h hi
  have h2 : ((((trF L).drop (i * 33)).take 33))[32]? = (tr1 t)[32]? := by rw [h1]
  rw [List.getElem?_take, if_pos (by omega), List.getElem?_drop] at h2
  rw [h2]
  exact trL_32 _ _ (h t (List.mem_of_getElem? hi))
theorem HeadsOk.append (h : HeadsOk L) (h2 : HeadsOk M) : HeadsOk (L ++ M) := fun t ht => (List.mem_append.1 ht).elim (h t) (h2 t)
theorem HeadsOk.less (h : HeadsOk L) (hs : ∀ t ∈ M, t ∈ L) : HeadsOk M := fun t ht => h t (hs t ht)
theorem HeadsOk.drop (h : HeadsOk L) (i : Nat) : HeadsOk (L.drop i) := h.less fun t ht => List.mem_of_mem_drop ht
theorem HeadsOk.take (h : HeadsOk L) (i : Nat) : HeadsOk (L.take i) := h.less fun t ht => List.mem_of_mem_take ht
theorem HeadsOk.set (h : HeadsOk L) (i : Nat) (t : List UInt8 × Nat) (ht : t.1.length = 32) : HeadsOk (L.set i t) := fun x hx => by
  rcases List.mem_or_eq_of_mem_set hx with h1 | rfl
  · exact h x h1
  · exact ht
theorem HeadsOk.zeros (n : Nat) : HeadsOk (List.replicate n zeroT) := fun t ht => by rw [List.eq_of_mem_replicate ht]; rfl
end
/-- A past's cells: room for sixty-four, and how many there are. -/
def pastX (F : List (List UInt8 × Nat)) (c : Nat) : Array Value := (trF F ++ [Value.int .i64 (c : Int)]).toArray
def fillT (L : List (List UInt8 × Nat)) : List (List UInt8 × Nat) := L ++ List.replicate (64 - L.length) zeroT
def pastC (L : List (List UInt8 × Nat)) : Array Value := pastX (fillT L) L.length
section
variable {F L : List (List UInt8 × Nat)} {c : Nat}
theorem pastX_size (h : HeadsOk F) (hl : F.length = 64) : (pastX F c).size = 2113 := by simp [pastX, trF_length h, hl]
theorem pastX_count (h : HeadsOk F) (hl : F.length = 64) : (pastX F c)[2112]? = some (.int .i64 (c : Int)) := by
  rw [pastX, List.getElem?_toArray, List.getElem?_append_right (by rw [trF_length h, hl]; omega), trF_length h, hl]
  rfl
theorem pastX_num (h : HeadsOk F) (hl : F.length = 64) {i : Nat} {t : List UInt8 × Nat} (hi : F[i]? = some t) : (pastX F c)[i * 33 + 32]? = some (.int .u32 (t.2 : Int)) := by
  have hlt := (List.getElem?_eq_some_iff.1 hi).1
  rw [pastX, List.getElem?_toArray, List.getElem?_append_left (by rw [trF_length h, hl]; omega)]
  exact trF_num h hi
theorem pastX_head (h : HeadsOk F) (hl : F.length = 64) {i : Nat} {t : List UInt8 × Nat} (hi : F[i]? = some t) : ((pastX F c).toList.drop (i * 33)).take (cellsB t.1).length = cellsB t.1 := by
  have hlt := (List.getElem?_eq_some_iff.1 hi).1
  have h32 : (cellsB t.1).length = 32 := by rw [cellsB_length]; exact h t (List.mem_of_getElem? hi)
  rw [pastX, List.drop_append_of_le_length (by rw [trF_length h, hl]; omega), List.take_append_of_le_length (by rw [List.length_drop, trF_length h, hl, h32]; omega), h32]
  exact trF_head h hi
theorem pastX_setCount (h : HeadsOk F) (hl : F.length = 64) (x : Nat) : (pastX F c).setIfInBounds 2112 (.int .i64 (x : Int)) = pastX F x := by
  rw [pastX, List.setIfInBounds_toArray, List.set_append_right _ _ (by rw [trF_length h, hl]; omega), trF_length h, hl]
  rfl
theorem pastX_put (h : HeadsOk F) (hl : F.length = 64) {i : Nat} (hi : i < 64) (t : List UInt8 × Nat) (ht : t.1.length = 32) : ((pastX F c).toList.take (i * 33) ++ tr1 t ++ (pastX F c).toList.drop (i * 33 + (tr1 t).length)).toArray = pastX (F.set i t) c := by
  have h33 : (tr1 t).length = 33 := trL_length _ _ ht
  rw [pastX, List.take_append_of_le_length (by rw [trF_length h, hl]; omega), List.drop_append_of_le_length (by rw [trF_length h, hl, h33]; omega), ← List.append_assoc, h33, trF_set h (by omega) t ht, pastX]
theorem pastX_range (h : HeadsOk F) (hl : F.length = 64) (i m : Nat) (hm : i + m ≤ 64) : ((pastX F c).toList.drop (i * 33)).take (m * 33) = trF ((F.drop i).take m) := by
  rw [pastX, List.drop_append_of_le_length (by rw [trF_length h, hl]; omega), List.take_append_of_le_length (by rw [List.length_drop, trF_length h, hl]; omega), trF_drop h, trF_take (h.drop i)]
/-- Some in a row are written. -/
theorem pastX_puts (h : HeadsOk F) (hl : F.length = 64) (i : Nat) (M : List (List UInt8 × Nat)) (hM : HeadsOk M) (hm : i + M.length ≤ 64) :
    ((pastX F c).toList.take (i * 33) ++ trF M ++ (pastX F c).toList.drop (i * 33 + (trF M).length)).toArray = pastX (F.take i ++ M ++ F.drop (i + M.length)) c := by
  have e : i * 33 + (trF M).length = (i + M.length) * 33 := by rw [trF_length hM]; omega
  rw [e, pastX, List.take_append_of_le_length (by rw [trF_length h, hl]; omega), List.drop_append_of_le_length (by rw [trF_length h, hl]; omega), trF_take h, trF_drop h, pastX, trF_append, trF_append]
  simp
theorem pastX_one : ∀ u ∈ (pastX F c).toList, u.oneCell' = true := fun u hu => by
  simp only [pastX, List.mem_append] at hu
  rcases hu with hu | hu
  · exact trF_one u hu
  · rw [List.mem_singleton.1 hu]; rfl
theorem fillT_length (h : L.length ≤ 64) : (fillT L).length = 64 := by simp [fillT]; omega
theorem fillT_ok (h : HeadsOk L) : HeadsOk (fillT L) := h.append (HeadsOk.zeros _)
theorem fillT_get {i : Nat} {t : List UInt8 × Nat} (h : L[i]? = some t) : (fillT L)[i]? = some t := by
  rw [fillT, List.getElem?_append_left (List.getElem?_eq_some_iff.1 h).1, h]
theorem fillT_snoc (h : L.length < 64) (t : List UInt8 × Nat) : (fillT L).set L.length t = fillT (L ++ [t]) := by
  have e : 64 - L.length = (64 - (L ++ [t]).length) + 1 := by rw [List.length_append, List.length_singleton]; omega
  rw [fillT, fillT, e, List.replicate_succ, List.set_append_right _ _ (Nat.le_refl _), Nat.sub_self, List.set_cons_zero, List.append_assoc]
  rfl
theorem fillT_first : (fillT L)[0]? = some (match L with | [] => zeroT | t :: _ => t) := by
  cases L with
  | nil => rfl
  | cons t r => rfl
end
/-- How a trail begins, and how it goes on. -/
def startB (one two : List UInt8) : List UInt8 := digestB ([115, 116, 97, 114, 116] ++ hi8 one.length ++ one ++ two)
def nextB (h : List UInt8) (n : Nat) (b : List UInt8) : List UInt8 := digestB ([110, 101, 120, 116] ++ hi8 n ++ h ++ b)
def stepT (t : List UInt8 × Nat) (b : List UInt8) : List UInt8 × Nat := (nextB t.1 t.2 b, (t.2 + 1) % 4294967296)
def allT (t : List UInt8 × Nat) (l : List (List UInt8)) : List UInt8 × Nat := l.foldl stepT t
theorem startB_length (a b : List UInt8) : (startB a b).length = 32 := digestB_length _
theorem nextB_length (h : List UInt8) (n : Nat) (b : List UInt8) : (nextB h n b).length = 32 := digestB_length _
theorem allT_snoc (t : List UInt8 × Nat) (l : List (List UInt8)) (b : List UInt8) : allT t (l ++ [b]) = stepT (allT t l) b := by simp [allT]
theorem allT_append (t : List UInt8 × Nat) (l k : List (List UInt8)) : allT t (l ++ k) = allT (allT t l) k := by simp [allT]
theorem allT_length (t : List UInt8 × Nat) (ht : t.1.length = 32) (l : List (List UInt8)) : (allT t l).1.length = 32 := by
  induction l generalizing t with
  | nil => exact ht
  | cons b l ih => exact ih _ (nextB_length _ _ _)
theorem allT_num (t : List UInt8 × Nat) (ht : t.2 < 4294967296) (l : List (List UInt8)) : (allT t l).2 < 4294967296 ∧ (allT t l).2 = (t.2 + l.length) % 4294967296 := by
  induction l generalizing t with
  | nil => exact ⟨ht, by show t.2 = (t.2 + 0) % _; omega⟩
  | cons b l ih =>
    have h := ih (stepT t b) (Nat.mod_lt _ (by omega))
    refine ⟨h.1, ?_⟩
    show (allT (stepT t b) l).2 = _
    rw [h.2]
    show ((t.2 + 1) % 4294967296 + l.length) % 4294967296 = (t.2 + (l.length + 1)) % 4294967296
    omega
end Go.Proofs.YtlifjlcfoeednaaDoor
end
section
namespace Go.Proofs.YtlifjlcfoeednaaDoor
open Go.RowKit
set_option linter.unusedVariables false
set_option maxRecDepth 20000

theorem tr_fill1 (s : List UInt8) (hs : s.length = 32) : ((trL zeroKey 0).take 0 ++ cellsB s ++ (trL zeroKey 0).drop (0 + (cellsB s).length)) = trL s 0 := by
  rw [cellsB_length, hs, trL, List.take_zero, List.nil_append, Nat.zero_add, List.drop_left' (by simp [cellsB_length, zeroKey_length]), trL]
theorem tr_fillC (s : List UInt8) (hs : s.length = 32) : Array.foldl (fun (acc : Array Value) x => acc.setIfInBounds (0 + x.2) x.1) (trL zeroKey 0).toArray (keyC s).zipIdx 0 (keyC s).size = (trL s 0).toArray := by
  have hf := fill_part (trL zeroKey 0) 0 (cellsB s) (by rw [cellsB_length, hs, trL_length _ _ zeroKey_length]; omega)
  rw [tr_fill1 s hs] at hf
  have hss : (keyC s).size = ((keyC s).zipIdx).size := by simp
  rw [hss]
  exact hf
theorem Bs.trail {w : World} {g : Nat} {t : TypeId} {h : List UInt8} {n : Nat} (hr : RowAt w g t (trC h n)) (hl : h.length = 32) : Bs w (.slice (some ⟨g, 0, none⟩) 32 32) h := by
  refine ⟨some ⟨g, 0, none⟩, 32, by rw [hl], by omega, by simp [maxLen], fun _ => ⟨g, 0, rfl, fun j hj => ?_⟩⟩
  rw [hr.cell, Nat.zero_add, trC, List.getElem?_toArray, trL, List.getElem?_append_left (by rw [cellsB_length]; exact hj)]
  exact cellsB_get h j hj
theorem Bs.litM (w : World) (e : TypeId) (l : List UInt8) (c : Array Value) (f : Nat × Nat) (hc : c.toList = cellsB l) (hm : l.length ≤ maxLen) : Bs (w.alloc (.cells c e f)) (.slice (some ⟨w.heap.size, 0, none⟩) l.length l.length) l := by
  refine ⟨_, _, rfl, Nat.le_refl _, hm, fun _ => ⟨w.heap.size, 0, rfl, fun j hj => ?_⟩⟩
  have h1 : (w.alloc (.cells c e f)).heap[w.heap.size]? = some (.cells c e f) := heap_alloc_new w _
  rw [cell_of_row _ _ _ c e f h1, Nat.zero_add, ← Array.getElem?_toList, hc]
  exact cellsB_get l j hj
theorem Tryd.zeroT : (Tryd.prog.info? 27).map (·.zero) = some (some (.agg (trC zeroKey 0))) := by kernel_rfl
theorem Tryd.sizeT33 : (Tryd.prog.info? 27).map (·.size) = some 33 := by kernel_rfl
theorem Tryd.infoT : (Tryd.prog.info? 27).map (fun i => (i.zero, i.size, i.bytes)) = some (some (.agg (trC zeroKey 0)), 33, 36) := by kernel_rfl
theorem Tryd.sizeT (s : List UInt8) (k : Nat) (hs : s.length = 32) : (Tryd.prog.info? 27).map (·.size) = some (trC s k).size := by
  rw [trC_size s k hs]
  exact Tryd.sizeT33
theorem buildT (w : World) (s : List UInt8) (k : Nat) (hs : s.length = 32) :
    (Instr.build 27 #[(0, .agg (keyC s)), (1, .int .u32 (k : Int))]).run Tryd.prog w = .ok (.agg (trC s k)) w := by
  obtain ⟨j, hj, hj2⟩ := Option.map_eq_some_iff.1 Tryd.zeroT
  obtain ⟨i, hi, hi2⟩ := Option.map_eq_some_iff.1 (Tryd.sizeKey s hs)
  obtain ⟨iu, hiu, hiu2⟩ := Option.map_eq_some_iff.1 (by kernel_rfl : (Tryd.prog.info? 25).map (·.size) = some 1)
  have hu := Tryd.underlying27
  have kf := tr_fillC s hs
  have hset : (trL s 0).toArray.setIfInBounds 32 (.int .u32 (k : Int)) = (trL s k).toArray := by rw [List.setIfInBounds_toArray, trL_set s 0 k hs]
  have hz3 : ¬ (trL s 0).toArray.size < 33 := by rw [List.size_toArray, trL_length _ _ hs]; omega
  have hz2 : ¬ (trL zeroKey 0).length < (keyC s).size := by rw [keyC_size, hs, trL_length _ _ zeroKey_length]; omega
  simp only [Nat.zero_add] at kf
  simp [Instr.build, zeroValue, typeInfo, hj, hj2, run_underlying hu, sizeOf, hi, hi2, hiu, hiu2, Instr.fill, Value.cells, go_sem, hz2, trC]
  rw [kf, if_neg hz3, hset]
  rfl
theorem buildzT (w : World) (s : List UInt8) (hs : s.length = 32) :
    (Instr.build 27 #[(0, .agg (keyC s))]).run Tryd.prog w = .ok (.agg (trC s 0)) w := by
  obtain ⟨iu, hiu, hiu2⟩ := Option.map_eq_some_iff.1 (by kernel_rfl : (Tryd.prog.info? 25).map (·.size) = some 1)
  obtain ⟨j, hj, hj2⟩ := Option.map_eq_some_iff.1 Tryd.zeroT
  obtain ⟨i, hi, hi2⟩ := Option.map_eq_some_iff.1 (Tryd.sizeKey s hs)
  have hu := Tryd.underlying27
  have kf := tr_fillC s hs
  have hz2 : ¬ (trL zeroKey 0).length < (keyC s).size := by rw [keyC_size, hs, trL_length _ _ zeroKey_length]; omega
  simp only [Nat.zero_add] at kf
  simp [Instr.build, zeroValue, typeInfo, hj, hj2, run_underlying hu, sizeOf, hi, hi2, hiu, Instr.fill, Value.cells, go_sem, hz2, trC]
  rw [kf]
theorem run_bT {w : World} {o : Oper} {a : Act} (x y : Operand) (ho : o.op = .build 27 #[(0, x), (1, y)]) (s : List UInt8) (k : Nat) (hx : a.eval x = .agg (keyC s)) (hy : a.eval y = .int .u32 (k : Int)) (hs : s.length = 32) : (execOp a.eval o).run Tryd.prog w = .ok (.value (.agg (trC s k))) w := by
  unfold execOp
  simp [ho, hx, hy, buildT w s k hs]
theorem run_bzT {w : World} {o : Oper} {a : Act} (x : Operand) (ho : o.op = .build 27 #[(0, x)]) (s : List UInt8) (hx : a.eval x = .agg (keyC s)) (hs : s.length = 32) : (execOp a.eval o).run Tryd.prog w = .ok (.value (.agg (trC s 0))) w := by
  unfold execOp
  simp [ho, hx, buildzT w s hs]
theorem Tryd.zeroR : (Tryd.prog.info? 36).map (·.zero) = some (some (.agg (trC zeroKey 0))) := by kernel_rfl
theorem Tryd.sizeR33 : (Tryd.prog.info? 36).map (·.size) = some 33 := by kernel_rfl
theorem Tryd.infoR : (Tryd.prog.info? 36).map (fun i => (i.zero, i.size, i.bytes)) = some (some (.agg (trC zeroKey 0)), 33, 36) := by kernel_rfl
theorem Tryd.sizeR (s : List UInt8) (k : Nat) (hs : s.length = 32) : (Tryd.prog.info? 36).map (·.size) = some (trC s k).size := by
  rw [trC_size s k hs]
  exact Tryd.sizeR33
theorem buildR (w : World) (s : List UInt8) (k : Nat) (hs : s.length = 32) :
    (Instr.build 36 #[(0, .agg (keyC s)), (1, .int .u32 (k : Int))]).run Tryd.prog w = .ok (.agg (trC s k)) w := by
  obtain ⟨j, hj, hj2⟩ := Option.map_eq_some_iff.1 Tryd.zeroR
  obtain ⟨i, hi, hi2⟩ := Option.map_eq_some_iff.1 (Tryd.sizeKey s hs)
  obtain ⟨iu, hiu, hiu2⟩ := Option.map_eq_some_iff.1 (by kernel_rfl : (Tryd.prog.info? 25).map (·.size) = some 1)
  have hu := Tryd.underlying36
  have kf := tr_fillC s hs
  have hset : (trL s 0).toArray.setIfInBounds 32 (.int .u32 (k : Int)) = (trL s k).toArray := by rw [List.setIfInBounds_toArray, trL_set s 0 k hs]
  have hz3 : ¬ (trL s 0).toArray.size < 33 := by rw [List.size_toArray, trL_length _ _ hs]; omega
  have hz2 : ¬ (trL zeroKey 0).length < (keyC s).size := by rw [keyC_size, hs, trL_length _ _ zeroKey_length]; omega
  simp only [Nat.zero_add] at kf
  simp [Instr.build, zeroValue, typeInfo, hj, hj2, run_underlying hu, sizeOf, hi, hi2, hiu, hiu2, Instr.fill, Value.cells, go_sem, hz2, trC]
  rw [kf, if_neg hz3, hset]
  rfl
theorem buildzR (w : World) (s : List UInt8) (hs : s.length = 32) :
    (Instr.build 36 #[(0, .agg (keyC s))]).run Tryd.prog w = .ok (.agg (trC s 0)) w := by
  obtain ⟨iu, hiu, hiu2⟩ := Option.map_eq_some_iff.1 (by kernel_rfl : (Tryd.prog.info? 25).map (·.size) = some 1)
  obtain ⟨j, hj, hj2⟩ := Option.map_eq_some_iff.1 Tryd.zeroR
  obtain ⟨i, hi, hi2⟩ := Option.map_eq_some_iff.1 (Tryd.sizeKey s hs)
  have hu := Tryd.underlying36
  have kf := tr_fillC s hs
  have hz2 : ¬ (trL zeroKey 0).length < (keyC s).size := by rw [keyC_size, hs, trL_length _ _ zeroKey_length]; omega
  simp only [Nat.zero_add] at kf
  simp [Instr.build, zeroValue, typeInfo, hj, hj2, run_underlying hu, sizeOf, hi, hi2, hiu, Instr.fill, Value.cells, go_sem, hz2, trC]
  rw [kf]
theorem run_bR {w : World} {o : Oper} {a : Act} (x y : Operand) (ho : o.op = .build 36 #[(0, x), (1, y)]) (s : List UInt8) (k : Nat) (hx : a.eval x = .agg (keyC s)) (hy : a.eval y = .int .u32 (k : Int)) (hs : s.length = 32) : (execOp a.eval o).run Tryd.prog w = .ok (.value (.agg (trC s k))) w := by
  unfold execOp
  simp [ho, hx, hy, buildR w s k hs]
theorem run_bzR {w : World} {o : Oper} {a : Act} (x : Operand) (ho : o.op = .build 36 #[(0, x)]) (s : List UInt8) (hx : a.eval x = .agg (keyC s)) (hs : s.length = 32) : (execOp a.eval o).run Tryd.prog w = .ok (.value (.agg (trC s 0))) w := by
  unfold execOp
  simp [ho, hx, buildzR w s hs]
/-- A trail is equal to itself. -/
theorem Tryd.stoodT : Tryd.prog.stoodInHeld 27 = false := by kernel_rfl
theorem Tryd.fieldsT : (Tryd.prog.fieldsOf 27).toList.map (fun f => (f.name == "_", f.type, f.offset)) = [(false, 24, 0), (false, 25, 32)] := by kernel_rfl
theorem Tryd.undT : Tryd.prog.underlying 27 = some (.struct (Tryd.prog.fieldsOf 27)) := by kernel_rfl
theorem Tryd.eqGuardT : Tryd.prog.eqGuardType Tryd.prog.depth 27 = false := by kernel_rfl
theorem partT_key (w : World) (s : List UInt8) (k : Nat) (hs : s.length = 32) : (part 24 (trC s k) 0).run Tryd.prog w = .ok (.agg (keyC s)) w := by
  obtain ⟨f, hf, hz⟩ := Option.map_eq_some_iff.1 (Tryd.sizeKey s hs)
  have e : (trC s k).extract 0 (keyC s).size = keyC s := by
    apply Array.toList_inj.1
    rw [Array.toList_extract, List.extract_eq_take_drop, Nat.sub_zero, List.drop_zero, keyC_size]
    show (trL s k).take s.length = cellsB s
    rw [trL, List.take_left' (cellsB_length s)]
  unfold part isAgg
  simp [run_underlying Tryd.underlying24, sizeOf, typeInfo, hf, hz, e]
theorem partT_num (w : World) (s : List UInt8) (k : Nat) (hs : s.length = 32) : (part 25 (trC s k) 32).run Tryd.prog w = .ok (.int .u32 (k : Int)) w := by
  obtain ⟨iu, hiu, hiu2⟩ := Option.map_eq_some_iff.1 (by kernel_rfl : (Tryd.prog.info? 25).map (·.size) = some 1)
  have h := trC_32 s k hs
  unfold part isAgg
  simp [run_underlying Tryd.underlying25, h]
theorem Tryd.eqT (w : World) (s : List UInt8) (k : Nat) (hs : s.length = 32) : (Op.equalIn 10000 27 (.agg (trC s k)) (.agg (trC s k))).run Tryd.prog w = .ok true w := by
  rw [run_equalIn_struct w 9999 _ _ _ Tryd.undT Tryd.stoodT]
  have pk : (Op.equalIn 9999 24 (.agg (keyC s)) (.agg (keyC s))).run Tryd.prog w = .ok (s == s) w := run_equalIn_bytes w 9997 24 5 32 Tryd.underlying24 Tryd.underlying5 Tryd.sizeOfB _ _ hs hs
  have pn : (Op.equalIn 9999 25 (.int .u32 (k : Int)) (.int .u32 (k : Int))).run Tryd.prog w = .ok true w := by
    rw [run_equalIn_int w 9998 25 .u32 .u32 _ _ Tryd.underlying25, beq_self_eq_true]
  rw [beq_self_eq_true] at pk
  have hfs := Tryd.fieldsT
  generalize (Tryd.prog.fieldsOf 27).toList = fs at hfs
  have hl := congrArg List.length hfs
  rw [List.length_map] at hl
  obtain ⟨f0, f1, rfl⟩ : ∃ f0 f1, fs = [f0, f1] := by
    match fs, hl with
    | [f0, f1], _ => exact ⟨f0, f1, rfl⟩
  simp only [List.map_cons, List.map_nil] at hfs
  injection hfs with h0 hfs
  injection hfs with h1 hfs
  rw [eqFields_step h0 (partT_key w s k hs) (partT_key w s k hs) pk, if_pos rfl]
  rw [eqFields_step h1 (partT_num w s k hs) (partT_num w s k hs) pn, if_pos rfl]
  rfl
theorem eqT_run {o : Oper} {a : Act} {W : World} (x y : Operand) (rt : TypeId) (ho : o.op = .binOp .eql 27 x y rt) (s : List UInt8) (k : Nat) (hs : s.length = 32) (hx : a.eval x = .agg (trC s k)) (hy : a.eval y = .agg (trC s k)) :
    (execOp a.eval o).run Tryd.prog W = .ok (.value (.bool true)) W := by
  have hgd := Tryd.eqGuardT
  have hq2 : (Op.equal 27 (.agg (trC s k)) (.agg (trC s k))).run Tryd.prog W = .ok true W := Tryd.eqT W s k hs
  have h1 : (binOp .eql 27 (.agg (trC s k)) (.agg (trC s k))).run Tryd.prog W = .ok (.bool true) W := by
    show ((do pure (.bool (← Op.equal 27 (.agg (trC s k)) (.agg (trC s k)))) : Sem Value)).run Tryd.prog W = _
    simp only [Sem.run_bind, hq2, Result.andThen_ok, Sem.run_pure]
  have g1 : (eqGuard .eql 27 x y (.agg (trC s k)) (.agg (trC s k))).run Tryd.prog W = .ok () W := by
    unfold eqGuard
    clear h1 hq2
    go_simp
  unfold execOp
  simp only [ho, hx, hy]
  simp only [Sem.run_bind, g1, h1, Result.andThen_ok, Sem.run_pure]
end Go.Proofs.YtlifjlcfoeednaaDoor
end
section
namespace Go.Proofs.YtlifjlcfoeednaaDoor
open Go.RowKit
set_option linter.unusedVariables false
set_option maxRecDepth 20000

set_option maxHeartbeats 4000000 in
theorem start_env (w0 w : World) (ht : Tabs w0) (rs : List (Nat × TypeId × Array Value)) (m g n : Nat) (hE : Env w0 rs w) (hm : rs[m]? = some (g, 76, mC n)) (hn : n ≤ 900000) (u v : Value) (one two : List UInt8) (hu : Bs w u one) (hv : Bs w v two) (l1 : one.length ≤ 100000) (l2 : two.length ≤ 100000) :
    Calls Tryd.prog 8 #[.pointer (some ⟨g, 0, none⟩), u, v] w fun e w' => e = .returned (.agg (trC (startB one two) 0)) ∧ Env w0 (rs.set m (g, 76, mC (n + 1))) w' := by
  have HT := Lib.hid ht
  have HM := Lib.hid hm
  have E0 := Lib.hid hE
  have U0 := Lib.hid hu
  have V0 := Lib.hid hv
  have L1 := Lib.hid l1
  have L2 := Lib.hid l2
  obtain ⟨Au, cu, rfl, _, _, _⟩ := hu
  obtain ⟨Av, cv, rfl, _, _, _⟩ := hv
  obtain ⟨nb, hnb⟩ : ∃ z, z = hi8 one.length := ⟨_, rfl⟩
  have LN : Hid (nb.length = 8) := by show _ = _; rw [hnb]; exact hi8_length _
  have CN : Hid (∀ w, Calls Tryd.prog 23 #[.int .u64 (one.length : Int), .int .i64 8] w (RetBs w nb)) := fun w => by rw [hnb]; exact hi8_any w _ (by omega)
  obtain ⟨d, hd⟩ : ∃ d, d = startB one two := ⟨_, rfl⟩
  have LD : Hid (d.length = 32) := by show _ = _; rw [hd]; exact startB_length _ _
  have HD : Hid (d = digestB [[115, 116, 97, 114, 116], nb, one, two].flatten) := by
    show _ = _
    rw [hd, startB, hnb]
    simp
  have hw1 : IntKind.u64.wrap (one.length : Int) = (one.length : Int) := by rw [IntKind.wrap_u64]; omega
  rw [← hd]
  clear ht hm hE hnb hd l1 l2
  go_enter Tryd.func8, Tryd.ntmps8
  go_wp2_with ((with_reducible refine wpList_alloc_row (o := ⟨some 6, _, _, _, _, _⟩) rfl 27 rfl (trC zeroKey 0) Tryd.zeroT ?_); intro g6 w1 n1; have U1 := Lib.hid (U0.out.below n1.below); have V1 := Lib.hid (V0.out.below n1.below); have E1 := Lib.hid (E0.out.new n1); clear n1)
  refine (CN.out _).mono ?_
  intro e w2 h
  obtain ⟨u2, he, hu2, b2⟩ := h
  subst he
  have E2 := Lib.hid (E1.out.call b2)
  have U2 := Lib.hid (U1.out.below b2)
  have V2 := Lib.hid (V1.out.below b2)
  have N2 := Lib.hid hu2
  obtain ⟨An, cn, rfl, _, _, _⟩ := hu2
  clear b2 E1 U1 V1 E0 U0 V0
  have kc := fun (w : World) (C : Array Value) (n c : Nat) => Lib.run_convert_bytes_const (P := Tryd.prog) w 22 5 C n c Tryd.underlying22 Tryd.underlying5
  go_wp2_with fail
  have x3 : Bs (w2.alloc (.cells #[.int .u8 115, .int .u8 116, .int .u8 97, .int .u8 114, .int .u8 116] 5 (5, 6))) (.slice (some ⟨w2.heap.size, 0, none⟩) 5 5) [115, 116, 97, 114, 116] := Bs.litM w2 _ [115, 116, 97, 114, 116] _ _ rfl (by simp [maxLen])
  have bl := Bss.lit4 _ _ _ _ _ _ nb one two x3 (N2.out.below (alloc_below _ _)) (U2.out.below (alloc_below _ _)) (V2.out.below (alloc_below _ _))
  simp only [size_alloc] at bl
  have E3 := Lib.hid ((E2.out.call (alloc_below _ (.cells #[.int .u8 115, .int .u8 116, .int .u8 97, .int .u8 114, .int .u8 116] 5 (5, 6)))).call (alloc_below _ (.cells #[.slice (some ⟨w2.heap.size, 0, none⟩) 5 5, .slice An nb.length cn, .slice Au one.length cu, .slice Av two.length cv] 22)))
  refine (Sum_env (m := m + 1) (n := n) E3.out HT.out HM.out _ [[115, 116, 97, 114, 116], nb, one, two] d (by omega) HD.out bl (by
    have := LN.out
    have := L1.out
    have := L2.out
    simp
    omega) (by simp)).mono ?_
  intro e w4 h
  obtain ⟨he, h4⟩ := h
  subst he
  simp only [List.set_cons_succ] at h4
  have E4 := Lib.hid h4
  clear h4 E3 bl x3 N2 U2 V2 E2 kc
  go_wp2_with (first
    | (with_reducible refine wpList_val (o := ⟨some 20, _, _, _, _, _⟩) rfl _ (run_bzT (.tmp 19) rfl d (by with_unfolding_all rfl) LD.out) ?_)
    | ((with_reducible refine wpE_store (o := ⟨none, _, _, _, _, _⟩) rfl 27 (.tmp 6) (.tmp 20) rfl 0 g6 27 (trC zeroKey 0) (trC d 0) (by with_unfolding_all rfl) (by with_unfolding_all rfl) (by with_unfolding_all rfl) (trC_same zeroKey_length LD.out) (Tryd.sizeT _ _ LD.out) (trC_one _ _) E4.out ?_); intro w5 T5; simp only [List.set_cons_zero] at T5; have E5 := Lib.hid T5; clear T5))
  exact bodyPost_ret (results_cell_row rfl _ _ g6 27 (trC d 0) (0, 0) _ rfl (E5.out.row 0 rfl) Tryd.underlying27 rfl (Tryd.sizeT _ _ LD.out)) rfl ⟨rfl, E5.out.tl⟩
end Go.Proofs.YtlifjlcfoeednaaDoor
end
section
namespace Go.Proofs.YtlifjlcfoeednaaDoor
open Go.RowKit
set_option linter.unusedVariables false
set_option maxRecDepth 20000

set_option maxHeartbeats 8000000 in
theorem nextT_env (w0 w : World) (ht : Tabs w0) (rs : List (Nat × TypeId × Array Value)) (m g n : Nat) (hE : Env w0 rs w) (hm : rs[m]? = some (g, 76, mC n)) (hn : n ≤ 900000) (h : List UInt8) (k : Nat) (hh : h.length = 32) (hk : k < 4294967296) (v : Value) (b : List UInt8) (hv : Bs w v b) (lb : b.length ≤ 140737488351232) :
    Calls Tryd.prog 11 #[.agg (trC h k), .pointer (some ⟨g, 0, none⟩), v] w fun e w' => e = .returned (.agg (trC (stepT (h, k) b).1 (stepT (h, k) b).2)) ∧ Env w0 (rs.set m (g, 76, mC (n + 1))) w' := by
  have HT := Lib.hid ht
  have HM := Lib.hid hm
  have E0 := Lib.hid hE
  have V0 := Lib.hid hv
  have LH := Lib.hid hh
  have LB := Lib.hid lb
  obtain ⟨Av, cv, rfl, _, _, _⟩ := hv
  obtain ⟨nb, hnb⟩ : ∃ z, z = hi8 k := ⟨_, rfl⟩
  have LN : Hid (nb.length = 8) := by show _ = _; rw [hnb]; exact hi8_length _
  have CN : Hid (∀ w, Calls Tryd.prog 23 #[.int .u64 (k : Int), .int .i64 8] w (RetBs w nb)) := fun w => by rw [hnb]; exact hi8_any w _ (by omega)
  obtain ⟨d, hd⟩ : ∃ d, d = nextB h k b := ⟨_, rfl⟩
  have LD : Hid (d.length = 32) := by show _ = _; rw [hd]; exact nextB_length _ _ _
  have HD : Hid (d = digestB [[110, 101, 120, 116], nb, h, b].flatten) := by
    show _ = _
    rw [hd, nextB, hnb]
    simp
  have hw1 : IntKind.u64.wrap (k : Int) = (k : Int) := by rw [IntKind.wrap_u64]; omega
  obtain ⟨k1, hk1⟩ : ∃ k1, k1 = (k + 1) % 4294967296 := ⟨_, rfl⟩
  have hw2 : IntKind.u32.wrap ((k : Int) + 1) = (k1 : Int) := by rw [IntKind.wrap_u32]; omega
  rw [show (stepT (h, k) b).1 = d from hd.symm, show (stepT (h, k) b).2 = k1 from hk1.symm]
  clear ht hm hE hh hnb hd lb hk hk1
  go_enter Tryd.func11, Tryd.ntmps11
  go_wp2_with (first
    | ((with_reducible refine wpList_box_row (o := ⟨some 3, _, _, _, _, _⟩) rfl 27 (.tmp 0) rfl (trC h k) (by with_unfolding_all rfl) ?_); intro g3 w1 n1; have V1 := Lib.hid (V0.out.below n1.below); have E1 := Lib.hid (E0.out.new n1); clear n1)
    | ((with_reducible refine wpList_alloc_row (o := ⟨some 6, _, _, _, _, _⟩) rfl 27 rfl (trC zeroKey 0) Tryd.zeroT ?_); intro g6 w2 n2; have V2 := Lib.hid (V1.out.below n2.below); have E2 := Lib.hid (E1.out.new n2); have c2 := E2.out.cellV 1 rfl 32 _ (trC_32 h k LH.out); clear n2))
  refine (CN.out _).mono ?_
  intro e w3 h3
  obtain ⟨u3, he, hu3, b3⟩ := h3
  subst he
  have E3 := Lib.hid (E2.out.call b3)
  have V3 := Lib.hid (V2.out.below b3)
  have N3 := Lib.hid hu3
  obtain ⟨An, cn, rfl, _, _, _⟩ := hu3
  clear b3 E2 E1 E0 V2 V1 V0 c2
  go_wp2_with fail
  refine plain_region (S := fun x => Env w0 [(g3, 27, trC h k)] x) (fin := fun _ => false) (by kernel_rfl) ?_
  have sub : ∀ (l : List (Nat × TypeId × Array Value)) x, (∃ j, l[j]? = some (g3, 27, trC h k)) → Env w0 l x → Env w0 [(g3, 27, trC h k)] x := fun l x ⟨j, hj⟩ h => h.less (List.singleton_sublist.2 (List.mem_of_getElem? hj))
  have SUB := Lib.hid sub
  clear sub
  have E4 := Lib.hid E3.out.drew
  have V4 := Lib.hid V3.out.drew
  have N4 := Lib.hid N3.out.drew
  generalize w3.drew = x4 at E4 V4 N4 ⊢
  clear E3 V3 N3
  have hS := SUB.out _ _ ⟨1, rfl⟩ E4.out
  change walkS _ _ _ _ _ _ 14 _ _ _
  refine walkS_take (i := 0) (oi := ⟨some 12, _, _, _, _, _⟩) (v := .pointer (some ⟨g, 0, none⟩)) rfl (by kernel_rfl) (by kernel_rfl) (fun _ _ _ h => h) _ _ _ _ (by kernel_rfl) (by kernel_rfl) (Or.inl ⟨by rfl, fun w' hS' => (by first | rfl | (clear hS hS'; go_simp))⟩) hS ?_
  try simp only [Act.put, List.setIfInBounds_toArray, List.set_cons_zero, List.set_cons_succ]
  refine walkS_take (i := 3) (oi := ⟨some 15, _, _, _, _, _⟩) (v := .slice An nb.length cn) rfl (by kernel_rfl) (by kernel_rfl) (fun _ _ _ h => h) _ _ _ _ (by kernel_rfl) (by kernel_rfl) (Or.inl ⟨by rfl, fun w' hS' => (by first | rfl | (clear hS hS'; go_simp))⟩) hS ?_
  try simp only [Act.put, List.setIfInBounds_toArray, List.set_cons_zero, List.set_cons_succ]
  refine walkS_take (i := 4) (oi := ⟨some 16, _, _, _, _, _⟩) (v := .pointer (some ⟨g3, 0, none⟩)) rfl (by kernel_rfl) (by kernel_rfl) (fun _ _ _ h => h) _ _ _ _ (by kernel_rfl) (by kernel_rfl) (Or.inl ⟨by rfl, fun w' hS' => (by first | rfl | (clear hS hS'; go_simp))⟩) hS ?_
  try simp only [Act.put, List.setIfInBounds_toArray, List.set_cons_zero, List.set_cons_succ]
  refine walkS_take (i := 5) (oi := ⟨some 17, _, _, _, _, _⟩) (v := .slice (some ⟨g3, 0, none⟩) 32 32) rfl (by kernel_rfl) (by kernel_rfl) (fun _ _ _ h => h) _ _ _ _ (by kernel_rfl) (by kernel_rfl) (Or.inl ⟨by rfl, fun w' hS' => (by first | rfl | (clear hS hS'; go_simp))⟩) hS ?_
  try simp only [Act.put, List.setIfInBounds_toArray, List.set_cons_zero, List.set_cons_succ]
  refine walkS_take (i := 6) (oi := ⟨some 18, _, _, _, _, _⟩) (v := .slice Av b.length cv) rfl (by kernel_rfl) (by kernel_rfl) (fun _ _ _ h => h) _ _ _ _ (by kernel_rfl) (by kernel_rfl) (Or.inl ⟨by rfl, fun w' hS' => (by first | rfl | (clear hS hS'; go_simp))⟩) hS ?_
  try simp only [Act.put, List.setIfInBounds_toArray, List.set_cons_zero, List.set_cons_succ]
  refine walkS_take (i := 9) (oi := ⟨some 21, _, _, _, _, _⟩) (v := .pointer (some ⟨g3, 32, none⟩)) rfl (by kernel_rfl) (by kernel_rfl) (fun _ _ _ h => h) _ _ _ _ (by kernel_rfl) (by kernel_rfl) (Or.inl ⟨by rfl, fun w' hS' => (by first | rfl | (clear hS hS'; go_simp))⟩) hS ?_
  try simp only [Act.put, List.setIfInBounds_toArray, List.set_cons_zero, List.set_cons_succ]
  refine walkS_take (i := 10) (oi := ⟨some 22, _, _, _, _, _⟩) (v := .int .u32 (k : Int)) rfl (by kernel_rfl) (by kernel_rfl) (fun _ _ _ h => h) _ _ _ _ (by kernel_rfl) (by kernel_rfl) (Or.inl ⟨by rfl, fun w' hS' => (by have c := hS'.cellV 0 rfl 32 _ (trC_32 h k LH.out); clear hS hS'; go_simp)⟩) hS ?_
  try simp only [Act.put, List.setIfInBounds_toArray, List.set_cons_zero, List.set_cons_succ]
  refine walkS_take (i := 11) (oi := ⟨some 23, _, _, _, _, _⟩) (v := .int .u32 (k1 : Int)) rfl (by kernel_rfl) (by kernel_rfl) (fun _ _ _ h => h) _ _ _ _ (by kernel_rfl) (by kernel_rfl) (Or.inl ⟨by rfl, fun w' hS' => (by first | rfl | (clear hS hS'; go_simp))⟩) hS ?_
  try simp only [Act.put, List.setIfInBounds_toArray, List.set_cons_zero, List.set_cons_succ]
  clear hS
  refine walkS_only (i := 1) (o := ⟨some 13, _, _, _, _, _⟩) (by kernel_rfl) rfl rfl fun KK hKK => ?_
  go_simp
  have E5 := Lib.hid (E4.out.call (alloc_below _ (.cells #[.int .u8 110, .int .u8 101, .int .u8 120, .int .u8 116] 5)))
  have hS := SUB.out _ _ ⟨1, rfl⟩ E5.out
  refine hKK _ _ (.inr hS) ?_
  clear hKK KK
  try simp only [Act.put, List.setIfInBounds_toArray, List.set_cons_zero, List.set_cons_succ]
  clear hS E5
  refine walkS_only (i := 2) (o := ⟨some 14, _, _, _, _, _⟩) (by kernel_rfl) rfl rfl fun KK hKK => ?_
  have kc := fun (w : World) (C : Array Value) (n c : Nat) => Lib.run_convert_bytes_const (P := Tryd.prog) w 22 5 C n c Tryd.underlying22 Tryd.underlying5
  go_simp
  clear kc
  have x3 : Bs (x4.alloc (.cells #[.int .u8 110, .int .u8 101, .int .u8 120, .int .u8 116] 5 (4, 5))) (.slice (some ⟨x4.heap.size, 0, none⟩) 4 4) [110, 101, 120, 116] := Bs.litM x4 _ [110, 101, 120, 116] _ _ rfl (by simp [maxLen])
  have bx := alloc_below x4 (.cells #[.int .u8 110, .int .u8 101, .int .u8 120, .int .u8 116] 5 (4, 5))
  have X5 := Lib.hid x3
  have E5 := Lib.hid (E4.out.call bx)
  have V5 := Lib.hid (V4.out.below bx)
  have N5 := Lib.hid (N4.out.below bx)
  clear x3 bx E4 V4 N4
  generalize x4.alloc (.cells #[.int .u8 110, .int .u8 101, .int .u8 120, .int .u8 116] 5 (4, 5)) = x5 at X5 E5 V5 N5 ⊢
  generalize x4.heap.size = gl at X5 ⊢
  have hS := SUB.out _ _ ⟨1, rfl⟩ E5.out
  refine hKK _ _ (.inr hS) ?_
  clear hKK KK
  try simp only [Act.put, List.setIfInBounds_toArray, List.set_cons_zero, List.set_cons_succ]
  clear hS
  refine walkS_only (i := 7) (o := ⟨some 19, _, _, _, _, _⟩) (by kernel_rfl) rfl rfl fun KK hKK => ?_
  go_simp
  have BL := Lib.hid (Bss.lit4 x5 _ _ _ _ [110, 101, 120, 116] nb h b X5.out N5.out (Bs.trail (E5.out.row 1 rfl) LH.out) V5.out)
  have E6 := Lib.hid (E5.out.call (alloc_below x5 (.cells #[.slice (some ⟨gl, 0, none⟩) 4 4, .slice An nb.length cn, .slice (some ⟨g3, 0, none⟩) 32 32, .slice Av b.length cv] 22)))
  generalize x5.alloc (.cells #[.slice (some ⟨gl, 0, none⟩) 4 4, .slice An nb.length cn, .slice (some ⟨g3, 0, none⟩) 32 32, .slice Av b.length cv] 22) = x6 at BL E6 ⊢
  generalize x5.heap.size = gb at BL ⊢
  clear X5 E5 V5 N5
  have hS := SUB.out _ _ ⟨1, rfl⟩ E6.out
  refine hKK _ _ (.inr hS) ?_
  clear hKK KK
  try simp only [Act.put, List.setIfInBounds_toArray, List.set_cons_zero, List.set_cons_succ]
  clear hS
  refine walkS_only (i := 8) (o := ⟨some 20, _, _, _, _, _⟩) (by kernel_rfl) rfl rfl fun KK hKK => ?_
  go_simp
  refine (Sum_env (m := m + 2) (n := n) E6.out HT.out HM.out _ [[110, 101, 120, 116], nb, h, b] d (by omega) HD.out BL.out (by
    have := LN.out
    have := LH.out
    have := LB.out
    simp
    omega) (by simp)).mono ?_
  intro e w7 h7
  obtain ⟨he, h7⟩ := h7
  subst he
  simp only [List.set_cons_succ] at h7
  have E7 := Lib.hid h7
  clear h7 E6 BL
  have hS := SUB.out _ _ ⟨1, rfl⟩ E7.out
  refine hKK _ _ (.inr hS) ?_
  clear hKK KK
  try simp only [Act.put, List.setIfInBounds_toArray, List.set_cons_zero, List.set_cons_succ]
  clear hS
  refine walkS_only (i := 12) (o := ⟨some 24, _, _, _, _, _⟩) (by kernel_rfl) rfl rfl fun KK hKK => ?_
  refine wp_val _ (run_bT (.tmp 20) (.tmp 23) rfl d k1 rfl rfl LD.out) ?_
  have hS := SUB.out _ _ ⟨1, rfl⟩ E7.out
  refine hKK _ _ (.inr hS) ?_
  clear hKK KK
  try simp only [Act.put, List.setIfInBounds_toArray, List.set_cons_zero, List.set_cons_succ]
  clear hS
  refine walkS_only (i := 13) (o := ⟨none, _, _, _, _, _⟩) (by kernel_rfl) rfl rfl fun KK hKK => ?_
  refine wp_store_row 27 (.tmp 6) (.tmp 24) rfl g6 27 (trC zeroKey 0) (trC d k1) rfl rfl (E7.out.row 0 rfl) (trC_same zeroKey_length LD.out) (Tryd.sizeT _ _ LD.out) (trC_one _ _) fun w8 p8 => ?_
  have E8 := Lib.hid (E7.out.put 0 rfl p8)
  have hS := SUB.out _ _ ⟨1, rfl⟩ E8.out
  refine hKK _ _ (.inr hS) (walkS_done (by kernel_rfl) ?_ _)
  clear hKK KK hS p8 E7 SUB
  go_wp2_with fail
  exact bodyPost_ret (results_cell_row rfl _ _ g6 27 (trC d k1) (0, 0) _ rfl (E8.out.row 0 rfl) Tryd.underlying27 rfl (Tryd.sizeT _ _ LD.out)) rfl ⟨rfl, E8.out.tl.tl⟩
end Go.Proofs.YtlifjlcfoeednaaDoor
end
