/-
  Contract of the document's Write. Conditions: as it names them.
-/
import Derived.Test.YtenmgpijhaalbaaDocB
namespace Go.Proofs.Ytenmgpijhaalbaa
open Go.RowKit
set_option linter.unusedVariables false
set_option maxRecDepth 20000

section
variable {P : Program} {w : World} {R : Nat → Prop}
/-- append of a whole row that is read (nil, empty or not) onto the call's own row. -/
theorem run_appRow (base : Nat) (t ty e : TypeId) (z : Value) (size bytes : Nat) (ht : P.underlying t = some (.slice e)) (hinfo : (P.info? e).map (fun i => (i.zero, i.size, i.bytes)) = some (some z, size, bytes)) (hzs : z.cells.size = size) (hsz : 0 < size)
    (v : Value) (n : Nat) (xs : List Value) (hown : w.ownsRow base e size v n xs) (u : Value) (m : Nat) (cs : List Value) (hu : Row_ w R u m cs) (hl : cs.length = m * size) (h1 : ∀ y ∈ cs, y.oneCell' = true)
    (h63 : n + m ≤ maxLen) (hbytes : (n + m) * bytes ≤ 140737488355328) (hbase : base ≤ w.heap.size) :
    ∃ v' w', (Builtin.append_ #[t, t] ty #[v, u]).run P w = .ok v' w' ∧ w'.ownsRow base e size v' (n + m) (xs ++ cs) ∧ w.grownBy w' v.ownBlock ∧ (v'.ownBlock = v.ownBlock ∨ v'.ownBlock = some w.heap.size) := by
  obtain ⟨i, hi, hz0, hz1, hz2⟩ := info_parts hinfo
  obtain ⟨A, c, rfl, q1, q2, q3⟩ := hu
  rcases Nat.eq_zero_or_pos m with hm | hm
  · subst hm
    obtain rfl : cs = [] := List.eq_nil_of_length_eq_zero (by omega)
    rcases A with _ | ad
    · refine ⟨v, w, ?_, by simpa using hown, World.grownBy.refl w _, .inl rfl⟩
      rcases hown.2 with ⟨rfl, _⟩ | ⟨g, cap, cur, rfl, _, _, hnc, _⟩
      · simp [Builtin.append_, run_underlying ht, sizeOf, typeInfo, hi, Builtin.lenOf, Builtin.firstCells]
      · simp [Builtin.append_, run_underlying ht, sizeOf, typeInfo, hi, Builtin.lenOf, Builtin.firstCells, hnc, storeCells]
    · obtain ⟨v', w', hr, h2, h3, _, h5⟩ := run_append_own_at (P := P) w base t ty e i z size bytes ht hi hz0 hz1 hz2 hzs hsz v n xs hown ad 0 c [] (by simp) (fun j u hj => by simp at hj) (by simp) h63 hbytes hbase
      exact ⟨v', w', hr, h2, h3, h5⟩
  · obtain ⟨b, off, rfl, _, hc⟩ := q3 hm
    obtain ⟨v', w', hr, h2, h3, _, h5⟩ := run_append_own_at (P := P) w base t ty e i z size bytes ht hi hz0 hz1 hz2 hzs hsz v n xs hown ⟨b, off, none⟩ m c cs hl (fun j u hj => by
      have hadd : (⟨b, off, none⟩ : Addr).add j = ⟨b, off + j, none⟩ := by unfold Addr.add; split <;> simp_all
      rw [hadd]
      exact hc j u hj) h1 h63 hbytes hbase
    exact ⟨v', w', hr, h2, h3, h5⟩
theorem wpList_appRow {ops : Array Oper} {rest : List Oper} {o : Oper} {a : Act} {Q : Exit → Act → World → Prop} (hgd : o.guard = none) (s x : Operand) (t : TypeId)
    (ho : o.op = .call { callee := .builtin .append, args := #[s, x], argTypes := #[t, t] })
    (base : Nat) (e : TypeId) (z : Value) (size bytes : Nat) (ht : P.underlying t = some (.slice e)) (hinfo : (P.info? e).map (fun i => (i.zero, i.size, i.bytes)) = some (some z, size, bytes)) (hzs : z.cells.size = size) (hsz : 0 < size)
    (v : Value) (n : Nat) (xs : List Value) (hs : a.eval s = v) (hown : w.ownsRow base e size v n xs) (u : Value) (m : Nat) (cs : List Value) (hx : a.eval x = u) (hu : Row_ w R u m cs) (hl : cs.length = m * size) (h1 : ∀ y ∈ cs, y.oneCell' = true)
    (h63 : n + m ≤ maxLen) (hbytes : (n + m) * bytes ≤ 140737488355328) (hbase : base ≤ w.heap.size)
    (h : ∀ v' w', w'.ownsRow base e size v' (n + m) (xs ++ cs) → w.grownBy w' v.ownBlock → (v'.ownBlock = v.ownBlock ∨ v'.ownBlock = some w.heap.size) → wpList P ops Q rest (a.put o.dst v') w') : wpList P ops Q (o :: rest) a w := by
  refine wpList_plain hgd fun _ hK => ?_
  obtain ⟨v', w', hr, h2, h3, h5⟩ := run_appRow (P := P) (w := w) base t o.type e z size bytes ht hinfo hzs hsz v n xs hown u m cs hu hl h1 h63 hbytes hbase
  unfold Oper.wp execOp
  simp only [ho, resolve, invoke, builtin, Sem.run_bind, Sem.run_pure, Result.andThen_ok, List.map_toArray, List.map_cons, List.map_nil, hs, hx, hr]
  exact hK _ _ (h v' w' h2 h3 h5)
end
/-- A slice of one cell is built. -/
theorem wp_oneCell {P : Program} {w : World} {o : Oper} {a : Act} {K : Act → World → Prop} {Q : Exit → Act → World → Prop} (ty e : TypeId) (x : Operand) (ho : o.op = .buildSlice ty 1 #[(0, x)]) (u : Value) (bytes : Nat) (z : Value) (hx : a.eval x = u) (h1 : u.oneCell' = true)
    (hu : P.underlying ty = some (.slice e)) (hinfo : (P.info? e).map (fun i => (i.zero, i.size, i.bytes)) = some (some z, 1, bytes))
    (h : ∀ g w', NewRow w g e [u].toArray w' → K (a.put o.dst (.slice (some ⟨g, 0, none⟩) 1 1)) w') : o.wp P a w K Q := by
  obtain ⟨ie, hie, hz0, hz1, hz2⟩ := info_parts hinfo
  refine wp_buildSlice ty e 1 _ ho [u].toArray ie z hu hie hz0 (by rw [hz1]; omega) (by rw [hz1]; omega) ?_ (h _ _ (NewRow.mk_ w e _))
  have hp : (#[((0 : Nat), x)].map fun (i, x) => (i, a.eval x)).toList = ([u].zipIdx 0).map fun x => (x.2, x.1) := by simp [hx]
  have hc : u.cells = #[u] := by
    cases u <;> first | rfl | cases h1
  have he : some [u].toArray = some ([u].flatMap fun v => v.cells.toList).toArray := by
    rw [List.flatMap_cons, List.flatMap_nil, List.append_nil, hc]
  rw [hp, hz1, he]
  refine Great.fill_whole (by omega) _ _ (fun v hv => ?_) (by simp)
  obtain rfl : v = u := List.mem_singleton.1 hv
  rw [hc]
  rfl
theorem Bs.oneCell {w : World} {v : Value} {l : List UInt8} (h : Bs w v l) : v.oneCell' = true := by
  obtain ⟨A, c, rfl, _⟩ := h
  rfl
theorem DocIs.bs {w w' : World} {R : Nat → Prop} {g : Nat} {vs vp : Value} {ss : List (List UInt8 × Value)} {ps : List (Nat × List UInt8 × Value)} {a : Ab} (h : DocIs w R g vs vp ss ps a) (hg : w.grownBy w' (some g)) {v : Value} {l : List UInt8} (hb : Bs w v l) : Bs w' v l := by
  obtain ⟨A, c, rfl, h1, h2, h3⟩ := hb
  refine ⟨A, c, rfl, h1, h2, fun hl => ?_⟩
  obtain ⟨b, off, rfl, hc⟩ := h3 hl
  refine ⟨b, off, rfl, fun j hj => ?_⟩
  have hcj := hc j hj
  have hne : b ≠ g := by
    intro e
    subst e
    rw [h.row.cell] at hcj
    obtain ⟨A2, c2, e2, _⟩ := h.pend.shape
    obtain ⟨A3, c3, e3, _⟩ := h.sure.shape
    rw [e2, e3] at hcj
    generalize off + j = m at hcj
    match m, hcj with
    | 0, hcj => simp at hcj
    | 1, hcj => simp at hcj
    | 2, hcj => simp at hcj
    | 3, hcj => simp at hcj
    | 4, hcj => simp at hcj
    | m + 5, hcj => simp at hcj
  exact (World.cell?_of_block (hg.block b (World.block_lt_of_cell? w _ hcj) fun e => hne (Option.some.inj e))).trans hcj
def zeroDW : Array Value := #[.int .i64 0, .slice none 0 0]
theorem Try.infoDW : (Try.prog.info? 71).map (fun i => (i.zero, i.size, i.bytes)) = some (some (.agg zeroDW), 2, 32) := by kernel_rfl
theorem Try.infoSl : (Try.prog.info? 31).map (fun i => (i.zero, i.size, i.bytes)) = some (some (.slice none 0 0), 1, 24) := by kernel_rfl
theorem Try.builtDW (i : Int) (v : Value) (hv : ∃ A n c, v = .slice A n c) : Try.prog.built 71 [(0, .int .i64 i), (1, v)] = some [Value.int .i64 i, v].toArray := by
  obtain ⟨A, n, c, rfl⟩ := hv
  kernel_rfl
theorem pC_one {ps : List (Nat × List UInt8 × Value)} (h : ∀ x ∈ ps, x.2.2.oneCell' = true) : ∀ u ∈ pC ps, u.oneCell' = true := by
  intro u hu
  obtain ⟨l, hl, hu⟩ := List.mem_flatten.1 hu
  obtain ⟨x, hx, rfl⟩ := List.mem_map.1 hl
  rcases List.mem_cons.1 hu with rfl | hu
  · rfl
  · rw [List.mem_singleton.1 hu]; exact h x hx
theorem wide_free {R : Nat → Prop} {w w' : World} {g : Nat} (h : ¬ R g) (hg : g < w.heap.size) : ¬ Wide R w w' g := fun e => e.elim h fun e => by omega
def DocRet (w : World) (R : Nat → Prop) (g : Nat) (a : Ab) (v : Value) (e : Ending) (w' : World) : Prop := e = .returned v ∧ DocIn w' (Wide R w w') g a ∧ Turns (fun k => k = g) w w'
theorem DocIs.widen {w : World} {R R' : Nat → Prop} {g : Nat} {vs vp : Value} {ss : List (List UInt8 × Value)} {ps : List (Nat × List UInt8 × Value)} {a : Ab} (h : DocIs w R g vs vp ss ps a) (hR : ∀ k, R k → R' k) (hg : ¬ R' g) : DocIs w R' g vs vp ss ps a :=
  ⟨h.row, hg, h.sure.mono hR, h.pend.mono hR, fun x hx => (h.each x hx).mono hR, fun x hx => (h.every x hx).mono hR, h.isS, h.isP⟩
theorem DocIs.ret {w w' : World} {R : Nat → Prop} {g : Nat} {vs vp : Value} {ss : List (List UInt8 × Value)} {ps : List (Nat × List UInt8 × Value)} {a : Ab} {v : Value} (hg : g < w.heap.size) (h : DocIs w' R g vs vp ss ps a) (ht : Turns (fun k => k = g) w w') : DocRet w R g a v (.returned v) w' :=
  ⟨rfl, ⟨vs, vp, ss, ps, h.widen (fun k hk => .inl hk) (wide_free h.free hg)⟩, ht⟩
theorem turns_g {w w' : World} {g : Nat} (hg : w.grownBy w' (some g)) : Turns (fun k => k = g) w w' := Turns.of_grown hg fun k hk => (Option.some.inj hk).symm

theorem grown_new {w wa w' : World} (hb : Below w.heap.size w wa) (hg : wa.grownBy w' (some w.heap.size)) : Below w.heap.size w w' :=
  hb.trans ⟨hg.os, hg.tape, hg.output, hg.size, fun k hk => hg.block k (Nat.lt_of_lt_of_le hk hb.size) fun e => by
    have := Option.some.inj e
    omega⟩
theorem row_one {w : World} {R : Nat → Prop} {g : Nat} {t : TypeId} {l : List Value} (h : RowAt w g t l.toArray) (hR : R g := by trivial) : Row_ w R (.slice (some ⟨g, 0, none⟩) 1 1) 1 l :=
  ⟨_, 1, rfl, Nat.le_refl _, by simp [maxLen], fun _ => ⟨g, 0, rfl, hR, fun j u hj => by rw [h.cell, Nat.zero_add]; simpa using hj⟩⟩
theorem own_shape3 {w : World} {base size n : Nat} {e : TypeId} {v : Value} {xs : List Value} (h : w.ownsRow base e size v n xs) : ∃ A m c, v = .slice A m c := by
  rcases h.2 with ⟨rfl, _⟩ | ⟨g, cap, cur, rfl, _⟩
  · exact ⟨_, _, _, rfl⟩
  · exact ⟨_, _, _, rfl⟩
set_option maxHeartbeats 2000000 in
theorem docWrite_any (w : World) (R : Nat → Prop) (g : Nat) (vs vp : Value) (ss : List (List UInt8 × Value)) (ps : List (Nat × List UInt8 × Value)) (a : Ab) (h : DocIs w R g vs vp ss ps a) (i : Int) (vb : Value) (b : List UInt8) (hb : Bs w vb b) (hp : ps.length ≤ 1000000) (hs : ss.length ≤ 1000000)
    (hl : -9223372036854775808 ≤ a.left ∧ a.left ≤ 9223372036854775807) (hf : a.goes = true → a.fused = true → 0 ≤ a.left) :
    Calls Try.prog 12 #[.pointer (some ⟨g, 0, none⟩), .int .i64 i, vb] w (DocRet w R g (a.write i b) (.int .i64 (a.writeE i b))) := by
  have H2 : Hid (∀ w, DocIs w R g vs vp ss ps a → Calls Try.prog 32 #[.pointer (some ⟨g, 0, none⟩)] w fun e w' => e = .returned (.bool a.goes) ∧ DocIs w' R g vs vp ss ps a.spend ∧ w.grownBy w' (some g)) := fun w h => docDone_any w R g vs vp ss ps a h hl hf
  have HH := Lib.hid h
  have HB := Lib.hid hb
  obtain ⟨A, c, rfl, hb1, hb2, _⟩ := hb
  obtain ⟨sA, sc, hvs, _⟩ := h.sure.shape
  have c0 := h.cell 0 _ rfl
  rw [hvs] at c0
  have hls := h.lenS
  clear h hl hf
  by_cases h0 : i < 0
  · have hd : decide (i < 0) = true := decide_eq_true h0
    have hi : a.has i = false := by unfold Ab.has; rw [decide_eq_false (by omega)]; rfl
    have e1 : Hid (a.writeE i b = 60) := by show _ = _; unfold Ab.writeE; rw [if_pos hi]
    have e2 : Hid (a.write i b = a) := by show _ = _; unfold Ab.write; rw [if_pos hi]
    go_enter Try.func12, Try.ntmps12
    go_wp2
    go_ret
    rw [e1.out, e2.out]
    exact HH.out.ret HH.out.row.lt (Turns.refl _ _)
  have hd0 : decide (i < 0) = false := decide_eq_false h0
  by_cases hn : i < (ss.length : Int)
  · obtain ⟨j, rfl⟩ : ∃ j : Nat, i = (j : Int) := ⟨i.toNat, by omega⟩
    have hj : j < ss.length := by omega
    have hd1 : decide ((ss.length : Int) ≤ (j : Int)) = false := by simp; omega
    have hi : a.has j = true := by unfold Ab.has; rw [decide_eq_true (by omega), decide_eq_true (by omega)]; rfl
    have e1 : Hid (a.writeE j b = if 256 < b.length then 2 else if a.goes then 0 else 61) := by show _ = _; unfold Ab.writeE; rw [hi]; rfl
    have e2 : Hid (a.write j b = if 256 < b.length then a else if a.goes then { a.spend with pend := a.pend ++ [(j, pad b)] } else a.spend) := by show _ = _; unfold Ab.write; rw [hi]; rfl
    clear hi
    by_cases hbl : 256 < b.length
    · have hd2 : decide ((256 : Int) < (b.length : Int)) = true := by simp; omega
      rw [if_pos hbl] at e1 e2
      go_enter Try.func12, Try.ntmps12
      go_wp2
      go_ret
      rw [e1.out, e2.out]
      exact HH.out.ret HH.out.row.lt (Turns.refl _ _)
    have hd2 : decide ((256 : Int) < (b.length : Int)) = false := by simp; omega
    rw [if_neg hbl] at e1 e2
    by_cases hg : a.goes = true
    · rw [hg] at e1 e2 H2
      rw [if_pos rfl] at e1 e2
      go_enter Try.func12, Try.ntmps12
      go_wp2_with fail
      refine (H2.out w HH.out).mono ?_
      rintro e w2 ⟨rfl, h2, g2⟩
      have D2 := Lib.hid h2
      have T2 := Lib.hid (turns_g g2)
      have B2 := Lib.hid (HH.out.bs g2 HB.out)
      have HB0 : Hid (w.heap.size ≤ w2.heap.size) := g2.size
      have c1 : w2.cell? ⟨g, 1, none⟩ = some vp := h2.cell 1 _ rfl
      have hlt := h2.row.lt
      have c1' := (new_below w2 (.cells #[] 71)).cell (p := ⟨g, 1, none⟩) hlt
      rw [c1] at c1'
      have E : Hid ((w2.alloc (.cells #[] 71)).ownsRow w.heap.size 71 2 (.slice (some ⟨w2.heap.size, 0, none⟩) 0 0) 0 []) := World.ownsRow_lit (base := w.heap.size) (e := 71) (size := 2) w2 #[] 0 g2.size (by simp [maxLen]) rfl
      have NB := Lib.hid (new_below w2 (.cells #[] 71))
      have PO : Hid (∀ u ∈ pC ps, u.oneCell' = true) := pC_one fun x hx => (HH.out.every x hx).1.oneCell
      clear h2 g2 c0 H2 hlt
      go_wp2_with (first
        | ((with_reducible refine wpList_appRow (o := ⟨some 32, _, _, _, _, _⟩) rfl (.tmp 27) (.tmp 31) 61 rfl w.heap.size 71 (.agg zeroDW) 2 32 Try.underlying61 Try.infoDW (by decide) (by decide) (.slice (some ⟨w2.heap.size, 0, none⟩) 0 0) 0 [] (by with_unfolding_all rfl) E.out vp ps.length (pC ps) (by with_unfolding_all rfl) (by with_unfolding_all exact (D2.out.kept NB.out).pend) pC_length PO.out (by unfold maxLen; omega) (by omega) (Nat.le_trans HB0.out NB.out.size) ?_); intro v3 w3 o3 g3 at3))
      have b3 := grown_new NB.out g3
      have B3 := Lib.hid b3
      have O3 : Hid (w3.ownsRow w.heap.size 71 2 v3 ps.length (pC ps)) := by
        have := o3
        rw [Nat.zero_add, List.nil_append] at this
        exact this
      have V3 := Lib.hid (World.ownsRow.lt O3.out)
      clear o3 g3 at3 E NB c1 c1' PO
      refine (full_any w3 _ b (B2.out.below B3.out) (by omega)).mono ?_
      rintro e w4 ⟨vf, rfl, of, b4⟩
      have O4 := Lib.hid (own_kept O3.out b4)
      have B4 := Lib.hid (below_size B3.out b4)
      have OF := Lib.hid of
      have hvf : ∃ A n c, vf = .slice A n c := by
        obtain ⟨A, c, h⟩ := of.bs.shape2
        exact ⟨_, _, _, h⟩
      have hv1 : ∀ u ∈ [Value.int .i64 (j : Int), vf], u.oneCell' = true := by
        intro u hu
        rcases List.mem_cons.1 hu with rfl | hu
        · rfl
        · rw [List.mem_singleton.1 hu]; exact of.bs.oneCell
      clear b3 b4 of O3
      go_wp2_with (first
        | (with_reducible refine wpList_val (o := ⟨some 36, _, _, _, _, _⟩) rfl (.agg [Value.int .i64 (j : Int), vf].toArray) (by exact run_builtOp 71 #[(0, .tmp 33), (1, .tmp 35)] rfl _ (by with_unfolding_all exact Try.builtDW _ _ hvf)) ?_)
        | ((with_reducible refine wpList_oneRow (o := ⟨some 37, _, _, _, _, _⟩) rfl 61 71 (.tmp 36) rfl [Value.int .i64 (j : Int), vf] 2 32 (.agg zeroDW) (by with_unfolding_all rfl) rfl (by decide) (by decide) Try.underlying61 Try.infoDW ?_); intro g5 w5 n5; have N5 := Lib.hid n5.row; have O5 := Lib.hid (own_kept O4.out n5.below); have B5 := Lib.hid (below_size B4.out n5.below); have OF5 := Lib.hid (OF.out.below n5.below); clear n5)
        | ((with_reducible refine wpList_appRow (R := fun _ => True) (o := ⟨some 38, _, _, _, _, _⟩) rfl (.tmp 32) (.tmp 37) 61 rfl w.heap.size 71 (.agg zeroDW) 2 32 Try.underlying61 Try.infoDW (by decide) (by decide) v3 ps.length (pC ps) (by with_unfolding_all rfl) O5.out (.slice (some ⟨g5, 0, none⟩) 1 1) 1 [Value.int .i64 (j : Int), vf] (by with_unfolding_all rfl) (row_one N5.out) rfl hv1 (by unfold maxLen; omega) (by omega) (Nat.le_trans HB0.out B5.out.size) ?_); intro v6 w6 o6 g6 at6; have G6 := Lib.hid g6; have A6 := Lib.hid at6; have O6 := Lib.hid o6; have R6 : Hid (RowAt w6 g 63 #[vs, vp, .bool a.spend.fused, .int .i64 a.spend.left, .bool a.spend.gone]) := (D2.out.kept B5.out).row.grown g6 (fun e => absurd (V3.out g e.symm).1 (Nat.not_le.2 HH.out.row.lt)); have c6 : w6.cell? ⟨g, 1, none⟩ = some vp := R6.out.cell 1; have z6 : w6.frozen? ⟨g, 1, none⟩ = false := R6.out.frozen 1; clear o6 g6 at6; obtain ⟨A8, m8, c8, rfl⟩ : ∃ A m c, v6 = .slice A m c := own_shape3 O6.out))
      go_ret
      rw [e1.out, e2.out]
      have hg0 := HH.out.row.lt
      have t56 : Turns (fun k => v3.ownBlock = some k) w5 w6 := Turns.of_grown G6.out fun k hk => hk
      have T6 : Turns (fun k => k = g) w w6 := (T2.out.same (Turns.of_below _ B5.out)).trans t56 fun k hk hv => absurd (V3.out k hv).1 (by omega)
      have ts : Turns (fun k => k = g) w6 (w6.setCell ⟨g, 1, none⟩ (.slice A8 m8 c8)) := turns_g (grown_setCell _ _ _ _)
      have T7 := T6.same ts
      have hRg : ∀ k, R k → ¬ k = g := fun k hk e => HH.out.free (e ▸ hk)
      have l6 := World.ownsRow.lt O6.out
      have sz7 : (w6.setCell ⟨g, 1, none⟩ (.slice A8 m8 c8)).heap.size = w6.heap.size := by simp
      have o7 := ts.own O6.out fun k hk e => by have := (l6 k hk).1; omega
      have f6 : Bs (w6.setCell ⟨g, 1, none⟩ (.slice A8 m8 c8)) vf (pad b) := by
        have hlow : w.heap.size ≤ w3.heap.size := Nat.le_trans HB0.out B3.out.size
        refine ts.bs (t56.bs OF5.out.bs fun k hk hv => ?_) fun k hk e => ?_
        · have h1 := OF5.out.rows k hk
          have h2 := (V3.out k hv).2
          omega
        · have h1 := OF5.out.rows k hk
          omega
      have szf : ∀ k, vf.ownBlock = some k → k < w6.heap.size := fun k hk => by
        obtain ⟨cur, hr⟩ := own_typed OF5.out hk
        exact Nat.lt_of_lt_of_le hr.lt t56.size
      have hlow3 : w.heap.size ≤ w3.heap.size := Nat.le_trans HB0.out B3.out.size
      refine ⟨rfl, ⟨vs, .slice A8 m8 c8, ss, ps ++ [(j, pad b, vf)], ⟨R6.out.put 1 _, wide_free HH.out.free hg0, (HH.out.sure.turned T7 hRg).mono fun k hk => .inl hk, ?_, fun x hx => ((HH.out.each x hx).turned T7 hRg).mono fun k hk => .inl hk, fun x hx => ?_, HH.out.isS, ?_⟩⟩, T7⟩
      · rw [pC_snoc]
        exact Row_.of_own o7 (by rw [List.length_append]; rfl) fun k hk => .inr ⟨(l6 k hk).1, by rw [sz7]; exact (l6 k hk).2⟩
      · rcases List.mem_append.1 hx with hx | hx
        · exact ((HH.out.every x hx).turned T7 hRg).mono fun k hk => .inl hk
        · rw [List.mem_singleton.1 hx]
          exact ⟨f6, fun k hk => .inr ⟨Nat.le_trans hlow3 (OF5.out.rows k hk), by rw [sz7]; exact szf k hk⟩⟩
      · show a.pend ++ _ = _
        rw [HH.out.isP, List.map_append]
        rfl
    · simp only [Bool.not_eq_true] at hg
      rw [hg] at e1 e2 H2
      rw [if_neg (by decide)] at e1 e2
      go_enter Try.func12, Try.ntmps12
      go_wp2_with fail
      refine (H2.out w HH.out).mono ?_
      rintro e w2 ⟨rfl, h2, g2⟩
      have D2 := Lib.hid h2
      have T2 := Lib.hid (turns_g g2)
      clear h2 g2
      go_wp2_with fail
      go_ret
      rw [e1.out, e2.out]
      exact D2.out.ret HH.out.row.lt T2.out
  · have hd1 : decide ((ss.length : Int) ≤ i) = true := by simp; omega
    have hi : a.has i = false := by simp [Ab.has]; omega
    have e1 : Hid (a.writeE i b = 60) := by show _ = _; unfold Ab.writeE; rw [if_pos hi]
    have e2 : Hid (a.write i b = a) := by show _ = _; unfold Ab.write; rw [if_pos hi]
    go_enter Try.func12, Try.ntmps12
    go_wp2
    go_ret
    rw [e1.out, e2.out]
    exact HH.out.ret HH.out.row.lt (Turns.refl _ _)
end Go.Proofs.Ytenmgpijhaalbaa
