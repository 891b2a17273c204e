/-
  Texts that belong together, merged: DocC, DocD, DocE, DocF. Conditions: as each theorem names them.
-/
import Derived.Test.YtpgbicbjlhkonaaGreatDoorQVlpAT
section
namespace Go.Proofs.YtpgbicbjlhkonaaGreatDoor
open Go.RowKit
set_option linter.unusedVariables false
set_option maxRecDepth 20000

section
variable {P : Program} {w : World} {R : Nat → Prop}
/-- append of a whole row that is read (nil, empty or not) onto the call's own row. -/
theorem run_appRow (base : Nat) (t ty e : TypeId) (z : Value) (size bytes : Nat) (ht : P.underlying t = some (.slice e)) (hinfo : (P.info? e).map (fun i => (i.zero, i.size, i.bytes)) = some (some z, size, bytes)) (hzs : z.cells.size = size) (hsz : 0 < size)
    (v : Value) (n : Nat) (xs : List Value) (hown : w.ownsRow base e size v n xs) (u : Value) (m : Nat) (cs : List Value) (hu : Row_ w R u m cs) (hl : cs.length = m * size) (h1 : ∀ y ∈ cs, y.oneCell' = true)
    (h63 : n + m ≤ maxLen) (hbytes : (n + m) * bytes ≤ 140737488355328) (hbase : base ≤ w.heap.size) :
    ∃ v' w', (Builtin.append_ #[t, t] ty #[v, u]).run P w = .ok v' w' ∧ w'.ownsRow base e size v' (n + m) (xs ++ cs) ∧ w.grownBy w' v.ownBlock ∧ (v'.ownBlock = v.ownBlock ∨ v'.ownBlock = some w.heap.size) := by
  obtain ⟨i, hi, hz0, hz1, hz2⟩ := info_parts hinfo
  obtain ⟨A, c, rfl, q1, q2, q3⟩ := hu
  rcases Nat.eq_zero_or_pos m with hm | hm
  · subst hm
    obtain rfl : cs = [] := List.eq_nil_of_length_eq_zero (by omega)
    rcases A with _ | ad
    · refine ⟨v, w, ?_, by simpa using hown, World.grownBy.refl w _, .inl rfl⟩
      rcases hown.2 with ⟨rfl, _⟩ | ⟨g, cap, cur, rfl, _, _, hnc, _⟩
      · simp [Builtin.append_, run_underlying ht, sizeOf, typeInfo, hi, Builtin.lenOf, Builtin.firstCells]
      · simp [Builtin.append_, run_underlying ht, sizeOf, typeInfo, hi, Builtin.lenOf, Builtin.firstCells, hnc, storeCells]
    · obtain ⟨v', w', hr, h2, h3, _, h5⟩ := run_append_own_at (P := P) w base t ty e i z size bytes ht hi hz0 hz1 hz2 hzs hsz v n xs hown ad 0 c [] (by simp) (fun j u hj => by simp at hj) (by simp) h63 hbytes hbase
      exact ⟨v', w', hr, h2, h3, h5⟩
  · obtain ⟨b, off, rfl, _, hc⟩ := q3 hm
    obtain ⟨v', w', hr, h2, h3, _, h5⟩ := run_append_own_at (P := P) w base t ty e i z size bytes ht hi hz0 hz1 hz2 hzs hsz v n xs hown ⟨b, off, none⟩ m c cs hl (fun j u hj => by
      have hadd : (⟨b, off, none⟩ : Addr).add j = ⟨b, off + j, none⟩ := by unfold Addr.add; split <;> simp_all
      rw [hadd]
      exact hc j u hj) h1 h63 hbytes hbase
    exact ⟨v', w', hr, h2, h3, h5⟩
theorem wpList_appRow {ops : Array Oper} {rest : List Oper} {o : Oper} {a : Act} {Q : Exit → Act → World → Prop} (hgd : o.guard = none) (s x : Operand) (t : TypeId)
    (ho : o.op = .call { callee := .builtin .append, args := #[s, x], argTypes := #[t, t] })
    (base : Nat) (e : TypeId) (z : Value) (size bytes : Nat) (ht : P.underlying t = some (.slice e)) (hinfo : (P.info? e).map (fun i => (i.zero, i.size, i.bytes)) = some (some z, size, bytes)) (hzs : z.cells.size = size) (hsz : 0 < size)
    (v : Value) (n : Nat) (xs : List Value) (hs : a.eval s = v) (hown : w.ownsRow base e size v n xs) (u : Value) (m : Nat) (cs : List Value) (hx : a.eval x = u) (hu : Row_ w R u m cs) (hl : cs.length = m * size) (h1 : ∀ y ∈ cs, y.oneCell' = true)
    (h63 : n + m ≤ maxLen) (hbytes : (n + m) * bytes ≤ 140737488355328) (hbase : base ≤ w.heap.size)
    (h : ∀ v' w', w'.ownsRow base e size v' (n + m) (xs ++ cs) → w.grownBy w' v.ownBlock → (v'.ownBlock = v.ownBlock ∨ v'.ownBlock = some w.heap.size) → wpList P ops Q rest (a.put o.dst v') w') : wpList P ops Q (o :: rest) a w := by
  refine wpList_plain hgd fun _ hK => ?_
  obtain ⟨v', w', hr, h2, h3, h5⟩ := run_appRow (P := P) (w := w) base t o.type e z size bytes ht hinfo hzs hsz v n xs hown u m cs hu hl h1 h63 hbytes hbase
  unfold Oper.wp execOp
  simp only [ho, resolve, invoke, builtin, Sem.run_bind, Sem.run_pure, Result.andThen_ok, List.map_toArray, List.map_cons, List.map_nil, hs, hx, hr]
  exact hK _ _ (h v' w' h2 h3 h5)
end
/-- A slice of one cell is built. -/
theorem wp_oneCell {P : Program} {w : World} {o : Oper} {a : Act} {K : Act → World → Prop} {Q : Exit → Act → World → Prop} (ty e : TypeId) (x : Operand) (ho : o.op = .buildSlice ty 1 #[(0, x)]) (u : Value) (bytes : Nat) (z : Value) (hx : a.eval x = u) (h1 : u.oneCell' = true)
    (hu : P.underlying ty = some (.slice e)) (hinfo : (P.info? e).map (fun i => (i.zero, i.size, i.bytes)) = some (some z, 1, bytes))
    (h : ∀ g w', NewRow w g e [u].toArray w' → K (a.put o.dst (.slice (some ⟨g, 0, none⟩) 1 1)) w') : o.wp P a w K Q := by
  obtain ⟨ie, hie, hz0, hz1, hz2⟩ := info_parts hinfo
  refine wp_buildSlice ty e 1 _ ho [u].toArray ie z hu hie hz0 (by rw [hz1]; omega) (by rw [hz1]; omega) ?_ (h _ _ (NewRow.mk_ w e _))
  have hp : (#[((0 : Nat), x)].map fun (i, x) => (i, a.eval x)).toList = ([u].zipIdx 0).map fun x => (x.2, x.1) := by simp [hx]
  have hc : u.cells = #[u] := by
    cases u <;> first | rfl | cases h1
  have he : some [u].toArray = some ([u].flatMap fun v => v.cells.toList).toArray := by
    rw [List.flatMap_cons, List.flatMap_nil, List.append_nil, hc]
  rw [hp, hz1, he]
  refine Great.fill_whole (by omega) _ _ (fun v hv => ?_) (by simp)
  obtain rfl : v = u := List.mem_singleton.1 hv
  rw [hc]
  rfl
theorem Bs.oneCell {w : World} {v : Value} {l : List UInt8} (h : Bs w v l) : v.oneCell' = true := by
  obtain ⟨A, c, rfl, _⟩ := h
  rfl
theorem DocIs.bs {w w' : World} {R : Nat → Prop} {g : Nat} {vs vp : Value} {ss : List (List UInt8 × Value)} {ps : List (Nat × List UInt8 × Value)} {a : Ab} (h : DocIs w R g vs vp ss ps a) (hg : w.grownBy w' (some g)) {v : Value} {l : List UInt8} (hb : Bs w v l) : Bs w' v l := by
  obtain ⟨A, c, rfl, h1, h2, h3⟩ := hb
  refine ⟨A, c, rfl, h1, h2, fun hl => ?_⟩
  obtain ⟨b, off, rfl, hc⟩ := h3 hl
  refine ⟨b, off, rfl, fun j hj => ?_⟩
  have hcj := hc j hj
  have hne : b ≠ g := by
    intro e
    subst e
    rw [h.row.cell] at hcj
    obtain ⟨A2, c2, e2, _⟩ := h.pend.shape
    obtain ⟨A3, c3, e3, _⟩ := h.sure.shape
    rw [e2, e3] at hcj
    generalize off + j = m at hcj
    match m, hcj with
    | 0, hcj => simp at hcj
    | 1, hcj => simp at hcj
    | 2, hcj => simp at hcj
    | 3, hcj => simp at hcj
    | 4, hcj => simp at hcj
    | m + 5, hcj => simp at hcj
  exact (World.cell?_of_block (hg.block b (World.block_lt_of_cell? w _ hcj) fun e => hne (Option.some.inj e))).trans hcj
def zeroDW : Array Value := #[.int .i64 0, .slice none 0 0]
theorem Tryz.infoDW : (Tryz.prog.info? 109).map (fun i => (i.zero, i.size, i.bytes)) = some (some (.agg zeroDW), 2, 32) := by kernel_rfl
theorem Tryz.infoSl : (Tryz.prog.info? 38).map (fun i => (i.zero, i.size, i.bytes)) = some (some (.slice none 0 0), 1, 24) := by kernel_rfl
theorem Tryz.builtDW (i : Int) (v : Value) (hv : ∃ A n c, v = .slice A n c) : Tryz.prog.built 109 [(0, .int .i64 i), (1, v)] = some [Value.int .i64 i, v].toArray := by
  obtain ⟨A, n, c, rfl⟩ := hv
  kernel_rfl
theorem pC_one {ps : List (Nat × List UInt8 × Value)} (h : ∀ x ∈ ps, x.2.2.oneCell' = true) : ∀ u ∈ pC ps, u.oneCell' = true := by
  intro u hu
  obtain ⟨l, hl, hu⟩ := List.mem_flatten.1 hu
  obtain ⟨x, hx, rfl⟩ := List.mem_map.1 hl
  rcases List.mem_cons.1 hu with rfl | hu
  · rfl
  · rw [List.mem_singleton.1 hu]; exact h x hx
theorem wide_free {R : Nat → Prop} {w w' : World} {g : Nat} (h : ¬ R g) (hg : g < w.heap.size) : ¬ Wide R w w' g := fun e => e.elim h fun e => by omega
def DocRet (w : World) (R : Nat → Prop) (g : Nat) (a : Ab) (v : Value) (e : Ending) (w' : World) : Prop := e = .returned v ∧ DocIn w' (Wide R w w') g a ∧ Turns (fun k => k = g) w w'
theorem DocIs.widen {w : World} {R R' : Nat → Prop} {g : Nat} {vs vp : Value} {ss : List (List UInt8 × Value)} {ps : List (Nat × List UInt8 × Value)} {a : Ab} (h : DocIs w R g vs vp ss ps a) (hR : ∀ k, R k → R' k) (hg : ¬ R' g) : DocIs w R' g vs vp ss ps a :=
  ⟨h.row, hg, h.sure.mono hR, h.pend.mono hR, fun x hx => (h.each x hx).mono hR, fun x hx => (h.every x hx).mono hR, h.isS, h.isP⟩
theorem DocIs.ret {w w' : World} {R : Nat → Prop} {g : Nat} {vs vp : Value} {ss : List (List UInt8 × Value)} {ps : List (Nat × List UInt8 × Value)} {a : Ab} {v : Value} (hg : g < w.heap.size) (h : DocIs w' R g vs vp ss ps a) (ht : Turns (fun k => k = g) w w') : DocRet w R g a v (.returned v) w' :=
  ⟨rfl, ⟨vs, vp, ss, ps, h.widen (fun k hk => .inl hk) (wide_free h.free hg)⟩, ht⟩
theorem turns_g {w w' : World} {g : Nat} (hg : w.grownBy w' (some g)) : Turns (fun k => k = g) w w' := Turns.of_grown hg fun k hk => (Option.some.inj hk).symm

theorem grown_new {w wa w' : World} (hb : Below w.heap.size w wa) (hg : wa.grownBy w' (some w.heap.size)) : Below w.heap.size w w' :=
  hb.trans ⟨hg.os, hg.tape, hg.output, hg.size, fun k hk => hg.block k (Nat.lt_of_lt_of_le hk hb.size) fun e => by
    have := Option.some.inj e
    omega⟩
theorem row_one {w : World} {R : Nat → Prop} {g : Nat} {t : TypeId} {l : List Value} (h : RowAt w g t l.toArray) (hR : R g := by trivial) : Row_ w R (.slice (some ⟨g, 0, none⟩) 1 1) 1 l :=
  ⟨_, 1, rfl, Nat.le_refl _, by simp [maxLen], fun _ => ⟨g, 0, rfl, hR, fun j u hj => by rw [h.cell, Nat.zero_add]; simpa using hj⟩⟩
theorem own_shape3 {w : World} {base size n : Nat} {e : TypeId} {v : Value} {xs : List Value} (h : w.ownsRow base e size v n xs) : ∃ A m c, v = .slice A m c := by
  rcases h.2 with ⟨rfl, _⟩ | ⟨g, cap, cur, rfl, _⟩
  · exact ⟨_, _, _, rfl⟩
  · exact ⟨_, _, _, rfl⟩
set_option maxHeartbeats 2000000 in
theorem docWrite_any (w : World) (R : Nat → Prop) (g : Nat) (vs vp : Value) (ss : List (List UInt8 × Value)) (ps : List (Nat × List UInt8 × Value)) (a : Ab) (h : DocIs w R g vs vp ss ps a) (i : Int) (vb : Value) (b : List UInt8) (hb : Bs w vb b) (hp : ps.length ≤ 1000000) (hs : ss.length ≤ 1000000)
    (hl : -9223372036854775808 ≤ a.left ∧ a.left ≤ 9223372036854775807) (hf : a.goes = true → a.fused = true → 0 ≤ a.left) :
    Calls Tryz.prog 20 #[.pointer (some ⟨g, 0, none⟩), .int .i64 i, vb] w (DocRet w R g (a.write i b) (.int .i64 (a.writeE i b))) := by
  have H2 : Hid (∀ w, DocIs w R g vs vp ss ps a → Calls Tryz.prog 52 #[.pointer (some ⟨g, 0, none⟩)] w fun e w' => e = .returned (.bool a.goes) ∧ DocIs w' R g vs vp ss ps a.spend ∧ w.grownBy w' (some g)) := fun w h => docDone_any w R g vs vp ss ps a h hl hf
  have HH := Lib.hid h
  have HB := Lib.hid hb
  obtain ⟨A, c, rfl, hb1, hb2, _⟩ := hb
  obtain ⟨sA, sc, hvs, _⟩ := h.sure.shape
  have c0 := h.cell 0 _ rfl
  rw [hvs] at c0
  have hls := h.lenS
  clear h hl hf
  by_cases h0 : i < 0
  · have hd : decide (i < 0) = true := decide_eq_true h0
    have hi : a.has i = false := by unfold Ab.has; rw [decide_eq_false (by omega)]; rfl
    have e1 : Hid (a.writeE i b = 60) := by show _ = _; unfold Ab.writeE; rw [if_pos hi]
    have e2 : Hid (a.write i b = a) := by show _ = _; unfold Ab.write; rw [if_pos hi]
    go_enter Tryz.func20, Tryz.ntmps20
    go_wp2
    go_ret
    rw [e1.out, e2.out]
    exact HH.out.ret HH.out.row.lt (Turns.refl _ _)
  have hd0 : decide (i < 0) = false := decide_eq_false h0
  by_cases hn : i < (ss.length : Int)
  · obtain ⟨j, rfl⟩ : ∃ j : Nat, i = (j : Int) := ⟨i.toNat, by omega⟩
    have hj : j < ss.length := by omega
    have hd1 : decide ((ss.length : Int) ≤ (j : Int)) = false := by simp; omega
    have hi : a.has j = true := by unfold Ab.has; rw [decide_eq_true (by omega), decide_eq_true (by omega)]; rfl
    have e1 : Hid (a.writeE j b = if 256 < b.length then 2 else if a.goes then 0 else 61) := by show _ = _; unfold Ab.writeE; rw [hi]; rfl
    have e2 : Hid (a.write j b = if 256 < b.length then a else if a.goes then { a.spend with pend := a.pend ++ [(j, pad b)] } else a.spend) := by show _ = _; unfold Ab.write; rw [hi]; rfl
    clear hi
    by_cases hbl : 256 < b.length
    · have hd2 : decide ((256 : Int) < (b.length : Int)) = true := by simp; omega
      rw [if_pos hbl] at e1 e2
      go_enter Tryz.func20, Tryz.ntmps20
      go_wp2
      go_ret
      rw [e1.out, e2.out]
      exact HH.out.ret HH.out.row.lt (Turns.refl _ _)
    have hd2 : decide ((256 : Int) < (b.length : Int)) = false := by simp; omega
    rw [if_neg hbl] at e1 e2
    by_cases hg : a.goes = true
    · rw [hg] at e1 e2 H2
      rw [if_pos rfl] at e1 e2
      go_enter Tryz.func20, Tryz.ntmps20
      go_wp2_with fail
      refine (H2.out w HH.out).mono ?_
      rintro e w2 ⟨rfl, h2, g2⟩
      have D2 := Lib.hid h2
      have T2 := Lib.hid (turns_g g2)
      have B2 := Lib.hid (HH.out.bs g2 HB.out)
      have HB0 : Hid (w.heap.size ≤ w2.heap.size) := g2.size
      have c1 : w2.cell? ⟨g, 1, none⟩ = some vp := h2.cell 1 _ rfl
      have hlt := h2.row.lt
      have c1' := (new_below w2 (.cells #[] 109)).cell (p := ⟨g, 1, none⟩) hlt
      rw [c1] at c1'
      have E : Hid ((w2.alloc (.cells #[] 109)).ownsRow w.heap.size 109 2 (.slice (some ⟨w2.heap.size, 0, none⟩) 0 0) 0 []) := World.ownsRow_lit (base := w.heap.size) (e := 109) (size := 2) w2 #[] 0 g2.size (by simp [maxLen]) rfl
      have NB := Lib.hid (new_below w2 (.cells #[] 109))
      have PO : Hid (∀ u ∈ pC ps, u.oneCell' = true) := pC_one fun x hx => (HH.out.every x hx).1.oneCell
      clear h2 g2 c0 H2 hlt
      go_wp2_with (first
        | ((with_reducible refine wpList_appRow (o := ⟨some 32, _, _, _, _, _⟩) rfl (.tmp 27) (.tmp 31) 66 rfl w.heap.size 109 (.agg zeroDW) 2 32 Tryz.underlying66 Tryz.infoDW (by decide) (by decide) (.slice (some ⟨w2.heap.size, 0, none⟩) 0 0) 0 [] (by with_unfolding_all rfl) E.out vp ps.length (pC ps) (by with_unfolding_all rfl) (by with_unfolding_all exact (D2.out.kept NB.out).pend) pC_length PO.out (by unfold maxLen; omega) (by omega) (Nat.le_trans HB0.out NB.out.size) ?_); intro v3 w3 o3 g3 at3))
      have b3 := grown_new NB.out g3
      have B3 := Lib.hid b3
      have O3 : Hid (w3.ownsRow w.heap.size 109 2 v3 ps.length (pC ps)) := by
        have := o3
        rw [Nat.zero_add, List.nil_append] at this
        exact this
      have V3 := Lib.hid (World.ownsRow.lt O3.out)
      clear o3 g3 at3 E NB c1 c1' PO
      refine (full_any w3 _ b (B2.out.below B3.out) (by omega)).mono ?_
      rintro e w4 ⟨vf, rfl, of, b4⟩
      have O4 := Lib.hid (own_kept O3.out b4)
      have B4 := Lib.hid (below_size B3.out b4)
      have OF := Lib.hid of
      have hvf : ∃ A n c, vf = .slice A n c := by
        obtain ⟨A, c, h⟩ := of.bs.shape2
        exact ⟨_, _, _, h⟩
      have hv1 : ∀ u ∈ [Value.int .i64 (j : Int), vf], u.oneCell' = true := by
        intro u hu
        rcases List.mem_cons.1 hu with rfl | hu
        · rfl
        · rw [List.mem_singleton.1 hu]; exact of.bs.oneCell
      clear b3 b4 of O3
      go_wp2_with (first
        | (with_reducible refine wpList_val (o := ⟨some 36, _, _, _, _, _⟩) rfl (.agg [Value.int .i64 (j : Int), vf].toArray) (by exact run_builtOp 109 #[(0, .tmp 33), (1, .tmp 35)] rfl _ (by with_unfolding_all exact Tryz.builtDW _ _ hvf)) ?_)
        | ((with_reducible refine wpList_oneRow (o := ⟨some 37, _, _, _, _, _⟩) rfl 66 109 (.tmp 36) rfl [Value.int .i64 (j : Int), vf] 2 32 (.agg zeroDW) (by with_unfolding_all rfl) rfl (by decide) (by decide) Tryz.underlying66 Tryz.infoDW ?_); intro g5 w5 n5; have N5 := Lib.hid n5.row; have O5 := Lib.hid (own_kept O4.out n5.below); have B5 := Lib.hid (below_size B4.out n5.below); have OF5 := Lib.hid (OF.out.below n5.below); clear n5)
        | ((with_reducible refine wpList_appRow (R := fun _ => True) (o := ⟨some 38, _, _, _, _, _⟩) rfl (.tmp 32) (.tmp 37) 66 rfl w.heap.size 109 (.agg zeroDW) 2 32 Tryz.underlying66 Tryz.infoDW (by decide) (by decide) v3 ps.length (pC ps) (by with_unfolding_all rfl) O5.out (.slice (some ⟨g5, 0, none⟩) 1 1) 1 [Value.int .i64 (j : Int), vf] (by with_unfolding_all rfl) (row_one N5.out) rfl hv1 (by unfold maxLen; omega) (by omega) (Nat.le_trans HB0.out B5.out.size) ?_); intro v6 w6 o6 g6 at6; have G6 := Lib.hid g6; have A6 := Lib.hid at6; have O6 := Lib.hid o6; have R6 : Hid (RowAt w6 g 68 #[vs, vp, .bool a.spend.fused, .int .i64 a.spend.left, .bool a.spend.gone]) := (D2.out.kept B5.out).row.grown g6 (fun e => absurd (V3.out g e.symm).1 (Nat.not_le.2 HH.out.row.lt)); have c6 : w6.cell? ⟨g, 1, none⟩ = some vp := R6.out.cell 1; have z6 : w6.frozen? ⟨g, 1, none⟩ = false := R6.out.frozen 1; clear o6 g6 at6; obtain ⟨A8, m8, c8, rfl⟩ : ∃ A m c, v6 = .slice A m c := own_shape3 O6.out))
      go_ret
      rw [e1.out, e2.out]
      have hg0 := HH.out.row.lt
      have t56 : Turns (fun k => v3.ownBlock = some k) w5 w6 := Turns.of_grown G6.out fun k hk => hk
      have T6 : Turns (fun k => k = g) w w6 := (T2.out.same (Turns.of_below _ B5.out)).trans t56 fun k hk hv => absurd (V3.out k hv).1 (by omega)
      have ts : Turns (fun k => k = g) w6 (w6.setCell ⟨g, 1, none⟩ (.slice A8 m8 c8)) := turns_g (grown_setCell _ _ _ _)
      have T7 := T6.same ts
      have hRg : ∀ k, R k → ¬ k = g := fun k hk e => HH.out.free (e ▸ hk)
      have l6 := World.ownsRow.lt O6.out
      have sz7 : (w6.setCell ⟨g, 1, none⟩ (.slice A8 m8 c8)).heap.size = w6.heap.size := by simp
      have o7 := ts.own O6.out fun k hk e => by have := (l6 k hk).1; omega
      have f6 : Bs (w6.setCell ⟨g, 1, none⟩ (.slice A8 m8 c8)) vf (pad b) := by
        have hlow : w.heap.size ≤ w3.heap.size := Nat.le_trans HB0.out B3.out.size
        refine ts.bs (t56.bs OF5.out.bs fun k hk hv => ?_) fun k hk e => ?_
        · have h1 := OF5.out.rows k hk
          have h2 := (V3.out k hv).2
          omega
        · have h1 := OF5.out.rows k hk
          omega
      have szf : ∀ k, vf.ownBlock = some k → k < w6.heap.size := fun k hk => by
        obtain ⟨cur, hr⟩ := own_typed OF5.out hk
        exact Nat.lt_of_lt_of_le hr.lt t56.size
      have hlow3 : w.heap.size ≤ w3.heap.size := Nat.le_trans HB0.out B3.out.size
      refine ⟨rfl, ⟨vs, .slice A8 m8 c8, ss, ps ++ [(j, pad b, vf)], ⟨R6.out.put 1 _, wide_free HH.out.free hg0, (HH.out.sure.turned T7 hRg).mono fun k hk => .inl hk, ?_, fun x hx => ((HH.out.each x hx).turned T7 hRg).mono fun k hk => .inl hk, fun x hx => ?_, HH.out.isS, ?_⟩⟩, T7⟩
      · rw [pC_snoc]
        exact Row_.of_own o7 (by rw [List.length_append]; rfl) fun k hk => .inr ⟨(l6 k hk).1, by rw [sz7]; exact (l6 k hk).2⟩
      · rcases List.mem_append.1 hx with hx | hx
        · exact ((HH.out.every x hx).turned T7 hRg).mono fun k hk => .inl hk
        · rw [List.mem_singleton.1 hx]
          exact ⟨f6, fun k hk => .inr ⟨Nat.le_trans hlow3 (OF5.out.rows k hk), by rw [sz7]; exact szf k hk⟩⟩
      · show a.pend ++ _ = _
        rw [HH.out.isP, List.map_append]
        rfl
    · simp only [Bool.not_eq_true] at hg
      rw [hg] at e1 e2 H2
      rw [if_neg (by decide)] at e1 e2
      go_enter Tryz.func20, Tryz.ntmps20
      go_wp2_with fail
      refine (H2.out w HH.out).mono ?_
      rintro e w2 ⟨rfl, h2, g2⟩
      have D2 := Lib.hid h2
      have T2 := Lib.hid (turns_g g2)
      clear h2 g2
      go_wp2_with fail
      go_ret
      rw [e1.out, e2.out]
      exact D2.out.ret HH.out.row.lt T2.out
  · have hd1 : decide ((ss.length : Int) ≤ i) = true := by simp; omega
    have hi : a.has i = false := by simp [Ab.has]; omega
    have e1 : Hid (a.writeE i b = 60) := by show _ = _; unfold Ab.writeE; rw [if_pos hi]
    have e2 : Hid (a.write i b = a) := by show _ = _; unfold Ab.write; rw [if_pos hi]
    go_enter Tryz.func20, Tryz.ntmps20
    go_wp2
    go_ret
    rw [e1.out, e2.out]
    exact HH.out.ret HH.out.row.lt (Turns.refl _ _)
end Go.Proofs.YtpgbicbjlhkonaaGreatDoor
end
section
namespace Go.Proofs.YtpgbicbjlhkonaaGreatDoor
open Go.RowKit
set_option linter.unusedVariables false
set_option maxRecDepth 20000

def Ab.kept (a : Ab) (f : Nat → Bool) : Ab := { a with sure := doneTo f a.pend a.sure a.pend.length, pend := [] }
theorem Row_.at_ {w : World} {R : Nat → Prop} {A : Option Addr} {n m c : Nat} {cs : List Value} (h : Row_ w R (.slice A n c) m cs) (hm : 0 < m) : ∃ b off, A = some ⟨b, off, none⟩ ∧ R b ∧ w.rangeAt b off cs := by
  obtain ⟨A', c', hv, _, _, h3⟩ := h
  injection hv with e1 _ _
  obtain ⟨b, off, hA, hR, hc⟩ := h3 hm
  exact ⟨b, off, e1.trans hA, hR, hc⟩

set_option maxHeartbeats 4000000 in
theorem docKeep_any (w : World) (R : Nat → Prop) (g : Nat) (vs vp : Value) (ss : List (List UInt8 × Value)) (ps : List (Nat × List UInt8 × Value)) (a : Ab) (h : DocIs w R g vs vp ss ps a) (all : Bool) (vk : Value) (keep : List Bool) (hk : Bls w vk keep) (hp : ps.length ≤ 1000000) (hs : ss.length ≤ 1000000) (hpi : ∀ x ∈ ps, x.1 < ss.length) :
    Calls Tryz.prog 46 #[.pointer (some ⟨g, 0, none⟩), .bool all, vk] w (DocRet w R g (a.kept fun k => all || keep.getD k false) (.tuple #[])) := by
  have HH := Lib.hid h
  have HK := Lib.hid hk
  obtain ⟨kA, kc, rfl, k1, k2, _⟩ := hk
  obtain ⟨pA, pc, hvp, _⟩ := h.pend.shape
  have HV := Lib.hid hvp
  clear hvp
  have c0 := h.cell 0 _ rfl
  have c0' := (new_below w (.cells #[] 38)).cell (p := ⟨g, 0, none⟩) h.row.lt
  rw [c0] at c0'
  have E : Hid ((w.alloc (.cells #[] 38)).ownsRow w.heap.size 38 1 (.slice (some ⟨w.heap.size, 0, none⟩) 0 0) 0 []) := World.ownsRow_lit (base := w.heap.size) (e := 38) (size := 1) w #[] 0 (Nat.le_refl _) (by simp [maxLen]) rfl
  have NB := Lib.hid (new_below w (.cells #[] 38))
  have SO : Hid (∀ u ∈ ss.map (·.2), u.oneCell' = true) := fun u hu => by
    obtain ⟨x, hx, rfl⟩ := List.mem_map.1 hu
    exact (HH.out.each x hx).1.oneCell
  have hkm : keep.length ≤ maxLen := Nat.le_trans k1 k2
  unfold maxLen at hkm
  clear h c0
  go_enter Tryz.func46, Tryz.ntmps46
  go_wp2_with (first
    | ((with_reducible refine wpList_appRow (o := ⟨some 13, _, _, _, _, _⟩) rfl (.tmp 8) (.tmp 12) 34 rfl w.heap.size 38 (.slice none 0 0) 1 24 Tryz.underlying34 Tryz.infoSl (by decide) (by decide) (.slice (some ⟨w.heap.size, 0, none⟩) 0 0) 0 [] (by with_unfolding_all rfl) E.out vs ss.length (ss.map (·.2)) (by with_unfolding_all rfl) (by with_unfolding_all exact (HH.out.kept NB.out).sure) (by rw [List.length_map, Nat.mul_one]) SO.out (by unfold maxLen; omega) (by omega) NB.out.size ?_); intro v3 w3 o3 g3 at3))
  have B3 := Lib.hid (grown_new NB.out g3)
  have O3 : Hid (w3.ownsRow w.heap.size 38 1 v3 ss.length (ss.map (·.2))) := by
    have := o3
    rw [Nat.zero_add, List.nil_append] at this
    exact this
  clear o3 g3 at3 E NB c0' SO
  go_loopw [7] (fun u wr => ∃ (k : Nat) (sk : List (List UInt8 × Value)), k ≤ ps.length ∧ u = .int .i64 (k : Int) ∧ Hid (wr.ownsRow w.heap.size 38 1 v3 ss.length (sk.map (·.2))) ∧ Hid (sk.map (·.1) = doneTo (fun k => all || keep.getD k false) a.pend a.sure k) ∧ Hid (∀ x ∈ sk, InR w R x.2 x.1) ∧ Hid (Below w.heap.size w wr)) (fun u _ => ps.length - (intOf u).toNat)
  case atStart => exact ⟨0, ss, by omega, rfl, O3.out, HH.out.isS.symm, HH.out.each, B3.out⟩
  case round =>
    obtain ⟨k, sk, hkl, rfl, HO, HS, HE, HB⟩ := hrel
    clear O3 B3
    have hg0 := HH.out.row.lt
    have c1 : wr.cell? ⟨g, 1, none⟩ = some vp := (HB.out.cell (p := ⟨g, 1, none⟩) hg0).trans (HH.out.cell 1 _ rfl)
    rw [HV.out] at c1
    by_cases hlt : k < ps.length
    · have hd1 : decide ((k : Int) < (ps.length : Int)) = true := by simp; omega
      obtain ⟨x, hx⟩ : ∃ x, ps[k]? = some x := ⟨_, List.getElem?_eq_getElem hlt⟩
      obtain ⟨at_, b, u⟩ := x
      have hat : at_ < ss.length := hpi _ (List.mem_of_getElem? hx)
      have HU : Hid (InR w R u b) := HH.out.every _ (List.mem_of_getElem? hx)
      have HX : Hid (a.pend[k]? = some (at_, b)) := by show _ = _; rw [HH.out.isP, List.getElem?_map, hx]; rfl
      have hpr := HH.out.pend
      rw [HV.out] at hpr
      obtain ⟨pb, po, rfl, _, hrng⟩ := hpr.at_ (by omega)
      have hg2 := pC_get hx
      have ca0 := hrng (k * 2) _ hg2.1
      have cu0 := hrng (k * 2 + 1) _ hg2.2
      have ca := (HB.out.cell (p := ⟨pb, po + k * 2, none⟩) (World.block_lt_of_cell? w _ ca0)).trans ca0
      have cu := (HB.out.cell (p := ⟨pb, po + (k * 2 + 1), none⟩) (World.block_lt_of_cell? w _ cu0)).trans cu0
      rw [← Nat.add_assoc] at cu
      obtain ⟨gn, cn, rfl, hgn, _⟩ := own_some2 HO.out (by omega)
      have HG := Lib.hid hgn
      obtain ⟨uA, uc, hu⟩ := HU.out.1.shape2
      obtain ⟨un, hun⟩ : ∃ un, un = b.length := ⟨_, rfl⟩
      rw [← hun] at hu
      clear hun
      subst hu
      have hlk : (sk.map (·.2)).length = ss.length := by have := HO.out.1; omega
      obtain ⟨old, hold⟩ : ∃ old, (sk.map (·.2))[at_]? = some old := ⟨_, List.getElem?_eq_getElem (by omega)⟩
      have CO : Hid (wr.cell? ⟨gn, at_, none⟩ = some old) := (HO.out.cellAt at_ (by omega)).trans hold
      have ZO : Hid (wr.frozen? ⟨gn, at_, none⟩ = false) := by
        obtain ⟨cur, hr, _⟩ := own_at HO.out
        exact hr.frozen at_
      have ES0 : doneTo (fun k => all || keep.getD k false) a.pend a.sure (k + 1) = if (all || keep.getD k false) then (doneTo (fun k => all || keep.getD k false) a.pend a.sure k).set at_ b else doneTo (fun k => all || keep.getD k false) a.pend a.sure k := doneTo_step _ _ _ k _ HX.out
      have hlt2 : (k : Int) < (ps.length : Int) := by omega
      have hat2 : (at_ : Int) < (ss.length : Int) := by omega
      clear hpr hrng hg2 ca0 cu0 hold hx HX hgn
      rcases all with _ | _
      · by_cases hkk : k < keep.length
        · obtain ⟨kb, ko, rfl, hc⟩ := HK.out.at_ k hkk
          have CK := (HB.out.cell (p := ⟨kb, ko + k, none⟩) (World.block_lt_of_cell? w _ hc)).trans hc
          have hgd : keep.getD k false = keep[k] := by rw [List.getD_eq_getElem?_getD, List.getElem?_eq_getElem hkk]; rfl
          rw [hgd, Bool.false_or] at ES0
          have hkk2 : (k : Int) < (keep.length : Int) := by omega
          clear hc hgd
          generalize keep[k] = y at CK ES0
          rcases y with _ | _
          · rw [if_neg (by decide)] at ES0
            have ES := Lib.hid ES0
            clear ES0
            go_wp2_with fail
            refine ⟨⟨k + 1, sk, by omega, by congr 1, HO, ?_, HE, HB⟩, ?_⟩
            · rw [ES.out]; exact HS
            · show ps.length - ((k : Int) + 1).toNat < ps.length - (k : Int).toNat
              omega
          · rw [if_pos rfl] at ES0
            have ES := Lib.hid ES0
            clear ES0
            go_wp2_with fail
            go_still_tail 18, (by kernel_rfl)
            change wpList _ _ _ _ _ wr.drew
            clear c1 ca cu CK
            have co : wr.drew.cell? ⟨gn, at_, none⟩ = some old := CO.out
            have zo : wr.drew.frozen? ⟨gn, at_, none⟩ = false := ZO.out
            go_wp2_with fail
            have hst := World.ownsRow.stored (own_kept HO.out (Below.refl _ wr).drew) at_ (.slice uA un uc)
            refine ⟨⟨k + 1, sk.set at_ (b, .slice uA un uc), by omega, by congr 1, ?_, ?_, ?_, ?_⟩, ?_⟩
            · show World.ownsRow _ _ _ _ _ _ _
              rw [List.map_set]; exact hst.1
            · rw [ES.out, ← HS.out, List.map_set]; rfl
            · intro y hy
              rcases List.mem_or_eq_of_mem_set hy with hy | rfl
              · exact HE.out y hy
              · exact HU.out
            · exact (HB.out.drew).setCell (Nat.le_trans (Nat.le_refl _) HG.out) _
            · show ps.length - ((k : Int) + 1).toNat < ps.length - (k : Int).toNat
              omega
        · have hkk2 : decide ((k : Int) < (keep.length : Int)) = false := by simp; omega
          have hgd : keep.getD k false = false := by rw [List.getD_eq_getElem?_getD, List.getElem?_eq_none (by omega)]; rfl
          rw [hgd, Bool.false_or, if_neg (by decide)] at ES0
          have ES := Lib.hid ES0
          clear ES0 hgd
          go_wp2_with fail
          refine ⟨⟨k + 1, sk, by omega, by congr 1, HO, ?_, HE, HB⟩, ?_⟩
          · rw [ES.out]; exact HS
          · show ps.length - ((k : Int) + 1).toNat < ps.length - (k : Int).toNat
            omega
      · rw [Bool.true_or, if_pos rfl] at ES0
        have ES := Lib.hid ES0
        have CK : True := trivial
        clear ES0
        go_wp2_with fail
        go_still_tail 18, (by kernel_rfl)
        change wpList _ _ _ _ _ wr.drew
        clear c1 ca cu CK
        have co : wr.drew.cell? ⟨gn, at_, none⟩ = some old := CO.out
        have zo : wr.drew.frozen? ⟨gn, at_, none⟩ = false := ZO.out
        go_wp2_with fail
        have hst := World.ownsRow.stored (own_kept HO.out (Below.refl _ wr).drew) at_ (.slice uA un uc)
        refine ⟨⟨k + 1, sk.set at_ (b, .slice uA un uc), by omega, by congr 1, ?_, ?_, ?_, ?_⟩, ?_⟩
        · show World.ownsRow _ _ _ _ _ _ _
          rw [List.map_set]; exact hst.1
        · rw [ES.out, ← HS.out, List.map_set]; rfl
        · intro y hy
          rcases List.mem_or_eq_of_mem_set hy with hy | rfl
          · exact HE.out y hy
          · exact HU.out
        · exact (HB.out.drew).setCell (Nat.le_trans (Nat.le_refl _) HG.out) _
        · show ps.length - ((k : Int) + 1).toNat < ps.length - (k : Int).toNat
          omega
    · have hk2 : k = ps.length := by omega
      subst hk2
      have hd1 : decide ((ps.length : Int) < (ps.length : Int)) = false := by simp
      have c0 : wr.cell? ⟨g, 0, none⟩ = some vs := (HB.out.cell (p := ⟨g, 0, none⟩) hg0).trans (HH.out.cell 0 _ rfl)
      have HR : Hid (RowAt wr g 68 #[vs, vp, .bool a.fused, .int .i64 a.left, .bool a.gone]) := HH.out.row.kept HB.out
      have z0 := HR.out.frozen 0
      have z1 := HR.out.frozen 1
      obtain ⟨A8, m8, c8, rfl⟩ : ∃ A m c, v3 = .slice A m c := own_shape3 HO.out
      go_wp2_with fail
      go_end0
      have t01 := turns_g ((grown_setCell wr g 0 (.slice A8 m8 c8)).trans (grown_setCell _ g 1 (.slice none 0 0)))
      have T := (Turns.of_below (fun k => k = g) HB.out).same t01
      have hRg : ∀ k, R k → ¬ k = g := fun k hk e => HH.out.free (e ▸ hk)
      have l6 := World.ownsRow.lt HO.out
      have hls : ss.length = sk.length := by
        have h1 := congrArg List.length HS.out
        rw [List.length_map, doneTo_length, HH.out.lenS] at h1
        exact h1.symm
      refine ⟨rfl, ⟨.slice A8 m8 c8, .slice none 0 0, sk, [], ⟨(HR.out.put 0 _).put 1 _, wide_free HH.out.free hg0, Row_.of_own (t01.own HO.out fun k hk e => by have := (l6 k hk).1; omega) hls fun k hk => .inr ⟨(l6 k hk).1, by have := (l6 k hk).2; simpa using this⟩, Row_.nil _ _, fun x hx => ((HE.out x hx).turned T hRg).mono fun k hk => .inl hk, fun x hx => (nomatch hx), ?_, rfl⟩⟩, T⟩
      show doneTo _ a.pend a.sure a.pend.length = _
      rw [HH.out.lenP]
      exact HS.out.symm
end Go.Proofs.YtpgbicbjlhkonaaGreatDoor
end
section
namespace Go.Proofs.YtpgbicbjlhkonaaGreatDoor
open Go.RowKit
set_option linter.unusedVariables false
set_option maxRecDepth 20000

theorem Wide.from {R : Nat → Prop} {w w1 w2 : World} (h : w.heap.size ≤ w1.heap.size) {k : Nat} (hk : Wide R w1 w2 k) : Wide R w w2 k := hk.imp id fun h2 => ⟨Nat.le_trans h h2.1, h2.2⟩
theorem DocIn.widen {w : World} {R R' : Nat → Prop} {g : Nat} {a : Ab} (h : DocIn w R g a) (hR : ∀ k, R k → R' k) (hg : ¬ R' g) : DocIn w R' g a := by
  obtain ⟨vs, vp, ss, ps, h⟩ := h
  exact ⟨vs, vp, ss, ps, h.widen hR hg⟩
theorem Tryz.builtDoc (u v : Value) (hu : ∃ A n c, u = .slice A n c) (hv : ∃ A n c, v = .slice A n c) (f : Bool) (l : Int) (b : Bool) : Tryz.prog.built 68 [(0, u), (1, v), (2, .bool f), (3, .int .i64 l), (4, .bool b)] = some #[u, v, .bool f, .int .i64 l, .bool b] := by
  obtain ⟨A, n, c, rfl⟩ := hu
  obtain ⟨A2, n2, c2, rfl⟩ := hv
  kernel_rfl
section
variable (w : World) (R : Nat → Prop) (g : Nat) (vs vp : Value) (ss : List (List UInt8 × Value)) (ps : List (Nat × List UInt8 × Value)) (a : Ab)
set_option maxHeartbeats 1000000 in
theorem docSync_any (h : DocIs w R g vs vp ss ps a) (hp : ps.length ≤ 1000000) (hs : ss.length ≤ 1000000) (hpi : ∀ x ∈ ps, x.1 < ss.length)
    (hl : -9223372036854775808 ≤ a.left ∧ a.left ≤ 9223372036854775807) (hf : a.goes = true → a.fused = true → 0 ≤ a.left) :
    Calls Tryz.prog 44 #[.pointer (some ⟨g, 0, none⟩)] w (DocRet w R g a.sync (.int .i64 a.syncE)) := by
  have H2 : Hid (∀ w, DocIs w R g vs vp ss ps a → Calls Tryz.prog 52 #[.pointer (some ⟨g, 0, none⟩)] w fun e w' => e = .returned (.bool a.goes) ∧ DocIs w' R g vs vp ss ps a.spend ∧ w.grownBy w' (some g)) := fun w h => docDone_any w R g vs vp ss ps a h hl hf
  have H3 : Hid (∀ w, DocIs w R g vs vp ss ps a.spend → Calls Tryz.prog 46 #[.pointer (some ⟨g, 0, none⟩), .bool true, .slice none 0 0] w (DocRet w R g (a.spend.kept fun k => true || [].getD k false) (.tuple #[]))) := fun w h => docKeep_any w R g vs vp ss ps a.spend h true _ [] (Bls.nil w) hp hs hpi
  have HH := Lib.hid h
  clear h
  by_cases hg : a.goes = true
  · have e1 : Hid (a.syncE = 0) := by show _ = _; unfold Ab.syncE; rw [if_pos hg]
    have e2 : Hid (a.sync = a.spend.kept fun k => true || [].getD k false) := by
      show _ = _
      unfold Ab.sync
      rw [if_pos hg]
      simp only [Bool.true_or]
      rfl
    rw [hg] at H2
    go_enter Tryz.func44, Tryz.ntmps44
    go_wp2_with fail
    refine (H2.out w HH.out).mono ?_
    rintro e w1 ⟨rfl, h1, g1⟩
    have D1 := Lib.hid h1
    have G1 := Lib.hid g1
    clear h1 g1
    go_wp2_with fail
    refine (H3.out w1 D1.out).mono ?_
    rintro e w2 ⟨rfl, h2, t2⟩
    have D2 := Lib.hid h2
    have T2 := Lib.hid t2
    clear h2 t2
    go_wp2
    go_ret
    rw [e1.out, e2.out]
    exact ⟨rfl, D2.out.widen (fun k hk => hk.from G1.out.size) (wide_free HH.out.free HH.out.row.lt), (turns_g G1.out).same T2.out⟩
  · simp only [Bool.not_eq_true] at hg
    have e1 : Hid (a.syncE = 61) := by show _ = _; unfold Ab.syncE; rw [hg]; rfl
    have e2 : Hid (a.sync = a.spend) := by show _ = _; unfold Ab.sync; rw [hg]; rfl
    rw [hg] at H2
    go_enter Tryz.func44, Tryz.ntmps44
    go_wp2_with fail
    refine (H2.out w HH.out).mono ?_
    rintro e w1 ⟨rfl, h1, g1⟩
    have D1 := Lib.hid h1
    have G1 := Lib.hid g1
    clear h1 g1
    go_wp2
    go_ret
    rw [e1.out, e2.out]
    exact D1.out.ret HH.out.row.lt (turns_g G1.out)
set_option maxHeartbeats 1000000 in
theorem docCrash_any (h : DocIs w R g vs vp ss ps a) (vk : Value) (keep : List Bool) (hk : Bls w vk keep) (hp : ps.length ≤ 1000000) (hs : ss.length ≤ 1000000) (hpi : ∀ x ∈ ps, x.1 < ss.length) :
    Calls Tryz.prog 13 #[.pointer (some ⟨g, 0, none⟩), vk] w (DocRet w R g (a.crash keep) (.tuple #[])) := by
  have H3 : Hid (Calls Tryz.prog 46 #[.pointer (some ⟨g, 0, none⟩), .bool false, vk] w (DocRet w R g (a.kept fun k => false || keep.getD k false) (.tuple #[]))) := docKeep_any w R g vs vp ss ps a h false _ keep hk hp hs hpi
  have HH := Lib.hid h
  clear h hk
  go_enter Tryz.func13, Tryz.ntmps13
  go_wp2_with fail
  refine H3.out.mono ?_
  rintro e w2 ⟨rfl, ⟨vs2, vp2, ss2, ps2, h2⟩, t2⟩
  have D2 := Lib.hid h2
  have T2 := Lib.hid t2
  have c2 : w2.cell? ⟨g, 2, none⟩ = some (.bool a.fused) := h2.cell 2 _ rfl
  have c4 : w2.cell? ⟨g, 4, none⟩ = some (.bool a.gone) := h2.cell 4 _ rfl
  have z2 := h2.row.frozen 2
  have z4 := h2.row.frozen 4
  clear h2 t2 H3
  go_wp2
  go_end0
  have gg := (grown_setCell w2 g 2 (.bool false)).trans (grown_setCell _ g 4 (.bool false))
  have hsz : ((w2.setCell ⟨g, 2, none⟩ (.bool false)).setCell ⟨g, 4, none⟩ (.bool false)).heap.size = w2.heap.size := by simp
  have D3 := D2.out.rowed gg (a' := a.crash keep) ((D2.out.row.put 2 _).put 4 _) (by simp only [Bool.false_or]; rfl) rfl
  exact ⟨rfl, ⟨_, _, _, _, D3.widen (fun k hk => hk.imp id fun h => ⟨h.1, by rw [hsz]; exact h.2⟩) (wide_free HH.out.free HH.out.row.lt)⟩, T2.out.same (turns_g gg)⟩
set_option maxHeartbeats 1000000 in
theorem docRead_none (h : DocIs w R g vs vp ss ps a) (i : Int) (hi : i < 0 ∨ (a.sure.length : Int) ≤ i) :
    Calls Tryz.prog 27 #[.pointer (some ⟨g, 0, none⟩), .int .i64 i] w (RetV w (.tuple #[.slice none 0 0, .int .i64 60])) := by
  obtain ⟨sA, sc, hvs, _⟩ := h.sure.shape
  have c0 := h.cell 0 _ rfl
  rw [hvs, ← h.lenS] at c0
  clear hvs h
  by_cases h0 : i < 0
  · have hd : decide (i < 0) = true := decide_eq_true h0
    go_enter Tryz.func27, Tryz.ntmps27
    go_wp2
    go_ret2
    exact ⟨rfl, Below.refl _ _⟩
  · have hd : decide (i < 0) = false := decide_eq_false h0
    have hd1 : decide ((a.sure.length : Int) ≤ i) = true := by simp; omega
    go_enter Tryz.func27, Tryz.ntmps27
    go_wp2
    go_ret2
    exact ⟨rfl, Below.refl _ _⟩
set_option maxHeartbeats 2000000 in
theorem docRead_any (h : DocIs w R g vs vp ss ps a) (i : Nat) (hi : i < ss.length) (hp : ps.length ≤ 1000000) (hs : ss.length ≤ 1000000) :
    Calls Tryz.prog 27 #[.pointer (some ⟨g, 0, none⟩), .int .i64 (i : Int)] w fun e w' => ∃ v l, e = .returned (.tuple #[v, .int .i64 0]) ∧ Bs w' v l ∧ a.all[i]? = some l ∧ Below w.heap.size w w' := by
  have HH := Lib.hid h
  obtain ⟨sA, sc, hvs, _⟩ := h.sure.shape
  obtain ⟨pA, pc, hvp, _⟩ := h.pend.shape
  have c0 := h.cell 0 _ rfl
  have c1 := h.cell 1 _ rfl
  rw [hvs] at c0
  rw [hvp] at c1
  have hrs := h.sure
  have hrp := h.pend
  rw [hvs] at hrs
  rw [hvp] at hrp
  obtain ⟨sb, so, rfl, _, hrng⟩ := hrs.at_ (by omega)
  have HRS := Lib.hid hrng
  have HRP := Lib.hid hrp
  have HPl : Hid (a.pend.length = ps.length) := h.lenP
  have HSl : Hid (a.sure.length = ss.length) := h.lenS
  clear hrs hrp hvs hvp h hrng
  have hd : decide ((i : Int) < 0) = false := by simp
  have hd1 : decide ((ss.length : Int) ≤ (i : Int)) = false := by simp; omega
  have hw1 : IntKind.i64.wrap ((ps.length : Int) - 1) = (ps.length : Int) - 1 := IntWalk.i64_in _ (by omega)
  go_enter Tryz.func27, Tryz.ntmps27
  go_wp2_with fail
  go_loopw [6] (fun u wr => ∃ z : Nat, z ≤ ps.length ∧ u = .int .i64 ((z : Int) - 1) ∧ wr = w ∧ Hid (∀ j y, z ≤ j → ps[j]? = some y → y.1 ≠ i)) (fun u _ => (intOf u + 1).toNat)
  case atStart => exact ⟨ps.length, by omega, rfl, rfl, fun j y h1 h2 => by
    have := (List.getElem?_eq_some_iff.1 h2).1
    omega⟩
  case round =>
    obtain ⟨z, hz, rfl, rfl, HN⟩ := hrel
    rcases z with _ | m
    · have hm1 : decide ((0 : Int) ≤ ((0 : Nat) : Int) - 1) = false := by simp
      have hcs := HRS.out i (ss[i]'hi).2 (by rw [List.getElem?_map, List.getElem?_eq_getElem hi]; rfl)
      have hu := HH.out.each _ (List.getElem_mem hi)
      have HA : Hid (a.all[i]? = some (ss[i]'hi).1) := by
        show _ = _
        unfold Ab.all
        rw [doneTo_never _ _ _ _ (Nat.le_refl _), HH.out.isS, List.getElem?_map, List.getElem?_eq_getElem hi]
        · rfl
        · intro j y hj hy
          rw [HH.out.isP, List.getElem?_map] at hy
          obtain ⟨y2, hy2, rfl⟩ := Option.map_eq_some_iff.1 hy
          exact HN.out j y2 (Nat.zero_le _) hy2
      generalize ss[i]'hi = x at hcs hu HA
      obtain ⟨l, u⟩ := x
      have HU := Lib.hid hu.1
      obtain ⟨uA, uc, huv⟩ := hu.1.shape2
      obtain ⟨un, hun⟩ : ∃ un, un = l.length := ⟨_, rfl⟩
      simp only at huv hcs
      rw [← hun] at huv
      clear hun
      subst huv
      have hi2 : (i : Int) < (ss.length : Int) := by omega
      clear hu
      go_wp2_with fail
      go_ret2
      exact ⟨_, rfl, l, HU.out, HA.out, Below.refl _ _⟩
    · have hz1 : (((m + 1 : Nat)) : Int) - 1 = (m : Int) := by omega
      rw [hz1]
      have hm0 : decide ((0 : Int) ≤ (m : Int)) = true := by simp
      obtain ⟨x, hx⟩ : ∃ x, ps[m]? = some x := ⟨_, List.getElem?_eq_getElem (by omega)⟩
      obtain ⟨pb, po, rfl, _, hrng⟩ := HRP.out.at_ (by omega)
      have hg2 := pC_get hx
      have ca := hrng (m * 2) _ hg2.1
      have cu := hrng (m * 2 + 1) _ hg2.2
      rw [← Nat.add_assoc] at cu
      have hu := HH.out.every _ (List.mem_of_getElem? hx)
      have HX := Lib.hid hx
      obtain ⟨at_, l, u⟩ := x
      have HU := Lib.hid hu.1
      obtain ⟨uA, uc, huv⟩ := hu.1.shape2
      obtain ⟨un, hun⟩ : ∃ un, un = l.length := ⟨_, rfl⟩
      simp only at huv ca cu
      rw [← hun] at huv
      clear hun
      subst huv
      have hm2 : (m : Int) < (ps.length : Int) := by omega
      have hwm : IntKind.i64.wrap ((m : Int) - 1) = (m : Int) - 1 := IntWalk.i64_in _ (by omega)
      clear hu hx hg2 hrng
      by_cases hai : at_ = i
      · have hdd : decide ((at_ : Int) = (i : Int)) = true := by simp; omega
        have HA : Hid (a.all[i]? = some l) := by
          show _ = _
          unfold Ab.all
          rw [HPl.out]
          refine doneTo_last a.pend a.sure i m ps.length (at_, l) (by rw [HSl.out]; exact hi) (by rw [HH.out.isP, List.getElem?_map, HX.out]; rfl) hai (by omega) (by rw [HPl.out]; exact Nat.le_refl _) fun j y h1 h2 h3 => ?_
          rw [HH.out.isP, List.getElem?_map] at h3
          obtain ⟨y2, hy2, rfl⟩ := Option.map_eq_some_iff.1 h3
          exact HN.out j y2 h1 hy2
        go_wp2_with fail
        go_ret2
        exact ⟨_, rfl, l, HU.out, HA.out, Below.refl _ _⟩
      · have hdd : decide ((at_ : Int) = (i : Int)) = false := by simp; omega
        go_wp2_with fail
        refine ⟨⟨m, by omega, rfl, trivial, fun j y h1 h2 => ?_⟩, ?_⟩
        · by_cases hjm : j = m
          · subst hjm
            rw [HX.out] at h2
            rw [← Option.some.inj h2]
            exact hai
          · exact HN.out j y (by omega) h2
        · show ((m : Int) - 1 + 1).toNat < ((m : Int) + 1).toNat
          omega
end
end Go.Proofs.YtpgbicbjlhkonaaGreatDoor
end
section
namespace Go.Proofs.YtpgbicbjlhkonaaGreatDoor
open Go.RowKit
set_option linter.unusedVariables false
set_option maxRecDepth 20000

theorem docNew_none (w : World) (n : Int) (h1 : n < 1 ∨ 600 < n) :
    Calls Tryz.prog 6 #[.int .i64 n] w fun e w' => e = .returned (.tuple #[.pointer none, .int .i64 1]) ∧ Below w.heap.size w w' := by
  by_cases h : n < 1
  · have hd1 : decide (n < 1) = true := by simp; omega
    go_enter Tryz.func6, Tryz.ntmps6
    go_wp2
    go_ret2
    exact ⟨rfl, Below.refl _ _⟩
  · have hd1 : decide (n < 1) = false := by simp; omega
    have hd2 : decide (600 < n) = true := by simp; omega
    go_enter Tryz.func6, Tryz.ntmps6
    go_wp2
    go_ret2
    exact ⟨rfl, Below.refl _ _⟩
def zeroDoc : Array Value := #[.slice none 0 0, .slice none 0 0, .bool false, .int .i64 0, .bool false]
theorem Tryz.builtDoc0 : Tryz.prog.built 68 [] = some zeroDoc := by kernel_rfl
/-- The device behind k rounds. -/
structure Amid (w wr : World) (g k : Nat) (v : Value) (ss : List (List UInt8 × Value)) : Prop where
  row : RowAt wr g 68 #[v, .slice none 0 0, .bool false, .int .i64 0, .bool false]
  spot : w.heap.size ≤ g
  own : wr.ownsRow w.heap.size 38 1 v k (ss.map (·.2))
  isS : ss.map (·.1) = List.replicate k zeroSec
  each : ∀ x ∈ ss, Bs wr x.2 x.1 ∧ ∀ k, x.2.ownBlock = some k → w.heap.size ≤ k ∧ k ≠ g ∧ k < wr.heap.size ∧ ∃ cur, RowAt wr k 5 cur
  below : Below w.heap.size w wr
theorem pad_nil : pad [] = zeroSec := rfl

set_option maxHeartbeats 4000000 in
theorem docNew_any (w : World) (n : Nat) (h1 : 1 ≤ n) (h2 : n ≤ 600) :
    Calls Tryz.prog 6 #[.int .i64 (n : Int)] w fun e w' => ∃ g, e = .returned (.tuple #[.pointer (some ⟨g, 0, none⟩), .int .i64 0]) ∧ w.heap.size ≤ g ∧ g < w'.heap.size ∧ DocIn w' (fun k => w.heap.size ≤ k ∧ k < w'.heap.size ∧ k ≠ g) g (Ab.new n) ∧ Below w.heap.size w w' := by
  have hd1 : decide ((n : Int) < 1) = false := by simp; omega
  have hd2 : decide ((600 : Int) < (n : Int)) = false := by simp; omega
  go_enter Tryz.func6, Tryz.ntmps6
  go_wp2_with (first
    | (with_reducible refine wpList_val (o := ⟨some 12, _, _, _, _, _⟩) rfl (.agg zeroDoc) (by exact run_builtOp 68 #[] rfl _ Tryz.builtDoc0) ?_)
    | ((with_reducible refine wpList_box_row (o := ⟨some 13, _, _, _, _, _⟩) rfl 68 (.tmp 12) rfl zeroDoc (by with_unfolding_all rfl) ?_); intro g w1 n1; have N1 := Lib.hid n1; clear n1))
  go_loopw [5] (fun u wr => ∃ (k : Nat) (v : Value) (ss : List (List UInt8 × Value)), k ≤ n ∧ u = .int .i64 (k : Int) ∧ Hid (Amid w wr g k v ss)) (fun u _ => n - (intOf u).toNat)
  case atStart => exact ⟨0, .slice none 0 0, [], by omega, rfl, N1.out.row, Nat.le_of_eq N1.out.spot.symm, World.ownsRow_nil _ _ _ _, rfl, fun x hx => (nomatch hx), N1.out.below⟩
  case round =>
    obtain ⟨k, v, ss, hk, rfl, HA⟩ := hrel
    clear N1
    by_cases hlt : k < n
    · have hd3 : decide ((k : Int) < (n : Int)) = true := by simp; omega
      go_wp2_with fail
      have c0 : wr.cell? ⟨g, 0, none⟩ = some v := HA.out.row.cell 0
      have hS : (fun W : World => W.cell? ⟨g, 0, none⟩ = some v) wr.drew := c0
      refine plain_region (S := fun W => W.cell? ⟨g, 0, none⟩ = some v) (fin := fun i => i == 10) (by kernel_rfl) ?_
      change walkS _ _ _ _ _ _ 11 _ _ _
      refine walkS_take (i := 0) (oi := ⟨some 19, _, _, _, _, _⟩) (v := (.pointer (some ⟨g, 0, none⟩))) rfl (by kernel_rfl) (by kernel_rfl) (fun _ _ _ h => h) _ _ _ _ (by kernel_rfl) (by kernel_rfl) (Or.inl ⟨by rfl, fun w' hS' => (by clear hS hS'; go_simp)⟩) hS ?_
      try simp only [Act.put, List.setIfInBounds_toArray, List.set_cons_zero, List.set_cons_succ]
      refine walkS_take (i := 1) (oi := ⟨some 20, _, _, _, _, _⟩) (v := (.pointer (some ⟨g, 0, none⟩))) rfl (by kernel_rfl) (by kernel_rfl) (fun _ _ _ h => h) _ _ _ _ (by kernel_rfl) (by kernel_rfl) (Or.inl ⟨by rfl, fun w' hS' => (by clear hS hS'; go_simp)⟩) hS ?_
      try simp only [Act.put, List.setIfInBounds_toArray, List.set_cons_zero, List.set_cons_succ]
      refine walkS_take (i := 2) (oi := ⟨some 21, _, _, _, _, _⟩) (v := (.pointer (some ⟨g, 0, none⟩))) rfl (by kernel_rfl) (by kernel_rfl) (fun _ _ _ h => h) _ _ _ _ (by kernel_rfl) (by kernel_rfl) (Or.inl ⟨by rfl, fun w' hS' => (by clear hS hS'; go_simp)⟩) hS ?_
      try simp only [Act.put, List.setIfInBounds_toArray, List.set_cons_zero, List.set_cons_succ]
      refine walkS_take (i := 3) (oi := ⟨some 22, _, _, _, _, _⟩) (v := (.pointer (some ⟨g, 0, none⟩))) rfl (by kernel_rfl) (by kernel_rfl) (fun _ _ _ h => h) _ _ _ _ (by kernel_rfl) (by kernel_rfl) (Or.inl ⟨by rfl, fun w' hS' => (by clear hS hS'; go_simp)⟩) hS ?_
      try simp only [Act.put, List.setIfInBounds_toArray, List.set_cons_zero, List.set_cons_succ]
      refine walkS_take (i := 4) (oi := ⟨some 23, _, _, _, _, _⟩) (v := v) rfl (by kernel_rfl) (by kernel_rfl) (fun _ _ _ h => h) _ _ _ _ (by kernel_rfl) (by kernel_rfl) (Or.inl ⟨by rfl, fun w' hS' => (by clear hS; go_simp)⟩) hS ?_
      try simp only [Act.put, List.setIfInBounds_toArray, List.set_cons_zero, List.set_cons_succ]
      clear hS
      refine walkS_only (i := 5) (o := ⟨some 24, _, _, _, _, _⟩) (by kernel_rfl) rfl rfl fun KK hKK => ?_
      go_simp
      refine (full_any wr.drew _ [] (Bs.nil _) (by decide)).mono ?_
      rintro e w2 ⟨vf, rfl, of, b2⟩
      rw [pad_nil] at of
      have b2' := below_size (Below.refl _ wr).drew b2
      have hS : (fun W : World => W.cell? ⟨g, 0, none⟩ = some v) w2 := (b2'.cell (p := ⟨g, 0, none⟩) HA.out.row.lt).trans c0
      refine hKK _ _ (.inr hS) ?_
      try simp only [Act.put, List.setIfInBounds_toArray, List.set_cons_zero, List.set_cons_succ]
      clear hKK KK c0
      have hv1 : ∀ u ∈ [vf], u.oneCell' = true := fun u hu => by rw [List.mem_singleton.1 hu]; exact of.bs.oneCell
      have OF := Lib.hid of
      have B2 := Lib.hid b2'
      clear of b2 b2'
      refine walkS_only (i := 6) (o := ⟨some 25, _, _, _, _, _⟩) (by kernel_rfl) rfl rfl fun KK hKK => ?_
      refine wp_oneCell 34 38 (.tmp 24) rfl vf 24 (.slice none 0 0) (by with_unfolding_all rfl) (hv1 vf (List.mem_singleton.2 rfl)) Tryz.underlying34 Tryz.infoSl ?_
      intro g3 w3 n3
      have hS3 : (fun W : World => W.cell? ⟨g, 0, none⟩ = some v) w3 := (n3.below.cell (p := ⟨g, 0, none⟩) (Nat.lt_of_lt_of_le HA.out.row.lt B2.out.size)).trans hS
      refine hKK _ _ (.inr hS3) ?_
      try simp only [Act.put, List.setIfInBounds_toArray, List.set_cons_zero, List.set_cons_succ]
      clear hKK KK hS
      have N3 := Lib.hid n3.row
      have B3 := Lib.hid (below_size B2.out n3.below)
      have OF3 := Lib.hid (OF.out.below n3.below)
      have hO3 : Hid (w3.ownsRow w.heap.size 38 1 v k (ss.map (·.2))) := own_kept HA.out.own B3.out
      clear n3 OF B2
      refine walkS_only (i := 7) (o := ⟨some 26, _, _, _, _, _⟩) (by kernel_rfl) rfl rfl fun KK hKK => ?_
      have hsz3 : w.heap.size ≤ w3.heap.size := Nat.le_trans HA.out.below.size B3.out.size
      refine wp_append_at (.tmp 23) (.tmp 25) 34 rfl w.heap.size 38 (.slice none 0 0) 1 24 Tryz.underlying34 Tryz.infoSl (by decide) (by decide) v k (ss.map (·.2)) (by with_unfolding_all rfl) hO3.out ⟨g3, 0, none⟩ 1 1 [vf] (by with_unfolding_all rfl) rfl (row_from N3.out) hv1 (by unfold maxLen; omega) (by omega) hsz3 ?_
      intro v4 w4 o4 g4 at4
      have hvg : v.ownBlock ≠ some g := fun e => by
        obtain ⟨cur, hr⟩ := own_typed HA.out.own e
        exact absurd (row_typed hr HA.out.row) (by decide)
      have R3 : RowAt w3 g 68 #[v, .slice none 0 0, .bool false, .int .i64 0, .bool false] := HA.out.row.kept B3.out
      have R4 := R3.grown g4 (fun e => hvg e.symm)
      have hS : (fun W : World => W.cell? ⟨g, 0, none⟩ = some v) w4 := R4.cell 0
      refine hKK _ _ (.inr hS) ?_
      try simp only [Act.put, List.setIfInBounds_toArray, List.set_cons_zero, List.set_cons_succ]
      clear hKK KK hS3
      have O4 := Lib.hid o4
      have G4 := Lib.hid g4
      have HR4 := Lib.hid R4
      clear o4 g4 R4 R3
      refine walkS_only (i := 8) (o := ⟨some 27, _, _, _, _, _⟩) (by kernel_rfl) rfl rfl fun KK hKK => ?_
      go_simp
      refine hKK _ _ (.inr hS) ?_
      clear hKK KK
      refine walkS_take (i := 9) (oi := ⟨some 28, _, _, _, _, _⟩) (v := (.pointer (some ⟨g, 0, none⟩))) rfl (by kernel_rfl) (by kernel_rfl) (fun _ _ _ h => h) _ _ _ _ (by kernel_rfl) (by kernel_rfl) (Or.inl ⟨by rfl, fun w' hS' => (by clear hS hS'; go_simp)⟩) hS ?_
      try simp only [Act.put, List.setIfInBounds_toArray, List.set_cons_zero, List.set_cons_succ]
      refine walkS_only (i := 10) (o := ⟨none, _, _, _, _, _⟩) (by kernel_rfl) rfl rfl fun KK hKK => ?_
      have c4 := hS
      have z4 := HR4.out.frozen 0
      clear hS
      obtain ⟨A8, m8, c8, rfl⟩ : ∃ A m c, v4 = .slice A m c := own_shape3 O4.out
      go_simp
      refine hKK _ _ (.inl rfl) ?_
      clear hKK KK
      refine walkS_done (by kernel_rfl) ?_ _
      go_wp2_with fail
      have hsp := HA.out.spot
      have t34 : Turns (fun k => v.ownBlock = some k) w3 w4 := Turns.of_grown G4.out fun k hk => hk
      have tS : Turns (fun k => k = g) w4 (w4.setCell ⟨g, 0, none⟩ (.slice A8 m8 c8)) := turns_g (grown_setCell _ _ _ _)
      have main : ∀ (u : Value) (l : List UInt8), (Bs w3 u l ∧ ∀ k, u.ownBlock = some k → w.heap.size ≤ k ∧ k ≠ g ∧ ∃ cur, RowAt w3 k 5 cur) → (Bs (w4.setCell ⟨g, 0, none⟩ (.slice A8 m8 c8)) u l ∧ ∀ k, u.ownBlock = some k → w.heap.size ≤ k ∧ k ≠ g ∧ k < (w4.setCell ⟨g, 0, none⟩ (.slice A8 m8 c8)).heap.size ∧ ∃ cur, RowAt (w4.setCell ⟨g, 0, none⟩ (.slice A8 m8 c8)) k 5 cur) := by
        intro u l ⟨hb, hk⟩
        have hne : ∀ k, u.ownBlock = some k → v.ownBlock ≠ some k := fun k hk1 hv => by
          obtain ⟨cur, hr⟩ := own_typed hO3.out hv
          obtain ⟨_, _, cur2, hr2⟩ := hk k hk1
          exact absurd (row_typed hr hr2) (by decide)
        refine ⟨tS.bs (t34.bs hb hne) fun k hk1 => (hk k hk1).2.1, fun k hk1 => ?_⟩
        obtain ⟨q1, q2, cur, hr⟩ := hk k hk1
        have hr2 := tS.row (t34.row hr (hne k hk1)) q2
        exact ⟨q1, q2, hr2.lt, cur, hr2⟩
      refine ⟨⟨k + 1, _, ss ++ [(zeroSec, vf)], by omega, by congr 1, ⟨HR4.out.put 0 _, hsp, ?_, ?_, fun x hx => ?_, ?_⟩⟩, ?_⟩
      · refine tS.own (n := k + 1) ?_ fun k hk e => ?_
        · rw [List.map_append]; exact O4.out
        · obtain ⟨cur, hr⟩ := own_typed O4.out hk
          exact absurd (row_typed (e ▸ hr) HR4.out) (by decide)
      · rw [List.map_append, HA.out.isS, List.replicate_succ']
        rfl
      · refine main x.2 x.1 ?_
        rcases List.mem_append.1 hx with hx | hx
        · obtain ⟨q1, q2⟩ := HA.out.each x hx
          refine ⟨q1.below B3.out, fun k hk => ?_⟩
          obtain ⟨q3, q4, _, cur, hr⟩ := q2 k hk
          exact ⟨q3, q4, cur, hr.kept B3.out⟩
        · rw [List.mem_singleton.1 hx]
          refine ⟨OF3.out.bs, fun k hk => ?_⟩
          have q1 := OF3.out.rows k hk
          have q2 := HA.out.row.lt
          have q3 := HA.out.below.size
          obtain ⟨cur, hr⟩ := own_typed OF3.out hk
          have q4 : wr.heap.size ≤ k := q1
          exact ⟨by omega, by omega, cur, hr⟩
      · have hb3 := below_size HA.out.below B3.out
        exact (hb3.grown G4.out hb3.size fun k hk => (World.ownsRow.lt hO3.out k hk).1).setCell hsp _
      · show n - ((k : Int) + 1).toNat < n - (k : Int).toNat
        omega
    · have hk2 : k = n := by omega
      subst hk2
      have hd3 : decide ((k : Int) < (k : Int)) = false := by simp
      go_wp2_with fail
      go_ret2
      have hA := HA.out
      have hl : ss.length = k := by
        have := congrArg List.length hA.isS
        rwa [List.length_map, List.length_replicate] at this
      have hlo := World.ownsRow.lt hA.own
      refine ⟨g, rfl, hA.spot, hA.row.lt, ⟨v, .slice none 0 0, ss, [], ⟨hA.row, fun h => h.2.2 rfl, ?_, Row_.nil _ _, fun x hx => ⟨(hA.each x hx).1, fun k hk => ?_⟩, fun x hx => (nomatch hx), hA.isS.symm, rfl⟩⟩, hA.below⟩
      · refine Row_.of_own hA.own hl.symm fun j hj => ⟨(hlo j hj).1, (hlo j hj).2, fun e => ?_⟩
        obtain ⟨cur, hr⟩ := own_typed hA.own hj
        exact absurd (row_typed (e ▸ hr) hA.row) (by decide)
      · obtain ⟨q1, q2, q3, _⟩ := (hA.each x hx).2 k hk
        exact ⟨q1, q3, q2⟩
end Go.Proofs.YtpgbicbjlhkonaaGreatDoor
end
