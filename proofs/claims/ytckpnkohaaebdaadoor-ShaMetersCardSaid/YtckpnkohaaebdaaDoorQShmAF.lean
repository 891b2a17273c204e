/-
  Texts that belong together, merged: ShaLogK, ShaX, Clone, Ss, ShaY, L, KeyEq, ArrEq. Conditions: as each theorem names them.
-/
import Derived.Test.YtckpnkohaaebdaaDoorQShmAD
import Derived.Test.YtckpnkohaaebdaaDoorQShmAE
import Derived.Test.YtckpnkohaaebdaaDoorQShmAB
import Derived.Test.YtckpnkohaaebdaaDoorQShmAC
import Derived.Lib.Hide
import Derived.Lib.SliceRun
import Derived.Test.YtckpnkohaaebdaaDoorQShmAA
import Derived.Lib.AtoiErrMem
import Derived.Deep.DeepMust
import Derived.Stop.BytesEq
import Derived.StillTactics
section
namespace Go.Proofs.YtckpnkohaaebdaaDoor
open Go.RowKit
set_option linter.unusedVariables false
set_option maxRecDepth 20000

/-- append of a row of slices, however long it is, onto the call's own row. -/
theorem run_appR {P : Program} (w : World) (base base2 : Nat) (t ty e : TypeId) (hinfo : (P.info? e).map (fun i => (i.zero, i.size, i.bytes)) = some (some (.slice none 0 0), 1, 24)) (ht : P.underlying t = some (.slice e))
    (v s : Value) (xs ys : List Value) (hown : w.ownsRow base e 1 v xs.length xs) (hs : w.ownsRow base2 e 1 s ys.length ys) (h1 : ∀ u ∈ ys, u.oneCell' = true) (hlen : xs.length + ys.length ≤ 1000000000) (hbase : base ≤ w.heap.size) :
    ∃ v' w', (Builtin.append_ #[t, t] ty #[v, s]).run P w = .ok v' w' ∧ w'.ownsRow base e 1 v' (xs.length + ys.length) (xs ++ ys) ∧ w.grownBy w' v.ownBlock := by
  obtain ⟨i, hi, hz0, hz1, hz2⟩ := info_parts hinfo
  have hcells := fun g hg => World.ownsRow.cells hs (g := g) hg
  rcases hs.2 with ⟨rfl, h0⟩ | ⟨g, cap, cur, rfl, hbg, hgr, hnc, hcm, hcs, htake⟩
  · have hy : ys = [] := List.eq_nil_of_length_eq_zero h0
    subst hy
    refine ⟨v, w, ?_, by simpa using hown, World.grownBy.refl w _⟩
    rcases hown.2 with ⟨rfl, _⟩ | ⟨g, cap, cur, rfl, _, _, hnc, _⟩
    · simp [Builtin.append_, run_underlying ht, sizeOf, typeInfo, hi, Builtin.lenOf, Builtin.firstCells]
    · simp [Builtin.append_, run_underlying ht, sizeOf, typeInfo, hi, Builtin.lenOf, Builtin.firstCells, hnc, storeCells]
  · obtain ⟨v', w', hrun, ho, hg, _⟩ := run_append_own (P := P) w base t ty e i (.slice none 0 0) 1 24 ht hi hz0 hz1 hz2 rfl (by decide) v xs.length xs hown ⟨g, 0, none⟩ ys.length cap ys (by simp) (hcells g rfl) h1 (by unfold maxLen; omega) (by omega) hbase
    exact ⟨v', w', hrun, ho, hg⟩

theorem wpList_appR {P : Program} {w : World} {ops : Array Oper} {rest : List Oper} {o : Oper} {a : Act} {Q : Exit → Act → World → Prop} (hgd : o.guard = none) (s x : Operand) (t : TypeId)
    (ho : o.op = .call { callee := .builtin .append, args := #[s, x], argTypes := #[t, t] })
    (base base2 : Nat) (e : TypeId) (hinfo : (P.info? e).map (fun i => (i.zero, i.size, i.bytes)) = some (some (.slice none 0 0), 1, 24)) (ht : P.underlying t = some (.slice e))
    (v u : Value) (xs ys : List Value) (hs : a.eval s = v) (hx : a.eval x = u) (hown : w.ownsRow base e 1 v xs.length xs) (hu : w.ownsRow base2 e 1 u ys.length ys) (h1 : ∀ u ∈ ys, u.oneCell' = true) (hlen : xs.length + ys.length ≤ 1000000000) (hbase : base ≤ w.heap.size)
    (h : ∀ v' w', w'.ownsRow base e 1 v' (xs.length + ys.length) (xs ++ ys) → w.grownBy w' v.ownBlock → wpList P ops Q rest (a.put o.dst v') w') : wpList P ops Q (o :: rest) a w := by
  refine wpList_plain hgd fun _ hK => ?_
  obtain ⟨v', w', hr, h2, h3⟩ := run_appR (P := P) w base base2 t o.type e hinfo ht v u xs ys hown hu h1 hlen hbase
  unfold Oper.wp execOp
  simp only [ho, resolve, invoke, builtin, Sem.run_bind, Sem.run_pure, Result.andThen_ok, List.map_toArray, List.map_cons, List.map_nil, hs, hx, hr]
  exact hK _ _ (h v' w' h2 h3)

/-- What a Log holds. -/
def logK (kp : Bool) (n : Nat) (s : Value) : Array Value := #[.bool kp, .int .i64 (n : Int), s]
theorem logK_put1 (kp : Bool) (n m : Nat) (s : Value) : (logK kp n s).setIfInBounds 1 (.int .i64 (m : Int)) = logK kp m s := by simp [logK]
theorem logK_put2 (kp : Bool) (n : Nat) (s u : Value) : (logK kp n s).setIfInBounds 2 u = logK kp n u := by simp [logK]
theorem logK_same {w : World} {g : Nat} {t : TypeId} {b b' : Bool} {n n' : Nat} {s s' : Value} (h : RowAt w g t (logK b n s)) (h' : RowAt w g t (logK b' n' s')) : s = s' := by
  have e1 : w.cell? ⟨g, 2, none⟩ = some s := h.cell 2
  have e2 : w.cell? ⟨g, 2, none⟩ = some s' := h'.cell 2
  rw [e1] at e2
  exact Option.some.inj e2

/-- What a call has of a Log that it made, and that keeps what it digests. -/
structure LogK (w0 : World) (g n : Nat) (ls : List (List UInt8)) (w : World) : Prop where
  below : Below w0.heap.size w0 w
  far : w0.heap.size ≤ g
  rows : ∃ s vs, RowAt w g 41 (logK true n s) ∧ w.ownsRow w0.heap.size 27 1 s vs.length vs ∧ vs.length = ls.length ∧ ∀ j (h1 : j < vs.length) (h2 : j < ls.length), OwnB w w0.heap.size 5 vs[j] ls[j]
theorem own_kept {w w' : World} {base n : Nat} {e : TypeId} {s : Value} {xs : List Value} (h : w.ownsRow base e 1 s n xs) (hb : Below w.heap.size w w') : w'.ownsRow base e 1 s n xs :=
  World.ownsRow.kept (row := none) h ⟨hb.os, hb.tape, hb.output, hb.size, fun k hk _ => hb.block k hk⟩ (by cases s.ownBlock <;> simp)
theorem LogK.kept {w0 w w' : World} {g n : Nat} {ls : List (List UInt8)} (h : LogK w0 g n ls w) (hb : Below w.heap.size w w') : LogK w0 g n ls w' := by
  obtain ⟨s, vs, h1, h2, h3, h4⟩ := h.rows
  exact ⟨below_size h.below hb, h.far, s, vs, h1.kept hb, own_kept h2 hb, h3, fun j a b => (h4 j a b).below hb⟩
theorem LogK.new {w0 w : World} {g : Nat} (hb : Below w0.heap.size w0 w) (hf : w0.heap.size ≤ g) (h : RowAt w g 41 (logK true 0 (.slice none 0 0))) : LogK w0 g 0 [] w :=
  ⟨hb, hf, _, [], h, World.ownsRow_nil _ _ _ _, rfl, fun j h1 => by simp at h1⟩
theorem LogK.put {w0 w w' : World} {g n x : Nat} {t : TypeId} {old cs : Array Value} {ls : List (List UInt8)} (h : LogK w0 g n ls w) (hr : RowAt w x t old) (p : PutRow w x t cs w') (h1 : x ≠ g) (h2 : w0.heap.size ≤ x) (h3 : t ≠ 27) (h4 : t ≠ 5) : LogK w0 g n ls w' := by
  obtain ⟨s, vs, k1, k2, k3, k4⟩ := h.rows
  refine ⟨p.below h.below h.below.size h2, h.far, s, vs, k1.grown p.grown (by intro e; injection e with e; exact h1 e.symm), World.ownsRow.kept k2 p.grown (.inr fun e => own_apart k2 hr h3 e.symm), k3, fun j a b => ?_⟩
  exact World.ownsRow.kept (k4 j a b) p.grown (.inr fun e => own_apart (k4 j a b) hr h4 e.symm)

/-- The rows of a Meter's and of a Log's lists lie apart. -/
def ApartML (w : World) (gm gl : Nat) : Prop := ∀ n0 s0 n1 s1, RowAt w gm 83 (meterC true n0 s0) → RowAt w gl 41 (logK true n1 s1) → ∀ b, s0.ownBlock = some b → s1.ownBlock ≠ some b
theorem ApartML.rows {w w' : World} {gm gl : Nat} (h : ApartML w gm gl) (h1 : ∀ cs, RowAt w' gm 83 cs → RowAt w gm 83 cs) (h2 : ∀ cs, RowAt w' gl 41 cs → RowAt w gl 41 cs) : ApartML w' gm gl :=
  fun n0 s0 n1 s1 k1 k2 => h n0 s0 n1 s1 (h1 _ k1) (h2 _ k2)
theorem row_back {w w' : World} {g : Nat} {t : TypeId} {cs : Array Value} (hlt : g < w.heap.size) (h : w'.heap[g]? = w.heap[g]?) (k : RowAt w' g t cs) : RowAt w g t cs := by
  unfold RowAt at *
  rw [← h]
  exact k

theorem logK_count {w : World} {g n : Nat} {s : Value} (h : RowAt w g 41 (logK true n s)) : RowAt (w.setCell ⟨g, 1, none⟩ (.int .i64 ((n : Int) + 1))) g 41 (logK true (n + 1) s) := by
  have := h.put 1 (.int .i64 ((n + 1 : Nat) : Int))
  rw [logK_put1] at this
  exact this
theorem own_empty (w : World) (p : Addr) (u : Value) (e : TypeId) : ((w.setCell p u).alloc (.cells #[] e)).ownsRow w.heap.size e 1 (.slice (some ⟨w.heap.size, 0, none⟩) 0 0) 0 [] := by
  have := World.ownsRow_lit (base := w.heap.size) (e := e) (size := 1) (w.setCell p u) #[] 0 (by simp) (by simp [maxLen]) (by simp)
  simpa using this

theorem begun_below {w w' : World} {p : Addr} {u : Value} {e : TypeId} (h : ((w.setCell p u).alloc (.cells #[] e)).grownBy w' (Value.slice (some ⟨w.heap.size, 0, none⟩) 0 0).ownBlock) : Below w.heap.size (w.setCell p u) w' :=
  Below.grown (by have := alloc_below (w.setCell p u) (.cells #[] e); simpa using this) h (by simp) (fun k hk => by simp [Value.ownBlock] at hk; omega)
theorem row_less {w w' : World} {B g : Nat} {t : TypeId} {cs : Array Value} (h : RowAt w g t cs) (hg : g < B) (hb : Below B w w') : RowAt w' g t cs := (hb.block g hg).trans h
theorem own_less {w w' : World} {B base n : Nat} {e : TypeId} {s : Value} {xs : List Value} (h : w.ownsRow base e 1 s n xs) (hl : ∀ b, s.ownBlock = some b → b < B) (hb : Below B w w') : w'.ownsRow base e 1 s n xs := by
  refine ⟨h.1, ?_⟩
  rcases h.2 with h1 | ⟨b, cap, cur, hv, hb2, hk, h3⟩
  · exact .inl h1
  · exact .inr ⟨b, cap, cur, hv, hb2, (hb.block b (hl b (by rw [hv]; rfl))).trans hk, h3⟩
theorem Bs.round {w w' : World} {g : Nat} {t : TypeId} {cs : Array Value} {v : Value} {l : List UInt8} (h : Bs w v l) (hr : RowAt w g t cs) (hcs : ∀ (j : Nat) (x : Int), cs[j]? ≠ some (Value.int .u8 x)) (hg : w.grownBy w' (some g)) : Bs w' v l := by
  obtain ⟨A, c, hv, h1, h2, h3⟩ := h
  refine ⟨A, c, hv, h1, h2, fun hl => ?_⟩
  obtain ⟨b, off, hA, hc⟩ := h3 hl
  refine ⟨b, off, hA, fun j hj => hg.cell (hc j hj) fun e => ?_⟩
  injection e with e
  have h4 := hc j hj
  simp only at e
  subst e
  rw [hr.cell] at h4
  exact hcs _ _ h4
theorem logK_no8 (kp : Bool) (n : Nat) (s : Value) (hs : ∀ x, s ≠ .int .u8 x) (j : Nat) (x : Int) : (logK kp n s)[j]? ≠ some (Value.int .u8 x) := by
  rcases j with _ | _ | _ | j
  · simp [logK]
  · simp [logK]
  · intro e
    simp [logK] at e
    exact hs x e
  · simp [logK]
theorem own_no8 {w : World} {base n : Nat} {e : TypeId} {s : Value} {xs : List Value} (h : w.ownsRow base e 1 s n xs) (x : Int) : s ≠ .int .u8 x := by
  rcases h.2 with ⟨rfl, _⟩ | ⟨b, cap, cur, rfl, _⟩ <;> simp
theorem Bs.lessB {w w' : World} {B : Nat} {v : Value} {l : List UInt8} (h : Bs w v l) (hs : w.heap.size ≤ B) (hb : Below B w w') : Bs w' v l := h.below (hb.mono hs)
theorem own_one {w : World} {base n : Nat} {e : TypeId} {s : Value} {xs : List Value} (h : w.ownsRow base e 1 s n xs) : s.oneCell' = true := by
  rcases h.2 with ⟨rfl, _⟩ | ⟨b, cap, cur, rfl, _⟩ <;> rfl

theorem own_lt {w : World} {base n : Nat} {e : TypeId} {s : Value} {xs : List Value} (h : w.ownsRow base e 1 s n xs) (b : Nat) (hb : s.ownBlock = some b) : b < w.heap.size := (World.ownsRow.lt h b hb).2
theorem news_one (w : World) (u : Value) (e : TypeId) (j : Nat) (x : Value) (hj : ([u] : List Value)[j]? = some x) : (w.alloc (.cells #[u] e)).cell? ((⟨w.heap.size, 0, none⟩ : Addr).add j) = some x := by
  rcases j with _ | j
  · have h0 := (RowAt.new w e #[u]).cell 0
    simp at hj
    subst hj
    exact h0
  · simp at hj
theorem one_one {u : Value} (h : u.oneCell' = true) : ∀ x ∈ ([u] : List Value), x.oneCell' = true := by
  intro x hx
  simp at hx
  rw [hx]
  exact h
theorem one_below {w w' : World} {B : Nat} {o : Obj} {a : Option Nat} (h : (w.alloc o).grownBy w' a) (hr : ∀ k, a = some k → B ≤ k) (hB : B ≤ w.heap.size) : Below B w w' :=
  Below.grown ((alloc_below w o).mono hB) h (Nat.le_trans hB (by simp)) hr
theorem own_rows {w : World} {base n : Nat} {e : TypeId} {s : Value} {xs : List Value} (h : w.ownsRow base e 1 s n xs) (k : Nat) (hk : s.ownBlock = some k) : base ≤ k := (World.ownsRow.lt h k hk).1
theorem own_apart2 {w3 w w' : World} {e2 : TypeId} {o : Obj} {v u : Value} {l : List UInt8} (hu : OwnB w w3.heap.size e2 u l) (hv : ∀ b, v.ownBlock = some b → b < w3.heap.size) (h : (w.alloc o).grownBy w' v.ownBlock) : OwnB w' w3.heap.size e2 u l :=
  World.ownsRow.kept (hu.alloc o) h (by
    rcases hx : u.ownBlock with _ | k
    · exact .inl rfl
    · refine .inr fun e => ?_
      have h1 := hu.rows k hx
      have h2 := hv k (by rw [← e])
      omega)

set_option maxHeartbeats 2000000 in
theorem LogSum_keep (w0 w : World) (g n : Nat) (v : Value) (old : List (List UInt8)) (l d : List UInt8) (h : LogK w0 g n old w) (hn : n ≤ 1000000000) (ho : old.length ≤ 1000000) (hd : d = digestB l) (hb : Bs w v l) (hl : l.length ≤ 1000000) :
    Calls Tryd.prog 23 #[.pointer (some ⟨g, 0, none⟩), v] w fun e w' => e = .returned (.agg (keyC d)) ∧ LogK w0 g (n + 1) (old ++ [l]) w' ∧ w.grownBy w' (some g) ∧ ∀ n1 s1, RowAt w' g 41 (logK true n1 s1) → ∀ b, s1.ownBlock = some b → w.heap.size ≤ b := by
  have HK := Lib.hid h
  have HB := Lib.hid hb
  have LD : Hid (d.length = 32) := by show _ = _; rw [hd, digestB_length]
  have HD : Hid (∀ x u, Bs x u l → Calls Tryd.prog 22 #[u] x (RetV x (.agg (keyC d)))) := fun x u hu => by rw [hd]; exact refDigest_any x u l hu hl
  have hb0 : w0.heap.size ≤ w.heap.size := h.below.size
  obtain ⟨s, vs, k1, k2, k3, k4⟩ := h.rows
  have hgl := k1.lt
  have K1 := Lib.hid k1
  have K2 := Lib.hid k2
  have K3 := Lib.hid k3
  have K4 := Lib.hid k4
  have hvl : vs.length ≤ 1000000 := by omega
  have H1 : Hid (∀ u ∈ vs, u.oneCell' = true) := by
    intro u hu
    obtain ⟨j, hj, rfl⟩ := List.getElem_of_mem hu
    exact own_one (k4 j hj (by omega))
  obtain ⟨i0, hi, hz0, hz1, hz2⟩ := info_parts Tryd.infoS
  have HZ0 := Lib.hid hz0
  have HZ1 := Lib.hid hz1
  have HZ2 := Lib.hid hz2
  have HI := Lib.hid hi
  clear hz0 hz1 hz2 hi
  clear h hb hd k1 k2 k3 k4
  go_enter Tryd.func23, Tryd.ntmps23
  go_wp2_with (first
    | ((with_reducible refine wpList_alloc_row (o := ⟨some 4, _, _, _, _, _⟩) rfl 33 rfl (keyC zeroKey) Tryd.zeroK ?_); intro g1 w1 n1; have hw1 : w0.heap.size ≤ w1.heap.size := Nat.le_trans hb0 n1.below.size; have R1 := Lib.hid (K1.out.kept n1.below); have V2 := Lib.hid ((HB.out.below n1.below).round R1.out (logK_no8 true n s (own_no8 K2.out)) (put_grown w1 g 1 (.int .i64 ((n : Int) + 1)))); have c0 : w1.cell? ⟨g, 0, none⟩ = some (.bool true) := R1.out.cell 0; have c1 : w1.cell? ⟨g, 1, none⟩ = some (.int .i64 (n : Int)) := R1.out.cell 1; have z1 : w1.frozen? ⟨g, 1, none⟩ = false := R1.out.frozen 1; have hadd : IntKind.i64.wrap ((n : Int) + 1) = (n : Int) + 1 := IntWalk.i64_in _ (by omega); have R2 := Lib.hid (logK_count R1.out); have c2 : ((w1.setCell ⟨g, 1, none⟩ (.int .i64 ((n : Int) + 1))).alloc (.cells #[] 27)).cell? ⟨g, 2, none⟩ = some s := (R2.out.alloc _).cell 2; have O2 := Lib.hid (own_empty w1 ⟨g, 1, none⟩ (.int .i64 ((n : Int) + 1)) 27); have S2 := Lib.hid ((own_put_other (own_kept K2.out n1.below) R1.out (by decide) 1 (.int .i64 ((n : Int) + 1))).alloc (.cells #[] 27)))
    | (at_builtin; (refine wpList_appR rfl (.tmp 17) (.tmp 21) 38 rfl w1.heap.size w0.heap.size 27 Tryd.infoS Tryd.underlying38 (.slice (some ⟨w1.heap.size, 0, none⟩) 0 0) s [] vs rfl rfl O2.out S2.out H1.out (by simp; omega) (by simp) ?_); intro va w3 own3 hg3; rw [List.nil_append, List.length_nil, Nat.zero_add] at own3; have B3 := Lib.hid (begun_below hg3); have V3 := Lib.hid (V2.out.lessB (by simp) B3.out); have A3 := Lib.hid own3; have LA3 := Lib.hid (own_lt own3); clear own3 hg3)
    | (at_builtin; (refine wpList_appB _ rfl (.tmp 23) (.tmp 24) 27 rfl w3 5 Tryd.infoB Tryd.underlying27 _ _ [] l rfl rfl (OwnB.empty2 _ _ _ (Nat.le_refl _)) (V3.out.below (alloc_below _ _)) (by simp; omega) (alloc_below _ _) ?_); intro ub w4 own4 b4; rw [List.nil_append] at own4; have B4 := Lib.hid (B3.out.trans (b4.mono (by have := B3.out.size; simpa using this))); have V4 := Lib.hid (V3.out.below b4); have A4 := Lib.hid (own_kept A3.out b4); obtain ⟨UA, UC, hub, _⟩ := own4.bs; subst hub; have U4 := Lib.hid own4; have HNW := Lib.hid (news_one w4 (.slice UA l.length UC) 27); have HON := Lib.hid (one_one (own_one own4)); clear own4)
    | (at_builtin; (refine wpList_append_own _ rfl (.tmp 22) (.tmp 26) 38 rfl w1.heap.size 27 i0 (.slice none 0 0) 1 24 Tryd.underlying38 HI.out HZ0.out HZ1.out HZ2.out rfl (by decide) va vs.length vs rfl (A4.out.alloc _) ⟨w4.heap.size, 0, none⟩ 1 1 [.slice UA l.length UC] rfl rfl HNW.out HON.out (by unfold maxLen; omega) (by omega) (by have := B4.out.size; simp; simp at this; omega) ?_); intro vb w5 own5 hg5 hnil5; clear hnil5; obtain ⟨k5, cap5, hk1, hk2, hk3⟩ := own5.form (by omega); subst hk1; have B5 := Lib.hid (B4.out.trans (one_below hg5 (own_rows A4.out) (by have := B4.out.size; simpa using this))); have A5 := Lib.hid own5; have U5 := Lib.hid (own_apart2 U4.out LA3.out hg5); have R5 := Lib.hid (row_less R2.out (Nat.lt_of_lt_of_le hgl n1.below.size) B5.out); have z5 : w5.frozen? ⟨g, 2, none⟩ = false := R5.out.frozen 2; have c5 : w5.cell? ⟨g, 2, none⟩ = some s := R5.out.cell 2; clear own5 hg5))
  have R6 := Lib.hid (R5.out.put 2 (.slice (some ⟨k5, 0, none⟩) (vs.length + 1) cap5))
  rw [logK_put2] at R6
  have A6 := Lib.hid (own_put_other A5.out R5.out (by decide) 2 (.slice (some ⟨k5, 0, none⟩) (vs.length + 1) cap5))
  have U6 := Lib.hid (own_put_other U5.out R5.out (by decide) 2 (.slice (some ⟨k5, 0, none⟩) (vs.length + 1) cap5))
  have G6 : Hid (w.grownBy (w5.setCell ⟨g, 2, none⟩ (.slice (some ⟨k5, 0, none⟩) (vs.length + 1) cap5)) (some g)) := by
    have e1 : w.grownBy (w1.setCell ⟨g, 1, none⟩ (.int .i64 ((n : Int) + 1))) (some g) := ((grown_of_below n1.below).but (some g)).trans (put_grown w1 g 1 _)
    have e2 := B5.out
    refine ⟨?_, ?_, ?_, ?_, fun k hk hne => ?_⟩
    · exact e2.os.trans e1.os
    · exact e2.tape.trans e1.tape
    · exact e2.output.trans e1.output
    · have := e2.size
      have := e1.size
      simp at *
      omega
    · rw [heap_setCell_other w5 _ k _ (fun h => hne (by rw [h]))]
      exact (e2.block k (Nat.lt_of_lt_of_le hk n1.below.size)).trans (e1.block k hk hne)
  have V6 := Lib.hid ((V2.out.lessB (by simp) B5.out).round R5.out (logK_no8 true (n + 1) s (own_no8 K2.out)) (put_grown w5 g 2 (.slice (some ⟨k5, 0, none⟩) (vs.length + 1) cap5)))
  have E6 : Hid (∀ j (h1 : j < vs.length) (h2 : j < old.length), OwnB (w5.setCell ⟨g, 2, none⟩ (.slice (some ⟨k5, 0, none⟩) (vs.length + 1) cap5)) w0.heap.size 5 vs[j] old[j]) := by
    intro j h1 h2
    have e0 := K4.out j h1 h2
    have e1 := own_put_other (own_kept e0 n1.below) R1.out (by decide) 1 (.int .i64 ((n : Int) + 1))
    have e2 := own_less e1 (fun b hb => Nat.lt_of_lt_of_le (own_lt e0 b hb) n1.below.size) B5.out
    exact own_put_other e2 R5.out (by decide) 2 _
  have N6 : Hid (RowAt (w5.setCell ⟨g, 2, none⟩ (.slice (some ⟨k5, 0, none⟩) (vs.length + 1) cap5)) g1 33 (keyC zeroKey)) := by
    have hg1 : g1 ≠ g := by rw [n1.spot]; omega
    have e1 := n1.row.far (p := ⟨g, 1, none⟩) hg1 (.int .i64 ((n : Int) + 1))
    have e2 := row_less e1 n1.row.lt B5.out
    exact e2.far (p := ⟨g, 2, none⟩) hg1 _
  have W6 : Hid (Below w0.heap.size w0 (w5.setCell ⟨g, 2, none⟩ (.slice (some ⟨k5, 0, none⟩) (vs.length + 1) cap5))) := by
    refine HK.out.below.trans ⟨G6.out.os, G6.out.tape, G6.out.output, G6.out.size, fun k hk => G6.out.block k (Nat.lt_of_lt_of_le hk hb0) ?_⟩
    have := HK.out.far
    intro e
    injection e with e
    omega
  have hg1s : w.heap.size ≤ g1 := Nat.le_of_eq n1.spot.symm
  have hw3 : w1.heap.size ≤ w3.heap.size := by have := B3.out.size; simpa using this
  have hk5 : w.heap.size ≤ k5 := Nat.le_trans n1.below.size hk2
  clear n1 R1 R2 R5 V2 V3 V4 A3 A4 A5 U4 U5 B3 B4 B5 LA3 O2 S2 H1 K1 K2 K4 c0 c1 c2 z1 hadd z5 c5 HNW HON b4 HI HZ0 HZ1 HZ2 HB
  have hw6 : w.heap.size ≤ (w5.setCell ⟨g, 2, none⟩ (.slice (some ⟨k5, 0, none⟩) (vs.length + 1) cap5)).heap.size := G6.out.size
  generalize w5.setCell ⟨g, 2, none⟩ (.slice (some ⟨k5, 0, none⟩) (vs.length + 1) cap5) = w6 at *
  have M6 : Hid (LogK w0 g (n + 1) (old ++ [l]) w6) := by
    refine ⟨W6.out, HK.out.far, _, vs ++ [.slice UA l.length UC], R6.out, ?_, by simp [K3.out], fun j h1 h2 => ?_⟩
    · rw [List.length_append]
      exact World.ownsRow.mono A6.out hw1
    · rcases Nat.lt_or_ge j vs.length with hlt | hge
      · rw [List.getElem_append_left hlt, List.getElem_append_left (by rw [← K3.out]; exact hlt)]
        exact E6.out j hlt (by rw [← K3.out]; exact hlt)
      · have hj : j = vs.length := by simp at h1; omega
        subst hj
        have e2 : (old ++ [l])[vs.length]'h2 = l := by simp [K3.out]
        rw [List.getElem_concat_length rfl, e2]
        exact ownB_low U6.out (Nat.le_trans hw1 hw3)
  refine (HD.out _ _ V6.out).mono ?_
  rintro e w7 ⟨rfl, b7⟩
  have M7 := Lib.hid (M6.out.kept b7)
  have N7 := Lib.hid (N6.out.kept b7)
  have G7 : Hid (w.grownBy w7 (some g)) := G6.out.trans ((grown_of_below b7).but _)
  have R7 := Lib.hid (R6.out.kept b7)
  clear M6 N6 G6 R6 E6 A6 U6 W6 V6 HD
  go_wp2_with ((with_reducible refine wpList_store_row (o := ⟨none, _, _, _, _, _⟩) rfl 33 (.tmp 4) (.tmp 31) rfl g1 33 _ (keyC d) (by with_unfolding_all rfl) (by with_unfolding_all rfl) N7.out (keyC_same zeroKey_length LD.out) (Tryd.sizeKey d LD.out) (keyC_one d) ?_); intro w8 p8)
  have hg1g : g1 ≠ g := by omega
  refine bodyPost_ret (results_cell_row rfl _ _ g1 33 (keyC d) (0, 0) (.array 32 5) rfl p8.row Tryd.underlying33 rfl (Tryd.sizeKey d LD.out)) rfl ⟨rfl, ?_, ?_, ?_⟩
  · exact M7.out.put N7.out p8 hg1g (by omega) (by decide) (by decide)
  · have q := p8.grown
    exact ⟨q.os.trans G7.out.os, q.tape.trans G7.out.tape, q.output.trans G7.out.output, Nat.le_trans G7.out.size q.size, fun k hk hne => (q.block k (Nat.lt_of_lt_of_le hk G7.out.size) (by intro e; injection e with e; omega)).trans (G7.out.block k hk hne)⟩
  · intro n1 s1 hr b hb
    have h8 := R7.out.grown p8.grown (by intro e; injection e with e; exact hg1g e.symm)
    rw [logK_same hr h8] at hb
    simp [Value.ownBlock] at hb
    omega
end Go.Proofs.YtckpnkohaaebdaaDoor
end
section
namespace Go.Proofs.YtckpnkohaaebdaaDoor
open Go.RowKit
set_option linter.unusedVariables false
set_option maxRecDepth 20000

set_option maxHeartbeats 1000000 in
theorem Sum_nil (w : World) (ht : Tabs w) (v : Value) (ls : List (List UInt8)) (hb : Bss w v ls) (hl : ls.flatten.length ≤ 1000000) (hm : ls.length ≤ 1000000) :
    Calls Tryd.prog 21 #[.pointer none, v] w (RetV w (.agg (keyC (digestB ls.flatten)))) := by
  have HT := Lib.hid ht
  have HB := Lib.hid hb
  have HD : Hid (∀ x, Tabs x → ∀ u, Bs x u ls.flatten → Calls Tryd.prog 45 #[u] x (RetV x (.agg (keyC (digestB ls.flatten))))) := fun x hx u hu => digest_any x hx u ls.flatten hu hl
  obtain ⟨fin, hfin⟩ : ∃ fin, fin = digestB ls.flatten := ⟨_, rfl⟩
  have HFL : Hid (fin.length = 32) := by show _ = _; rw [hfin, digestB_length]
  rw [← hfin] at HD ⊢
  have HJ := Lib.hid (fun x u hu => Join_any x u ls hu (by omega) (by omega))
  clear ht hb hfin
  go_enter Tryd.func21, Tryd.ntmps21
  go_wp2_with ((with_reducible refine wpList_alloc_row (o := ⟨some 4, _, _, _, _, _⟩) rfl 33 rfl (keyC zeroKey) Tryd.zeroK ?_); intro g1 w1 n1)
  refine (HJ.out _ _ (HB.out.keep n1.below)).mono ?_
  rintro e w2 ⟨u, rfl, hu, b2⟩
  have HU := Lib.hid hu
  have R1 := Lib.hid (n1.row.kept b2)
  have B2 := Lib.hid (below_size n1.below b2)
  have hg1 : w.heap.size ≤ g1 := Nat.le_of_eq n1.spot.symm
  clear n1 b2 hu HB HJ
  go_wp2_with fail
  refine (HD.out _ (HT.out.below B2.out) _ HU.out).mono ?_
  rintro e w3 ⟨rfl, b3⟩
  have R13 := Lib.hid (R1.out.kept b3)
  have B3 := Lib.hid (below_size B2.out b3)
  clear b3 R1 B2 HU HD
  go_wp2_with (first
    | ((with_reducible refine wpList_alloc_row (o := ⟨some 6, _, _, _, _, _⟩) rfl 33 rfl (keyC zeroKey) Tryd.zeroK ?_); intro g4 w4 n4)
    | ((with_reducible refine wpList_store_row (o := ⟨none, _, _, _, _, _⟩) rfl 33 (.tmp 6) (.tmp 10) rfl g4 33 _ (keyC fin) (by with_unfolding_all rfl) (by with_unfolding_all rfl) n4.row (keyC_same zeroKey_length HFL.out) (Tryd.sizeKey fin HFL.out) (keyC_one fin) ?_); intro w5 p5))
  have b5 := (laid_put n4 p5).1
  have B5 := Lib.hid (below_size B3.out b5)
  have R15 := Lib.hid (R13.out.kept b5)
  have R45 := Lib.hid p5.row
  have hg4 : w.heap.size ≤ g4 := by rw [n4.spot]; exact B3.out.size
  clear b5 n4 p5 B3 R13
  refine (note_nil _ _).mono ?_
  intro e w6 h
  obtain ⟨⟨xe, he⟩, hw⟩ := h
  subst he hw
  have R16 := R15
  have R46 := R45
  go_wp2_with (first
    | (with_reducible refine wpList_load_row (o := ⟨some 14, _, _, _, _, _⟩) rfl 33 (.tmp 6) rfl g4 (by with_unfolding_all rfl) 33 (keyC fin) (0, 0) (.array 32 5) (by with_unfolding_all exact R46.out) Tryd.underlying33 rfl (Tryd.sizeKey fin HFL.out) ?_)
    | ((with_reducible refine wpList_store_row (o := ⟨none, _, _, _, _, _⟩) rfl 33 (.tmp 4) (.tmp 14) rfl g1 33 _ (keyC fin) (by with_unfolding_all rfl) (by with_unfolding_all rfl) R16.out (keyC_same zeroKey_length HFL.out) (Tryd.sizeKey fin HFL.out) (keyC_one fin) ?_); intro w9 p9))
  refine bodyPost_ret (results_cell_row rfl _ _ g1 33 (keyC fin) (0, 0) (.array 32 5) rfl p9.row Tryd.underlying33 rfl (Tryd.sizeKey fin HFL.out)) rfl ⟨rfl, ?_⟩
  exact p9.below B5.out B5.out.size hg1
end Go.Proofs.YtckpnkohaaebdaaDoor
end
section
namespace Go.Proofs.YtckpnkohaaebdaaDoor
open Go.RowKit
set_option linter.unusedVariables false
set_option maxRecDepth 20000
theorem clone_any (w : World) (v : Value) (l : List UInt8) (h : Bs w v l) (hl : l.length ≤ 140737488355000) :
    Calls Tryd.prog 50 #[v] w fun e w' => ∃ v', e = .returned v' ∧ OwnB w' w.heap.size 5 v' l ∧ Below w.heap.size w w' := by
  have HH := Lib.hid h
  obtain ⟨A, c, rfl, h1, h2, h3⟩ := h
  rcases A with _ | ad
  · have hl0 : l = [] := by
      rcases l with _ | ⟨b, l⟩
      · rfl
      · obtain ⟨_, _, h, _⟩ := h3 (by simp)
        cases h
    subst hl0
    clear h3
    have hq : ∀ (w : World), (binOp .eql 27 (.slice none 0 c) (.slice none 0 0)).run Tryd.prog w = .ok (.bool true) w := fun w => Lib.run_eql_slice_nil w _ _ none 0 c 0 0 Tryd.underlying27
    go_enter Tryd.func50, Tryd.ntmps50
    go_wp2
    go_ret
    exact ⟨_, rfl, OwnB.nil _ _ _, Below.refl _ _⟩
  · clear h3
    have hq : ∀ (w : World), (binOp .eql 27 (.slice (some ad) l.length c) (.slice none 0 0)).run Tryd.prog w = .ok (.bool false) w := fun w => Lib.run_eql_slice_nil w _ _ (some ad) l.length c 0 0 Tryd.underlying27
    have E : Hid (OwnB (w.alloc (.cells #[] 5)) w.heap.size 5 (.slice (some ⟨w.heap.size, 0, none⟩) 0 0) []) := World.ownsRow_lit (base := w.heap.size) (e := 5) (size := 1) w #[] 0 (Nat.le_refl _) (by simp [maxLen]) rfl
    have hb := ((Below.refl _ w).alloc (Nat.le_refl _) (.cells #[] 5))
    have HB := Lib.hid hb
    clear hb
    go_enter Tryd.func50, Tryd.ntmps50
    go_wp2_with (at_builtin; refine wpList_appB _ (o := ⟨some 7, _, _, _, _, _⟩) rfl (.tmp 5) (.tmp 6) 27 rfl w 5 (by kernel_rfl) Tryd.underlying27 _ _ [] l rfl rfl E.out (HH.out.below HB.out) (by simp; omega) HB.out ?_; intro v6 w6 own6 b6)
    go_ret
    exact ⟨_, rfl, own6, b6⟩
end Go.Proofs.YtckpnkohaaebdaaDoor
end
section
namespace Go.Proofs.YtckpnkohaaebdaaDoor
open Go.RowKit
set_option linter.unusedVariables false
set_option maxRecDepth 20000
theorem Bss.own {w : World} {base : Nat} {e : TypeId} {v : Value} {xs : List Value} {ls : List (List UInt8)} (h : w.ownsRow base e 1 v ls.length xs) (hl : xs.length = ls.length) (hb : ∀ j (h1 : j < xs.length) (h2 : j < ls.length), Bs w xs[j] ls[j]) : Bss w v ls := by
  have hc := fun g hg => World.ownsRow.cells h (g := g) hg
  rcases h.2 with ⟨rfl, h0⟩ | ⟨g, cap, cur, rfl, _, _, h1, h2, _⟩
  · exact ⟨none, 0, by rw [h0], by omega, by simp [maxLen], fun h => by omega⟩
  · refine ⟨_, cap, rfl, h1, h2, fun _ => ⟨g, 0, rfl, fun j hj => ⟨xs[j]'(by omega), ?_, hb j (by omega) hj⟩⟩⟩
    have := hc g rfl j (xs[j]'(by omega)) (by simp [hl, hj])
    have hadd : (⟨g, 0, none⟩ : Addr).add j = ⟨g, 0 + j, none⟩ := by unfold Addr.add; split <;> simp_all
    rwa [hadd] at this
/-- A list of bytes whose row is none of lists that the call itself has laid (from base on). -/
def El (base : Nat) (w : World) (u : Value) (l : List UInt8) : Prop :=
  Bs w u l ∧ (0 < l.length → ∀ b off n c, u = .slice (some ⟨b, off, none⟩) n c → b < base ∨ ∃ cs ty fr, w.heap[b]? = some (.cells cs ty fr) ∧ ty ≠ 27)
theorem El.old {w w' : World} {u : Value} {l : List UInt8} {base : Nat} (h : Bs w u l) (hb : Below w.heap.size w w') (hs : w.heap.size ≤ base) : El base w' u l := by
  refine ⟨h.below hb, fun hl b off n c hu => .inl ?_⟩
  obtain ⟨A, c', hv, _, _, h3⟩ := h
  obtain ⟨b', off', hA, hc⟩ := h3 hl
  rw [hu] at hv
  injection hv with e1 _ _
  rw [hA] at e1
  injection e1 with e1
  injection e1 with e1 _ _
  have := World.block_lt_of_cell? w _ (hc 0 hl)
  simp only at this
  omega
theorem El.own {w : World} {u : Value} {l : List UInt8} {base base' : Nat} (h : OwnB w base' 5 u l) : El base w u l := by
  refine ⟨h.bs, fun hl b off n c hu => .inr ?_⟩
  obtain ⟨cur, hc⟩ := h.spot (k := b) (by rw [hu]; simp [Value.ownBlock])
  exact ⟨cur, _, _, hc, by decide⟩
theorem El.below {w w' : World} {u : Value} {l : List UInt8} {base : Nat} (h : El base w u l) (hb : Below w.heap.size w w') : El base w' u l := by
  refine ⟨h.1.below hb, fun hl b off n c hu => ?_⟩
  rcases h.2 hl b off n c hu with h1 | ⟨cs, ty, fr, h1, h2⟩
  · exact .inl h1
  · exact .inr ⟨cs, ty, fr, (hb.block b (Array.getElem?_eq_some_iff.1 h1).1).trans h1, h2⟩
theorem El.grown {w w' : World} {u v : Value} {l : List UInt8} {base n : Nat} {xs : List Value} (h : El base w u l) (ho : w.ownsRow base 27 1 v n xs) (hg : w.grownBy w' v.ownBlock) : El base w' u l := by
  have spot : ∀ k, v.ownBlock = some k → base ≤ k ∧ ∃ cur, w.heap[k]? = some (.cells cur 27 (0, 0)) := fun k hk => by
    rcases ho.2 with ⟨rfl, _⟩ | ⟨g, cap, cur, rfl, hb, hc, _⟩
    · cases hk
    · obtain rfl : g = k := by simpa [Value.ownBlock] using hk
      exact ⟨hb, cur, hc⟩
  have far : ∀ b, (b < base ∨ ∃ cs ty fr, w.heap[b]? = some (.cells cs ty fr) ∧ ty ≠ 27) → some b ≠ v.ownBlock := fun b hb e => by
    obtain ⟨h1, cur, h2⟩ := spot b e.symm
    rcases hb with hb | ⟨cs, ty, fr, h3, h4⟩
    · omega
    · rw [h2] at h3
      injection h3 with h3
      injection h3 with _ h3 _
      exact h4 h3.symm
  obtain ⟨⟨A, c, hv, h1, h2, h3⟩, hk⟩ := h
  refine ⟨⟨A, c, hv, h1, h2, fun hl => ?_⟩, fun hl b off n c hu => ?_⟩
  · obtain ⟨b, off, hA, hc⟩ := h3 hl
    refine ⟨b, off, hA, fun j hj => ?_⟩
    have hlt := World.block_lt_of_cell? w _ (hc j hj)
    have e := hg.block b hlt (far b (hk hl b off l.length c (by rw [hv, hA])))
    rw [← hc j hj]
    simp only [World.cell?, e]
  · rcases hk hl b off n c hu with h4 | ⟨cs, ty, fr, h4, h5⟩
    · exact .inl h4
    · exact .inr ⟨cs, ty, fr, (hg.block b (Array.getElem?_eq_some_iff.1 h4).1 (far b (.inr ⟨cs, ty, fr, h4, h5⟩))).trans h4, h5⟩

/-- The call's own list of lists. -/
def OwnSs (w : World) (base : Nat) (v : Value) (ls : List (List UInt8)) : Prop :=
  ∃ xs, w.ownsRow base 27 1 v ls.length xs ∧ xs.length = ls.length ∧ ∀ j (h1 : j < xs.length) (h2 : j < ls.length), El base w xs[j] ls[j]
theorem OwnSs.bss {w : World} {base : Nat} {v : Value} {ls : List (List UInt8)} (h : OwnSs w base v ls) : Bss w v ls := by
  obtain ⟨xs, h1, h2, h3⟩ := h
  exact Bss.own h1 h2 fun j a b => (h3 j a b).1
theorem OwnSs.below {w w' : World} {base : Nat} {v : Value} {ls : List (List UInt8)} (h : OwnSs w base v ls) (hb : Below w.heap.size w w') : OwnSs w' base v ls := by
  obtain ⟨xs, h1, h2, h3⟩ := h
  exact ⟨xs, World.ownsRow.kept (row := none) h1 ⟨hb.os, hb.tape, hb.output, hb.size, fun k hk _ => hb.block k hk⟩ (by cases v.ownBlock <;> simp), h2, fun j a b => (h3 j a b).below hb⟩
theorem Bs.isSlice2 {w : World} {u : Value} {l : List UInt8} (h : Bs w u l) : u.oneCell' = true := by
  obtain ⟨A, c, rfl, _⟩ := h
  rfl
/-- append of one more. -/
theorem wpList_appSs1 {P : Program} {w : World} {ops : Array Oper} {rest : List Oper} {o : Oper} {a : Act} {Q : Exit → Act → World → Prop} (hgd : o.guard = none) (s x : Operand) (t : TypeId)
    (ho : o.op = .call { callee := .builtin .append, args := #[s, x], argTypes := #[t, t] })
    (base : Nat) (hinfo : (P.info? 27).map (fun i => (i.zero, i.size, i.bytes)) = some (some (.slice none 0 0), 1, 24)) (ht : P.underlying t = some (.slice 27))
    (v u1 : Value) (g : Nat) (ls : List (List UInt8)) (b1 : List UInt8) (hs : a.eval s = v) (hx : a.eval x = .slice (some ⟨g, 0, none⟩) 1 1) (hg : RowAt w g 27 #[u1])
    (hown : OwnSs w base v ls) (h1 : El base w u1 b1) (hlen : ls.length ≤ 1000000) (hb : base ≤ w.heap.size)
    (h : ∀ v' w', OwnSs w' base v' (ls ++ [b1]) → w.grownBy w' v.ownBlock → (∀ k, v.ownBlock = some k → base ≤ k) → wpList P ops Q rest (a.put o.dst v') w') : wpList P ops Q (o :: rest) a w := by
  obtain ⟨i0, hi, hz0, hz1, hz2⟩ := info_parts hinfo
  obtain ⟨xs, hx1, hx2, hx3⟩ := hown
  refine wpList_append_own _ hgd s x t ho base 27 i0 (.slice none 0 0) 1 24 ht hi hz0 hz1 hz2 rfl (by decide) v ls.length xs hs hx1 ⟨g, 0, none⟩ 1 1 [u1] hx rfl (fun j y hj => ?_) (fun y hy => ?_) (by unfold maxLen; omega) (by omega) hb ?_
  · have hj2 := (List.getElem?_eq_some_iff.1 hj).1
    have hadd : (⟨g, 0, none⟩ : Addr).add j = ⟨g, j, none⟩ := by unfold Addr.add; split <;> simp_all
    rw [hadd, hg.cell j]
    simpa using hj
  · obtain rfl : y = u1 := by simpa using hy
    exact h1.1.isSlice2
  · intro v' w' ho' hg' _
    refine h v' w' ⟨xs ++ [u1], by rw [List.length_append]; exact ho', by simp [hx2], fun j a1 a2 => ?_⟩ hg' (fun k hk => (World.ownsRow.lt hx1 k hk).1)
    rcases Nat.lt_or_ge j xs.length with hlt | hge
    · rw [List.getElem_append_left hlt, List.getElem_append_left (by omega)]
      exact (hx3 j hlt (by omega)).grown hx1 hg'
    · obtain rfl : j = xs.length := by rw [List.length_append] at a1; simp at a1; omega
      have e1 : (xs ++ [u1])[xs.length] = u1 := by simp
      have e2 : (ls ++ [b1])[xs.length] = b1 := by simp [hx2]
      rw [e1, e2]
      exact h1.grown hx1 hg'
end Go.Proofs.YtckpnkohaaebdaaDoor
end
section
namespace Go.Proofs.YtckpnkohaaebdaaDoor
open Go.RowKit
set_option linter.unusedVariables false
set_option maxRecDepth 20000

theorem El.new {w : World} {base base' : Nat} {u : Value} {l : List UInt8} (h : OwnB w base' 5 u l) : El base w u l := El.own h
theorem back_below {w w' : World} {g : Nat} {t : TypeId} {cs : Array Value} (h : RowAt w g t cs) (hg : w.grownBy w' (some g)) (h' : RowAt w' g t cs) : Below w.heap.size w w' :=
  ⟨hg.os, hg.tape, hg.output, hg.size, fun k hk => by
    by_cases e : k = g
    · rw [e]; exact h'.trans h.symm
    · exact hg.block k hk (fun e2 => by injection e2 with e2; exact e e2)⟩
theorem OwnSs.nil (w : World) (base : Nat) : OwnSs w base (.slice none 0 0) [] := ⟨[], World.ownsRow_nil _ _ _ _, rfl, fun j h => by simp at h⟩
theorem cell_put {w : World} {g : Nat} {t : TypeId} {cs : Array Value} (hr : RowAt w g t cs) (i : Nat) (u : Value) (b o : Nat) (h : ¬ (b = g ∧ o = i)) : (w.setCell ⟨g, i, none⟩ u).cell? ⟨b, o, none⟩ = w.cell? ⟨b, o, none⟩ := by
  by_cases e : b = g
  · subst e
    rw [(hr.put i u).cell, hr.cell]
    have : ¬ i = o := fun e => h ⟨rfl, e.symm⟩
    simp [this]
  · exact World.cell?_of_block (a := ⟨b, o, none⟩) (heap_setCell_other w ⟨g, i, none⟩ b u e)
theorem Bs.put {w : World} {v : Value} {l : List UInt8} (h : Bs w v l) {g : Nat} {t : TypeId} {cs : Array Value} (hr : RowAt w g t cs) (i : Nat) (u : Value) (h1 : ∀ x, cs[i]? ≠ some (.int .u8 x)) : Bs (w.setCell ⟨g, i, none⟩ u) v l := by
  obtain ⟨A, c, hv, p1, p2, p3⟩ := h
  refine ⟨A, c, hv, p1, p2, fun hl => ?_⟩
  obtain ⟨b, off, hA, hc⟩ := p3 hl
  refine ⟨b, off, hA, fun j hj => ?_⟩
  rw [cell_put hr i u b (off + j) (fun ⟨e1, e2⟩ => ?_)]
  · exact hc j hj
  · have := hc j hj
    rw [e1, e2, hr.cell] at this
    exact h1 _ this
theorem Bss.put {w : World} {v : Value} {ls : List (List UInt8)} (h : Bss w v ls) {g : Nat} {t : TypeId} {cs : Array Value} (hr : RowAt w g t cs) (i : Nat) (u : Value) (h1 : ∀ x, cs[i]? ≠ some (.int .u8 x)) (h2 : ∀ A n c, cs[i]? ≠ some (.slice A n c)) : Bss (w.setCell ⟨g, i, none⟩ u) v ls := by
  obtain ⟨A, c, hv, p1, p2, p3⟩ := h
  refine ⟨A, c, hv, p1, p2, fun hl => ?_⟩
  obtain ⟨b, off, hA, hc⟩ := p3 hl
  refine ⟨b, off, hA, fun j hj => ?_⟩
  obtain ⟨x, hx, hb⟩ := hc j hj
  refine ⟨x, ?_, hb.put hr i u h1⟩
  rw [cell_put hr i u b (off + j) (fun ⟨e1, e2⟩ => ?_)]
  · exact hx
  · obtain ⟨A', c', hv', _⟩ := hb
    rw [e1, e2, hr.cell, hv'] at hx
    exact h2 _ _ _ hx
set_option maxHeartbeats 2000000 in
theorem Inputs_row (w : World) (kp : Bool) (g n : Nat) (s : Value) (ls : List (List UInt8)) (hr : RowAt w g 83 (meterC kp n s)) (hb1 : Bss (w.setCell ⟨g, 2, none⟩ (.int .i32 1)) s ls) (hl : ls.length ≤ 1000000) (hs : ∀ l ∈ ls, l.length ≤ 1000000) :
    Calls Tryd.prog 25 #[.pointer (some ⟨g, 0, none⟩)] w fun e w' => ∃ v, e = .returned v ∧ Bss w' v ls ∧ Below w.heap.size w w' := by
  have c2 : w.cell? ⟨g, 2, none⟩ = some (.int .i32 0) := hr.cell 2
  have z2 : w.frozen? ⟨g, 2, none⟩ = false := hr.frozen 2
  have HR0 := Lib.hid hr
  have R1 : Hid (RowAt (w.setCell ⟨g, 2, none⟩ (.int .i32 1)) g 83 #[.bool kp, .int .i64 (n : Int), .int .i32 1, .int .u32 0, s]) := hr.put 2 (.int .i32 1)
  have B1 := Lib.hid hb1
  have G1 := Lib.hid (put_grown w g 2 (.int .i32 1))
  have HS := Lib.hid hs
  clear hr hb1 hs
  go_enter_defers Tryd.func25, Tryd.ntmps25
  go_wp2_with fail
  refine (Go.MuLone.lock_free muLib ⟨g, 2, none⟩ _ c2 z2).mono ?_
  intro e w1 h
  obtain ⟨he, hw⟩ := h
  subst he
  rw [← hw] at R1 B1 G1
  clear hw c2 z2
  have c4 : w1.cell? ⟨g, 4, none⟩ = some s := R1.out.cell 4
  obtain ⟨A, c, rfl, q1, q2, q3⟩ := id B1.out
  unfold maxLen at q2
  go_wp2_with fail
  go_loopw [3, 20] (fun v i wr => ∃ k : Nat, k ≤ ls.length ∧ i = .int .i64 (k : Int) ∧ OwnSs wr w1.heap.size v (ls.take k) ∧ Below w1.heap.size w1 wr) (fun _ i _ => ls.length - (intOf i).toNat)
  case atStart => exact ⟨0, by omega, rfl, OwnSs.nil _ _, Below.refl _ _⟩
  case round =>
    obtain ⟨k, hk, rfl, hO, hE⟩ := hrel
    have E := Lib.hid hE
    have SS := Lib.hid hO
    clear hE hO
    by_cases hlt : k < ls.length
    · obtain ⟨b, off, rfl, hc⟩ := q3 (by omega)
      obtain ⟨u, hcu, hbu⟩ := hc k hlt
      have hcell : wr.cell? ⟨b, off + k, none⟩ = some u := (E.out.cell (p := ⟨b, off + k, none⟩) (World.block_lt_of_cell? w1 _ hcu)).trans hcu
      obtain ⟨l, hl2⟩ : ∃ l, l = ls[k] := ⟨_, rfl⟩
      rw [← hl2] at hbu
      have HBU := Lib.hid (hbu.below E.out)
      have HTK : Hid (ls.take k ++ [l] = ls.take (k + 1)) := by rw [hl2]; exact (List.take_succ_eq_append_getElem hlt).symm
      have HLL : Hid (l.length ≤ 1000000) := HS.out l (by rw [hl2]; exact List.getElem_mem hlt)
      have HTL : Hid ((ls.take k).length ≤ 1000000) := by show _ ≤ _; rw [List.length_take]; omega
      have hw1 : IntKind.i64.wrap ((k : Int) + 1) = (k : Int) + 1 := IntWalk.i64_in _ (by omega)
      have hlt2 : (k : Int) < (ls.length : Int) := by omega
      have hq0 : ¬ ((k : Int) < 0) := by omega
      obtain ⟨UA, uc, rfl, _⟩ := id hbu
      clear hc hcu hbu hl2 q3
      go_wp2_with fail
      refine (clone_any wr _ l HBU.out (by have := HLL.out; omega)).mono ?_
      intro e w5 hh
      obtain ⟨v5, he, h5, b5⟩ := hh
      subst he
      have O5 := Lib.hid h5
      have E5 := Lib.hid (below_size E.out b5)
      have S5 := Lib.hid (SS.out.below b5)
      have HZ5 : Hid (w1.heap.size ≤ w5.heap.size) := E5.out.size
      clear b5 h5
      obtain ⟨A5, c5, rfl, _⟩ := O5.out.shape
      go_wp2_with (at_builtin; refine wpList_appSs1 (o := ⟨some 28, _, _, _, _, _⟩) rfl (.tmp 24) (.tmp 27) 38 rfl w1.heap.size Tryd.infoS Tryd.underlying38 _ _ w5.heap.size (ls.take k) l rfl rfl (by exact RowAt.new w5 _ _) (S5.out.below (alloc_below _ _)) (El.own (base := w1.heap.size) (O5.out.below (alloc_below _ _))) HTL.out (by have := HZ5.out; simp; omega) ?_; intro v6 w6 own6 gr6 ow6; rw [HTK.out] at own6; have S6 := Lib.hid own6; have E6 := Lib.hid ((E5.out.alloc HZ5.out (.cells #[.slice A5 l.length c5] 27)).grown gr6 (by have := HZ5.out; simp; omega) ow6); clear own6 gr6 ow6)
      go_roundw
      case rel => exact ⟨k + 1, by omega, by go_num, S6.out, E6.out⟩
      case measure => simp [intOf]; omega
    · have hkn : k = ls.length := by omega
      subst hkn
      have S6 : Hid (OwnSs wr w1.heap.size u3 ls) := by have := SS.out; rwa [List.take_of_length_le (Nat.le_refl _)] at this
      clear SS q3 hlt
      go_wp2_with fail
      refine leaves_cons (f := 49) (args := #[.pointer (some ⟨g, 2, none⟩)]) (by simp) (by simp [go_sem]) ?_
      have R2 := Lib.hid (R1.out.kept E.out)
      refine (Go.MuLone.unlock_deferred muLib ⟨g, 2, none⟩ .returning _ (R2.out.cell 2) (R2.out.frozen 2)).mono ?_
      intro e u' w5 h
      obtain ⟨h1, h2, h3⟩ := h
      subst h1 h2 h3
      refine ⟨_, results_tmp rfl _ _ _, _, rfl, ?_, ?_⟩
      · exact S6.out.bss.put R2.out 2 _ (fun x => by simp) (fun A n c => by simp)
      · have g1 : w.grownBy wr (some g) := G1.out.trans ⟨E.out.os, E.out.tape, E.out.output, E.out.size, fun k hk _ => E.out.block k hk⟩
        exact back_below HR0.out (g1.trans (put_grown wr g 2 (.int .i32 0))) (R2.out.put 2 (.int .i32 0))
theorem Inputs_keep (w0 w : World) (g n : Nat) (ls : List (List UInt8)) (hk : MeetK w0 g n ls w) (hl : ls.length ≤ 1000000) (hs : ∀ l ∈ ls, l.length ≤ 1000000) :
    Calls Tryd.prog 25 #[.pointer (some ⟨g, 0, none⟩)] w fun e w' => ∃ v, e = .returned v ∧ Bss w' v ls ∧ Below w.heap.size w w' := by
  obtain ⟨s, vs, hr, ho, hv, he⟩ := hk.rows
  refine Inputs_row w true g n s ls hr ?_ hl hs
  have h1 := own_put_other ho hr (by decide) 2 (.int .i32 1)
  rw [hv] at h1
  exact Bss.own h1 hv fun j a b => OwnB.bs (own_put_other (he j a b) hr (by decide) 2 (.int .i32 1))
theorem Inputs_none (w : World) (g n : Nat) (hr : RowAt w g 83 (meterC false n (.slice none 0 0))) :
    Calls Tryd.prog 25 #[.pointer (some ⟨g, 0, none⟩)] w fun e w' => ∃ v, e = .returned v ∧ Bss w' v [] ∧ Below w.heap.size w w' :=
  Inputs_row w false g n _ [] hr ⟨none, 0, rfl, Nat.le_refl _, by simp [maxLen], fun h => absurd h (by simp)⟩ (by simp) (by simp)
set_option maxHeartbeats 1000000 in
theorem Inputs_nil (w : World) : Calls Tryd.prog 25 #[.pointer none] w fun e w' => e = .returned (.slice none 0 0) ∧ w = w' := by
  go_enter Tryd.func25, Tryd.ntmps25
  go_wp2
  go_ret
  exact ⟨rfl, rfl⟩
end Go.Proofs.YtckpnkohaaebdaaDoor
end
section
namespace Go.Proofs.YtckpnkohaaebdaaDoor
open Go.RowKit
set_option linter.unusedVariables false

theorem keyC_put (l : List UInt8) (i : Nat) (b : UInt8) : (keyC l).setIfInBounds i (.int .u8 (b.toNat : Int)) = keyC (l.set i b) := by
  unfold keyC
  rw [← cellsB_set]
  simp
theorem keyC_cell {w : World} {g : Nat} {t : TypeId} {l : List UInt8} (h : RowAt w g t (keyC l)) (i : Nat) (hi : i < l.length) : w.cell? ⟨g, i, none⟩ = some (.int .u8 (l[i].toNat : Int)) := by
  rw [h.cell i]
  have := cellsB_get l i hi
  simpa [keyC] using this
theorem Tryd.buildK (w : World) : (Instr.build 33 #[]).run Tryd.prog w = .ok (keyV zeroKey) w := by kernel_rfl





set_option maxHeartbeats 1000000 in
theorem refBytes_any (w : World) (l : List UInt8) (hl : l.length = 32) :
    Calls Tryd.prog 54 #[keyV l] w (RetBs w l) := by
  have HL := Lib.hid hl
  have hl1 : l.length ≤ 32 := by omega
  have hl2 : 32 ≤ l.length := by omega
  clear hl
  go_enter Tryd.func54, Tryd.ntmps54
  go_wp2_with ((with_reducible refine wpList_box_row (o := ⟨some 1, _, _, _, _, _⟩) rfl 33 (.tmp 0) rfl (keyC l) (by with_unfolding_all rfl) ?_); intro g1 w1 n1)
  go_loopw [3, 4] (fun v i wr => ∃ k : Nat, k ≤ l.length ∧ i = .int .i64 k ∧ OwnB wr w1.heap.size 5 v (l.take k) ∧ Below w1.heap.size w1 wr) (fun _ i _ => l.length - (intOf i).toNat)
  case atStart => exact ⟨0, Nat.zero_le _, rfl, OwnB.nil _ _ _, Below.refl _ _⟩
  case round =>
    obtain ⟨k, hk, rfl, hown, hb⟩ := hrel
    have HO := Lib.hid hown
    have HB := Lib.hid hb
    have hsz := hb.size
    clear hown hb
    by_cases hlt : k < l.length
    · have hcell := keyC_cell (n1.row.kept HB.out) k hlt
      have HT := Lib.hid (List.take_succ_eq_append_getElem hlt)
      go_wp2_with (at_builtin; refine wpList_appB _ rfl (.tmp 9) (.tmp 13) 27 rfl w1 5 Tryd.infoB Tryd.underlying27 _ _ _ [l[k]] rfl rfl (HO.out.alloc _) (Bs.lit1 _ _ _ _ rfl) (by simp; omega) (HB.out.alloc hsz _) ?_; intro v2 w2 hown2 hb2)
      go_roundw
      case rel => exact ⟨k + 1, by omega, by go_num, by rw [HT.out]; exact hown2, hb2⟩
      case measure => simp [intOf]; omega
    · have HO2 : Hid (OwnB wr w1.heap.size 5 u3 l) := by
        have := HO.out; rwa [List.take_of_length_le (by omega)] at this
      go_wp2
      go_ret
      exact ⟨_, rfl, HO2.out.bs, below_size n1.below HB.out⟩
end Go.Proofs.YtckpnkohaaebdaaDoor
end
section
namespace Go.Proofs.YtckpnkohaaebdaaDoor
open Go.RowKit

theorem Tryd.sizeOfB (w : World) : (sizeOf 5).run Tryd.prog w = .ok 1 w := by kernel_rfl
theorem Tryd.eqKeyIn (a b : List UInt8) (ha : a.length = 32) (hb : b.length = 32) (w : World) :
    (Op.equalIn 10000 33 (.agg (keyC a)) (.agg (keyC b))).run Tryd.prog w = .ok (a == b) w :=
  run_equalIn_bytes w 9998 33 5 32 Tryd.underlying33 Tryd.underlying5 Tryd.sizeOfB a b ha hb
theorem Tryd.eqGuardKey : Tryd.prog.eqGuardType Tryd.prog.depth 33 = false := by kernel_rfl
theorem zeroLit : (#[.int .u8 0, .int .u8 0, .int .u8 0, .int .u8 0, .int .u8 0, .int .u8 0, .int .u8 0, .int .u8 0, .int .u8 0, .int .u8 0, .int .u8 0, .int .u8 0, .int .u8 0, .int .u8 0, .int .u8 0, .int .u8 0, .int .u8 0, .int .u8 0, .int .u8 0, .int .u8 0, .int .u8 0, .int .u8 0, .int .u8 0, .int .u8 0, .int .u8 0, .int .u8 0, .int .u8 0, .int .u8 0, .int .u8 0, .int .u8 0, .int .u8 0, .int .u8 0] : Array Value) = keyC zeroKey := rfl
theorem Tryd.eqZeroIn (w : World) : (Op.equalIn 10000 33 (.agg (keyC zeroKey)) (.agg #[.int .u8 0, .int .u8 0, .int .u8 0, .int .u8 0, .int .u8 0, .int .u8 0, .int .u8 0, .int .u8 0, .int .u8 0, .int .u8 0, .int .u8 0, .int .u8 0, .int .u8 0, .int .u8 0, .int .u8 0, .int .u8 0, .int .u8 0, .int .u8 0, .int .u8 0, .int .u8 0, .int .u8 0, .int .u8 0, .int .u8 0, .int .u8 0, .int .u8 0, .int .u8 0, .int .u8 0, .int .u8 0, .int .u8 0, .int .u8 0, .int .u8 0, .int .u8 0])).run Tryd.prog w = .ok true w := by
  rw [zeroLit, Tryd.eqKeyIn zeroKey zeroKey zeroKey_length zeroKey_length w, beq_self_eq_true]
end Go.Proofs.YtckpnkohaaebdaaDoor
end
section
namespace Go.Proofs.YtckpnkohaaebdaaDoor
open Go.RowKit
set_option linter.unusedVariables false

theorem range_all (a b : List UInt32) (h : a.length = b.length) : ((List.range a.length).all fun i => a.getD i 0 == b.getD i 0) = (a == b) := by
  rw [Bool.eq_iff_iff, List.all_eq_true, beq_iff_eq]
  constructor
  · intro hall
    apply List.ext_getElem h
    intro i h1 h2
    have := hall i (List.mem_range.2 h1)
    simpa [h1, h2] using this
  · rintro rfl i _
    exact beq_self_eq_true _
theorem words_eqIn {P : Program} (w : World) (d : Nat) (t e : TypeId) (n : Nat) (ht : P.underlying t = some (.array n e)) (he : P.underlying e = some (.int .u32)) (hs : ∀ w, (sizeOf e).run P w = .ok 1 w)
    (a b : List UInt32) (ha : a.length = n) (hb : b.length = n) : (Op.equalIn (d + 2) t (.agg (wordsC a)) (.agg (wordsC b))).run P w = .ok (a == b) w := by
  rw [← range_all a b (ha.trans hb.symm), ha, List.range_eq_range', Op.equalIn]
  simp only [Sem.run_bind, run_underlying ht, Result.andThen_ok, hs, Std.Legacy.Range.forIn_eq_forIn_range', Std.Legacy.Range.size, Nat.sub_zero, Nat.add_sub_cancel, Nat.div_one]
  have hin : ∀ i ∈ List.range' 0 n 1, i < n := fun i hi => by
    have := (List.mem_range'_1.1 hi).2
    omega
  generalize List.range' 0 n 1 = r at hin ⊢
  induction r with
  | nil => simp
  | cons i r ih =>
    have hi : i < n := hin i (by simp)
    have at_ : ∀ l : List UInt32, l.length = n → (part e (wordsC l) (i * 1)).run P w = .ok (.int .u32 ((l.getD i 0).toNat : Int)) w := fun l hl => by
      simp [part, isAgg, run_underlying he, wordsC_get l i (by omega)]
    have one : (Op.equalIn (d + 1) e (.int .u32 ((a.getD i 0).toNat : Int)) (.int .u32 ((b.getD i 0).toNat : Int))).run P w = .ok (a.getD i 0 == b.getD i 0) w := by
      rw [run_equalIn_int w d e .u32 .u32 _ _ he]
      congr 1
      rw [Bool.eq_iff_iff, beq_iff_eq, beq_iff_eq, ← UInt32.toNat_inj]
      omega
    simp only [List.forIn_cons, Sem.run_bind, at_ a ha, at_ b hb, one, Result.andThen_ok, List.all_cons]
    cases hc : (a.getD i 0 == b.getD i 0)
    · simp
    · simp only [Bool.not_true, Bool.false_eq_true, if_false, Sem.run_pure, Result.andThen_ok, Bool.true_and]
      exact ih fun j hj => hin j (List.mem_cons_of_mem _ hj)

theorem bytes_eqIn {P : Program} (w : World) (d : Nat) (t e : TypeId) (n : Nat) (ht : P.underlying t = some (.array n e)) (he : P.underlying e = some (.int .u8)) (hs : ∀ w, (sizeOf e).run P w = .ok 1 w)
    (a b : List UInt8) (ha : a.length = n) (hb : b.length = n) : (Op.equalIn (d + 2) t (.agg (keyC a)) (.agg (keyC b))).run P w = .ok (a == b) w :=
  run_equalIn_bytes w d t e n ht he hs a b ha hb

/-- What is not wanted is passed by. -/
theorem still_skip {P : Program} {ops : Array Oper} {w : World} {Q : Act → Prop} {a : Act} {o : Oper} {rest : List Oper} (hw : Region.wanted o (yielded ops a.tmps) = false)
    (h : wpStill P ops w Q rest (a.put o.dst undef)) : wpStill P ops w Q (o :: rest) a := by
  refine wpStill_step fun K hK => ?_
  rw [hw]
  simp only [Bool.false_eq_true, if_false]
  exact hK _ h
/-- A whole array is read. -/
theorem still_load_row {P : Program} {ops : Array Oper} {w : World} {Q : Act → Prop} {a : Act} {o : Oper} {rest : List Oper} (ty : TypeId) (x : Operand) (ho : o.op = .load ty x) (hw : Region.wanted o (yielded ops a.tmps) = true)
    (g : Nat) (hx : a.eval x = .pointer (some ⟨g, 0, none⟩)) (t : TypeId) (cs : Array Value) (fr : Nat × Nat) (d : TypeDesc) (hg : w.heap[g]? = some (.cells cs t fr))
    (hu : P.underlying ty = some d) (hd : (match d with | .struct _ | .array _ _ => true | _ => false) = true) (hi : (P.info? ty).map (·.size) = some cs.size)
    (h : wpStill P ops w Q rest (a.put o.dst (.agg cs))) : wpStill P ops w Q (o :: rest) a := by
  refine wpStill_step fun K hK => ?_
  rw [if_pos hw]
  unfold Oper.still execOp
  simp only [ho, hx, Instr.loadAt, Instr.sureAddr, Sem.run_bind, Sem.run_pure, Result.andThen_ok, run_loadVar_row w g t ty cs fr d hg hu hd hi]
  exact ⟨rfl, hK _ h⟩

/-- A walk of a region that only reads, closed to whoever would open it. -/
structure StillG (P : Program) (ops : Array Oper) (w : World) (Q : Act → Prop) (l : List Oper) (a : Act) : Prop where
  out : wpStill P ops w Q l a
theorem StillG.nil {P : Program} {ops : Array Oper} {w : World} {Q : Act → Prop} {a : Act} (h : Q a) : StillG P ops w Q [] a := ⟨wpStill_nil h⟩
theorem StillG.step {P : Program} {ops : Array Oper} {w : World} {Q : Act → Prop} {a : Act} {o : Oper} {rest : List Oper} (hw : Region.wanted o (yielded ops a.tmps) = true)
    (h : ∀ K : Act → Prop, (∀ a, StillG P ops w Q rest a → K a) → o.still P a w K) : StillG P ops w Q (o :: rest) a :=
  ⟨wpStill_step fun K hK => by rw [if_pos hw]; exact h K fun a k => hK a k.out⟩
theorem StillG.skip {P : Program} {ops : Array Oper} {w : World} {Q : Act → Prop} {a : Act} {o : Oper} {rest : List Oper} (hw : Region.wanted o (yielded ops a.tmps) = false)
    (h : StillG P ops w Q rest (a.put o.dst undef)) : StillG P ops w Q (o :: rest) a := ⟨still_skip hw h.out⟩
theorem StillG.row {P : Program} {ops : Array Oper} {w : World} {Q : Act → Prop} {a : Act} {o : Oper} {rest : List Oper} (ty : TypeId) (x : Operand) (ho : o.op = .load ty x) (hw : Region.wanted o (yielded ops a.tmps) = true)
    (g : Nat) (hx : a.eval x = .pointer (some ⟨g, 0, none⟩)) (t : TypeId) (cs : Array Value) (fr : Nat × Nat) (d : TypeDesc) (hg : w.heap[g]? = some (.cells cs t fr))
    (hu : P.underlying ty = some d) (hd : (match d with | .struct _ | .array _ _ => true | _ => false) = true) (hi : (P.info? ty).map (·.size) = some cs.size)
    (h : StillG P ops w Q rest (a.put o.dst (.agg cs))) : StillG P ops w Q (o :: rest) a := ⟨still_load_row ty x ho hw g hx t cs fr d hg hu hd hi h.out⟩
theorem region_stillG {P : Program} {id : Nat} {Q : Exit → Act → World → Prop} {a : Act} {w : World} {l : List Oper} (hm : P.follows .mixedOrders = true) (hB : Region.lexB .any l.toArray = true)
    (h : StillG P l.toArray w.drew (fun a' => Q .normal a' w.drew) l a) : (Code.region id l.toArray true).wp P Q a w := wp_region_still_lit hm hB h.out
end Go.Proofs.YtckpnkohaaebdaaDoor
end
