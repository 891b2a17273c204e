/-
  Texts that belong together, merged: FrmD, FrmF. Conditions: as each theorem names them.
-/
import Derived.Test.YtmhhjdiilmgmoaaQFrmAH
import Derived.Test.YtmhhjdiilmgmoaaQFrmAF
import Derived.Laws.Tables
import Derived.Test.YtmhhjdiilmgmoaaQFrmAD
section
namespace Go.Proofs.Ytmhhjdiilmgmoaa
open Go.RowKit
set_option linter.unusedVariables false
set_option maxRecDepth 20000

/-- A type's zero is built. -/
theorem wpList_build0 {P : Program} {w : World} {ops : Array Oper} {rest : List Oper} {o : Oper} {a : Act} {Q : Exit → Act → World → Prop} (hgd : o.guard = none) (ty : TypeId) (ho : o.op = .build ty #[]) (z : Array Value)
    (hb : P.built ty [] = some z) (h : wpList P ops Q rest (a.put o.dst (.agg z)) w) : wpList P ops Q (o :: rest) a w :=
  wpList_plain hgd fun _ hK => by
    have hr := run_build (P := P) w ty #[] z hb
    unfold Oper.wp execOp
    simp only [ho]
    simp [hr]
    exact hK _ _ h
/-- Keys are stored in the midst of a row. -/
theorem wp_store_mid {P : Program} {w : World} {o : Oper} {a : Act} {K : Act → World → Prop} {Q : Exit → Act → World → Prop} (ty : TypeId) (x y : Operand) (ho : o.op = .store ty x y) (b off : Nat) (t : TypeId) (old new : List Value) (l : List UInt8)
    (hx : a.eval x = .pointer (some ⟨b, off, none⟩)) (hy : a.eval y = .agg (keyC l)) (hg : RowAt w b t old.toArray) (hl : off + l.length ≤ old.length) (hnew : old.take off ++ cellsB l ++ old.drop (off + l.length) = new) (hi : (P.info? ty).map (·.size) = some (cellsB l).length)
    (h : ∀ w', PutRow w b t new.toArray w' → K (a.put o.dst undef) w') : o.wp P a w K Q := by
  obtain ⟨i, hi, hz⟩ := Option.map_eq_some_iff.1 hi
  have hrun := run_storeCells_at (P := P) b off t (cellsB l) 0 old.toArray w hg (by rw [cellsB_length]; simpa using hl) (cellsB_one l)
  have he : ((old.toArray).toList.take (off + 0) ++ cellsB l ++ (old.toArray).toList.drop (off + 0 + (cellsB l).length)).toArray = new.toArray := by rw [← hnew, cellsB_length]; simp
  rw [he] at hrun
  have hcl : (keyC l).toList = cellsB l := rfl
  unfold Oper.wp execOp
  have hsz : (keyC l).size = (cellsB l).length := by rw [keyC_size, cellsB_length]
  simp [ho, Instr.storeAt, Instr.sureAddr, storeVar, hx, hy, sizeOf, typeInfo, hi, hz, Value.cells, hcl, hsz, hrun]
  refine h _ ⟨setRow_heap w b _ _ t _ hg, ⟨rfl, rfl, rfl, by simp, fun k _ hne => setRow_other w b k _ (fun e => hne (by rw [e]))⟩, by simp⟩
def zeroFr : Fr := ⟨0, 0, zeroKey, zeroKey, zeroKey, [], []⟩
def nilS : Value := .slice none 0 0
theorem zeroFr_ok : zeroFr.Ok := ⟨by decide, by decide, zeroKey_length, zeroKey_length, zeroKey_length⟩
theorem Try.zeroOfFr : (Try.prog.info? 28).map (·.zero) = some (some (.agg (frC zeroFr nilS nilS))) := by kernel_rfl
/-! The row of a frame, as it is written. -/
theorem frC_n (f : Fr) (b s : Value) (n : Nat) : (frC f b s).setIfInBounds 0 (.int .u32 (n : Int)) = frC { f with n := n } b s := by simp [frC, frL]
theorem frC_ack (f : Fr) (b s : Value) (n : Nat) : (frC f b s).setIfInBounds 1 (.int .u32 (n : Int)) = frC { f with ack := n } b s := by simp [frC, frL]
theorem frL_two (f : Fr) (b s : Value) : frL f b s = ([Value.int .u32 (f.n : Int), Value.int .u32 (f.ack : Int)] ++ cellsB f.eph ++ cellsB f.epoch ++ cellsB f.next) ++ [b, s] := by simp [frL]
theorem frC_tail {f : Fr} (h : f.Ok) (b s u : Value) (j : Nat) : (frC f b s).setIfInBounds (98 + j) u = (([Value.int .u32 (f.n : Int), Value.int .u32 (f.ack : Int)] ++ cellsB f.eph ++ cellsB f.epoch ++ cellsB f.next) ++ [b, s].set j u).toArray := by
  rw [frC, frL_two, List.setIfInBounds_toArray, List.set_append_right _ _ (by simp [cellsB_length, h.eph, h.epoch, h.next])]
  congr 3
  simp [cellsB_length, h.eph, h.epoch, h.next]
theorem frC_box {f : Fr} (h : f.Ok) (b s u : Value) (l : List UInt8) : (frC f b s).setIfInBounds 98 u = frC { f with box := l } u s := by
  have := frC_tail h b s u 0
  rw [this, frC, frL_two]; rfl
theorem frC_sign {f : Fr} (h : f.Ok) (b s u : Value) (l : List (List UInt8)) : (frC f b s).setIfInBounds 99 u = frC { f with sign := l } b u := by
  have := frC_tail h b s u 1
  rw [this, frC, frL_two]; rfl
theorem frL_eph_put {f : Fr} (h : f.Ok) (b s : Value) (l : List UInt8) (hl : l.length = 32) : (frL f b s).take 2 ++ cellsB l ++ (frL f b s).drop (2 + l.length) = frL { f with eph := l } b s := by
  rw [hl]
  have e : (frL f b s).drop (2 + 32) = cellsB f.epoch ++ (cellsB f.next ++ [b, s]) := by
    show (cellsB f.eph ++ (cellsB f.epoch ++ (cellsB f.next ++ [b, s]))).drop 32 = _
    rw [List.drop_left' (by rw [cellsB_length, h.eph])]
  rw [e]; simp [frL]
theorem frL_epoch_put {f : Fr} (h : f.Ok) (b s : Value) (l : List UInt8) (hl : l.length = 32) : (frL f b s).take 34 ++ cellsB l ++ (frL f b s).drop (34 + l.length) = frL { f with epoch := l } b s := by
  rw [hl]
  have e1 : (frL f b s) = (.int .u32 (f.n : Int) :: .int .u32 (f.ack : Int) :: cellsB f.eph) ++ (cellsB f.epoch ++ (cellsB f.next ++ [b, s])) := by simp [frL]
  have n1 : (Value.int .u32 (f.n : Int) :: .int .u32 (f.ack : Int) :: cellsB f.eph).length = 34 := by simp [cellsB_length, h.eph]
  rw [e1, List.take_left' n1, ← List.drop_drop, List.drop_left' n1, List.drop_left' (by rw [cellsB_length, h.epoch])]
  simp [frL]
theorem frL_next_put {f : Fr} (h : f.Ok) (b s : Value) (l : List UInt8) (hl : l.length = 32) : (frL f b s).take 66 ++ cellsB l ++ (frL f b s).drop (66 + l.length) = frL { f with next := l } b s := by
  rw [hl]
  have e1 : (frL f b s) = (.int .u32 (f.n : Int) :: .int .u32 (f.ack : Int) :: (cellsB f.eph ++ cellsB f.epoch)) ++ (cellsB f.next ++ [b, s]) := by simp [frL]
  have n1 : (Value.int .u32 (f.n : Int) :: .int .u32 (f.ack : Int) :: (cellsB f.eph ++ cellsB f.epoch)).length = 66 := by simp [cellsB_length, h.eph, h.epoch]
  rw [e1, List.take_left' n1, ← List.drop_drop, List.drop_left' n1, List.drop_left' (by rw [cellsB_length, h.next])]
  simp [frL]

/-- What wrong answers. -/
def wrongE (e : Int) (m k M K : Int) : Int := if e ≠ 0 then e else if m ≠ M ∨ k ≠ K then 51 else 0
set_option maxHeartbeats 1000000 in
theorem wrong_any (w : World) (e m k M K : Int) :
    Calls Try.prog 37 #[.int .i64 e, .agg #[.int .u64 m, .int .i64 k], .agg #[.int .u64 M, .int .i64 K]] w fun r w' => r = .returned (.int .i64 (wrongE e m k M K)) ∧ Below w.heap.size w w' := by
  by_cases h1 : e = 0
  · have d1 : (e != 0) = false := by simp [h1]
    by_cases h2 : m = M
    · have d2 : (m != M) = false := by simp [h2]
      by_cases h3 : k = K
      · have d3 : (k != K) = false := by simp [h3]
        have E : Hid (wrongE e m k M K = 0) := by show _ = _; simp [wrongE, h1, h2, h3]
        clear h1 h2 h3
        go_enter Try.func37, Try.ntmps37
        go_wp2
        go_ret
        exact ⟨by rw [E.out]; rfl, below_size (alloc_below _ _) (alloc_below _ _)⟩
      · have d3 : (k != K) = true := by simpa using h3
        have E : Hid (wrongE e m k M K = 51) := by show _ = _; simp [wrongE, h1, h3]
        clear h1 h2 h3
        go_enter Try.func37, Try.ntmps37
        go_wp2
        go_ret
        exact ⟨by rw [E.out]; rfl, below_size (alloc_below _ _) (alloc_below _ _)⟩
    · have d2 : (m != M) = true := by simpa using h2
      have E : Hid (wrongE e m k M K = 51) := by show _ = _; simp [wrongE, h1, h2]
      clear h1 h2
      go_enter Try.func37, Try.ntmps37
      go_wp2
      go_ret
      exact ⟨by rw [E.out]; rfl, below_size (alloc_below _ _) (alloc_below _ _)⟩
  · have d1 : (e != 0) = true := by simpa using h1
    have E : Hid (wrongE e m k M K = e) := if_pos h1
    clear h1
    go_enter Try.func37, Try.ntmps37
    go_wp2
    go_ret
    exact ⟨by rw [E.out]; rfl, below_size (alloc_below _ _) (alloc_below _ _)⟩

theorem Try.builtFr : Try.prog.built 28 [] = some (frC zeroFr nilS nilS) := by kernel_rfl

/-- Bytes that lie apart from three rows; keys that do. -/
def BsK (w : World) (v : Value) (l : List UInt8) (a b c : Nat) : Prop := Bs w v l ∧ (0 < l.length → ∀ k, v.ownBlock = some k → k ≠ a ∧ k ≠ b ∧ k ≠ c)
def KlK (w : World) (v : Value) (l : List (List UInt8)) (a b c : Nat) : Prop := Kl w v l ∧ (0 < l.length → ∀ k, v.ownBlock = some k → k ≠ a ∧ k ≠ b ∧ k ≠ c)
theorem BsK.grown {w w' : World} {v : Value} {l : List UInt8} {a b c r : Nat} (h : BsK w v l a b c) (hg : w.grownBy w' (some r)) (hr : r = a ∨ r = b ∨ r = c) : BsK w' v l a b c := by
  refine ⟨?_, h.2⟩
  obtain ⟨⟨A, cc, rfl, h1, h2, h3⟩, h4⟩ := h
  refine ⟨A, cc, rfl, h1, h2, fun hl => ?_⟩
  obtain ⟨q, off, rfl, hc⟩ := h3 hl
  refine ⟨q, off, rfl, fun j hj => hg.cell (hc j hj) fun e => ?_⟩
  have h5 := h4 hl q rfl
  injection e with e
  simp only at e
  omega
theorem KlK.grown {w w' : World} {v : Value} {l : List (List UInt8)} {a b c r : Nat} (h : KlK w v l a b c) (hg : w.grownBy w' (some r)) (hr : r = a ∨ r = b ∨ r = c) : KlK w' v l a b c := by
  refine ⟨?_, h.2⟩
  obtain ⟨⟨A, cc, rfl, h1, h2, h6, h3⟩, h4⟩ := h
  refine ⟨A, cc, rfl, h1, h2, h6, fun hl => ?_⟩
  obtain ⟨q, off, rfl, hc⟩ := h3 hl
  refine ⟨q, off, rfl, fun k l2 hk j u hj => hg.cell (hc k l2 hk j u hj) fun e => ?_⟩
  have h5 := h4 hl q rfl
  injection e with e
  simp only at e
  omega
theorem BsK.below {w w' : World} {v : Value} {l : List UInt8} {a b c : Nat} (h : BsK w v l a b c) (hb : Below w.heap.size w w') : BsK w' v l a b c := ⟨h.1.below hb, h.2⟩
theorem KlK.below {w w' : World} {v : Value} {l : List (List UInt8)} {a b c : Nat} (h : KlK w v l a b c) (hb : Below w.heap.size w w') : KlK w' v l a b c := ⟨h.1.below hb, h.2⟩
theorem Kl.apart {w : World} {v : Value} {l : List (List UInt8)} {a b c : Nat} {ta tb tc : TypeId} {ca cb cc : Array Value} (h : Kl w v l) (hk : KyAt w v) (ha : RowAt w a ta ca) (hb : RowAt w b tb cb) (hc : RowAt w c tc cc)
    (h1 : ta ≠ 24) (h2 : tb ≠ 24) (h3 : tc ≠ 24) : KlK w v l a b c :=
  ⟨h, fun _ k hv => ⟨(fun e => hk.other ha h1 (by rw [hv, e])), (fun e => hk.other hb h2 (by rw [hv, e])), (fun e => hk.other hc h3 (by rw [hv, e]))⟩⟩
theorem Bs.apart {w : World} {v : Value} {l : List UInt8} {a b c : Nat} {ta tb tc : TypeId} {ca cb cc : Array Value} (h : Bs w v l) (hk : U8At w v) (ha : RowAt w a ta ca) (hb : RowAt w b tb cb) (hc : RowAt w c tc cc)
    (h1 : ta ≠ 5) (h2 : tb ≠ 5) (h3 : tc ≠ 5) : BsK w v l a b c :=
  ⟨h, fun _ k hv => ⟨(fun e => hk.other ha h1 (by rw [hv, e])), (fun e => hk.other hb h2 (by rw [hv, e])), (fun e => hk.other hc h3 (by rw [hv, e]))⟩⟩

/-- What Decode has while it reads: an In (whose row is told by R), and two frames. -/
structure DIn (R : World → Prop) (w wk : World) (a b i : Nat) (ca cb : Array Value) : Prop where
  inn : R wk
  one : RowAt wk a 28 ca
  two : RowAt wk b 28 cb
  below : Below w.heap.size w wk
  ha : w.heap.size ≤ a
  hb : w.heap.size ≤ b
  hi : w.heap.size ≤ i
  hab : a ≠ b
  hai : a ≠ i
  hbi : b ≠ i
theorem DIn.read {R R' : World → Prop} {w wk wl : World} {a b i : Nat} {ca cb : Array Value} (h : DIn R w wk a b i ca cb) (h1 : R' wl) (hg : wk.grownBy wl (some i)) : DIn R' w wl a b i ca cb :=
  ⟨h1, h.one.grown hg (by intro e; injection e with e; exact h.hai e), h.two.grown hg (by intro e; injection e with e; exact h.hbi e), h.below.grown hg h.below.size (fun k e => by injection e with e; have := h.hi; omega), h.ha, h.hb, h.hi, h.hab, h.hai, h.hbi⟩
theorem DIn.put {R : World → Prop} {w wk wl : World} {a b i : Nat} {ca cb cb' : Array Value} (h : DIn R w wk a b i ca cb) (h1 : R wl) (hr : RowAt wl b 28 cb') (hg : wk.grownBy wl (some b)) : DIn R w wl a b i ca cb' :=
  ⟨h1, h.one.grown hg (by intro e; injection e with e; exact h.hab e), hr, h.below.grown hg h.below.size (fun k e => by injection e with e; have := h.hb; omega), h.ha, h.hb, h.hi, h.hab, h.hai, h.hbi⟩
theorem DIn.kept {R : World → Prop} {w wk wl : World} {a b i : Nat} {ca cb : Array Value} (h : DIn R w wk a b i ca cb) (h1 : R wl) (hg : Below wk.heap.size wk wl) : DIn R w wl a b i ca cb :=
  ⟨h1, h.one.kept hg, h.two.kept hg, below_size h.below hg, h.ha, h.hb, h.hi, h.hab, h.hai, h.hbi⟩
theorem InAt.put {w w' : World} {i b : Nat} {s : St} {cb : Array Value} (h : InAt w i s) (hr : RowAt w b 28 cb) (hne : b ≠ i) (hg : w.grownBy w' (some b)) : InAt w' i s := h.far hr (by decide) hne hg

/-! What Decode answers. -/
def keyI (ks : List (List UInt8)) (i : Nat) : List UInt8 := ks.getD i zeroKey
def rdS0 (b : List UInt8) : St := ⟨b, 0⟩
def rdS1 (b : List UInt8) : St := (rdS0 b).numS 1
def rdS2 (b : List UInt8) : St := (rdS1 b).numS 4
def rdS3 (b : List UInt8) : St := (rdS2 b).numS 4
def rdS4 (b : List UInt8) : St := (rdS3 b).keyS 3
def rdS5 (b : List UInt8) : St := (rdS4 b).bytS 264
def rdS6 (b : List UInt8) : St := (rdS5 b).keyS 67
def rdM (b : List UInt8) : Nat := (rdS0 b).num 1
def rdK (b : List UInt8) : List (List UInt8) := (rdS3 b).keys 3
/-- The frame, but for its keys; and with them. -/
def rdF0 (b : List UInt8) : Fr := ⟨(rdS1 b).num 4, (rdS2 b).num 4, zeroKey, zeroKey, zeroKey, (rdS4 b).byt 264, (rdS5 b).keys 67⟩
def rdF (b : List UInt8) : Fr := { rdF0 b with eph := keyI (rdK b) 0, epoch := keyI (rdK b) 1, next := keyI (rdK b) 2 }
def rdW (b : List UInt8) : Int := wrongE (rdS6 b).fin (rdM b) (rdK b).length 1 3
def decE (b : List UInt8) : Int := if 8000 < b.length then 2 else if rdW b ≠ 0 then rdW b else checkE (rdF b)
def decF (b : List UInt8) : Fr := if decE b = 0 then rdF b else zeroFr
theorem num4_lt (s : St) : s.num 4 < 4294967296 := by
  unfold St.num
  split
  · exact ofHigh_lt _ 4 (by rw [List.length_take]; have := s.take_length 4; simp only [show (4 : Int).toNat = 4 from rfl]; omega)
  · omega
theorem frC_one (f : Fr) (b s : Value) (hb : b.oneCell' = true) (hs : s.oneCell' = true) : ∀ u ∈ (frC f b s).toList, u.oneCell' = true := by
  intro u hu
  have h1 : ∀ l : List UInt8, u ∈ cellsB l → u.oneCell' = true := fun l hm => cellsB_one l u hm
  simp only [frC, frL, List.mem_cons, List.mem_append, List.not_mem_nil, or_false] at hu
  rcases hu with rfl | rfl | hu | hu | hu | rfl | rfl
  · rfl
  · rfl
  · exact h1 _ hu
  · exact h1 _ hu
  · exact h1 _ hu
  · exact hb
  · exact hs
theorem frC0_one : ∀ u ∈ (frC zeroFr nilS nilS).toList, u.oneCell' = true := frC_one _ _ _ rfl rfl
theorem rdF0_n (b : List UInt8) : (rdF0 b).n = (rdS1 b).num 4 := by simp only [rdF0]
theorem rdF0_ack (b : List UInt8) : (rdF0 b).ack = (rdS2 b).num 4 := by simp only [rdF0]
theorem rdF0_box (b : List UInt8) : (rdF0 b).box = (rdS4 b).byt 264 := by simp only [rdF0]
theorem rdF0_sign (b : List UInt8) : (rdF0 b).sign = (rdS5 b).keys 67 := by simp only [rdF0]
theorem rdF0_zero (b : List UInt8) : rdF0 b = ⟨(rdF0 b).n, (rdF0 b).ack, zeroKey, zeroKey, zeroKey, (rdF0 b).box, (rdF0 b).sign⟩ := by simp only [rdF0]
theorem run_keyAt {P : Program} {w : World} {o : Oper} {a : Act} (ty e : TypeId) (x y : Operand) (ho : o.op = .indexAddr ty x y) (g off n c k : Nat) (hx : a.eval x = .slice (some ⟨g, off, none⟩) n c) (hy : a.eval y = .int .i64 (k : Int)) (hk : k < n)
    (hu : P.underlying ty = some (.slice e)) (hs : (P.info? e).map (·.size) = some 32) : (execOp a.eval o).run P w = .ok (.value (.pointer (some ⟨g, off + k * 32, none⟩))) w := by
  obtain ⟨f, hf, hz⟩ := Option.map_eq_some_iff.1 hs
  unfold execOp
  simp only [ho, hx, hy]
  simp [Instr.indexAt, asIntOf, run_underlying hu, sizeOf, typeInfo, hf, hz, hk, go_sem]
theorem keyI_get (ks : List (List UInt8)) (i : Nat) (h : i < ks.length) : ks[i]? = some (keyI ks i) := by
  unfold keyI
  rw [List.getD_eq_getElem?_getD, List.getElem?_eq_getElem h]; rfl
/-- Keys that are there: each one's length, and where they lie. -/
theorem Kl.keys {w : World} {A : Option Addr} {n c : Nat} {ks : List (List UInt8)} (h : Kl w (.slice A n c) ks) (h0 : 0 < ks.length) : ∃ kb ko, A = some ⟨kb, ko, none⟩ ∧ (∀ l ∈ ks, l.length = 32) ∧ ∀ i, i < ks.length → w.rangeAt kb (ko + i * 32) (cellsB (keyI ks i)) := by
  obtain ⟨A', c', hv, _, _, h32, hx⟩ := h
  injection hv with e1 e2 e3
  subst e1
  obtain ⟨kb, ko, hA, hc⟩ := hx h0
  exact ⟨kb, ko, hA, h32, fun i hi => hc i _ (keyI_get ks i hi)⟩
theorem keyI_len {ks : List (List UInt8)} (h : ∀ l ∈ ks, l.length = 32) (i : Nat) : (keyI ks i).length = 32 := by
  unfold keyI
  rw [List.getD_eq_getElem?_getD]
  rcases hk : ks[i]? with _ | l
  · exact zeroKey_length
  · exact h l (List.mem_of_getElem? hk)
theorem rangeAt_grown {w w' : World} {b k r : Nat} {l : List Value} (h : w.rangeAt b k l) (hg : w.grownBy w' (some r)) (hne : b ≠ r) : w'.rangeAt b k l := fun j u hj => hg.cell (h j u hj) (by intro e; injection e with e; exact hne e)
theorem nil_one (A : Option Addr) (n c : Nat) : (Value.slice A n c).oneCell' = true := rfl
theorem rdF_eq (b : List UInt8) (f0 : Fr) (h : f0 = rdF0 b) : ({ { { f0 with eph := keyI (rdK b) 0 } with epoch := keyI (rdK b) 1 } with next := keyI (rdK b) 2 } : Fr) = rdF b := by
  subst h
  simp only [rdF]
theorem run_builtOp {P : Program} {w : World} {o : Oper} {a : Act} (ty : TypeId) (parts : Array (Nat × Operand)) (ho : o.op = .build ty parts) (cells : Array Value) (hb : P.built ty (parts.map fun (i, x) => (i, a.eval x)).toList = some cells) : (execOp a.eval o).run P w = .ok (.value (.agg cells)) w := by
  have hr := run_build (P := P) w ty _ cells hb
  unfold execOp
  simp only [ho]
  simp only [Sem.run_bind, Sem.run_pure, hr, Result.andThen_ok]
theorem Try.zeroOut : (Try.prog.info? 73).map (·.zero) = some (some (.agg #[.slice none 0 0, .int .i64 0])) := by kernel_rfl
end Go.Proofs.Ytmhhjdiilmgmoaa
end
section
namespace Go.Proofs.Ytmhhjdiilmgmoaa
open Go.RowKit
set_option linter.unusedVariables false
set_option maxRecDepth 20000

/-- A bundle: four keys. -/
def BuOk (ks : List (List UInt8)) : Prop := ks.length = 4 ∧ ∀ l ∈ ks, l.length = 32
def buV (ks : List (List UInt8)) : Value := .agg (keyC ks.flatten)
def zeroBu : List (List UInt8) := [zeroKey, zeroKey, zeroKey, zeroKey]
theorem zeroBu_ok : BuOk zeroBu := ⟨rfl, by intro l hl; simp only [zeroBu, List.mem_cons, List.not_mem_nil, or_false] at hl; rcases hl with rfl | rfl | rfl | rfl <;> exact zeroKey_length⟩
theorem BuOk.size {ks : List (List UInt8)} (h : BuOk ks) : (keyC ks.flatten).size = 128 := by rw [keyC_size, flat_len32 ks h.2, h.1]
theorem Try.sizeBu0 : (Try.prog.info? 39).map (·.size) = some 128 := by kernel_rfl
theorem Try.sizeBu {ks : List (List UInt8)} (h : BuOk ks) : (Try.prog.info? 39).map (·.size) = some (keyC ks.flatten).size := by rw [h.size]; exact Try.sizeBu0
theorem Try.zeroOfBu : (Try.prog.info? 39).map (·.zero) = some (some (.agg (keyC zeroBu.flatten))) := by kernel_rfl
theorem Try.builtBu : Try.prog.built 39 [] = some (keyC zeroBu.flatten) := by kernel_rfl
theorem keyI_range {w : World} {g : Nat} {t : TypeId} {ks : List (List UInt8)} (h : RowAt w g t (keyC ks.flatten)) (hk : ∀ l ∈ ks, l.length = 32) (i : Nat) (hi : i < ks.length) : w.rangeAt g (i * 32) (cellsB (keyI ks i)) := by
  have h1 := rangeAt_row (k := i * 32) (n := (cellsB (keyI ks i)).length) h
  rwa [keys_part ks hk i _ (keyI_get ks i hi)] at h1
theorem four_keys {ks : List (List UInt8)} (h : ks.length = 4) : ks = [keyI ks 0, keyI ks 1, keyI ks 2, keyI ks 3] := by
  match ks, h with
  | [a, b, c, d], _ => rfl
theorem fill_congr (f g : Nat → Option (Nat × Nat)) : ∀ (parts : List (Nat × Value)) (cells : Array Value), (∀ p ∈ parts, f p.1 = g p.1) → Instr.fill f cells parts = Instr.fill g cells parts
  | [], _, _ => rfl
  | (i, v) :: rest, cells, h => by
    have e : f i = g i := h (i, v) (by simp)
    unfold Instr.fill
    rw [e]
    rcases g i with _ | ⟨off, size⟩
    · rfl
    · simp only
      split
      · rfl
      · exact fill_congr f g rest _ fun p hp => h p (List.mem_cons_of_mem _ hp)
theorem Try.builtBuP (parts : List (Nat × Value)) : Try.prog.built 39 parts = Instr.fill (fun i => ([(0, 32), (32, 32), (64, 32), (96, 32)] : List (Nat × Nat)).toArray[i]?) (keyC zeroBu.flatten) parts := by kernel_rfl
theorem Try.builtBu4 (k0 k1 k2 k3 : List UInt8) (h : ∀ l ∈ [k0, k1, k2, k3], l.length = 32) : Try.prog.built 39 [(0, .agg (keyC k0)), (1, .agg (keyC k1)), (2, .agg (keyC k2)), (3, .agg (keyC k3))] = some (keyC [k0, k1, k2, k3].flatten) := by
  rw [Try.builtBuP, fill_congr _ (fun i => some (i * 32, 32)) _ _ (by intro p hp; simp only [List.mem_cons, List.not_mem_nil, or_false] at hp; rcases hp with rfl | rfl | rfl | rfl <;> rfl)]
  rw [← keys_flat [k0, k1, k2, k3]]
  refine Great.fill_whole (s := 32) (by omega) ([k0, k1, k2, k3].map fun l => Value.agg (keyC l)) _ (fun v hv => ?_) ?_
  · obtain ⟨l, hm, rfl⟩ := List.mem_map.1 hv
    simp [Value.cells, keyC_size, h l hm]
  · rw [keyC_size, flat_len32 zeroBu zeroBu_ok.2]; rfl
/-- A bundle's bytes. -/
def bunB (ks : List (List UInt8)) : List UInt8 := (lowB 2 1).reverse ++ ((lowB 4 2).reverse ++ ks.flatten)
theorem bun_ok {ks : List (List UInt8)} (h : BuOk ks) : ((St.mk [] 0).wNum 2 1).wKey ks = ⟨bunB ks, 0⟩ := by
  rw [show ((St.mk [] 0).wNum 2 1) = ⟨(lowB 2 1).reverse, 0⟩ from wNum_ok _ rfl 2 1 rfl (by decide)]
  rw [wKey_ok _ rfl _ (by rw [h.1]; omega), h.1]; rfl
theorem bunB_length {ks : List (List UInt8)} (h : BuOk ks) : (bunB ks).length = 131 := by
  simp [bunB, lowB_length, flat_len32 ks h.2, h.1]

set_option maxHeartbeats 4000000 in
theorem encodeBundle_any (w : World) (ks : List (List UInt8)) (h : BuOk ks) :
    Calls Try.prog 23 #[buV ks] w fun e w' => ∃ u, e = .returned u ∧ Bs w' u (bunB ks) ∧ Below w.heap.size w w' := by
  have HO := Lib.hid h
  unfold buV
  obtain ⟨s1, E1⟩ : ∃ s1, s1 = (St.mk [] 0).wNum 2 1 := ⟨_, rfl⟩
  have k1 : s1.l.length ≤ 8 := by rw [E1]; exact Nat.le_trans (wNum_len _ 2 1 (by decide)) (by simp)
  have N1 : Hid (∀ w o v, OutAt w o v ⟨[], 0⟩ → Calls Try.prog 44 #[.pointer (some ⟨o, 0, none⟩), .int .u64 2, .int .i64 1] w fun e w' => e = .returned (.tuple #[]) ∧ ∃ v', OutAt w' o v' s1 ∧ OutStep w w' o v v') := fun w o v h => by rw [E1]; exact outNumber_any w o v _ 2 1 (by omega) h (by simp)
  have N4 : Hid (∀ w o v g, OutAt w o v s1 → RowAt w g 24 (keyC ks.flatten) → Off o v (.slice (some ⟨g, 0, none⟩) 4 4) → Calls Try.prog 32 #[.pointer (some ⟨o, 0, none⟩), .slice (some ⟨g, 0, none⟩) 4 4] w fun e w' => e = .returned (.tuple #[]) ∧ ∃ v', OutAt w' o v' ⟨bunB ks, 0⟩ ∧ OutStep w w' o v v') := fun w o v g h hr hof => by
    have hk := Kl.of_row hr HO.out.2 (by rw [HO.out.1]; omega)
    rw [HO.out.1] at hk
    have := outKeys_any w o v _ _ ks h hk (fun _ => hof) (by omega)
    rwa [E1, bun_ok HO.out] at this
  have HD : Hid (∀ w o v, OutAt w o v ⟨bunB ks, 0⟩ → Calls Try.prog 27 #[.pointer (some ⟨o, 0, none⟩)] w fun e w' => ∃ u, e = .returned (.tuple #[u, .int .i64 0]) ∧ OwnB w' w.heap.size 5 u (bunB ks) ∧ Below w.heap.size w w') := fun w o v h => outDone_any w o v _ h (by show (bunB ks).length ≤ _; rw [bunB_length HO.out]; omega)
  have L0 := Lib.hid (keyI_len h.2 0)
  have L1 := Lib.hid (keyI_len h.2 1)
  have L2 := Lib.hid (keyI_len h.2 2)
  have L3 := Lib.hid (keyI_len h.2 3)
  have H4 : Hid (∀ l ∈ [keyI ks 0, keyI ks 1, keyI ks 2, keyI ks 3], l.length = 32) := by rw [← four_keys h.1]; exact h.2
  have HK4 : Hid ([keyI ks 0, keyI ks 1, keyI ks 2, keyI ks 3] = ks) := (four_keys h.1).symm
  clear k1 E1 h
  go_enter Try.func23, Try.ntmps23
  go_wp2_with (first
    | ((with_reducible refine wpList_box_row (o := ⟨some 1, _, _, _, _, _⟩) rfl 39 (.tmp 0) rfl (keyC ks.flatten) (by with_unfolding_all rfl) ?_); intro g1 w1 n1; have M1 := Lib.hid n1)
    | ((with_reducible refine wpList_alloc_row (o := ⟨some 3, _, _, _, _, _⟩) rfl 73 rfl #[.slice none 0 0, .int .i64 0] Try.zeroOut ?_); intro g5 w2 n2; have M2 := Lib.hid n2; clear n1 n2))
  have I0 : Hid (WIn w w2 g1 39 (keyC ks.flatten) g5 (.slice none 0 0) ⟨[], 0⟩) := by
    have n1 := M1.out
    have n2 := M2.out
    have a1 := n1.spot
    have a2 := n1.size
    have a3 := n2.spot
    exact ⟨⟨n2.row, OwnB.nil _ _ _⟩, n1.row.kept n2.below, below_size n1.below n2.below, by omega, (fun k h => by cases h), by omega⟩
  clear M1 M2
  refine (N1.out _ _ _ I0.out.out).mono ?_
  intro e w3 hh
  obtain ⟨he, v3, h3, s3'⟩ := hh
  subst he
  have I1 := Lib.hid (I0.out.step (by decide) h3 s3')
  have r0 := Lib.hid (keyI_range I1.out.row HO.out.2 0 (by rw [HO.out.1]; omega))
  have r1 := Lib.hid (keyI_range I1.out.row HO.out.2 1 (by rw [HO.out.1]; omega))
  have r2 := Lib.hid (keyI_range I1.out.row HO.out.2 2 (by rw [HO.out.1]; omega))
  have r3 := Lib.hid (keyI_range I1.out.row HO.out.2 3 (by rw [HO.out.1]; omega))
  clear I0 h3 s3'
  go_wp2_with (first
    | (with_reducible refine wpList_loadK (o := ⟨some 8, _, _, _, _, _⟩) rfl 24 (.tmp 7) rfl g1 (0) (by with_unfolding_all rfl) (keyI ks 0) _ (by with_unfolding_all exact r0.out) Try.underlying24 rfl (Try.sizeKeyM _ L0.out) ?_)
    | (with_reducible refine wpList_loadK (o := ⟨some 10, _, _, _, _, _⟩) rfl 24 (.tmp 9) rfl g1 (32) (by with_unfolding_all rfl) (keyI ks 1) _ (by with_unfolding_all exact r1.out) Try.underlying24 rfl (Try.sizeKeyM _ L1.out) ?_)
    | (with_reducible refine wpList_loadK (o := ⟨some 12, _, _, _, _, _⟩) rfl 24 (.tmp 11) rfl g1 (64) (by with_unfolding_all rfl) (keyI ks 2) _ (by with_unfolding_all exact r2.out) Try.underlying24 rfl (Try.sizeKeyM _ L2.out) ?_)
    | (with_reducible refine wpList_loadK (o := ⟨some 14, _, _, _, _, _⟩) rfl 24 (.tmp 13) rfl g1 (96) (by with_unfolding_all rfl) (keyI ks 3) _ (by with_unfolding_all exact r3.out) Try.underlying24 rfl (Try.sizeKeyM _ L3.out) ?_)
    | ((with_reducible refine wpList_buildKeys (o := ⟨some 15, _, _, _, _, _⟩) rfl 26 24 4 _ rfl [keyI ks 0, keyI ks 1, keyI ks 2, keyI ks 3] H4.out (by with_unfolding_all rfl) (by decide) (by decide) (by with_unfolding_all rfl) Try.underlying26 Try.sizeK (keyC zeroKey) Try.zeroK ?_); intro g6 w6 n6; have M6 := Lib.hid n6; clear n6))
  refine (N4.out _ _ _ _ (I1.out.out.kept M6.out.below) (by have := M6.out.row; rwa [HK4.out] at this) ?_).mono ?_
  · exact Off.fresh I1.out.out fun k hk => by
      have h1 := M6.out.spot
      have h2 : g6 = k := by simpa [Value.ownBlock] using hk
      omega
  intro e w7 hh
  obtain ⟨he, v7, h3, s3'⟩ := hh
  subst he
  have I4 := Lib.hid ((I1.out.kept M6.out.below).step (by decide) h3 s3')
  clear I1 h3 s3' M6 r0 r1 r2 r3
  go_wp2_with fail
  refine (HD.out _ _ _ I4.out.out).mono ?_
  intro e w8 hh
  obtain ⟨u, he, hu, b5⟩ := hh
  subst he
  have HU := Lib.hid hu
  have B5 := Lib.hid (below_size I4.out.below b5)
  clear hu b5
  go_wp2
  go_ret
  exact ⟨u, rfl, HU.out.bs, B5.out⟩

/-! What DecodeBundle answers. -/
def bdS1 (b : List UInt8) : St := (rdS0 b).numS 1
def bdS2 (b : List UInt8) : St := (bdS1 b).keyS 4
def bdK (b : List UInt8) : List (List UInt8) := (bdS1 b).keys 4
def bdW (b : List UInt8) : Int := wrongE (bdS2 b).fin (rdM b) (bdK b).length 2 4
def bdF (b : List UInt8) : List (List UInt8) := if bdW b = 0 then bdK b else zeroBu
/-- What DecodeBundle has while it reads. -/
structure BIn (R : World → Prop) (w wk : World) (a i : Nat) (ca : Array Value) : Prop where
  inn : R wk
  one : RowAt wk a 39 ca
  below : Below w.heap.size w wk
  ha : w.heap.size ≤ a
  hi : w.heap.size ≤ i
  hai : a ≠ i
theorem BIn.read {R R' : World → Prop} {w wk wl : World} {a i : Nat} {ca : Array Value} (h : BIn R w wk a i ca) (h1 : R' wl) (hg : wk.grownBy wl (some i)) : BIn R' w wl a i ca :=
  ⟨h1, h.one.grown hg (by intro e; injection e with e; exact h.hai e), h.below.grown hg h.below.size (fun k e => by injection e with e; have := h.hi; omega), h.ha, h.hi, h.hai⟩
theorem BIn.kept {R : World → Prop} {w wk wl : World} {a i : Nat} {ca : Array Value} (h : BIn R w wk a i ca) (h1 : R wl) (hg : Below wk.heap.size wk wl) : BIn R w wl a i ca :=
  ⟨h1, h.one.kept hg, below_size h.below hg, h.ha, h.hi, h.hai⟩

set_option maxHeartbeats 4000000 in
theorem decodeBundle_any (w : World) (v : Value) (b : List UInt8) (h : Bs w v b) (hbl : b.length ≤ 100000) :
    Calls Try.prog 20 #[v] w fun e w' => e = .returned (.tuple #[buV (bdF b), .int .i64 (bdW b)]) ∧ BuOk (bdF b) ∧ Below w.heap.size w w' := by
  have HH := Lib.hid h
  have C0 : Hid (∀ w v, Bs w v b → Calls Try.prog 33 #[v] w fun e w' => ∃ i, e = .returned (.pointer (some ⟨i, 0, none⟩)) ∧ w.heap.size ≤ i ∧ InAt w' i (rdS0 b) ∧ Below w.heap.size w w') := fun w v h => read_any w v b h (by omega)
  have C1 : Hid (∀ w i, InAt w i (rdS0 b) → Calls Try.prog 34 #[.pointer (some ⟨i, 0, none⟩), .int .i64 1] w fun e w' => e = .returned (.int .u64 (rdM b : Int)) ∧ InAt w' i (bdS1 b) ∧ w.grownBy w' (some i)) := fun w i h => inNumber_any w i (rdS0 b) 1 h
  have C4 : Hid (∀ w i, InAt w i (bdS1 b) → Calls Try.prog 35 #[.pointer (some ⟨i, 0, none⟩), .int .i64 4] w fun e w' => ∃ v, e = .returned v ∧ Kl w' v (bdK b) ∧ KyAt w' v ∧ InAt w' i (bdS2 b) ∧ w.grownBy w' (some i)) := fun w i h => by rw [show bdK b = (bdS1 b).keys 4 from rfl, show bdS2 b = (bdS1 b).keyS 4 from rfl]; exact inKeys_any w i (bdS1 b) 4 h
  have C7 : Hid (∀ w i, InAt w i (bdS2 b) → Calls Try.prog 38 #[.pointer (some ⟨i, 0, none⟩)] w fun e w' => e = .returned (.int .i64 (bdS2 b).fin) ∧ w = w') := fun w i h => inEnd_any w i (bdS2 b) h
  have C8 : Hid (∀ w, Calls Try.prog 37 #[.int .i64 (bdS2 b).fin, .agg #[.int .u64 (rdM b : Int), .int .i64 ((bdK b).length : Int)], .agg #[.int .u64 2, .int .i64 4]] w fun r w' => r = .returned (.int .i64 (bdW b)) ∧ Below w.heap.size w w') := fun w => by unfold bdW; exact wrong_any w _ _ _ _ _
  obtain ⟨A, c, rfl, _, q2, _⟩ := h
  clear q2
  by_cases a1 : bdW b = 0
  · have h4 : (bdK b).length = 4 := by
      have a2 := a1
      unfold bdW wrongE at a2
      split at a2
      · contradiction
      · split at a2
        · cases a2
        · omega
    have EF : Hid (bdF b = bdK b) := if_pos a1
    have d1 : (bdW b != 0) = false := by simp [a1]
    have H4 := Lib.hid h4
    have EW : Hid (bdW b = 0) := a1
    clear a1 h4
    go_enter Try.func20, Try.ntmps20
    go_wp2_with (first
      | ((with_reducible refine wpList_alloc_row (o := ⟨some 2, _, _, _, _, _⟩) rfl 39 rfl (keyC zeroBu.flatten) Try.zeroOfBu ?_); intro g2 w2 n2; have N2 := Lib.hid n2; clear n2))
    refine (C0.out _ _ (HH.out.below N2.out.below)).mono ?_
    intro e w5 hh
    obtain ⟨i, he, hi5, h5, b5⟩ := hh
    subst he
    have D0 : Hid (BIn (fun w => InAt w i (rdS0 b)) w w5 g2 i (keyC zeroBu.flatten)) := by
      have n2 := N2.out
      have a1 := n2.spot
      have a2 := n2.size
      exact ⟨h5, n2.row.kept b5, below_size n2.below b5, by omega, by omega, by omega⟩
    clear N2 h5 b5 hi5
    go_wp2_with fail
    refine (C1.out _ _ D0.out.inn).mono ?_
    intro e w6 hh
    obtain ⟨he, h6, s6⟩ := hh
    subst he
    have D1 := Lib.hid (D0.out.read (R' := fun w => InAt w i (bdS1 b)) h6 s6)
    clear D0 h6 s6
    go_wp2_with fail
    refine (C4.out _ _ D1.out.inn).mono ?_
    intro e w9 hh
    obtain ⟨ku, he, k9, y9, h9, s9⟩ := hh
    subst he
    have D6 := Lib.hid (D1.out.read (R' := fun w => InAt w i (bdS2 b)) h9 s9)
    have K6 := Lib.hid k9
    have Y6 : Hid (ku.ownBlock ≠ some g2) := y9.other D6.out.one (by decide)
    clear D1 h9 s9 k9 y9
    obtain ⟨KA, kc, rfl, kx, km, _⟩ := id K6.out
    unfold maxLen at km
    have hkl : (bdK b).length ≤ 9223372036854775807 := by omega
    clear kx km
    go_wp2_with fail
    refine (C7.out _ _ D6.out.inn).mono ?_
    intro e w12 hh
    obtain ⟨he, hw⟩ := hh
    subst he hw
    go_wp2_with fail
    refine (C8.out _).mono ?_
    intro e w13 hh
    obtain ⟨he, b13⟩ := hh
    subst he
    have D11 := Lib.hid (D6.out.kept (D6.out.inn.kept b13) b13)
    have K11 := Lib.hid (K6.out.below b13)
    clear D6 K6 b13
    have h4 := H4.out
    obtain ⟨kb, ko, rfl, h32, hkr⟩ := K11.out.keys (by omega)
    have HK32 := Lib.hid h32
    have L0 := Lib.hid (keyI_len HK32.out 0)
    have L1 := Lib.hid (keyI_len HK32.out 1)
    have L2 := Lib.hid (keyI_len HK32.out 2)
    have L3 := Lib.hid (keyI_len HK32.out 3)
    have HB4 : Hid (Try.prog.built 39 [(0, .agg (keyC (keyI (bdK b) 0))), (1, .agg (keyC (keyI (bdK b) 1))), (2, .agg (keyC (keyI (bdK b) 2))), (3, .agg (keyC (keyI (bdK b) 3)))] = some (keyC (bdK b).flatten)) := by
      have := Try.builtBu4 (keyI (bdK b) 0) (keyI (bdK b) 1) (keyI (bdK b) 2) (keyI (bdK b) 3) (by rw [← four_keys H4.out]; exact HK32.out)
      rwa [← four_keys H4.out] at this
    have hS : w13.drew.rangeAt kb (ko + 0 * 32) (cellsB (keyI (bdK b) 0)) ∧ w13.drew.rangeAt kb (ko + 1 * 32) (cellsB (keyI (bdK b) 1)) ∧ w13.drew.rangeAt kb (ko + 2 * 32) (cellsB (keyI (bdK b) 2)) ∧ w13.drew.rangeAt kb (ko + 3 * 32) (cellsB (keyI (bdK b) 3)) := ⟨hkr 0 (by omega), hkr 1 (by omega), hkr 2 (by omega), hkr 3 (by omega)⟩
    clear hkr h32
    go_wp2_with fail
    refine plain_region (S := fun w' => w'.rangeAt kb (ko + 0 * 32) (cellsB (keyI (bdK b) 0)) ∧ w'.rangeAt kb (ko + 1 * 32) (cellsB (keyI (bdK b) 1)) ∧ w'.rangeAt kb (ko + 2 * 32) (cellsB (keyI (bdK b) 2)) ∧ w'.rangeAt kb (ko + 3 * 32) (cellsB (keyI (bdK b) 3))) (fin := fun _ => false) (by kernel_rfl) ?_
    refine walkS_take (i := 0) (oi := ⟨some 26, _, _, _, _, _⟩) (v := .slice (some ⟨kb, ko, none⟩) (bdK b).length kc) rfl (by kernel_rfl) (by kernel_rfl) (fun _ _ _ h => h) _ _ _ _ (by kernel_rfl) (by kernel_rfl) (Or.inl ⟨by rfl, fun w' hS' => (by clear hS hS'; go_simp)⟩) hS ?_
    try simp only [Act.put, List.setIfInBounds_toArray, List.set_cons_zero, List.set_cons_succ]
    refine walkS_take (i := 1) (oi := ⟨some 27, _, _, _, _, _⟩) (v := .pointer (some ⟨kb, ko + 0 * 32, none⟩)) rfl (by kernel_rfl) (by kernel_rfl) (fun _ _ _ h => h) _ _ _ _ (by kernel_rfl) (by kernel_rfl) (Or.inl ⟨by rfl, fun w' hS' => (by exact run_keyAt 26 24 _ _ rfl kb ko _ _ 0 rfl rfl (by omega) Try.underlying26 Try.sizeK)⟩) hS ?_
    try simp only [Act.put, List.setIfInBounds_toArray, List.set_cons_zero, List.set_cons_succ]
    refine walkS_take (i := 2) (oi := ⟨some 28, _, _, _, _, _⟩) (v := .agg (keyC (keyI (bdK b) 0))) rfl (by kernel_rfl) (by kernel_rfl) (fun _ _ _ h => h) _ _ _ _ (by kernel_rfl) (by kernel_rfl) (Or.inl ⟨by rfl, fun w' hS' => (by exact run_keyL 24 _ rfl kb _ rfl _ _ hS'.1 Try.underlying24 rfl (Try.sizeKeyM _ L0.out))⟩) hS ?_
    try simp only [Act.put, List.setIfInBounds_toArray, List.set_cons_zero, List.set_cons_succ]
    refine walkS_take (i := 3) (oi := ⟨some 29, _, _, _, _, _⟩) (v := .slice (some ⟨kb, ko, none⟩) (bdK b).length kc) rfl (by kernel_rfl) (by kernel_rfl) (fun _ _ _ h => h) _ _ _ _ (by kernel_rfl) (by kernel_rfl) (Or.inl ⟨by rfl, fun w' hS' => (by clear hS hS'; go_simp)⟩) hS ?_
    try simp only [Act.put, List.setIfInBounds_toArray, List.set_cons_zero, List.set_cons_succ]
    refine walkS_take (i := 4) (oi := ⟨some 30, _, _, _, _, _⟩) (v := .pointer (some ⟨kb, ko + 1 * 32, none⟩)) rfl (by kernel_rfl) (by kernel_rfl) (fun _ _ _ h => h) _ _ _ _ (by kernel_rfl) (by kernel_rfl) (Or.inl ⟨by rfl, fun w' hS' => (by exact run_keyAt 26 24 _ _ rfl kb ko _ _ 1 rfl rfl (by omega) Try.underlying26 Try.sizeK)⟩) hS ?_
    try simp only [Act.put, List.setIfInBounds_toArray, List.set_cons_zero, List.set_cons_succ]
    refine walkS_take (i := 5) (oi := ⟨some 31, _, _, _, _, _⟩) (v := .agg (keyC (keyI (bdK b) 1))) rfl (by kernel_rfl) (by kernel_rfl) (fun _ _ _ h => h) _ _ _ _ (by kernel_rfl) (by kernel_rfl) (Or.inl ⟨by rfl, fun w' hS' => (by exact run_keyL 24 _ rfl kb _ rfl _ _ hS'.2.1 Try.underlying24 rfl (Try.sizeKeyM _ L1.out))⟩) hS ?_
    try simp only [Act.put, List.setIfInBounds_toArray, List.set_cons_zero, List.set_cons_succ]
    refine walkS_take (i := 6) (oi := ⟨some 32, _, _, _, _, _⟩) (v := .slice (some ⟨kb, ko, none⟩) (bdK b).length kc) rfl (by kernel_rfl) (by kernel_rfl) (fun _ _ _ h => h) _ _ _ _ (by kernel_rfl) (by kernel_rfl) (Or.inl ⟨by rfl, fun w' hS' => (by clear hS hS'; go_simp)⟩) hS ?_
    try simp only [Act.put, List.setIfInBounds_toArray, List.set_cons_zero, List.set_cons_succ]
    refine walkS_take (i := 7) (oi := ⟨some 33, _, _, _, _, _⟩) (v := .pointer (some ⟨kb, ko + 2 * 32, none⟩)) rfl (by kernel_rfl) (by kernel_rfl) (fun _ _ _ h => h) _ _ _ _ (by kernel_rfl) (by kernel_rfl) (Or.inl ⟨by rfl, fun w' hS' => (by exact run_keyAt 26 24 _ _ rfl kb ko _ _ 2 rfl rfl (by omega) Try.underlying26 Try.sizeK)⟩) hS ?_
    try simp only [Act.put, List.setIfInBounds_toArray, List.set_cons_zero, List.set_cons_succ]
    refine walkS_take (i := 8) (oi := ⟨some 34, _, _, _, _, _⟩) (v := .agg (keyC (keyI (bdK b) 2))) rfl (by kernel_rfl) (by kernel_rfl) (fun _ _ _ h => h) _ _ _ _ (by kernel_rfl) (by kernel_rfl) (Or.inl ⟨by rfl, fun w' hS' => (by exact run_keyL 24 _ rfl kb _ rfl _ _ hS'.2.2.1 Try.underlying24 rfl (Try.sizeKeyM _ L2.out))⟩) hS ?_
    try simp only [Act.put, List.setIfInBounds_toArray, List.set_cons_zero, List.set_cons_succ]
    refine walkS_take (i := 9) (oi := ⟨some 35, _, _, _, _, _⟩) (v := .slice (some ⟨kb, ko, none⟩) (bdK b).length kc) rfl (by kernel_rfl) (by kernel_rfl) (fun _ _ _ h => h) _ _ _ _ (by kernel_rfl) (by kernel_rfl) (Or.inl ⟨by rfl, fun w' hS' => (by clear hS hS'; go_simp)⟩) hS ?_
    try simp only [Act.put, List.setIfInBounds_toArray, List.set_cons_zero, List.set_cons_succ]
    refine walkS_take (i := 10) (oi := ⟨some 36, _, _, _, _, _⟩) (v := .pointer (some ⟨kb, ko + 3 * 32, none⟩)) rfl (by kernel_rfl) (by kernel_rfl) (fun _ _ _ h => h) _ _ _ _ (by kernel_rfl) (by kernel_rfl) (Or.inl ⟨by rfl, fun w' hS' => (by exact run_keyAt 26 24 _ _ rfl kb ko _ _ 3 rfl rfl (by omega) Try.underlying26 Try.sizeK)⟩) hS ?_
    try simp only [Act.put, List.setIfInBounds_toArray, List.set_cons_zero, List.set_cons_succ]
    refine walkS_take (i := 11) (oi := ⟨some 37, _, _, _, _, _⟩) (v := .agg (keyC (keyI (bdK b) 3))) rfl (by kernel_rfl) (by kernel_rfl) (fun _ _ _ h => h) _ _ _ _ (by kernel_rfl) (by kernel_rfl) (Or.inl ⟨by rfl, fun w' hS' => (by exact run_keyL 24 _ rfl kb _ rfl _ _ hS'.2.2.2 Try.underlying24 rfl (Try.sizeKeyM _ L3.out))⟩) hS ?_
    try simp only [Act.put, List.setIfInBounds_toArray, List.set_cons_zero, List.set_cons_succ]
    refine walkS_take (i := 12) (oi := ⟨some 38, _, _, _, _, _⟩) (v := .agg (keyC (bdK b).flatten)) rfl (by kernel_rfl) (by kernel_rfl) (fun _ _ _ h => h) _ _ _ _ (by kernel_rfl) (by kernel_rfl) (Or.inl ⟨by rfl, fun w' hS' => (by exact run_builtOp 39 #[(0, .tmp 28), (1, .tmp 31), (2, .tmp 34), (3, .tmp 37)] rfl _ (by with_unfolding_all exact HB4.out))⟩) hS ?_
    try simp only [Act.put, List.setIfInBounds_toArray, List.set_cons_zero, List.set_cons_succ]
    refine walkS_only (i := 13) (o := ⟨none, _, _, _, _, _⟩) (by kernel_rfl) rfl rfl fun KK hKK => ?_
    refine wp_store_row 39 (.tmp 2) (.tmp 38) (by with_unfolding_all rfl) g2 39 (keyC zeroBu.flatten) (keyC (bdK b).flatten) (by with_unfolding_all rfl) (by with_unfolding_all rfl) (by with_unfolding_all exact D11.out.one) (by rw [zeroBu_ok.size, BuOk.size ⟨H4.out, HK32.out⟩]) (Try.sizeBu ⟨H4.out, HK32.out⟩) (keyC_one _) fun w14 p14 => ?_
    have P14 := Lib.hid p14
    have hne : kb ≠ g2 := fun e => Y6.out (by rw [e]; rfl)
    have hS14 := And.intro (rangeAt_grown hS.1 p14.grown hne) (And.intro (rangeAt_grown hS.2.1 p14.grown hne) (And.intro (rangeAt_grown hS.2.2.1 p14.grown hne) (rangeAt_grown hS.2.2.2 p14.grown hne)))
    refine hKK _ _ (.inr hS14) ?_
    clear hKK KK hS
    try simp only [Act.put]
    refine walkS_only (i := 14) (o := ⟨some 3, _, _, _, _, _⟩) (by kernel_rfl) rfl rfl fun KK hKK => ?_
    go_simp
    refine hKK _ _ (.inr hS14) (walkS_done (by kernel_rfl) ?_ _)
    clear hKK KK p14 hS14
    go_wp2
    refine bodyPost_ret (ret_row_tmp rfl _ g2 39 (keyC (bdK b).flatten) _ (by rfl) P14.out.row Try.underlying39 rfl (Try.sizeBu ⟨H4.out, HK32.out⟩)) rfl ?_
    exact ⟨by rw [EF.out, EW.out]; rfl, by rw [EF.out]; exact ⟨H4.out, HK32.out⟩, P14.out.below (w0 := w) D11.out.below.drew D11.out.below.size D11.out.ha⟩
  · have EF : Hid (bdF b = zeroBu) := if_neg a1
    have d1 : (bdW b != 0) = true := by simpa using a1
    clear a1
    go_enter Try.func20, Try.ntmps20
    go_wp2_with (first
      | ((with_reducible refine wpList_alloc_row (o := ⟨some 2, _, _, _, _, _⟩) rfl 39 rfl (keyC zeroBu.flatten) Try.zeroOfBu ?_); intro g2 w2 n2; have N2 := Lib.hid n2; clear n2))
    refine (C0.out _ _ (HH.out.below N2.out.below)).mono ?_
    intro e w5 hh
    obtain ⟨i, he, hi5, h5, b5⟩ := hh
    subst he
    have D0 : Hid (BIn (fun w => InAt w i (rdS0 b)) w w5 g2 i (keyC zeroBu.flatten)) := by
      have n2 := N2.out
      have a1 := n2.spot
      have a2 := n2.size
      exact ⟨h5, n2.row.kept b5, below_size n2.below b5, by omega, by omega, by omega⟩
    clear N2 h5 b5 hi5
    go_wp2_with fail
    refine (C1.out _ _ D0.out.inn).mono ?_
    intro e w6 hh
    obtain ⟨he, h6, s6⟩ := hh
    subst he
    have D1 := Lib.hid (D0.out.read (R' := fun w => InAt w i (bdS1 b)) h6 s6)
    clear D0 h6 s6
    go_wp2_with fail
    refine (C4.out _ _ D1.out.inn).mono ?_
    intro e w9 hh
    obtain ⟨ku, he, k9, y9, h9, s9⟩ := hh
    subst he
    have D6 := Lib.hid (D1.out.read (R' := fun w => InAt w i (bdS2 b)) h9 s9)
    have K6 := Lib.hid k9
    have Y6 : Hid (ku.ownBlock ≠ some g2) := y9.other D6.out.one (by decide)
    clear D1 h9 s9 k9 y9
    obtain ⟨KA, kc, rfl, kx, km, _⟩ := id K6.out
    unfold maxLen at km
    have hkl : (bdK b).length ≤ 9223372036854775807 := by omega
    clear kx km
    go_wp2_with fail
    refine (C7.out _ _ D6.out.inn).mono ?_
    intro e w12 hh
    obtain ⟨he, hw⟩ := hh
    subst he hw
    go_wp2_with fail
    refine (C8.out _).mono ?_
    intro e w13 hh
    obtain ⟨he, b13⟩ := hh
    subst he
    have D11 := Lib.hid (D6.out.kept (D6.out.inn.kept b13) b13)
    have K11 := Lib.hid (K6.out.below b13)
    clear D6 K6 b13
    go_wp2_with (first
      | (with_reducible refine wpList_build0 (o := ⟨some 24, _, _, _, _, _⟩) rfl 39 rfl (keyC zeroBu.flatten) Try.builtBu ?_)
      | ((with_reducible refine wpList_store_row (o := ⟨none, _, _, _, _, _⟩) rfl 39 (.tmp 2) (.tmp 24) rfl g2 39 (keyC zeroBu.flatten) (keyC zeroBu.flatten) (by with_unfolding_all rfl) (by with_unfolding_all rfl) (by with_unfolding_all exact D11.out.one) rfl (Try.sizeBu zeroBu_ok) (keyC_one _) ?_); intro w14 p14; have P14 := Lib.hid p14))
    refine bodyPost_ret (ret_row_tmp rfl _ g2 39 (keyC zeroBu.flatten) _ (by rfl) P14.out.row Try.underlying39 rfl (Try.sizeBu zeroBu_ok)) rfl ?_
    exact ⟨by rw [EF.out]; rfl, by rw [EF.out]; exact zeroBu_ok, P14.out.below D11.out.below D11.out.below.size D11.out.ha⟩
end Go.Proofs.Ytmhhjdiilmgmoaa
end
