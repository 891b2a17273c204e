/-
  Texts that belong together, merged: MacH, MacI, MacD, AppD, L. Conditions: as each theorem names them.
-/
import Derived.Test.YtjdbjgaoeijmfaaDoorQSbaAG
import Derived.Test.YtjdbjgaoeijmfaaDoorQSbaAF
import Derived.Test.YtjdbjgaoeijmfaaDoorQSbaAE
import Derived.Test.YtjdbjgaoeijmfaaDoorQSbaAH
import Derived.Test.YtjdbjgaoeijmfaaDoorQSbaAC
import Derived.Lib.AppendZerosOnto
import Derived.Test.YtjdbjgaoeijmfaaDoorQSbaAA
section
namespace Go.Proofs.YtjdbjgaoeijmfaaDoor
open Go.RowKit Go.Shelf
attribute [local go_sem] Oper.semAt_some
set_option linter.unusedVariables false
set_option maxRecDepth 20000

/-- What may come of a Meter at g that keeps nothing: it has counted, but no more than M. -/
def MeterStep (g M : Nat) (A B : World) : Prop :=
  A.grownBy B (some g) ∧ (∃ n, RowAt A g 54 (meterC false n (.slice none 0 0))) ∧ ∃ n, n ≤ M ∧ RowAt B g 54 (meterC false n (.slice none 0 0))
theorem MeterStep.keeps {g M : Nat} {A B : World} (h : MeterStep g M A B) (k : Nat) (o : Obj) (hk : A.heap[k]? = some o) (ho : o.isCells = false) : B.heap[k]? = some o := by
  obtain ⟨hg, ⟨n, hn⟩, _⟩ := h
  refine (hg.block k (Array.getElem?_eq_some_iff.1 hk).1 fun e => ?_).trans hk
  injection e with e
  subst e
  rw [show A.heap[k]? = _ from hn] at hk
  cases hk
  simp [Obj.isCells] at ho

/-- A row of cells, but none of bytes. -/
def rowKept : Obj → Bool
  | .cells _ t _ => t != 5
  | _ => false
/-- What a round's body must keep: all that lay when the caller began, and each row but those that X names. -/
def BodyKeeps (x : World) (X : Nat → Prop) (W W' : World) : Prop := Below x.heap.size W W' ∧ ∀ k o, W.heap[k]? = some o → rowKept o = true → ¬ X k → W'.heap[k]? = some o
theorem bodyKeeps_t {x : World} {X : Nat → Prop} {A B C : World} (h : BodyKeeps x X A B) (k : BodyKeeps x X B C) : BodyKeeps x X A C :=
  ⟨h.1.trans k.1, fun i o h1 h2 h3 => k.2 i o (h.2 i o h1 h2 h3) h2 h3⟩
theorem bodyKeeps_b {x w : World} {X : Nat → Prop} (hx : x.heap.size ≤ w.heap.size) (W : World) (l : Nat) (o o' : Obj) (hl : w.heap.size ≤ l) (h : W.heap[l]? = some o) (h2 : o.isCells = false) (h3 : o.isWalk = false) : BodyKeeps x X W (W.putObj l o') := by
  refine ⟨belowK_b hx W l o o' hl h h2 h3, fun k o2 hk hc _ => ?_⟩
  refine (World.putObj_heap_other fun e => ?_).trans hk
  subst e
  rw [h] at hk
  cases hk
  cases o <;> simp [rowKept, Obj.isCells] at hc h2
theorem BodyKeeps.of_below {x W W' : World} {X : Nat → Prop} (hx : x.heap.size ≤ W.heap.size) (h : Below W.heap.size W W') : BodyKeeps x X W W' :=
  ⟨h.mono hx, fun k o hk _ _ => (h.block k (Array.getElem?_eq_some_iff.1 hk).1).trans hk⟩

theorem Run.beneath {w0 w x y : World} {g n : Nat} (h : Run w0 w g n x) (hb : Below w.heap.size x y) : Run w0 w g n y :=
  ⟨h.below.trans (hb.mono h.old), h.row.below hb h.glt, h.tabs0, h.far, h.old, h.row0, ⟨hb.os.trans h.grown.os, hb.tape.trans h.grown.tape, hb.output.trans h.grown.output, Nat.le_trans h.grown.size hb.size, fun k hk h1 => (hb.block k hk).trans (h.grown.block k hk h1)⟩⟩
theorem Run.step {w0 w x y : World} {g n M : Nat} (h : Run w0 w g n x) (hs : MeterStep g M x y) : ∃ n', n' ≤ M ∧ Run w0 w g n' y := by
  obtain ⟨hg, _, n', hn, hr⟩ := hs
  exact ⟨n', hn, h.below.grown hg h.below.size (fun k e => by injection e with e; subst e; exact h.far), hr, h.tabs0, h.far, h.old, h.row0, grown_trans h.grown hg⟩
theorem Run.meterStep {w0 w x : World} {g n M : Nat} (h : Run w0 w g n x) (hn : n ≤ M) : MeterStep g M w x := ⟨h.grown, h.row0, n, hn, h.row⟩

/-- What the function has captured: how many, a Meter, a key, an info. -/
structure XEnv (w0 x W : World) (g m gn gm gk gi : Nat) (vi : Value) (key : List UInt8) (N : Nat) : Prop where
  run : ∃ n, n ≤ m ∧ Run w0 x g n W
  count : Boxed W gn 3 (.int .i64 (N : Int))
  meter : Boxed W gm 26 (.pointer (some ⟨g, 0, none⟩))
  key : RowAt W gk 23 (keyC key)
  info : Boxed W gi 24 vi
section
variable {w0 x W W' : World} {g m gn gm gk gi : Nat} {vi : Value} {key : List UInt8} {N : Nat}
theorem XEnv.apart (h : XEnv w0 x W g m gn gm gk gi vi key N) : gn ≠ g ∧ gm ≠ g ∧ gk ≠ g ∧ gi ≠ g := by
  obtain ⟨n, _, hr⟩ := h.run
  have row : W.heap[g]? = some (.cells (meterC false n (.slice none 0 0)) 54 (0, 0)) := hr.row
  refine ⟨fun e => ?_, fun e => ?_, fun e => ?_, fun e => ?_⟩
  · have c : W.heap[gn]? = _ := h.count
    rw [e, row] at c
    injection c with c; injection c with _ c _; exact absurd c (by decide)
  · have c : W.heap[gm]? = _ := h.meter
    rw [e, row] at c
    injection c with c; injection c with _ c _; exact absurd c (by decide)
  · have c : W.heap[gk]? = _ := h.key
    rw [e, row] at c
    injection c with c; injection c with _ c _; exact absurd c (by decide)
  · have c : W.heap[gi]? = _ := h.info
    rw [e, row] at c
    injection c with c; injection c with _ c _; exact absurd c (by decide)
theorem XEnv.below (h : XEnv w0 x W g m gn gm gk gi vi key N) (hb : Below W.heap.size W W') : XEnv w0 x W' g m gn gm gk gi vi key N := by
  obtain ⟨n, hn, hr⟩ := h.run
  exact ⟨⟨n, hn, hr.kept hb⟩, (hb.block _ h.count.lt).trans h.count, (hb.block _ h.meter.lt).trans h.meter, h.key.kept hb, (hb.block _ h.info.lt).trans h.info⟩
theorem XEnv.ran (h : XEnv w0 x W g m gn gm gk gi vi key N) {n m' : Nat} (hr : Run w0 W g n W') (hn : n ≤ m') : XEnv w0 x W' g m' gn gm gk gi vi key N := by
  obtain ⟨h1, h2, h3, h4⟩ := h.apart
  obtain ⟨n0, _, hr0⟩ := h.run
  exact ⟨⟨n, hn, hr0.trans hr⟩, h.count.kept hr.grown (by intro e; injection e with e; exact h1 e), h.meter.kept hr.grown (by intro e; injection e with e; exact h2 e), hr.other h.key h3, h.info.kept hr.grown (by intro e; injection e with e; exact h4 e)⟩
theorem XEnv.body (h : XEnv w0 x W g m gn gm gk gi vi key N) {X : Nat → Prop} (hX : ¬ X gn ∧ ¬ X gm ∧ ¬ X gk ∧ ¬ X gi) (hb : BodyKeeps x X W W') : XEnv w0 x W' g m gn gm gk gi vi key N := by
  obtain ⟨h1, h2, h3, h4⟩ := hX
  obtain ⟨n0, hn, hr0⟩ := h.run
  exact ⟨⟨n0, hn, hr0.beneath hb.1⟩, hb.2 _ _ h.count rfl h1, hb.2 _ _ h.meter rfl h2, hb.2 _ _ h.key rfl h3, hb.2 _ _ h.info rfl h4⟩
theorem XEnv.own (h : XEnv w0 x W g m gn gm gk gi vi key N) {row : Option Nat} (hg : W.grownBy W' row) (hr : ∀ r, row = some r → ∃ o : Obj, W.heap[r]? = some o ∧ o.isCells = false) (hx : ∀ r, row = some r → x.heap.size ≤ r) : XEnv w0 x W' g m gn gm gk gi vi key N := by
  obtain ⟨n0, hn, hr0⟩ := h.run
  have keep : ∀ (k : Nat) (o : Obj), W.heap[k]? = some o → o.isCells = true → W'.heap[k]? = some o := fun k o hk hc => by
    refine (hg.block k (Array.getElem?_eq_some_iff.1 hk).1 fun e => ?_).trans hk
    obtain ⟨o2, h1, h2⟩ := hr k e.symm
    rw [hk] at h1
    cases h1
    rw [hc] at h2
    cases h2
  exact ⟨⟨n0, hn, hr0.beneath ((Below.refl _ W).grown hg hr0.size hx)⟩, keep _ _ h.count rfl, keep _ _ h.meter rfl, keep _ _ h.key rfl, keep _ _ h.info rfl⟩
end

theorem XEnv.stepped {w0 x A B : World} {g m gn gm gk gi M : Nat} {vi : Value} {key : List UInt8} {N : Nat} (h : XEnv w0 x A g m gn gm gk gi vi key N) (hs : MeterStep g M A B) : XEnv w0 x B g M gn gm gk gi vi key N := by
  obtain ⟨h1, h2, h3, h4⟩ := h.apart
  obtain ⟨n0, _, hr0⟩ := h.run
  exact ⟨hr0.step hs, h.count.kept hs.1 (by intro e; injection e with e; exact h1 e), h.meter.kept hs.1 (by intro e; injection e with e; exact h2 e), h.key.grown hs.1 (by intro e; injection e with e; exact h3 e), h.info.kept hs.1 (by intro e; injection e with e; exact h4 e)⟩
theorem XEnv.lt {w0 x W : World} {g m gn gm gk gi : Nat} {vi : Value} {key : List UInt8} {N : Nat} (h : XEnv w0 x W g m gn gm gk gi vi key N) : gn < W.heap.size ∧ gm < W.heap.size ∧ gk < W.heap.size ∧ gi < W.heap.size := ⟨h.count.lt, h.meter.lt, h.key.lt, h.info.lt⟩
theorem XEnv.more {w0 x W : World} {g m m' gn gm gk gi : Nat} {vi : Value} {key : List UInt8} {N : Nat} (h : XEnv w0 x W g m gn gm gk gi vi key N) (hm : m ≤ m') : XEnv w0 x W g m' gn gm gk gi vi key N := by
  obtain ⟨n, hn, hr⟩ := h.run
  exact ⟨⟨n, Nat.le_trans hn hm, hr⟩, h.count, h.meter, h.key, h.info⟩

/-- What was told last, as the next round reads it. -/
def LastOk (base : Nat) (W : World) (v : Value) (key info : List UInt8) (k : Nat) : Prop :=
  (k = 0 ∧ v = .slice none 0 0) ∨ (0 < k ∧ ∃ b, v = .slice (some ⟨b, 0, none⟩) 32 32 ∧ base ≤ b ∧ RowAt W b 23 (keyC (tB key info k)))
theorem LastOk.bs {base : Nat} {W : World} {v : Value} {key info : List UInt8} {k : Nat} (h : LastOk base W v key info k) : Bs W v (tB key info k) := by
  rcases h with ⟨rfl, rfl⟩ | ⟨hk, b, rfl, _, hr⟩
  · exact Bs.nil W
  · obtain ⟨j, rfl⟩ : ∃ j, k = j + 1 := ⟨k - 1, by omega⟩
    exact row32 hr (tB_length _ _ _)
theorem LastOk.keep {base : Nat} {W W' : World} {v : Value} {key info : List UInt8} {k : Nat} (h : LastOk base W v key info k) (hk : ∀ b cs, RowAt W b 23 cs → base ≤ b → RowAt W' b 23 cs) : LastOk base W' v key info k := by
  rcases h with ⟨rfl, rfl⟩ | ⟨h0, b, rfl, hb, hr⟩
  · exact .inl ⟨rfl, rfl⟩
  · exact .inr ⟨h0, b, rfl, hb, hk b _ hr hb⟩
theorem meter_not_key {W : World} {g n b : Nat} {cs : Array Value} (h : RowAt W g 54 (meterC false n (.slice none 0 0))) (hr : RowAt W b 23 cs) : b ≠ g := by
  rintro rfl
  have e := (show W.heap[b]? = _ from h).symm.trans (show W.heap[b]? = _ from hr)
  injection e with e
  injection e with _ c _
  exact absurd c (by decide)
theorem wrap64k (n : Nat) (h : n < 18446744073709551616) : IntKind.u64.wrap (n : Int) = (n : Int) := by rw [IntKind.wrap_u64]; omega
theorem high1 (k : Nat) (hk : k < 256) (w : World) : Calls Tryd.prog 29 #[.int .u64 (k : Int), .int .i64 1] w (RetBs w [UInt8.ofNat k]) := by
  have h := High_in w k 1 (by omega) (by omega) (by omega)
  have e : (lowB k 1).reverse = [UInt8.ofNat k] := by simp [lowB, byteN]
  rwa [e] at h
/-- However a region's operations came about, one continuation serves. -/
theorem share_walk {P : Program} {md : Region.Mode} {ops : Array Oper} {Q : Exit → Act → World → Prop} {fin : Nat → Bool} {w : World} {T : World → Prop} {m : Nat} {listed : Array Bool} {a : Act} {A : Nat → Option Addr → Nat → Nat → Act} (E : Nat → World → Prop)
    (hgo : ∀ g d c b w', E g w' → Q .normal (A g d c b) w') (h : (∀ g d c b w', E g w' → Q .normal (A g d c b) w') → walkS P md ops Q T fin m listed a w) : walkS P md ops Q T fin m listed a w := h hgo
/-- Two are left, in whichever order: the one that makes a variable, and another one. -/
theorem walkT_two {P : Program} {md : Region.Mode} {ops : Array Oper} {Q : Exit → Act → World → Prop} {S : World → Prop} {fin : Nat → Bool} {i j m : Nat} {oi oj : Oper} {listed : Array Bool} {a : Act} {w : World} (hr : Region.ready md ops listed = [i, j]) (hi : ops[i]? = some oi) (hj : ops[j]? = some oj) (hgi : oi.guard = none) (hgj : oj.guard = none)
    (h1 : ∀ K : Act → World → Prop, (∀ a' w', (fin i = true ∨ S w') → walkS P md ops Q S fin m (listed.setIfInBounds i true) a' w' → K a' w') → oi.wp P a w K Q)
    (h2 : ∀ K : Act → World → Prop, (∀ a' w', (fin j = true ∨ S w') → walkS P md ops Q S fin m (listed.setIfInBounds j true) a' w' → K a' w') → oj.wp P a w K Q) : walkS P md ops Q S fin (m + 1) listed a w := by
  have gone : ∀ o : Oper, o.guard = none → Region.wanted o (yielded ops a.tmps) = true := fun o h => by simp [Region.wanted, h]
  refine ⟨fun h0 => by simp [hr] at h0, fun k hk => ?_⟩
  rw [hr] at hk
  unfold wpOp
  rcases List.mem_cons.1 hk with rfl | hk
  · simp only [hi, gone _ hgi, if_true]
    exact .inl (h1 _ (fun _ _ h1 h2 => ⟨h1, h2⟩))
  · obtain rfl : k = j := by simpa using hk
    simp only [hj, gone _ hgj, if_true]
    exact .inl (h2 _ (fun _ _ h1 h2 => ⟨h1, h2⟩))

set_option maxHeartbeats 8000000 in
theorem expanded1_tells (nn : Nat) (hnn : 1 ≤ nn) (w0 x w : World) (g n0 M gn gm gk gi : Nat) (vi : Value) (key info : List UInt8) (N : Nat) (X : Nat → Prop) (hX : ∀ k, X k → k < w.heap.size) (hX4 : ¬ X gn ∧ ¬ X gm ∧ ¬ X gk ∧ ¬ X gi)
    (hk : key.length = 32) (hi : ∀ W, Below w.heap.size w W → Bs W vi info) (hi2 : 1 < N → Bs x vi info) (hil : info.length ≤ 20000) (hN : N ≤ 255) (hM : n0 + 3 * N ≤ M) (hM2 : M ≤ 10000000) (env : XEnv w0 x w g n0 gn gm gk gi vi key N) :
    SeqR Fence.wide nn Tryd.prog 68 #[.pointer (some ⟨gn, 0, none⟩), .pointer (some ⟨gm, 0, none⟩), .pointer (some ⟨gk, 0, none⟩), .pointer (some ⟨gi, 0, none⟩)]
      (fun y : Nat => #[keyV (tB key info (y + 1))]) (MeterStep g M) (BodyKeeps x X) (fun ys => ys = List.range N) (fun _ => True) N w := by
  intro l J Jx W hW hJ hJx hJR hJxR hY h0
  have EV := Lib.hid (env.below hW)
  have HK := Lib.hid hk
  obtain ⟨IA, ic, rfl, _, _, _⟩ := hi w (Below.refl _ _)
  have HI := Lib.hid hi
  have HI2 := Lib.hid hi2
  have HW0 := Lib.hid hW
  have HJ := Lib.hid hJ
  have HJR := Lib.hid hJR
  have HY := Lib.hid hY
  have HWX : Hid (∀ k, X k → k < W.heap.size) := fun k h => Nat.lt_of_lt_of_le (hX k h) hW.size
  have HX4 := Lib.hid hX4
  have cm := EV.out.count.cell
  clear env hW hk hi hi2 hJ hJx hJR hJxR hY hX hX4
  refine callsIn_of_wp Tryd.func68 rfl trivial ?_ rfl
  simp only [Tryd.ntmps68, List.size_toArray, List.length_cons, List.length_nil, Nat.reduceAdd, Nat.reduceSub, Array.replicate_succ, Array.replicate_zero, List.push_toArray, List.append_toArray, List.nil_append, List.cons_append]
  gi_wp2
  clear cm
  gi_loopw [6, 10] (fun v i wr => ∃ k : Nat, k ≤ N ∧ i = .int .i64 k ∧ J (List.range k) wr ∧ W.heap.size ≤ wr.heap.size ∧ (k = 0 → Below w.heap.size w wr) ∧ LastOk W.heap.size wr v key info k ∧ XEnv w0 x wr g (n0 + 3 * k) gn gm gk gi (.slice IA info.length ic) key N) (fun _ i _ => N - (intOf i).toNat)
  case atStart => exact ⟨0, Nat.zero_le _, rfl, h0, Nat.le_refl _, fun _ => HW0.out, .inl ⟨rfl, rfl⟩, EV.out⟩
  case round =>
    clear h0 EV
    obtain ⟨k, hkN, rfl, hJs, hsz, hfst, hlast, hev⟩ := hrel
    have EV := Lib.hid hev
    have HJs := Lib.hid hJs
    have HL := Lib.hid hlast
    clear hev hJs hlast
    by_cases hlt : k < N
    · gi_wp2
      refine wpIn_wide.2 ?_
      have HS0 : Hid (Boxed wr gm 26 (.pointer (some ⟨g, 0, none⟩)) ∧ Boxed wr gi 24 (.slice IA info.length ic)) := ⟨EV.out.meter, EV.out.info⟩
      obtain ⟨n1, hn1, hrun⟩ := EV.out.run
      obtain ⟨hgn, hgm, hgk, hgi⟩ := EV.out.apart
      obtain ⟨LA, lc, rfl, _, _, _⟩ := HL.out.bs
      have BL : Hid (Bs wr (.slice LA (tB key info k).length lc) (tB key info k)) := HL.out.bs
      have BI : Hid (Bs wr (.slice IA info.length ic) info) := by
        rcases Nat.eq_zero_or_pos k with h | h
        · exact HI.out _ (hfst h)
        · exact hrun.bs (HI2.out (by omega))
      clear hfst
      have BK : Hid (RowAt wr gk 23 (keyC key)) := EV.out.key
      have HTL := tB_le key info k
      obtain ⟨tn, htn⟩ : ∃ t, t = tB key info (k + 1) := ⟨_, rfl⟩
      have LT : Hid (tn.length = 32) := by show _ = _; rw [htn]; exact tB_length _ _ _
      have HT : Hid (macB key [tB key info k, info, [UInt8.ofNat (k + 1)]].flatten = tn) := by show _ = _; rw [htn, tB]; simp
      have HTN := Lib.hid htn
      have R0 := Lib.hid (hrun.self.kept (Below.refl _ _).drew)
      have hn1M : n1 ≤ 100000000 := by omega
      have hK32 : key.length ≤ 100000 := by rw [HK.out]; omega
      have hfl : [tB key info k, info, [UInt8.ofNat (k + 1)]].flatten.length ≤ 100000 := by simp; omega
      have hl0 : 0 < [tB key info k, info, [UInt8.ofNat (k + 1)]].length := by simp
      have hl1 : [tB key info k, info, [UInt8.ofNat (k + 1)]].length ≤ 1000 := by simp
      have hglt := hrun.self.glt
      refine plain_region (S := fun W' => Boxed W' gm 26 (.pointer (some ⟨g, 0, none⟩)) ∧ Boxed W' gi 24 (.slice IA info.length ic)) (fin := fun j => j == 11) (by kernel_rfl) ?_
      have hS : Boxed wr.drew gm 26 (.pointer (some ⟨g, 0, none⟩)) ∧ Boxed wr.drew gi 24 (.slice IA info.length ic) := HS0.out
      have h19 : IntKind.u64.wrap ((k + 1 : Nat) : Int) = ((k + 1 : Nat) : Int) := wrap64k (k + 1) (by omega)
      clear hrun htn HS0
      obtain ⟨k1, hk1⟩ : ∃ k1, k1 = k + 1 := ⟨_, rfl⟩
      have HK1 := Lib.hid hk1
      have hkk : IntKind.i64.wrap ((k : Int) + 1) = (k1 : Int) := by rw [IntWalk.i64_in _ (by omega)]; omega
      rw [← hk1] at h19 HT hfl hl0 hl1
      have hk1b : k1 < 256 := by omega
      clear hk1
      change walkS _ _ _ _ _ _ 12 _ _ _
      apply share_walk (E := fun g8 X => ∃ n', n' ≤ n1 + 3 ∧ wr.heap.size ≤ g8 ∧ g8 ≠ g ∧ RowAt X g8 23 (keyC tn) ∧ Run w0 wr g n' X)
      case h =>
        intro HGO
        have HG := Lib.hid HGO
        clear HGO
        refine walkS_take (i := 0) (oi := ⟨some 13, _, _, _, _, _⟩) (v := .pointer (some ⟨g, 0, none⟩)) rfl (by kernel_rfl) (by kernel_rfl) (fun _ _ _ h => h) _ _ _ _ (by kernel_rfl) (by kernel_rfl) (Or.inl ⟨by rfl, fun w' hS' => (by have c := hS'.1.cell; clear HG hS hS'; go_simp)⟩) hS ?_
        simp only [Act.put, List.setIfInBounds_toArray, List.set_cons_zero, List.set_cons_succ]
        refine walkS_take (i := 1) (oi := ⟨some 14, _, _, _, _, _⟩) (v := .slice (some ⟨gk, 0, none⟩) 32 32) rfl (by kernel_rfl) (by kernel_rfl) (fun _ _ _ h => h) _ _ _ _ (by kernel_rfl) (by kernel_rfl) (Or.inl ⟨by rfl, fun w' hS' => (by clear HG hS hS'; go_simp)⟩) hS ?_
        simp only [Act.put, List.setIfInBounds_toArray, List.set_cons_zero, List.set_cons_succ]
        refine walkS_take (i := 2) (oi := ⟨some 15, _, _, _, _, _⟩) (v := .slice LA (tB key info k).length lc) rfl (by kernel_rfl) (by kernel_rfl) (fun _ _ _ h => h) _ _ _ _ (by kernel_rfl) (by kernel_rfl) (Or.inl ⟨by rfl, fun w' hS' => (by clear HG hS hS'; go_simp)⟩) hS ?_
        simp only [Act.put, List.setIfInBounds_toArray, List.set_cons_zero, List.set_cons_succ]
        refine walkS_take (i := 3) (oi := ⟨some 16, _, _, _, _, _⟩) (v := .slice IA info.length ic) rfl (by kernel_rfl) (by kernel_rfl) (fun _ _ _ h => h) _ _ _ _ (by kernel_rfl) (by kernel_rfl) (Or.inl ⟨by rfl, fun w' hS' => (by have c := hS'.2.cell; clear HG hS hS'; go_simp)⟩) hS ?_
        simp only [Act.put, List.setIfInBounds_toArray, List.set_cons_zero, List.set_cons_succ]
        refine walkS_take (i := 4) (oi := ⟨some 17, _, _, _, _, _⟩) (v := .int .i64 (k : Int)) rfl (by kernel_rfl) (by kernel_rfl) (fun _ _ _ h => h) _ _ _ _ (by kernel_rfl) (by kernel_rfl) (Or.inl ⟨by rfl, fun w' hS' => (by clear HG hS hS'; go_simp)⟩) hS ?_
        simp only [Act.put, List.setIfInBounds_toArray, List.set_cons_zero, List.set_cons_succ]
        refine walkS_take (i := 5) (oi := ⟨some 18, _, _, _, _, _⟩) (v := .int .i64 (k1 : Int)) rfl (by kernel_rfl) (by kernel_rfl) (fun _ _ _ h => h) _ _ _ _ (by kernel_rfl) (by kernel_rfl) (Or.inl ⟨by rfl, fun w' hS' => (by clear HG hS hS'; go_simp)⟩) hS ?_
        simp only [Act.put, List.setIfInBounds_toArray, List.set_cons_zero, List.set_cons_succ]
        refine walkS_take (i := 6) (oi := ⟨some 19, _, _, _, _, _⟩) (v := .int .u64 (k1 : Int)) rfl (by kernel_rfl) (by kernel_rfl) (fun _ _ _ h => h) _ _ _ _ (by kernel_rfl) (by kernel_rfl) (Or.inl ⟨by rfl, fun w' hS' => (by clear HG hS hS'; go_simp)⟩) hS ?_
        simp only [Act.put, List.setIfInBounds_toArray, List.set_cons_zero, List.set_cons_succ]
        refine walkT_two (i := 7) (j := 10) (oi := ⟨some 20, _, _, _, _, _⟩) (oj := ⟨some 8, _, _, _, _, _⟩) (by kernel_rfl) rfl rfl rfl rfl (fun K hK => ?_) (fun K hK => ?_)
        · go_simp
          refine (high1 k1 hk1b _).mono ?_
          intro e x1 h
          obtain ⟨u, he, hu, b1⟩ := h
          subst he
          have s1 := Lib.hid (show Boxed x1 gm _ _ ∧ Boxed x1 gi _ _ from ⟨hS.1.kept (grown_of_below b1) (by simp), hS.2.kept (grown_of_below b1) (by simp)⟩)
          have R1 := Lib.hid (R0.out.kept b1)
          have U := Lib.hid hu
          obtain ⟨UA, uc, hu3, _, _, _⟩ := hu
          replace hu3 : u = .slice UA 1 uc := hu3
          subst hu3
          clear b1
          have hS := s1.out
          clear s1
          refine hK _ _ (.inr hS) ?_
          clear hK K
          try simp only [Act.put, List.setIfInBounds_toArray, List.set_cons_zero, List.set_cons_succ]
          refine walkT_two (i := 8) (j := 10) (oi := ⟨some 21, _, _, _, _, _⟩) (oj := ⟨some 8, _, _, _, _, _⟩) (by kernel_rfl) rfl rfl rfl rfl (fun K hK => ?_) (fun K hK => ?_)
          · go_simp
            obtain ⟨x2, hx2⟩ : ∃ y, y = x1.alloc (.cells #[.slice LA (tB key info k).length lc, .slice IA info.length ic, .slice UA 1 uc] 24) := ⟨_, rfl⟩
            obtain ⟨gb, hgb⟩ : ∃ y, y = x1.heap.size := ⟨_, rfl⟩
            have V := Lib.hid (Bss.three x1 24 _ _ _ _ _ _ (R1.out.bs BL.out) (R1.out.bs BI.out) U.out)
            have bx := alloc_below x1 (.cells #[.slice LA (tB key info k).length lc, .slice IA info.length ic, .slice UA 1 uc] 24)
            have s2 := Lib.hid (show Boxed (x1.alloc (.cells #[.slice LA (tB key info k).length lc, .slice IA info.length ic, .slice UA 1 uc] 24)) gm _ _ ∧ Boxed (x1.alloc (.cells #[.slice LA (tB key info k).length lc, .slice IA info.length ic, .slice UA 1 uc] 24)) gi _ _ from ⟨hS.1.alloc _, hS.2.alloc _⟩)
            rw [← hx2] at V bx s2
            rw [← hgb] at V
            rw [← hx2, ← hgb]
            have hbg : gb ≠ g := by rw [hgb]; exact Nat.ne_of_gt (Nat.lt_of_lt_of_le hglt R1.out.size)
            have R2 := Lib.hid (R1.out.kept bx)
            clear hx2 hgb bx
            have hS := s2.out
            clear s2
            refine hK _ _ (.inr hS) ?_
            clear hK K
            try simp only [Act.put, List.setIfInBounds_toArray, List.set_cons_zero, List.set_cons_succ]
            refine walkT_two (i := 9) (j := 10) (oi := ⟨some 22, _, _, _, _, _⟩) (oj := ⟨some 8, _, _, _, _, _⟩) (by kernel_rfl) rfl rfl rfl rfl (fun K hK => ?_) (fun K hK => ?_)
            · go_simp
              refine (macSum_any w0 _ g n1 (.slice (some ⟨gk, 0, none⟩) 32 32) key _ 0 3 [tB key info k, info, [UInt8.ofNat k1]] (by exact R2.out.self) hn1M (by exact R2.out.bs (row32 BK.out HK.out)) hK32 (by exact V.out) hbg hl0 hfl hl1).mono ?_
              intro e x3 h
              obtain ⟨n2, hn2, he, r3⟩ := h
              subst he
              rw [HT.out]
              have s3 := Lib.hid (show Boxed x3 gm _ _ ∧ Boxed x3 gi _ _ from ⟨hS.1.kept r3.grown (by intro e; injection e with e; exact hgm e), hS.2.kept r3.grown (by intro e; injection e with e; exact hgi e)⟩)
              have R3 := Lib.hid (R2.out.trans r3)
              clear r3
              have hS := s3.out
              clear s3
              refine hK _ _ (.inr hS) ?_
              clear hK K
              try simp only [Act.put, List.setIfInBounds_toArray, List.set_cons_zero, List.set_cons_succ]
              refine walkS_only (i := 10) (o := ⟨some 8, _, _, _, _, _⟩) (by kernel_rfl) rfl rfl fun K hK => ?_
              refine wp_alloc_row 23 rfl (keyC zeroKey) Tryd.zeroK ?_
              intro g8 x4 nn4
              have s4 := Lib.hid (show Boxed x4 gm _ _ ∧ Boxed x4 gi _ _ from ⟨hS.1.kept (grown_of_below nn4.below) (by simp), hS.2.kept (grown_of_below nn4.below) (by simp)⟩)
              have A8 := Lib.hid nn4.row
              have h8 : wr.heap.size ≤ g8 := by rw [nn4.spot]; exact R3.out.size
              have h8g : g8 ≠ g := Nat.ne_of_gt (Nat.lt_of_lt_of_le hglt h8)
              have R4 := Lib.hid (R3.out.kept nn4.below)
              clear nn4
              have hS := s4.out
              clear s4
              refine hK _ _ (.inr hS) ?_
              clear hK K
              try simp only [Act.put, List.setIfInBounds_toArray, List.set_cons_zero, List.set_cons_succ]
              refine walkS_only (i := 11) (o := ⟨none, _, _, _, _, _⟩) (by kernel_rfl) rfl rfl fun K hK => ?_
              refine wp_store_row 23 (.tmp 8) (.tmp 22) rfl g8 23 _ (keyC tn) rfl rfl A8.out (keyC_same zeroKey_length LT.out) (Tryd.sizeKey tn LT.out) (keyC_one tn) ?_
              intro x5 p5
              exact hK _ _ (.inl rfl) (walkS_done (by kernel_rfl) (HG.out g8 UA uc gb x5 ⟨n2, hn2, h8, h8g, p5.row, R4.out.put p5 h8 h8g⟩) _)
            · refine wp_alloc_row 23 rfl (keyC zeroKey) Tryd.zeroK ?_
              intro g8 x3 nn3
              have s3 := Lib.hid (show Boxed x3 gm _ _ ∧ Boxed x3 gi _ _ from ⟨hS.1.kept (grown_of_below nn3.below) (by simp), hS.2.kept (grown_of_below nn3.below) (by simp)⟩)
              have A8 := Lib.hid nn3.row
              have h8 : wr.heap.size ≤ g8 := by rw [nn3.spot]; exact R2.out.size
              have h8g : g8 ≠ g := Nat.ne_of_gt (Nat.lt_of_lt_of_le hglt h8)
              have R3 := Lib.hid (R2.out.kept nn3.below)
              have V := Lib.hid (V.out.keep nn3.below)
              clear nn3
              have hS := s3.out
              clear s3
              refine hK _ _ (.inr hS) ?_
              clear hK K
              try simp only [Act.put, List.setIfInBounds_toArray, List.set_cons_zero, List.set_cons_succ]
              refine walkS_only (i := 9) (o := ⟨some 22, _, _, _, _, _⟩) (by kernel_rfl) rfl rfl fun K hK => ?_
              go_simp
              refine (macSum_any w0 _ g n1 (.slice (some ⟨gk, 0, none⟩) 32 32) key _ 0 3 [tB key info k, info, [UInt8.ofNat k1]] (by exact R3.out.self) hn1M (by exact R3.out.bs (row32 BK.out HK.out)) hK32 (by exact V.out) hbg hl0 hfl hl1).mono ?_
              intro e x4 h
              obtain ⟨n2, hn2, he, r4⟩ := h
              subst he
              rw [HT.out]
              have s4 := Lib.hid (show Boxed x4 gm _ _ ∧ Boxed x4 gi _ _ from ⟨hS.1.kept r4.grown (by intro e; injection e with e; exact hgm e), hS.2.kept r4.grown (by intro e; injection e with e; exact hgi e)⟩)
              have R4 := Lib.hid (R3.out.trans r4)
              have A8 := Lib.hid (r4.other A8.out h8g)
              clear r4
              have hS := s4.out
              clear s4
              refine hK _ _ (.inr hS) ?_
              clear hK K
              try simp only [Act.put, List.setIfInBounds_toArray, List.set_cons_zero, List.set_cons_succ]
              refine walkS_only (i := 11) (o := ⟨none, _, _, _, _, _⟩) (by kernel_rfl) rfl rfl fun K hK => ?_
              refine wp_store_row 23 (.tmp 8) (.tmp 22) rfl g8 23 _ (keyC tn) rfl rfl A8.out (keyC_same zeroKey_length LT.out) (Tryd.sizeKey tn LT.out) (keyC_one tn) ?_
              intro x5 p5
              exact hK _ _ (.inl rfl) (walkS_done (by kernel_rfl) (HG.out g8 UA uc gb x5 ⟨n2, hn2, h8, h8g, p5.row, R4.out.put p5 h8 h8g⟩) _)
          · refine wp_alloc_row 23 rfl (keyC zeroKey) Tryd.zeroK ?_
            intro g8 x2 nn2
            have s2 := Lib.hid (show Boxed x2 gm _ _ ∧ Boxed x2 gi _ _ from ⟨hS.1.kept (grown_of_below nn2.below) (by simp), hS.2.kept (grown_of_below nn2.below) (by simp)⟩)
            have A8 := Lib.hid nn2.row
            have h8 : wr.heap.size ≤ g8 := by rw [nn2.spot]; exact R1.out.size
            have h8g : g8 ≠ g := Nat.ne_of_gt (Nat.lt_of_lt_of_le hglt h8)
            have R2 := Lib.hid (R1.out.kept nn2.below)
            have U := Lib.hid (U.out.below nn2.below)
            clear nn2
            have hS := s2.out
            clear s2
            refine hK _ _ (.inr hS) ?_
            clear hK K
            try simp only [Act.put, List.setIfInBounds_toArray, List.set_cons_zero, List.set_cons_succ]
            refine walkS_only (i := 8) (o := ⟨some 21, _, _, _, _, _⟩) (by kernel_rfl) rfl rfl fun K hK => ?_
            go_simp
            obtain ⟨x3, hx3⟩ : ∃ y, y = x2.alloc (.cells #[.slice LA (tB key info k).length lc, .slice IA info.length ic, .slice UA 1 uc] 24) := ⟨_, rfl⟩
            obtain ⟨gb, hgb⟩ : ∃ y, y = x2.heap.size := ⟨_, rfl⟩
            have V := Lib.hid (Bss.three x2 24 _ _ _ _ _ _ (R2.out.bs BL.out) (R2.out.bs BI.out) U.out)
            have bx := alloc_below x2 (.cells #[.slice LA (tB key info k).length lc, .slice IA info.length ic, .slice UA 1 uc] 24)
            have s3 := Lib.hid (show Boxed (x2.alloc (.cells #[.slice LA (tB key info k).length lc, .slice IA info.length ic, .slice UA 1 uc] 24)) gm _ _ ∧ Boxed (x2.alloc (.cells #[.slice LA (tB key info k).length lc, .slice IA info.length ic, .slice UA 1 uc] 24)) gi _ _ from ⟨hS.1.alloc _, hS.2.alloc _⟩)
            rw [← hx3] at V bx s3
            rw [← hgb] at V
            rw [← hx3, ← hgb]
            have hbg : gb ≠ g := by rw [hgb]; exact Nat.ne_of_gt (Nat.lt_of_lt_of_le hglt R2.out.size)
            have R3 := Lib.hid (R2.out.kept bx)
            have A8 := Lib.hid (A8.out.kept bx)
            clear hx3 hgb bx
            have hS := s3.out
            clear s3
            refine hK _ _ (.inr hS) ?_
            clear hK K
            try simp only [Act.put, List.setIfInBounds_toArray, List.set_cons_zero, List.set_cons_succ]
            refine walkS_only (i := 9) (o := ⟨some 22, _, _, _, _, _⟩) (by kernel_rfl) rfl rfl fun K hK => ?_
            go_simp
            refine (macSum_any w0 _ g n1 (.slice (some ⟨gk, 0, none⟩) 32 32) key _ 0 3 [tB key info k, info, [UInt8.ofNat k1]] (by exact R3.out.self) hn1M (by exact R3.out.bs (row32 BK.out HK.out)) hK32 (by exact V.out) hbg hl0 hfl hl1).mono ?_
            intro e x4 h
            obtain ⟨n2, hn2, he, r4⟩ := h
            subst he
            rw [HT.out]
            have s4 := Lib.hid (show Boxed x4 gm _ _ ∧ Boxed x4 gi _ _ from ⟨hS.1.kept r4.grown (by intro e; injection e with e; exact hgm e), hS.2.kept r4.grown (by intro e; injection e with e; exact hgi e)⟩)
            have R4 := Lib.hid (R3.out.trans r4)
            have A8 := Lib.hid (r4.other A8.out h8g)
            clear r4
            have hS := s4.out
            clear s4
            refine hK _ _ (.inr hS) ?_
            clear hK K
            try simp only [Act.put, List.setIfInBounds_toArray, List.set_cons_zero, List.set_cons_succ]
            refine walkS_only (i := 11) (o := ⟨none, _, _, _, _, _⟩) (by kernel_rfl) rfl rfl fun K hK => ?_
            refine wp_store_row 23 (.tmp 8) (.tmp 22) rfl g8 23 _ (keyC tn) rfl rfl A8.out (keyC_same zeroKey_length LT.out) (Tryd.sizeKey tn LT.out) (keyC_one tn) ?_
            intro x5 p5
            exact hK _ _ (.inl rfl) (walkS_done (by kernel_rfl) (HG.out g8 UA uc gb x5 ⟨n2, hn2, h8, h8g, p5.row, R4.out.put p5 h8 h8g⟩) _)
        · refine wp_alloc_row 23 rfl (keyC zeroKey) Tryd.zeroK ?_
          intro g8 x1 nn1
          have s1 := Lib.hid (show Boxed x1 gm _ _ ∧ Boxed x1 gi _ _ from ⟨hS.1.kept (grown_of_below nn1.below) (by simp), hS.2.kept (grown_of_below nn1.below) (by simp)⟩)
          have A8 := Lib.hid nn1.row
          have h8 : wr.heap.size ≤ g8 := by rw [nn1.spot]; exact R0.out.size
          have h8g : g8 ≠ g := Nat.ne_of_gt (Nat.lt_of_lt_of_le hglt h8)
          have R1 := Lib.hid (R0.out.kept nn1.below)
          clear nn1
          have hS := s1.out
          clear s1
          refine hK _ _ (.inr hS) ?_
          clear hK K
          try simp only [Act.put, List.setIfInBounds_toArray, List.set_cons_zero, List.set_cons_succ]
          refine walkS_only (i := 7) (o := ⟨some 20, _, _, _, _, _⟩) (by kernel_rfl) rfl rfl fun K hK => ?_
          go_simp
          refine (high1 k1 hk1b _).mono ?_
          intro e x2 h
          obtain ⟨u, he, hu, b2⟩ := h
          subst he
          have s2 := Lib.hid (show Boxed x2 gm _ _ ∧ Boxed x2 gi _ _ from ⟨hS.1.kept (grown_of_below b2) (by simp), hS.2.kept (grown_of_below b2) (by simp)⟩)
          have R2 := Lib.hid (R1.out.kept b2)
          have U := Lib.hid hu
          obtain ⟨UA, uc, hu3, _, _, _⟩ := hu
          replace hu3 : u = .slice UA 1 uc := hu3
          subst hu3
          have A8 := Lib.hid (A8.out.kept b2)
          clear b2
          have hS := s2.out
          clear s2
          refine hK _ _ (.inr hS) ?_
          clear hK K
          try simp only [Act.put, List.setIfInBounds_toArray, List.set_cons_zero, List.set_cons_succ]
          refine walkS_only (i := 8) (o := ⟨some 21, _, _, _, _, _⟩) (by kernel_rfl) rfl rfl fun K hK => ?_
          go_simp
          obtain ⟨x3, hx3⟩ : ∃ y, y = x2.alloc (.cells #[.slice LA (tB key info k).length lc, .slice IA info.length ic, .slice UA 1 uc] 24) := ⟨_, rfl⟩
          obtain ⟨gb, hgb⟩ : ∃ y, y = x2.heap.size := ⟨_, rfl⟩
          have V := Lib.hid (Bss.three x2 24 _ _ _ _ _ _ (R2.out.bs BL.out) (R2.out.bs BI.out) U.out)
          have bx := alloc_below x2 (.cells #[.slice LA (tB key info k).length lc, .slice IA info.length ic, .slice UA 1 uc] 24)
          have s3 := Lib.hid (show Boxed (x2.alloc (.cells #[.slice LA (tB key info k).length lc, .slice IA info.length ic, .slice UA 1 uc] 24)) gm _ _ ∧ Boxed (x2.alloc (.cells #[.slice LA (tB key info k).length lc, .slice IA info.length ic, .slice UA 1 uc] 24)) gi _ _ from ⟨hS.1.alloc _, hS.2.alloc _⟩)
          rw [← hx3] at V bx s3
          rw [← hgb] at V
          rw [← hx3, ← hgb]
          have hbg : gb ≠ g := by rw [hgb]; exact Nat.ne_of_gt (Nat.lt_of_lt_of_le hglt R2.out.size)
          have R3 := Lib.hid (R2.out.kept bx)
          have A8 := Lib.hid (A8.out.kept bx)
          clear hx3 hgb bx
          have hS := s3.out
          clear s3
          refine hK _ _ (.inr hS) ?_
          clear hK K
          try simp only [Act.put, List.setIfInBounds_toArray, List.set_cons_zero, List.set_cons_succ]
          refine walkS_only (i := 9) (o := ⟨some 22, _, _, _, _, _⟩) (by kernel_rfl) rfl rfl fun K hK => ?_
          go_simp
          refine (macSum_any w0 _ g n1 (.slice (some ⟨gk, 0, none⟩) 32 32) key _ 0 3 [tB key info k, info, [UInt8.ofNat k1]] (by exact R3.out.self) hn1M (by exact R3.out.bs (row32 BK.out HK.out)) hK32 (by exact V.out) hbg hl0 hfl hl1).mono ?_
          intro e x4 h
          obtain ⟨n2, hn2, he, r4⟩ := h
          subst he
          rw [HT.out]
          have s4 := Lib.hid (show Boxed x4 gm _ _ ∧ Boxed x4 gi _ _ from ⟨hS.1.kept r4.grown (by intro e; injection e with e; exact hgm e), hS.2.kept r4.grown (by intro e; injection e with e; exact hgi e)⟩)
          have R4 := Lib.hid (R3.out.trans r4)
          have A8 := Lib.hid (r4.other A8.out h8g)
          clear r4
          have hS := s4.out
          clear s4
          refine hK _ _ (.inr hS) ?_
          clear hK K
          try simp only [Act.put, List.setIfInBounds_toArray, List.set_cons_zero, List.set_cons_succ]
          refine walkS_only (i := 11) (o := ⟨none, _, _, _, _, _⟩) (by kernel_rfl) rfl rfl fun K hK => ?_
          refine wp_store_row 23 (.tmp 8) (.tmp 22) rfl g8 23 _ (keyC tn) rfl rfl A8.out (keyC_same zeroKey_length LT.out) (Tryd.sizeKey tn LT.out) (keyC_one tn) ?_
          intro x5 p5
          exact hK _ _ (.inl rfl) (walkS_done (by kernel_rfl) (HG.out g8 UA uc gb x5 ⟨n2, hn2, h8, h8g, p5.row, R4.out.put p5 h8 h8g⟩) _)
      intro g8 UA uc gb x5 hE
      obtain ⟨n2, hn2, h8, h8g, hT, r5⟩ := hE
      have EV2 := Lib.hid (EV.out.ran (m' := n0 + 3 * (k + 1)) r5 (by omega))
      have hJ2 := HJR.out _ _ _ HJs.out (r5.meterStep (by omega))
      have TT := Lib.hid hT
      have hsz5 := r5.size
      have HN := Lib.hid (show RowAt x5 g8 23 (keyC (tB key info (k + 1))) by rw [← HTN.out]; exact hT)
      obtain ⟨fn, tmps, assign, body, hy, hR⟩ := HY.out _ k x5 hJ2 (by simp; omega)
      have HJ3 : Hid (List.range k ++ [k] = List.range (k + 1)) := List.range_succ.symm
      rw [← HTN.out] at hy
      unfold keyV at hy
      clear hJ2 hT r5 EV R0 BL BI BK HL HJs
      gi_wp2_with (with_reducible refine wideL_load_row (o := ⟨some 24, _, _, _, _, _⟩) rfl 23 (.tmp 8) rfl g8 (by with_unfolding_all rfl) 23 (keyC tn) (0, 0) (.array 32 5) (by with_unfolding_all exact TT.out) Tryd.underlying23 rfl (Tryd.sizeKey tn LT.out) ?_)
      gi_wp2
      refine hR.mono ?_
      rintro e W3 (⟨rfl, hJ3, hk3⟩ | ⟨rfl, hJx3⟩)
      · have EV3 := Lib.hid (EV2.out.body HX4.out hk3)
        have HT3 := Lib.hid (hk3.2 _ _ HN.out rfl (fun h => by have := HWX.out _ h; omega))
        have hsz3 : W.heap.size ≤ W3.heap.size := Nat.le_trans (by have := (Array.getElem?_eq_some_iff.1 (hk3.2 _ _ HN.out rfl (fun h => by have := HWX.out _ h; omega))).1; omega) (Nat.le_refl _)
        rw [HJ3.out] at hJ3
        have HJ4 := Lib.hid hJ3
        clear hJ3 hk3
        gi_wp2
        go_roundw
        case rel => exact ⟨k + 1, by omega, by rw [HK1.out], HJ4.out, hsz3, (fun h => by omega), .inr ⟨by omega, g8, rfl, by omega, HT3.out⟩, EV3.out⟩
        case measure => have := HK1.out; simp [intOf]; omega
      · gi_wp2
        refine bodyPost_ret (results_none rfl _ _ _) rfl ?_
        exact ⟨⟨_, rfl⟩, .inr ⟨_, trivial, hJx3⟩⟩
    · have hkN2 : k = N := by omega
      have HJ5 : Hid (J (List.range N) wr) := by rw [← hkN2]; exact HJs
      clear hkN2 HJs
      gi_wp2
      go_end0
      exact ⟨⟨_, rfl⟩, .inl ⟨_, rfl, HJ5.out⟩⟩
end Go.Proofs.YtjdbjgaoeijmfaaDoor
end
section
namespace Go.Proofs.YtjdbjgaoeijmfaaDoor
open Go.RowKit Go.Shelf
attribute [local go_sem] Oper.semAt_some
set_option linter.unusedVariables false
set_option maxRecDepth 20000

set_option maxHeartbeats 1000000 in
theorem expanded_any (w0 x w : World) (g n : Nat) (hr : Run w0 x g n w) (A : Option Addr) (l c : Nat) (key : List UInt8) (hk : key.length = 32) (N : Nat) :
    Calls Tryd.prog 54 #[.pointer (some ⟨g, 0, none⟩), keyV key, .slice A l c, .int .i64 (N : Int)] w fun e w' => ∃ gn gm gk gi : Nat,
      e = .returned (.func (.func 68) #[] #[.pointer (some ⟨gn, 0, none⟩), .pointer (some ⟨gm, 0, none⟩), .pointer (some ⟨gk, 0, none⟩), .pointer (some ⟨gi, 0, none⟩)]) ∧
      XEnv w0 x w' g n gn gm gk gi (.slice A l c) key N ∧ (w.heap.size ≤ gn ∧ w.heap.size ≤ gm ∧ w.heap.size ≤ gk ∧ w.heap.size ≤ gi) ∧ Below w.heap.size w w' := by
  have HR := Lib.hid hr
  clear hr
  go_enter Tryd.func54, Tryd.ntmps54
  go_wp2_with ((with_reducible refine wpList_box_row (o := ⟨some 5, _, _, _, _, _⟩) rfl 23 (.tmp 1) rfl (keyC key) (by with_unfolding_all rfl) ?_); intro g1 w1 n1)
  go_ret
  have z1 := n1.size
  have e1 := n1.spot
  simp only [World.size_alloc] at e1 z1
  have b1 : Below w.heap.size w (w.alloc (.cells #[.pointer (some ⟨g, 0, none⟩)] 26)) := alloc_below _ _
  have b2 : Below w.heap.size w w1 := below_size b1 n1.below
  have b3 : Below w.heap.size w (w1.alloc (.cells #[.slice A l c] 24)) := b2.alloc b2.size _
  have b4 : Below w.heap.size w ((w1.alloc (.cells #[.slice A l c] 24)).alloc (.cells #[.int .i64 (N : Int)] 3)) := b3.alloc b3.size _
  refine ⟨w1.heap.size + 1, w.heap.size, g1, w1.heap.size, ?_, ⟨⟨n, Nat.le_refl _, HR.out.kept b4⟩, ?_, ?_, ?_, ?_⟩, ⟨by omega, by omega, by omega, by omega⟩, b4⟩
  · simp
  · have := Boxed.new (w1.alloc (.cells #[.slice A l c] 24)) 3 (.int .i64 (N : Int))
    rwa [World.size_alloc] at this
  · exact (((Boxed.new w 26 (.pointer (some ⟨g, 0, none⟩))).kept (grown_of_below n1.below) (by simp)).alloc _).alloc _
  · exact (n1.row.alloc _).alloc _
  · exact (Boxed.new w1 24 (.slice A l c)).alloc _
end Go.Proofs.YtjdbjgaoeijmfaaDoor
end
section
namespace Go.Proofs.YtjdbjgaoeijmfaaDoor
open Go.RowKit
set_option linter.unusedVariables false
set_option maxRecDepth 20000

/-- What a Log that keeps nothing holds. -/
def logC (n : Nat) : Array Value := #[.bool false, .int .i64 (n : Int), .slice none 0 0]
theorem logC_put (n : Nat) : (logC n).setIfInBounds 1 (.int .i64 ((n : Int) + 1)) = logC (n + 1) := by
  simp [logC]

theorem Bs.log {w w' : World} {v : Value} {l : List UInt8} {g n : Nat} {t : TypeId} (h : Bs w v l) (hr : RowAt w g t (logC n)) (hg : w.grownBy w' (some g)) : Bs w' v l := by
  obtain ⟨B, d, rfl, h1, h2, h3⟩ := h
  refine ⟨B, d, rfl, h1, h2, fun h0 => ?_⟩
  obtain ⟨b, off, hA, hc⟩ := h3 h0
  refine ⟨b, off, hA, fun j hj => ?_⟩
  have hcj := hc j hj
  have hb : b ≠ g := by
    intro e
    subst e
    rw [hr.cell] at hcj
    simp only [logC] at hcj
    rcases hx : off + j with _ | _ | _ | m <;> rw [hx] at hcj <;> simp at hcj
  exact (World.cell?_of_block (a := ⟨b, off + j, none⟩) (hg.block _ (World.block_lt_of_cell? w _ hcj) (by intro e; injection e with e; exact hb e))).trans hcj

/-- From w to x with a Log at g that keeps nothing and was made behind w0: it has counted n; all else that was there at w is as it was. -/
structure LogR (w0 w : World) (g n : Nat) (x : World) : Prop where
  below : Below w0.heap.size w0 x
  row : RowAt x g 31 (logC n)
  far : w0.heap.size ≤ g
  old : w0.heap.size ≤ w.heap.size
  row0 : ∃ n0, RowAt w g 31 (logC n0)
  grown : w.grownBy x (some g)
theorem LogR.self {w0 w x : World} {g n : Nat} (h : LogR w0 w g n x) : LogR w0 x g n x := ⟨h.below, h.row, h.far, h.below.size, ⟨n, h.row⟩, grown_refl _ _⟩
theorem LogR.new {w0 x : World} {g n : Nat} (hb : Below w0.heap.size w0 x) (h : RowAt x g 31 (logC n)) (hf : w0.heap.size ≤ g) : LogR w0 x g n x :=
  ⟨hb, h, hf, hb.size, ⟨n, h⟩, grown_refl _ _⟩
theorem LogR.kept {w0 w x y : World} {g n : Nat} (h : LogR w0 w g n x) (hb : Below x.heap.size x y) : LogR w0 w g n y :=
  ⟨below_size h.below hb, h.row.kept hb, h.far, h.old, h.row0, grown_trans h.grown (grown_below _ hb)⟩
theorem LogR.trans {w0 w x y : World} {g n m : Nat} (h : LogR w0 w g n x) (k : LogR w0 x g m y) : LogR w0 w g m y :=
  ⟨k.below, k.row, h.far, h.old, h.row0, grown_trans h.grown k.grown⟩
theorem LogR.put {w0 w x y : World} {g n i : Nat} {t : TypeId} {cs : Array Value} (h : LogR w0 w g n x) (p : PutRow x i t cs y) (hi : w.heap.size ≤ i) (hg : i ≠ g) : LogR w0 w g n y :=
  ⟨p.below h.below h.below.size (Nat.le_trans h.old hi), h.row.grown p.grown (by intro e; injection e with e; exact hg e.symm), h.far, h.old, h.row0,
    ⟨p.grown.os.trans h.grown.os, p.grown.tape.trans h.grown.tape, p.grown.output.trans h.grown.output, Nat.le_trans h.grown.size p.grown.size, fun k hk h1 => (p.grown.block k (Nat.lt_of_lt_of_le hk h.grown.size) (by intro e; injection e with e; omega)).trans (h.grown.block k hk h1)⟩⟩
theorem LogR.count {w0 w x : World} {g n : Nat} (h : LogR w0 w g n x) : LogR w0 w g (n + 1) (x.setCell ⟨g, 1, none⟩ (.int .i64 ((n : Int) + 1))) := by
  have hp := h.row.put 1 (.int .i64 ((n : Int) + 1))
  rw [logC_put] at hp
  exact ⟨h.below.setCell h.far _, hp, h.far, h.old, h.row0, grown_trans h.grown ⟨rfl, rfl, rfl, by simp, fun k _ hne => heap_setCell_other x _ k _ (fun h => hne (by rw [h]))⟩⟩
theorem LogR.other {w0 w x : World} {g n k : Nat} {t : TypeId} {cs : Array Value} (h : LogR w0 w g n x) (hr : RowAt w k t cs) (hk : k ≠ g) : RowAt x k t cs := hr.grown h.grown (by intro e; injection e with e; exact hk e)
theorem LogR.bs {w0 w x : World} {g n : Nat} {v : Value} {l : List UInt8} (h : LogR w0 w g n x) (hv : Bs w v l) : Bs x v l := by
  obtain ⟨n0, h0⟩ := h.row0
  exact hv.log h0 h.grown
theorem LogR.size {w0 w x : World} {g n : Nat} (h : LogR w0 w g n x) : w.heap.size ≤ x.heap.size := h.grown.size
theorem LogR.glt {w0 w x : World} {g n : Nat} (h : LogR w0 w g n x) : g < w.heap.size := by
  obtain ⟨n0, h0⟩ := h.row0
  exact h0.lt

set_option maxHeartbeats 1000000 in
theorem LogSum_run (w0 w : World) (g n : Nat) (v : Value) (l d : List UInt8) (h : LogR w0 w g n w) (hn : n ≤ 1000000000) (hd : d = digestB l) (hb : Bs w v l) (hl : l.length ≤ 1000000) :
    Calls Tryd.prog 32 #[.pointer (some ⟨g, 0, none⟩), v] w fun e w' => e = .returned (.agg (keyC d)) ∧ LogR w0 w g (n + 1) w' := by
  have HR := Lib.hid h
  have HB := Lib.hid hb
  have hgl := h.glt
  have LD : Hid (d.length = 32) := by show _ = _; rw [hd, digestB_length]
  have HD : Hid (∀ x u, Bs x u l → Calls Tryd.prog 48 #[u] x (RetV x (.agg (keyC d)))) := fun x u hu => by rw [hd]; exact refDigest_any x u l hu hl
  clear h hb hd
  go_enter Tryd.func32, Tryd.ntmps32
  go_wp2_with ((with_reducible refine wpList_alloc_row (o := ⟨some 4, _, _, _, _, _⟩) rfl 23 rfl (keyC zeroKey) Tryd.zeroK ?_); intro g1 w1 n1; have R1 := Lib.hid (HR.out.kept n1.below); have c0 : w1.cell? ⟨g, 0, none⟩ = some (.bool false) := R1.out.row.cell 0; have c1 : w1.cell? ⟨g, 1, none⟩ = some (.int .i64 (n : Int)) := R1.out.row.cell 1; have z1 : w1.frozen? ⟨g, 1, none⟩ = false := R1.out.row.frozen 1; have hadd : IntKind.i64.wrap ((n : Int) + 1) = (n : Int) + 1 := IntWalk.i64_in _ (by omega))
  have Q1 := Lib.hid n1.row
  have hg1 : w.heap.size ≤ g1 := Nat.le_of_eq n1.spot.symm
  have hgg : g1 ≠ g := by omega
  have R2 := Lib.hid R1.out.count
  have R2s := Lib.hid R1.out.self.count
  have B2 := Lib.hid (R2s.out.bs (HB.out.below n1.below))
  have Q2 := Lib.hid (R2s.out.other Q1.out hgg)
  clear n1 HR HB c0 c1 z1 hadd R1 Q1 R2s
  refine (HD.out _ _ (by exact B2.out)).mono ?_
  intro e w3 h
  obtain ⟨he, b3⟩ := h
  subst he
  have R3 := Lib.hid (R2.out.kept b3)
  have Q3 := Lib.hid (Q2.out.kept b3)
  clear b3 R2 Q2 B2 HD
  go_wp2_with ((with_reducible refine wpList_store_row (o := ⟨none, _, _, _, _, _⟩) rfl 23 (.tmp 4) (.tmp 31) rfl g1 23 _ (keyC d) (by with_unfolding_all rfl) (by with_unfolding_all rfl) Q3.out (keyC_same zeroKey_length LD.out) (Tryd.sizeKey d LD.out) (keyC_one d) ?_); intro w4 p4)
  refine bodyPost_ret (results_cell_row rfl _ _ g1 23 (keyC d) (0, 0) (.array 32 5) rfl p4.row Tryd.underlying23 rfl (Tryd.sizeKey d LD.out)) rfl ⟨rfl, ?_⟩
  exact R3.out.put p4 hg1 hgg
end Go.Proofs.YtjdbjgaoeijmfaaDoor
end
section
namespace Go.Proofs.YtjdbjgaoeijmfaaDoor
open Go.RowKit
set_option linter.unusedVariables false
set_option maxRecDepth 20000

section
variable {P : Program} (w : World)
theorem run_appD (base : Nat) (t ty e : TypeId) (hinfo : (P.info? e).map (fun i => (i.zero, i.size, i.bytes)) = some (some (.int .u8 0), 1, 1)) (ht : P.underlying t = some (.slice e))
    (v u : Value) (l m : List UInt8) (hown : OwnB w base e v l) (hu : Bs w u m) (hlen : l.length + m.length ≤ 140737488355328) (hbase : base ≤ w.heap.size) :
    ∃ v' w', (Builtin.append_ #[t, t] ty #[v, u]).run P w = .ok v' w' ∧ OwnB w' base e v' (l ++ m) ∧ w.grownBy w' v.ownBlock ∧ (v'.ownBlock = v.ownBlock ∨ ∀ k, v'.ownBlock = some k → w.heap.size ≤ k) := by
  obtain ⟨v', w', hr, ho, hg⟩ := run_appB (P := P) w base t ty e hinfo ht v u l m hown hu hlen hbase
  refine ⟨v', w', hr, ho, hg, ?_⟩
  obtain ⟨i, hi, hz0, hz1, hz2⟩ := info_parts hinfo
  rcases hown.2 with ⟨rfl, h0⟩ | ⟨g, cap, cur, rfl, hbg, hgr, hnc, hcm, hcs, htake⟩
  · obtain ⟨v2, w2, hr2, ho2, _⟩ := run_appB (P := P) w w.heap.size t ty e hinfo ht (.slice none 0 0) u l m ⟨hown.1, .inl ⟨rfl, h0⟩⟩ hu hlen (Nat.le_refl _)
    rw [hr] at hr2
    injection hr2 with e1 e2
    subst e1 e2
    exact .inr ho2.rows
  · obtain ⟨A, c, rfl, h1, h2, h3⟩ := hu
    rcases A with _ | ad
    · have hm : m = [] := by
        rcases m with _ | ⟨b, m⟩
        · rfl
        · obtain ⟨_, _, h, _⟩ := h3 (by simp)
          cases h
      subst hm
      left
      have hr2 : (Builtin.append_ #[t, t] ty #[.slice (some ⟨g, 0, none⟩) l.length cap, .slice none ([] : List UInt8).length c]).run P w = .ok (.slice (some ⟨g, 0, none⟩) l.length cap) w := by
        simp [Builtin.append_, run_underlying ht, sizeOf, typeInfo, hi, Builtin.lenOf, Builtin.firstCells, hnc, storeCells]
      rw [hr] at hr2
      injection hr2 with e1 e2
      rw [e1]
    · have hcells : ∀ j x, (cellsB m)[j]? = some x → w.cell? (ad.add j) = some x := by
        intro j x hx
        have hj : j < m.length := by
          have := (List.getElem?_eq_some_iff.1 hx).1
          rwa [cellsB_length] at this
        obtain ⟨b, off, h, hc⟩ := h3 (by omega)
        injection h with h
        subst h
        rw [cellsB_get m j hj] at hx
        have hadd : (⟨b, off, none⟩ : Addr).add j = ⟨b, off + j, none⟩ := by unfold Addr.add; split <;> simp_all
        rw [hadd, hc j hj, hx]
      by_cases hroom : l.length + m.length ≤ cap
      · left
        have hr2 := run_append_room (P := P) w t ty e i ht hi g l.length cap cur hgr ad m.length c (cellsB m) (by rw [cellsB_length, hz1, Nat.mul_one]) hcells (cellsB_one m) hroom (by rw [cellsB_length, hcs, hz1]; omega)
        rw [hr] at hr2
        injection hr2 with e1 e2
        rw [e1]
        rfl
      · right
        have holds : ∀ j x, (cellsB l)[j]? = some x → w.cell? ((⟨g, 0, none⟩ : Addr).add j) = some x := World.ownsRow.cells hown (g := g) rfl
        have hr2 := run_append_grow (P := P) w t ty e i (.int .u8 0) ht hi hz0 ⟨g, 0, none⟩ l.length cap (cellsB l) (by rw [cellsB_length, hz1, Nat.mul_one]) holds ad m.length c (cellsB m) (by rw [cellsB_length, hz1, Nat.mul_one]) hcells (by omega) (by omega) (growslice_fits (by omega) (by rw [hz2]; omega))
        rw [hr] at hr2
        injection hr2 with e1 e2
        intro k hk
        rw [e1] at hk
        have : w.heap.size = k := by simpa [Value.ownBlock] using hk
        omega
end
section
variable {P : Program} {w : World}
theorem step_appD {ops : Array Oper} {o : Oper} {a : Act} {K : Act → World → Prop} {Q : Exit → Act → World → Prop} {E : Prop} (hgd : o.guard = none) (s x : Operand) (t : TypeId)
    (ho : o.op = .call { callee := .builtin .append, args := #[s, x], argTypes := #[t, t] })
    (base : Nat) (e : TypeId) (hinfo : (P.info? e).map (fun i => (i.zero, i.size, i.bytes)) = some (some (.int .u8 0), 1, 1)) (ht : P.underlying t = some (.slice e))
    (v u : Value) (l m : List UInt8) (hs : a.eval s = v) (hx : a.eval x = u) (hown : OwnB w base e v l) (hu : Bs w u m) (hlen : l.length + m.length ≤ 140737488355328) (hb : base ≤ w.heap.size)
    (h : ∀ v' w', OwnB w' base e v' (l ++ m) → w.grownBy w' v.ownBlock → (v'.ownBlock = v.ownBlock ∨ ∀ k, v'.ownBlock = some k → w.heap.size ≤ k) → K (a.put o.dst v') w') :
    if Region.wanted o (yielded ops a.tmps) = true then Oper.wp P o a w K Q else E := by
  have hw : Region.wanted o (yielded ops a.tmps) = true := by simp [Region.wanted, hgd]
  rw [if_pos hw]
  obtain ⟨v', w', hr, h2, h3, h4⟩ := run_appD (P := P) w base t o.type e hinfo ht v u l m hown hu hlen hb
  unfold Oper.wp execOp
  simp only [ho, resolve, invoke, builtin, Sem.run_bind, Sem.run_pure, Result.andThen_ok, List.map_toArray, List.map_cons, List.map_nil, hs, hx, hr]
  exact h v' w' h2 h3 h4
theorem wpList_appD {ops : Array Oper} {rest : List Oper} {o : Oper} {a : Act} {Q : Exit → Act → World → Prop} (hgd : o.guard = none) (s x : Operand) (t : TypeId)
    (ho : o.op = .call { callee := .builtin .append, args := #[s, x], argTypes := #[t, t] })
    (base : Nat) (e : TypeId) (hinfo : (P.info? e).map (fun i => (i.zero, i.size, i.bytes)) = some (some (.int .u8 0), 1, 1)) (ht : P.underlying t = some (.slice e))
    (v u : Value) (l m : List UInt8) (hs : a.eval s = v) (hx : a.eval x = u) (hown : OwnB w base e v l) (hu : Bs w u m) (hlen : l.length + m.length ≤ 140737488355328) (hb : base ≤ w.heap.size)
    (h : ∀ v' w', OwnB w' base e v' (l ++ m) → w.grownBy w' v.ownBlock → (v'.ownBlock = v.ownBlock ∨ ∀ k, v'.ownBlock = some k → w.heap.size ≤ k) → wpList P ops Q rest (a.put o.dst v') w') : wpList P ops Q (o :: rest) a w := by
  obtain ⟨v', w', hr, h2, h3, h4⟩ := run_appD (P := P) w base t o.type e hinfo ht v u l m hown hu hlen hb
  exact Go.Lib.wpList_append_run w hgd s x t t ho _ _ hs hx v' w' hr (h v' w' h2 h3 h4)
/-- Two of the call's own rows that lie apart. -/
def Apart (v s : Value) : Prop := ∀ k, v.ownBlock = some k → s.ownBlock ≠ some k
theorem Apart.symm {v s : Value} (h : Apart v s) : Apart s v := fun k hk h2 => h k h2 hk
theorem Apart.nil (s : Value) : Apart (.slice none 0 0) s := fun k hk => by simp [Value.ownBlock] at hk
/-- .. and stay so where one grows. -/
theorem Apart.grown {base : Nat} {e : TypeId} {v v' s : Value} {l : List UInt8} (h : Apart v s) (hs : OwnB w base e s l) (hd : v'.ownBlock = v.ownBlock ∨ ∀ k, v'.ownBlock = some k → w.heap.size ≤ k) : Apart v' s := by
  intro k hk
  rcases hd with hd | hd
  · exact h k (by rw [← hd]; exact hk)
  · intro h2
    have := (World.ownsRow.lt hs k h2).2
    have := hd k hk
    omega
theorem OwnB.apart {w' : World} {base : Nat} {e : TypeId} {v s : Value} {l : List UInt8} (h : OwnB w base e s l) (ha : Apart v s) (hg : w.grownBy w' v.ownBlock) : OwnB w' base e s l := by
  refine World.ownsRow.kept h hg ?_
  rcases hv : s.ownBlock with _ | k
  · exact .inl rfl
  · refine .inr fun hk => ?_
    exact ha k (by rw [← hk]) hv
end
end Go.Proofs.YtjdbjgaoeijmfaaDoor
end
section
namespace Go.Proofs.YtjdbjgaoeijmfaaDoor
open Go.RowKit
set_option linter.unusedVariables false

theorem keyC_put (l : List UInt8) (i : Nat) (b : UInt8) : (keyC l).setIfInBounds i (.int .u8 (b.toNat : Int)) = keyC (l.set i b) := by
  unfold keyC
  rw [← cellsB_set]
  simp
theorem keyC_cell {w : World} {g : Nat} {t : TypeId} {l : List UInt8} (h : RowAt w g t (keyC l)) (i : Nat) (hi : i < l.length) : w.cell? ⟨g, i, none⟩ = some (.int .u8 (l[i].toNat : Int)) := by
  rw [h.cell i]
  have := cellsB_get l i hi
  simpa [keyC] using this
theorem Tryd.buildK (w : World) : (Instr.build 23 #[]).run Tryd.prog w = .ok (keyV zeroKey) w := by kernel_rfl





set_option maxHeartbeats 1000000 in
theorem refBytes_any (w : World) (l : List UInt8) (hl : l.length = 32) :
    Calls Tryd.prog 16 #[keyV l] w (RetBs w l) := by
  have HL := Lib.hid hl
  have hl1 : l.length ≤ 32 := by omega
  have hl2 : 32 ≤ l.length := by omega
  clear hl
  go_enter Tryd.func16, Tryd.ntmps16
  go_wp2_with ((with_reducible refine wpList_box_row (o := ⟨some 1, _, _, _, _, _⟩) rfl 23 (.tmp 0) rfl (keyC l) (by with_unfolding_all rfl) ?_); intro g1 w1 n1)
  go_loopw [3, 4] (fun v i wr => ∃ k : Nat, k ≤ l.length ∧ i = .int .i64 k ∧ OwnB wr w1.heap.size 5 v (l.take k) ∧ Below w1.heap.size w1 wr) (fun _ i _ => l.length - (intOf i).toNat)
  case atStart => exact ⟨0, Nat.zero_le _, rfl, OwnB.nil _ _ _, Below.refl _ _⟩
  case round =>
    obtain ⟨k, hk, rfl, hown, hb⟩ := hrel
    have HO := Lib.hid hown
    have HB := Lib.hid hb
    have hsz := hb.size
    clear hown hb
    by_cases hlt : k < l.length
    · have hcell := keyC_cell (n1.row.kept HB.out) k hlt
      have HT := Lib.hid (List.take_succ_eq_append_getElem hlt)
      go_wp2_with (at_builtin; refine wpList_appB _ rfl (.tmp 9) (.tmp 13) 24 rfl w1 5 Tryd.infoB Tryd.underlying24 _ _ _ [l[k]] rfl rfl (HO.out.alloc _) (Bs.lit1 _ _ _ _ rfl) (by simp; omega) (HB.out.alloc hsz _) ?_; intro v2 w2 hown2 hb2)
      go_roundw
      case rel => exact ⟨k + 1, by omega, by go_num, by rw [HT.out]; exact hown2, hb2⟩
      case measure => simp [intOf]; omega
    · have HO2 : Hid (OwnB wr w1.heap.size 5 u3 l) := by
        have := HO.out; rwa [List.take_of_length_le (by omega)] at this
      go_wp2
      go_ret
      exact ⟨_, rfl, HO2.out.bs, below_size n1.below HB.out⟩
end Go.Proofs.YtjdbjgaoeijmfaaDoor
end
