/-
  Contract of the function that mac.expanded hands back: it tells T1, T2 and so on, and counts in a Meter that is older than the loop. Conditions: as the theorem names them.
-/
import Derived.Test.YtdojaighchgghaaDoorMacF
import Derived.Test.YtdojaighchgghaaDoorMacB
import Derived.Test.YtdojaighchgghaaDoorIter
import Derived.Test.YtdojaighchgghaaDoorC
namespace Go.Proofs.YtdojaighchgghaaDoor
open Go.RowKit Go.Shelf
attribute [local go_sem] Oper.semAt_some
set_option linter.unusedVariables false
set_option maxRecDepth 20000

/-- What may come of a Meter at g that keeps nothing: it has counted, but no more than M. -/
def MeterStep (g M : Nat) (A B : World) : Prop :=
  A.grownBy B (some g) ∧ (∃ n, RowAt A g 83 (meterC false n (.slice none 0 0))) ∧ ∃ n, n ≤ M ∧ RowAt B g 83 (meterC false n (.slice none 0 0))
theorem MeterStep.keeps {g M : Nat} {A B : World} (h : MeterStep g M A B) (k : Nat) (o : Obj) (hk : A.heap[k]? = some o) (ho : o.isCells = false) : B.heap[k]? = some o := by
  obtain ⟨hg, ⟨n, hn⟩, _⟩ := h
  refine (hg.block k (Array.getElem?_eq_some_iff.1 hk).1 fun e => ?_).trans hk
  injection e with e
  subst e
  rw [show A.heap[k]? = _ from hn] at hk
  cases hk
  simp [Obj.isCells] at ho

/-- A row of cells, but none of bytes. -/
def rowKept : Obj → Bool
  | .cells _ t _ => t != 5
  | _ => false
/-- What a round's body must keep: all that lay when the caller began, and each row but those that X names. -/
def BodyKeeps (x : World) (X : Nat → Prop) (W W' : World) : Prop := Below x.heap.size W W' ∧ ∀ k o, W.heap[k]? = some o → rowKept o = true → ¬ X k → W'.heap[k]? = some o
theorem bodyKeeps_t {x : World} {X : Nat → Prop} {A B C : World} (h : BodyKeeps x X A B) (k : BodyKeeps x X B C) : BodyKeeps x X A C :=
  ⟨h.1.trans k.1, fun i o h1 h2 h3 => k.2 i o (h.2 i o h1 h2 h3) h2 h3⟩
theorem bodyKeeps_b {x w : World} {X : Nat → Prop} (hx : x.heap.size ≤ w.heap.size) (W : World) (l : Nat) (o o' : Obj) (hl : w.heap.size ≤ l) (h : W.heap[l]? = some o) (h2 : o.isCells = false) (h3 : o.isWalk = false) : BodyKeeps x X W (W.putObj l o') := by
  refine ⟨belowK_b hx W l o o' hl h h2 h3, fun k o2 hk hc _ => ?_⟩
  refine (World.putObj_heap_other fun e => ?_).trans hk
  subst e
  rw [h] at hk
  cases hk
  cases o <;> simp [rowKept, Obj.isCells] at hc h2
theorem BodyKeeps.of_below {x W W' : World} {X : Nat → Prop} (hx : x.heap.size ≤ W.heap.size) (h : Below W.heap.size W W') : BodyKeeps x X W W' :=
  ⟨h.mono hx, fun k o hk _ _ => (h.block k (Array.getElem?_eq_some_iff.1 hk).1).trans hk⟩

theorem Run.beneath {w0 w x y : World} {g n : Nat} (h : Run w0 w g n x) (hb : Below w.heap.size x y) : Run w0 w g n y :=
  ⟨h.below.trans (hb.mono h.old), h.row.below hb h.glt, h.tabs0, h.far, h.old, h.row0, ⟨hb.os.trans h.grown.os, hb.tape.trans h.grown.tape, hb.output.trans h.grown.output, Nat.le_trans h.grown.size hb.size, fun k hk h1 => (hb.block k hk).trans (h.grown.block k hk h1)⟩⟩
theorem Run.step {w0 w x y : World} {g n M : Nat} (h : Run w0 w g n x) (hs : MeterStep g M x y) : ∃ n', n' ≤ M ∧ Run w0 w g n' y := by
  obtain ⟨hg, _, n', hn, hr⟩ := hs
  exact ⟨n', hn, h.below.grown hg h.below.size (fun k e => by injection e with e; subst e; exact h.far), hr, h.tabs0, h.far, h.old, h.row0, grown_trans h.grown hg⟩
theorem Run.meterStep {w0 w x : World} {g n M : Nat} (h : Run w0 w g n x) (hn : n ≤ M) : MeterStep g M w x := ⟨h.grown, h.row0, n, hn, h.row⟩

/-- What the function has captured: how many, a Meter, a key, an info. -/
structure XEnv (w0 x W : World) (g m gn gm gk gi : Nat) (vi : Value) (key : List UInt8) (N : Nat) : Prop where
  run : ∃ n, n ≤ m ∧ Run w0 x g n W
  count : Boxed W gn 3 (.int .i64 (N : Int))
  meter : Boxed W gm 31 (.pointer (some ⟨g, 0, none⟩))
  key : RowAt W gk 33 (keyC key)
  info : Boxed W gi 27 vi
section
variable {w0 x W W' : World} {g m gn gm gk gi : Nat} {vi : Value} {key : List UInt8} {N : Nat}
theorem XEnv.apart (h : XEnv w0 x W g m gn gm gk gi vi key N) : gn ≠ g ∧ gm ≠ g ∧ gk ≠ g ∧ gi ≠ g := by
  obtain ⟨n, _, hr⟩ := h.run
  have row : W.heap[g]? = some (.cells (meterC false n (.slice none 0 0)) 83 (0, 0)) := hr.row
  refine ⟨fun e => ?_, fun e => ?_, fun e => ?_, fun e => ?_⟩
  · have c : W.heap[gn]? = _ := h.count
    rw [e, row] at c
    injection c with c; injection c with _ c _; exact absurd c (by decide)
  · have c : W.heap[gm]? = _ := h.meter
    rw [e, row] at c
    injection c with c; injection c with _ c _; exact absurd c (by decide)
  · have c : W.heap[gk]? = _ := h.key
    rw [e, row] at c
    injection c with c; injection c with _ c _; exact absurd c (by decide)
  · have c : W.heap[gi]? = _ := h.info
    rw [e, row] at c
    injection c with c; injection c with _ c _; exact absurd c (by decide)
theorem XEnv.below (h : XEnv w0 x W g m gn gm gk gi vi key N) (hb : Below W.heap.size W W') : XEnv w0 x W' g m gn gm gk gi vi key N := by
  obtain ⟨n, hn, hr⟩ := h.run
  exact ⟨⟨n, hn, hr.kept hb⟩, (hb.block _ h.count.lt).trans h.count, (hb.block _ h.meter.lt).trans h.meter, h.key.kept hb, (hb.block _ h.info.lt).trans h.info⟩
theorem XEnv.ran (h : XEnv w0 x W g m gn gm gk gi vi key N) {n m' : Nat} (hr : Run w0 W g n W') (hn : n ≤ m') : XEnv w0 x W' g m' gn gm gk gi vi key N := by
  obtain ⟨h1, h2, h3, h4⟩ := h.apart
  obtain ⟨n0, _, hr0⟩ := h.run
  exact ⟨⟨n, hn, hr0.trans hr⟩, h.count.kept hr.grown (by intro e; injection e with e; exact h1 e), h.meter.kept hr.grown (by intro e; injection e with e; exact h2 e), hr.other h.key h3, h.info.kept hr.grown (by intro e; injection e with e; exact h4 e)⟩
theorem XEnv.body (h : XEnv w0 x W g m gn gm gk gi vi key N) {X : Nat → Prop} (hX : ¬ X gn ∧ ¬ X gm ∧ ¬ X gk ∧ ¬ X gi) (hb : BodyKeeps x X W W') : XEnv w0 x W' g m gn gm gk gi vi key N := by
  obtain ⟨h1, h2, h3, h4⟩ := hX
  obtain ⟨n0, hn, hr0⟩ := h.run
  exact ⟨⟨n0, hn, hr0.beneath hb.1⟩, hb.2 _ _ h.count rfl h1, hb.2 _ _ h.meter rfl h2, hb.2 _ _ h.key rfl h3, hb.2 _ _ h.info rfl h4⟩
theorem XEnv.own (h : XEnv w0 x W g m gn gm gk gi vi key N) {row : Option Nat} (hg : W.grownBy W' row) (hr : ∀ r, row = some r → ∃ o : Obj, W.heap[r]? = some o ∧ o.isCells = false) (hx : ∀ r, row = some r → x.heap.size ≤ r) : XEnv w0 x W' g m gn gm gk gi vi key N := by
  obtain ⟨n0, hn, hr0⟩ := h.run
  have keep : ∀ (k : Nat) (o : Obj), W.heap[k]? = some o → o.isCells = true → W'.heap[k]? = some o := fun k o hk hc => by
    refine (hg.block k (Array.getElem?_eq_some_iff.1 hk).1 fun e => ?_).trans hk
    obtain ⟨o2, h1, h2⟩ := hr k e.symm
    rw [hk] at h1
    cases h1
    rw [hc] at h2
    cases h2
  exact ⟨⟨n0, hn, hr0.beneath ((Below.refl _ W).grown hg hr0.size hx)⟩, keep _ _ h.count rfl, keep _ _ h.meter rfl, keep _ _ h.key rfl, keep _ _ h.info rfl⟩
end

theorem XEnv.stepped {w0 x A B : World} {g m gn gm gk gi M : Nat} {vi : Value} {key : List UInt8} {N : Nat} (h : XEnv w0 x A g m gn gm gk gi vi key N) (hs : MeterStep g M A B) : XEnv w0 x B g M gn gm gk gi vi key N := by
  obtain ⟨h1, h2, h3, h4⟩ := h.apart
  obtain ⟨n0, _, hr0⟩ := h.run
  exact ⟨hr0.step hs, h.count.kept hs.1 (by intro e; injection e with e; exact h1 e), h.meter.kept hs.1 (by intro e; injection e with e; exact h2 e), h.key.grown hs.1 (by intro e; injection e with e; exact h3 e), h.info.kept hs.1 (by intro e; injection e with e; exact h4 e)⟩
theorem XEnv.lt {w0 x W : World} {g m gn gm gk gi : Nat} {vi : Value} {key : List UInt8} {N : Nat} (h : XEnv w0 x W g m gn gm gk gi vi key N) : gn < W.heap.size ∧ gm < W.heap.size ∧ gk < W.heap.size ∧ gi < W.heap.size := ⟨h.count.lt, h.meter.lt, h.key.lt, h.info.lt⟩
theorem XEnv.more {w0 x W : World} {g m m' gn gm gk gi : Nat} {vi : Value} {key : List UInt8} {N : Nat} (h : XEnv w0 x W g m gn gm gk gi vi key N) (hm : m ≤ m') : XEnv w0 x W g m' gn gm gk gi vi key N := by
  obtain ⟨n, hn, hr⟩ := h.run
  exact ⟨⟨n, Nat.le_trans hn hm, hr⟩, h.count, h.meter, h.key, h.info⟩

/-- What was told last, as the next round reads it. -/
def LastOk (base : Nat) (W : World) (v : Value) (key info : List UInt8) (k : Nat) : Prop :=
  (k = 0 ∧ v = .slice none 0 0) ∨ (0 < k ∧ ∃ b, v = .slice (some ⟨b, 0, none⟩) 32 32 ∧ base ≤ b ∧ RowAt W b 33 (keyC (tB key info k)))
theorem LastOk.bs {base : Nat} {W : World} {v : Value} {key info : List UInt8} {k : Nat} (h : LastOk base W v key info k) : Bs W v (tB key info k) := by
  rcases h with ⟨rfl, rfl⟩ | ⟨hk, b, rfl, _, hr⟩
  · exact Bs.nil W
  · obtain ⟨j, rfl⟩ : ∃ j, k = j + 1 := ⟨k - 1, by omega⟩
    exact row32 hr (tB_length _ _ _)
theorem LastOk.keep {base : Nat} {W W' : World} {v : Value} {key info : List UInt8} {k : Nat} (h : LastOk base W v key info k) (hk : ∀ b cs, RowAt W b 33 cs → base ≤ b → RowAt W' b 33 cs) : LastOk base W' v key info k := by
  rcases h with ⟨rfl, rfl⟩ | ⟨h0, b, rfl, hb, hr⟩
  · exact .inl ⟨rfl, rfl⟩
  · exact .inr ⟨h0, b, rfl, hb, hk b _ hr hb⟩
theorem meter_not_key {W : World} {g n b : Nat} {cs : Array Value} (h : RowAt W g 83 (meterC false n (.slice none 0 0))) (hr : RowAt W b 33 cs) : b ≠ g := by
  rintro rfl
  have e := (show W.heap[b]? = _ from h).symm.trans (show W.heap[b]? = _ from hr)
  injection e with e
  injection e with _ c _
  exact absurd c (by decide)
theorem wrap64k (n : Nat) (h : n < 18446744073709551616) : IntKind.u64.wrap (n : Int) = (n : Int) := by rw [IntKind.wrap_u64]; omega
theorem high1 (k : Nat) (hk : k < 256) (w : World) : Calls Tryd.prog 41 #[.int .u64 (k : Int), .int .i64 1] w (RetBs w [UInt8.ofNat k]) := by
  have h := High_in w k 1 (by omega) (by omega) (by omega)
  have e : (lowB k 1).reverse = [UInt8.ofNat k] := by simp [lowB, byteN]
  rwa [e] at h
/-- However a region's operations came about, one continuation serves. -/
theorem share_walk {P : Program} {md : Region.Mode} {ops : Array Oper} {Q : Exit → Act → World → Prop} {fin : Nat → Bool} {w : World} {T : World → Prop} {m : Nat} {listed : Array Bool} {a : Act} {A : Nat → Option Addr → Nat → Nat → Act} (E : Nat → World → Prop)
    (hgo : ∀ g d c b w', E g w' → Q .normal (A g d c b) w') (h : (∀ g d c b w', E g w' → Q .normal (A g d c b) w') → walkS P md ops Q T fin m listed a w) : walkS P md ops Q T fin m listed a w := h hgo
/-- Two are left, in whichever order: the one that makes a variable, and another one. -/
theorem walkT_two {P : Program} {md : Region.Mode} {ops : Array Oper} {Q : Exit → Act → World → Prop} {S : World → Prop} {fin : Nat → Bool} {i j m : Nat} {oi oj : Oper} {listed : Array Bool} {a : Act} {w : World} (hr : Region.ready md ops listed = [i, j]) (hi : ops[i]? = some oi) (hj : ops[j]? = some oj) (hgi : oi.guard = none) (hgj : oj.guard = none)
    (h1 : ∀ K : Act → World → Prop, (∀ a' w', (fin i = true ∨ S w') → walkS P md ops Q S fin m (listed.setIfInBounds i true) a' w' → K a' w') → oi.wp P a w K Q)
    (h2 : ∀ K : Act → World → Prop, (∀ a' w', (fin j = true ∨ S w') → walkS P md ops Q S fin m (listed.setIfInBounds j true) a' w' → K a' w') → oj.wp P a w K Q) : walkS P md ops Q S fin (m + 1) listed a w := by
  have gone : ∀ o : Oper, o.guard = none → Region.wanted o (yielded ops a.tmps) = true := fun o h => by simp [Region.wanted, h]
  refine ⟨fun h0 => by simp [hr] at h0, fun k hk => ?_⟩
  rw [hr] at hk
  unfold wpOp
  rcases List.mem_cons.1 hk with rfl | hk
  · simp only [hi, gone _ hgi, if_true]
    exact .inl (h1 _ (fun _ _ h1 h2 => ⟨h1, h2⟩))
  · obtain rfl : k = j := by simpa using hk
    simp only [hj, gone _ hgj, if_true]
    exact .inl (h2 _ (fun _ _ h1 h2 => ⟨h1, h2⟩))

set_option maxHeartbeats 8000000 in
theorem expanded1_tells (nn : Nat) (hnn : 1 ≤ nn) (w0 x w : World) (g n0 M gn gm gk gi : Nat) (vi : Value) (key info : List UInt8) (N : Nat) (X : Nat → Prop) (hX : ∀ k, X k → k < w.heap.size) (hX4 : ¬ X gn ∧ ¬ X gm ∧ ¬ X gk ∧ ¬ X gi)
    (hk : key.length = 32) (hi : ∀ W, Below w.heap.size w W → Bs W vi info) (hi2 : 1 < N → Bs x vi info) (hil : info.length ≤ 20000) (hN : N ≤ 255) (hM : n0 + 3 * N ≤ M) (hM2 : M ≤ 10000000) (env : XEnv w0 x w g n0 gn gm gk gi vi key N) :
    SeqR Fence.wide nn Tryd.prog 70 #[.pointer (some ⟨gn, 0, none⟩), .pointer (some ⟨gm, 0, none⟩), .pointer (some ⟨gk, 0, none⟩), .pointer (some ⟨gi, 0, none⟩)]
      (fun y : Nat => #[keyV (tB key info (y + 1))]) (MeterStep g M) (BodyKeeps x X) (fun ys => ys = List.range N) (fun _ => True) N w := by
  intro l J Jx W hW hJ hJx hJR hJxR hY h0
  have EV := Lib.hid (env.below hW)
  have HK := Lib.hid hk
  obtain ⟨IA, ic, rfl, _, _, _⟩ := hi w (Below.refl _ _)
  have HI := Lib.hid hi
  have HI2 := Lib.hid hi2
  have HW0 := Lib.hid hW
  have HJ := Lib.hid hJ
  have HJR := Lib.hid hJR
  have HY := Lib.hid hY
  have HWX : Hid (∀ k, X k → k < W.heap.size) := fun k h => Nat.lt_of_lt_of_le (hX k h) hW.size
  have HX4 := Lib.hid hX4
  have cm := EV.out.count.cell
  clear env hW hk hi hi2 hJ hJx hJR hJxR hY hX hX4
  refine callsIn_of_wp Tryd.func70 rfl trivial ?_ rfl
  simp only [Tryd.ntmps70, List.size_toArray, List.length_cons, List.length_nil, Nat.reduceAdd, Nat.reduceSub, Array.replicate_succ, Array.replicate_zero, List.push_toArray, List.append_toArray, List.nil_append, List.cons_append]
  gi_wp2
  clear cm
  gi_loopw [6, 10] (fun v i wr => ∃ k : Nat, k ≤ N ∧ i = .int .i64 k ∧ J (List.range k) wr ∧ W.heap.size ≤ wr.heap.size ∧ (k = 0 → Below w.heap.size w wr) ∧ LastOk W.heap.size wr v key info k ∧ XEnv w0 x wr g (n0 + 3 * k) gn gm gk gi (.slice IA info.length ic) key N) (fun _ i _ => N - (intOf i).toNat)
  case atStart => exact ⟨0, Nat.zero_le _, rfl, h0, Nat.le_refl _, fun _ => HW0.out, .inl ⟨rfl, rfl⟩, EV.out⟩
  case round =>
    clear h0 EV
    obtain ⟨k, hkN, rfl, hJs, hsz, hfst, hlast, hev⟩ := hrel
    have EV := Lib.hid hev
    have HJs := Lib.hid hJs
    have HL := Lib.hid hlast
    clear hev hJs hlast
    by_cases hlt : k < N
    · gi_wp2
      refine wpIn_wide.2 ?_
      have HS0 : Hid (Boxed wr gm 31 (.pointer (some ⟨g, 0, none⟩)) ∧ Boxed wr gi 27 (.slice IA info.length ic)) := ⟨EV.out.meter, EV.out.info⟩
      obtain ⟨n1, hn1, hrun⟩ := EV.out.run
      obtain ⟨hgn, hgm, hgk, hgi⟩ := EV.out.apart
      obtain ⟨LA, lc, rfl, _, _, _⟩ := HL.out.bs
      have BL : Hid (Bs wr (.slice LA (tB key info k).length lc) (tB key info k)) := HL.out.bs
      have BI : Hid (Bs wr (.slice IA info.length ic) info) := by
        rcases Nat.eq_zero_or_pos k with h | h
        · exact HI.out _ (hfst h)
        · exact hrun.bs (HI2.out (by omega))
      clear hfst
      have BK : Hid (RowAt wr gk 33 (keyC key)) := EV.out.key
      have HTL := tB_le key info k
      obtain ⟨tn, htn⟩ : ∃ t, t = tB key info (k + 1) := ⟨_, rfl⟩
      have LT : Hid (tn.length = 32) := by show _ = _; rw [htn]; exact tB_length _ _ _
      have HT : Hid (macB key [tB key info k, info, [UInt8.ofNat (k + 1)]].flatten = tn) := by show _ = _; rw [htn, tB]; simp
      have HTN := Lib.hid htn
      have R0 := Lib.hid (hrun.self.kept (Below.refl _ _).drew)
      have hn1M : n1 ≤ 100000000 := by omega
      have hK32 : key.length ≤ 100000 := by rw [HK.out]; omega
      have hfl : [tB key info k, info, [UInt8.ofNat (k + 1)]].flatten.length ≤ 100000 := by simp; omega
      have hl0 : 0 < [tB key info k, info, [UInt8.ofNat (k + 1)]].length := by simp
      have hl1 : [tB key info k, info, [UInt8.ofNat (k + 1)]].length ≤ 1000 := by simp
      have hglt := hrun.self.glt
      refine plain_region (S := fun W' => Boxed W' gm 31 (.pointer (some ⟨g, 0, none⟩)) ∧ Boxed W' gi 27 (.slice IA info.length ic)) (fin := fun j => j == 11) (by kernel_rfl) ?_
      have hS : Boxed wr.drew gm 31 (.pointer (some ⟨g, 0, none⟩)) ∧ Boxed wr.drew gi 27 (.slice IA info.length ic) := HS0.out
      have h19 : IntKind.u64.wrap ((k + 1 : Nat) : Int) = ((k + 1 : Nat) : Int) := wrap64k (k + 1) (by omega)
      clear hrun htn HS0
      obtain ⟨k1, hk1⟩ : ∃ k1, k1 = k + 1 := ⟨_, rfl⟩
      have HK1 := Lib.hid hk1
      have hkk : IntKind.i64.wrap ((k : Int) + 1) = (k1 : Int) := by rw [IntWalk.i64_in _ (by omega)]; omega
      rw [← hk1] at h19 HT hfl hl0 hl1
      have hk1b : k1 < 256 := by omega
      clear hk1
      change walkS _ _ _ _ _ _ 12 _ _ _
      apply share_walk (E := fun g8 X => ∃ n', n' ≤ n1 + 3 ∧ wr.heap.size ≤ g8 ∧ g8 ≠ g ∧ RowAt X g8 33 (keyC tn) ∧ Run w0 wr g n' X)
      case h =>
        intro HGO
        have HG := Lib.hid HGO
        clear HGO
        refine walkS_take (i := 0) (oi := ⟨some 13, _, _, _, _, _⟩) (v := .pointer (some ⟨g, 0, none⟩)) rfl (by kernel_rfl) (by kernel_rfl) (fun _ _ _ h => h) _ _ _ _ (by kernel_rfl) (by kernel_rfl) (Or.inl ⟨by rfl, fun w' hS' => (by have c := hS'.1.cell; clear HG hS hS'; go_simp)⟩) hS ?_
        simp only [Act.put, List.setIfInBounds_toArray, List.set_cons_zero, List.set_cons_succ]
        refine walkS_take (i := 1) (oi := ⟨some 14, _, _, _, _, _⟩) (v := .slice (some ⟨gk, 0, none⟩) 32 32) rfl (by kernel_rfl) (by kernel_rfl) (fun _ _ _ h => h) _ _ _ _ (by kernel_rfl) (by kernel_rfl) (Or.inl ⟨by rfl, fun w' hS' => (by clear HG hS hS'; go_simp)⟩) hS ?_
        simp only [Act.put, List.setIfInBounds_toArray, List.set_cons_zero, List.set_cons_succ]
        refine walkS_take (i := 2) (oi := ⟨some 15, _, _, _, _, _⟩) (v := .slice LA (tB key info k).length lc) rfl (by kernel_rfl) (by kernel_rfl) (fun _ _ _ h => h) _ _ _ _ (by kernel_rfl) (by kernel_rfl) (Or.inl ⟨by rfl, fun w' hS' => (by clear HG hS hS'; go_simp)⟩) hS ?_
        simp only [Act.put, List.setIfInBounds_toArray, List.set_cons_zero, List.set_cons_succ]
        refine walkS_take (i := 3) (oi := ⟨some 16, _, _, _, _, _⟩) (v := .slice IA info.length ic) rfl (by kernel_rfl) (by kernel_rfl) (fun _ _ _ h => h) _ _ _ _ (by kernel_rfl) (by kernel_rfl) (Or.inl ⟨by rfl, fun w' hS' => (by have c := hS'.2.cell; clear HG hS hS'; go_simp)⟩) hS ?_
        simp only [Act.put, List.setIfInBounds_toArray, List.set_cons_zero, List.set_cons_succ]
        refine walkS_take (i := 4) (oi := ⟨some 17, _, _, _, _, _⟩) (v := .int .i64 (k : Int)) rfl (by kernel_rfl) (by kernel_rfl) (fun _ _ _ h => h) _ _ _ _ (by kernel_rfl) (by kernel_rfl) (Or.inl ⟨by rfl, fun w' hS' => (by clear HG hS hS'; go_simp)⟩) hS ?_
        simp only [Act.put, List.setIfInBounds_toArray, List.set_cons_zero, List.set_cons_succ]
        refine walkS_take (i := 5) (oi := ⟨some 18, _, _, _, _, _⟩) (v := .int .i64 (k1 : Int)) rfl (by kernel_rfl) (by kernel_rfl) (fun _ _ _ h => h) _ _ _ _ (by kernel_rfl) (by kernel_rfl) (Or.inl ⟨by rfl, fun w' hS' => (by clear HG hS hS'; go_simp)⟩) hS ?_
        simp only [Act.put, List.setIfInBounds_toArray, List.set_cons_zero, List.set_cons_succ]
        refine walkS_take (i := 6) (oi := ⟨some 19, _, _, _, _, _⟩) (v := .int .u64 (k1 : Int)) rfl (by kernel_rfl) (by kernel_rfl) (fun _ _ _ h => h) _ _ _ _ (by kernel_rfl) (by kernel_rfl) (Or.inl ⟨by rfl, fun w' hS' => (by clear HG hS hS'; go_simp)⟩) hS ?_
        simp only [Act.put, List.setIfInBounds_toArray, List.set_cons_zero, List.set_cons_succ]
        refine walkT_two (i := 7) (j := 10) (oi := ⟨some 20, _, _, _, _, _⟩) (oj := ⟨some 8, _, _, _, _, _⟩) (by kernel_rfl) rfl rfl rfl rfl (fun K hK => ?_) (fun K hK => ?_)
        · go_simp
          refine (high1 k1 hk1b _).mono ?_
          intro e x1 h
          obtain ⟨u, he, hu, b1⟩ := h
          subst he
          have s1 := Lib.hid (show Boxed x1 gm _ _ ∧ Boxed x1 gi _ _ from ⟨hS.1.kept (grown_of_below b1) (by simp), hS.2.kept (grown_of_below b1) (by simp)⟩)
          have R1 := Lib.hid (R0.out.kept b1)
          have U := Lib.hid hu
          obtain ⟨UA, uc, hu3, _, _, _⟩ := hu
          replace hu3 : u = .slice UA 1 uc := hu3
          subst hu3
          clear b1
          have hS := s1.out
          clear s1
          refine hK _ _ (.inr hS) ?_
          clear hK K
          try simp only [Act.put, List.setIfInBounds_toArray, List.set_cons_zero, List.set_cons_succ]
          refine walkT_two (i := 8) (j := 10) (oi := ⟨some 21, _, _, _, _, _⟩) (oj := ⟨some 8, _, _, _, _, _⟩) (by kernel_rfl) rfl rfl rfl rfl (fun K hK => ?_) (fun K hK => ?_)
          · go_simp
            obtain ⟨x2, hx2⟩ : ∃ y, y = x1.alloc (.cells #[.slice LA (tB key info k).length lc, .slice IA info.length ic, .slice UA 1 uc] 27) := ⟨_, rfl⟩
            obtain ⟨gb, hgb⟩ : ∃ y, y = x1.heap.size := ⟨_, rfl⟩
            have V := Lib.hid (Bss.three x1 27 _ _ _ _ _ _ (R1.out.bs BL.out) (R1.out.bs BI.out) U.out)
            have bx := alloc_below x1 (.cells #[.slice LA (tB key info k).length lc, .slice IA info.length ic, .slice UA 1 uc] 27)
            have s2 := Lib.hid (show Boxed (x1.alloc (.cells #[.slice LA (tB key info k).length lc, .slice IA info.length ic, .slice UA 1 uc] 27)) gm _ _ ∧ Boxed (x1.alloc (.cells #[.slice LA (tB key info k).length lc, .slice IA info.length ic, .slice UA 1 uc] 27)) gi _ _ from ⟨hS.1.alloc _, hS.2.alloc _⟩)
            rw [← hx2] at V bx s2
            rw [← hgb] at V
            rw [← hx2, ← hgb]
            have hbg : gb ≠ g := by rw [hgb]; exact Nat.ne_of_gt (Nat.lt_of_lt_of_le hglt R1.out.size)
            have R2 := Lib.hid (R1.out.kept bx)
            clear hx2 hgb bx
            have hS := s2.out
            clear s2
            refine hK _ _ (.inr hS) ?_
            clear hK K
            try simp only [Act.put, List.setIfInBounds_toArray, List.set_cons_zero, List.set_cons_succ]
            refine walkT_two (i := 9) (j := 10) (oi := ⟨some 22, _, _, _, _, _⟩) (oj := ⟨some 8, _, _, _, _, _⟩) (by kernel_rfl) rfl rfl rfl rfl (fun K hK => ?_) (fun K hK => ?_)
            · go_simp
              refine (macSum_any w0 _ g n1 (.slice (some ⟨gk, 0, none⟩) 32 32) key _ 0 3 [tB key info k, info, [UInt8.ofNat k1]] (by exact R2.out.self) hn1M (by exact R2.out.bs (row32 BK.out HK.out)) hK32 (by exact V.out) hbg hl0 hfl hl1).mono ?_
              intro e x3 h
              obtain ⟨n2, hn2, he, r3⟩ := h
              subst he
              rw [HT.out]
              have s3 := Lib.hid (show Boxed x3 gm _ _ ∧ Boxed x3 gi _ _ from ⟨hS.1.kept r3.grown (by intro e; injection e with e; exact hgm e), hS.2.kept r3.grown (by intro e; injection e with e; exact hgi e)⟩)
              have R3 := Lib.hid (R2.out.trans r3)
              clear r3
              have hS := s3.out
              clear s3
              refine hK _ _ (.inr hS) ?_
              clear hK K
              try simp only [Act.put, List.setIfInBounds_toArray, List.set_cons_zero, List.set_cons_succ]
              refine walkS_only (i := 10) (o := ⟨some 8, _, _, _, _, _⟩) (by kernel_rfl) rfl rfl fun K hK => ?_
              refine wp_alloc_row 33 rfl (keyC zeroKey) Tryd.zeroK ?_
              intro g8 x4 nn4
              have s4 := Lib.hid (show Boxed x4 gm _ _ ∧ Boxed x4 gi _ _ from ⟨hS.1.kept (grown_of_below nn4.below) (by simp), hS.2.kept (grown_of_below nn4.below) (by simp)⟩)
              have A8 := Lib.hid nn4.row
              have h8 : wr.heap.size ≤ g8 := by rw [nn4.spot]; exact R3.out.size
              have h8g : g8 ≠ g := Nat.ne_of_gt (Nat.lt_of_lt_of_le hglt h8)
              have R4 := Lib.hid (R3.out.kept nn4.below)
              clear nn4
              have hS := s4.out
              clear s4
              refine hK _ _ (.inr hS) ?_
              clear hK K
              try simp only [Act.put, List.setIfInBounds_toArray, List.set_cons_zero, List.set_cons_succ]
              refine walkS_only (i := 11) (o := ⟨none, _, _, _, _, _⟩) (by kernel_rfl) rfl rfl fun K hK => ?_
              refine wp_store_row 33 (.tmp 8) (.tmp 22) rfl g8 33 _ (keyC tn) rfl rfl A8.out (keyC_same zeroKey_length LT.out) (Tryd.sizeKey tn LT.out) (keyC_one tn) ?_
              intro x5 p5
              exact hK _ _ (.inl rfl) (walkS_done (by kernel_rfl) (HG.out g8 UA uc gb x5 ⟨n2, hn2, h8, h8g, p5.row, R4.out.put p5 h8 h8g⟩) _)
            · refine wp_alloc_row 33 rfl (keyC zeroKey) Tryd.zeroK ?_
              intro g8 x3 nn3
              have s3 := Lib.hid (show Boxed x3 gm _ _ ∧ Boxed x3 gi _ _ from ⟨hS.1.kept (grown_of_below nn3.below) (by simp), hS.2.kept (grown_of_below nn3.below) (by simp)⟩)
              have A8 := Lib.hid nn3.row
              have h8 : wr.heap.size ≤ g8 := by rw [nn3.spot]; exact R2.out.size
              have h8g : g8 ≠ g := Nat.ne_of_gt (Nat.lt_of_lt_of_le hglt h8)
              have R3 := Lib.hid (R2.out.kept nn3.below)
              have V := Lib.hid (V.out.keep nn3.below)
              clear nn3
              have hS := s3.out
              clear s3
              refine hK _ _ (.inr hS) ?_
              clear hK K
              try simp only [Act.put, List.setIfInBounds_toArray, List.set_cons_zero, List.set_cons_succ]
              refine walkS_only (i := 9) (o := ⟨some 22, _, _, _, _, _⟩) (by kernel_rfl) rfl rfl fun K hK => ?_
              go_simp
              refine (macSum_any w0 _ g n1 (.slice (some ⟨gk, 0, none⟩) 32 32) key _ 0 3 [tB key info k, info, [UInt8.ofNat k1]] (by exact R3.out.self) hn1M (by exact R3.out.bs (row32 BK.out HK.out)) hK32 (by exact V.out) hbg hl0 hfl hl1).mono ?_
              intro e x4 h
              obtain ⟨n2, hn2, he, r4⟩ := h
              subst he
              rw [HT.out]
              have s4 := Lib.hid (show Boxed x4 gm _ _ ∧ Boxed x4 gi _ _ from ⟨hS.1.kept r4.grown (by intro e; injection e with e; exact hgm e), hS.2.kept r4.grown (by intro e; injection e with e; exact hgi e)⟩)
              have R4 := Lib.hid (R3.out.trans r4)
              have A8 := Lib.hid (r4.other A8.out h8g)
              clear r4
              have hS := s4.out
              clear s4
              refine hK _ _ (.inr hS) ?_
              clear hK K
              try simp only [Act.put, List.setIfInBounds_toArray, List.set_cons_zero, List.set_cons_succ]
              refine walkS_only (i := 11) (o := ⟨none, _, _, _, _, _⟩) (by kernel_rfl) rfl rfl fun K hK => ?_
              refine wp_store_row 33 (.tmp 8) (.tmp 22) rfl g8 33 _ (keyC tn) rfl rfl A8.out (keyC_same zeroKey_length LT.out) (Tryd.sizeKey tn LT.out) (keyC_one tn) ?_
              intro x5 p5
              exact hK _ _ (.inl rfl) (walkS_done (by kernel_rfl) (HG.out g8 UA uc gb x5 ⟨n2, hn2, h8, h8g, p5.row, R4.out.put p5 h8 h8g⟩) _)
          · refine wp_alloc_row 33 rfl (keyC zeroKey) Tryd.zeroK ?_
            intro g8 x2 nn2
            have s2 := Lib.hid (show Boxed x2 gm _ _ ∧ Boxed x2 gi _ _ from ⟨hS.1.kept (grown_of_below nn2.below) (by simp), hS.2.kept (grown_of_below nn2.below) (by simp)⟩)
            have A8 := Lib.hid nn2.row
            have h8 : wr.heap.size ≤ g8 := by rw [nn2.spot]; exact R1.out.size
            have h8g : g8 ≠ g := Nat.ne_of_gt (Nat.lt_of_lt_of_le hglt h8)
            have R2 := Lib.hid (R1.out.kept nn2.below)
            have U := Lib.hid (U.out.below nn2.below)
            clear nn2
            have hS := s2.out
            clear s2
            refine hK _ _ (.inr hS) ?_
            clear hK K
            try simp only [Act.put, List.setIfInBounds_toArray, List.set_cons_zero, List.set_cons_succ]
            refine walkS_only (i := 8) (o := ⟨some 21, _, _, _, _, _⟩) (by kernel_rfl) rfl rfl fun K hK => ?_
            go_simp
            obtain ⟨x3, hx3⟩ : ∃ y, y = x2.alloc (.cells #[.slice LA (tB key info k).length lc, .slice IA info.length ic, .slice UA 1 uc] 27) := ⟨_, rfl⟩
            obtain ⟨gb, hgb⟩ : ∃ y, y = x2.heap.size := ⟨_, rfl⟩
            have V := Lib.hid (Bss.three x2 27 _ _ _ _ _ _ (R2.out.bs BL.out) (R2.out.bs BI.out) U.out)
            have bx := alloc_below x2 (.cells #[.slice LA (tB key info k).length lc, .slice IA info.length ic, .slice UA 1 uc] 27)
            have s3 := Lib.hid (show Boxed (x2.alloc (.cells #[.slice LA (tB key info k).length lc, .slice IA info.length ic, .slice UA 1 uc] 27)) gm _ _ ∧ Boxed (x2.alloc (.cells #[.slice LA (tB key info k).length lc, .slice IA info.length ic, .slice UA 1 uc] 27)) gi _ _ from ⟨hS.1.alloc _, hS.2.alloc _⟩)
            rw [← hx3] at V bx s3
            rw [← hgb] at V
            rw [← hx3, ← hgb]
            have hbg : gb ≠ g := by rw [hgb]; exact Nat.ne_of_gt (Nat.lt_of_lt_of_le hglt R2.out.size)
            have R3 := Lib.hid (R2.out.kept bx)
            have A8 := Lib.hid (A8.out.kept bx)
            clear hx3 hgb bx
            have hS := s3.out
            clear s3
            refine hK _ _ (.inr hS) ?_
            clear hK K
            try simp only [Act.put, List.setIfInBounds_toArray, List.set_cons_zero, List.set_cons_succ]
            refine walkS_only (i := 9) (o := ⟨some 22, _, _, _, _, _⟩) (by kernel_rfl) rfl rfl fun K hK => ?_
            go_simp
            refine (macSum_any w0 _ g n1 (.slice (some ⟨gk, 0, none⟩) 32 32) key _ 0 3 [tB key info k, info, [UInt8.ofNat k1]] (by exact R3.out.self) hn1M (by exact R3.out.bs (row32 BK.out HK.out)) hK32 (by exact V.out) hbg hl0 hfl hl1).mono ?_
            intro e x4 h
            obtain ⟨n2, hn2, he, r4⟩ := h
            subst he
            rw [HT.out]
            have s4 := Lib.hid (show Boxed x4 gm _ _ ∧ Boxed x4 gi _ _ from ⟨hS.1.kept r4.grown (by intro e; injection e with e; exact hgm e), hS.2.kept r4.grown (by intro e; injection e with e; exact hgi e)⟩)
            have R4 := Lib.hid (R3.out.trans r4)
            have A8 := Lib.hid (r4.other A8.out h8g)
            clear r4
            have hS := s4.out
            clear s4
            refine hK _ _ (.inr hS) ?_
            clear hK K
            try simp only [Act.put, List.setIfInBounds_toArray, List.set_cons_zero, List.set_cons_succ]
            refine walkS_only (i := 11) (o := ⟨none, _, _, _, _, _⟩) (by kernel_rfl) rfl rfl fun K hK => ?_
            refine wp_store_row 33 (.tmp 8) (.tmp 22) rfl g8 33 _ (keyC tn) rfl rfl A8.out (keyC_same zeroKey_length LT.out) (Tryd.sizeKey tn LT.out) (keyC_one tn) ?_
            intro x5 p5
            exact hK _ _ (.inl rfl) (walkS_done (by kernel_rfl) (HG.out g8 UA uc gb x5 ⟨n2, hn2, h8, h8g, p5.row, R4.out.put p5 h8 h8g⟩) _)
        · refine wp_alloc_row 33 rfl (keyC zeroKey) Tryd.zeroK ?_
          intro g8 x1 nn1
          have s1 := Lib.hid (show Boxed x1 gm _ _ ∧ Boxed x1 gi _ _ from ⟨hS.1.kept (grown_of_below nn1.below) (by simp), hS.2.kept (grown_of_below nn1.below) (by simp)⟩)
          have A8 := Lib.hid nn1.row
          have h8 : wr.heap.size ≤ g8 := by rw [nn1.spot]; exact R0.out.size
          have h8g : g8 ≠ g := Nat.ne_of_gt (Nat.lt_of_lt_of_le hglt h8)
          have R1 := Lib.hid (R0.out.kept nn1.below)
          clear nn1
          have hS := s1.out
          clear s1
          refine hK _ _ (.inr hS) ?_
          clear hK K
          try simp only [Act.put, List.setIfInBounds_toArray, List.set_cons_zero, List.set_cons_succ]
          refine walkS_only (i := 7) (o := ⟨some 20, _, _, _, _, _⟩) (by kernel_rfl) rfl rfl fun K hK => ?_
          go_simp
          refine (high1 k1 hk1b _).mono ?_
          intro e x2 h
          obtain ⟨u, he, hu, b2⟩ := h
          subst he
          have s2 := Lib.hid (show Boxed x2 gm _ _ ∧ Boxed x2 gi _ _ from ⟨hS.1.kept (grown_of_below b2) (by simp), hS.2.kept (grown_of_below b2) (by simp)⟩)
          have R2 := Lib.hid (R1.out.kept b2)
          have U := Lib.hid hu
          obtain ⟨UA, uc, hu3, _, _, _⟩ := hu
          replace hu3 : u = .slice UA 1 uc := hu3
          subst hu3
          have A8 := Lib.hid (A8.out.kept b2)
          clear b2
          have hS := s2.out
          clear s2
          refine hK _ _ (.inr hS) ?_
          clear hK K
          try simp only [Act.put, List.setIfInBounds_toArray, List.set_cons_zero, List.set_cons_succ]
          refine walkS_only (i := 8) (o := ⟨some 21, _, _, _, _, _⟩) (by kernel_rfl) rfl rfl fun K hK => ?_
          go_simp
          obtain ⟨x3, hx3⟩ : ∃ y, y = x2.alloc (.cells #[.slice LA (tB key info k).length lc, .slice IA info.length ic, .slice UA 1 uc] 27) := ⟨_, rfl⟩
          obtain ⟨gb, hgb⟩ : ∃ y, y = x2.heap.size := ⟨_, rfl⟩
          have V := Lib.hid (Bss.three x2 27 _ _ _ _ _ _ (R2.out.bs BL.out) (R2.out.bs BI.out) U.out)
          have bx := alloc_below x2 (.cells #[.slice LA (tB key info k).length lc, .slice IA info.length ic, .slice UA 1 uc] 27)
          have s3 := Lib.hid (show Boxed (x2.alloc (.cells #[.slice LA (tB key info k).length lc, .slice IA info.length ic, .slice UA 1 uc] 27)) gm _ _ ∧ Boxed (x2.alloc (.cells #[.slice LA (tB key info k).length lc, .slice IA info.length ic, .slice UA 1 uc] 27)) gi _ _ from ⟨hS.1.alloc _, hS.2.alloc _⟩)
          rw [← hx3] at V bx s3
          rw [← hgb] at V
          rw [← hx3, ← hgb]
          have hbg : gb ≠ g := by rw [hgb]; exact Nat.ne_of_gt (Nat.lt_of_lt_of_le hglt R2.out.size)
          have R3 := Lib.hid (R2.out.kept bx)
          have A8 := Lib.hid (A8.out.kept bx)
          clear hx3 hgb bx
          have hS := s3.out
          clear s3
          refine hK _ _ (.inr hS) ?_
          clear hK K
          try simp only [Act.put, List.setIfInBounds_toArray, List.set_cons_zero, List.set_cons_succ]
          refine walkS_only (i := 9) (o := ⟨some 22, _, _, _, _, _⟩) (by kernel_rfl) rfl rfl fun K hK => ?_
          go_simp
          refine (macSum_any w0 _ g n1 (.slice (some ⟨gk, 0, none⟩) 32 32) key _ 0 3 [tB key info k, info, [UInt8.ofNat k1]] (by exact R3.out.self) hn1M (by exact R3.out.bs (row32 BK.out HK.out)) hK32 (by exact V.out) hbg hl0 hfl hl1).mono ?_
          intro e x4 h
          obtain ⟨n2, hn2, he, r4⟩ := h
          subst he
          rw [HT.out]
          have s4 := Lib.hid (show Boxed x4 gm _ _ ∧ Boxed x4 gi _ _ from ⟨hS.1.kept r4.grown (by intro e; injection e with e; exact hgm e), hS.2.kept r4.grown (by intro e; injection e with e; exact hgi e)⟩)
          have R4 := Lib.hid (R3.out.trans r4)
          have A8 := Lib.hid (r4.other A8.out h8g)
          clear r4
          have hS := s4.out
          clear s4
          refine hK _ _ (.inr hS) ?_
          clear hK K
          try simp only [Act.put, List.setIfInBounds_toArray, List.set_cons_zero, List.set_cons_succ]
          refine walkS_only (i := 11) (o := ⟨none, _, _, _, _, _⟩) (by kernel_rfl) rfl rfl fun K hK => ?_
          refine wp_store_row 33 (.tmp 8) (.tmp 22) rfl g8 33 _ (keyC tn) rfl rfl A8.out (keyC_same zeroKey_length LT.out) (Tryd.sizeKey tn LT.out) (keyC_one tn) ?_
          intro x5 p5
          exact hK _ _ (.inl rfl) (walkS_done (by kernel_rfl) (HG.out g8 UA uc gb x5 ⟨n2, hn2, h8, h8g, p5.row, R4.out.put p5 h8 h8g⟩) _)
      intro g8 UA uc gb x5 hE
      obtain ⟨n2, hn2, h8, h8g, hT, r5⟩ := hE
      have EV2 := Lib.hid (EV.out.ran (m' := n0 + 3 * (k + 1)) r5 (by omega))
      have hJ2 := HJR.out _ _ _ HJs.out (r5.meterStep (by omega))
      have TT := Lib.hid hT
      have hsz5 := r5.size
      have HN := Lib.hid (show RowAt x5 g8 33 (keyC (tB key info (k + 1))) by rw [← HTN.out]; exact hT)
      obtain ⟨fn, tmps, assign, body, hy, hR⟩ := HY.out _ k x5 hJ2 (by simp; omega)
      have HJ3 : Hid (List.range k ++ [k] = List.range (k + 1)) := List.range_succ.symm
      rw [← HTN.out] at hy
      unfold keyV at hy
      clear hJ2 hT r5 EV R0 BL BI BK HL HJs
      gi_wp2_with (with_reducible refine wideL_load_row (o := ⟨some 24, _, _, _, _, _⟩) rfl 33 (.tmp 8) rfl g8 (by with_unfolding_all rfl) 33 (keyC tn) (0, 0) (.array 32 5) (by with_unfolding_all exact TT.out) Tryd.underlying33 rfl (Tryd.sizeKey tn LT.out) ?_)
      gi_wp2
      refine hR.mono ?_
      rintro e W3 (⟨rfl, hJ3, hk3⟩ | ⟨rfl, hJx3⟩)
      · have EV3 := Lib.hid (EV2.out.body HX4.out hk3)
        have HT3 := Lib.hid (hk3.2 _ _ HN.out rfl (fun h => by have := HWX.out _ h; omega))
        have hsz3 : W.heap.size ≤ W3.heap.size := Nat.le_trans (by have := (Array.getElem?_eq_some_iff.1 (hk3.2 _ _ HN.out rfl (fun h => by have := HWX.out _ h; omega))).1; omega) (Nat.le_refl _)
        rw [HJ3.out] at hJ3
        have HJ4 := Lib.hid hJ3
        clear hJ3 hk3
        gi_wp2
        go_roundw
        case rel => exact ⟨k + 1, by omega, by rw [HK1.out], HJ4.out, hsz3, (fun h => by omega), .inr ⟨by omega, g8, rfl, by omega, HT3.out⟩, EV3.out⟩
        case measure => have := HK1.out; simp [intOf]; omega
      · gi_wp2
        refine bodyPost_ret (results_none rfl _ _ _) rfl ?_
        exact ⟨⟨_, rfl⟩, .inr ⟨_, trivial, hJx3⟩⟩
    · have hkN2 : k = N := by omega
      have HJ5 : Hid (J (List.range N) wr) := by rw [← hkN2]; exact HJs
      clear hkN2 HJs
      gi_wp2
      go_end0
      exact ⟨⟨_, rfl⟩, .inl ⟨_, rfl, HJ5.out⟩⟩
end Go.Proofs.YtdojaighchgghaaDoor
