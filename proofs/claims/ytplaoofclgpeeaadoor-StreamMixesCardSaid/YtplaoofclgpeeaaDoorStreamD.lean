/-
  Contracts of stream.blocks and of the function that it hands back: it tells the blocks, one behind the other. Conditions: the table of quarters holds what the program's text lays.
-/
import Derived.Test.YtplaoofclgpeeaaDoorStreamC
import Derived.Test.YtplaoofclgpeeaaDoorE
import Derived.Test.YtplaoofclgpeeaaDoorRound
namespace Go.Proofs.YtplaoofclgpeeaaDoor
open Go.RowKit Go.Shelf
attribute [local go_sem] Oper.semAt_some
set_option linter.unusedVariables false
set_option maxRecDepth 20000

/-- What the function has captured: a key, a counter, a nonce, how many. -/
structure Env (w : World) (gk gc gn gm : Nat) (key nonce : List UInt8) (ctr : UInt32) (N : Nat) : Prop where
  key : RowAt w gk 26 (keyC key)
  ctr : Boxed w gc 22 (.int .u32 (ctr.toNat : Int))
  nonce : RowAt w gn 27 (keyC nonce)
  count : Boxed w gm 3 (.int .i64 (N : Int))
  table : Quar w
def EnvAt (gk gc gn gm : Nat) (k : Nat) : Prop := k = gk ∨ k = gc ∨ k = gn ∨ k = gm ∨ k = 0
theorem Env.kept {w w' : World} {gk gc gn gm : Nat} {key nonce : List UInt8} {ctr : UInt32} {N : Nat} (h : Env w gk gc gn gm key nonce ctr N) (hk : KeepsAt (EnvAt gk gc gn gm) w w') : Env w' gk gc gn gm key nonce ctr N :=
  ⟨(hk gk (.inl rfl)).trans h.key, (hk gc (.inr (.inl rfl))).trans h.ctr, (hk gn (.inr (.inr (.inl rfl)))).trans h.nonce,
    (hk gm (.inr (.inr (.inr (.inl rfl))))).trans h.count, by obtain ⟨t, fr, hq⟩ := h.table; exact ⟨t, fr, (hk _ (.inr (.inr (.inr (.inr rfl))))).trans hq⟩⟩
theorem Env.lt {w : World} {gk gc gn gm : Nat} {key nonce : List UInt8} {ctr : UInt32} {N : Nat} (h : Env w gk gc gn gm key nonce ctr N) : ∀ k, EnvAt gk gc gn gm k → k < w.heap.size := by
  rintro k (rfl | rfl | rfl | rfl | rfl)
  · exact h.key.lt
  · exact h.ctr.lt
  · exact h.nonce.lt
  · exact h.count.lt
  · exact h.table.lt
theorem Env.below {w w' : World} {gk gc gn gm : Nat} {key nonce : List UInt8} {ctr : UInt32} {N : Nat} (h : Env w gk gc gn gm key nonce ctr N) (hb : Below w.heap.size w w') : Env w' gk gc gn gm key nonce ctr N :=
  h.kept (KeepsAt.of_below hb h.lt)

theorem Env.cells {w : World} {gk gc gn gm : Nat} {key nonce : List UInt8} {ctr : UInt32} {N : Nat} (h : Env w gk gc gn gm key nonce ctr N) :
    ∀ k, EnvAt gk gc gn gm k → ∃ c t f, w.heap[k]? = some (.cells c t f) ∧ (k = 0 ∨ t ≠ 5) := by
  rintro k (rfl | rfl | rfl | rfl | rfl)
  · exact ⟨_, _, _, h.key, .inr (by decide)⟩
  · exact ⟨_, _, _, h.ctr, .inr (by decide)⟩
  · exact ⟨_, _, _, h.nonce, .inr (by decide)⟩
  · exact ⟨_, _, _, h.count, .inr (by decide)⟩
  · obtain ⟨t, fr, hq⟩ := h.table
    exact ⟨_, _, _, hq, .inl rfl⟩
theorem Env.grown {w w' : World} {gk gc gn gm : Nat} {key nonce : List UInt8} {ctr : UInt32} {N : Nat} {row : Option Nat} (h : Env w gk gc gn gm key nonce ctr N) (hg : w.grownBy w' row)
    (hr : ∀ r, row = some r → ∃ o : Obj, w.heap[r]? = some o ∧ o.isCells = false) : Env w' gk gc gn gm key nonce ctr N :=
  h.kept (KeepsAt.of_grown hg fun k hk => ⟨h.lt k hk, fun e => by
    obtain ⟨c, t, f, hc, _⟩ := h.cells k hk
    obtain ⟨o, ho, hf⟩ := hr k e.symm
    rw [hc] at ho
    cases ho
    simp [Obj.isCells] at hf⟩)
/-- Where a row of bytes grows that is the call's own, what was captured stays. -/
theorem Env.beside {w w' : World} {gk gc gn gm : Nat} {key nonce : List UInt8} {ctr : UInt32} {N base : Nat} {v : Value} {l : List UInt8} (h : Env w gk gc gn gm key nonce ctr N) (ho : OwnB w base 5 v l) (hq : 0 < base) (hg : w.grownBy w' v.ownBlock) : KeepsAt (EnvAt gk gc gn gm) w w' :=
  KeepsAt.of_grown hg fun k hk => ⟨h.lt k hk, by
    obtain ⟨c, t, f, hc, ht⟩ := h.cells k hk
    rcases ht with rfl | ht
    · intro e
      have := ho.rows _ e.symm
      omega
    · exact ho.other hc ht⟩

theorem ctr_wrap (c : UInt32) (k : Nat) : IntKind.u32.wrap ((c.toNat : Int) + IntKind.u32.wrap (k : Int)) = ((c + UInt32.ofNat k).toNat : Int) := by
  rw [IntKind.wrap_u32, IntKind.wrap_u32, UInt32.toNat_add, UInt32.toNat_ofNat']
  omega

theorem Tryd.sizeN (l : List UInt8) (h : l.length = 12) : (Tryd.prog.info? 27).map (·.size) = some (keyC l).size := by
  rw [keyC_size, h]
  exact (by kernel_rfl : (Tryd.prog.info? 27).map (·.size) = some 12)

set_option maxHeartbeats 2000000 in
theorem blocks1_stops (n : Nat) (hn : 1 ≤ n) (gk gc gn gm : Nat) (key nonce : List UInt8) (ctr : UInt32) (N : Nat) (hk : key.length = 32) (hnn : nonce.length = 12) (hN : N ≤ 1000000) (w : World) (env : Env w gk gc gn gm key nonce ctr N) :
    SeqStopsK Fence.wide n Tryd.prog 27 #[.pointer (some ⟨gm, 0, none⟩), .pointer (some ⟨gk, 0, none⟩), .pointer (some ⟨gc, 0, none⟩), .pointer (some ⟨gn, 0, none⟩)]
      (fun x : Nat => #[keyV (blockS key (ctr + UInt32.ofNat x) nonce)]) (KeepsAt (EnvAt gk gc gn gm)) (fun ys => ys = List.range N) (fun _ => True) N w := by
  intro l J Jx W hW hJ hJx hY h0
  have env0 : Env W gk gc gn gm key nonce ctr N := env.below hW
  have EV := Lib.hid env0
  have HK := Lib.hid hk
  have HN := Lib.hid hnn
  have HJ := Lib.hid hJ
  have HJX := Lib.hid hJx
  have HY := Lib.hid hY
  clear env hW hk hnn hJ hJx hY
  have cm := env0.count.cell
  clear env0
  refine callsIn_of_wp Tryd.func27 rfl trivial ?_ rfl
  simp only [Tryd.ntmps27, List.size_toArray, List.length_cons, List.length_nil, Nat.reduceAdd, Nat.reduceSub, Array.replicate_succ, Array.replicate_zero, List.push_toArray, List.append_toArray, List.nil_append, List.cons_append]
  gi_wp2
  clear cm
  gi_loopw [8] (fun i wr => ∃ k : Nat, k ≤ N ∧ i = .int .i64 k ∧ J (List.range k) wr ∧ Env wr gk gc gn gm key nonce ctr N) (fun i _ => N - (intOf i).toNat)
  case atStart => exact ⟨0, Nat.zero_le _, rfl, h0, EV.out⟩
  case round =>
    clear h0 EV
    obtain ⟨k, hkN, rfl, hJs, hev⟩ := hrel
    have EV := Lib.hid hev
    have HJs := Lib.hid hJs
    clear hev hJs
    by_cases hlt : k < N
    · have c1 := EV.out.ctr.cell
      have hcw := ctr_wrap ctr k
      gi_wp2_with (first
        | (with_reducible refine wideL_load_row (o := ⟨some 12, _, _, _, _, _⟩) rfl 26 (.tmp 2) rfl gk (by with_unfolding_all rfl) 26 (keyC key) (0, 0) (.array 32 5) (by with_unfolding_all exact EV.out.key) Tryd.underlying26 rfl (Tryd.sizeKey key HK.out) ?_)
        | (with_reducible refine wideL_load_row (o := ⟨some 17, _, _, _, _, _⟩) rfl 27 (.tmp 4) rfl gn (by with_unfolding_all rfl) 27 (keyC nonce) (0, 0) (.array 12 5) (by with_unfolding_all exact EV.out.nonce) Tryd.underlying27 rfl (Tryd.sizeN nonce HN.out) ?_))
      rw [show ((ctr.toNat : Int) + (k : Int)) % 4294967296 = ((ctr + UInt32.ofNat k).toNat : Int) by rw [← ctr_wrap, IntKind.wrap_u32, IntKind.wrap_u32]; omega]
      refine ⟨trivial, ?_⟩
      refine (callsIn_wide.2 (Block_any _ EV.out.table key nonce (ctr + UInt32.ofNat k) HK.out HN.out)).mono ?_
      rintro e w2 ⟨rfl, b2⟩
      have ev2 := EV.out.below b2
      have hJ2 := HJ.out _ _ _ none HJs.out (grown_of_below b2) (fun r e => by cases e)
      have EV2 := Lib.hid ev2
      obtain ⟨fn, tmps, assign, body, hy, hR⟩ := HY.out _ k w2 hJ2 (by simp; omega)
      have HJ3 : Hid (List.range k ++ [k] = List.range (k + 1)) := List.range_succ.symm
      clear ev2 hJ2 b2 c1 hcw EV
      gi_wp2
      refine hR.mono ?_
      rintro e W3 (⟨rfl, hJ3, hk3⟩ | ⟨rfl, hJx3⟩)
      · have EV3 := Lib.hid (EV2.out.kept hk3)
        rw [HJ3.out] at hJ3
        have HJ4 := Lib.hid hJ3
        clear hJ3 hk3
        gi_wp2
        go_roundw
        case rel => exact ⟨k + 1, by omega, by go_num, HJ4.out, EV3.out⟩
        case measure => simp [intOf]; omega
      · gi_wp2
        refine bodyPost_ret (results_none rfl _ _ _) rfl ?_
        exact ⟨⟨_, rfl⟩, .inr ⟨_, trivial, hJx3⟩⟩
    · have hkN2 : k = N := by omega
      have HJ5 : Hid (J (List.range N) wr) := by rw [← hkN2]; exact HJs
      clear hkN2 HJs
      gi_wp2
      go_end0
      exact ⟨⟨_, rfl⟩, .inl ⟨_, rfl, HJ5.out⟩⟩

set_option maxHeartbeats 1000000 in
theorem blocks_any (w : World) (hq : Quar w) (key nonce : List UInt8) (ctr : UInt32) (N : Nat) (hk : key.length = 32) (hn : nonce.length = 12) :
    Calls Tryd.prog 22 #[keyV key, .int .u32 (ctr.toNat : Int), keyV nonce, .int .i64 (N : Int)] w fun e w' => ∃ gk gc gn gm : Nat,
      e = .returned (.func (.func 27) #[] #[.pointer (some ⟨gm, 0, none⟩), .pointer (some ⟨gk, 0, none⟩), .pointer (some ⟨gc, 0, none⟩), .pointer (some ⟨gn, 0, none⟩)]) ∧ Env w' gk gc gn gm key nonce ctr N ∧ (w.heap.size ≤ gk ∧ w.heap.size ≤ gc ∧ w.heap.size ≤ gn ∧ w.heap.size ≤ gm) ∧ Below w.heap.size w w' := by
  have HQ := Lib.hid hq
  clear hq
  go_enter Tryd.func22, Tryd.ntmps22
  go_wp2_with (first
    | ((with_reducible refine wpList_box_row (o := ⟨some 4, _, _, _, _, _⟩) rfl 26 (.tmp 0) rfl (keyC key) (by with_unfolding_all rfl) ?_); intro g1 w1 n1)
    | ((with_reducible refine wpList_box_row (o := ⟨some 6, _, _, _, _, _⟩) rfl 27 (.tmp 2) rfl (keyC nonce) (by with_unfolding_all rfl) ?_); intro g2 w2 n2))
  go_ret
  have z1 := n1.size
  have e1 := n1.spot
  have e2 := n2.spot
  have z2 := n2.size
  simp only [World.size_alloc] at e2 z2
  have b1 : Below w.heap.size w (w1.alloc (.cells #[.int .u32 (ctr.toNat : Int)] 22)) := n1.below.alloc n1.below.size _
  have b2 : Below w.heap.size w w2 := below_size b1 n2.below
  have b3 : Below w.heap.size w (w2.alloc (.cells #[.int .i64 (N : Int)] 3)) := b2.alloc b2.size _
  refine ⟨g1, w1.heap.size, g2, w2.heap.size, rfl, ⟨?_, ?_, ?_, ?_, HQ.out.below b3⟩, ⟨by omega, by omega, by omega, by omega⟩, b3⟩
  · exact ((n1.row.alloc _).kept n2.below).alloc _
  · exact (n2.below.block _ (by rw [World.size_alloc]; omega)).trans (Boxed.new w1 22 (.int .u32 (ctr.toNat : Int))) |> (Boxed.alloc · _)
  · exact n2.row.alloc _
  · exact Boxed.new w2 3 (.int .i64 (N : Int))

set_option maxHeartbeats 2000000 in
theorem Mix_ok (w : World) (hq : Quar w) (key nonce text : List UInt8) (ctr : UInt32) (v : Value) (hb : Bs w v text) (hk : key.length = 32) (hn : nonce.length = 12) (hl : text.length ≤ 4000) :
    Calls Tryd.prog 14 #[keyV key, .int .u32 (ctr.toNat : Int), keyV nonce, v] w fun e w' => ∃ u, e = .returned (.tuple #[u, .int .i64 0]) ∧ Bs w' u (mixS key ctr nonce text) ∧ Below w.heap.size w w' := by
  obtain ⟨i0, hi, hz0, hz1, hz2⟩ := info_parts Tryd.infoB
  have HB := Lib.hid hb
  obtain ⟨A, c, rfl, h1, h2, h3⟩ := hb
  unfold maxLen at h2
  obtain ⟨N, hN⟩ : ∃ N, N = (text.length + 63) / 64 := ⟨_, rfl⟩
  have hNi : ((text.length : Int) + 64 - 1) / 64 = (N : Int) := by omega
  have hNi2 : ((text.length : Int) + 63) / 64 = (N : Int) := by omega
  have hNb : N ≤ 63 := by omega
  have HN := Lib.hid hN
  have HQ := Lib.hid hq
  have HKL := Lib.hid hk
  have HNL := Lib.hid hn
  clear h3 hq hk hn hN
  refine (callsIn_wide (n := 3)).1 ?_
  refine callsIn_of_wp_marks Tryd.func14 rfl trivial ?_ rfl
  simp only [Tryd.ntmps14, List.size_toArray, List.length_cons, List.length_nil, Nat.reduceAdd, Nat.reduceSub, Array.replicate_succ, Array.replicate_zero, List.push_toArray, List.append_toArray, List.nil_append, List.cons_append]
  refine wpIn_wide.2 ?_
  go_wp2_with (first
    | ((with_reducible refine wpList_box_row (o := ⟨some 4, _, _, _, _, _⟩) rfl 26 (.tmp 0) rfl (keyC key) (by with_unfolding_all rfl) ?_); intro g1 w1 n1)
    | ((with_reducible refine wpList_box_row (o := ⟨some 6, _, _, _, _, _⟩) rfl 27 (.tmp 2) rfl (keyC nonce) (by with_unfolding_all rfl) ?_); intro g2 w2 n2)
    | ((with_reducible refine wpList_make_own (o := ⟨some 17, _, _, _, _, _⟩) _ rfl (.const (.int .i64 0)) (.tmp 16) 34 rfl w.heap.size 5 i0 (.int .u8 0) 1 Tryd.underlying34 hi hz0 hz1 .i64 .i64 (text.length : Int) text.length (by with_unfolding_all rfl) (by with_unfolding_all rfl) rfl (by rw [hz2]; omega) (by unfold maxLen; omega) (by have := n1.below.size; have := n2.below.size; simp; omega) ?_); intro w3 hown hgrow; have hcx := fun o => (((Boxed.new w2 34 (.slice A text.length c)).kept hgrow (by simp)).alloc o).cell)
    | (with_reducible refine wpList_load_row (o := ⟨some 18, _, _, _, _, _⟩) rfl 26 (.tmp 4) rfl g1 (by with_unfolding_all rfl) 26 (keyC key) (0, 0) (.array 32 5) (by with_unfolding_all exact ((((n1.row.kept n2.below).alloc _).grown hgrow (by simp)).alloc _)) Tryd.underlying26 rfl (Tryd.sizeKey key HKL.out) ?_)
    | (with_reducible refine wpList_load_row (o := ⟨some 20, _, _, _, _, _⟩) rfl 27 (.tmp 6) rfl g2 (by with_unfolding_all rfl) 27 (keyC nonce) (0, 0) (.array 12 5) (by with_unfolding_all exact (((n2.row.alloc _).grown hgrow (by simp)).alloc _)) Tryd.underlying27 rfl (Tryd.sizeN nonce HNL.out) ?_))
  have BT0 := (Boxed.new w2 34 (.slice A text.length c)).kept hgrow (by simp)
  have z1 := n1.size
  have z2 := n2.size
  have e1 := n1.spot
  have e2 := n2.spot
  have hgs := hgrow.size
  rw [World.size_alloc] at hgs
  have B3 : Below w.heap.size w w3 := (below_size (below_size n1.below n2.below) ((Below.refl _ _).alloc (Nat.le_refl _) _)).trans (((Below.refl _ _).grown hgrow (Nat.le_refl _) (fun k h => by cases h)).mono (by rw [World.size_alloc]; omega))
  obtain ⟨gT, hgT⟩ : ∃ g, g = w2.heap.size := ⟨_, rfl⟩
  obtain ⟨gO, hgO⟩ : ∃ g, g = w3.heap.size := ⟨_, rfl⟩
  have BT := BT0.alloc (.cells #[.slice (some ⟨gT + 1, 0, none⟩) 0 text.length] 34)
  have BO := Boxed.new w3 34 (.slice (some ⟨gT + 1, 0, none⟩) 0 text.length)
  have OW : OwnB (w3.alloc (.cells #[.slice (some ⟨gT + 1, 0, none⟩) 0 text.length] 34)) w.heap.size 5 (.slice (some ⟨gT + 1, 0, none⟩) 0 text.length) (xorB text []) := by
    have : OwnB w3 w.heap.size 5 (.slice (some ⟨gT + 1, 0, none⟩) 0 text.length) (xorB text []) := by
      have e : xorB text [] = [] := by simp [xorB]
      rw [e, hgT]
      have h := hown
      rw [World.size_alloc] at h
      exact h
    exact this.alloc _
  have B4 := B3.alloc B3.size (.cells #[.slice (some ⟨gT + 1, 0, none⟩) 0 text.length] 34)
  rw [← hgT] at BT ⊢
  rw [← hgO] at BO ⊢
  have hTO : gT < gO := by omega
  have hwT : w.heap.size ≤ gT := by omega
  generalize w3.alloc (.cells #[.slice (some ⟨gT + 1, 0, none⟩) 0 text.length] 34) = w4 at BT BO OW B4 ⊢
  clear BT0 z1 z2 e1 e2 hgs B3 n1 n2 hcx hown hgrow hgT hgO
  refine (blocks_any _ (HQ.out.below B4) key nonce ctr N HKL.out HNL.out).mono ?_
  rintro e w5 ⟨gk, gc, gn, gm, rfl, env, ⟨hk1, hk2, hk3, hk4⟩, b5⟩
  have BT5 := BT.kept (grown_of_below b5) (by simp)
  have BO5 := BO.kept (grown_of_below b5) (by simp)
  have OW5 := OW.below b5
  have B5 := below_size B4 b5
  have ltT := BT.lt
  have ltO := BO.lt
  clear BT BO OW B4 b5
  go_wp2_with fail
  have EV := Lib.hid env
  have hEb : ∀ k, EnvAt gk gc gn gm k → k < w5.heap.size := env.lt
  have hts : 0 < w.heap.size := HQ.out.lt
  have hE1 : ∀ k, EnvAt gk gc gn gm k → k ≠ gO := by
    rintro k (rfl | rfl | rfl | rfl | rfl) <;> omega
  have HEB := Lib.hid hEb
  have HE1 := Lib.hid hE1
  clear hEb hE1 env
  refine (wpIn_wide (n := 3)).1 ?_
  refine wpIn_rangeFunc_ownH (F := Fence.wide) rfl (by omega) (gf := 27) (lb := #[.pointer (some ⟨gm, 0, none⟩), .pointer (some ⟨gk, 0, none⟩), .pointer (some ⟨gc, 0, none⟩), .pointer (some ⟨gn, 0, none⟩)]) rfl trivial (enters_of Tryd.func27 (by kernel_rfl) rfl)
    (blocks1_stops 2 (by omega) gk gc gn gm key nonce ctr N HKL.out HNL.out (by omega) w5 EV.out) keepsAt_t (keepsAt_b HEB.out) (Below.refl _ _) (fun _ => rfl)
    (fun pre W => (Boxed W gT 34 (.slice A text.length c) ∧ ∃ v, Boxed W gO 34 v ∧ OwnB W w.heap.size 5 v (xorB text (pre.flatMap fun x => blockS key (ctr + UInt32.ofNat x) nonce))) ∧ (Below w.heap.size w W ∧ w5.heap.size ≤ W.heap.size ∧ Env W gk gc gn gm key nonce ctr N))
    (fun _ _ _ => False)
    (OwnFrom.and (OwnFrom.and (Own.from (boxed_own _ _ _) _) (fun s X Y row hs hg hr => by obtain ⟨v, h1, h2⟩ := hs; exact ⟨v, boxed_row h1 hg (fun r e => (hr r e).2), h2.grown hg (fun r e => (hr r e).2)⟩)) (OwnFrom.and (ownFrom_below (Nat.le_refl _) B5.size) (OwnFrom.and (fun s X Y row hs hg hr => Nat.le_trans hs hg.size) (fun s X Y row hs hg hr => hs.grown hg (fun r e => (hr r e).2)))))
    (fun _ _ _ _ _ hs _ _ => hs)
    ⟨⟨BT5, _, BO5, OW5⟩, B5, Nat.le_refl _, EV.out⟩
    (fun x a' W => ∃ Bx, w5.heap.size ≤ Bx ∧ RowAt W Bx 31 (keyC (blockS key (ctr + UInt32.ofNat x) nonce)) ∧ a' = { tmps := #[keyV key, .int .u32 (ctr.toNat : Int), keyV nonce, .slice A text.length c, .pointer (some ⟨g1, 0, none⟩), undef, .pointer (some ⟨g2, 0, none⟩), .pointer (some ⟨gT, 0, none⟩), .slice none 0 0, .int .i64 0, .pointer (some ⟨gO, 0, none⟩), .pointer (some ⟨Bx, 0, none⟩), .slice A text.length c, .int .i64 (text.length : Int), .bool (decide (4000 < (text.length : Int))), .slice A text.length c, .int .i64 (text.length : Int), .slice (some ⟨gT + 1, 0, none⟩) 0 text.length, .agg (keyC key), .int .u32 (ctr.toNat : Int), .agg (keyC nonce), .slice A text.length c, .int .i64 (text.length : Int), .int .i64 ((text.length : Int) + 64), .int .i64 ((text.length : Int) + 64 - 1), .int .i64 (N : Int), .func (.func 27) #[] #[.pointer (some ⟨gm, 0, none⟩), .pointer (some ⟨gk, 0, none⟩), .pointer (some ⟨gc, 0, none⟩), .pointer (some ⟨gn, 0, none⟩)], keyV (blockS key (ctr + UInt32.ofNat x) nonce), undef, undef, undef, undef, undef, undef, undef, undef, undef], defers := [] })
    (fun x a' _ X Y row hs hg hr => by
      obtain ⟨Bx, h1, h2, h3⟩ := hs
      refine ⟨Bx, h1, h2.grown hg (fun e => ?_), h3⟩
      obtain ⟨_, o, ho, hc⟩ := hr Bx e.symm
      rw [show X.heap[Bx]? = _ from h2] at ho
      cases ho
      simp [Obj.isCells] at hc)
    ?assign ?body ?done ?stop
  case assign =>
    rintro l pre x W K ⟨⟨hT, v, hO, hW⟩, hB, hsz, hEnv⟩ hK
    gi_wp2_with (first
      | ((with_reducible refine roundL_alloc_row (o := ⟨some 11, _, _, _, _, _⟩) rfl 31 rfl (keyC zero64B) Tryd.zero64B ?_); intro gx wx nx)
      | ((with_reducible refine roundL_store_row (o := ⟨none, _, _, _, _, _⟩) rfl 31 (.tmp 11) (.tmp 27) rfl gx 31 _ (keyC (blockS key (ctr + UInt32.ofNat x) nonce)) (by with_unfolding_all rfl) (by with_unfolding_all rfl) nx.row (keyC_sameN zero64B_length (blockS_length _ _ _)) (Tryd.size64B _ (blockS_length _ _ _)) (keyC_one _) ?_); intro wy py))
    obtain ⟨hb, hko⟩ := laid_put nx py
    exact hK _ _ (hko.from _) (KeepsAt.of_below hb (fun k hk => Nat.lt_of_lt_of_le (HEB.out k hk) hsz))
      ⟨⟨hT.kept (grown_of_below hb) (by simp), v, hO.kept (grown_of_below hb) (by simp), hW.below hb⟩, below_size hB hb, Nat.le_trans hsz hb.size, hEnv.below hb⟩
      ⟨gx, by rw [nx.spot]; exact hsz, py.row, rfl⟩
  case body =>
    rintro l pre x a' W hl hrec ⟨⟨hT, v, hO, hW⟩, hB, hsz, hEnv⟩ ⟨Bx, hBx, hRow, rfl⟩ hlt
    obtain ⟨AO, cO, rfl, hv1, hv2⟩ := hW.shape
    obtain ⟨nz, hnz⟩ : ∃ nz, nz = pre.flatMap fun x => blockS key (ctr + UInt32.ofNat x) nonce := ⟨_, rfl⟩
    obtain ⟨bk, hbk⟩ : ∃ bk, bk = blockS key (ctr + UInt32.ofNat x) nonce := ⟨_, rfl⟩
    have hbl : bk.length = 64 := by rw [hbk, blockS_length]
    have hnz2 : (pre ++ [x]).flatMap (fun x => blockS key (ctr + UInt32.ofNat x) nonce) = nz ++ bk := by rw [List.flatMap_append, hnz, hbk]; simp
    rw [← hnz] at hW hv1 hO
    rw [← hbk] at hRow
    have HNZ2 := Lib.hid hnz2
    have HBL := Lib.hid hbl
    have hlo : (xorB text nz).length ≤ text.length := by rw [xorB_length]; exact Nat.min_le_left _ _
    clear hnz hnz2 hbl hbk
    gi_wp2
    obtain ⟨ko, hko⟩ : ∃ ko, ko = (xorB text nz).length := ⟨_, rfl⟩
    have HKO := Lib.hid hko
    rw [← hko] at hO hv1 hlo hW
    clear hko
    refine round_region (S := fun W' => Boxed W' gT 34 (.slice A text.length c) ∧ Boxed W' gO 34 (.slice AO ko cO)) (fin := fun j => j == 8) (by kernel_rfl) (by kernel_rfl) (by rintro ⟨_, _, h⟩; exact h) ?_
    have hS : Boxed W.drew gT 34 (.slice A text.length c) ∧ Boxed W.drew gO 34 (.slice AO ko cO) := ⟨hT, hO⟩
    change walkS _ _ _ _ _ _ 9 _ _ _
    refine walkS_take (i := 0) (v := .slice AO ko cO) rfl (by kernel_rfl) (by kernel_rfl) (fun _ _ _ h => h) _ _ _ _ (by kernel_rfl) (by kernel_rfl) (Or.inl ⟨by rfl, fun w' hS' => ?_⟩) hS ?_
    · have c1 := hS'.2.cell
      clear hS' hS hrec hT hO hRow hEnv
      go_simp
    simp only [Act.put, List.setIfInBounds_toArray]
    refine walkS_take (i := 1) (v := .slice A text.length c) rfl (by kernel_rfl) (by kernel_rfl) (fun _ _ _ h => h) _ _ _ _ (by kernel_rfl) (by kernel_rfl) (Or.inl ⟨by rfl, fun w' hS' => ?_⟩) hS ?_
    · have c1 := hS'.1.cell
      clear hS' hS hrec hT hO hRow hEnv
      go_simp
    simp only [Act.put]
    refine walkS_take (i := 2) (v := .slice AO ko cO) rfl (by kernel_rfl) (by kernel_rfl) (fun _ _ _ h => h) _ _ _ _ (by kernel_rfl) (by kernel_rfl) (Or.inl ⟨by rfl, fun w' hS' => ?_⟩) hS ?_
    · have c1 := hS'.2.cell
      clear hS' hS hrec hT hO hRow hEnv
      go_simp
    simp only [Act.put]
    refine walkS_take (i := 3) (v := .int .i64 (ko : Int)) rfl (by kernel_rfl) (by kernel_rfl) (fun _ _ _ h => h) _ _ _ _ (by kernel_rfl) (by kernel_rfl) (Or.inl ⟨by rfl, fun w' hS' => ?_⟩) hS ?_
    · clear hS' hS hrec hT hO hRow hEnv
      go_simp
    simp only [Act.put]
    refine walkS_take (i := 4) (v := .slice (if c = ko then A else Option.map (fun x => x.add ko) A) (text.length - ko) (c - ko)) rfl (by kernel_rfl) (by kernel_rfl) (fun _ _ _ h => h) _ _ _ _ (by kernel_rfl) (by kernel_rfl) (Or.inl ⟨by rfl, fun w' hS' => ?_⟩) hS ?_
    · clear hS' hS hrec hT hO hRow hEnv
      go_simp
    simp only [Act.put]
    refine walkS_take (i := 5) (v := .slice (some ⟨Bx, 0, none⟩) 64 64) rfl (by kernel_rfl) (by kernel_rfl) (fun _ _ _ h => h) _ _ _ _ (by kernel_rfl) (by kernel_rfl) (Or.inl ⟨by rfl, fun w' hS' => ?_⟩) hS ?_
    · clear hS' hS hrec hT hO hRow hEnv
      go_simp
    simp only [Act.put]
    refine walkS_only (i := 6) (by kernel_rfl) rfl rfl fun K hK => ?_
    have HT0 := Lib.hid (HB.out.below hB)
    have HX1 := Lib.hid (HT0.out.cut ko hlo)
    have HX2 := Lib.hid (arr_bs hRow 64 HBL.out (by omega))
    go_simp
    refine (Xor_any _ _ _ _ _ HX1.out.drew HX2.out.drew (by rw [List.length_drop]; omega) (by rw [HBL.out]; omega)).mono ?_
    rintro e W1 ⟨u, rfl, hu, b1⟩
    have b1' : Below W.heap.size W W1 := below_size (Below.refl _ _).drew b1
    have hT1 : Boxed W1 gT 34 (.slice A text.length c) := hT.kept (grown_of_below b1') (by simp)
    have hO1 : Boxed W1 gO 34 (.slice AO ko cO) := hO.kept (grown_of_below b1') (by simp)
    refine hK _ _ (.inr ⟨hT1, hO1⟩) ?_
    clear hK K
    refine walkS_only (i := 7) (by kernel_rfl) rfl rfl fun K hK => ?_
    have hsz1 := b1'.size
    have hwsz := hB.size
    refine wp_appG (.tmp 28) (.tmp 34) 34 rfl w.heap.size 5 Tryd.infoB Tryd.underlying34 _ _ (xorB text nz) _ rfl rfl (hW.below b1') hu (by rw [xorB_length, xorB_length, List.length_drop, HBL.out]; omega) (by omega) ?_
    intro v' W2 hW2 hg2
    have hne := (hW.below b1').other (show W1.heap[gO]? = _ from hO1) (by decide)
    have hneT := (hW.below b1').other (show W1.heap[gT]? = _ from hT1) (by decide)
    have hO2 : Boxed W2 gO 34 (.slice AO ko cO) := hO1.kept hg2 hne
    have hT2 : Boxed W2 gT 34 (.slice A text.length c) := hT1.kept hg2 hneT
    refine hK _ _ (.inr ⟨hT2, hO2⟩) ?_
    clear hK K
    refine walkS_only (i := 8) (by kernel_rfl) rfl rfl fun K hK => ?_
    have c2 := hO2.cell
    have f2 := hO2.frozen
    obtain ⟨A2, cc2, rfl, _, _⟩ := hW2.shape
    obtain ⟨m, hm⟩ : ∃ m, m = (xorB text nz ++ xorB (text.drop ko) bk).length := ⟨_, rfl⟩
    rw [← hm] at hW2 ⊢
    clear hm
    have E1 := hEnv.below b1'
    have hkw2 : KeepsOthers W1 W2 := KeepsOthers.of_grownBy hg2 (fun j o ej hj => by
      obtain ⟨cur, hc⟩ := (hW.below b1').spot ej
      rw [hj] at hc
      cases hc
      rfl)
    have hka2 := E1.beside (hW.below b1') hts hg2
    have hbel2 : Below w.heap.size W1 W2 := (Below.refl _ _).grown hg2 (by omega) (hW.below b1').rows
    have E2 := E1.kept hka2
    have hsz2 := hg2.size
    have HKW := Lib.hid hkw2
    have HKA := Lib.hid hka2
    have HBEL := Lib.hid hbel2
    have HE2 := Lib.hid E2
    have HE3 := Lib.hid E1
    have HB1 := Lib.hid b1'
    have HW2 := Lib.hid hW2
    have HT2 := Lib.hid hT2
    have HO2 := Lib.hid hO2
    clear hkw2 hka2 hbel2 E2 E1 b1' hW2 hT2 hO2 b1 hT hO hRow hEnv hrec hS hu hT1 hO1 hg2 hne hneT hW BT5 BO5 OW5
    go_simp
    refine hK _ _ (.inl rfl) ?_
    refine walkS_done (by kernel_rfl) ?_ _
    have hgs := grownBy_setCell' W2 gO (.slice A2 m cc2)
    have hks : KeepsAt (EnvAt gk gc gn gm) W2 (W2.setCell ⟨gO, 0, none⟩ (.slice A2 m cc2)) :=
      KeepsAt.of_grown hgs (fun k hk => ⟨HE2.out.lt k hk, by intro e; injection e with e; exact HE1.out k hk e⟩)
    have hxn : xorB text nz ++ xorB (text.drop ko) bk = xorB text (nz ++ bk) := by rw [HKO.out]; exact (xorB_next _ _ _).symm
    refine ⟨?_, ?_, ⟨?_, _, HO2.out.set _, ?_⟩, ?_, ?_, ?_⟩
    · exact (((KeepsOthers.of_below HB1.out).trans HKW.out).trans (KeepsOthers.setCell _ _ _)).from _
    · exact ((KeepsAt.of_below HB1.out (fun k hk => Nat.lt_of_lt_of_le (HEB.out k hk) hsz)).trans HKA.out).trans hks
    · exact HT2.out.other (by omega) _
    · rw [HNZ2.out, ← hxn]
      exact World.ownsRow.kept HW2.out hgs (.inr fun e => HW2.out.other (show W2.heap[gO]? = _ from HO2.out) (by decide) e.symm)
    · exact ((hB.trans (HB1.out.mono hwsz)).trans HBEL.out).setCell (by show w.heap.size ≤ gO; omega) _
    · have := HB1.out.size
      simp
      omega
    · exact HE2.out.kept hks
  case done =>
    rintro D xs W hD rfl ⟨⟨hT, v, hO, hW⟩, hB, hsz, hEnv⟩ hK
    rw [noise_flat] at hW
    have hmix := mixS_more key ctr nonce text N (by rw [HN.out]; exact Nat.le_refl _)
    rw [hmix] at hW
    have c1 := hO.cell
    have HW := Lib.hid hW
    have HB5 := Lib.hid hB
    clear hW hB hmix hT hO hEnv
    go_wp2
    refine ⟨by simp, .inl ⟨_, _, rfl, run_takeDeferred hK, ?_⟩⟩
    have hD2 : ∀ r, some D = some r → ∃ o : Obj, W.heap[r]? = some o ∧ o.isCells = false := by
      rintro r e
      cases e
      exact ⟨_, hK, rfl⟩
    exact ⟨_, results_tmp2 rfl _ _ _, v, rfl, (HW.out.grown (grownBy_putObj' W D _) hD2).bs, HB5.out.trans (belowK_b (w := w) (Nat.le_refl _) W D _ _ (by have := B5.size; omega) hK rfl rfl)⟩
  case stop =>
    rintro D c pre W _ _ h _
    exact h.elim

set_option maxHeartbeats 1000000 in
theorem Mix_long (w : World) (key nonce text : List UInt8) (ctr : UInt32) (v : Value) (hb : Bs w v text) (hl : 4000 < text.length) :
    Calls Tryd.prog 14 #[keyV key, .int .u32 (ctr.toNat : Int), keyV nonce, v] w fun e w' => ∃ u, e = .returned (.tuple #[u, .int .i64 2]) ∧ Bs w' u [] ∧ Below w.heap.size w w' := by
  obtain ⟨A, c, rfl, h1, h2, h3⟩ := hb
  unfold maxLen at h2
  have hd : decide (4000 < (text.length : Int)) = true := by simp; omega
  clear h3
  go_enter Tryd.func14, Tryd.ntmps14
  go_wp2_with (first
    | ((with_reducible refine wpList_box_row (o := ⟨some 4, _, _, _, _, _⟩) rfl 26 (.tmp 0) rfl (keyC key) (by with_unfolding_all rfl) ?_); intro g1 w1 n1)
    | ((with_reducible refine wpList_box_row (o := ⟨some 6, _, _, _, _, _⟩) rfl 27 (.tmp 2) rfl (keyC nonce) (by with_unfolding_all rfl) ?_); intro g2 w2 n2))
  go_ret2
  exact ⟨_, rfl, Bs.nil _, (below_size n1.below n2.below).alloc (by have := n1.below.size; have := n2.below.size; omega) _⟩
end Go.Proofs.YtplaoofclgpeeaaDoor
