/-
  Texts that belong together, merged: J, A, Same, HighO, Tail, Round, Held. Conditions: as each theorem names them.
-/
import Derived.Test.YtmhhjdiilmgmoaaQFrmAA
import Derived.Test.YtmhhjdiilmgmoaaChecked
import Derived.WalkKit
import Derived.LoopTactic
import Derived.RegionTactic
import Derived.Deep.QuietTactic
import Derived.BigQuiet
import Derived.Outline
import Derived.WalkSpells
import Derived.StillTail
import Derived.Deep.Quiet
import Derived.Deep.RegionHeld
import Derived.RangeFuncNested
import Derived.RangeFuncBound
import Derived.RangeFuncCalls
import Derived.RangeFuncLeaves
import Derived.Shelf.Abstract
import Derived.Shelf.RegionOpen
import Derived.OwnWalkIn
import Derived.TacticsInMore
import Derived.LoopNIn
import Derived.LoopIn
section
namespace Go.Proofs.Ytmhhjdiilmgmoaa
open Go.RowKit
set_option linter.unusedVariables false
set_option maxRecDepth 20000

/-- The slice value v reads as the lists ls. -/
def Bss (w : World) (v : Value) (ls : List (List UInt8)) : Prop :=
  ∃ A c, v = .slice A ls.length c ∧ ls.length ≤ c ∧ c ≤ maxLen ∧
    (0 < ls.length → ∃ b off, A = some ⟨b, off, none⟩ ∧ ∀ j (h : j < ls.length), ∃ u, w.cell? ⟨b, off + j, none⟩ = some u ∧ Bs w u ls[j])

/-- A result that is bytes in a row of the call's own. -/
def RetOwn (w : World) (t : TypeId) (l : List UInt8) (e : Ending) (w' : World) : Prop := ∃ v, e = .returned v ∧ OwnB w' w.heap.size t v l ∧ Below w.heap.size w w'
theorem Bss.keep {w w' : World} {v : Value} {ls : List (List UInt8)} (h : Bss w v ls) (hb : Below w.heap.size w w') : Bss w' v ls := by
  obtain ⟨A, c, hv, h1, h2, h3⟩ := h
  refine ⟨A, c, hv, h1, h2, fun hl => ?_⟩
  obtain ⟨b, off, hA, hc⟩ := h3 hl
  refine ⟨b, off, hA, fun j hj => ?_⟩
  obtain ⟨u, hu, hbu⟩ := hc j hj
  exact ⟨u, (hb.cell (World.block_lt_of_cell? w _ hu)).trans hu, hbu.below hb⟩

/-- A list of lists that a call's own arguments have just made. -/
theorem Bss.lit (w : World) (e : TypeId) (vs : List Value) (ls : List (List UInt8)) (hl : vs.length = ls.length) (hm : ls.length ≤ maxLen) (h : ∀ j (h1 : j < vs.length) (h2 : j < ls.length), Bs w vs[j] ls[j]) :
    Bss (w.alloc (.cells vs.toArray e)) (.slice (some ⟨w.heap.size, 0, none⟩) ls.length ls.length) ls := by
  refine ⟨_, _, rfl, Nat.le_refl _, hm, fun _ => ⟨w.heap.size, 0, rfl, fun j hj => ⟨vs[j]'(by omega), ?_, (h j (by omega) hj).alloc _⟩⟩⟩
  rw [Nat.zero_add, World.cell?_alloc_at _ _ _ _ rfl]
  simp [hl, hj]

theorem Bs.cut {w : World} {A : Option Addr} {n c : Nat} {l : List UInt8} (h : Bs w (.slice A n c) l) (k : Nat) (hk : k ≤ l.length) :
    Bs w (.slice (if c = k then A else Option.map (fun x => x.add k) A) (l.length - k) (c - k)) (l.drop k) := by
  obtain ⟨A', c', hv, h1, h2, h3⟩ := h
  injection hv with e1 e2 e3
  subst e1 e2 e3
  have hl : (l.drop k).length = l.length - k := List.length_drop
  refine ⟨_, c - k, by rw [hl], by rw [hl]; omega, by omega, fun h0 => ?_⟩
  rw [hl] at h0
  obtain ⟨b, off, rfl, hc⟩ := h3 (by omega)
  have hadd : (⟨b, off, none⟩ : Addr).add k = ⟨b, off + k, none⟩ := by unfold Addr.add; split <;> simp_all
  refine ⟨b, off + k, by rw [if_neg (by omega)]; simp [hadd], fun j hj => ?_⟩
  rw [hl] at hj
  rw [Nat.add_assoc, hc (k + j) (by omega), List.getElem_drop]
theorem Bss.drew {w : World} {v : Value} {ls : List (List UInt8)} (h : Bss w v ls) : Bss w.drew v ls := h
theorem Bss.two (w : World) (e : TypeId) (u v : Value) (a b : List UInt8) (ha : Bs w u a) (hb : Bs w v b) :
    Bss (w.alloc (.cells #[u, v] e)) (.slice (some ⟨w.heap.size, 0, none⟩) 2 2) [a, b] :=
  Bss.lit w e [u, v] [a, b] rfl (by simp [maxLen]) (fun j h1 h2 => by
    match j, h1 with
    | 0, _ => exact ha
    | 1, _ => exact hb)
theorem Bss.three (w : World) (e : TypeId) (u v x : Value) (a b c : List UInt8) (ha : Bs w u a) (hb : Bs w v b) (hc : Bs w x c) :
    Bss (w.alloc (.cells #[u, v, x] e)) (.slice (some ⟨w.heap.size, 0, none⟩) 3 3) [a, b, c] :=
  Bss.lit w e [u, v, x] [a, b, c] rfl (by simp [maxLen]) (fun j h1 h2 => by
    match j, h1 with
    | 0, _ => exact ha
    | 1, _ => exact hb
    | 2, _ => exact hc)

theorem flat_take (ls : List (List UInt8)) (k : Nat) (h : k < ls.length) : (ls.take (k + 1)).flatten = (ls.take k).flatten ++ ls[k] := by
  rw [List.take_succ_eq_append_getElem h, List.flatten_append]
  simp
theorem flat_le (ls : List (List UInt8)) (k : Nat) : (ls.take k).flatten.length ≤ ls.flatten.length := by
  have h : ls.flatten = (ls.take k).flatten ++ (ls.drop k).flatten := by rw [← List.flatten_append, List.take_append_drop]
  rw [h, List.length_append]
  omega

end Go.Proofs.Ytmhhjdiilmgmoaa
end
section
namespace Go.Proofs.Ytmhhjdiilmgmoaa
open Go.RowKit

/-- The first k bytes are alike. -/
def alikeTo (a b : List UInt8) (k : Nat) : Prop := a.take k = b.take k

theorem alike_step (a b : List UInt8) (k : Nat) (ha : k < a.length) (hb : k < b.length) (h : alikeTo a b k) (he : a[k] = b[k]) : alikeTo a b (k + 1) := by
  unfold alikeTo at *
  rw [List.take_succ_eq_append_getElem ha, List.take_succ_eq_append_getElem hb, h, he]

theorem byte_eq {a b : UInt8} (h : ((a.toNat : Int) = (b.toNat : Int))) : a = b := UInt8.toNat_inj.1 (by omega)

set_option maxHeartbeats 400000 in
theorem refSame (w : World) (va vb : Value) (a b : List UInt8) (ha : Bs w va a) (hb : Bs w vb b) :
    Calls Try.prog 17 #[va, vb] w fun e w' => e = .returned (.bool (a == b)) ∧ ∃ n, w' = w.drewN n := by
  obtain ⟨A, ca, rfl, ha1, ha2, ha3⟩ := ha
  obtain ⟨B, cb, rfl, hb1, hb2, hb3⟩ := hb
  unfold maxLen at ha2 hb2
  by_cases hl : a.length = b.length
  · have hl1 : ((a.length : Int) != (b.length : Int)) = false := by simp [hl]
    have Hl := Lib.hid hl
    have hle : a.length ≤ b.length := by omega
    clear hl
    go_enter Try.func17, Try.ntmps17
    go_wp2
    go_loopw [5] (fun i wr => ∃ k n : Nat, k ≤ a.length ∧ i = .int .i64 k ∧ wr = w.drewN n ∧ alikeTo a b k) (fun i _ => a.length - (intOf i).toNat)
    case atStart => exact ⟨0, 0, Nat.zero_le _, rfl, rfl, by simp [alikeTo]⟩
    case round =>
      obtain ⟨k, n, hk, rfl, rfl, hal⟩ := hrel
      by_cases hlt : k < a.length
      · obtain ⟨b0, o0, rfl, hca⟩ := ha3 (by omega)
        obtain ⟨b1, o1, rfl, hcb⟩ := hb3 (by omega)
        have h0 := hca k hlt
        have h1 := hcb k (by omega)
        clear hca hcb
        by_cases he : a[k] = b[k]
        · have he1 : ((a[k].toNat : Int) != (b[k].toNat : Int)) = false := by simp [he]
          have He := Lib.hid he
          clear he
          go_wp2
          go_quiet (fail)
          go_wp2
          go_roundw
          case rel => exact ⟨k + 1, _, by omega, by go_num, rfl, alike_step a b k hlt (by omega) hal He.out⟩
          case measure => simp [intOf]; omega
        · have he1 : ((a[k].toNat : Int) != (b[k].toNat : Int)) = true := by
            rw [bne_iff_ne]; intro h; exact he (byte_eq h)
          have hfin : (a == b) = false := by
            rw [beq_eq_false_iff_ne]; rintro rfl; exact he rfl
          have Hf := Lib.hid hfin
          clear he hfin
          go_wp2
          go_quiet (fail)
          go_wp2
          go_ret
          exact ⟨by rw [Hf.out]; rfl, _, by first | rfl | exact World.drewN_drewN _ _ _⟩
      · have hfin : (a == b) = true := by
          rw [beq_iff_eq]
          have := Hl.out
          unfold alikeTo at hal
          rwa [List.take_of_length_le (by omega), List.take_of_length_le (by omega)] at hal
        have Hf := Lib.hid hfin
        clear hfin
        go_wp2
        go_ret
        exact ⟨by rw [Hf.out]; rfl, _, by first | rfl | exact World.drewN_drewN _ _ _⟩
  · have hl1 : ((a.length : Int) != (b.length : Int)) = true := by rw [bne_iff_ne]; omega
    have hfin : (a == b) = false := by
      rw [beq_eq_false_iff_ne]; rintro rfl; exact hl rfl
    have Hf := Lib.hid hfin
    clear hfin hl
    go_enter Try.func17, Try.ntmps17
    go_wp2
    go_ret
    exact ⟨by rw [Hf.out]; rfl, 0, rfl⟩
end Go.Proofs.Ytmhhjdiilmgmoaa
end
section
namespace Go.Proofs.Ytmhhjdiilmgmoaa
open Go.RowKit

theorem same_ret (w : World) (va vb : Value) (a b : List UInt8) (ha : Bs w va a) (hb : Bs w vb b) :
    Calls Try.prog 17 #[va, vb] w (RetV w (.bool (a == b))) := (refSame w va vb a b ha hb).mono fun _ _ h => RetV.quiet h
theorem same_yes (w : World) (va vb : Value) (a : List UInt8) (ha : Bs w va a) (hb : Bs w vb a) :
    Calls Try.prog 17 #[va, vb] w (RetV w (.bool true)) := by
  have := same_ret w va vb a a ha hb
  rwa [beq_self_eq_true] at this
end Go.Proofs.Ytmhhjdiilmgmoaa
end
section
namespace Go.Proofs.Ytmhhjdiilmgmoaa
open Go.RowKit
set_option linter.unusedVariables false

set_option maxHeartbeats 400000 in
theorem High_own (w : World) (n s : Nat) (hn : n < 18446744073709551616) (hs1 : 1 ≤ s) (hs2 : s ≤ 8) :
    Calls Try.prog 54 #[.int .u64 (n : Int), .int .i64 (s : Int)] w (fun e w' => ∃ v, e = .returned v ∧ OwnB w' w.heap.size 5 v (lowB n s).reverse ∧ Below w.heap.size w w') := by
  obtain ⟨i0, hi, hz0, hz1, hz2⟩ := info_parts Try.infoB
  have hlen : (lowB n s).reverse.length = s := by rw [List.length_reverse, lowB_length]
  have HL := Lib.hid hlen
  clear hlen
  go_enter Try.func54, Try.ntmps54
  go_wp2_with (first
    | (go_at_call 65; refine (fits_yes _ _ (by omega) (by omega)).mono ?_; rintro e w' ⟨rfl, rfl⟩)
    | (refine wpList_make_full _ rfl (.tmp 10) (.tmp 10) 25 rfl w.heap.size 5 i0 (.int .u8 0) 1 Try.underlying25 hi hz0 hz1 .i64 .i64 _ _ s rfl rfl rfl rfl (by rw [hz2]; omega) (by unfold maxLen; omega) (Nat.le_refl _) ?_; intro w1 hown hgrow))
  rw [made_zeros] at hown
  have hown0 : w1.ownsRow w.heap.size 5 1 (.slice (some ⟨w.heap.size, 0, none⟩) s s) s (cellsB (partlyR (lowB n s).reverse 0)) := by
    rw [partlyR_zero, HL.out]; exact hown
  have hbel : Below w.heap.size w w1 := (Below.refl _ _).grown hgrow (Nat.le_refl _) (fun k h => by cases h)
  clear hown hgrow
  go_loopw [13] (fun i wr => ∃ k : Nat, k ≤ s ∧ i = .int .i64 k ∧ wr.ownsRow w.heap.size 5 1 (.slice (some ⟨w.heap.size, 0, none⟩) s s) s (cellsB (partlyR (lowB n s).reverse k)) ∧ Below w.heap.size w wr) (fun i _ => s - (intOf i).toNat)
  case atStart => exact ⟨0, Nat.zero_le _, rfl, hown0, hbel⟩
  case round =>
    obtain ⟨k, hk, rfl, hown, hb⟩ := hrel
    clear hown0 hbel
    by_cases hlt : k < s
    · obtain ⟨old, hcell⟩ := own_some hown (s - 1 - k) (by omega)
      have hfz := hown.frozenAt (s - 1 - k)
      have hput := own_put hown (s - 1 - k) (byteN n k)
      have hstep := partlyR_step (lowB n s).reverse k (by rw [HL.out]; omega)
      have hget : (lowB n s).reverse[(lowB n s).reverse.length - 1 - k]'(by rw [HL.out]; omega) = byteN n k := by
        rw [List.getElem_reverse]
        have e : (lowB n s).length - 1 - ((lowB n s).reverse.length - 1 - k) = k := by rw [HL.out, lowB_length]; omega
        simp only [e]
        simp [lowB]
      rw [hget, HL.out] at hstep
      rw [hstep] at hput
      have HP := Lib.hid hput
      have HG := Lib.hid hown
      have HB := Lib.hid hb
      clear hput hown hget hb hstep
      go_wp2_with (go_at_call 66; refine (byteAt_any _ n k hn (by omega)).mono ?_; rintro e w' ⟨rfl, rfl⟩)
      go_roundw
      case rel => exact ⟨k + 1, by omega, by go_num, HP.out, HB.out.setCell (by simp) _⟩
      case measure => simp [intOf]; omega
    · have hks : k = s := by omega
      subst hks
      have hown2 : wr.ownsRow w.heap.size 5 1 (.slice (some ⟨w.heap.size, 0, none⟩) k k) k (cellsB (lowB n k).reverse) := by
        have := partlyR_all (lowB n k).reverse; rw [HL.out] at this; rwa [this] at hown
      have HO := Lib.hid hown2
      have HB := Lib.hid hb
      clear hown2 hown hb
      go_wp2
      go_ret
      exact ⟨_, rfl, by unfold OwnB; rw [HL.out]; exact HO.out, HB.out⟩

end Go.Proofs.Ytmhhjdiilmgmoaa
end
section
namespace Go.Proofs.Ytmhhjdiilmgmoaa
set_option linter.unusedVariables false

section
variable {P : Program} {ops : Array Oper} {md : Region.Mode} {C : World → Prop}

/-- In whatever order the first operations come up, each is quiet; behind them L. -/
def headQ (P : Program) (md : Region.Mode) (ops : Array Oper) (C : World → Prop) (n : Nat) (L : Array Bool → Act → Prop) : Nat → Array Bool → Act → Prop
  | 0 => L
  | f + 1 => fun listed a => Region.ready md ops listed ≠ [] ∧ ∀ i ∈ Region.ready md ops listed, i < n ∧ qOp P ops C i (headQ P md ops C n L f (listed.setIfInBounds i true)) a

theorem any_of_headQ {n g : Nat} {L : Array Bool → Act → Prop} {Q : Exit → Act → World → Prop} (hL : ∀ listed a w, C w → L listed a → wpAny P md ops Q g listed a w) (f : Nat) :
    ∀ (listed : Array Bool) (a : Act) (w : World), C w → headQ P md ops C n L f listed a → wpAny P md ops Q (f + g) listed a w := by
  induction f with
  | zero => intro listed a w hw h; rw [Nat.zero_add]; exact hL _ _ _ hw h
  | succ f ih =>
    intro listed a w hw h
    rw [show f + 1 + g = (f + g) + 1 by omega]
    exact ⟨fun h0 => absurd h0 h.1, fun i hi => wpOp_of_qOp hw (fun a' w' hw' h' => ih _ a' w' hw' h') (h.2 i hi).2⟩

/-- What of the head is ready may be taken first. -/
theorem headQ_first {n i : Nat} {oi : Oper} {v : Value} {L : Array Bool → Act → Prop} (hi : ops[i]? = some oi) (hsel : ∀ (j : Nat) (o : Oper) cs b, ops[j]? = some o → o.op ≠ .select cs b)
    (hs : Region.sinkB md ops n = true) (hc : Region.chainB md ops n = true) (hn : n < ops.size) (hin : i < n)
    (hdone : ∀ listed a, L listed a → ∀ j ∈ Region.ready md ops listed, n ≤ j) (f : Nat) :
    ∀ (listed : Array Bool) (a : Act), HeadInv md ops n listed →
      (∀ j oj, ops[j]? = some oj → j ≠ i → listed.getD j true = false → (∀ e ∈ oj.after, Region.binds md e = true → e.on ≠ i) → oi.apart ops oj = true) →
      i ∈ Region.ready md ops listed → YieldsIn P ops C oi v a →
      headQ P md ops C n L f (listed.setIfInBounds i true) (a.put oi.dst v) → headQ P md ops C n L (f + 1) listed a := by
  induction f with
  | zero =>
    intro listed a inv _ hr hy H
    refine ⟨fun h0 => (by rw [h0] at hr; cases hr), fun j hj => ?_⟩
    have hlt : j < n := Nat.lt_of_not_le fun hge => tail_waits hs hc hn inv _ i rfl hin (mem_ready.1 hr).1 j hge hj
    refine ⟨hlt, ?_⟩
    by_cases e : j = i
    · rw [e]; exact hy.qOp hi H
    · exact absurd hlt (Nat.not_lt.2 (hdone _ _ H j (ready_mono hj e)))
  | succ f ih =>
    intro listed a inv free hr hy H
    refine ⟨fun h0 => (by rw [h0] at hr; cases hr), fun j hj => ?_⟩
    have hlt : j < n := Nat.lt_of_not_le fun hge => tail_waits hs hc hn inv _ i rfl hin (mem_ready.1 hr).1 j hge hj
    refine ⟨hlt, ?_⟩
    by_cases e : j = i
    · rw [e]; exact hy.qOp hi H
    · obtain ⟨hun, oj, hoj, hall⟩ := mem_ready.1 hj
      have hno : ∀ x ∈ oj.after, Region.binds md x = true → x.on ≠ i := fun x hx hb hon => by
        have h1 := hall x hx hb
        rw [hon, getD_both (mem_ready.1 hr).1] at h1
        cases h1
      have hboth := qOp_put hoj (free j oj hoj e hun hno) (fun cs b => hsel i oi cs b hi) (fun cs b => hsel j oj cs b hoj) hy (H.2 j (ready_mono hj e)).2
      refine qOp_mono (fun a' h3 => ?_) hboth
      refine ih _ a' (inv.set hj hlt) (fun k ok hk hki hkun hkno => ?_) (ready_mono hr (Ne.symm e)) h3.1 ?_
      · refine free k ok hk hki ?_ hkno
        rcases Nat.decEq j k with hne | heq
        · rwa [getD_set_ne true hne] at hkun
        · rw [← heq]; exact hun
      · rw [Array.setIfInBounds_comm _ _ e]; exact h3.2

theorem headQ_lex {n g : Nat} {K : Act → Prop} (hsel : Region.noSelect ops = true) (hs : Region.sinkB md ops n = true) (hc : Region.chainB md ops n = true) (hn : n < ops.size) (l : List Oper) :
    ∀ (k : Nat) (listed : Array Bool) (a : Act), (∀ j, j < l.length → l[j]? = ops[k + j]?) → k + l.length = n → HeadInv md ops n listed →
    Region.lexHead md ops g l.length k listed = true → wpQuiet P ops C K l a →
    headQ P md ops C n (fun listed' a' => Region.seqB md ops g n listed' = true ∧ K a') l.length listed a := by
  induction l with
  | nil =>
    intro k listed a _ hk _ hB h
    obtain rfl : k = n := by simpa using hk
    exact ⟨by simpa [Region.lexHead] using hB, h⟩
  | cons o l ih =>
    intro k listed a hl hk inv hB h
    simp only [List.length_cons, Region.lexHead, Bool.and_eq_true] at hB hk
    have h0 : ops[k]? = some o := by simpa using (hl 0 (by simp)).symm
    have hst : qOp P ops C k (wpQuiet P ops C K l) a := by unfold qOp; simp only [h0]; exact h
    obtain ⟨v, hy, hK⟩ := yieldsIn_of_qOp h0 hst
    have hr : k ∈ Region.ready md ops listed := by simpa using hB.1.1
    refine headQ_first h0 (Region.noSelect_spec hsel) hs hc hn (by omega) (fun _ _ hL => seqB_ready hL.1) l.length listed a inv (Region.free_spec h0 hB.1.2) hr hy ?_
    refine ih (k + 1) _ _ (fun j hj => ?_) (by omega) (inv.set hr (by omega)) hB.2 hK
    have := hl (j + 1) (by simp; omega)
    simpa [Nat.add_assoc, Nat.add_comm 1 j] using this

/-- THE WAY IN: the first n operations quiet in 'w after some draws', walked in the text's order; the others in one row. -/
theorem region_quiet_tail {id : Nat} {Q : Exit → Act → World → Prop} {a : Act} {w : World} {l : List Oper} (n : Nat) (hm : P.follows .mixedOrders = true) (hB : Region.lexTailB .any l.toArray n = true)
    (h : wpQuiet P l.toArray (fun w' => ∃ n, w' = w.drewN n) (fun a' => ∀ w', (∃ n, w' = w.drewN n) → wpList P l.toArray Q (l.drop n) a' w') (l.take n) a) : (Code.region id l.toArray true).wp P Q a w := by
  simp only [Region.lexTailB, Bool.and_eq_true, decide_eq_true_eq] at hB
  obtain ⟨⟨⟨⟨hsel, hn⟩, hs⟩, hc⟩, hlex⟩ := hB
  have hn' : n < l.length := by simpa using hn
  have htl : (l.take n).length = n := by rw [List.length_take]; omega
  have hdl : (l.drop n).length = l.toArray.size - n := by simp
  have H := headQ_lex (md := .any) (g := l.toArray.size - n) hsel hs hc hn (l.take n) 0 (Array.replicate l.toArray.size false) a
    (fun j hj => by rw [htl] at hj; simp [hj]) (by rw [htl]; omega)
    ⟨by simp, fun j oj _ hl => (by rw [getD_replicate_false] at hl; cases hl), fun t _ ht => getD_in (by simpa using ht) (getD_replicate_false _ _)⟩ (by rw [htl]; exact hlex) h
  refine wp_region_any hm ?_
  have A := any_of_headQ (Q := Q) (g := l.toArray.size - n) (fun listed a' w' hw' hL => by
    have := wpAny_of_seq (md := .any) (Q' := Q) (l.drop n) n listed a' w' (fun j => by simp [List.getElem?_drop]) (by rw [hdl]; exact hL.1) (hL.2 w' hw')
    rwa [hdl] at this) (l.take n).length _ _ { w with drawn := w.drawn + 1 } ⟨1, rfl⟩ H
  rw [htl, show n + (l.toArray.size - n) = l.toArray.size by omega] at A
  exact A
end
end Go.Proofs.Ytmhhjdiilmgmoaa
end
section
namespace Go.Proofs.Ytmhhjdiilmgmoaa
open Go.RowKit Go.Shelf
set_option linter.unusedVariables false

section
variable {P : Program} {ops : Array Oper} {Q : Exit → Act → World → Prop} {md : Region.Mode}

theorem oper_round {o : Oper} {a : Act} {w : World} {K : Act → World → Prop} (l n : Nat) (hd : ∀ c, o.op ≠ .defer c) (h : o.wp P a w K Q) : o.wpIn (Fence.wide.inRound l) n P a w K Q := by
  refine ⟨fun _ _ => trivial, ?_⟩
  have e : (o.semAt (Fence.wide.inRound l).round a.eval) = execOp a.eval o := Oper.semAt_some l _ _ hd
  rw [e]
  unfold Oper.wp at h
  generalize (execOp a.eval o).run P w = r at *
  cases r with
  | ok x w' =>
    cases x <;> simp only [Oper.upon, Oper.uponIn] at h ⊢
    case value => exact h
    case skip => exact h
    case defer => exact h
    case enter => exact ⟨fun h => by simp [Fence.wide] at h, CallsIn.inRound l (callsIn_wide.2 h)⟩
    case row =>
      refine ⟨fun h => by simp [Fence.wide] at h, fun c cs _ => ?_⟩
      obtain ⟨v, w', hr, hs⟩ := h c cs
      exact ⟨v, w', hr, stepsIn_wide.2 hs⟩
  | halt x w' => cases x <;> simp only [Oper.upon, Oper.uponIn] at h ⊢ <;> exact h

theorem any_round (l n : Nat) (hd : ∀ (i : Nat) (o : Oper) c, ops[i]? = some o → o.op ≠ .defer c) (hq : ¬ LetsOut Q) : ∀ (fuel : Nat) (listed : Array Bool) (a : Act) (w : World),
    wpAny P md ops Q fuel listed a w → wpAnyIn (Fence.wide.inRound l) n P md ops Q fuel listed a w := by
  intro fuel
  induction fuel with
  | zero => intro listed a w h; exact h
  | succ fuel ih =>
    intro listed a w h
    refine ⟨h.1, fun i hi => ?_⟩
    have h2 := h.2 i hi
    unfold wpOp at h2
    unfold wpOpIn
    cases ho : ops[i]? with
    | none => rw [ho] at h2; exact ih _ _ _ h2
    | some o =>
      rw [ho] at h2
      simp only at h2 ⊢
      split
      · rename_i hw
        rw [if_pos hw] at h2
        rcases h2 with h2 | ⟨_, h2⟩
        · exact oper_round l n (fun c => hd i o c ho) (Oper.wp_mono (fun a w => ih _ a w) h2)
        · exact absurd h2 hq
      · rename_i hw
        rw [if_neg hw] at h2
        exact ⟨fun _ _ => trivial, ih _ _ _ h2⟩

/-- Whatever order is picked: behind each operation that is carried out S holds, but for those (fin) that wait for all that is taken first. -/
def walkS (P : Program) (md : Region.Mode) (ops : Array Oper) (Q : Exit → Act → World → Prop) (S : World → Prop) (fin : Nat → Bool) : Nat → Array Bool → Act → World → Prop
  | 0, listed, a, w => Region.ready md ops listed = [] ∧ Q .normal a w
  | m + 1, listed, a, w => (Region.ready md ops listed = [] → Q .normal a w) ∧
      ∀ i ∈ Region.ready md ops listed, wpOp P ops Q i (fun a' w' => (fin i = true ∨ S w') ∧ walkS P md ops Q S fin m (listed.setIfInBounds i true) a' w') a w

theorem any_of_walkS {S : World → Prop} {fin : Nat → Bool} (m : Nat) : ∀ (listed : Array Bool) (a : Act) (w : World), walkS P md ops Q S fin m listed a w → wpAny P md ops Q m listed a w := by
  induction m with
  | zero => exact fun _ _ _ h => h
  | succ m ih => exact fun listed a w h => ⟨h.1, fun i hi => wpOp_mono (fun a' w' k => ih _ a' w' k.2) (h.2 i hi)⟩

/-- Taken first: it yields v wherever S holds, and those of fin wait for it. -/
theorem walkS_take {S : World → Prop} {fin : Nat → Bool} {i : Nat} {oi : Oper} {v : Value} (hi : ops[i]? = some oi) (hs : Region.noSelect ops = true)
    (hw : ((List.range ops.size).all fun j => !fin j || (match ops[j]? with | some oj => oj.after.any (fun e => Region.binds md e && e.on == i) | none => true)) = true)
    (hQ : ∀ c a w, Q (.panic c) (a.put oi.dst v) w → Q (.panic c) a w) :
    ∀ (m : Nat) (listed : Array Bool) (a : Act) (w : World), Region.free md ops listed i = true → (Region.ready md ops listed).contains i = true → YieldsIf P ops S oi v a → S w →
      walkS P md ops Q S fin m (listed.setIfInBounds i true) (a.put oi.dst v) w → walkS P md ops Q S fin (m + 1) listed a w := by
  have late : ∀ (j : Nat) (oj : Oper), ops[j]? = some oj → (∀ e ∈ oj.after, Region.binds md e = true → e.on ≠ i) → fin j = false := by
    intro j oj hj hno
    have h1 := List.all_eq_true.1 hw j (List.mem_range.2 (Array.getElem?_eq_some_iff.1 hj).1)
    rw [hj] at h1
    cases hf : fin j with
    | false => rfl
    | true =>
      rw [hf] at h1
      simp only [Bool.not_true, Bool.false_or] at h1
      obtain ⟨e, he, hb⟩ := Array.any_eq_true'.1 h1
      simp only [Bool.and_eq_true, beq_iff_eq] at hb
      exact absurd hb.2 (hno e he hb.1)
  have main : ∀ (m : Nat) (listed : Array Bool) (a : Act) (w : World),
      (∀ j oj, ops[j]? = some oj → j ≠ i → listed.getD j true = false → (∀ e ∈ oj.after, Region.binds md e = true → e.on ≠ i) → oi.apart ops oj = true) →
      i ∈ Region.ready md ops listed → YieldsIf P ops S oi v a → S w →
      walkS P md ops Q S fin m (listed.setIfInBounds i true) (a.put oi.dst v) w → walkS P md ops Q S fin (m + 1) listed a w := by
    intro m
    induction m with
    | zero =>
      intro listed a w _ hr hy hS H
      refine ⟨fun h => by simp [h] at hr, fun j hj => ?_⟩
      rcases Nat.decEq j i with hji | hji
      · have := ready_mono hj hji
        rw [H.1] at this
        simp at this
      · subst hji
        exact hy.wpOp hi hS ⟨.inr hS, H⟩
    | succ m ih =>
      intro listed a w hfree hr hy hS H
      refine ⟨fun h => by simp [h] at hr, fun j hj => ?_⟩
      rcases Nat.decEq j i with hji | hji
      · obtain ⟨hun, oj, hoj, hall⟩ := mem_ready.1 hj
        have hno : ∀ e ∈ oj.after, Region.binds md e = true → e.on ≠ i := by
          intro e he hb hon
          have t1 := hall e he hb
          have t0 := (mem_ready.1 hr).1
          rw [hon] at t1
          rcases Nat.lt_or_ge i listed.size with hlt | hge
          · simp [hlt] at t0 t1
            rw [t0] at t1
            cases t1
          · simp [Array.getElem?_eq_none hge] at t1
        have hlate := late j oj hoj hno
        refine wpOp_mono (fun a' w' k => ?_) (wpOp_putIf hoj (hfree j oj hoj hji hun hno) (fun cs b => Region.noSelect_spec hs i oi cs b hi) (fun cs b => Region.noSelect_spec hs j oj cs b hoj) hQ hy (H.2 j (ready_mono hj hji)))
        obtain ⟨k1, k2, k3⟩ := k
        have hS' : S w' := k2.resolve_left (by rw [hlate]; simp)
        refine ⟨.inr hS', ih _ a' w' ?_ (ready_mono hr (Ne.symm hji)) k1 hS' (by rw [Array.setIfInBounds_comm _ _ hji]; exact k3)⟩
        intro x ox hox hxi hxu hxn
        refine hfree x ox hox hxi ?_ hxn
        rcases Nat.decEq j x with hjx | hjx
        · rwa [getD_set_ne true hjx] at hxu
        · rw [← hjx]; exact hun
      · subst hji
        exact hy.wpOp hi hS ⟨.inr hS, H⟩
  intro m listed a w hf hr hy hS h
  exact main m listed a w (fun j oj h1 h2 h3 h4 => Region.free_spec hi hf j oj h1 h2 h3 h4) (by simpa using hr) hy hS h

/-- The only one that may come up. -/
theorem walkS_only {S : World → Prop} {fin : Nat → Bool} {i : Nat} {o : Oper} {m : Nat} {listed : Array Bool} {a : Act} {w : World} (hr : Region.ready md ops listed = [i]) (ho : ops[i]? = some o) (hg : o.guard = none)
    (h : ∀ K : Act → World → Prop, (∀ a' w', (fin i = true ∨ S w') → walkS P md ops Q S fin m (listed.setIfInBounds i true) a' w' → K a' w') → o.wp P a w K Q) : walkS P md ops Q S fin (m + 1) listed a w := by
  refine ⟨fun h0 => by simp [hr] at h0, fun j hj => ?_⟩
  rw [hr] at hj
  obtain rfl : j = i := by simpa using hj
  unfold wpOp
  rw [ho]
  have hw : Region.wanted o (yielded ops a.tmps) = true := by simp [Region.wanted, hg]
  simp only [hw, if_true]
  exact .inl (h _ (fun a' w' h1 h2 => ⟨h1, h2⟩))
theorem walkS_done {S : World → Prop} {fin : Nat → Bool} {listed : Array Bool} {a : Act} {w : World} (hr : Region.ready md ops listed = []) (h : Q .normal a w) (m : Nat) : walkS P md ops Q S fin m listed a w := by
  cases m with
  | zero => exact ⟨hr, h⟩
  | succ m => exact ⟨fun _ => h, by simp [hr]⟩

/-- The way in: S holds behind the draw, and the walk goes on as ever. -/
theorem round_region {id : Nat} {a : Act} {w : World} {l n : Nat} {S : World → Prop} {fin : Nat → Bool} (hm : P.follows .mixedOrders = true) (hd : (ops.toList.all fun o => match o.op with | .defer _ => false | _ => true) = true) (hq : ¬ LetsOut Q)
    (h : walkS P .any ops Q S fin ops.size (Array.replicate ops.size false) a w.drew) : (Code.region id ops true).wpIn (Fence.wide.inRound l) n P Q a w := by
  refine wpIn_region_any hm (any_round l n (fun i o c ho hc => ?_) hq _ _ _ _ (any_of_walkS _ _ _ _ h))
  have hmem : o ∈ ops.toList := by
    have := Array.mem_of_getElem? ho
    simpa using this
  have := List.all_eq_true.1 hd o hmem
  rw [hc] at this
  simp at this

theorem oper_wide {o : Oper} {a : Act} {w : World} {K : Act → World → Prop} (n : Nat) (h : o.wp P a w K Q) : o.wpIn Fence.wide n P a w K Q := by
  refine ⟨fun _ _ => trivial, ?_⟩
  have e : (o.semAt Fence.wide.round a.eval) = execOp a.eval o := Oper.semAt_none _ _
  rw [e]
  unfold Oper.wp at h
  generalize (execOp a.eval o).run P w = r at *
  cases r with
  | ok x w' =>
    cases x <;> simp only [Oper.upon, Oper.uponIn] at h ⊢
    case value => exact h
    case skip => exact h
    case defer => exact h
    case enter => exact ⟨fun h => by simp [Fence.wide] at h, callsIn_wide.2 h⟩
    case row =>
      refine ⟨fun h => by simp [Fence.wide] at h, fun c cs _ => ?_⟩
      obtain ⟨v, w', hr, hs⟩ := h c cs
      exact ⟨v, w', hr, stepsIn_wide.2 hs⟩
  | halt x w' => cases x <;> simp only [Oper.upon, Oper.uponIn] at h ⊢ <;> exact h

/-- The two fences that are used here: none at all, and a round of loop l. -/
theorem list_wide {rest : List Oper} {o : Oper} {a : Act} {w : World} {n : Nat} (hgd : o.guard = none)
    (h : ∀ K : Act → World → Prop, (∀ a w, wpListIn Fence.wide n P ops Q rest a w → K a w) → o.wp P a w K Q) : wpListIn Fence.wide n P ops Q (o :: rest) a w :=
  wpListIn_plain hgd fun K hK => oper_wide n (h K hK)
theorem list_round {rest : List Oper} {o : Oper} {a : Act} {w : World} {n l : Nat} (hgd : o.guard = none) (hd : ∀ c, o.op ≠ .defer c)
    (h : ∀ K : Act → World → Prop, (∀ a w, wpListIn (Fence.wide.inRound l) n P ops Q rest a w → K a w) → o.wp P a w K Q) : wpListIn (Fence.wide.inRound l) n P ops Q (o :: rest) a w :=
  wpListIn_plain hgd fun K hK => oper_round l n hd (h K hK)
end

section
variable {P : Program} {w : World} {ops : Array Oper} {rest : List Oper} {o : Oper} {a : Act} {Q : Exit → Act → World → Prop} {n : Nat}
theorem wideL_alloc_row (hgd : o.guard = none) (ty : TypeId) (ho : o.op = .alloc ty) (z : Array Value) (hz : (P.info? ty).map (·.zero) = some (some (.agg z)))
    (h : ∀ g w', NewRow w g ty z w' → wpListIn Fence.wide n P ops Q rest (a.put o.dst (.pointer (some ⟨g, 0, none⟩))) w') : wpListIn Fence.wide n P ops Q (o :: rest) a w :=
  list_wide hgd fun _ hK => wp_alloc_row ty ho z hz fun g w' hn => hK _ _ (h g w' hn)
theorem wideL_box_row (hgd : o.guard = none) (ty : TypeId) (x : Operand) (ho : o.op = .box ty x) (cs : Array Value) (hx : a.eval x = .agg cs)
    (h : ∀ g w', NewRow w g ty cs w' → wpListIn Fence.wide n P ops Q rest (a.put o.dst (.pointer (some ⟨g, 0, none⟩))) w') : wpListIn Fence.wide n P ops Q (o :: rest) a w :=
  list_wide hgd fun _ hK => wp_box_row ty x ho cs hx fun g w' hn => hK _ _ (h g w' hn)
theorem wideL_store_row (hgd : o.guard = none) (ty : TypeId) (x y : Operand) (ho : o.op = .store ty x y)
    (g : Nat) (t : TypeId) (old cs : Array Value) (hx : a.eval x = .pointer (some ⟨g, 0, none⟩)) (hy : a.eval y = .agg cs) (hg : RowAt w g t old) (hs : old.size = cs.size) (hi : (P.info? ty).map (·.size) = some cs.size)
    (h1 : ∀ u ∈ cs.toList, u.oneCell' = true)
    (h : ∀ w', PutRow w g t cs w' → wpListIn Fence.wide n P ops Q rest (a.put o.dst undef) w') : wpListIn Fence.wide n P ops Q (o :: rest) a w :=
  list_wide hgd fun _ hK => wp_store_row ty x y ho g t old cs hx hy hg hs hi h1 fun w' hn => hK _ _ (h w' hn)
theorem wideL_load_row (hgd : o.guard = none) (ty : TypeId) (x : Operand) (ho : o.op = .load ty x)
    (g : Nat) (hx : a.eval x = .pointer (some ⟨g, 0, none⟩)) (t : TypeId) (cs : Array Value) (fr : Nat × Nat) (d : TypeDesc) (hg : w.heap[g]? = some (.cells cs t fr))
    (hu : P.underlying ty = some d) (hd : (match d with | .struct _ | .array _ _ => true | _ => false) = true) (hi : (P.info? ty).map (·.size) = some cs.size)
    (h : wpListIn Fence.wide n P ops Q rest (a.put o.dst (.agg cs)) w) : wpListIn Fence.wide n P ops Q (o :: rest) a w :=
  list_wide hgd fun _ hK => wp_load_row ty x ho g hx t cs fr d hg hu hd hi (hK _ _ h)

theorem roundL_alloc_row {l : Nat} (hgd : o.guard = none) (ty : TypeId) (ho : o.op = .alloc ty) (z : Array Value) (hz : (P.info? ty).map (·.zero) = some (some (.agg z)))
    (h : ∀ g w', NewRow w g ty z w' → wpListIn (Fence.wide.inRound l) n P ops Q rest (a.put o.dst (.pointer (some ⟨g, 0, none⟩))) w') : wpListIn (Fence.wide.inRound l) n P ops Q (o :: rest) a w :=
  list_round hgd (fun c hc => by rw [ho] at hc; cases hc) fun _ hK => wp_alloc_row ty ho z hz fun g w' hn => hK _ _ (h g w' hn)
theorem roundL_box_row {l : Nat} (hgd : o.guard = none) (ty : TypeId) (x : Operand) (ho : o.op = .box ty x) (cs : Array Value) (hx : a.eval x = .agg cs)
    (h : ∀ g w', NewRow w g ty cs w' → wpListIn (Fence.wide.inRound l) n P ops Q rest (a.put o.dst (.pointer (some ⟨g, 0, none⟩))) w') : wpListIn (Fence.wide.inRound l) n P ops Q (o :: rest) a w :=
  list_round hgd (fun c hc => by rw [ho] at hc; cases hc) fun _ hK => wp_box_row ty x ho cs hx fun g w' hn => hK _ _ (h g w' hn)
theorem roundL_store_row {l : Nat} (hgd : o.guard = none) (ty : TypeId) (x y : Operand) (ho : o.op = .store ty x y)
    (g : Nat) (t : TypeId) (old cs : Array Value) (hx : a.eval x = .pointer (some ⟨g, 0, none⟩)) (hy : a.eval y = .agg cs) (hg : RowAt w g t old) (hs : old.size = cs.size) (hi : (P.info? ty).map (·.size) = some cs.size)
    (h1 : ∀ u ∈ cs.toList, u.oneCell' = true)
    (h : ∀ w', PutRow w g t cs w' → wpListIn (Fence.wide.inRound l) n P ops Q rest (a.put o.dst undef) w') : wpListIn (Fence.wide.inRound l) n P ops Q (o :: rest) a w :=
  list_round hgd (fun c hc => by rw [ho] at hc; cases hc) fun _ hK => wp_store_row ty x y ho g t old cs hx hy hg hs hi h1 fun w' hn => hK _ _ (h w' hn)
theorem roundL_load_row {l : Nat} (hgd : o.guard = none) (ty : TypeId) (x : Operand) (ho : o.op = .load ty x)
    (g : Nat) (hx : a.eval x = .pointer (some ⟨g, 0, none⟩)) (t : TypeId) (cs : Array Value) (fr : Nat × Nat) (d : TypeDesc) (hg : w.heap[g]? = some (.cells cs t fr))
    (hu : P.underlying ty = some d) (hd : (match d with | .struct _ | .array _ _ => true | _ => false) = true) (hi : (P.info? ty).map (·.size) = some cs.size)
    (h : wpListIn (Fence.wide.inRound l) n P ops Q rest (a.put o.dst (.agg cs)) w) : wpListIn (Fence.wide.inRound l) n P ops Q (o :: rest) a w :=
  list_round hgd (fun c hc => by rw [ho] at hc; cases hc) fun _ hK => wp_load_row ty x ho g hx t cs fr d hg hu hd hi (hK _ _ h)
end

section
variable {P : Program} {w : World}
/-- append of bytes onto the call's own row: just that row's block turns. -/
theorem wp_appG {o : Oper} {a : Act} {K : Act → World → Prop} {Q : Exit → Act → World → Prop} (s x : Operand) (t : TypeId)
    (ho : o.op = .call { callee := .builtin .append, args := #[s, x], argTypes := #[t, t] })
    (base : Nat) (e : TypeId) (hinfo : (P.info? e).map (fun i => (i.zero, i.size, i.bytes)) = some (some (.int .u8 0), 1, 1)) (ht : P.underlying t = some (.slice e))
    (v u : Value) (l m : List UInt8) (hs : a.eval s = v) (hx : a.eval x = u) (hown : OwnB w base e v l) (hu : Bs w u m) (hlen : l.length + m.length ≤ 140737488355328) (hb : base ≤ w.heap.size)
    (h : ∀ v' w', OwnB w' base e v' (l ++ m) → w.grownBy w' v.ownBlock → K (a.put o.dst v') w') : o.wp P a w K Q := by
  obtain ⟨v', w', hr, h2, h3⟩ := run_appB (P := P) w base t o.type e hinfo ht v u l m hown hu hlen hb
  unfold Oper.wp execOp
  simp only [ho, resolve, invoke, builtin, Sem.run_bind, Sem.run_pure, Result.andThen_ok, List.map_toArray, List.map_cons, List.map_nil, hs, hx, hr]
  exact h v' w' h2 h3
theorem OwnB.spot {base : Nat} {e : TypeId} {v : Value} {l : List UInt8} (h : OwnB w base e v l) {k : Nat} (hk : v.ownBlock = some k) : ∃ cur, w.heap[k]? = some (.cells cur e (0, 0)) := by
  rcases h.2 with ⟨rfl, _⟩ | ⟨g, cap, cur, rfl, _, hg, _⟩
  · cases hk
  · obtain rfl : g = k := by simpa [Value.ownBlock] using hk
    exact ⟨cur, hg⟩
/-- A block of another type is no row of the call's own. -/
theorem OwnB.other {base : Nat} {e t : TypeId} {v : Value} {l : List UInt8} (h : OwnB w base e v l) {g : Nat} {c : Array Value} {f : Nat × Nat} (hg : w.heap[g]? = some (.cells c t f)) (hte : t ≠ e) : some g ≠ v.ownBlock := by
  intro hk
  obtain ⟨cur, hc⟩ := h.spot hk.symm
  rw [hg] at hc
  injection hc with hc
  injection hc with _ h2 _
  exact hte h2
theorem OwnB.shape {base : Nat} {e : TypeId} {v : Value} {l : List UInt8} (h : OwnB w base e v l) : ∃ A c, v = .slice A l.length c ∧ l.length ≤ c ∧ c ≤ maxLen := by
  obtain ⟨A, c, h1, h2, h3, _⟩ := h.bs
  exact ⟨A, c, h1, h2, h3⟩
theorem OwnB.grown {w' : World} {base : Nat} {e : TypeId} {v : Value} {l : List UInt8} {row : Option Nat} (h : OwnB w base e v l) (hg : w.grownBy w' row) (hr : ∀ r, row = some r → ∃ o : Obj, w.heap[r]? = some o ∧ o.isCells = false) : OwnB w' base e v l := by
  refine World.ownsRow.kept h hg ?_
  rcases hv : v.ownBlock with _ | k
  · exact .inl rfl
  · refine .inr fun hk => ?_
    obtain ⟨cur, hc⟩ := h.spot hv
    obtain ⟨o, ho, hf⟩ := hr k hk.symm
    rw [hc] at ho
    cases ho
    simp [Obj.isCells] at hf
theorem boxed_row {w' : World} {B : Nat} {t : TypeId} {v : Value} {row : Option Nat} (h : Boxed w B t v) (hg : w.grownBy w' row) (hr : ∀ r, row = some r → ∃ o : Obj, w.heap[r]? = some o ∧ o.isCells = false) : Boxed w' B t v := by
  refine h.kept hg fun hk => ?_
  obtain ⟨o, ho, hf⟩ := hr B hk.symm
  rw [show w.heap[B]? = _ from h] at ho
  cases ho
  simp [Obj.isCells] at hf
end
theorem KeepsOthers.of_below {W W' : World} (h : Below W.heap.size W W') : KeepsOthers W W' := ⟨h.size, fun k o hk _ => (h.block k (Array.getElem?_eq_some_iff.1 hk).1).trans hk⟩

/-- A row was laid, and written. -/
theorem laid_put {W wx wy : World} {g : Nat} {t : TypeId} {z cs : Array Value} (n : NewRow W g t z wx) (p : PutRow wx g t cs wy) : Below W.heap.size W wy ∧ KeepsOthers W wy := by
  have hb : Below W.heap.size W wy := p.below n.below n.below.size (by rw [n.spot]; exact Nat.le_refl _)
  exact ⟨hb, KeepsOthers.of_below hb⟩

/-- The blocks of S are as they were. -/
def KeepsAt (S : Nat → Prop) (W W' : World) : Prop := ∀ k, S k → W'.heap[k]? = W.heap[k]?
theorem KeepsAt.refl (S : Nat → Prop) (W : World) : KeepsAt S W W := fun _ _ => rfl
theorem KeepsAt.trans {S : Nat → Prop} {A B C : World} (h : KeepsAt S A B) (k : KeepsAt S B C) : KeepsAt S A C := fun i hi => (k i hi).trans (h i hi)
theorem keepsAt_t {S : Nat → Prop} {A B C : World} (h : KeepsAt S A B) (k : KeepsAt S B C) : KeepsAt S A C := h.trans k
theorem keepsAt_b {S : Nat → Prop} {w : World} (hS : ∀ k, S k → k < w.heap.size) (W : World) (l : Nat) (o o' : Obj) (hl : w.heap.size ≤ l) (h : W.heap[l]? = some o) (_ : o.isCells = false) (_ : o.isWalk = false) : KeepsAt S W (W.putObj l o') := fun k hk =>
  (grownBy_putObj' W l o').block k (by have := (Array.getElem?_eq_some_iff.1 h).1; have := hS k hk; omega) (fun e => by cases e; have := hS _ hk; omega)
theorem KeepsAt.of_below {S : Nat → Prop} {B : Nat} {W W' : World} (h : Below B W W') (hS : ∀ k, S k → k < B) : KeepsAt S W W' := fun k hk => h.block k (hS k hk)
theorem KeepsAt.of_grown {S : Nat → Prop} {row : Option Nat} {W W' : World} (h : W.grownBy W' row) (hS : ∀ k, S k → k < W.heap.size ∧ some k ≠ row) : KeepsAt S W W' := fun k hk => h.block k (hS k hk).1 (hS k hk).2
theorem grown_of_below {W W' : World} (hb : Below W.heap.size W W') : W.grownBy W' none := ⟨hb.os, hb.tape, hb.output, hb.size, fun k hk _ => hb.block k hk⟩
end Go.Proofs.Ytmhhjdiilmgmoaa
end
section
namespace Go.Proofs.Ytmhhjdiilmgmoaa
open Go.RowKit
set_option linter.unusedVariables false

theorem plain_region {P : Program} {ops : Array Oper} {Q : Exit → Act → World → Prop} {id : Nat} {a : Act} {w : World} {S : World → Prop} {fin : Nat → Bool} (hm : P.follows .mixedOrders = true)
    (h : walkS P .any ops Q S fin ops.size (Array.replicate ops.size false) a w.drew) : (Code.region id ops true).wp P Q a w := wp_region_any hm (any_of_walkS _ _ _ _ h)
/-- A whole array is read: what the operation yields. -/
theorem run_load_row {P : Program} {o : Oper} {a : Act} {w : World} (ty : TypeId) (x : Operand) (ho : o.op = .load ty x)
    (g : Nat) (hx : a.eval x = .pointer (some ⟨g, 0, none⟩)) (t : TypeId) (cs : Array Value) (fr : Nat × Nat) (d : TypeDesc) (hg : w.heap[g]? = some (.cells cs t fr))
    (hu : P.underlying ty = some d) (hd : (match d with | .struct _ | .array _ _ => true | _ => false) = true) (hi : (P.info? ty).map (·.size) = some cs.size) : (execOp a.eval o).run P w = .ok (.value (.agg cs)) w := by
  unfold execOp
  simp only [ho, hx, Instr.loadAt, Instr.sureAddr, Sem.run_bind, Sem.run_pure, Result.andThen_ok, run_loadVar_row w g t ty cs fr d hg hu hd hi]
end Go.Proofs.Ytmhhjdiilmgmoaa
end
