/-
  Texts that belong together, merged: KeysEq, FrmA, CodHa, FrmP, FrmB. Conditions: as each theorem names them.
-/
import Derived.Test.YtmhhjdiilmgmoaaQFrmAG
import Derived.Test.YtmhhjdiilmgmoaaQFrmAF
import Derived.Test.YtmhhjdiilmgmoaaQFrmAE
section
namespace Go.Proofs.Ytmhhjdiilmgmoaa
open Go.RowKit
set_option linter.unusedVariables false
set_option maxRecDepth 20000

theorem take_same {L M : List (List UInt8)} {k : Nat} {l m : List UInt8} (h : L.take k = M.take k) (hl : L[k]? = some l) (hm : M[k]? = some m) (e : l = m) : L.take (k + 1) = M.take (k + 1) := by
  rw [List.take_add_one, List.take_add_one, h, hl, hm, e]
theorem take_other {L M : List (List UInt8)} {k : Nat} {l m : List UInt8} (hl : L[k]? = some l) (hm : M[k]? = some m) (e : l ≠ m) : (L == M) = false := by
  rw [beq_eq_false_iff_ne]
  intro h
  rw [h, hm] at hl
  exact e (Option.some.inj hl).symm
set_option maxHeartbeats 2000000 in
theorem refKeys_eq (w : World) (va vb : Value) (L M : List (List UInt8)) (ha : Kl w va L) (hb : Kl w vb M) (hL1 : L.length ≤ 1000) :
    Calls Try.prog 43 #[va, vb] w fun e w' => e = .returned (.bool (L == M)) ∧ Below w.heap.size w w' := by
  by_cases hlen : L.length = M.length
  · obtain ⟨A, ca, rfl, p1, p2, p3, p4⟩ := ha
    obtain ⟨B, cb, rfl, q1, q2, q3, q4⟩ := hb
    have HL := Lib.hid p3
    have HM := Lib.hid q3
    unfold maxLen at p2 q2
    obtain ⟨n, hn⟩ : ∃ n, n = L.length := ⟨_, rfl⟩
    rw [← hlen] at q1 q4 ⊢
    rw [← hn] at p1 p4 q1 q4 hL1 hlen ⊢
    have HLN := Lib.hid hn
    have HMN := Lib.hid hlen
    clear hn p3 q3 hlen
    by_cases h0 : 0 < n
    · obtain ⟨ga, oa, rfl, hca⟩ := p4 h0
      obtain ⟨gb, ob, rfl, hcb⟩ := q4 h0
      have RA0 : Hid (∀ (k : Nat) (l : List UInt8), L[k]? = some l → ∀ W, Below w.heap.size w W → W.rangeAt ga (oa + k * 32) (cellsB l)) := fun k l hk W hW j u hj => (hW.cell (World.block_lt_of_cell? w _ (hca k l hk j u hj))).trans (hca k l hk j u hj)
      have RB0 : Hid (∀ (k : Nat) (l : List UInt8), M[k]? = some l → ∀ W, Below w.heap.size w W → W.rangeAt gb (ob + k * 32) (cellsB l)) := fun k l hk W hW j u hj => (hW.cell (World.block_lt_of_cell? w _ (hcb k l hk j u hj))).trans (hcb k l hk j u hj)
      clear p4 q4 hca hcb h0
      go_enter Try.func43, Try.ntmps43
      go_wp2_with fail
      go_loopw [5] (fun v wr => ∃ k : Nat, k ≤ n ∧ v = .int .i64 (k : Int) ∧ Hid (L.take k = M.take k) ∧ Below w.heap.size w wr) (fun v _ => n - (intOf v).toNat)
      case atStart => exact ⟨0, by omega, rfl, rfl, Below.refl _ _⟩
      case round =>
        obtain ⟨k, hk, rfl, HT, hE⟩ := hrel
        have E := Lib.hid hE
        clear hE
        by_cases hlt : k < n
        · have hlt2 : (k : Int) < (n : Int) := by omega
          have hw1 : IntKind.i64.wrap ((k : Int) + 1) = (k : Int) + 1 := IntWalk.i64_in _ (by omega)
          have hq0 : ¬ ((k : Int) < 0) := by omega
          obtain ⟨l, hl⟩ : ∃ l, L[k]? = some l := ⟨_, List.getElem?_eq_getElem (by rw [← HLN.out]; exact hlt)⟩
          obtain ⟨m, hm⟩ : ∃ m, M[k]? = some m := ⟨_, List.getElem?_eq_getElem (by rw [← HMN.out]; exact hlt)⟩
          have LL : Hid (l.length = 32) := HL.out l (List.mem_of_getElem? hl)
          have LM : Hid (m.length = 32) := HM.out m (List.mem_of_getElem? hm)
          have RA := Lib.hid (RA0.out k l hl)
          have RB := Lib.hid (RB0.out k m hm)
          have heq := fun W => Try.eqKeyIn l m LL.out LM.out W
          by_cases he : l = m
          · have HT2 : Hid (L.take (k + 1) = M.take (k + 1)) := take_same HT.out hl hm he
            rw [show (l == m) = true by simp [he]] at heq
            have HEQ := Lib.hid heq
            clear hl hm RA0 RB0 HL HM heq he
            go_wp2_with fail
            refine region_class (fun W => Below w.heap.size w W) E.out.drew (by kernel_rfl) (by kernel_rfl) ?_
            clear E
            refine q_run (by rfl) (v := .slice (some ⟨ga, oa, none⟩) n ca) (fun W hW => by first | rfl | (clear hW; go_simp)) ?_
            try simp only [Act.put, List.setIfInBounds_toArray, List.set_cons_zero, List.set_cons_succ]
            refine q_run (by rfl) (v := .int .i64 (k : Int)) (fun W hW => by first | rfl | (clear hW; go_simp)) ?_
            try simp only [Act.put, List.setIfInBounds_toArray, List.set_cons_zero, List.set_cons_succ]
            refine q_run (by rfl) (v := .pointer (some ⟨ga, oa + k * 32, none⟩)) (fun W hW => by first | rfl | (clear hW; go_simp)) ?_
            try simp only [Act.put, List.setIfInBounds_toArray, List.set_cons_zero, List.set_cons_succ]
            refine q_run (by rfl) (v := .agg (keyC l)) (fun W hW => run_keyL 24 (.tmp 19) rfl ga (oa + k * 32) rfl l _ (RA.out W hW) Try.underlying24 rfl (Try.sizeKeyM l LL.out)) ?_
            try simp only [Act.put, List.setIfInBounds_toArray, List.set_cons_zero, List.set_cons_succ]
            refine q_run (by rfl) (v := .slice (some ⟨gb, ob, none⟩) n cb) (fun W hW => by first | rfl | (clear hW; go_simp)) ?_
            try simp only [Act.put, List.setIfInBounds_toArray, List.set_cons_zero, List.set_cons_succ]
            refine q_run (by rfl) (v := .int .i64 (k : Int)) (fun W hW => by first | rfl | (clear hW; go_simp)) ?_
            try simp only [Act.put, List.setIfInBounds_toArray, List.set_cons_zero, List.set_cons_succ]
            refine q_run (by rfl) (v := .pointer (some ⟨gb, ob + k * 32, none⟩)) (fun W hW => by first | rfl | (clear hW; go_simp)) ?_
            try simp only [Act.put, List.setIfInBounds_toArray, List.set_cons_zero, List.set_cons_succ]
            refine q_run (by rfl) (v := .agg (keyC m)) (fun W hW => run_keyL 24 (.tmp 23) rfl gb (ob + k * 32) rfl m _ (RB.out W hW) Try.underlying24 rfl (Try.sizeKeyM m LM.out)) ?_
            try simp only [Act.put, List.setIfInBounds_toArray, List.set_cons_zero, List.set_cons_succ]
            refine q_run (by rfl) (v := .bool false) (fun W hW => by have he := HEQ.out; have hgd := Try.eqGuardKey; clear hW; go_simp) ?_
            try simp only [Act.put, List.setIfInBounds_toArray, List.set_cons_zero, List.set_cons_succ]
            refine wpQuiet_nil ?_
            intro w7 hw7
            have E7 := Lib.hid hw7
            clear hw7
            go_wp2_with fail
            refine ⟨⟨k + 1, by omega, by congr 1, HT2, E7.out⟩, ?_⟩
            show n - ((k : Int) + 1).toNat < n - (k : Int).toNat
            omega
          · have HT2 : Hid ((L == M) = false) := take_other hl hm he
            rw [show (l == m) = false by simp [he]] at heq
            have HEQ := Lib.hid heq
            clear hl hm RA0 RB0 HL HM heq he
            go_wp2_with fail
            refine region_class (fun W => Below w.heap.size w W) E.out.drew (by kernel_rfl) (by kernel_rfl) ?_
            clear E
            refine q_run (by rfl) (v := .slice (some ⟨ga, oa, none⟩) n ca) (fun W hW => by first | rfl | (clear hW; go_simp)) ?_
            try simp only [Act.put, List.setIfInBounds_toArray, List.set_cons_zero, List.set_cons_succ]
            refine q_run (by rfl) (v := .int .i64 (k : Int)) (fun W hW => by first | rfl | (clear hW; go_simp)) ?_
            try simp only [Act.put, List.setIfInBounds_toArray, List.set_cons_zero, List.set_cons_succ]
            refine q_run (by rfl) (v := .pointer (some ⟨ga, oa + k * 32, none⟩)) (fun W hW => by first | rfl | (clear hW; go_simp)) ?_
            try simp only [Act.put, List.setIfInBounds_toArray, List.set_cons_zero, List.set_cons_succ]
            refine q_run (by rfl) (v := .agg (keyC l)) (fun W hW => run_keyL 24 (.tmp 19) rfl ga (oa + k * 32) rfl l _ (RA.out W hW) Try.underlying24 rfl (Try.sizeKeyM l LL.out)) ?_
            try simp only [Act.put, List.setIfInBounds_toArray, List.set_cons_zero, List.set_cons_succ]
            refine q_run (by rfl) (v := .slice (some ⟨gb, ob, none⟩) n cb) (fun W hW => by first | rfl | (clear hW; go_simp)) ?_
            try simp only [Act.put, List.setIfInBounds_toArray, List.set_cons_zero, List.set_cons_succ]
            refine q_run (by rfl) (v := .int .i64 (k : Int)) (fun W hW => by first | rfl | (clear hW; go_simp)) ?_
            try simp only [Act.put, List.setIfInBounds_toArray, List.set_cons_zero, List.set_cons_succ]
            refine q_run (by rfl) (v := .pointer (some ⟨gb, ob + k * 32, none⟩)) (fun W hW => by first | rfl | (clear hW; go_simp)) ?_
            try simp only [Act.put, List.setIfInBounds_toArray, List.set_cons_zero, List.set_cons_succ]
            refine q_run (by rfl) (v := .agg (keyC m)) (fun W hW => run_keyL 24 (.tmp 23) rfl gb (ob + k * 32) rfl m _ (RB.out W hW) Try.underlying24 rfl (Try.sizeKeyM m LM.out)) ?_
            try simp only [Act.put, List.setIfInBounds_toArray, List.set_cons_zero, List.set_cons_succ]
            refine q_run (by rfl) (v := .bool true) (fun W hW => by have he := HEQ.out; have hgd := Try.eqGuardKey; clear hW; go_simp) ?_
            try simp only [Act.put, List.setIfInBounds_toArray, List.set_cons_zero, List.set_cons_succ]
            refine wpQuiet_nil ?_
            intro w7 hw7
            have E7 := Lib.hid hw7
            clear hw7
            go_wp2_with fail
            go_ret
            exact ⟨by rw [HT2.out]; rfl, E7.out⟩
        · have hk2 : k = n := by omega
          have HT2 : Hid ((L == M) = true) := by
            show _ = _
            have h1 := HT.out
            rw [List.take_of_length_le (by rw [hk2, HLN.out]; exact Nat.le_refl _), List.take_of_length_le (by rw [hk2, HMN.out]; exact Nat.le_refl _)] at h1
            simp [h1]
          clear hlt HT
          subst hk2
          go_wp2_with fail
          go_ret
          exact ⟨by rw [HT2.out]; rfl, E.out⟩
    · obtain rfl : n = 0 := by omega
      have HT2 : Hid ((L == M) = true) := by
        show _ = _
        rw [List.eq_nil_of_length_eq_zero HLN.out.symm, List.eq_nil_of_length_eq_zero HMN.out.symm]; rfl
      clear p4 q4 h0
      go_enter Try.func43, Try.ntmps43
      go_wp2_with fail
      go_loopw [5] (fun v wr => v = .int .i64 0 ∧ Below w.heap.size w wr) (fun v _ => 0)
      case atStart => exact ⟨rfl, Below.refl _ _⟩
      case round =>
        obtain ⟨rfl, hE⟩ := hrel
        have E := Lib.hid hE
        clear hE
        go_wp2_with fail
        go_ret
        exact ⟨by rw [HT2.out]; rfl, E.out⟩
  · have HT2 : Hid ((L == M) = false) := by
      show _ = _
      rw [beq_eq_false_iff_ne]
      exact fun h => hlen (by rw [h])
    obtain ⟨A, ca, rfl, p1, p2, _, _⟩ := ha
    obtain ⟨B, cb, rfl, q1, q2, _, _⟩ := hb
    unfold maxLen at p2 q2
    have d : ((L.length : Int) != (M.length : Int)) = true := by simp; omega
    have l1 : L.length ≤ 9223372036854775807 := by omega
    have l2 : M.length ≤ 9223372036854775807 := by omega
    clear p1 p2 q1 q2 hlen hL1
    go_enter Try.func43, Try.ntmps43
    go_wp2_with fail
    go_ret
    exact ⟨by rw [HT2.out]; rfl, Below.refl _ _⟩
end Go.Proofs.Ytmhhjdiilmgmoaa
end
section
namespace Go.Proofs.Ytmhhjdiilmgmoaa
open Go.RowKit
set_option linter.unusedVariables false
set_option maxRecDepth 20000

/-- A frame: its number, how many are got, three keys, a box, a signature. -/
structure Fr where
  n : Nat
  ack : Nat
  eph : List UInt8
  epoch : List UInt8
  next : List UInt8
  box : List UInt8
  sign : List (List UInt8)
structure Fr.Ok (f : Fr) : Prop where
  n : f.n < 4294967296
  ack : f.ack < 4294967296
  eph : f.eph.length = 32
  epoch : f.epoch.length = 32
  next : f.next.length = 32
def frL (f : Fr) (bv sv : Value) : List Value := .int .u32 (f.n : Int) :: .int .u32 (f.ack : Int) :: (cellsB f.eph ++ (cellsB f.epoch ++ (cellsB f.next ++ [bv, sv])))
def frC (f : Fr) (bv sv : Value) : Array Value := (frL f bv sv).toArray
/-- A frame as a value. -/
def FrV (w : World) (v : Value) (f : Fr) : Prop := ∃ bv sv, v = .agg (frC f bv sv) ∧ f.Ok ∧ Bs w bv f.box ∧ Kl w sv f.sign
theorem FrV.below {w w' : World} {v : Value} {f : Fr} (h : FrV w v f) (hb : Below w.heap.size w w') : FrV w' v f := by
  obtain ⟨bv, sv, hv, ho, h1, h2⟩ := h
  exact ⟨bv, sv, hv, ho, h1.below hb, h2.below hb⟩
theorem frL_length {f : Fr} (h : f.Ok) (bv sv : Value) : (frL f bv sv).length = 100 := by
  simp [frL, cellsB_length, h.eph, h.epoch, h.next]
theorem frC_size {f : Fr} (h : f.Ok) (bv sv : Value) : (frC f bv sv).size = 100 := by
  rw [frC, List.size_toArray, frL_length h]
theorem frC_get (f : Fr) (bv sv : Value) (i : Nat) : (frC f bv sv)[i]? = (frL f bv sv)[i]? := by
  rw [frC, List.getElem?_toArray]
theorem frL_eph (f : Fr) (bv sv : Value) (j : Nat) (u : Value) (h : (cellsB f.eph)[j]? = some u) : (frL f bv sv)[2 + j]? = some u := by
  have hj := (List.getElem?_eq_some_iff.1 h).1
  rw [frL, Nat.add_comm, List.getElem?_cons_succ, List.getElem?_cons_succ, List.getElem?_append_left hj, h]
theorem frL_epoch {f : Fr} (ho : f.Ok) (bv sv : Value) (j : Nat) (u : Value) (h : (cellsB f.epoch)[j]? = some u) : (frL f bv sv)[34 + j]? = some u := by
  have hj := (List.getElem?_eq_some_iff.1 h).1
  rw [frL, show 34 + j = (32 + j) + 1 + 1 by omega, List.getElem?_cons_succ, List.getElem?_cons_succ, List.getElem?_append_right (by rw [cellsB_length, ho.eph]; omega), cellsB_length, ho.eph, show 32 + j - 32 = j by omega, List.getElem?_append_left hj, h]
theorem frL_next {f : Fr} (ho : f.Ok) (bv sv : Value) (j : Nat) (u : Value) (h : (cellsB f.next)[j]? = some u) : (frL f bv sv)[66 + j]? = some u := by
  have hj := (List.getElem?_eq_some_iff.1 h).1
  rw [frL, show 66 + j = (64 + j) + 1 + 1 by omega, List.getElem?_cons_succ, List.getElem?_cons_succ, List.getElem?_append_right (by rw [cellsB_length, ho.eph]; omega), cellsB_length, ho.eph, show 64 + j - 32 = 32 + j by omega,
    List.getElem?_append_right (by rw [cellsB_length, ho.epoch]; omega), cellsB_length, ho.epoch, show 32 + j - 32 = j by omega, List.getElem?_append_left hj, h]
theorem frL_tail {f : Fr} (ho : f.Ok) (bv sv : Value) (j : Nat) : (frL f bv sv)[98 + j]? = [bv, sv][j]? := by
  rw [frL, show 98 + j = (96 + j) + 1 + 1 by omega, List.getElem?_cons_succ, List.getElem?_cons_succ, List.getElem?_append_right (by rw [cellsB_length, ho.eph]; omega), cellsB_length, ho.eph, show 96 + j - 32 = 64 + j by omega,
    List.getElem?_append_right (by rw [cellsB_length, ho.epoch]; omega), cellsB_length, ho.epoch, show 64 + j - 32 = 32 + j by omega, List.getElem?_append_right (by rw [cellsB_length, ho.next]; omega), cellsB_length, ho.next, show 32 + j - 32 = j by omega]
/-- A frame lies at g. -/
def FrAt (w : World) (g : Nat) (f : Fr) (bv sv : Value) : Prop := RowAt w g 28 (frC f bv sv)
theorem FrAt.n {w : World} {g : Nat} {f : Fr} {bv sv : Value} (h : FrAt w g f bv sv) : w.cell? ⟨g, 0, none⟩ = some (.int .u32 (f.n : Int)) := by rw [RowAt.cell h, frC_get]; rfl
theorem FrAt.ack {w : World} {g : Nat} {f : Fr} {bv sv : Value} (h : FrAt w g f bv sv) : w.cell? ⟨g, 1, none⟩ = some (.int .u32 (f.ack : Int)) := by rw [RowAt.cell h, frC_get]; rfl
theorem FrAt.box {w : World} {g : Nat} {f : Fr} {bv sv : Value} (h : FrAt w g f bv sv) (ho : f.Ok) : w.cell? ⟨g, 98, none⟩ = some bv := by rw [RowAt.cell h, frC_get]; exact frL_tail ho bv sv 0
theorem FrAt.sign {w : World} {g : Nat} {f : Fr} {bv sv : Value} (h : FrAt w g f bv sv) (ho : f.Ok) : w.cell? ⟨g, 99, none⟩ = some sv := by rw [RowAt.cell h, frC_get]; exact frL_tail ho bv sv 1
theorem FrAt.eph {w : World} {g : Nat} {f : Fr} {bv sv : Value} (h : FrAt w g f bv sv) : w.rangeAt g 2 (cellsB f.eph) := fun j u hj => by rw [RowAt.cell h, frC_get]; exact frL_eph f bv sv j u hj
theorem FrAt.epoch {w : World} {g : Nat} {f : Fr} {bv sv : Value} (h : FrAt w g f bv sv) (ho : f.Ok) : w.rangeAt g 34 (cellsB f.epoch) := fun j u hj => by rw [RowAt.cell h, frC_get]; exact frL_epoch ho bv sv j u hj
theorem FrAt.next {w : World} {g : Nat} {f : Fr} {bv sv : Value} (h : FrAt w g f bv sv) (ho : f.Ok) : w.rangeAt g 66 (cellsB f.next) := fun j u hj => by rw [RowAt.cell h, frC_get]; exact frL_next ho bv sv j u hj
theorem Try.sizeFr0 : (Try.prog.info? 28).map (·.size) = some 100 := by kernel_rfl
theorem Try.sizeFr {f : Fr} (h : f.Ok) (bv sv : Value) : (Try.prog.info? 28).map (·.size) = some (frC f bv sv).size := by rw [frC_size h]; exact Try.sizeFr0
/-- What is wrong with a frame: but for its signature, and with it. -/
def shapeE (f : Fr) : Int := if f.n < 1 ∨ f.n > 1000 ∨ f.ack > 1000 then 51 else if f.box.length < 64 then 3 else if f.box.length > 264 then 2 else 0
def checkE (f : Fr) : Int := if shapeE f ≠ 0 then shapeE f else if f.sign.length ≠ 67 then 40 else 0

set_option maxHeartbeats 2000000 in
theorem checkCore_any (w : World) (v : Value) (f : Fr) (h : FrV w v f) :
    Calls Try.prog 25 #[v] w fun e w' => e = .returned (.int .i64 (shapeE f)) ∧ Below w.heap.size w w' := by
  obtain ⟨bv, sv, rfl, ho, h1, h2⟩ := h
  have HO := Lib.hid ho
  obtain ⟨A, c, rfl, _, q2, _⟩ := h1
  obtain ⟨B, d, rfl, _, q3, _⟩ := h2
  unfold maxLen at q2 q3
  have l1 : f.box.length ≤ 9223372036854775807 := by omega
  clear q2 q3 ho
  by_cases a0 : f.n < 1
  · have d0 : decide ((f.n : Int) < 1) = true := by simp; omega
    have E : Hid (shapeE f = 51) := by show _ = _; unfold shapeE; repeat (first | rw [if_pos (by omega)] | rw [if_neg (by omega)])
    clear a0
    go_enter Try.func25, Try.ntmps25
    go_wp2_with (first
      | ((with_reducible refine wpList_box_row (o := ⟨some 1, _, _, _, _, _⟩) rfl 28 (.tmp 0) rfl (frC f (.slice A f.box.length c) (.slice B f.sign.length d)) (by with_unfolding_all rfl) ?_); intro g1 w1 n1; have HR : Hid (FrAt w1 g1 f (.slice A f.box.length c) (.slice B f.sign.length d)) := n1.row; have c0 := HR.out.n; have c1 := HR.out.ack; have c2 := HR.out.box HO.out; have c3 := HR.out.sign HO.out; have HB := Lib.hid n1.below; clear n1))
    go_ret
    exact ⟨by rw [E.out]; rfl, HB.out⟩
  · have d0 : decide ((f.n : Int) < 1) = false := by simp; omega
    by_cases a1 : 1000 < f.n
    · have d1 : decide (1000 < (f.n : Int)) = true := by simp; omega
      have E : Hid (shapeE f = 51) := by show _ = _; unfold shapeE; repeat (first | rw [if_pos (by omega)] | rw [if_neg (by omega)])
      clear a0 a1
      go_enter Try.func25, Try.ntmps25
      go_wp2_with (first
        | ((with_reducible refine wpList_box_row (o := ⟨some 1, _, _, _, _, _⟩) rfl 28 (.tmp 0) rfl (frC f (.slice A f.box.length c) (.slice B f.sign.length d)) (by with_unfolding_all rfl) ?_); intro g1 w1 n1; have HR : Hid (FrAt w1 g1 f (.slice A f.box.length c) (.slice B f.sign.length d)) := n1.row; have c0 := HR.out.n; have c1 := HR.out.ack; have c2 := HR.out.box HO.out; have c3 := HR.out.sign HO.out; have HB := Lib.hid n1.below; clear n1))
      go_ret
      exact ⟨by rw [E.out]; rfl, HB.out⟩
    · have d1 : decide (1000 < (f.n : Int)) = false := by simp; omega
      by_cases a2 : 1000 < f.ack
      · have d2 : decide (1000 < (f.ack : Int)) = true := by simp; omega
        have E : Hid (shapeE f = 51) := by show _ = _; unfold shapeE; repeat (first | rw [if_pos (by omega)] | rw [if_neg (by omega)])
        clear a0 a1 a2
        go_enter Try.func25, Try.ntmps25
        go_wp2_with (first
          | ((with_reducible refine wpList_box_row (o := ⟨some 1, _, _, _, _, _⟩) rfl 28 (.tmp 0) rfl (frC f (.slice A f.box.length c) (.slice B f.sign.length d)) (by with_unfolding_all rfl) ?_); intro g1 w1 n1; have HR : Hid (FrAt w1 g1 f (.slice A f.box.length c) (.slice B f.sign.length d)) := n1.row; have c0 := HR.out.n; have c1 := HR.out.ack; have c2 := HR.out.box HO.out; have c3 := HR.out.sign HO.out; have HB := Lib.hid n1.below; clear n1))
        go_ret
        exact ⟨by rw [E.out]; rfl, HB.out⟩
      · have d2 : decide (1000 < (f.ack : Int)) = false := by simp; omega
        by_cases a3 : f.box.length < 64
        · have d3 : decide ((f.box.length : Int) < 64) = true := by simp; omega
          have E : Hid (shapeE f = 3) := by show _ = _; unfold shapeE; repeat (first | rw [if_pos (by omega)] | rw [if_neg (by omega)])
          clear a0 a1 a2 a3
          go_enter Try.func25, Try.ntmps25
          go_wp2_with (first
            | ((with_reducible refine wpList_box_row (o := ⟨some 1, _, _, _, _, _⟩) rfl 28 (.tmp 0) rfl (frC f (.slice A f.box.length c) (.slice B f.sign.length d)) (by with_unfolding_all rfl) ?_); intro g1 w1 n1; have HR : Hid (FrAt w1 g1 f (.slice A f.box.length c) (.slice B f.sign.length d)) := n1.row; have c0 := HR.out.n; have c1 := HR.out.ack; have c2 := HR.out.box HO.out; have c3 := HR.out.sign HO.out; have HB := Lib.hid n1.below; clear n1))
          go_ret
          exact ⟨by rw [E.out]; rfl, HB.out⟩
        · have d3 : decide ((f.box.length : Int) < 64) = false := by simp; omega
          by_cases a4 : 264 < f.box.length
          · have d4 : decide (264 < (f.box.length : Int)) = true := by simp; omega
            have E : Hid (shapeE f = 2) := by show _ = _; unfold shapeE; repeat (first | rw [if_pos (by omega)] | rw [if_neg (by omega)])
            clear a0 a1 a2 a3 a4
            go_enter Try.func25, Try.ntmps25
            go_wp2_with (first
              | ((with_reducible refine wpList_box_row (o := ⟨some 1, _, _, _, _, _⟩) rfl 28 (.tmp 0) rfl (frC f (.slice A f.box.length c) (.slice B f.sign.length d)) (by with_unfolding_all rfl) ?_); intro g1 w1 n1; have HR : Hid (FrAt w1 g1 f (.slice A f.box.length c) (.slice B f.sign.length d)) := n1.row; have c0 := HR.out.n; have c1 := HR.out.ack; have c2 := HR.out.box HO.out; have c3 := HR.out.sign HO.out; have HB := Lib.hid n1.below; clear n1))
            go_ret
            exact ⟨by rw [E.out]; rfl, HB.out⟩
          · have d4 : decide (264 < (f.box.length : Int)) = false := by simp; omega
            have E : Hid (shapeE f = 0) := by show _ = _; unfold shapeE; repeat (first | rw [if_pos (by omega)] | rw [if_neg (by omega)])
            clear a0 a1 a2 a3 a4
            go_enter Try.func25, Try.ntmps25
            go_wp2_with (first
              | ((with_reducible refine wpList_box_row (o := ⟨some 1, _, _, _, _, _⟩) rfl 28 (.tmp 0) rfl (frC f (.slice A f.box.length c) (.slice B f.sign.length d)) (by with_unfolding_all rfl) ?_); intro g1 w1 n1; have HR : Hid (FrAt w1 g1 f (.slice A f.box.length c) (.slice B f.sign.length d)) := n1.row; have c0 := HR.out.n; have c1 := HR.out.ack; have c2 := HR.out.box HO.out; have c3 := HR.out.sign HO.out; have HB := Lib.hid n1.below; clear n1))
            go_ret
            exact ⟨by rw [E.out]; rfl, HB.out⟩
set_option maxHeartbeats 2000000 in
theorem refShape_any (w : World) (v : Value) (f : Fr) (h : FrV w v f) :
    Calls Try.prog 28 #[v] w fun e w' => e = .returned (.int .i64 (shapeE f)) ∧ Below w.heap.size w w' := by
  obtain ⟨bv, sv, rfl, ho, h1, h2⟩ := h
  have HO := Lib.hid ho
  obtain ⟨A, c, rfl, _, q2, _⟩ := h1
  obtain ⟨B, d, rfl, _, q3, _⟩ := h2
  unfold maxLen at q2 q3
  have l1 : f.box.length ≤ 9223372036854775807 := by omega
  clear q2 q3 ho
  by_cases a0 : f.n < 1
  · have d0 : ((f.n : Int) == 0) = true := by simp; omega
    have E : Hid (shapeE f = 51) := by show _ = _; unfold shapeE; repeat (first | rw [if_pos (by omega)] | rw [if_neg (by omega)])
    clear a0
    go_enter Try.func28, Try.ntmps28
    go_wp2_with (first
      | ((with_reducible refine wpList_box_row (o := ⟨some 1, _, _, _, _, _⟩) rfl 28 (.tmp 0) rfl (frC f (.slice A f.box.length c) (.slice B f.sign.length d)) (by with_unfolding_all rfl) ?_); intro g1 w1 n1; have HR : Hid (FrAt w1 g1 f (.slice A f.box.length c) (.slice B f.sign.length d)) := n1.row; have c0 := HR.out.n; have c1 := HR.out.ack; have c2 := HR.out.box HO.out; have c3 := HR.out.sign HO.out; have HB := Lib.hid n1.below; clear n1))
    go_ret
    exact ⟨by rw [E.out]; rfl, HB.out⟩
  · have d0 : ((f.n : Int) == 0) = false := by simp; omega
    by_cases a1 : 1000 < f.n
    · have d1 : decide (1000 < (f.n : Int)) = true := by simp; omega
      have E : Hid (shapeE f = 51) := by show _ = _; unfold shapeE; repeat (first | rw [if_pos (by omega)] | rw [if_neg (by omega)])
      clear a0 a1
      go_enter Try.func28, Try.ntmps28
      go_wp2_with (first
        | ((with_reducible refine wpList_box_row (o := ⟨some 1, _, _, _, _, _⟩) rfl 28 (.tmp 0) rfl (frC f (.slice A f.box.length c) (.slice B f.sign.length d)) (by with_unfolding_all rfl) ?_); intro g1 w1 n1; have HR : Hid (FrAt w1 g1 f (.slice A f.box.length c) (.slice B f.sign.length d)) := n1.row; have c0 := HR.out.n; have c1 := HR.out.ack; have c2 := HR.out.box HO.out; have c3 := HR.out.sign HO.out; have HB := Lib.hid n1.below; clear n1))
      go_ret
      exact ⟨by rw [E.out]; rfl, HB.out⟩
    · have d1 : decide (1000 < (f.n : Int)) = false := by simp; omega
      by_cases a2 : 1000 < f.ack
      · have d2 : decide (1000 < (f.ack : Int)) = true := by simp; omega
        have E : Hid (shapeE f = 51) := by show _ = _; unfold shapeE; repeat (first | rw [if_pos (by omega)] | rw [if_neg (by omega)])
        clear a0 a1 a2
        go_enter Try.func28, Try.ntmps28
        go_wp2_with (first
          | ((with_reducible refine wpList_box_row (o := ⟨some 1, _, _, _, _, _⟩) rfl 28 (.tmp 0) rfl (frC f (.slice A f.box.length c) (.slice B f.sign.length d)) (by with_unfolding_all rfl) ?_); intro g1 w1 n1; have HR : Hid (FrAt w1 g1 f (.slice A f.box.length c) (.slice B f.sign.length d)) := n1.row; have c0 := HR.out.n; have c1 := HR.out.ack; have c2 := HR.out.box HO.out; have c3 := HR.out.sign HO.out; have HB := Lib.hid n1.below; clear n1))
        go_ret
        exact ⟨by rw [E.out]; rfl, HB.out⟩
      · have d2 : decide (1000 < (f.ack : Int)) = false := by simp; omega
        by_cases a3 : f.box.length < 64
        · have d3 : decide ((f.box.length : Int) < 64) = true := by simp; omega
          have E : Hid (shapeE f = 3) := by show _ = _; unfold shapeE; repeat (first | rw [if_pos (by omega)] | rw [if_neg (by omega)])
          clear a0 a1 a2 a3
          go_enter Try.func28, Try.ntmps28
          go_wp2_with (first
            | ((with_reducible refine wpList_box_row (o := ⟨some 1, _, _, _, _, _⟩) rfl 28 (.tmp 0) rfl (frC f (.slice A f.box.length c) (.slice B f.sign.length d)) (by with_unfolding_all rfl) ?_); intro g1 w1 n1; have HR : Hid (FrAt w1 g1 f (.slice A f.box.length c) (.slice B f.sign.length d)) := n1.row; have c0 := HR.out.n; have c1 := HR.out.ack; have c2 := HR.out.box HO.out; have c3 := HR.out.sign HO.out; have HB := Lib.hid n1.below; clear n1))
          go_ret
          exact ⟨by rw [E.out]; rfl, HB.out⟩
        · have d3 : decide ((f.box.length : Int) < 64) = false := by simp; omega
          by_cases a4 : 264 < f.box.length
          · have d4 : decide (264 < (f.box.length : Int)) = true := by simp; omega
            have E : Hid (shapeE f = 2) := by show _ = _; unfold shapeE; repeat (first | rw [if_pos (by omega)] | rw [if_neg (by omega)])
            clear a0 a1 a2 a3 a4
            go_enter Try.func28, Try.ntmps28
            go_wp2_with (first
              | ((with_reducible refine wpList_box_row (o := ⟨some 1, _, _, _, _, _⟩) rfl 28 (.tmp 0) rfl (frC f (.slice A f.box.length c) (.slice B f.sign.length d)) (by with_unfolding_all rfl) ?_); intro g1 w1 n1; have HR : Hid (FrAt w1 g1 f (.slice A f.box.length c) (.slice B f.sign.length d)) := n1.row; have c0 := HR.out.n; have c1 := HR.out.ack; have c2 := HR.out.box HO.out; have c3 := HR.out.sign HO.out; have HB := Lib.hid n1.below; clear n1))
            go_ret
            exact ⟨by rw [E.out]; rfl, HB.out⟩
          · have d4 : decide (264 < (f.box.length : Int)) = false := by simp; omega
            have E : Hid (shapeE f = 0) := by show _ = _; unfold shapeE; repeat (first | rw [if_pos (by omega)] | rw [if_neg (by omega)])
            clear a0 a1 a2 a3 a4
            go_enter Try.func28, Try.ntmps28
            go_wp2_with (first
              | ((with_reducible refine wpList_box_row (o := ⟨some 1, _, _, _, _, _⟩) rfl 28 (.tmp 0) rfl (frC f (.slice A f.box.length c) (.slice B f.sign.length d)) (by with_unfolding_all rfl) ?_); intro g1 w1 n1; have HR : Hid (FrAt w1 g1 f (.slice A f.box.length c) (.slice B f.sign.length d)) := n1.row; have c0 := HR.out.n; have c1 := HR.out.ack; have c2 := HR.out.box HO.out; have c3 := HR.out.sign HO.out; have HB := Lib.hid n1.below; clear n1))
            go_ret
            exact ⟨by rw [E.out]; rfl, HB.out⟩
set_option maxHeartbeats 2000000 in
theorem check_any (w : World) (v : Value) (f : Fr) (h : FrV w v f) :
    Calls Try.prog 11 #[v] w fun e w' => e = .returned (.int .i64 (checkE f)) ∧ Below w.heap.size w w' := by
  obtain ⟨bv, sv, rfl, ho, h1, h2⟩ := h
  have HO := Lib.hid ho
  have H1 := Lib.hid h1
  have H2 := Lib.hid h2
  have HS : Hid (∀ w v, FrV w v f → Calls Try.prog 25 #[v] w fun e w' => e = .returned (.int .i64 (shapeE f)) ∧ Below w.heap.size w w') := fun w v h => checkCore_any w v f h
  obtain ⟨A, c, rfl, _, q2, _⟩ := h1
  obtain ⟨B, d, rfl, _, q3, _⟩ := h2
  unfold maxLen at q2 q3
  have l1 : f.sign.length ≤ 9223372036854775807 := by omega
  clear q2 q3 ho
  have CE : Hid (checkE f = if shapeE f ≠ 0 then shapeE f else if f.sign.length ≠ 67 then 40 else 0) := rfl
  obtain ⟨x, hx⟩ : ∃ x, x = shapeE f := ⟨_, rfl⟩
  rw [← hx] at HS CE
  clear hx
  have HV : Hid (∀ w', Below w.heap.size w w' → FrV w' (.agg (frC f (.slice A f.box.length c) (.slice B f.sign.length d))) f) := fun w' hb => ⟨_, _, rfl, HO.out, H1.out.below hb, H2.out.below hb⟩
  by_cases a0 : x = 0
  · subst a0
    by_cases a1 : f.sign.length = 67
    · have E : Hid (checkE f = 0) := by show _ = _; rw [CE.out]; simp [a1]
      have d1 : ((f.sign.length : Int) != 67) = false := by simp [a1]
      clear a1 CE
      go_enter Try.func11, Try.ntmps11
      go_wp2_with (first
        | ((with_reducible refine wpList_box_row (o := ⟨some 1, _, _, _, _, _⟩) rfl 28 (.tmp 0) rfl (frC f (.slice A f.box.length c) (.slice B f.sign.length d)) (by with_unfolding_all rfl) ?_); intro g1 w1 n1; have HR : Hid (FrAt w1 g1 f (.slice A f.box.length c) (.slice B f.sign.length d)) := n1.row; have c0 := HR.out.n; have c1 := HR.out.ack; have c2 := HR.out.box HO.out; have c3 := HR.out.sign HO.out; have HB := Lib.hid n1.below; clear n1)
        | (with_reducible refine wpList_load_row (o := ⟨some 4, _, _, _, _, _⟩) rfl 28 (.tmp 1) rfl g1 (by with_unfolding_all rfl) 28 (frC f (.slice A f.box.length c) (.slice B f.sign.length d)) (0, 0) _ (by with_unfolding_all exact HR.out) Try.underlying28 rfl (Try.sizeFr HO.out _ _) ?_))
      refine (HS.out _ _ (HV.out _ HB.out)).mono ?_
      intro e w2 hh
      obtain ⟨he, b2⟩ := hh
      subst he
      have B2 := Lib.hid (below_size HB.out b2)
      have k3 : w2.cell? ⟨g1, 99, none⟩ = some (.slice B f.sign.length d) := (b2.cell (World.block_lt_of_cell? w1 _ c3)).trans c3
      clear b2 HS c0 c1 c2 c3
      go_wp2
      go_ret
      exact ⟨by rw [E.out]; rfl, B2.out⟩
    · have E : Hid (checkE f = 40) := by show _ = _; rw [CE.out]; simp [a1]
      have d1 : ((f.sign.length : Int) != 67) = true := by simp; omega
      clear a1 CE
      go_enter Try.func11, Try.ntmps11
      go_wp2_with (first
        | ((with_reducible refine wpList_box_row (o := ⟨some 1, _, _, _, _, _⟩) rfl 28 (.tmp 0) rfl (frC f (.slice A f.box.length c) (.slice B f.sign.length d)) (by with_unfolding_all rfl) ?_); intro g1 w1 n1; have HR : Hid (FrAt w1 g1 f (.slice A f.box.length c) (.slice B f.sign.length d)) := n1.row; have c0 := HR.out.n; have c1 := HR.out.ack; have c2 := HR.out.box HO.out; have c3 := HR.out.sign HO.out; have HB := Lib.hid n1.below; clear n1)
        | (with_reducible refine wpList_load_row (o := ⟨some 4, _, _, _, _, _⟩) rfl 28 (.tmp 1) rfl g1 (by with_unfolding_all rfl) 28 (frC f (.slice A f.box.length c) (.slice B f.sign.length d)) (0, 0) _ (by with_unfolding_all exact HR.out) Try.underlying28 rfl (Try.sizeFr HO.out _ _) ?_))
      refine (HS.out _ _ (HV.out _ HB.out)).mono ?_
      intro e w2 hh
      obtain ⟨he, b2⟩ := hh
      subst he
      have B2 := Lib.hid (below_size HB.out b2)
      have k3 : w2.cell? ⟨g1, 99, none⟩ = some (.slice B f.sign.length d) := (b2.cell (World.block_lt_of_cell? w1 _ c3)).trans c3
      clear b2 HS c0 c1 c2 c3
      go_wp2
      go_ret
      exact ⟨by rw [E.out]; rfl, B2.out⟩
  · have E : Hid (checkE f = x) := by show _ = _; rw [CE.out]; exact if_pos a0
    have d1 : (x != 0) = true := by simpa using a0
    clear a0 CE
    go_enter Try.func11, Try.ntmps11
    go_wp2_with (first
      | ((with_reducible refine wpList_box_row (o := ⟨some 1, _, _, _, _, _⟩) rfl 28 (.tmp 0) rfl (frC f (.slice A f.box.length c) (.slice B f.sign.length d)) (by with_unfolding_all rfl) ?_); intro g1 w1 n1; have HR : Hid (FrAt w1 g1 f (.slice A f.box.length c) (.slice B f.sign.length d)) := n1.row; have c0 := HR.out.n; have c1 := HR.out.ack; have c2 := HR.out.box HO.out; have c3 := HR.out.sign HO.out; have HB := Lib.hid n1.below; clear n1)
      | (with_reducible refine wpList_load_row (o := ⟨some 4, _, _, _, _, _⟩) rfl 28 (.tmp 1) rfl g1 (by with_unfolding_all rfl) 28 (frC f (.slice A f.box.length c) (.slice B f.sign.length d)) (0, 0) _ (by with_unfolding_all exact HR.out) Try.underlying28 rfl (Try.sizeFr HO.out _ _) ?_))
    refine (HS.out _ _ (HV.out _ HB.out)).mono ?_
    intro e w2 hh
    obtain ⟨he, b2⟩ := hh
    subst he
    have B2 := Lib.hid (below_size HB.out b2)
    have k3 : w2.cell? ⟨g1, 99, none⟩ = some (.slice B f.sign.length d) := (b2.cell (World.block_lt_of_cell? w1 _ c3)).trans c3
    clear b2 HS c0 c1 c2 c3
    go_wp2
    go_ret
    exact ⟨by rw [E.out]; rfl, B2.out⟩
set_option maxHeartbeats 2000000 in
theorem refCheck_any (w : World) (v : Value) (f : Fr) (h : FrV w v f) :
    Calls Try.prog 16 #[v] w fun e w' => e = .returned (.int .i64 (checkE f)) ∧ Below w.heap.size w w' := by
  obtain ⟨bv, sv, rfl, ho, h1, h2⟩ := h
  have HO := Lib.hid ho
  have H1 := Lib.hid h1
  have H2 := Lib.hid h2
  have HS : Hid (∀ w v, FrV w v f → Calls Try.prog 28 #[v] w fun e w' => e = .returned (.int .i64 (shapeE f)) ∧ Below w.heap.size w w') := fun w v h => refShape_any w v f h
  obtain ⟨A, c, rfl, _, q2, _⟩ := h1
  obtain ⟨B, d, rfl, _, q3, _⟩ := h2
  unfold maxLen at q2 q3
  have l1 : f.sign.length ≤ 9223372036854775807 := by omega
  clear q2 q3 ho
  have CE : Hid (checkE f = if shapeE f ≠ 0 then shapeE f else if f.sign.length ≠ 67 then 40 else 0) := rfl
  obtain ⟨x, hx⟩ : ∃ x, x = shapeE f := ⟨_, rfl⟩
  rw [← hx] at HS CE
  clear hx
  have HV : Hid (∀ w', Below w.heap.size w w' → FrV w' (.agg (frC f (.slice A f.box.length c) (.slice B f.sign.length d))) f) := fun w' hb => ⟨_, _, rfl, HO.out, H1.out.below hb, H2.out.below hb⟩
  by_cases a0 : x = 0
  · subst a0
    by_cases a1 : f.sign.length = 67
    · have E : Hid (checkE f = 0) := by show _ = _; rw [CE.out]; simp [a1]
      have d1 : ((f.sign.length : Int) != 67) = false := by simp [a1]
      clear a1 CE
      go_enter Try.func16, Try.ntmps16
      go_wp2_with (first
        | ((with_reducible refine wpList_box_row (o := ⟨some 1, _, _, _, _, _⟩) rfl 28 (.tmp 0) rfl (frC f (.slice A f.box.length c) (.slice B f.sign.length d)) (by with_unfolding_all rfl) ?_); intro g1 w1 n1; have HR : Hid (FrAt w1 g1 f (.slice A f.box.length c) (.slice B f.sign.length d)) := n1.row; have c0 := HR.out.n; have c1 := HR.out.ack; have c2 := HR.out.box HO.out; have c3 := HR.out.sign HO.out; have HB := Lib.hid n1.below; clear n1)
        | (with_reducible refine wpList_load_row (o := ⟨some 4, _, _, _, _, _⟩) rfl 28 (.tmp 1) rfl g1 (by with_unfolding_all rfl) 28 (frC f (.slice A f.box.length c) (.slice B f.sign.length d)) (0, 0) _ (by with_unfolding_all exact HR.out) Try.underlying28 rfl (Try.sizeFr HO.out _ _) ?_))
      refine (HS.out _ _ (HV.out _ HB.out)).mono ?_
      intro e w2 hh
      obtain ⟨he, b2⟩ := hh
      subst he
      have B2 := Lib.hid (below_size HB.out b2)
      have k3 : w2.cell? ⟨g1, 99, none⟩ = some (.slice B f.sign.length d) := (b2.cell (World.block_lt_of_cell? w1 _ c3)).trans c3
      clear b2 HS c0 c1 c2 c3
      go_wp2
      go_ret
      exact ⟨by rw [E.out]; rfl, B2.out⟩
    · have E : Hid (checkE f = 40) := by show _ = _; rw [CE.out]; simp [a1]
      have d1 : ((f.sign.length : Int) != 67) = true := by simp; omega
      clear a1 CE
      go_enter Try.func16, Try.ntmps16
      go_wp2_with (first
        | ((with_reducible refine wpList_box_row (o := ⟨some 1, _, _, _, _, _⟩) rfl 28 (.tmp 0) rfl (frC f (.slice A f.box.length c) (.slice B f.sign.length d)) (by with_unfolding_all rfl) ?_); intro g1 w1 n1; have HR : Hid (FrAt w1 g1 f (.slice A f.box.length c) (.slice B f.sign.length d)) := n1.row; have c0 := HR.out.n; have c1 := HR.out.ack; have c2 := HR.out.box HO.out; have c3 := HR.out.sign HO.out; have HB := Lib.hid n1.below; clear n1)
        | (with_reducible refine wpList_load_row (o := ⟨some 4, _, _, _, _, _⟩) rfl 28 (.tmp 1) rfl g1 (by with_unfolding_all rfl) 28 (frC f (.slice A f.box.length c) (.slice B f.sign.length d)) (0, 0) _ (by with_unfolding_all exact HR.out) Try.underlying28 rfl (Try.sizeFr HO.out _ _) ?_))
      refine (HS.out _ _ (HV.out _ HB.out)).mono ?_
      intro e w2 hh
      obtain ⟨he, b2⟩ := hh
      subst he
      have B2 := Lib.hid (below_size HB.out b2)
      have k3 : w2.cell? ⟨g1, 99, none⟩ = some (.slice B f.sign.length d) := (b2.cell (World.block_lt_of_cell? w1 _ c3)).trans c3
      clear b2 HS c0 c1 c2 c3
      go_wp2
      go_ret
      exact ⟨by rw [E.out]; rfl, B2.out⟩
  · have E : Hid (checkE f = x) := by show _ = _; rw [CE.out]; exact if_pos a0
    have d1 : (x != 0) = true := by simpa using a0
    clear a0 CE
    go_enter Try.func16, Try.ntmps16
    go_wp2_with (first
      | ((with_reducible refine wpList_box_row (o := ⟨some 1, _, _, _, _, _⟩) rfl 28 (.tmp 0) rfl (frC f (.slice A f.box.length c) (.slice B f.sign.length d)) (by with_unfolding_all rfl) ?_); intro g1 w1 n1; have HR : Hid (FrAt w1 g1 f (.slice A f.box.length c) (.slice B f.sign.length d)) := n1.row; have c0 := HR.out.n; have c1 := HR.out.ack; have c2 := HR.out.box HO.out; have c3 := HR.out.sign HO.out; have HB := Lib.hid n1.below; clear n1)
      | (with_reducible refine wpList_load_row (o := ⟨some 4, _, _, _, _, _⟩) rfl 28 (.tmp 1) rfl g1 (by with_unfolding_all rfl) 28 (frC f (.slice A f.box.length c) (.slice B f.sign.length d)) (0, 0) _ (by with_unfolding_all exact HR.out) Try.underlying28 rfl (Try.sizeFr HO.out _ _) ?_))
    refine (HS.out _ _ (HV.out _ HB.out)).mono ?_
    intro e w2 hh
    obtain ⟨he, b2⟩ := hh
    subst he
    have B2 := Lib.hid (below_size HB.out b2)
    have k3 : w2.cell? ⟨g1, 99, none⟩ = some (.slice B f.sign.length d) := (b2.cell (World.block_lt_of_cell? w1 _ c3)).trans c3
    clear b2 HS c0 c1 c2 c3
    go_wp2
    go_ret
    exact ⟨by rw [E.out]; rfl, B2.out⟩
end Go.Proofs.Ytmhhjdiilmgmoaa
end
section
namespace Go.Proofs.Ytmhhjdiilmgmoaa
open Go.RowKit
set_option linter.unusedVariables false
set_option maxRecDepth 20000
theorem put_ne (s : St) (b : List UInt8) (h : s.e ≠ 0) : s.put b = s := by unfold St.put; rw [if_neg h]
theorem fail_stay (s : St) (x : Int) (h : s.e ≠ 0) : s.fail x = s := by unfold St.fail; rw [if_neg h]
theorem rest_short (l : List UInt8) (n : Nat) (h : l.length < n) : (St.rest ⟨l, 0⟩ n) = ⟨[], 3⟩ := (take_no ⟨l, 0⟩ n rfl h).2
theorem two_cnt (c r : List UInt8) (N : Nat) (m : Int) (hN : N < 65536) (hm : (N : Int) ≤ m) : St.cntS ⟨(lowB N 2).reverse ++ r, 0⟩ m = ⟨r, 0⟩ ∧ St.cnt ⟨(lowB N 2).reverse ++ r, 0⟩ m = N := by
  have hl : (2 : Nat) = (lowB N 2).reverse.length := (high_length N 2).symm
  obtain ⟨h1, h2⟩ := take_ok (lowB N 2).reverse r 2 hl
  have hn : St.num ⟨(lowB N 2).reverse ++ r, 0⟩ 2 = N := by
    unfold St.num
    rw [if_pos (by decide), show ((2 : Int)).toNat = 2 from rfl, h1, List.take_of_length_le (by rw [high_length]; omega), of_high N 2 (by omega)]
  have hs : St.numS ⟨(lowB N 2).reverse ++ r, 0⟩ 2 = ⟨r, 0⟩ := by
    unfold St.numS
    rw [if_pos (by decide), show ((2 : Int)).toNat = 2 from rfl, h2]
  unfold St.cntS St.cnt
  rw [hn, hs, if_neg (by omega), if_neg (by omega)]
  exact ⟨rfl, rfl⟩
theorem short_cnt (l : List UInt8) (m : Int) (h : l.length < 2) : St.cntS ⟨l, 0⟩ m = ⟨[], 3⟩ ∨ ∃ s, St.cntS ⟨l, 0⟩ m = s ∧ s.e = 3 := by
  right
  refine ⟨_, rfl, ?_⟩
  have hs : St.numS ⟨l, 0⟩ 2 = ⟨[], 3⟩ := by
    unfold St.numS
    rw [if_pos (by decide), show ((2 : Int)).toNat = 2 from rfl, rest_short l 2 h]
  unfold St.cntS
  rw [hs]
  split
  · rw [fail_stay _ _ (by decide)]
  · rfl
theorem take_high (N n : Nat) (p : List UInt8) : n < 2 → (((lowB N 2).reverse ++ p).take n).length < 2 := by
  intro h
  rw [List.length_take]
  omega
theorem take_past (N n : Nat) (p : List UInt8) (h : 2 ≤ n) : ((lowB N 2).reverse ++ p).take n = (lowB N 2).reverse ++ p.take (n - 2) := by
  rw [List.take_append, high_length, List.take_of_length_le (by rw [high_length]; exact h)]
theorem numS_stay (s : St) (z : Int) (h : s.e ≠ 0) : s.numS z = s := by
  unfold St.numS
  split
  · exact (take_err s _ h).2
  · exact fail_stay s 51 h
theorem cntS_stay (s : St) (m : Int) (h : s.e ≠ 0) : s.cntS m = s := by
  unfold St.cntS
  rw [numS_stay s 2 h]
  split
  · exact fail_stay s 2 h
  · rfl
end Go.Proofs.Ytmhhjdiilmgmoaa
end
section
namespace Go.Proofs.Ytmhhjdiilmgmoaa
open Go.RowKit
set_option linter.unusedVariables false
set_option maxRecDepth 20000

/-- What writeCore leaves in its Out. -/
def coreS (f : Fr) : St := (((((St.mk [] 0).wNum 1 1).wNum f.n 4).wNum f.ack 4).wKey [f.eph, f.epoch, f.next]).wByt f.box
/-- The bytes that are signed; and all. -/
def coreB (f : Fr) : List UInt8 := (lowB 1 1).reverse ++ ((lowB f.n 4).reverse ++ ((lowB f.ack 4).reverse ++ (((lowB 3 2).reverse ++ (f.eph ++ (f.epoch ++ f.next))) ++ ((lowB f.box.length 2).reverse ++ f.box))))
def encB (f : Fr) : List UInt8 := coreB f ++ ((lowB f.sign.length 2).reverse ++ f.sign.flatten)
theorem shape_zero {f : Fr} (h : shapeE f = 0) : 1 ≤ f.n ∧ f.n ≤ 1000 ∧ f.ack ≤ 1000 ∧ 64 ≤ f.box.length ∧ f.box.length ≤ 264 := by
  unfold shapeE at h
  split at h
  · cases h
  · split at h
    · cases h
    · split at h
      · cases h
      · omega
theorem check_zero {f : Fr} (h : checkE f = 0) : shapeE f = 0 ∧ f.sign.length = 67 := by
  unfold checkE at h
  split at h
  · contradiction
  · split at h
    · cases h
    · omega
theorem wNum_ok (t : St) (h : t.e = 0) (n z : Nat) (hz : isNum z = true) (hn : n < 256 ^ z) : t.wNum n z = ⟨t.l ++ (lowB n z).reverse, 0⟩ := by
  unfold St.wNum
  rw [if_pos ⟨hz, by simpa using hn⟩, put_ok t h]
  rfl
theorem wKey_ok (t : St) (h : t.e = 0) (ls : List (List UInt8)) (hl : ls.length ≤ 100) : t.wKey ls = ⟨t.l ++ ((lowB ls.length 2).reverse ++ ls.flatten), 0⟩ := by
  unfold St.wKey
  rw [if_neg (by omega), St.put_put, put_ok t h]
theorem wByt_ok (t : St) (h : t.e = 0) (b : List UInt8) (hl : b.length ≤ 4000) : t.wByt b = ⟨t.l ++ ((lowB b.length 2).reverse ++ b), 0⟩ := by
  unfold St.wByt
  rw [if_neg (by omega), St.put_put, put_ok t h]
theorem core_ok {f : Fr} (h : shapeE f = 0) : coreS f = ⟨coreB f, 0⟩ := by
  obtain ⟨h1, h2, h3, h4, h5⟩ := shape_zero h
  unfold coreS
  rw [show ((St.mk [] 0).wNum 1 1) = ⟨(lowB 1 1).reverse, 0⟩ from wNum_ok _ rfl 1 1 rfl (by decide)]
  rw [show (St.wNum ⟨(lowB 1 1).reverse, 0⟩ f.n 4) = _ from wNum_ok _ rfl f.n 4 rfl (by omega)]
  rw [show (St.wNum _ f.ack 4) = _ from wNum_ok _ rfl f.ack 4 rfl (by omega)]
  rw [wKey_ok _ rfl _ (by simp), wByt_ok _ rfl _ (by omega)]
  simp [coreB, List.append_assoc]
theorem coreB_length {f : Fr} (ho : f.Ok) : (coreB f).length = 109 + f.box.length := by
  simp [coreB, lowB_length, ho.eph, ho.epoch, ho.next]
  omega
theorem enc_ok {f : Fr} (h : checkE f = 0) : (coreS f).wKey f.sign = ⟨encB f, 0⟩ := by
  obtain ⟨h1, h2⟩ := check_zero h
  rw [core_ok h1, wKey_ok _ rfl _ (by omega)]
  rfl
end Go.Proofs.Ytmhhjdiilmgmoaa
end
section
namespace Go.Proofs.Ytmhhjdiilmgmoaa
open Go.RowKit
set_option linter.unusedVariables false
set_option maxRecDepth 20000

/-- An Out of the call's own, beside a row of it. -/
structure WIn (w wk : World) (g : Nat) (t : TypeId) (cs : Array Value) (o : Nat) (v : Value) (s : St) : Prop where
  out : OutAt wk o v s
  row : RowAt wk g t cs
  below : Below w.heap.size w wk
  ho : w.heap.size ≤ o
  hv : ∀ k, v.ownBlock = some k → w.heap.size ≤ k
  hne : g ≠ o
theorem WIn.step {w wk wl : World} {g : Nat} {t : TypeId} {cs : Array Value} {o : Nat} {v v' : Value} {s s' : St} (h : WIn w wk g t cs o v s) (ht : t ≠ 5) (h1 : OutAt wl o v' s') (h2 : OutStep wk wl o v v') : WIn w wl g t cs o v' s' :=
  have hb := h2.base h.below h.below.size h.ho h.hv
  ⟨h1, h2.keeps h.row h.hne (h.out.2.other h.row ht).symm, hb.1, h.ho, hb.2, h.hne⟩
theorem WIn.kept {w wk wl : World} {g : Nat} {t : TypeId} {cs : Array Value} {o : Nat} {v : Value} {s : St} (h : WIn w wk g t cs o v s) (hb : Below wk.heap.size wk wl) : WIn w wl g t cs o v s :=
  ⟨h.out.kept hb, h.row.kept hb, below_size h.below hb, h.ho, h.hv, h.hne⟩
/-- What was there ahead of the call lies apart. -/
theorem WIn.off {w wk : World} {g : Nat} {t : TypeId} {cs : Array Value} {o : Nat} {v : Value} {s : St} (h : WIn w wk g t cs o v s) {u : Value} (hu : ∀ k, u.ownBlock = some k → k < w.heap.size) : Off o v u := fun k hk => by
  have h1 := hu k hk
  have h2 := h.ho
  refine ⟨by omega, fun e => ?_⟩
  have h3 := h.hv k e
  omega
theorem wNum_len (s : St) (n : Nat) (z : Int) (hz : z.toNat ≤ 8) : (s.wNum n z).l.length ≤ s.l.length + 8 := by
  unfold St.wNum
  split
  · refine Nat.le_trans (St.put_length s _) ?_
    rw [List.length_reverse, lowB_length]; omega
  · unfold St.fail; split <;> simp
theorem wKey_len (s : St) (ls : List (List UInt8)) (h : ∀ l ∈ ls, l.length = 32) : (s.wKey ls).l.length ≤ s.l.length + 3202 := by
  unfold St.wKey
  split
  · unfold St.fail; split <;> simp
  · refine Nat.le_trans (St.put_length _ _) ?_
    have := St.put_length s (lowB ls.length 2).reverse
    rw [List.length_reverse, lowB_length] at this
    rw [flat_len32 ls h]; omega
theorem wByt_len (s : St) (b : List UInt8) : (s.wByt b).l.length ≤ s.l.length + 4002 := by
  unfold St.wByt
  split
  · unfold St.fail; split <;> simp
  · refine Nat.le_trans (St.put_length _ _) ?_
    have := St.put_length s (lowB b.length 2).reverse
    rw [List.length_reverse, lowB_length] at this
    omega
/-- A slice of keys is built. -/
theorem wpList_buildKeys {P : Program} {w : World} {ops : Array Oper} {rest : List Oper} {o : Oper} {a : Act} {Q : Exit → Act → World → Prop} (hgd : o.guard = none) (ty e : TypeId) (len : Nat) (parts : Array (Nat × Operand)) (ho : o.op = .buildSlice ty len parts) (ls : List (List UInt8)) (hl : ∀ l ∈ ls, l.length = 32) (hlen : ls.length = len) (hpos : 0 < len) (hsm : len * 32 ≤ 2 ^ 24)
    (hp : (parts.map fun (i, x) => (i, a.eval x)).toList = ((ls.map fun l => Value.agg (keyC l)).zipIdx 0).map fun x => (x.2, x.1))
    (hu : P.underlying ty = some (.slice e)) (hsz : (P.info? e).map (·.size) = some 32) (z : Array Value) (hz : (P.info? e).map (·.zero) = some (some (.agg z)))
    (h : ∀ g w', NewRow w g e (keyC ls.flatten) w' → wpList P ops Q rest (a.put o.dst (.slice (some ⟨g, 0, none⟩) len len)) w') : wpList P ops Q (o :: rest) a w := by
  obtain ⟨ie, hie, hs⟩ := Option.map_eq_some_iff.1 hsz
  obtain ⟨ie2, hie2, hz2⟩ := Option.map_eq_some_iff.1 hz
  obtain rfl : ie = ie2 := by rw [hie] at hie2; exact Option.some.inj hie2
  refine wpList_buildSlice hgd ty e len parts ho (keyC ls.flatten) ie (.agg z) hu hie hz2 (by rw [hs]; omega) (by rw [hs]; omega) ?_ (h _ _ (NewRow.mk_ w e _))
  rw [hp, hs, ← keys_flat ls]
  refine Great.fill_whole (by omega) _ _ (fun v hv => ?_) (by simp [hlen])
  obtain ⟨l, hm, rfl⟩ := List.mem_map.1 hv
  simp [Value.cells, keyC_size, hl l hm]
theorem Kl.of_row {w : World} {g : Nat} {t : TypeId} {ls : List (List UInt8)} (h : RowAt w g t (keyC ls.flatten)) (hl : ∀ l ∈ ls, l.length = 32) (hn : ls.length ≤ 1000) : Kl w (.slice (some ⟨g, 0, none⟩) ls.length ls.length) ls := by
  refine ⟨_, _, rfl, Nat.le_refl _, by unfold maxLen; omega, hl, fun _ => ⟨g, 0, rfl, fun k l hk j u hj => ?_⟩⟩
  have h1 := rangeAt_row (k := k * 32) (n := (cellsB l).length) h
  rw [keys_part ls hl k l hk] at h1
  rw [Nat.zero_add]
  exact h1 j u hj

set_option maxHeartbeats 4000000 in
theorem writeCore_any (w : World) (v : Value) (f : Fr) (h : FrV w v f) :
    Calls Try.prog 26 #[v] w fun e w' => ∃ o x, e = .returned (.pointer (some ⟨o, 0, none⟩)) ∧ OutAt w' o x (coreS f) ∧ w.heap.size ≤ o ∧ (∀ k, x.ownBlock = some k → w.heap.size ≤ k) ∧ Below w.heap.size w w' := by
  obtain ⟨bv, sv, rfl, ho, h1, h2⟩ := h
  have HO := Lib.hid ho
  have H1 := Lib.hid h1
  obtain ⟨A, c, rfl, _, q2, _⟩ := h1
  obtain ⟨B, d, rfl, _, q3, _⟩ := h2
  clear q2 q3
  obtain ⟨s1, E1⟩ : ∃ s1, s1 = (St.mk [] 0).wNum 1 1 := ⟨_, rfl⟩
  obtain ⟨s2, E2⟩ : ∃ s2, s2 = s1.wNum f.n 4 := ⟨_, rfl⟩
  obtain ⟨s3, E3⟩ : ∃ s3, s3 = s2.wNum f.ack 4 := ⟨_, rfl⟩
  obtain ⟨s4, E4⟩ : ∃ s4, s4 = s3.wKey [f.eph, f.epoch, f.next] := ⟨_, rfl⟩
  have h32 : ∀ l ∈ [f.eph, f.epoch, f.next], l.length = 32 := by
    intro l hl
    simp only [List.mem_cons, List.not_mem_nil, or_false] at hl
    rcases hl with rfl | rfl | rfl
    · exact ho.eph
    · exact ho.epoch
    · exact ho.next
  have k1 : s1.l.length ≤ 8 := by rw [E1]; exact Nat.le_trans (wNum_len _ 1 1 (by decide)) (by simp)
  have k2 : s2.l.length ≤ 16 := by rw [E2]; exact Nat.le_trans (wNum_len _ _ 4 (by decide)) (by omega)
  have k3 : s3.l.length ≤ 24 := by rw [E3]; exact Nat.le_trans (wNum_len _ _ 4 (by decide)) (by omega)
  have k4 : s4.l.length ≤ 3226 := by rw [E4]; exact Nat.le_trans (wKey_len _ _ h32) (by omega)
  have N1 : Hid (∀ w o v, OutAt w o v ⟨[], 0⟩ → Calls Try.prog 44 #[.pointer (some ⟨o, 0, none⟩), .int .u64 1, .int .i64 1] w fun e w' => e = .returned (.tuple #[]) ∧ ∃ v', OutAt w' o v' s1 ∧ OutStep w w' o v v') := fun w o v h => by rw [E1]; exact outNumber_any w o v _ 1 1 (by omega) h (by simp)
  have N2 : Hid (∀ w o v, OutAt w o v s1 → Calls Try.prog 44 #[.pointer (some ⟨o, 0, none⟩), .int .u64 (f.n : Int), .int .i64 4] w fun e w' => e = .returned (.tuple #[]) ∧ ∃ v', OutAt w' o v' s2 ∧ OutStep w w' o v v') := fun w o v h => by rw [E2]; exact outNumber_any w o v _ f.n 4 (by have := ho.n; omega) h (by omega)
  have N3 : Hid (∀ w o v, OutAt w o v s2 → Calls Try.prog 44 #[.pointer (some ⟨o, 0, none⟩), .int .u64 (f.ack : Int), .int .i64 4] w fun e w' => e = .returned (.tuple #[]) ∧ ∃ v', OutAt w' o v' s3 ∧ OutStep w w' o v v') := fun w o v h => by rw [E3]; exact outNumber_any w o v _ f.ack 4 (by have := ho.ack; omega) h (by omega)
  have N4 : Hid (∀ w o v g, OutAt w o v s3 → RowAt w g 24 (keyC [f.eph, f.epoch, f.next].flatten) → Off o v (.slice (some ⟨g, 0, none⟩) 3 3) → Calls Try.prog 32 #[.pointer (some ⟨o, 0, none⟩), .slice (some ⟨g, 0, none⟩) 3 3] w fun e w' => e = .returned (.tuple #[]) ∧ ∃ v', OutAt w' o v' s4 ∧ OutStep w w' o v v') := fun w o v g h hr hof => by rw [E4]; exact outKeys_any w o v _ _ [f.eph, f.epoch, f.next] h (Kl.of_row hr h32 (by simp)) (fun _ => hof) (by omega)
  have N5 : Hid (∀ w o v u, OutAt w o v s4 → Bs w u f.box → (0 < f.box.length → Off o v u) → Calls Try.prog 45 #[.pointer (some ⟨o, 0, none⟩), u] w fun e w' => e = .returned (.tuple #[]) ∧ ∃ v', OutAt w' o v' (coreS f) ∧ OutStep w w' o v v') := fun w o v u h hu hof => by
    have := outBytes_any w o v _ u f.box h hu hof (by omega)
    rwa [show s4.wByt f.box = coreS f by rw [E4, E3, E2, E1]; rfl] at this
  have hn := ho.n
  have ha := ho.ack
  have H32 := Lib.hid h32
  clear k1 k2 k3 k4 h32 E1 E2 E3 E4 ho
  go_enter Try.func26, Try.ntmps26
  go_wp2_with (first
    | ((with_reducible refine wpList_box_row (o := ⟨some 1, _, _, _, _, _⟩) rfl 28 (.tmp 0) rfl (frC f (.slice A f.box.length c) (.slice B f.sign.length d)) (by with_unfolding_all rfl) ?_); intro g1 w1 n1; have M1 := Lib.hid n1)
    | ((with_reducible refine wpList_box_row (o := ⟨some 5, _, _, _, _, _⟩) rfl 73 (.tmp 4) rfl #[.slice none 0 0, .int .i64 0] (by with_unfolding_all rfl) ?_); intro g5 w2 n2; have M2 := Lib.hid n2; clear n1 n2))
  have I0 : Hid (WIn w w2 g1 28 (frC f (.slice A f.box.length c) (.slice B f.sign.length d)) g5 (.slice none 0 0) ⟨[], 0⟩) := by
    have n1 := M1.out
    have n2 := M2.out
    have a1 := n1.spot
    have a2 := n1.size
    have a3 := n2.spot
    exact ⟨⟨n2.row, OwnB.nil _ _ _⟩, n1.row.kept n2.below, below_size n1.below n2.below, by omega, (fun k h => by cases h), by omega⟩
  clear M1 M2
  refine (N1.out _ _ _ I0.out.out).mono ?_
  intro e w3 hh
  obtain ⟨he, v3, h3, s3'⟩ := hh
  subst he
  have I1 := Lib.hid (I0.out.step (by decide) h3 s3')
  have c0 := FrAt.n (f := f) I1.out.row
  clear I0 h3 s3'
  go_wp2_with fail
  refine (N2.out _ _ _ I1.out.out).mono ?_
  intro e w4 hh
  obtain ⟨he, v4, h3, s3'⟩ := hh
  subst he
  have I2 := Lib.hid (I1.out.step (by decide) h3 s3')
  have c1 := FrAt.ack (f := f) I2.out.row
  clear I1 h3 s3' c0
  go_wp2_with fail
  refine (N3.out _ _ _ I2.out.out).mono ?_
  intro e w5 hh
  obtain ⟨he, v5, h3, s3'⟩ := hh
  subst he
  have I3 := Lib.hid (I2.out.step (by decide) h3 s3')
  clear I2 h3 s3' c1
  go_wp2_with (first
    | (with_reducible refine wpList_loadK (o := ⟨some 20, _, _, _, _, _⟩) rfl 24 (.tmp 19) rfl g1 2 (by with_unfolding_all rfl) f.eph _ (by with_unfolding_all exact FrAt.eph (f := f) I3.out.row) Try.underlying24 rfl (Try.sizeKeyM _ HO.out.eph) ?_)
    | (with_reducible refine wpList_loadK (o := ⟨some 22, _, _, _, _, _⟩) rfl 24 (.tmp 21) rfl g1 34 (by with_unfolding_all rfl) f.epoch _ (by with_unfolding_all exact FrAt.epoch (f := f) I3.out.row HO.out) Try.underlying24 rfl (Try.sizeKeyM _ HO.out.epoch) ?_)
    | (with_reducible refine wpList_loadK (o := ⟨some 24, _, _, _, _, _⟩) rfl 24 (.tmp 23) rfl g1 66 (by with_unfolding_all rfl) f.next _ (by with_unfolding_all exact FrAt.next (f := f) I3.out.row HO.out) Try.underlying24 rfl (Try.sizeKeyM _ HO.out.next) ?_)
    | ((with_reducible refine wpList_buildKeys (o := ⟨some 25, _, _, _, _, _⟩) rfl 26 24 3 _ rfl [f.eph, f.epoch, f.next] H32.out (by with_unfolding_all rfl) (by decide) (by decide) (by with_unfolding_all rfl) Try.underlying26 Try.sizeK (keyC zeroKey) Try.zeroK ?_); intro g6 w6 n6; have M6 := Lib.hid n6; clear n6))
  refine (N4.out _ _ _ _ (I3.out.out.kept M6.out.below) M6.out.row ?_).mono ?_
  · exact Off.fresh I3.out.out fun k hk => by
      have h1 := M6.out.spot
      have h2 : g6 = k := by simpa [Value.ownBlock] using hk
      omega
  intro e w7 hh
  obtain ⟨he, v7, h3, s3'⟩ := hh
  subst he
  have I4 := Lib.hid ((I3.out.kept M6.out.below).step (by decide) h3 s3')
  have c2 := FrAt.box (f := f) I4.out.row HO.out
  clear I3 h3 s3' M6
  go_wp2_with fail
  refine (N5.out _ _ _ _ I4.out.out (H1.out.below I4.out.below) fun hl => I4.out.off (H1.out.low hl)).mono ?_
  intro e w8 hh
  obtain ⟨he, v8, h3, s3'⟩ := hh
  subst he
  have I5 := Lib.hid (I4.out.step (by decide) h3 s3')
  clear I4 h3 s3' c2
  go_wp2
  go_ret
  exact ⟨_, _, rfl, I5.out.out, I5.out.ho, I5.out.hv, I5.out.below⟩
end Go.Proofs.Ytmhhjdiilmgmoaa
end
