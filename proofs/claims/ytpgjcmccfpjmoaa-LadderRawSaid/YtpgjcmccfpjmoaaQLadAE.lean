/-
  Texts that belong together, merged: K, Words, C, D, FieldJ, FieldK, L, KeyEq, FieldL. Conditions: as each theorem names them.
-/
import Derived.Test.YtpgjcmccfpjmoaaQLadAD
import Derived.Test.YtpgjcmccfpjmoaaQLadAA
import Derived.StillTailTactics
import Derived.Stop.BytesEq
section
namespace Go.Proofs.Ytpgjcmccfpjmoaa
open Go.RowKit
set_option linter.unusedVariables false
set_option maxRecDepth 20000

/-- A key, as a value; and the one of zeros. -/
def keyC (l : List UInt8) : Array Value := (cellsB l).toArray
def keyV (l : List UInt8) : Value := .agg (keyC l)
def zeroKey : List UInt8 := List.replicate 32 0
theorem zeroKey_length : zeroKey.length = 32 := by simp [zeroKey]
theorem keyC_size (l : List UInt8) : (keyC l).size = l.length := by simp [keyC, cellsB_length]
theorem keyC_same {a b : List UInt8} (ha : a.length = 32) (hb : b.length = 32) : (keyC a).size = (keyC b).size := by rw [keyC_size, keyC_size, ha, hb]
theorem keyC_one (l : List UInt8) : ∀ u ∈ (keyC l).toList, u.oneCell' = true := by
  intro u hu
  exact cellsB_one l u (by simpa [keyC] using hu)
theorem Try.zeroK : (Try.prog.info? 23).map (·.zero) = some (some (.agg (keyC zeroKey))) := by kernel_rfl
theorem Try.sizeK : (Try.prog.info? 23).map (·.size) = some 32 := by kernel_rfl
theorem Try.sizeKey (l : List UInt8) (h : l.length = 32) : (Try.prog.info? 23).map (·.size) = some (keyC l).size := by rw [keyC_size, h]; exact Try.sizeK

theorem Try.sizeB : (Try.prog.info? 5).map (·.size) = some 1 := by kernel_rfl
theorem cellsB_min {l : List UInt8} (h : l.length = 32) : (cellsB l).length = Nat.min l.length 32 := by rw [cellsB_length, h]; rfl
theorem copy_fit {l : List UInt8} (h : l.length = 32) : 0 + (cellsB l).length ≤ (cellsB zeroKey).length := by rw [cellsB_length, cellsB_length, h, zeroKey_length]; omega
theorem copied {w : World} {g : Nat} {t : TypeId} {l : List UInt8} (h : l.length = 32) (hr : w.heap[g]? = some (.cells (splice (cellsB zeroKey) 0 (cellsB l)).toArray t (0, 0))) : RowAt w g t (keyC l) := by
  have e : splice (cellsB zeroKey) 0 (cellsB l) = cellsB l := by
    unfold splice
    rw [List.drop_eq_nil_of_le (by rw [cellsB_length, cellsB_length, h, zeroKey_length]; omega)]
    simp
  rw [e] at hr
  exact hr
theorem copy_src {w w1 w2 : World} {A : Option Addr} {n c : Nat} {l : List UInt8} {g : Nat} (h : Bs w (.slice A n c) l) (h1 : Below w.heap.size w w1) (h2 : Below w1.heap.size w1 w2) :
    0 < (cellsB l).length → some (⟨g, 0, none⟩ : Addr) = some ⟨g, 0, none⟩ ∧ ∃ ad, A = some ad ∧ ∀ j v, (cellsB l)[j]? = some v → w2.cell? (ad.add j) = some v := by
  intro hp
  refine ⟨rfl, ?_⟩
  obtain ⟨A', c', hv, _, _, h3⟩ := (h.below h1).below h2
  injection hv with e1 e2 e3
  subst e1
  rw [cellsB_length] at hp
  obtain ⟨b, off, rfl, hc⟩ := h3 hp
  refine ⟨_, rfl, fun j u hu => ?_⟩
  have hj : j < l.length := by
    have := (List.getElem?_eq_some_iff.1 hu).1
    rwa [cellsB_length] at this
  have hadd : (⟨b, off, none⟩ : Addr).add j = ⟨b, off + j, none⟩ := by unfold Addr.add; split <;> simp_all
  rw [hadd, hc j hj, ← hu, cellsB_get l j hj]

theorem below_new {w w1 w2 w3 : World} {g1 g2 : Nat} {t1 t2 t3 : TypeId} {c1 c2 c3 : Array Value} (n1 : NewRow w g1 t1 c1 w1) (n2 : NewRow w1 g2 t2 c2 w2) (p3 : PutRow w2 g1 t3 c3 w3) : Below w.heap.size w w3 :=
  p3.below (below_size n1.below n2.below) (by have := n1.below.size; have := n2.below.size; omega) (by rw [n1.spot]; exact Nat.le_refl _)




end Go.Proofs.Ytpgjcmccfpjmoaa
end
section
namespace Go.Proofs.Ytpgjcmccfpjmoaa
open Go.RowKit
set_option linter.unusedVariables false

/-- Words, as cells; an array of them. -/
def cellsW (l : List UInt32) : List Value := l.map fun x => Value.int .u32 (x.toNat : Int)
def wordsC (l : List UInt32) : Array Value := (cellsW l).toArray
theorem cellsW_length (l : List UInt32) : (cellsW l).length = l.length := by simp [cellsW]
theorem wordsC_size (l : List UInt32) : (wordsC l).size = l.length := by simp [wordsC, cellsW]
theorem cellsW_one (l : List UInt32) : ∀ u ∈ cellsW l, u.oneCell' = true := by
  intro u hu
  obtain ⟨b, _, rfl⟩ := List.mem_map.1 hu
  rfl
theorem wordsC_one (l : List UInt32) : ∀ u ∈ (wordsC l).toList, u.oneCell' = true := by
  intro u hu
  exact cellsW_one l u (by simpa [wordsC] using hu)
theorem wordsC_get (l : List UInt32) (j : Nat) (h : j < l.length) : (wordsC l)[j]? = some (.int .u32 ((l.getD j 0).toNat : Int)) := by
  simp [wordsC, cellsW, h]
theorem wordsC_cell {w : World} {g : Nat} {t : TypeId} {l : List UInt32} (h : RowAt w g t (wordsC l)) (j : Nat) (hj : j < l.length) : w.cell? ⟨g, j, none⟩ = some (.int .u32 ((l.getD j 0).toNat : Int)) := by
  rw [h.cell, wordsC_get l j hj]
theorem wordsC_put (l : List UInt32) (j : Nat) (x : UInt32) : (wordsC l).setIfInBounds j (.int .u32 (x.toNat : Int)) = wordsC (l.set j x) := by
  apply Array.toList_inj.1
  simp [wordsC, cellsW, List.map_set]
theorem bytesC_cell {w : World} {g : Nat} {t : TypeId} {l : List UInt8} (h : RowAt w g t (keyC l)) (j : Nat) (hj : j < l.length) : w.cell? ⟨g, j, none⟩ = some (.int .u8 (l[j].toNat : Int)) := by
  rw [h.cell]
  have := cellsB_get l j hj
  simpa [keyC] using this

/-- A part of an array of bytes, as a slice. -/
theorem Bs.part {w : World} {g : Nat} {t : TypeId} {l : List UInt8} (h : RowAt w g t (keyC l)) (off n c : Nat) (hn : off + n ≤ l.length) (hc : n ≤ c) (hm : c ≤ maxLen) : Bs w (.slice (some ⟨g, off, none⟩) n c) ((l.drop off).take n) := by
  have hl : ((l.drop off).take n).length = n := by simp; omega
  refine ⟨_, c, by rw [hl], by rw [hl]; exact hc, hm, fun _ => ⟨g, off, rfl, fun j hj => ?_⟩⟩
  rw [hl] at hj
  rw [bytesC_cell h (off + j) (by omega)]
  simp

/-- 'x[l:h]' of an array that lies in a row. -/
theorem run_sliceArr {P : Program} (w : World) (t e : TypeId) (n : Nat) (ht : P.underlying t = some (.array n e)) (hs : (P.info? e).map (·.size) = some 1) (g off l h : Nat) (i j : Int) (hi : i = (l : Int)) (hj : j = (h : Int)) (h1 : l ≤ h) (h2 : h ≤ n) (h3 : l < n) :
    (Instr.sliceAt t (.pointer (some ⟨g, off, none⟩)) (some (.int .i64 i)) (some (.int .i64 j)) none).run P w = .ok (.slice (some ⟨g, off + l, none⟩) (h - l) (n - l)) w := by
  subst hi hj
  obtain ⟨f, hf, hz⟩ := Option.map_eq_some_iff.1 hs
  have hlen : P.arrayLen t = n := by simp [Program.arrayLen, ht]
  have hel : P.elem t = e := by simp [Program.elem, ht]
  rw [run_sliceAt_array_lh w t ⟨g, off, none⟩ (by rw [hlen, hel]; exact ht) .i64 .i64 _ _ (by omega) (by omega) (by rw [hlen]; omega)]
  have hadd : (⟨g, off, none⟩ : Addr).add l = ⟨g, off + l, none⟩ := by unfold Addr.add; split <;> simp_all
  simp [hel, hlen, sizeOf, typeInfo, hf, hz, slicedAt, show ¬ n = l by omega, hadd]
/-- 'x[l:]'. -/
theorem run_sliceArrL {P : Program} (w : World) (t e : TypeId) (n : Nat) (ht : P.underlying t = some (.array n e)) (hs : (P.info? e).map (·.size) = some 1) (g off l : Nat) (i : Int) (hi : i = (l : Int)) (h3 : l < n) :
    (Instr.sliceAt t (.pointer (some ⟨g, off, none⟩)) (some (.int .i64 i)) none none).run P w = .ok (.slice (some ⟨g, off + l, none⟩) (n - l) (n - l)) w := by
  subst hi
  obtain ⟨f, hf, hz⟩ := Option.map_eq_some_iff.1 hs
  have hlen : P.arrayLen t = n := by simp [Program.arrayLen, ht]
  have hel : P.elem t = e := by simp [Program.elem, ht]
  rw [run_sliceAt_array_l w t ⟨g, off, none⟩ (by rw [hlen, hel]; exact ht) .i64 _ (by omega) (by rw [hlen]; omega)]
  have hadd : (⟨g, off, none⟩ : Addr).add l = ⟨g, off + l, none⟩ := by unfold Addr.add; split <;> simp_all
  simp [hel, hlen, sizeOf, typeInfo, hf, hz, slicedAt, show ¬ n = l by omega, hadd]

/-- A row of the call's own that is full is a row as a whole. -/
theorem own_row {w : World} {base : Nat} {e : TypeId} {g n : Nat} {l : List UInt8} (h : w.ownsRow base e 1 (.slice (some ⟨g, 0, none⟩) n n) n (cellsB l)) : RowAt w g e (keyC l) := by
  rcases h.2 with ⟨h1, _⟩ | ⟨g', cap, cur, hv, _, hg, _, _, hs, ht⟩
  · cases h1
  · injection hv with e1 e2 e3
    injection e1 with e1
    injection e1 with e1
    subst e1 e3
    have : cur = keyC l := by
      apply Array.toList_inj.1
      rw [List.take_of_length_le (by simp [hs])] at ht
      rw [ht]
      rfl
    rw [this] at hg
    exact hg
theorem row_bs {w : World} {g : Nat} {t : TypeId} {l : List UInt8} (h : RowAt w g t (keyC l)) (hm : l.length ≤ maxLen) : Bs w (.slice (some ⟨g, 0, none⟩) l.length l.length) l := by
  have := Bs.part h 0 l.length l.length (by omega) (Nat.le_refl _) hm
  simpa using this
theorem bytesC_put (l : List UInt8) (j : Nat) (b : UInt8) : (keyC l).setIfInBounds j (.int .u8 (b.toNat : Int)) = keyC (l.set j b) := by
  apply Array.toList_inj.1
  simp [keyC, cellsB, List.map_set]
theorem splice_bytes (l m : List UInt8) (off : Nat) : splice (cellsB l) off (cellsB m) = cellsB (l.take off ++ m ++ l.drop (off + m.length)) := by
  unfold splice
  simp [cellsB]

theorem copy_from {w : World} {A : Option Addr} {n c : Nat} {l : List UInt8} {d : Option Addr} (h : Bs w (.slice A n c) l) :
    0 < (cellsB l).length → d = d ∧ ∃ ad, A = some ad ∧ ∀ j v, (cellsB l)[j]? = some v → w.cell? (ad.add j) = some v := by
  intro hp
  refine ⟨rfl, ?_⟩
  obtain ⟨A', c', hv, _, _, h3⟩ := h
  injection hv with e1 e2 e3
  subst e1
  rw [cellsB_length] at hp
  obtain ⟨b, off, rfl, hc⟩ := h3 hp
  refine ⟨_, rfl, fun j u hu => ?_⟩
  have hj : j < l.length := by
    have := (List.getElem?_eq_some_iff.1 hu).1
    rwa [cellsB_length] at this
  have hadd : (⟨b, off, none⟩ : Addr).add j = ⟨b, off + j, none⟩ := by unfold Addr.add; split <;> simp_all
  rw [hadd, hc j hj, ← hu, cellsB_get l j hj]

/-- 'x[i]' of an array by value. -/
theorem run_index_arr {P : Program} (w : World) (t e : TypeId) (n : Nat) (cs : Array Value) (kd ek : IntKind) (i : Nat) (ht : P.underlying t = some (.array n e)) (he : P.underlying e = some (.int ek)) (hs : (P.info? e).map (·.size) = some 1) (hi : i < n) (v : Value) (hv : cs[i]? = some v) :
    (Instr.index t (.agg cs) (.int kd (i : Int))).run P w = .ok v w := by
  obtain ⟨f, hf, hz⟩ := Option.map_eq_some_iff.1 hs
  simp [Instr.index, run_underlying ht, asIntOf, hi, part, isAgg, run_underlying he, sizeOf, typeInfo, hf, hz, hv, go_sem]
/-- The same, where the element is an array of m cells. -/
theorem run_index_arr_agg {P : Program} (w : World) (t e e2 : TypeId) (n m k : Nat) (cs : Array Value) (kd : IntKind) (i : Nat) (ht : P.underlying t = some (.array n e)) (he : P.underlying e = some (.array k e2)) (hs : (P.info? e).map (·.size) = some m) (hi : i < n) :
    (Instr.index t (.agg cs) (.int kd (i : Int))).run P w = .ok (.agg (cs.extract (i * m) (i * m + m))) w := by
  obtain ⟨f, hf, hz⟩ := Option.map_eq_some_iff.1 hs
  simp [Instr.index, run_underlying ht, asIntOf, hi, part, isAgg, run_underlying he, sizeOf, typeInfo, hf, hz, go_sem]

/-- Bytes that are there, and zeros behind them. -/
def fillB (a : List UInt8) (n : Nat) : List UInt8 := a ++ List.replicate (n - a.length) 0
theorem fillB_length (a : List UInt8) (n : Nat) (h : a.length ≤ n) : (fillB a n).length = n := by simp [fillB]; omega
theorem fillB_step (a m : List UInt8) (n : Nat) (h : a.length + m.length ≤ n) : (fillB a n).take a.length ++ m ++ (fillB a n).drop (a.length + m.length) = fillB (a ++ m) n := by
  unfold fillB
  rw [List.take_left, List.drop_append, List.drop_of_length_le (by omega), List.nil_append, List.drop_replicate, List.length_append,
    show n - a.length - (a.length + m.length - a.length) = n - (a.length + m.length) by omega]
theorem fillB_set (a : List UInt8) (n : Nat) (x : UInt8) (h : a.length < n) : (fillB a n).set a.length x = fillB (a ++ [x]) n := by
  unfold fillB
  rw [List.set_append_right _ _ (Nat.le_refl _), Nat.sub_self, show n - a.length = (n - (a ++ [x]).length) + 1 by simp; omega, List.replicate_succ, List.set_cons_zero]
  simp
theorem fillB_all (a : List UInt8) (n : Nat) (h : a.length = n) : fillB a n = a := by simp [fillB, h]
theorem fillB_zero (n : Nat) : fillB [] n = List.replicate n 0 := by simp [fillB]
end Go.Proofs.Ytpgjcmccfpjmoaa
end
section
namespace Go.Proofs.Ytpgjcmccfpjmoaa
open Go.RowKit
set_option linter.unusedVariables false
set_option maxRecDepth 20000

theorem Low_out (w : World) (n : Nat) (s : Int) (h : s < 1 ∨ 8 < s) :
    Calls Try.prog 45 #[.int .u64 (n : Int), .int .i64 s] w (RetBs w []) := by
  go_enter Try.func45, Try.ntmps45
  go_wp2_with (go_at_call 62; refine (fits_no _ _ h).mono ?_; rintro e w' ⟨rfl, rfl⟩)
  go_ret
  exact ⟨_, rfl, Bs.nil _, Below.refl _ _⟩

theorem Low_any (w : World) (n : Nat) (hn : n < 18446744073709551616) (s : Int) :
    Calls Try.prog 45 #[.int .u64 (n : Int), .int .i64 s] w (RetBs w (lowI n s)) := by
  by_cases h : s < 1 ∨ 8 < s
  · rw [lowI_out n s h]
    exact Low_out w n s h
  · obtain ⟨t, rfl⟩ := Int.eq_ofNat_of_zero_le (a := s) (by omega)
    rw [lowI_in n t (by omega) (by omega)]
    exact Low_in w n t hn (by omega) (by omega)





end Go.Proofs.Ytpgjcmccfpjmoaa
end
section
namespace Go.Proofs.Ytpgjcmccfpjmoaa
open Go.RowKit
set_option linter.unusedVariables false
set_option maxRecDepth 20000

theorem take8 (l : List UInt8) (k : Nat) (hk : k ≤ l.length) (h8 : k ≤ 8) (h : ¬ (k < 8 ∧ k < l.length)) : l.take 8 = l.take k := by
  by_cases h1 : k = 8
  · rw [h1]
  · rw [List.take_of_length_le (by omega), List.take_of_length_le (by omega)]

theorem mul256_lt (k b : Nat) (hk : k < 8) (hb : b < 256) : 256 ^ k * b < 18446744073709551616 := by
  have h1 : 256 ^ k * b < 256 ^ k * 256 := Nat.mul_lt_mul_of_pos_left hb (Nat.pow_pos (by omega))
  have h2 := pow256_le (k + 1) (by omega)
  rw [Nat.pow_succ] at h2
  omega

theorem or_low (k q b : Nat) (hk : k < 8) (hq : q < 256 ^ k) (hb : b < 256) :
    bits .or .u64 (q : Int) (IntKind.u64.wrap ((b : Int) * 2 ^ (8 * k))) = ((q + 256 ^ k * b : Nat) : Int) := by
  have hv : ((b : Int) * 2 ^ (8 * k)) = ((256 ^ k * b : Nat) : Int) := by
    have h : (2 : Int) ^ (8 * k) = ((256 ^ k : Nat) : Int) := by
      rw [show (256 : Nat) = 2 ^ 8 from rfl, ← Nat.pow_mul]
      simp
    rw [h, Int.natCast_mul, Int.mul_comm]
  have hlt := mul256_lt k b hk hb
  have hw : IntKind.u64.wrap ((256 ^ k * b : Nat) : Int) = ((256 ^ k * b : Nat) : Int) := by
    rw [IntKind.wrap_u64]; omega
  have hq2 : q < 18446744073709551616 := Nat.lt_of_lt_of_le hq (pow256_le k (by omega))
  rw [hv, hw, u64_or_nat _ _ hq2 hlt]
  have e : 256 ^ k = 2 ^ (8 * k) := by rw [show (256 : Nat) = 2 ^ 8 from rfl, ← Nat.pow_mul]
  have := Nat.two_pow_add_eq_or_of_lt (b := q) (i := 8 * k) (by rw [← e]; exact hq) b
  rw [Nat.or_comm, e, ← this, Nat.add_comm]

theorem or_high (k q b : Nat) (hk : k < 8) (hq : q < 256 ^ k) (hb : b < 256) :
    bits .or .u64 (IntKind.u64.wrap ((q : Int) * 256)) (b : Int) = ((q * 256 + b : Nat) : Int) := by
  have h2 := pow256_le (k + 1) (by omega)
  rw [Nat.pow_succ] at h2
  have hw : IntKind.u64.wrap ((q : Int) * 256) = ((2 ^ 8 * q : Nat) : Int) := by
    rw [IntKind.wrap_u64]; omega
  have := Nat.two_pow_add_eq_or_of_lt (b := b) (i := 8) hb q
  rw [hw, u64_or_nat _ _ (by omega) (by omega), ← this]
  omega

set_option maxHeartbeats 400000 in
theorem OfLow_any (w : World) (v : Value) (l : List UInt8) (h : Bs w v l) :
    Calls Try.prog 52 #[v] w fun e w' => e = .returned (.int .u64 (ofLowB (l.take 8) : Int)) ∧ w = w' := by
  obtain ⟨A, c, rfl, h1, h2, h3⟩ := h
  unfold maxLen at h2
  by_cases h8 : 8 < l.length
  all_goals
    go_enter Try.func52, Try.ntmps52
    go_wp2
    go_loop [3, 8] (fun n i => ∃ k q : Nat, k ≤ 8 ∧ k ≤ l.length ∧ i = .int .i64 k ∧ q = ofLowB (l.take k) ∧ n = .int .u64 (q : Int)) (fun _ i => 8 - (intOf i).toNat)
    case atStart => exact ⟨0, 0, by omega, Nat.zero_le _, rfl, by simp [ofLowB], rfl⟩
    case round =>
      obtain ⟨k, q, hk, hk2, rfl, hq, rfl⟩ := hrel
      have hql : q < 256 ^ k := by
        have := ofLowB_lt (l.take k); rw [← hq, List.length_take_of_le (by omega)] at this; exact this
      have hq64 : q < 18446744073709551616 := Nat.lt_of_lt_of_le hql (pow256_le k (by omega))
      have HQ := Lib.hid hq
      have HQL := Lib.hid hql
      clear hq hql
      by_cases hlt : k < 8 ∧ k < l.length
      · obtain ⟨hlt1, hlt2⟩ := hlt
        obtain ⟨b0, o0, rfl, hc⟩ := h3 (by omega)
        have hcell := hc k (by omega)
        have hb := l[k].toNat_lt
        clear hc
        go_wp2
        go_round
        case rel => 
          refine ⟨k + 1, ofLowB (l.take (k + 1)), by omega, by omega, by go_num, rfl, ?_⟩
          rw [or_low k q _ hlt1 HQL.out hb, List.take_succ_eq_append_getElem hlt2, ofLowB_snoc, List.length_take_of_le hk2, HQ.out]
        case measure => simp [intOf]; omega
      · have hfin := take8 l k hk2 hk hlt
        have HF := Lib.hid hfin
        clear hfin
        go_wp2
        go_ret
        exact ⟨ret_int (by rw [HF.out, HQ.out]), rfl⟩


set_option maxHeartbeats 400000 in
theorem refOfHigh_any (w : World) (v : Value) (l : List UInt8) (h : Bs w v l) :
    Calls Try.prog 22 #[v] w fun e w' => e = .returned (.int .u64 (ofHighB (l.take 8) : Int)) ∧ w = w' := by
  obtain ⟨A, c, rfl, h1, h2, h3⟩ := h
  unfold maxLen at h2
  go_enter Try.func22, Try.ntmps22
  go_wp2
  go_loop [3, 4] (fun n i => ∃ k q : Nat, k ≤ 8 ∧ k ≤ l.length ∧ i = .int .i64 k ∧ q = ofHighB (l.take k) ∧ n = .int .u64 (q : Int)) (fun _ i => 8 - (intOf i).toNat)
  case atStart => exact ⟨0, 0, by omega, Nat.zero_le _, rfl, by simp [ofHighB, ofLowB], rfl⟩
  case round =>
    obtain ⟨k, q, hk, hk2, rfl, hq, rfl⟩ := hrel
    have hql : q < 256 ^ k := by
      have := ofHighB_lt (l.take k); rw [← hq, List.length_take_of_le (by omega)] at this; exact this
    have HQ := Lib.hid hq
    by_cases hlt : k < 8 ∧ k < l.length
    · obtain ⟨hlt1, hlt2⟩ := hlt
      obtain ⟨b0, o0, rfl, hc⟩ := h3 (by omega)
      have hcell := hc k (by omega)
      have hb := l[k].toNat_lt
      have hbd : q * 256 + l[k].toNat < 18446744073709551616 := by
        have := pow256_le (k + 1) (by omega)
        rw [Nat.pow_succ] at this
        omega
      clear hc hq hql
      go_wp2
      go_round
      case rel => 
        refine ⟨k + 1, ofHighB (l.take (k + 1)), by omega, by omega, by go_num, rfl, ?_⟩
        rw [List.take_succ_eq_append_getElem hlt2, ofHighB_snoc, ← HQ.out]
        go_num
      case measure => simp [intOf]; omega
    · have hfin := take8 l k hk2 hk hlt
      have HF := Lib.hid hfin
      clear hfin hq hql
      by_cases hk8 : k < l.length
      · have hd : decide ((k : Int) < 8) = false := by simp; omega
        go_wp2
        go_ret
        exact ⟨ret_int (by rw [HF.out, HQ.out]), rfl⟩
      · have hd : decide (k < l.length) = false := by simp; omega
        go_wp2
        go_ret
        exact ⟨ret_int (by rw [HF.out, HQ.out]), rfl⟩

end Go.Proofs.Ytpgjcmccfpjmoaa
end
section
namespace Go.Proofs.Ytpgjcmccfpjmoaa
open Go.RowKit
set_option linter.unusedVariables false
set_option maxRecDepth 20000

/-- The words of a key, the lowest one first; one more behind them. -/
def wordK (key : List UInt8) (i : Nat) : Nat := ofLowB ((key.drop (8 * i)).take 8)
def wordsK (key : List UInt8) : List Nat := (List.range 4).map (wordK key) ++ [0]
theorem wordsK_length (key : List UInt8) : (wordsK key).length = 5 := by simp [wordsK]
theorem wordK_lt (key : List UInt8) (i : Nat) : wordK key i < 18446744073709551616 := by
  have h := ofLowB_lt ((key.drop (8 * i)).take 8)
  have : ((key.drop (8 * i)).take 8).length ≤ 8 := List.length_take_le _ _
  have h2 := pow256_le _ this
  unfold wordK
  omega
theorem wordsK_get (key : List UInt8) (i : Nat) (h : i < 4) : (wordsK key).getD i 0 = wordK key i := by
  unfold wordsK
  rw [List.getD_eq_getElem?_getD, List.getElem?_append_left (by simpa using h)]
  simp [h]
theorem wordsK_last (key : List UInt8) : (wordsK key).getD 4 0 = 0 := by simp [wordsK]
theorem wordsK_lt (key : List UInt8) (i : Nat) : (wordsK key).getD i 0 < 18446744073709551616 := by
  refine getD_lt (fun x hx => ?_) (by omega) i
  rcases List.mem_append.1 hx with hx | hx
  · obtain ⟨j, _, rfl⟩ := List.mem_map.1 hx
    exact wordK_lt key j
  · simp at hx; omega
theorem key_val (key : List UInt8) (h : key.length = 32) : ofLowB key = wordK key 0 + 18446744073709551616 * (wordK key 1 + 18446744073709551616 * (wordK key 2 + 18446744073709551616 * wordK key 3)) := by
  have step : ∀ l : List UInt8, ofLowB l = ofLowB (l.take 8) + 18446744073709551616 * ofLowB (l.drop 8) ∨ l.length < 8 := by
    intro l
    by_cases hl : l.length < 8
    · exact .inr hl
    · refine .inl ?_
      have e := ofLowB_append (l.take 8) (l.drop 8)
      rw [List.take_append_drop, List.length_take_of_le (by omega)] at e
      exact e
  have h0 := (step key).resolve_right (by omega)
  have h1 := (step (key.drop 8)).resolve_right (by simp; omega)
  have h2 := (step (key.drop 16)).resolve_right (by simp; omega)
  have h3 := (step (key.drop 24)).resolve_right (by simp; omega)
  rw [List.drop_drop] at h1 h2 h3
  have h4 : ofLowB (key.drop (24 + 8)) = 0 := by rw [List.drop_eq_nil_of_le (by omega)]; rfl
  unfold wordK
  simp only [Nat.mul_zero, List.drop_zero, Nat.mul_one, Nat.reduceMul, Nat.reduceAdd] at *
  rw [h0, h1, h2, h3, h4]
  simp
/-- A part of a key, out of two words. -/
theorem part_of (key : List UInt8) (h : key.length = 32) (k : Nat) (hk : k < 5) : ((wordsK key).getD (51 * k / 64) 0 / 2 ^ (51 * k % 64) + (wordsK key).getD (51 * k / 64 + 1) 0 * 2 ^ (64 - 51 * k % 64) % 18446744073709551616) % 2251799813685248 = (digL 5 (ofLowB key)).getD k 0 := by
  rw [key_val key h]
  have a0 := wordK_lt key 0
  have a1 := wordK_lt key 1
  have a2 := wordK_lt key 2
  have a3 := wordK_lt key 3
  have e0 := wordsK_get key 0 (by omega)
  have e1 := wordsK_get key 1 (by omega)
  have e2 := wordsK_get key 2 (by omega)
  have e3 := wordsK_get key 3 (by omega)
  have e4 := wordsK_last key
  generalize wordK key 0 = w0 at *
  generalize wordK key 1 = w1 at *
  generalize wordK key 2 = w2 at *
  generalize wordK key 3 = w3 at *
  have hc : k = 0 ∨ k = 1 ∨ k = 2 ∨ k = 3 ∨ k = 4 := by omega
  rw [digL5]
  rcases hc with rfl | rfl | rfl | rfl | rfl <;> simp only [Nat.reduceMul, Nat.reduceDiv, Nat.reduceMod, Nat.reduceAdd, Nat.reduceSub, Nat.reducePow, e0, e1, e2, e3, e4, List.getD_cons_zero, List.getD_cons_succ] <;> unfold Mx <;> omega

theorem joined (x y b c : Nat) (h : b + c = 64) (hx : x < 18446744073709551616) : ∃ s : Nat, bits .or .u64 ((x / 2 ^ b : Nat) : Int) ((y * 2 ^ c % 18446744073709551616 : Nat) : Int) = (s : Int) ∧ s < 18446744073709551616 ∧ True ∧ x / 2 ^ b + y * 2 ^ c % 18446744073709551616 = s := by
  have e : 18446744073709551616 = 2 ^ c * 2 ^ b := by rw [← Nat.pow_add, Nat.add_comm, h]
  have h1 : x / 2 ^ b < 2 ^ c := Nat.div_lt_of_lt_mul (by rw [Nat.mul_comm, ← e]; exact hx)
  have h2 : y * 2 ^ c % 18446744073709551616 = 2 ^ c * (y % 2 ^ b) := by rw [e, Nat.mul_comm y, Nat.mul_mod_mul_left]
  have h3 : y * 2 ^ c % 18446744073709551616 % 2 ^ c = 0 := by rw [h2, Nat.mul_mod_right]
  have h4 : x / 2 ^ b < 18446744073709551616 := Nat.lt_of_le_of_lt (Nat.div_le_self _ _) hx
  have h5 := Nat.mod_lt (y * 2 ^ c) (show 0 < 18446744073709551616 by omega)
  refine ⟨_, or64 _ _ c h1 h3 h4 h5, ?_, trivial, rfl⟩
  rw [h2, e]
  have h6 : y % 2 ^ b + 1 ≤ 2 ^ b := Nat.mod_lt _ (Nat.two_pow_pos b)
  have h7 : 2 ^ c * (y % 2 ^ b + 1) ≤ 2 ^ c * 2 ^ b := Nat.mul_le_mul_left _ h6
  rw [Nat.mul_add, Nat.mul_one] at h7
  omega
theorem stP_words (key : List UInt8) : stP (wordsK key) zero5 4 = wordsK key := by
  unfold stP wordsK
  rw [List.take_left' (by simp)]
  rfl

set_option maxHeartbeats 2000000 in
theorem read_any (key : List UInt8) (hk : key.length = 32) (w : World) :
    Calls Try.prog 37 #[keyV key] w (RetV w (.agg (natsC (digL 5 (ofLowB key))))) := by
  have HK := Lib.hid hk
  have HP := Lib.hid (part_of key hk)
  have HZL : Hid ((digL 5 (ofLowB key)).length = 5) := digL_length 5 _
  obtain ⟨z, hz⟩ : ∃ z, z = digL 5 (ofLowB key) := ⟨_, rfl⟩
  rw [← hz] at HP HZL ⊢
  clear hk hz
  have E0 := Env.start w
  go_enter Try.func37, Try.ntmps37
  go_wp2_with (first
    | ((with_reducible refine wpE_box (o := ⟨some 1, _, _, _, _, _⟩) rfl 23 (.tmp 0) rfl (keyC key) (by with_unfolding_all rfl) E0 ?_); intro g1 w1 E1)
    | ((with_reducible refine wpE_alloc (o := ⟨some 2, _, _, _, _, _⟩) rfl 43 rfl (natsC (zero5)) Try.zero5p E1 ?_); intro g2 w2 E2)
    | ((with_reducible refine wpE_alloc (o := ⟨some 3, _, _, _, _, _⟩) rfl 42 rfl (natsC (zero5)) Try.zero5w E2 ?_); intro g3 w3 E3))
  have E4 := Lib.hid E3
  clear E0 E1 E2 E3
  go_loopw [9] (fun i wr => ∃ k : Nat, k ≤ 4 ∧ i = .int .i64 k ∧ Env w [(g3, 42, natsC (stP (wordsK key) zero5 k)), (g2, 43, natsC zero5), (g1, 23, keyC key)] wr) (fun i _ => 4 - (intOf i).toNat)
  case atStart => exact ⟨0, by omega, rfl, by rw [stP_zero]; exact E4.out⟩
  case round =>
    clear E4
    obtain ⟨k, hk, rfl, hE⟩ := hrel
    have E := Lib.hid hE
    clear hE
    by_cases hlt : k < 4
    · have hsl := fun x : World => run_sliceArr (P := Try.prog) x 23 5 32 Try.underlying23 Try.sizeB g1 0 (8 * k) (8 * k + 8) (8 * (k : Int)) (8 * ((k : Int) + 1)) (by omega) (by omega) (by omega) (by omega) (by omega)
      rw [Nat.zero_add, show 8 * k + 8 - 8 * k = 8 by omega] at hsl
      have hst := stP_step (wordsK key) zero5 (wordsK_length key) zero5_length k (by omega)
      rw [wordsK_get key k hlt] at hst
      have c1 := E.out.getN 0 rfl k (by rw [stP_length _ _ (wordsK_length key) zero5_length k (by omega)]; omega)
      have f1 := E.out.fzN 0 rfl k
      generalize (stP (wordsK key) zero5 k).getD k 0 = old at c1
      have ht8 : ((key.drop (8 * k)).take 8).take 8 = (key.drop (8 * k)).take 8 := List.take_of_length_le (by simp; omega)
      have HT := Lib.hid ht8
      have hx : wordK key k = ofLowB ((key.drop (8 * k)).take 8) := rfl
      have HX := Lib.hid hx
      have E5 := E.out.cellN 0 rfl k (wordK key k)
      simp only [List.set_cons_zero] at E5
      rw [hst] at E5
      have HE5 := Lib.hid E5
      have BS := Lib.hid (Bs.part (E.out.row 2 rfl) (8 * k) 8 (32 - 8 * k) (by rw [HK.out]; omega) (by omega) (by unfold maxLen; omega))
      clear E5 hst ht8 hx
      go_wp2_with fail
      refine (OfLow_any _ _ _ BS.out).mono ?_
      rintro e w' ⟨rfl, rfl⟩
      rw [HT.out, ← HX.out]
      go_wp2
      go_roundw
      case rel => exact ⟨k + 1, by omega, by go_num, HE5.out⟩
      case measure => simp [intOf]; omega
    · have hk4 : k = 4 := by omega
      have E5 := E.out
      rw [hk4, stP_words] at E5
      have E6 := Lib.hid E5
      clear E5 E hk4
      go_wp2_with ((with_reducible refine wpE_alloc (o := ⟨some 5, _, _, _, _, _⟩) rfl 43 rfl (natsC (zero5)) Try.zero5p E6.out ?_); intro g4 w4 E7)
      have E8 := Lib.hid E7
      clear E7 E6
      go_loopw [22] (fun i wr => ∃ k : Nat, k ≤ 5 ∧ i = .int .i64 k ∧ Env w [(g4, 43, natsC (stP z zero5 k)), (g3, 42, natsC (wordsK key)), (g2, 43, natsC zero5), (g1, 23, keyC key)] wr) (fun i _ => 5 - (intOf i).toNat)
      case atStart => exact ⟨0, by omega, rfl, by rw [stP_zero]; exact E8.out⟩
      case round =>
        clear E8
        obtain ⟨k, hk, rfl, hE⟩ := hrel
        have E := Lib.hid hE
        clear hE
        by_cases hlt5 : k < 5
        · have PL := Lib.hid (fun w => place_any w k hlt5)
          have hpart := HP.out k hlt5
          obtain ⟨wd, hwd⟩ : ∃ v, v = 51 * k / 64 := ⟨_, rfl⟩
          obtain ⟨bb, hbb⟩ : ∃ v, v = 51 * k % 64 := ⟨_, rfl⟩
          rw [← hwd, ← hbb] at PL hpart
          have hw1 : (wd : Int) < 5 := by omega
          have hw2 : (wd : Int) + 1 < 5 := by omega
          have hb1 : bb < 64 := by omega
          have c1 := E.out.getN 1 rfl wd (by rw [wordsK_length]; omega)
          have c2 := E.out.getN 1 rfl (wd + 1) (by rw [wordsK_length]; omega)
          have hl1 := wordsK_lt key wd
          have hl2 := wordsK_lt key (wd + 1)
          generalize (wordsK key).getD wd 0 = x at c1 hl1 hpart
          generalize (wordsK key).getD (wd + 1) 0 = y at c2 hl2 hpart
          have c3 := E.out.getN 0 rfl k (by rw [stP_length _ _ HZL.out zero5_length k (by omega)]; omega)
          have f3 := E.out.fzN 0 rfl k
          generalize (stP z zero5 k).getD k 0 = old at c3
          have hk5 : (k : Int) < 5 := by omega
          obtain ⟨cc, hcc⟩ : ∃ v, v = 64 - bb := ⟨_, rfl⟩
          have hsub : IntKind.u64.wrap (64 - (bb : Int)) = (cc : Int) := by rw [IntKind.wrap_u64]; omega
          have hcl : cc ≤ 64 := by omega
          rw [← hcc] at hpart
          obtain ⟨s, hs1, hs2, hs3, hs4⟩ := joined x y bb cc (by omega) hl1
          rw [hs4] at hpart
          obtain ⟨q1, hq1⟩ : ∃ v, v = x / 2 ^ bb := ⟨_, rfl⟩
          obtain ⟨q2, hq2⟩ : ∃ v, v = y * 2 ^ cc % 18446744073709551616 := ⟨_, rfl⟩
          have hd1 : (x : Int) / 2 ^ bb = (q1 : Int) := by rw [hq1]; simp
          have hd2 : IntKind.u64.wrap ((y : Int) * 2 ^ cc) = (q2 : Int) := by rw [IntKind.wrap_u64, hq2]; simp
          rw [← hq1, ← hq2] at hs1
          have hand := and51 s hs2
          rw [hpart] at hand
          have E5 := E.out.drew.cellN 0 rfl k (z.getD k 0)
          simp only [List.set_cons_zero] at E5
          rw [stP_step z zero5 HZL.out zero5_length k hlt5] at E5
          have HE5 := Lib.hid E5
          generalize z.getD k 0 = zk at hand HE5
          clear hcc hq1 hq2 hs3 hs4 hpart hl1 hl2 E5
          have hq : 0 ≤ (wd : Int) + 1 := by omega
          have hq4 : ((wd : Int) + 1).toNat = wd + 1 := by omega
          have hq3 : IntKind.i64.wrap ((wd : Int) + 1) = (wd : Int) + 1 := IntWalk.i64_in _ (by omega)
          clear hwd hbb
          go_wp2_with fail
          refine (PL.out _).mono ?_
          rintro e w' ⟨rfl, rfl⟩
          go_wp2_with fail
          go_still_tail 16, (by kernel_rfl)
          change wpList _ _ _ _ _ wr.drew
          have c4 : wr.drew.cell? ⟨g4, k, none⟩ = some (.int .u64 (old : Int)) := c3
          have f4 : wr.drew.frozen? ⟨g4, k, none⟩ = false := f3
          clear c1 c2 c3 f3 hd1 hd2 hand hs1
          go_wp2
          go_roundw
          case rel => exact ⟨k + 1, by omega, by go_num, HE5.out⟩
          case measure => simp [intOf]; omega
        · have hk5 : k = 5 := by omega
          have E5 := E.out
          rw [hk5, stP_all z zero5 HZL.out zero5_length] at E5
          have E6 := Lib.hid E5
          clear E5 E hk5
          go_wp2_with (first
            | (with_reducible refine wpE_load (o := ⟨some 47, _, _, _, _, _⟩) rfl 43 (.tmp 5) rfl 0 g4 43 (natsC (z)) _ (by with_unfolding_all rfl) (by with_unfolding_all rfl) Try.underlying43 rfl (sizeN Try.sz5p _ HZL.out) E6.out ?_)
            | ((with_reducible refine wpE_store (o := ⟨none, _, _, _, _, _⟩) rfl 43 (.tmp 2) (.tmp 47) rfl 2 g2 43 (natsC (zero5)) (natsC (z)) (by with_unfolding_all rfl) (by with_unfolding_all rfl) (by with_unfolding_all rfl) (natsC_same zero5_length HZL.out) (sizeN Try.sz5p _ HZL.out) (natsC_one _) E6.out ?_); intro w9 E9; simp only [List.set_cons_zero, List.set_cons_succ] at E9))
          exact bodyPost_ret (results_cell_row rfl _ _ g2 43 (natsC (z)) (0, 0) _ rfl (E9.row 2 rfl) Try.underlying43 rfl (sizeN Try.sz5p _ HZL.out)) rfl (E9.ret _)
end Go.Proofs.Ytpgjcmccfpjmoaa
end
section
namespace Go.Proofs.Ytpgjcmccfpjmoaa
open Go.RowKit
set_option linter.unusedVariables false
set_option maxRecDepth 20000

/-- Five words of a number. -/
def w64 (m : Nat) : List Nat := [m % 18446744073709551616, m / 18446744073709551616 % 18446744073709551616, m / 340282366920938463463374607431768211456 % 18446744073709551616, m / 6277101735386680763835789423207666416102355444464034512896 % 18446744073709551616, m / 115792089237316195423570985008687907853269984665640564039457584007913129639936 % 18446744073709551616]
theorem w64_length (m : Nat) : (w64 m).length = 5 := rfl
theorem w64_zero : w64 0 = zero5 := by decide
theorem w64_lt (m : Nat) : ∀ x ∈ w64 m, x < 18446744073709551616 := by
  intro x hx
  simp only [w64, List.mem_cons, List.not_mem_nil, or_false] at hx
  omega
set_option maxHeartbeats 2000000 in
theorem key_step (n k : Nat) (hk : k < 5) : (w64 (n % Mx ^ k)).getD (51 * k / 64) 0 < 2 ^ (51 * k % 64) ∧ (w64 (n % Mx ^ k)).getD (51 * k / 64 + 1) 0 = 0 ∧
    ((w64 (n % Mx ^ k)).set (51 * k / 64) ((w64 (n % Mx ^ k)).getD (51 * k / 64) 0 + (elemL n).getD k 0 * 2 ^ (51 * k % 64) % 18446744073709551616)).set (51 * k / 64 + 1) ((elemL n).getD k 0 / 2 ^ (64 - 51 * k % 64)) = w64 (n % Mx ^ (k + 1)) := by
  have hc : k = 0 ∨ k = 1 ∨ k = 2 ∨ k = 3 ∨ k = 4 := by omega
  unfold elemL
  rw [digL5]
  rcases hc with rfl | rfl | rfl | rfl | rfl <;> simp only [w64, Mx, Nat.reduceMul, Nat.reduceDiv, Nat.reduceMod, Nat.reduceAdd, Nat.reduceSub, Nat.reducePow, List.getD_cons_zero, List.getD_cons_succ, List.set_cons_zero, List.set_cons_succ, List.cons.injEq, and_true] <;> omega
theorem lowB_add (n a b : Nat) : lowB n (a + b) = lowB n a ++ lowB (n / 256 ^ a) b := by
  induction b with
  | zero => simp [lowB_zero]
  | succ b ih =>
    rw [← Nat.add_assoc, lowB_succ, ih, lowB_succ, List.append_assoc]
    congr 3
    simp [byteN, Nat.div_div_eq_div_mul, Nat.pow_add]
theorem lowB_mod (m : Nat) : lowB (m % 18446744073709551616) 8 = lowB m 8 := by
  unfold lowB
  apply List.map_congr_left
  intro i hi
  have hi8 : i < 8 := List.mem_range.1 hi
  apply UInt8.toNat_inj.1
  rw [byteN_toNat, byteN_toNat]
  have h : i = 0 ∨ i = 1 ∨ i = 2 ∨ i = 3 ∨ i = 4 ∨ i = 5 ∨ i = 6 ∨ i = 7 := by omega
  rcases h with rfl | rfl | rfl | rfl | rfl | rfl | rfl | rfl <;> simp only [Nat.reducePow] <;> omega
theorem getD_set_far (l : List Nat) (i u j : Nat) (h : i ≠ j) : (l.set i u).getD j 0 = l.getD j 0 := by
  simp only [List.getD_eq_getElem?_getD]
  rw [List.getElem?_set_ne h]
theorem over_word (a x b : Nat) (hb : b < 64) (ha : a < 2 ^ b) : ∃ s : Nat, bits .or .u64 (a : Int) ((x * 2 ^ b % 18446744073709551616 : Nat) : Int) = (s : Int) ∧ s < 18446744073709551616 ∧ a + x * 2 ^ b % 18446744073709551616 = s := by
  have e : 18446744073709551616 = 2 ^ b * 2 ^ (64 - b) := by rw [← Nat.pow_add, show b + (64 - b) = 64 by omega]
  have h2 : x * 2 ^ b % 18446744073709551616 = 2 ^ b * (x % 2 ^ (64 - b)) := by rw [e, Nat.mul_comm x, Nat.mul_mod_mul_left]
  have h3 : x * 2 ^ b % 18446744073709551616 % 2 ^ b = 0 := by rw [h2, Nat.mul_mod_right]
  have h4 : a < 18446744073709551616 := Nat.lt_of_lt_of_le ha (by rw [e]; exact Nat.le_mul_of_pos_right _ (Nat.two_pow_pos _))
  have h5 := Nat.mod_lt (x * 2 ^ b) (show 0 < 18446744073709551616 by omega)
  refine ⟨_, or64 _ _ b ha h3 h4 h5, ?_, rfl⟩
  rw [h2, e]
  have h6 : x % 2 ^ (64 - b) + 1 ≤ 2 ^ (64 - b) := Nat.mod_lt _ (Nat.two_pow_pos _)
  have h7 : 2 ^ b * (x % 2 ^ (64 - b) + 1) ≤ 2 ^ b * 2 ^ (64 - b) := Nat.mul_le_mul_left _ h6
  rw [Nat.mul_add, Nat.mul_one] at h7
  omega
theorem word_low (n k : Nat) (hk : k < 4) : lowB n (8 * (k + 1)) = lowB n (8 * k) ++ lowB ((w64 n).getD k 0) 8 := by
  rw [Nat.mul_add, Nat.mul_one, lowB_add]
  have h : k = 0 ∨ k = 1 ∨ k = 2 ∨ k = 3 := by omega
  rcases h with rfl | rfl | rfl | rfl <;> simp only [w64, List.getD_cons_zero, List.getD_cons_succ, lowB_mod] <;> simp

set_option maxHeartbeats 4000000 in
theorem Key_any (n : Nat) (hn : n < pF) (w : World) :
    Calls Try.prog 25 #[.agg (natsC (elemL n))] w (RetV w (keyV (lowB n 32))) := by
  have HKS := Lib.hid (key_step n)
  have HN : Hid (n % Mx ^ 5 = n) := Nat.mod_eq_of_lt (Nat.lt_trans hn pF_lt)
  have HX := Lib.hid (fun k => getD_lt (elemL_lt n) Mx_pos k)
  have HKL : Hid (∀ k, k ≤ 4 → (fillB (lowB n (8 * k)) 32).length = 32) := fun k hk => fillB_length _ _ (by rw [lowB_length]; omega)
  clear hn
  have E0 := Env.start w
  go_enter Try.func25, Try.ntmps25
  go_wp2_with (first
    | ((with_reducible refine wpE_box (o := ⟨some 1, _, _, _, _, _⟩) rfl 45 (.tmp 0) rfl (natsC (elemL n)) (by with_unfolding_all rfl) E0 ?_); intro g1 w1 E1)
    | ((with_reducible refine wpE_alloc (o := ⟨some 2, _, _, _, _, _⟩) rfl 23 rfl (keyC (zeroKey)) Try.zeroK E1 ?_); intro g2 w2 E2)
    | ((with_reducible refine wpE_alloc (o := ⟨some 3, _, _, _, _, _⟩) rfl 42 rfl (natsC (zero5)) Try.zero5w E2 ?_); intro g3 w3 E3)
    | (with_reducible refine wpE_load (o := ⟨some 11, _, _, _, _, _⟩) rfl 43 (.tmp 10) rfl 2 g1 45 (natsC (elemL n)) _ (by with_unfolding_all rfl) (by with_unfolding_all rfl) Try.underlying43 rfl (sizeN Try.sz5p _ (elemL_length n)) E3 ?_))
  have E4 := Lib.hid E3
  clear E0 E1 E2 E3
  go_loopw [12] (fun i wr => ∃ k : Nat, k ≤ 5 ∧ i = .int .i64 k ∧ Env w [(g3, 42, natsC (w64 (n % Mx ^ k))), (g2, 23, keyC zeroKey), (g1, 45, natsC (elemL n))] wr) (fun i _ => 5 - (intOf i).toNat)
  case atStart => exact ⟨0, by omega, rfl, by rw [Nat.pow_zero, Nat.mod_one, w64_zero]; exact E4.out⟩
  case round =>
    clear E4
    obtain ⟨k, hk, rfl, hE⟩ := hrel
    have E := Lib.hid hE
    clear hE
    by_cases hlt : k < 5
    · have hix := fun W => run_indexN (P := Try.prog) W 43 39 5 (elemL n) k Try.underlying43 Try.underlying39 Try.szU64 (elemL_length n) hlt
      have PL := Lib.hid (fun w => place_any w k hlt)
      obtain ⟨s1, s2, s3⟩ := HKS.out k hlt
      have hx := HX.out k
      obtain ⟨wd, hwd⟩ : ∃ v, v = 51 * k / 64 := ⟨_, rfl⟩
      obtain ⟨bb, hbb⟩ : ∃ v, v = 51 * k % 64 := ⟨_, rfl⟩
      rw [← hwd] at PL s1 s2 s3
      rw [← hbb] at PL s1 s3
      have hw0 : wd < 4 := by omega
      have hw1 : (wd : Int) < 5 := by omega
      have hw2 : (wd : Int) + 1 < 5 := by omega
      have hb1 : bb < 64 := by omega
      have hln := w64_length (n % Mx ^ k)
      have hall := w64_lt (n % Mx ^ k)
      have c1 := E.out.getN 0 rfl wd (by rw [hln]; omega)
      have f1 := E.out.fzN 0 rfl wd
      generalize (elemL n).getD k 0 = x at hix hx s3
      obtain ⟨cc, hcc⟩ : ∃ v, v = 64 - bb := ⟨_, rfl⟩
      have hsub : IntKind.u64.wrap (64 - (bb : Int)) = (cc : Int) := by rw [IntKind.wrap_u64]; omega
      rw [← hcc] at s3
      have hcl : cc ≤ 64 := by omega
      have hx64 : x < 18446744073709551616 := Nat.lt_trans hx (by decide)
      have hov : (w64 (n % Mx ^ k)).getD wd 0 < 18446744073709551616 := getD_lt hall (by omega) wd
      obtain ⟨u, hu1, hu2, hu3⟩ := over_word ((w64 (n % Mx ^ k)).getD wd 0) x bb hb1 s1
      obtain ⟨q, hq⟩ : ∃ v, v = x * 2 ^ bb % 18446744073709551616 := ⟨_, rfl⟩
      obtain ⟨r, hr⟩ : ∃ v, v = x / 2 ^ cc := ⟨_, rfl⟩
      have hd1 : IntKind.u64.wrap ((x : Int) * 2 ^ bb) = (q : Int) := by rw [IntKind.wrap_u64, hq]; simp
      have hd2 : (x : Int) / 2 ^ cc = (r : Int) := by rw [hr]; simp
      have hrl : r < 18446744073709551616 := by rw [hr]; exact Nat.lt_of_le_of_lt (Nat.div_le_self _ _) hx64
      rw [← hq] at hu1 hu3 s3
      rw [← hr, hu3] at s3
      have hor0 : bits .or .u64 0 (r : Int) = (r : Int) := by
        have h := or64 0 r 0 (by decide) (Nat.mod_one _) (by decide) hrl
        rw [Nat.zero_add] at h
        exact h
      have E5 := E.out.cellN 0 rfl wd u
      simp only [List.set_cons_zero] at E5
      have c2 := E5.getN 0 rfl (wd + 1) (by rw [List.length_set, hln]; omega)
      have f2 := E5.fzN 0 rfl (wd + 1)
      rw [show ((w64 (n % Mx ^ k)).set wd u).getD (wd + 1) 0 = 0 from (getD_set_far _ _ _ _ (Nat.ne_of_lt (Nat.lt_succ_self _))).trans s2] at c2
      have E6 := E5.cellN 0 rfl (wd + 1) r
      simp only [List.set_cons_zero] at E6
      rw [s3] at E6
      have HE6 := Lib.hid E6
      generalize (w64 (n % Mx ^ k)).getD wd 0 = old at c1 hu1
      have hk5 : (k : Int) < 5 := by omega
      clear s1 s2 s3 hx hcc hq hr hx64 hov hln hall hu3 E5 E6 hwd hbb
      go_wp2_with ((with_reducible refine (PL.out _).mono ?_); rintro e w' ⟨rfl, rfl⟩)
      go_roundw
      case rel => exact ⟨k + 1, by omega, by go_num, HE6.out⟩
      case measure => simp [intOf]; omega
    · have hk5 : k = 5 := by omega
      have E5 := E.out
      rw [hk5, HN.out] at E5
      have E6 := Lib.hid E5
      clear E5 E hk5
      go_wp2_with ((with_reducible refine wpE_allocF (o := ⟨some 8, _, _, _, _, _⟩) rfl 23 rfl (keyC zeroKey) Try.zeroK E6.out ?_); intro g4 w4 E7 hF)
      have E8 := Lib.hid E7
      have HF := Lib.hid hF
      clear E7 E6 hF
      go_loopw [40] (fun i wr => ∃ k : Nat, k ≤ 4 ∧ i = .int .i64 k ∧ Env w [(g4, 23, keyC (fillB (lowB n (8 * k)) 32)), (g3, 42, natsC (w64 n)), (g2, 23, keyC zeroKey), (g1, 45, natsC (elemL n))] wr) (fun i _ => 4 - (intOf i).toNat)
      case atStart => exact ⟨0, by omega, rfl, E8.out⟩
      case round =>
        clear E8
        obtain ⟨k, hk, rfl, hE⟩ := hrel
        have E := Lib.hid hE
        clear hE
        by_cases hlt4 : k < 4
        · have hsl := fun x : World => run_sliceArrL (P := Try.prog) x 23 5 32 Try.underlying23 Try.sizeB g4 0 (8 * k) (8 * (k : Int)) (by omega) (by omega)
          rw [Nat.zero_add] at hsl
          have hwl := word_low n k hlt4
          have c1 := E.out.getN 1 rfl k (by rw [w64_length]; omega)
          have hxw := getD_lt (w64_lt n) (by omega) k
          generalize (w64 n).getD k 0 = x at hwl c1 hxw
          have HWL := Lib.hid hwl
          have hdl := lowB_length x 8
          have HD := Lib.hid hdl
          have hll := lowB_length n (8 * k)
          have HLL := Lib.hid hll
          have hq : 8 * (k : Int) < 32 := by omega
          have hk5 : (k : Int) < 5 := by omega
          have hs4 : 8 * k + 8 ≤ 32 := by omega
          have hw8 : IntKind.i64.wrap (8 * (k : Int)) = 8 * (k : Int) := IntWalk.i64_in _ (by omega)
          have R4 := Lib.hid (E.out.row 0 rfl)
          have hg4r : g4 ≤ wr.heap.size := by have := R4.out.lt; omega
          clear hwl hdl hll
          go_wp2_with fail
          go_region_law (first
            | (go_simp; go_at_call 45; refine (Low_in _ x 8 (by omega) (by omega) (by omega)).mono ?_; rintro e w3 ⟨_, rfl, hbs, b3⟩; have HS := Lib.hid hbs; obtain ⟨A, c, rfl, h1, h2, h3⟩ := hbs; clear h1 h2 h3)
            | (refine step_copy_splice rfl (.tmp 45) (.tmp 49) 41 41 rfl 5 Try.underlying41 Try.sizeB (some ⟨g4, 8 * k, none⟩) A (32 - 8 * k) (32 - 8 * k) (lowB x 8).length c rfl rfl g4 (8 * k) (cellsB (fillB (lowB n (8 * k)) 32)) 23 (R4.out.drew.kept b3) (cellsB (lowB x 8)) (by rw [cellsB_length, HD.out]; show 8 = min 8 _; omega) (copy_from HS.out) (by rw [cellsB_length, cellsB_length, fillB_length _ _ (by rw [HLL.out]; omega), HD.out]; omega) (cellsB_one _) g4 wr ((Below.refl g4 wr).drew.trans (b3.mono hg4r)) (Nat.le_refl _) ?_; intro w4 hr4 hb4))
          have hr5 := hr4.out
          rw [splice_bytes] at hr5
          have hst := fillB_step (lowB n (8 * k)) (lowB x 8) 32 (by rw [HLL.out, HD.out]; omega)
          rw [HLL.out] at hst
          rw [hst, ← HWL.out] at hr5
          have E9 := Lib.hid (E.out.over HF.out hb4 hr5)
          clear hr5 hr4 hst hb4 hsl c1
          go_wp2
          go_roundw
          case rel => exact ⟨k + 1, by omega, by go_num, E9.out⟩
          case measure => simp [intOf]; omega
        · have hk4 : k = 4 := by omega
          have E9 := E.out
          rw [hk4, fillB_all _ _ (lowB_length n 32)] at E9
          have E10 := Lib.hid E9
          clear E9 E hk4
          go_wp2_with (first
            | (with_reducible refine wpE_load (o := ⟨some 52, _, _, _, _, _⟩) rfl 23 (.tmp 8) rfl 0 g4 23 (keyC (lowB n 32)) _ (by with_unfolding_all rfl) (by with_unfolding_all rfl) Try.underlying23 rfl (Try.sizeKey _ (lowB_length n 32)) E10.out ?_)
            | ((with_reducible refine wpE_store (o := ⟨none, _, _, _, _, _⟩) rfl 23 (.tmp 2) (.tmp 52) rfl 2 g2 23 (keyC (zeroKey)) (keyC (lowB n 32)) (by with_unfolding_all rfl) (by with_unfolding_all rfl) (by with_unfolding_all rfl) (keyC_same zeroKey_length (lowB_length n 32)) (Try.sizeKey _ (lowB_length n 32)) (keyC_one _) E10.out ?_); intro w9 E11; simp only [List.set_cons_zero, List.set_cons_succ] at E11))
          exact bodyPost_ret (results_cell_row rfl _ _ g2 23 (keyC (lowB n 32)) (0, 0) _ rfl (E11.row 2 rfl) Try.underlying23 rfl (Try.sizeKey _ (lowB_length n 32))) rfl (E11.ret _)
end Go.Proofs.Ytpgjcmccfpjmoaa
end
section
namespace Go.Proofs.Ytpgjcmccfpjmoaa
open Go.RowKit
set_option linter.unusedVariables false

theorem keyC_put (l : List UInt8) (i : Nat) (b : UInt8) : (keyC l).setIfInBounds i (.int .u8 (b.toNat : Int)) = keyC (l.set i b) := by
  unfold keyC
  rw [← cellsB_set]
  simp
theorem keyC_cell {w : World} {g : Nat} {t : TypeId} {l : List UInt8} (h : RowAt w g t (keyC l)) (i : Nat) (hi : i < l.length) : w.cell? ⟨g, i, none⟩ = some (.int .u8 (l[i].toNat : Int)) := by
  rw [h.cell i]
  have := cellsB_get l i hi
  simpa [keyC] using this
theorem Try.buildK (w : World) : (Instr.build 23 #[]).run Try.prog w = .ok (keyV zeroKey) w := by kernel_rfl





end Go.Proofs.Ytpgjcmccfpjmoaa
end
section
namespace Go.Proofs.Ytpgjcmccfpjmoaa
open Go.RowKit

theorem Try.sizeOfB (w : World) : (sizeOf 5).run Try.prog w = .ok 1 w := by kernel_rfl
theorem Try.eqKeyIn (a b : List UInt8) (ha : a.length = 32) (hb : b.length = 32) (w : World) :
    (Op.equalIn 10000 23 (.agg (keyC a)) (.agg (keyC b))).run Try.prog w = .ok (a == b) w :=
  run_equalIn_bytes w 9998 23 5 32 Try.underlying23 Try.underlying5 Try.sizeOfB a b ha hb
theorem Try.eqGuardKey : Try.prog.eqGuardType Try.prog.depth 23 = false := by kernel_rfl
theorem zeroLit : (#[.int .u8 0, .int .u8 0, .int .u8 0, .int .u8 0, .int .u8 0, .int .u8 0, .int .u8 0, .int .u8 0, .int .u8 0, .int .u8 0, .int .u8 0, .int .u8 0, .int .u8 0, .int .u8 0, .int .u8 0, .int .u8 0, .int .u8 0, .int .u8 0, .int .u8 0, .int .u8 0, .int .u8 0, .int .u8 0, .int .u8 0, .int .u8 0, .int .u8 0, .int .u8 0, .int .u8 0, .int .u8 0, .int .u8 0, .int .u8 0, .int .u8 0, .int .u8 0] : Array Value) = keyC zeroKey := rfl
theorem Try.eqZeroIn (w : World) : (Op.equalIn 10000 23 (.agg (keyC zeroKey)) (.agg #[.int .u8 0, .int .u8 0, .int .u8 0, .int .u8 0, .int .u8 0, .int .u8 0, .int .u8 0, .int .u8 0, .int .u8 0, .int .u8 0, .int .u8 0, .int .u8 0, .int .u8 0, .int .u8 0, .int .u8 0, .int .u8 0, .int .u8 0, .int .u8 0, .int .u8 0, .int .u8 0, .int .u8 0, .int .u8 0, .int .u8 0, .int .u8 0, .int .u8 0, .int .u8 0, .int .u8 0, .int .u8 0, .int .u8 0, .int .u8 0, .int .u8 0, .int .u8 0])).run Try.prog w = .ok true w := by
  rw [zeroLit, Try.eqKeyIn zeroKey zeroKey zeroKey_length zeroKey_length w, beq_self_eq_true]
end Go.Proofs.Ytpgjcmccfpjmoaa
end
section
namespace Go.Proofs.Ytpgjcmccfpjmoaa
open Go.RowKit
set_option linter.unusedVariables false
set_option maxRecDepth 20000

theorem ofLowB_inj : ∀ {a b : List UInt8}, a.length = b.length → ofLowB a = ofLowB b → a = b
  | [], [], _, _ => rfl
  | x :: a, y :: b, h, he => by
    simp only [ofLowB] at he
    have h1 := x.toNat_lt
    have h2 := y.toNat_lt
    have e1 : x = y := UInt8.toNat_inj.1 (by omega)
    have e2 := ofLowB_inj (a := a) (b := b) (by simpa using h) (by omega)
    rw [e1, e2]
theorem lowB_ofLowB (key : List UInt8) (h : key.length = 32) : lowB (ofLowB key) 32 = key :=
  ofLowB_inj (by rw [lowB_length, h]) (by rw [ofLowB_lowB, ← h, Nat.mod_eq_of_lt (ofLowB_lt key)])
/-- The number of a key: without the highest bit, modulo p. -/
def numK (key : List UInt8) : Nat := ofLowB key % Mx ^ 5 % pF
theorem numK_lt (key : List UInt8) : numK key < pF := Nat.mod_lt _ (by decide)
theorem numK_key (n : Nat) (hn : n < pF) : numK (lowB n 32) = n := by
  unfold numK
  have h := pF_lt
  rw [ofLowB_lowB, Nat.mod_eq_of_lt (a := n) (b := 256 ^ 32) (Nat.lt_trans hn (by decide)), Nat.mod_eq_of_lt (Nat.lt_trans hn h), Nat.mod_eq_of_lt hn]
/-- Whether it was whole. -/
theorem whole_iff (key : List UInt8) (hk : key.length = 32) : (lowB (numK key) 32 == key) = decide (ofLowB key < pF) := by
  rw [Bool.eq_iff_iff, beq_iff_eq, decide_eq_true_eq]
  constructor
  · intro h
    have e := congrArg ofLowB h
    have hlt : numK key < 256 ^ 32 := Nat.lt_trans (numK_lt key) (by decide)
    rw [ofLowB_lowB, Nat.mod_eq_of_lt hlt] at e
    rw [← e]
    exact numK_lt key
  · intro h
    have e : numK key = ofLowB key := by
      unfold numK
      rw [Nat.mod_eq_of_lt (Nat.lt_trans h pF_lt), Nat.mod_eq_of_lt h]
    rw [e, lowB_ofLowB key hk]

set_option maxHeartbeats 2000000 in
theorem Of_any (key : List UInt8) (hk : key.length = 32) (w : World) :
    Calls Try.prog 23 #[keyV key] w (RetV w (.tuple #[.agg (natsC (elemL (numK key))), .bool (decide (ofLowB key < pF))])) := by
  have RD : Hid (∀ w, Calls Try.prog 37 #[.agg (keyC key)] w (RetV w (.agg (natsC (digL 5 (ofLowB key)))))) := read_any key hk
  have RE : Hid (∀ w, Calls Try.prog 36 #[.agg (natsC (digL 5 (ofLowB key)))] w (RetV w (.agg (natsC (elemL (numK key)))))) := fun w => by
    have h := reduced_any w (digL 5 (ofLowB key)) (digL_length 5 _) (fun x hx => Nat.lt_trans (digL_lt 5 _ x hx) (by decide))
    rw [valL_digL] at h
    exact h
  have KK : Hid (∀ w, Calls Try.prog 25 #[.agg (natsC (elemL (numK key)))] w (RetV w (.agg (keyC (lowB (numK key) 32))))) := Key_any (numK key) (numK_lt key)
  have HQ := Lib.hid (fun W => Try.eqKeyIn (lowB (numK key) 32) key (lowB_length _ _) hk W)
  rw [whole_iff key hk] at HQ
  generalize decide (ofLowB key < pF) = b at HQ ⊢
  have HK := Lib.hid hk
  clear hk
  generalize digL 5 (ofLowB key) = z at RD RE
  generalize numK key = n at RE KK HQ ⊢
  have E0 := Env.start w
  go_enter Try.func23, Try.ntmps23
  go_wp2_with (first
    | ((with_reducible refine wpE_box (o := ⟨some 1, _, _, _, _, _⟩) rfl 23 (.tmp 0) rfl (keyC key) (by with_unfolding_all rfl) E0 ?_); intro g1 w1 E1)
    | ((with_reducible refine wpE_alloc (o := ⟨some 2, _, _, _, _, _⟩) rfl 45 rfl (natsC (zero5)) Try.zero5e E1 ?_); intro g2 w2 E2)
    | (with_reducible refine wpE_load (o := ⟨some 4, _, _, _, _, _⟩) rfl 23 (.tmp 1) rfl 1 g1 23 (keyC (key)) _ (by with_unfolding_all rfl) (by with_unfolding_all rfl) Try.underlying23 rfl (Try.sizeKey _ HK.out) E2 ?_)
    | ((with_reducible refine (RD.out _).mono ?_); rintro e w3 ⟨rfl, b_w3⟩; have E3 := E2.call b_w3; clear b_w3)
    | ((with_reducible refine (RE.out _).mono ?_); rintro e w4 ⟨rfl, b_w4⟩; have E4 := E3.call b_w4; clear b_w4)
    | ((with_reducible refine wpE_store (o := ⟨none, _, _, _, _, _⟩) rfl 45 (.tmp 2) (.tmp 6) rfl 0 g2 45 (natsC (zero5)) (natsC (elemL n)) (by with_unfolding_all rfl) (by with_unfolding_all rfl) (by with_unfolding_all rfl) (natsC_same zero5_length (elemL_length _)) (sizeN Try.sz5e _ (elemL_length _)) (natsC_one _) E4 ?_); intro w5 E5; simp only [List.set_cons_zero] at E5))
  refine region_class _ E5.drew (by kernel_rfl) (by kernel_rfl) ?_
  refine qE_load (by rfl) _ (.tmp 2) rfl 0 g2 45 (natsC (elemL n)) _ rfl rfl Try.underlying45 rfl (sizeN Try.sz5e _ (elemL_length _)) ?_
  simp only [Act.put, List.setIfInBounds_toArray, List.set_cons_zero, List.set_cons_succ]
  refine qE_load (by rfl) _ (.tmp 2) rfl 0 g2 45 (natsC (elemL n)) _ rfl rfl Try.underlying45 rfl (sizeN Try.sz5e _ (elemL_length _)) ?_
  simp only [Act.put, List.setIfInBounds_toArray, List.set_cons_zero, List.set_cons_succ]
  refine q_call (by rfl) 25 _ (fun W => by go_simp) (fun W hW => hW.calls (KK.out W)) ?_
  simp only [Act.put, List.setIfInBounds_toArray, List.set_cons_zero, List.set_cons_succ]
  refine qE_load (by rfl) _ (.tmp 1) rfl 1 g1 23 (keyC (key)) _ rfl rfl Try.underlying23 rfl (Try.sizeKey _ HK.out) ?_
  simp only [Act.put, List.setIfInBounds_toArray, List.set_cons_zero, List.set_cons_succ]
  refine q_run (by rfl) (v := .bool b) (fun W _ => by have hq := HQ.out; have hg := Try.eqGuardKey; clear E5 HQ; go_simp) ?_
  simp only [Act.put, List.setIfInBounds_toArray, List.set_cons_zero, List.set_cons_succ]
  refine qE_same (by rfl) 45 (.tmp 2) (.tmp 7) rfl 0 g2 45 (natsC (elemL n)) rfl rfl rfl (sizeN Try.sz5e _ (elemL_length _)) (natsC_one _) ?_
  simp only [Act.put]
  refine q_run (by rfl) (v := .bool b) (fun W _ => by go_simp) ?_
  simp only [Act.put, List.setIfInBounds_toArray, List.set_cons_zero, List.set_cons_succ]
  refine wpQuiet_nil ?_
  intro w8 E8
  go_wp2
  exact bodyPost_ret (ret_row_tmp rfl _ g2 45 (natsC (elemL n)) _ rfl (E8.row 0 rfl) Try.underlying45 rfl (sizeN Try.sz5e _ (elemL_length _))) rfl (E8.ret _)
end Go.Proofs.Ytpgjcmccfpjmoaa
end
