/-
  Arrays of words and of bytes as rows, parts of them as slices, copies into them. Conditions: as each theorem names them.
-/
import Derived.Test.YtpgjcmccfpjmoaaWordMath
import Derived.Test.YtpgjcmccfpjmoaaK
import Derived.StillTailTactics
namespace Go.Proofs.Ytpgjcmccfpjmoaa
open Go.RowKit
set_option linter.unusedVariables false

/-- Words, as cells; an array of them. -/
def cellsW (l : List UInt32) : List Value := l.map fun x => Value.int .u32 (x.toNat : Int)
def wordsC (l : List UInt32) : Array Value := (cellsW l).toArray
theorem cellsW_length (l : List UInt32) : (cellsW l).length = l.length := by simp [cellsW]
theorem wordsC_size (l : List UInt32) : (wordsC l).size = l.length := by simp [wordsC, cellsW]
theorem cellsW_one (l : List UInt32) : ∀ u ∈ cellsW l, u.oneCell' = true := by
  intro u hu
  obtain ⟨b, _, rfl⟩ := List.mem_map.1 hu
  rfl
theorem wordsC_one (l : List UInt32) : ∀ u ∈ (wordsC l).toList, u.oneCell' = true := by
  intro u hu
  exact cellsW_one l u (by simpa [wordsC] using hu)
theorem wordsC_get (l : List UInt32) (j : Nat) (h : j < l.length) : (wordsC l)[j]? = some (.int .u32 ((l.getD j 0).toNat : Int)) := by
  simp [wordsC, cellsW, h]
theorem wordsC_cell {w : World} {g : Nat} {t : TypeId} {l : List UInt32} (h : RowAt w g t (wordsC l)) (j : Nat) (hj : j < l.length) : w.cell? ⟨g, j, none⟩ = some (.int .u32 ((l.getD j 0).toNat : Int)) := by
  rw [h.cell, wordsC_get l j hj]
theorem wordsC_put (l : List UInt32) (j : Nat) (x : UInt32) : (wordsC l).setIfInBounds j (.int .u32 (x.toNat : Int)) = wordsC (l.set j x) := by
  apply Array.toList_inj.1
  simp [wordsC, cellsW, List.map_set]
theorem bytesC_cell {w : World} {g : Nat} {t : TypeId} {l : List UInt8} (h : RowAt w g t (keyC l)) (j : Nat) (hj : j < l.length) : w.cell? ⟨g, j, none⟩ = some (.int .u8 (l[j].toNat : Int)) := by
  rw [h.cell]
  have := cellsB_get l j hj
  simpa [keyC] using this

/-- A part of an array of bytes, as a slice. -/
theorem Bs.part {w : World} {g : Nat} {t : TypeId} {l : List UInt8} (h : RowAt w g t (keyC l)) (off n c : Nat) (hn : off + n ≤ l.length) (hc : n ≤ c) (hm : c ≤ maxLen) : Bs w (.slice (some ⟨g, off, none⟩) n c) ((l.drop off).take n) := by
  have hl : ((l.drop off).take n).length = n := by simp; omega
  refine ⟨_, c, by rw [hl], by rw [hl]; exact hc, hm, fun _ => ⟨g, off, rfl, fun j hj => ?_⟩⟩
  rw [hl] at hj
  rw [bytesC_cell h (off + j) (by omega)]
  simp

/-- 'x[l:h]' of an array that lies in a row. -/
theorem run_sliceArr {P : Program} (w : World) (t e : TypeId) (n : Nat) (ht : P.underlying t = some (.array n e)) (hs : (P.info? e).map (·.size) = some 1) (g off l h : Nat) (i j : Int) (hi : i = (l : Int)) (hj : j = (h : Int)) (h1 : l ≤ h) (h2 : h ≤ n) (h3 : l < n) :
    (Instr.sliceAt t (.pointer (some ⟨g, off, none⟩)) (some (.int .i64 i)) (some (.int .i64 j)) none).run P w = .ok (.slice (some ⟨g, off + l, none⟩) (h - l) (n - l)) w := by
  subst hi hj
  obtain ⟨f, hf, hz⟩ := Option.map_eq_some_iff.1 hs
  have hlen : P.arrayLen t = n := by simp [Program.arrayLen, ht]
  have hel : P.elem t = e := by simp [Program.elem, ht]
  rw [run_sliceAt_array_lh w t ⟨g, off, none⟩ (by rw [hlen, hel]; exact ht) .i64 .i64 _ _ (by omega) (by omega) (by rw [hlen]; omega)]
  have hadd : (⟨g, off, none⟩ : Addr).add l = ⟨g, off + l, none⟩ := by unfold Addr.add; split <;> simp_all
  simp [hel, hlen, sizeOf, typeInfo, hf, hz, slicedAt, show ¬ n = l by omega, hadd]
/-- 'x[l:]'. -/
theorem run_sliceArrL {P : Program} (w : World) (t e : TypeId) (n : Nat) (ht : P.underlying t = some (.array n e)) (hs : (P.info? e).map (·.size) = some 1) (g off l : Nat) (i : Int) (hi : i = (l : Int)) (h3 : l < n) :
    (Instr.sliceAt t (.pointer (some ⟨g, off, none⟩)) (some (.int .i64 i)) none none).run P w = .ok (.slice (some ⟨g, off + l, none⟩) (n - l) (n - l)) w := by
  subst hi
  obtain ⟨f, hf, hz⟩ := Option.map_eq_some_iff.1 hs
  have hlen : P.arrayLen t = n := by simp [Program.arrayLen, ht]
  have hel : P.elem t = e := by simp [Program.elem, ht]
  rw [run_sliceAt_array_l w t ⟨g, off, none⟩ (by rw [hlen, hel]; exact ht) .i64 _ (by omega) (by rw [hlen]; omega)]
  have hadd : (⟨g, off, none⟩ : Addr).add l = ⟨g, off + l, none⟩ := by unfold Addr.add; split <;> simp_all
  simp [hel, hlen, sizeOf, typeInfo, hf, hz, slicedAt, show ¬ n = l by omega, hadd]

/-- A row of the call's own that is full is a row as a whole. -/
theorem own_row {w : World} {base : Nat} {e : TypeId} {g n : Nat} {l : List UInt8} (h : w.ownsRow base e 1 (.slice (some ⟨g, 0, none⟩) n n) n (cellsB l)) : RowAt w g e (keyC l) := by
  rcases h.2 with ⟨h1, _⟩ | ⟨g', cap, cur, hv, _, hg, _, _, hs, ht⟩
  · cases h1
  · injection hv with e1 e2 e3
    injection e1 with e1
    injection e1 with e1
    subst e1 e3
    have : cur = keyC l := by
      apply Array.toList_inj.1
      rw [List.take_of_length_le (by simp [hs])] at ht
      rw [ht]
      rfl
    rw [this] at hg
    exact hg
theorem row_bs {w : World} {g : Nat} {t : TypeId} {l : List UInt8} (h : RowAt w g t (keyC l)) (hm : l.length ≤ maxLen) : Bs w (.slice (some ⟨g, 0, none⟩) l.length l.length) l := by
  have := Bs.part h 0 l.length l.length (by omega) (Nat.le_refl _) hm
  simpa using this
theorem bytesC_put (l : List UInt8) (j : Nat) (b : UInt8) : (keyC l).setIfInBounds j (.int .u8 (b.toNat : Int)) = keyC (l.set j b) := by
  apply Array.toList_inj.1
  simp [keyC, cellsB, List.map_set]
theorem splice_bytes (l m : List UInt8) (off : Nat) : splice (cellsB l) off (cellsB m) = cellsB (l.take off ++ m ++ l.drop (off + m.length)) := by
  unfold splice
  simp [cellsB]

theorem copy_from {w : World} {A : Option Addr} {n c : Nat} {l : List UInt8} {d : Option Addr} (h : Bs w (.slice A n c) l) :
    0 < (cellsB l).length → d = d ∧ ∃ ad, A = some ad ∧ ∀ j v, (cellsB l)[j]? = some v → w.cell? (ad.add j) = some v := by
  intro hp
  refine ⟨rfl, ?_⟩
  obtain ⟨A', c', hv, _, _, h3⟩ := h
  injection hv with e1 e2 e3
  subst e1
  rw [cellsB_length] at hp
  obtain ⟨b, off, rfl, hc⟩ := h3 hp
  refine ⟨_, rfl, fun j u hu => ?_⟩
  have hj : j < l.length := by
    have := (List.getElem?_eq_some_iff.1 hu).1
    rwa [cellsB_length] at this
  have hadd : (⟨b, off, none⟩ : Addr).add j = ⟨b, off + j, none⟩ := by unfold Addr.add; split <;> simp_all
  rw [hadd, hc j hj, ← hu, cellsB_get l j hj]

/-- 'x[i]' of an array by value. -/
theorem run_index_arr {P : Program} (w : World) (t e : TypeId) (n : Nat) (cs : Array Value) (kd ek : IntKind) (i : Nat) (ht : P.underlying t = some (.array n e)) (he : P.underlying e = some (.int ek)) (hs : (P.info? e).map (·.size) = some 1) (hi : i < n) (v : Value) (hv : cs[i]? = some v) :
    (Instr.index t (.agg cs) (.int kd (i : Int))).run P w = .ok v w := by
  obtain ⟨f, hf, hz⟩ := Option.map_eq_some_iff.1 hs
  simp [Instr.index, run_underlying ht, asIntOf, hi, part, isAgg, run_underlying he, sizeOf, typeInfo, hf, hz, hv, go_sem]
/-- The same, where the element is an array of m cells. -/
theorem run_index_arr_agg {P : Program} (w : World) (t e e2 : TypeId) (n m k : Nat) (cs : Array Value) (kd : IntKind) (i : Nat) (ht : P.underlying t = some (.array n e)) (he : P.underlying e = some (.array k e2)) (hs : (P.info? e).map (·.size) = some m) (hi : i < n) :
    (Instr.index t (.agg cs) (.int kd (i : Int))).run P w = .ok (.agg (cs.extract (i * m) (i * m + m))) w := by
  obtain ⟨f, hf, hz⟩ := Option.map_eq_some_iff.1 hs
  simp [Instr.index, run_underlying ht, asIntOf, hi, part, isAgg, run_underlying he, sizeOf, typeInfo, hf, hz, go_sem]

/-- Bytes that are there, and zeros behind them. -/
def fillB (a : List UInt8) (n : Nat) : List UInt8 := a ++ List.replicate (n - a.length) 0
theorem fillB_length (a : List UInt8) (n : Nat) (h : a.length ≤ n) : (fillB a n).length = n := by simp [fillB]; omega
theorem fillB_step (a m : List UInt8) (n : Nat) (h : a.length + m.length ≤ n) : (fillB a n).take a.length ++ m ++ (fillB a n).drop (a.length + m.length) = fillB (a ++ m) n := by
  unfold fillB
  rw [List.take_left, List.drop_append, List.drop_of_length_le (by omega), List.nil_append, List.drop_replicate, List.length_append,
    show n - a.length - (a.length + m.length - a.length) = n - (a.length + m.length) by omega]
theorem fillB_set (a : List UInt8) (n : Nat) (x : UInt8) (h : a.length < n) : (fillB a n).set a.length x = fillB (a ++ [x]) n := by
  unfold fillB
  rw [List.set_append_right _ _ (Nat.le_refl _), Nat.sub_self, show n - a.length = (n - (a ++ [x]).length) + 1 by simp; omega, List.replicate_succ, List.set_cons_zero]
  simp
theorem fillB_all (a : List UInt8) (n : Nat) (h : a.length = n) : fillB a n = a := by simp [fillB, h]
theorem fillB_zero (n : Nat) : fillB [] n = List.replicate n 0 := by simp [fillB]
end Go.Proofs.Ytpgjcmccfpjmoaa
