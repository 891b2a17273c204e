/-
  Contracts on keys: ToKey (the program's and the document's answer), Bytes. Conditions: as each theorem names them.
-/
import Derived.Test.YtemjlolpbbcclaaB
import Derived.Test.YtemjlolpbbcclaaRow
namespace Go.Proofs.Ytemjlolpbbcclaa
open Go.RowKit
set_option linter.unusedVariables false

/-- A key, as a value; and the one of zeros. -/
def keyC (l : List UInt8) : Array Value := (cellsB l).toArray
def keyV (l : List UInt8) : Value := .agg (keyC l)
def zeroKey : List UInt8 := List.replicate 32 0
theorem zeroKey_length : zeroKey.length = 32 := by simp [zeroKey]
theorem keyC_size (l : List UInt8) : (keyC l).size = l.length := by simp [keyC, cellsB_length]
theorem keyC_same {a b : List UInt8} (ha : a.length = 32) (hb : b.length = 32) : (keyC a).size = (keyC b).size := by rw [keyC_size, keyC_size, ha, hb]
theorem keyC_one (l : List UInt8) : ∀ u ∈ (keyC l).toList, u.oneCell' = true := by
  intro u hu
  exact cellsB_one l u (by simpa [keyC] using hu)
theorem Try.zeroK : (Try.prog.info? 32).map (·.zero) = some (some (.agg (keyC zeroKey))) := by kernel_rfl
theorem Try.sizeK : (Try.prog.info? 32).map (·.size) = some 32 := by kernel_rfl
theorem Try.sizeKey (l : List UInt8) (h : l.length = 32) : (Try.prog.info? 32).map (·.size) = some (keyC l).size := by rw [keyC_size, h]; exact Try.sizeK

theorem Try.sizeB : (Try.prog.info? 5).map (·.size) = some 1 := by kernel_rfl
theorem cellsB_min {l : List UInt8} (h : l.length = 32) : (cellsB l).length = Nat.min l.length 32 := by rw [cellsB_length, h]; rfl
theorem copy_fit {l : List UInt8} (h : l.length = 32) : 0 + (cellsB l).length ≤ (cellsB zeroKey).length := by rw [cellsB_length, cellsB_length, h, zeroKey_length]; omega
theorem copied {w : World} {g : Nat} {t : TypeId} {l : List UInt8} (h : l.length = 32) (hr : w.heap[g]? = some (.cells (splice (cellsB zeroKey) 0 (cellsB l)).toArray t (0, 0))) : RowAt w g t (keyC l) := by
  have e : splice (cellsB zeroKey) 0 (cellsB l) = cellsB l := by
    unfold splice
    rw [List.drop_eq_nil_of_le (by rw [cellsB_length, cellsB_length, h, zeroKey_length]; omega)]
    simp
  rw [e] at hr
  exact hr
theorem copy_src {w w1 w2 : World} {A : Option Addr} {n c : Nat} {l : List UInt8} {g : Nat} (h : Bs w (.slice A n c) l) (h1 : Below w.heap.size w w1) (h2 : Below w1.heap.size w1 w2) :
    0 < (cellsB l).length → some (⟨g, 0, none⟩ : Addr) = some ⟨g, 0, none⟩ ∧ ∃ ad, A = some ad ∧ ∀ j v, (cellsB l)[j]? = some v → w2.cell? (ad.add j) = some v := by
  intro hp
  refine ⟨rfl, ?_⟩
  obtain ⟨A', c', hv, _, _, h3⟩ := (h.below h1).below h2
  injection hv with e1 e2 e3
  subst e1
  rw [cellsB_length] at hp
  obtain ⟨b, off, rfl, hc⟩ := h3 hp
  refine ⟨_, rfl, fun j u hu => ?_⟩
  have hj : j < l.length := by
    have := (List.getElem?_eq_some_iff.1 hu).1
    rwa [cellsB_length] at this
  have hadd : (⟨b, off, none⟩ : Addr).add j = ⟨b, off + j, none⟩ := by unfold Addr.add; split <;> simp_all
  rw [hadd, hc j hj, ← hu, cellsB_get l j hj]

theorem below_new {w w1 w2 w3 : World} {g1 g2 : Nat} {t1 t2 t3 : TypeId} {c1 c2 c3 : Array Value} (n1 : NewRow w g1 t1 c1 w1) (n2 : NewRow w1 g2 t2 c2 w2) (p3 : PutRow w2 g1 t3 c3 w3) : Below w.heap.size w w3 :=
  p3.below (below_size n1.below n2.below) (by have := n1.below.size; have := n2.below.size; omega) (by rw [n1.spot]; exact Nat.le_refl _)

set_option maxHeartbeats 1000000 in
theorem ToKey_short (w : World) (v : Value) (l : List UInt8) (h : Bs w v l) (hl : l.length < 32) :
    Calls Try.prog 23 #[v] w (RetV w (.tuple #[keyV zeroKey, .int .i64 3])) := by
  obtain ⟨A, c, rfl, h1, h2, h3⟩ := h
  unfold maxLen at h2
  clear h3
  have hd : decide ((l.length : Int) < 32) = true := by simp; omega
  go_enter Try.func23, Try.ntmps23
  go_wp2_with (first | ((with_reducible refine wpList_alloc_row (o := ⟨some 2, _, _, _, _, _⟩) rfl 32 rfl (keyC zeroKey) Try.zeroK ?_); intro g1 w1 n1) | ((with_reducible refine wpList_alloc_row (o := ⟨some 4, _, _, _, _, _⟩) rfl 32 rfl (keyC zeroKey) Try.zeroK ?_); intro g2 w2 n2) | (with_reducible refine wpList_load_row rfl 32 (.tmp 4) rfl g2 (by with_unfolding_all rfl) 32 (keyC zeroKey) (0, 0) (.array 32 5) (by with_unfolding_all exact n2.row) Try.underlying32 rfl (Try.sizeKey _ zeroKey_length) ?_) | ((with_reducible refine wpList_store_row rfl 32 (.tmp 2) (.tmp 9) rfl g1 32 (keyC zeroKey) (keyC zeroKey) (by with_unfolding_all rfl) (by with_unfolding_all rfl) (n1.row.kept n2.below) (keyC_same zeroKey_length zeroKey_length) (Try.sizeKey _ zeroKey_length) (keyC_one _) ?_); intro w3 p3))
  refine bodyPost_ret (ret_row_tmp rfl _ g1 32 (keyC zeroKey) (.array 32 5) rfl p3.row Try.underlying32 rfl (Try.sizeKey _ zeroKey_length)) rfl ⟨rfl, ?_⟩
  exact below_new n1 n2 p3

set_option maxHeartbeats 1000000 in
theorem ToKey_long (w : World) (v : Value) (l : List UInt8) (h : Bs w v l) (hl : 32 < l.length) :
    Calls Try.prog 23 #[v] w (RetV w (.tuple #[keyV zeroKey, .int .i64 2])) := by
  obtain ⟨A, c, rfl, h1, h2, h3⟩ := h
  unfold maxLen at h2
  clear h3
  have hd : decide ((l.length : Int) < 32) = false := by simp; omega
  have hd2 : decide ((32 : Int) < (l.length : Int)) = true := by simp; omega
  go_enter Try.func23, Try.ntmps23
  go_wp2_with (first | ((with_reducible refine wpList_alloc_row (o := ⟨some 2, _, _, _, _, _⟩) rfl 32 rfl (keyC zeroKey) Try.zeroK ?_); intro g1 w1 n1) | ((with_reducible refine wpList_alloc_row (o := ⟨some 4, _, _, _, _, _⟩) rfl 32 rfl (keyC zeroKey) Try.zeroK ?_); intro g2 w2 n2) | (with_reducible refine wpList_load_row rfl 32 (.tmp 4) rfl g2 (by with_unfolding_all rfl) 32 (keyC zeroKey) (0, 0) (.array 32 5) (by with_unfolding_all exact n2.row) Try.underlying32 rfl (Try.sizeKey _ zeroKey_length) ?_) | ((with_reducible refine wpList_store_row rfl 32 (.tmp 2) (.tmp 14) rfl g1 32 (keyC zeroKey) (keyC zeroKey) (by with_unfolding_all rfl) (by with_unfolding_all rfl) (n1.row.kept n2.below) (keyC_same zeroKey_length zeroKey_length) (Try.sizeKey _ zeroKey_length) (keyC_one _) ?_); intro w3 p3))
  refine bodyPost_ret (ret_row_tmp rfl _ g1 32 (keyC zeroKey) (.array 32 5) rfl p3.row Try.underlying32 rfl (Try.sizeKey _ zeroKey_length)) rfl ⟨rfl, ?_⟩
  exact below_new n1 n2 p3

set_option maxHeartbeats 1000000 in
theorem ToKey_full (w : World) (v : Value) (l : List UInt8) (h : Bs w v l) (hl : l.length = 32) :
    Calls Try.prog 23 #[v] w (RetV w (.tuple #[keyV l, .int .i64 0])) := by
  have HB := Lib.hid h
  obtain ⟨A, c, rfl, h1, h2, h3⟩ := h
  unfold maxLen at h2
  have HL := Lib.hid hl
  have hl1 : l.length ≤ 32 := by omega
  have hl2 : 32 ≤ l.length := by omega
  clear hl
  have hd : decide ((l.length : Int) < 32) = false := by simp; omega
  have hd2 : decide ((32 : Int) < (l.length : Int)) = false := by simp; omega
  go_enter Try.func23, Try.ntmps23
  go_wp2_with (first | ((with_reducible refine wpList_alloc_row (o := ⟨some 2, _, _, _, _, _⟩) rfl 32 rfl (keyC zeroKey) Try.zeroK ?_); intro g1 w1 n1) | ((with_reducible refine wpList_alloc_row (o := ⟨some 4, _, _, _, _, _⟩) rfl 32 rfl (keyC zeroKey) Try.zeroK ?_); intro g2 w2 n2) | ((with_reducible refine wpList_copy_splice (o := ⟨some 17, _, _, _, _, _⟩) rfl (.tmp 15) (.tmp 16) 23 23 rfl 5 Try.underlying23 Try.sizeB (some ⟨g2, 0, none⟩) A 32 32 l.length c (by with_unfolding_all rfl) (by with_unfolding_all rfl) g2 0 (cellsB zeroKey) 32 (by with_unfolding_all exact n2.row) (cellsB l) (cellsB_min HL.out) (copy_src HB.out n1.below n2.below) (copy_fit HL.out) (cellsB_one l) w1.heap.size w1 n2.below (Nat.le_of_eq n2.spot.symm) ?_); (intro w3 hr3 hb3; have hr4 := copied HL.out hr3.out)) | (with_reducible refine wpList_load_row rfl 32 (.tmp 4) rfl g2 (by with_unfolding_all rfl) 32 (keyC l) (0, 0) (.array 32 5) (by with_unfolding_all exact hr4) Try.underlying32 rfl (Try.sizeKey _ HL.out) ?_) | ((with_reducible refine wpList_store_row rfl 32 (.tmp 2) (.tmp 18) rfl g1 32 (keyC zeroKey) (keyC l) (by with_unfolding_all rfl) (by with_unfolding_all rfl) (n1.row.kept hb3) (keyC_same zeroKey_length HL.out) (Try.sizeKey _ HL.out) (keyC_one _) ?_); intro w4 p4))
  refine bodyPost_ret (ret_row_tmp rfl _ g1 32 (keyC l) (.array 32 5) rfl p4.row Try.underlying32 rfl (Try.sizeKey _ HL.out)) rfl ⟨rfl, ?_⟩
  exact p4.below (below_size n1.below hb3) (by have := n1.below.size; have := hb3.size; omega) (by rw [n1.spot]; exact Nat.le_refl _)

theorem ToKey_any (w : World) (v : Value) (l : List UInt8) (h : Bs w v l) :
    Calls Try.prog 23 #[v] w (RetV w (.tuple #[keyV (if l.length = 32 then l else zeroKey), .int .i64 (if l.length = 32 then 0 else if l.length < 32 then 3 else 2)])) := by
  by_cases h1 : l.length = 32
  · rw [if_pos h1, if_pos h1]
    exact ToKey_full w v l h h1
  · rw [if_neg h1, if_neg h1]
    by_cases h2 : l.length < 32
    · rw [if_pos h2]
      exact ToKey_short w v l h h2
    · rw [if_neg h2]
      exact ToKey_long w v l h (by omega)
end Go.Proofs.Ytemjlolpbbcclaa
