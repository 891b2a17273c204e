/-
  Contracts on keys: ToKey (the program's and the document's answer), Bytes. Conditions: as each theorem names them.
-/
import Derived.Test.YtpgjcmccfpjmoaaB
import Derived.Test.YtpgjcmccfpjmoaaRow
namespace Go.Proofs.Ytpgjcmccfpjmoaa
open Go.RowKit
set_option linter.unusedVariables false
set_option maxRecDepth 20000

/-- A key, as a value; and the one of zeros. -/
def keyC (l : List UInt8) : Array Value := (cellsB l).toArray
def keyV (l : List UInt8) : Value := .agg (keyC l)
def zeroKey : List UInt8 := List.replicate 32 0
theorem zeroKey_length : zeroKey.length = 32 := by simp [zeroKey]
theorem keyC_size (l : List UInt8) : (keyC l).size = l.length := by simp [keyC, cellsB_length]
theorem keyC_same {a b : List UInt8} (ha : a.length = 32) (hb : b.length = 32) : (keyC a).size = (keyC b).size := by rw [keyC_size, keyC_size, ha, hb]
theorem keyC_one (l : List UInt8) : ∀ u ∈ (keyC l).toList, u.oneCell' = true := by
  intro u hu
  exact cellsB_one l u (by simpa [keyC] using hu)
theorem Try.zeroK : (Try.prog.info? 23).map (·.zero) = some (some (.agg (keyC zeroKey))) := by kernel_rfl
theorem Try.sizeK : (Try.prog.info? 23).map (·.size) = some 32 := by kernel_rfl
theorem Try.sizeKey (l : List UInt8) (h : l.length = 32) : (Try.prog.info? 23).map (·.size) = some (keyC l).size := by rw [keyC_size, h]; exact Try.sizeK

theorem Try.sizeB : (Try.prog.info? 5).map (·.size) = some 1 := by kernel_rfl
theorem cellsB_min {l : List UInt8} (h : l.length = 32) : (cellsB l).length = Nat.min l.length 32 := by rw [cellsB_length, h]; rfl
theorem copy_fit {l : List UInt8} (h : l.length = 32) : 0 + (cellsB l).length ≤ (cellsB zeroKey).length := by rw [cellsB_length, cellsB_length, h, zeroKey_length]; omega
theorem copied {w : World} {g : Nat} {t : TypeId} {l : List UInt8} (h : l.length = 32) (hr : w.heap[g]? = some (.cells (splice (cellsB zeroKey) 0 (cellsB l)).toArray t (0, 0))) : RowAt w g t (keyC l) := by
  have e : splice (cellsB zeroKey) 0 (cellsB l) = cellsB l := by
    unfold splice
    rw [List.drop_eq_nil_of_le (by rw [cellsB_length, cellsB_length, h, zeroKey_length]; omega)]
    simp
  rw [e] at hr
  exact hr
theorem copy_src {w w1 w2 : World} {A : Option Addr} {n c : Nat} {l : List UInt8} {g : Nat} (h : Bs w (.slice A n c) l) (h1 : Below w.heap.size w w1) (h2 : Below w1.heap.size w1 w2) :
    0 < (cellsB l).length → some (⟨g, 0, none⟩ : Addr) = some ⟨g, 0, none⟩ ∧ ∃ ad, A = some ad ∧ ∀ j v, (cellsB l)[j]? = some v → w2.cell? (ad.add j) = some v := by
  intro hp
  refine ⟨rfl, ?_⟩
  obtain ⟨A', c', hv, _, _, h3⟩ := (h.below h1).below h2
  injection hv with e1 e2 e3
  subst e1
  rw [cellsB_length] at hp
  obtain ⟨b, off, rfl, hc⟩ := h3 hp
  refine ⟨_, rfl, fun j u hu => ?_⟩
  have hj : j < l.length := by
    have := (List.getElem?_eq_some_iff.1 hu).1
    rwa [cellsB_length] at this
  have hadd : (⟨b, off, none⟩ : Addr).add j = ⟨b, off + j, none⟩ := by unfold Addr.add; split <;> simp_all
  rw [hadd, hc j hj, ← hu, cellsB_get l j hj]

theorem below_new {w w1 w2 w3 : World} {g1 g2 : Nat} {t1 t2 t3 : TypeId} {c1 c2 c3 : Array Value} (n1 : NewRow w g1 t1 c1 w1) (n2 : NewRow w1 g2 t2 c2 w2) (p3 : PutRow w2 g1 t3 c3 w3) : Below w.heap.size w w3 :=
  p3.below (below_size n1.below n2.below) (by have := n1.below.size; have := n2.below.size; omega) (by rw [n1.spot]; exact Nat.le_refl _)




end Go.Proofs.Ytpgjcmccfpjmoaa

