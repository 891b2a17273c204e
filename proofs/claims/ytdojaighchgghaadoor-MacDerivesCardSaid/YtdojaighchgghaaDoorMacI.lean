/-
  Contracts of mac.expanded and of mac.Derive's loop. Conditions: as each theorem names them.
-/
import Derived.Test.YtdojaighchgghaaDoorMacH
namespace Go.Proofs.YtdojaighchgghaaDoor
open Go.RowKit Go.Shelf
attribute [local go_sem] Oper.semAt_some
set_option linter.unusedVariables false
set_option maxRecDepth 20000

set_option maxHeartbeats 1000000 in
theorem expanded_any (w0 x w : World) (g n : Nat) (hr : Run w0 x g n w) (A : Option Addr) (l c : Nat) (key : List UInt8) (hk : key.length = 32) (N : Nat) :
    Calls Tryd.prog 55 #[.pointer (some ⟨g, 0, none⟩), keyV key, .slice A l c, .int .i64 (N : Int)] w fun e w' => ∃ gn gm gk gi : Nat,
      e = .returned (.func (.func 70) #[] #[.pointer (some ⟨gn, 0, none⟩), .pointer (some ⟨gm, 0, none⟩), .pointer (some ⟨gk, 0, none⟩), .pointer (some ⟨gi, 0, none⟩)]) ∧
      XEnv w0 x w' g n gn gm gk gi (.slice A l c) key N ∧ (w.heap.size ≤ gn ∧ w.heap.size ≤ gm ∧ w.heap.size ≤ gk ∧ w.heap.size ≤ gi) ∧ Below w.heap.size w w' := by
  have HR := Lib.hid hr
  clear hr
  go_enter Tryd.func55, Tryd.ntmps55
  go_wp2_with ((with_reducible refine wpList_box_row (o := ⟨some 5, _, _, _, _, _⟩) rfl 33 (.tmp 1) rfl (keyC key) (by with_unfolding_all rfl) ?_); intro g1 w1 n1)
  go_ret
  have z1 := n1.size
  have e1 := n1.spot
  simp only [World.size_alloc] at e1 z1
  have b1 : Below w.heap.size w (w.alloc (.cells #[.pointer (some ⟨g, 0, none⟩)] 31)) := alloc_below _ _
  have b2 : Below w.heap.size w w1 := below_size b1 n1.below
  have b3 : Below w.heap.size w (w1.alloc (.cells #[.slice A l c] 27)) := b2.alloc b2.size _
  have b4 : Below w.heap.size w ((w1.alloc (.cells #[.slice A l c] 27)).alloc (.cells #[.int .i64 (N : Int)] 3)) := b3.alloc b3.size _
  refine ⟨w1.heap.size + 1, w.heap.size, g1, w1.heap.size, ?_, ⟨⟨n, Nat.le_refl _, HR.out.kept b4⟩, ?_, ?_, ?_, ?_⟩, ⟨by omega, by omega, by omega, by omega⟩, b4⟩
  · simp
  · have := Boxed.new (w1.alloc (.cells #[.slice A l c] 27)) 3 (.int .i64 (N : Int))
    rwa [World.size_alloc] at this
  · exact (((Boxed.new w 31 (.pointer (some ⟨g, 0, none⟩))).kept (grown_of_below n1.below) (by simp)).alloc _).alloc _
  · exact (n1.row.alloc _).alloc _
  · exact (Boxed.new w1 27 (.slice A l c)).alloc _
end Go.Proofs.YtdojaighchgghaaDoor
