/-
  cablegramref01.Same, as walks want it. Conditions: as each theorem names them.
-/
import Derived.Test.YtenmgpijhaalbaaA
namespace Go.Proofs.Ytenmgpijhaalbaa
open Go.RowKit

theorem same_ret (w : World) (va vb : Value) (a b : List UInt8) (ha : Bs w va a) (hb : Bs w vb b) :
    Calls Try.prog 24 #[va, vb] w (RetV w (.bool (a == b))) := (refSame w va vb a b ha hb).mono fun _ _ h => RetV.quiet h
theorem same_yes (w : World) (va vb : Value) (a : List UInt8) (ha : Bs w va a) (hb : Bs w vb a) :
    Calls Try.prog 24 #[va, vb] w (RetV w (.bool true)) := by
  have := same_ret w va vb a a ha hb
  rwa [beq_self_eq_true] at this
end Go.Proofs.Ytenmgpijhaalbaa
