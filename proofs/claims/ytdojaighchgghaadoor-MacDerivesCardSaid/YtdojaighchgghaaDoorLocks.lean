/-
  The numbers under which this dump holds package sync's Mutex, and that it holds it. Conditions: none.
-/
import Derived.Test.YtdojaighchgghaaDoorProg
import Derived.Conc.MuLone
import Derived.Conc.MuData
import Derived.KernelRfl
namespace Go.Proofs.YtdojaighchgghaaDoor
open Go.Proofs
theorem muLib : Go.Conc.Locks.MuLib Tryd.prog { lock := 48, unlock := 49, ilock := 67, iunlock := 68, lockSlow := 77, unlockSlow := 80, disable := 73, enable := 75, acquire := 76, relMerge := 78, cas32 := 74, add32 := 79, tMutex := 81, tIMutex := 79, tPMutex := 104, tPIMutex := 109, tPI32 := 111, tUP := 113, tNoCopy := 77, tU32 := 22 } :=
  ⟨Tryd.func48, Tryd.func49, Tryd.func67, Tryd.func68, Tryd.func73, Tryd.func75, Tryd.func76, Tryd.func78, Tryd.func74, Tryd.func79, Tryd.underlying79, Tryd.runUnderlying79, Tryd.sizeOf79, Tryd.isAgg79, Tryd.zeroValue79, Tryd.underlying81, Tryd.runUnderlying81, Tryd.sizeOf81, Tryd.isAgg81, Tryd.zeroValue81, Tryd.underlying104, Tryd.runUnderlying104, Tryd.sizeOf104, Tryd.isAgg104, Tryd.zeroValue104, Tryd.underlying109, Tryd.runUnderlying109, Tryd.sizeOf109, Tryd.isAgg109, Tryd.zeroValue109, Tryd.underlying111, Tryd.runUnderlying111, Tryd.sizeOf111, Tryd.isAgg111, Tryd.zeroValue111, Tryd.underlying113, Tryd.runUnderlying113, Tryd.sizeOf113, Tryd.isAgg113, Tryd.zeroValue113, Tryd.underlying77, Tryd.runUnderlying77, Tryd.sizeOf77, Tryd.isAgg77, Tryd.zeroValue77, Tryd.underlying21, Tryd.runUnderlying21, Tryd.sizeOf21, Tryd.isAgg21, Tryd.zeroValue21, (by kernel_rfl)⟩
end Go.Proofs.YtdojaighchgghaaDoor
