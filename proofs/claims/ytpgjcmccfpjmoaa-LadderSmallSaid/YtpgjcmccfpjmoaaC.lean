/-
  Contracts of octets' and cablegramref01's functions on numbers. Conditions: as each theorem names them.
-/
import Derived.Test.YtpgjcmccfpjmoaaB
namespace Go.Proofs.Ytpgjcmccfpjmoaa
open Go.RowKit
set_option linter.unusedVariables false
set_option maxRecDepth 20000

theorem Low_out (w : World) (n : Nat) (s : Int) (h : s < 1 ∨ 8 < s) :
    Calls Try.prog 45 #[.int .u64 (n : Int), .int .i64 s] w (RetBs w []) := by
  go_enter Try.func45, Try.ntmps45
  go_wp2_with (go_at_call 62; refine (fits_no _ _ h).mono ?_; rintro e w' ⟨rfl, rfl⟩)
  go_ret
  exact ⟨_, rfl, Bs.nil _, Below.refl _ _⟩

theorem Low_any (w : World) (n : Nat) (hn : n < 18446744073709551616) (s : Int) :
    Calls Try.prog 45 #[.int .u64 (n : Int), .int .i64 s] w (RetBs w (lowI n s)) := by
  by_cases h : s < 1 ∨ 8 < s
  · rw [lowI_out n s h]
    exact Low_out w n s h
  · obtain ⟨t, rfl⟩ := Int.eq_ofNat_of_zero_le (a := s) (by omega)
    rw [lowI_in n t (by omega) (by omega)]
    exact Low_in w n t hn (by omega) (by omega)





end Go.Proofs.Ytpgjcmccfpjmoaa

