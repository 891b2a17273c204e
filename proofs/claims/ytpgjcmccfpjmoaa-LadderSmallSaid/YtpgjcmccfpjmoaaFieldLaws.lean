/-
  Sums, differences, products and powers modulo p as plain numbers: the laws. Conditions: as each names them.
-/
import Derived.Test.YtpgjcmccfpjmoaaFieldI
namespace Go.Proofs.Ytpgjcmccfpjmoaa
set_option linter.unusedVariables false

theorem add_assocF (a b c : Nat) : ((a + b) % pF + c) % pF = (a + (b + c) % pF) % pF := by rw [Nat.mod_add_mod, Nat.add_mod_mod, Nat.add_assoc]
theorem mul_assocF (a b c : Nat) : a * b % pF * c % pF = a * (b * c % pF) % pF := by rw [Nat.mod_mul_mod, Nat.mul_mod_mod, Nat.mul_assoc]
theorem mul_addF (a b c : Nat) : a * ((b + c) % pF) % pF = (a * b % pF + a * c % pF) % pF := by rw [Nat.mul_mod_mod, Nat.mul_add, Nat.mod_add_mod, Nat.add_mod_mod]
theorem sub_addF (a b : Nat) (ha : a < pF) (hb : b < pF) : (subF a b + b) % pF = a := by
  unfold subF
  rw [Nat.mod_add_mod, show a + (pF - b) + b = a + pF by omega, Nat.add_mod_right, Nat.mod_eq_of_lt ha]
theorem add_subF (a b : Nat) (ha : a < pF) (hb : b < pF) : subF ((a + b) % pF) b = a := by
  unfold subF
  rw [Nat.mod_add_mod, show a + b + (pF - b) = a + pF by omega, Nat.add_mod_right, Nat.mod_eq_of_lt ha]
theorem sub_uniq {a b c : Nat} (ha : a < pF) (hb : b < pF) (hc : c < pF) (h : (c + b) % pF = a) : c = subF a b := by
  rw [← h, add_subF c b hc hb]
theorem modP_lt (a : Nat) : a % pF < pF := Nat.mod_lt _ (by decide)
theorem mul_subF (a b c : Nat) (ha : a < pF) (hb : b < pF) (hc : c < pF) : a * subF b c % pF = subF (a * b % pF) (a * c % pF) := by
  refine sub_uniq (modP_lt _) (modP_lt _) (modP_lt _) ?_
  rw [← mul_addF, sub_addF b c hb hc]
end Go.Proofs.Ytpgjcmccfpjmoaa
