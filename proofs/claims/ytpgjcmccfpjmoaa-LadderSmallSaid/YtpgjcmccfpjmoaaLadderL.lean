/-
  What Clamp leaves of a secret, and a point's highest bit. Conditions: keys have thirty-two bytes.
-/
import Derived.Test.YtpgjcmccfpjmoaaLadderK
import Derived.Test.YtpgjcmccfpjmoaaE
namespace Go.Proofs.Ytpgjcmccfpjmoaa
open Go.RowKit
set_option linter.unusedVariables false
set_option maxRecDepth 20000

theorem set_both (l : List UInt8) (a b c d : UInt8) : (((l.set 0 a).set 31 b).set 0 c).set 31 d = (l.set 0 c).set 31 d := by
  rw [List.set_comm b c (show (31 : Nat) ≠ 0 by omega), List.set_set, List.set_set]
theorem clamp_twice (s : List UInt8) (hs : s.length = 32) : clampK (clampK s) = clampK s := by
  have h0 : ∀ x : UInt8, x &&& 248 &&& 248 = x &&& 248 := fun x => by rw [UInt8.and_assoc]; rfl
  have h1 : ∀ x : UInt8, (((x &&& 127) ||| 64) &&& 127) ||| 64 = (x &&& 127) ||| 64 := fun x => by
    have h : ∀ n : Fin 256, ((n.val &&& 127 ||| 64) &&& 127) ||| 64 = (n.val &&& 127) ||| 64 := by decide +kernel
    exact UInt8.toNat_inj.1 (by simpa using h ⟨x.toNat, x.toNat_lt⟩)
  unfold clampK
  have e0 : ((s.set 0 (s.getD 0 0 &&& 248)).set 31 ((s.getD 31 0 &&& 127) ||| 64)).getD 0 0 = s.getD 0 0 &&& 248 := by
    rw [List.getD_eq_getElem?_getD, List.getElem?_set_ne (by omega), List.getElem?_set_self (by omega)]; rfl
  have e1 : ((s.set 0 (s.getD 0 0 &&& 248)).set 31 ((s.getD 31 0 &&& 127) ||| 64)).getD 31 0 = (s.getD 31 0 &&& 127) ||| 64 := by
    rw [List.getD_eq_getElem?_getD, List.getElem?_set_self (by rw [List.length_set]; omega)]; rfl
  rw [e0, e1, h0, h1, set_both]
theorem low_bits (x b : UInt8) : (x ^^^ (b &&& 7)) &&& 248 = x &&& 248 := by
  have h : ∀ n : Fin 256, ∀ m : Fin 256, (n.val ^^^ (m.val &&& 7)) &&& 248 = n.val &&& 248 := by decide +kernel
  exact UInt8.toNat_inj.1 (by simpa using h ⟨x.toNat, x.toNat_lt⟩ ⟨b.toNat, b.toNat_lt⟩)
theorem high_bits (x b : UInt8) : ((x ^^^ (b &&& 192)) &&& 127) ||| 64 = (x &&& 127) ||| 64 := by
  have h : ∀ n : Fin 256, ∀ m : Fin 256, ((n.val ^^^ (m.val &&& 192)) &&& 127) ||| 64 = (n.val &&& 127) ||| 64 := by decide +kernel
  exact UInt8.toNat_inj.1 (by simpa using h ⟨x.toNat, x.toNat_lt⟩ ⟨b.toNat, b.toNat_lt⟩)
theorem clamp_other (s : List UInt8) (hs : s.length = 32) (b : UInt8) : clampK ((s.set 0 (s.getD 0 0 ^^^ (b &&& 7))).set 31 (s.getD 31 0 ^^^ (b &&& 192))) = clampK s := by
  obtain ⟨x, hx⟩ : ∃ x, x = s.getD 0 0 := ⟨_, rfl⟩
  obtain ⟨y, hy⟩ : ∃ x, x = s.getD 31 0 := ⟨_, rfl⟩
  rw [← hx, ← hy]
  unfold clampK
  have e0 : ((s.set 0 (x ^^^ (b &&& 7))).set 31 (y ^^^ (b &&& 192))).getD 0 0 = x ^^^ (b &&& 7) := by
    rw [List.getD_eq_getElem?_getD, List.getElem?_set_ne (by omega), List.getElem?_set_self (by omega)]; rfl
  have e1 : ((s.set 0 (x ^^^ (b &&& 7))).set 31 (y ^^^ (b &&& 192))).getD 31 0 = y ^^^ (b &&& 192) := by
    rw [List.getD_eq_getElem?_getD, List.getElem?_set_self (by rw [List.length_set]; omega)]; rfl
  rw [e0, e1, ← hx, ← hy, low_bits, high_bits, set_both]
theorem raw_clamp (s p : List UInt8) (hs : s.length = 32) : rawK (clampK s) p = rawK s p := by
  unfold rawK; rw [clamp_twice s hs]
theorem raw_other (s t p : List UInt8) (h : clampK t = clampK s) : rawK t p = rawK s p := by
  unfold rawK; rw [h]
theorem ofLowB_cut : ∀ (l : List UInt8) (k : Nat) (x : UInt8) (hk : k < l.length), ofLowB (l.set k x) + 256 ^ k * (l.getD k 0).toNat = ofLowB l + 256 ^ k * x.toNat
  | a :: l, 0, x, _ => by simp [ofLowB]; omega
  | a :: l, k + 1, x, hk => by
    have h := ofLowB_cut l k x (by simpa using hk)
    simp only [List.set_cons_succ, ofLowB, List.getD_cons_succ, Nat.pow_succ]
    generalize (l.getD k 0).toNat = y at h ⊢
    have e1 : 256 ^ k * 256 * y = 256 * (256 ^ k * y) := by rw [Nat.mul_comm (256 ^ k) 256, Nat.mul_assoc]
    have e2 : 256 ^ k * 256 * x.toNat = 256 * (256 ^ k * x.toNat) := by rw [Nat.mul_comm (256 ^ k) 256, Nat.mul_assoc]
    rw [e1, e2]
    omega
  | [], k, _, hk => absurd hk (Nat.not_lt_zero _)
theorem top_bit (x : UInt8) : (x ^^^ 128).toNat = x.toNat + 128 ∨ x.toNat = (x ^^^ 128).toNat + 128 := by
  have h : ∀ n : Fin 256, n.val ^^^ 128 = n.val + 128 ∨ n.val = (n.val ^^^ 128) + 128 := by decide +kernel
  simpa using h ⟨x.toNat, x.toNat_lt⟩
theorem num_turned (p : List UInt8) (hp : p.length = 32) : numK (p.set 31 (p.getD 31 0 ^^^ 128)) = numK p := by
  have h := ofLowB_cut p 31 (p.getD 31 0 ^^^ 128) (by omega)
  have e : Mx ^ 5 = 256 ^ 31 * 128 := by decide +kernel
  unfold numK
  generalize ofLowB (p.set 31 (p.getD 31 0 ^^^ 128)) = n at h
  generalize ofLowB p = m at h
  have hb := top_bit (p.getD 31 0)
  generalize (p.getD 31 0 ^^^ 128).toNat = y at h hb
  generalize (p.getD 31 0).toNat = x at h hb
  rw [e]
  generalize 256 ^ 31 = c at h
  rcases hb with hb | hb
  · rw [hb, Nat.mul_add] at h
    have : n = m + c * 128 := by omega
    rw [this, Nat.add_mod_right]
  · rw [hb, Nat.mul_add] at h
    have : m = n + c * 128 := by omega
    rw [this, Nat.add_mod_right]
theorem raw_turned (s p : List UInt8) (hp : p.length = 32) : rawK s (p.set 31 (p.getD 31 0 ^^^ 128)) = rawK s p := by
  unfold rawK; rw [num_turned p hp]
theorem and_byte (a b : UInt8) : bits .and .u8 (a.toNat : Int) (b.toNat : Int) = ((a &&& b).toNat : Int) := by
  rw [u8_and_nat _ _ a.toNat_lt b.toNat_lt, UInt8.toNat_and]
theorem getD_some {l : List UInt8} {k : Nat} (h : k < l.length) : l[k]? = some (l.getD k 0) := by
  rw [List.getD_eq_getElem?_getD, List.getElem?_eq_getElem h]; rfl
end Go.Proofs.Ytpgjcmccfpjmoaa
