/-
  Points of small order, and what two share: it is never 0. Conditions: keys have thirty-two bytes.
-/
import Derived.Test.YtpgjcmccfpjmoaaLadderS
namespace Go.Proofs.Ytpgjcmccfpjmoaa
open Go.RowKit
set_option linter.unusedVariables false
set_option maxRecDepth 20000

section
variable {n : Nat} [NeZero n]
theorem ed_t1 {c y : Fin n} (h : 0 * 0 * (y * y) = c * (0 * 0 + y * y - 1)) : (y * y) * c = 1 * c := by grind
theorem ed_t2 {s w : Fin n} (h : -1 * (w + s * 1) = w - s * 1) : w * 2 = 0 := by grind
theorem ed_t3 {s y : Fin n} (h : y * (0 + s * 1) = 0 - s * 1) : y * s = -1 * s := by grind
theorem ed_t4 (c y : Fin n) (a b : Fin n) : c * (0 * b + 0 * y) * a = 0 := by grind
theorem ed_t5 (c y : Fin n) (h : y * y = 1) : (0 : Fin n) * (c + 0 * 0 * y * y) = c * (0 * y + 0 * y) := by grind
theorem ed_t6 (c y : Fin n) (h : y * y = 1) : (1 : Fin n) * (c - 0 * 0 * y * y) = c * (y * y - 0 * 0) := by grind
theorem y_of_x {c : Fin n} (K : FldN n) (hc : NonSq c) {P : PtE n} (h : OnE c P) (hx : P.x = 0) : P.y * P.y = 1 := by
  unfold OnE at h
  rw [hx] at h
  exact K.cancel hc.nz (ed_t1 h)
/-- A point's number is 0 where the point is one of two. -/
theorem uof_zero (K : FldN n) {s k c : Fin n} (C : CurE s k c) {P : PtE n} (hP : OnE c P) {w : Fin n} (h : UofE s P w) : w = 0 ↔ P.x = 0 := by
  constructor
  · intro hw
    refine x_zero K C.ns hP ?_
    rcases h with ⟨hy, _⟩ | ⟨_, hr⟩
    · rw [hy]; grind
    · have h1 := hr.1
      rw [hw] at h1
      have h2 := ed_t3 h1
      have hs : s ≠ 0 := fun e => one_nz K (by have := C.sq; rw [e] at this; grind)
      rw [K.cancel hs h2]
      exact ed_q20 (1 : Fin n) ▸ (by grind)
  · intro hx
    have hy := y_of_x K C.ns hP hx
    rcases h with ⟨_, hw⟩ | ⟨hne, hr⟩
    · exact hw
    · rcases ed_root_one K hy with e | e
      · exact absurd e hne
      · have h1 := hr.1
        rw [e] at h1
        exact (K.zero_or (ed_t2 h1)).elim id (fun h2 => absurd h2 K.two)
theorem add_x0 (K : FldN n) {c : Fin n} {P Q : PtE n} (hp : P.x = 0) (hq : Q.x = 0) : (addE K c P Q).x = 0 := by
  show c * (P.x * Q.y + Q.x * P.y) * K.inv _ = 0
  rw [hp, hq]
  exact ed_t4 _ _ _ _
theorem add_end (K : FldN n) {c : Fin n} (hc : NonSq c) {P : PtE n} (hP : OnE c P) (hx : P.x = 0) : addE K c P P = zeroE := by
  have hy := y_of_x K hc hP hx
  refine addE_uniq K hc hP hP ?_ ?_
  · show (0 : Fin n) * (c + P.x * P.x * P.y * P.y) = c * (P.x * P.y + P.x * P.y)
    rw [hx]
    exact ed_t5 c _ hy
  · show (1 : Fin n) * (c - P.x * P.x * P.y * P.y) = c * (P.y * P.y - P.x * P.x)
    rw [hx]
    exact ed_t6 c _ hy
theorem mul_x0 (K : FldN n) {c : Fin n} {P : PtE n} (hx : P.x = 0) (k : Nat) : (mulE K c k P).x = 0 := by
  induction k with
  | zero => rfl
  | succ k ih => exact add_x0 K ih hx
theorem mul_end (K : FldN n) {c : Fin n} (hc : NonSq c) {P : PtE n} (hP : OnE c P) {k : Nat} (hx : (mulE K c k P).x = 0) : mulE K c (2 * k) P = zeroE := by
  rw [Nat.two_mul, mulE_add K hc hP]
  exact add_end K hc (onE_mul K hc hP k) hx
theorem mul_gcd (K : FldN n) {c : Fin n} (hc : NonSq c) {P : PtE n} (hP : OnE c P) (a b : Nat) : mulE K c a P = zeroE → mulE K c b P = zeroE → mulE K c (Nat.gcd a b) P = zeroE := by
  refine Nat.gcd.induction (P := fun a b => mulE K c a P = zeroE → mulE K c b P = zeroE → mulE K c (Nat.gcd a b) P = zeroE) a b ?_ ?_
  · intro b _ h
    rw [Nat.gcd_zero_left]
    exact h
  · intro m k hm ih h1 h2
    rw [Nat.gcd_rec]
    refine ih ?_ h1
    have e : k = (k / m) * m + k % m := by rw [Nat.mul_comm]; exact (Nat.div_add_mod k m).symm
    rw [e, mulE_add K hc hP, mulE_mul K hc hP, h1, mulE_zero K hc, addE_comm, addE_zero K hc (onE_mul K hc hP _)] at h2
    exact h2
end
theorem numB_append (l m : List Bool) : ∀ x, numB (l ++ m) x = numB m (numB l x) := by
  induction l with
  | nil => intro x; rfl
  | cons b l ih => intro x; exact ih _
theorem numB_range (l : List Bool) : ∀ x, x * 2 ^ l.length ≤ numB l x ∧ numB l x < (x + 1) * 2 ^ l.length := by
  induction l with
  | nil => intro x; exact ⟨by simp [numB], by simp [numB]⟩
  | cons b l ih =>
    intro x
    have h := ih (2 * x + b.toNat)
    have hb : b.toNat ≤ 1 := by cases b <;> decide
    have p : 2 ^ (b :: l).length = 2 * 2 ^ l.length := by rw [List.length_cons, Nat.pow_succ, Nat.mul_comm]
    rw [p]
    show x * (2 * 2 ^ l.length) ≤ numB l (2 * x + b.toNat) ∧ numB l (2 * x + b.toNat) < (x + 1) * (2 * 2 ^ l.length)
    generalize 2 ^ l.length = q at h ⊢
    have e1 : x * (2 * q) = 2 * x * q := by rw [Nat.mul_left_comm, ← Nat.mul_assoc]
    have e2 : (x + 1) * (2 * q) = (2 * x + 2) * q := by rw [← Nat.mul_assoc]; congr 1; omega
    rw [e1, e2]
    have m1 : 2 * x * q ≤ (2 * x + b.toNat) * q := Nat.mul_le_mul_right q (by omega)
    have m2 : (2 * x + b.toNat + 1) * q ≤ (2 * x + 2) * q := Nat.mul_le_mul_right q (by omega)
    omega
theorem by_63 (x : UInt8) : ((x &&& 127) ||| 64).toNat / 2 ^ 6 % 2 = 1 := by
  have h : ∀ n : Fin 256, ((n.val &&& 127) ||| 64) / 2 ^ 6 % 2 = 1 := by decide +kernel
  have := h ⟨x.toNat, x.toNat_lt⟩
  rw [UInt8.toNat_or, UInt8.toNat_and]
  exact this
theorem by_0 (x : UInt8) : (x &&& 248).toNat / 2 ^ 0 % 2 = 0 ∧ (x &&& 248).toNat / 2 ^ 1 % 2 = 0 ∧ (x &&& 248).toNat / 2 ^ 2 % 2 = 0 := by
  have h : ∀ n : Fin 256, (n.val &&& 248) / 2 ^ 0 % 2 = 0 ∧ (n.val &&& 248) / 2 ^ 1 % 2 = 0 ∧ (n.val &&& 248) / 2 ^ 2 % 2 = 0 := by decide +kernel
  have := h ⟨x.toNat, x.toNat_lt⟩
  rw [UInt8.toNat_and]
  exact this
theorem clamp_31 (s : List UInt8) (hs : s.length = 32) : (clampK s).getD 31 0 = (s.getD 31 0 &&& 127) ||| 64 := by
  unfold clampK
  simp [hs]
theorem clamp_0 (s : List UInt8) (hs : s.length = 32) : (clampK s).getD 0 0 = s.getD 0 0 &&& 248 := by
  unfold clampK
  simp [hs]
theorem range_255 : List.range' 0 255 = 0 :: (List.range' 1 251 ++ [252, 253, 254]) := by decide +kernel
/-- What the bits of a clamped key are: the highest one is set, the last three are not. -/
theorem clamp_bits (s : List UInt8) (hs : s.length = 32) : ∃ l : List Bool, l.length = 251 ∧ bitsL (clampK s) = true :: (l ++ [false, false, false]) := by
  refine ⟨(List.range' 1 251).map (fun i => bitK (clampK s) (254 - i)), by simp, ?_⟩
  have b0 : bitK (clampK s) (254 - 254) = false := by
    show (((clampK s).getD 0 0).toNat / 2 ^ 0 % 2 == 1) = false
    rw [clamp_0 s hs, (by_0 _).1]
    rfl
  have b1 : bitK (clampK s) (254 - 253) = false := by
    show (((clampK s).getD 0 0).toNat / 2 ^ 1 % 2 == 1) = false
    rw [clamp_0 s hs, (by_0 _).2.1]
    rfl
  have b2 : bitK (clampK s) (254 - 252) = false := by
    show (((clampK s).getD 0 0).toNat / 2 ^ 2 % 2 == 1) = false
    rw [clamp_0 s hs, (by_0 _).2.2]
    rfl
  have b3 : bitK (clampK s) (254 - 0) = true := by
    show (((clampK s).getD 31 0).toNat / 2 ^ 6 % 2 == 1) = true
    rw [clamp_31 s hs, by_63]
    rfl
  unfold bitsL
  rw [range_255, List.map_cons, List.map_append, List.map_cons, List.map_cons, List.map_cons, List.map_nil, b0, b1, b2, b3]
theorem clamp_num (s : List UInt8) (hs : s.length = 32) : ∃ m, numB (bitsL (clampK s)) 0 = m * 8 ∧ 2 ^ 251 ≤ m ∧ m < 2 ^ 252 := by
  obtain ⟨l, hl, e⟩ := clamp_bits s hs
  have h := numB_range l 1
  rw [hl] at h
  refine ⟨numB l 1, ?_, by omega, by have := h.2; omega⟩
  rw [e]
  show numB (l ++ [false, false, false]) 1 = numB l 1 * 8
  rw [numB_append]
  simp only [numB, Bool.toNat_false]
  omega
theorem ladE_zero (u : Nat) (hu : u < pF) (l : List Bool) : ladE KF kE ⟨u, hu⟩ l = 0 ↔ ladC u l = 0 := by
  rw [ladN_fin, ladC_eq]
  constructor
  · intro h
    have h1 : ladN u l = (0 : Fin pF).val := congrArg Fin.val h
    rw [fin_zero] at h1
    exact h1
  · intro h
    apply Fin.ext
    show ladN u l = (0 : Fin pF).val
    rw [fin_zero, h]
/-- A point of which eight are nothing has no multiple. -/
theorem small_zero (s : List UInt8) (hs : s.length = 32) (u : Nat) (hu : u < pF) (h8 : ladC u [true, false, false, false] = 0) : multN (clampK s) u = 0 := by
  obtain ⟨q, hq, -, -⟩ := clamp_num s hs
  obtain ⟨t, c, B, C, hB, hb⟩ := on_some ⟨u, hu⟩
  have h1 := ladE_uof KF KF_zero C hB hb (bitsL (clampK s)) (bitsL_ne _)
  have h2 := ladE_uof KF KF_zero C hB hb [true, false, false, false] (by simp)
  have z2 := (ladE_zero u hu [true, false, false, false]).2 h8
  have x8 : (mulE KF c 8 B).x = 0 := (uof_zero KF C (onE_mul KF C.ns hB _) h2).1 z2
  rw [hq, mulE_mul KF C.ns hB] at h1
  have z1 := (uof_zero KF C (onE_mul KF C.ns (onE_mul KF C.ns hB 8) q) h1).2 (mul_x0 KF x8 q)
  rw [← multN_fin] at z1
  exact congrArg Fin.val z1
/-- The order of the base point. -/
def ordE : Nat := 7237005577332262213973186563042994240857116359379907606001950938285454250989
def ordBits : List Bool := [true, false, false, false, false, false, false, false, false, false, false, false, false, false, false, false, false, false, false, false, false, false, false, false, false, false, false, false, false, false, false, false, false, false, false, false, false, false, false, false, false, false, false, false, false, false, false, false, false, false, false, false, false, false, false, false, false, false, false, false, false, false, false, false, false, false, false, false, false, false, false, false, false, false, false, false, false, false, false, false, false, false, false, false, false, false, false, false, false, false, false, false, false, false, false, false, false, false, false, false, false, false, false, false, false, false, false, false, false, false, false, false, false, false, false, false, false, false, false, false, false, false, false, false, false, false, false, false, true, false, true, false, false, true, true, false, true, true, true, true, false, true, true, true, true, true, false, false, true, true, true, false, true, true, true, true, false, true, false, true, false, false, false, true, false, true, true, true, true, false, true, true, true, true, false, false, true, true, true, false, false, true, true, false, true, false, true, true, false, false, true, false, true, true, false, false, false, false, false, false, true, false, false, true, false, false, true, true, false, false, false, true, true, false, false, false, true, true, false, true, false, false, true, false, true, true, true, false, false, true, true, true, true, false, true, false, true, true, true, false, true, false, false, true, true, true, true, true, false, true, true, false, true]
theorem ordBits_num : numB ordBits 0 = ordE := by decide +kernel
theorem ord_lad : ladC 9 ordBits = 0 := by decide +kernel
theorem two_lad : ladC 9 [true, false] ≠ 0 := by decide +kernel
theorem o_1224481 : PrimeN 1224481 := prime_small (b := 1106) (by decide) (by decide) (by decide +kernel)
theorem o_531581 : PrimeN 531581 := prime_small (b := 729) (by decide) (by decide) (by decide +kernel)
theorem o_1257559732178653 : PrimeN 1257559732178653 := prime_two (q := 1224481) (s := 531581) (by decide) (by decide +kernel) (by decide) (cert (a := 2) (m := 1027014492) (f := 51) o_1224481 (by decide +kernel)) (cert (a := 2) (m := 2365697292) (f := 51) o_531581 (by decide +kernel))
theorem o_4434155615661930479 : PrimeN 4434155615661930479 := prime_one (q := 1257559732178653) (by decide) (by decide) (cert (a := 2) (m := 3526) (f := 62) o_1257559732178653 (by decide +kernel))
theorem o_172054593956031949258510691 : PrimeN 172054593956031949258510691 := prime_one (q := 4434155615661930479) (by decide) (by decide) (cert (a := 2) (m := 38802110) (f := 88) o_4434155615661930479 (by decide +kernel))
theorem o_19757330305831588566944191468367130476339 : PrimeN 19757330305831588566944191468367130476339 := prime_one (q := 172054593956031949258510691) (by decide) (by decide) (cert (a := 2) (m := 114831751082918) (f := 134) o_172054593956031949258510691 (by decide +kernel))
theorem o_276602624281642239937218680557139826668747 : PrimeN 276602624281642239937218680557139826668747 := prime_one (q := 19757330305831588566944191468367130476339) (by decide) (by decide) (cert (a := 2) (m := 14) (f := 138) o_19757330305831588566944191468367130476339 (by decide +kernel))
theorem p_ord : PrimeN 7237005577332262213973186563042994240857116359379907606001950938285454250989 := prime_one (q := 276602624281642239937218680557139826668747) (by decide) (by decide) (cert (a := 2) (m := 26163907866482859529727157400808004) (f := 253) o_276602624281642239937218680557139826668747 (by decide +kernel))
theorem ord_prime : PrimeN ordE := p_ord
theorem ord_not (m : Nat) (h0 : 0 < m) (h : m < ordE) : ¬ ordE ∣ m := fun hd => by have := Nat.le_of_dvd h0 hd; omega
/-- WHAT TWO SHARE IS NEVER 0. -/
theorem shared_ne (a b : List UInt8) (ha : a.length = 32) (hb : b.length = 32) : multN (clampK a) (multN (clampK b) 9) ≠ 0 := by
  intro h0
  obtain ⟨q, hq, q1, q2⟩ := clamp_num a ha
  obtain ⟨r, hr, r1, r2⟩ := clamp_num b hb
  have p9 : 9 < pF := by decide
  obtain ⟨t, c, B, C, hB, h9⟩ := on_some ⟨9, p9⟩
  have k1 := ladE_uof KF KF_zero C hB h9 (bitsL (clampK b)) (bitsL_ne _)
  have k2 := ladE_uof KF KF_zero C (onE_mul KF C.ns hB _) k1 (bitsL (clampK a)) (bitsL_ne _)
  rw [← multN_fin, ← multN_fin] at k2
  have z2 := (uof_zero KF C (onE_mul KF C.ns (onE_mul KF C.ns hB _) _) k2).1 (Fin.ext h0)
  rw [← mulE_mul KF C.ns hB, hq, hr] at z2
  have e1 := mul_end KF C.ns hB z2
  have k3 := ladE_uof KF KF_zero C hB h9 ordBits (by simp [ordBits])
  have z3 := (ladE_zero 9 p9 ordBits).2 ord_lad
  rw [ordBits_num] at k3
  have e3 := mul_end KF C.ns hB ((uof_zero KF C (onE_mul KF C.ns hB _) k3).1 z3)
  have hg := mul_gcd KF C.ns hB _ _ e1 e3
  have o1 : 0 < ordE := by decide
  have c64 : Nat.Coprime ordE 64 := prime_coprime ord_prime (ord_not 64 (by decide) (by decide))
  have cq : Nat.Coprime ordE q := prime_coprime ord_prime (ord_not q (by omega) (by unfold ordE; omega))
  have cr : Nat.Coprime ordE r := prime_coprime ord_prime (ord_not r (by omega) (by unfold ordE; omega))
  have cc : Nat.Coprime (64 * (q * r)) ordE := (Nat.Coprime.mul_right c64 (Nat.Coprime.mul_right cq cr)).symm
  have e4 : q * 8 * (r * 8) = 64 * (q * r) := by rw [Nat.mul_assoc, Nat.mul_left_comm 8 r 8, ← Nat.mul_assoc, Nat.mul_comm (q * r)]
  rw [e4, Nat.gcd_mul_left, cc.gcd_eq_one, Nat.mul_one] at hg
  have k4 := ladE_uof KF KF_zero C hB h9 [true, false] (by simp)
  have z4 := (uof_zero KF C (onE_mul KF C.ns hB _) k4).2 (by show (mulE KF c 2 B).x = 0; rw [hg]; rfl)
  exact two_lad ((ladE_zero 9 p9 [true, false]).1 z4)
end Go.Proofs.Ytpgjcmccfpjmoaa
