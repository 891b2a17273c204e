/-
  The curve of numbers modulo 2^255 - 19: every number is a point's, and the ladder's products do not hang on order. Conditions: none; plain numbers.
-/
import Derived.Test.YtpgjcmccfpjmoaaEdC
import Derived.Test.YtpgjcmccfpjmoaaFieldPrime
namespace Go.Proofs.Ytpgjcmccfpjmoaa
set_option linter.unusedVariables false

open Go.RowKit

section
variable {n : Nat} [NeZero n]
theorem ed_q8 (c : Fin n) : OnE c ⟨0, -1⟩ := by unfold OnE; grind
theorem ed_q9 : (-1 : Fin n) * (0 + 1 * 1) = 0 - 1 * 1 := by grind
theorem ed_q10 (h : (0 : Fin n) + 1 * 1 = 0) : (1 : Fin n) = 0 := by grind
theorem ed_q11 (w k : Fin n) : (k + 1) * w * (k * w) = (k * (k + 1)) * (w * w) := by grind
theorem ed_q12 : (-1 : Fin n) * 1 = -1 := by grind
theorem ed_q13 (a : Fin n) : a = -(-1 * a) := by grind
theorem ed_q14 : -(-1 : Fin n) = 1 := by grind
theorem ed_q15 (u : Fin n) : u + 1 * 1 = u + 1 := by grind
theorem ed_q16 (u : Fin n) : u - 1 * 1 = u - 1 := by grind
theorem ed_q17 (u : Fin n) : u + -1 * 1 = u - 1 := by grind
theorem ed_q18 (u : Fin n) : u - -1 * 1 = u + 1 := by grind
theorem ed_q19 (a : Fin n) : 1 * a = a := by grind
theorem ed_q20 (a : Fin n) : -1 * (-1 * a) = a := by grind
theorem ed_q21 (r i : Fin n) : r * i * (r * i) = (r * r) * (i * i) := by grind
theorem ed_q22 (a : Fin n) : -1 * a * -1 = a := by grind
end
instance : NeZero pF := ⟨by decide⟩
/-- A power, modulo p. -/
def powE (a : Fin pF) (e : Nat) : Fin pF := ⟨powF a.val e, powF_lt _ _⟩
theorem powE_add (a : Fin pF) (m n : Nat) : powE a m * powE a n = powE a (m + n) := Fin.ext (powF_mul a.val m n)
theorem powE_prod (a b : Fin pF) (e : Nat) : powE (a * b) e = powE a e * powE b e := by
  apply Fin.ext
  show (a.val * b.val % pF) ^ e % pF = (a.val ^ e % pF) * (b.val ^ e % pF) % pF
  rw [← Nat.pow_mod, Nat.mul_pow, Nat.mul_mod]
theorem powE_one (a : Fin pF) : powE a 1 = a := Fin.ext (powF_one a.val a.isLt)
theorem powE_last (a : Fin pF) (h : a ≠ 0) : powE a (pF - 1) = 1 := by
  apply Fin.ext
  have hd : ¬ pF ∣ a.val := fun hd => h (Fin.ext (by
    have := Nat.eq_zero_of_dvd_of_lt hd a.isLt
    rw [this]
    rfl))
  exact fermat1 pF_prime a.val hd
/-- The numbers modulo p are a field. -/
def KF : FldN pF where
  inv a := ⟨invF a.val, invF_lt _⟩
  mul_inv a h := Fin.ext (inv_mul a.val a.isLt fun e => h (Fin.ext e))
  two := by decide +kernel
theorem fin_zero : (0 : Fin pF).val = 0 := rfl
theorem KF_zero : KF.inv 0 = 0 := by
  apply Fin.ext
  show invF ((0 : Fin pF).val) = (0 : Fin pF).val
  rw [fin_zero]
  exact inv_zero
/-- Half of p - 1, and a quarter. -/
def halfP : Nat := (pF - 1) / 2
def quarP : Nat := (pF - 1) / 4
theorem half_two : halfP + halfP = pF - 1 := by decide +kernel
theorem quar_two : quarP + quarP = halfP := by decide +kernel
theorem eighth : (pF + 3) / 8 + (pF + 3) / 8 = quarP + 1 := by decide +kernel
theorem ed_root_one {n : Nat} [NeZero n] (K : FldN n) {h : Fin n} (e : h * h = 1) : h = 1 ∨ h = -1 := by
  have h1 : (h - 1) * (h + 1) = 0 := by grind
  rcases K.zero_or h1 with h2 | h2
  · exact .inl (ed_subz h2)
  · right; grind
theorem half_or (a : Fin pF) (h : a ≠ 0) : powE a halfP = 1 ∨ powE a halfP = -1 := ed_root_one KF (by rw [powE_add, half_two, powE_last a h])
/-- By reckoning. -/
theorem powE_ck (a : Nat) (ha : a < pF) (e v : Nat) (he : e < 2 ^ 255) (h : (powN pF a e 255 % pF == v) = true) (hv : v < pF) : powE ⟨a, ha⟩ e = ⟨v, hv⟩ := by
  apply Fin.ext
  show a ^ e % pF = v
  rw [← powN_eq pF 255 a e he]
  exact beq_iff_eq.1 h
theorem neg_one : (-1 : Fin pF) = ⟨pF - 1, by decide⟩ := by decide +kernel
theorem ed_one_ne_neg {n : Nat} [NeZero n] (K : FldN n) : (1 : Fin n) ≠ -1 := fun e => K.two (by grind)
theorem nonSq_ck (a : Nat) (ha : a < pF) (h : (powN pF a halfP 255 % pF == pF - 1) = true) (h0 : a ≠ 0) : NonSq (⟨a, ha⟩ : Fin pF) := by
  intro r hr
  have h1 := powE_ck a ha halfP (pF - 1) (by decide +kernel) h (by decide)
  rw [← neg_one, ← hr, powE_prod, powE_add, half_two] at h1
  have hr0 : r ≠ 0 := fun e => by
    rw [e] at hr
    have := congrArg Fin.val hr
    exact h0 (this.symm.trans (by decide +kernel))
  rw [powE_last r hr0] at h1
  exact ed_one_ne_neg KF h1
theorem sq_of_half (a : Fin pF) (h : powE a halfP = 1) : ∃ r : Fin pF, r * r = a := by
  have e0 : powE a ((pF + 3) / 8) * powE a ((pF + 3) / 8) = powE a quarP * a := by rw [powE_add, eighth, ← powE_add, powE_one]
  have hg : powE a quarP * powE a quarP = 1 := by rw [powE_add, quar_two, h]
  rcases ed_root_one KF hg with g | g
  · exact ⟨_, by rw [e0, g]; exact ed_q19 a⟩
  · have hi : powE (⟨2, by decide⟩ : Fin pF) quarP * powE (⟨2, by decide⟩ : Fin pF) quarP = -1 := by
      rw [powE_add, quar_two, neg_one]
      exact powE_ck 2 _ halfP (pF - 1) (by decide +kernel) (by decide +kernel) _
    refine ⟨powE a ((pF + 3) / 8) * powE (⟨2, by decide⟩ : Fin pF) quarP, ?_⟩
    generalize powE (⟨2, by decide⟩ : Fin pF) quarP = i at *
    generalize powE a ((pF + 3) / 8) = r at *
    rw [g] at e0
    rw [ed_q21, e0, hi]
    exact ed_q22 a

/-- The curve's constants. -/
def kE : Fin pF := ⟨121665, by decide⟩
def c1E : Fin pF := ⟨28692721048178265397853269683490922171210976843790175684556505508326675974058, by decide⟩
def c2E : Fin pF := ⟨20800338683988658368647408995589388737092878452977063003340006470870624536394, by decide⟩
theorem cur1 : CurE 1 kE c1E := ⟨by decide +kernel, by decide +kernel, by decide +kernel, nonSq_ck _ _ (by decide +kernel) (by decide)⟩
theorem cur2 : CurE (-1) kE c2E := ⟨by decide +kernel, by decide +kernel, by decide +kernel, nonSq_ck _ _ (by decide +kernel) (by decide)⟩
theorem c1_k : c1E * kE = kE + 1 := by decide +kernel
theorem c2_k : c2E * (kE + 1) = kE := by decide +kernel
theorem nsA : NonSq (16 * (kE * (kE + 1))) := nonSq_ck 236839902240 (by decide) (by decide +kernel) (by decide)
theorem ns4 : NonSq (4 * (kE * (kE + 1))) := nonSq_ck 59209975560 (by decide) (by decide +kernel) (by decide)
theorem halfK : powE (kE * (kE + 1)) halfP = -1 := by
  rw [neg_one]
  exact powE_ck 14802493890 (by decide) halfP (pF - 1) (by decide +kernel) (by decide +kernel) _
section
variable {n : Nat} [NeZero n]
theorem ed_q1 {u k : Fin n} (h : u * u + (4 * k + 2) * u + 1 = 0) : (2 * u + (4 * k + 2)) * (2 * u + (4 * k + 2)) = 16 * (k * (k + 1)) := by grind
theorem ed_q2 {u k r : Fin n} (hr : r * r = (k + 1) * (u * (u * u + (4 * k + 2) * u + 1))) (h : u + 1 = 0) : r * r = 4 * (k * (k + 1)) := by grind
theorem ed_q3 {u k r : Fin n} (hr : r * r = k * (u * (u * u + (4 * k + 2) * u + 1))) (h : u - 1 = 0) : r * r = 4 * (k * (k + 1)) := by grind
theorem ed_q4 {u k r x d : Fin n} (hr : r * r = (k + 1) * (u * d)) (hx : x * d = 2 * r) : x * x * d * d = 4 * (k + 1) * u * d := by grind
theorem ed_q5 {u k r x d : Fin n} (hr : r * r = k * (u * d)) (hx : x * d = 2 * r) : x * x * d * d = 4 * k * u * d := by grind
theorem ed_q6 {u k c x y d : Fin n} (hd : d = u * u + (4 * k + 2) * u + 1) (hc : c * k = k + 1) (hx : x * x * d = 4 * (k + 1) * u) (hy : y * (u + 1) = u - 1) : x * x * (y * y) * (d * ((u + 1) * (u + 1)) * k) = c * (x * x + y * y - 1) * (d * ((u + 1) * (u + 1)) * k) := by
  have e1 : x * x * (y * y) * (d * ((u + 1) * (u + 1)) * k) = (x * x * d) * ((y * (u + 1)) * (y * (u + 1))) * k := by grind
  have e2 : c * (x * x + y * y - 1) * (d * ((u + 1) * (u + 1)) * k) = (c * k) * ((x * x * d) * ((u + 1) * (u + 1)) + d * ((y * (u + 1)) * (y * (u + 1))) - d * ((u + 1) * (u + 1))) := by grind
  rw [e1, e2, hx, hy, hc, hd]
  clear e1 e2 hx hy hc hd
  grind
theorem ed_q7 {u k c x y d : Fin n} (hd : d = u * u + (4 * k + 2) * u + 1) (hc : c * (k + 1) = k) (hx : x * x * d = 4 * k * u) (hy : y * (u - 1) = u + 1) : x * x * (y * y) * (d * ((u - 1) * (u - 1)) * (k + 1)) = c * (x * x + y * y - 1) * (d * ((u - 1) * (u - 1)) * (k + 1)) := by
  have e1 : x * x * (y * y) * (d * ((u - 1) * (u - 1)) * (k + 1)) = (x * x * d) * ((y * (u - 1)) * (y * (u - 1))) * (k + 1) := by grind
  have e2 : c * (x * x + y * y - 1) * (d * ((u - 1) * (u - 1)) * (k + 1)) = (c * (k + 1)) * ((x * x * d) * ((u - 1) * (u - 1)) + d * ((y * (u - 1)) * (y * (u - 1))) - d * ((u - 1) * (u - 1))) := by grind
  rw [e1, e2, hx, hy, hc, hd]
  clear e1 e2 hx hy hc hd
  grind
end
/-- EVERY NUMBER IS A POINT'S, of the one curve or of the other one. -/
theorem on_some (u : Fin pF) : ∃ (s c : Fin pF) (B : PtE pF), CurE s kE c ∧ OnE c B ∧ UofE s B u := by
  by_cases hu : u = 0
  · refine ⟨1, c1E, ⟨0, -1⟩, cur1, ed_q8 c1E, .inr ⟨fun e => ed_one_ne_neg KF e.symm, ?_, ?_⟩⟩
    · rw [hu]; exact ed_q9
    · rw [hu]; exact fun e => one_nz KF (ed_q10 e)
  · obtain ⟨d, hd⟩ : ∃ d, d = u * u + (4 * kE + 2) * u + 1 := ⟨_, rfl⟩
    have d0 : d ≠ 0 := fun e => nsA _ (ed_q1 (by rw [← hd]; exact e))
    have w0 : u * d ≠ 0 := KF.nz hu d0
    have k0 : kE ≠ 0 := by decide +kernel
    have k1 : kE + 1 ≠ 0 := by decide +kernel
    have hp : powE ((kE + 1) * (u * d)) halfP * powE (kE * (u * d)) halfP = -1 := by
      rw [← powE_prod, ed_q11, powE_prod (kE * (kE + 1)), powE_prod (u * d), powE_add (u * d), half_two, powE_last _ w0, halfK]
      exact ed_q12
    rcases half_or _ (KF.nz k1 w0) with e1 | e1
    · obtain ⟨r, hr⟩ := sq_of_half _ e1
      have hm : u + 1 ≠ 0 := fun e => ns4 r (ed_q2 (by rw [← hd]; exact hr) e)
      have hx : (2 * r * KF.inv d) * d = 2 * r := KF.div_mul d0
      have hy : ((u - 1) * KF.inv (u + 1)) * (u + 1) = u - 1 := KF.div_mul hm
      have hx2 := KF.cancel d0 (ed_q4 hr hx)
      have e2 := ed_q15 u
      have e3 := ed_q16 u
      have hrep : RepE 1 (⟨2 * r * KF.inv d, (u - 1) * KF.inv (u + 1)⟩ : PtE pF) u 1 := by
        unfold RepE
        rw [e2, e3]
        exact ⟨hy, hm⟩
      refine ⟨1, c1E, ⟨2 * r * KF.inv d, (u - 1) * KF.inv (u + 1)⟩, cur1, ?_, .inr ⟨fun e => one_nz KF ((y_one_of KF cur1.sq hrep.1 hrep.2).1 e), hrep⟩⟩
      exact KF.cancel (KF.nz (KF.nz d0 (KF.nz hm hm)) k0) (ed_q6 hd c1_k hx2 hy)
    · have e2 : powE (kE * (u * d)) halfP = 1 := by
        rw [e1] at hp
        exact (ed_q13 _).trans ((congrArg (fun z : Fin pF => -z) hp).trans ed_q14)
      obtain ⟨r, hr⟩ := sq_of_half _ e2
      have hm : u - 1 ≠ 0 := fun e => ns4 r (ed_q3 (by rw [← hd]; exact hr) e)
      have hx : (2 * r * KF.inv d) * d = 2 * r := KF.div_mul d0
      have hy : ((u + 1) * KF.inv (u - 1)) * (u - 1) = u + 1 := KF.div_mul hm
      have hx2 := KF.cancel d0 (ed_q5 hr hx)
      have e2 := ed_q17 u
      have e3 := ed_q18 u
      have hrep : RepE (-1) (⟨2 * r * KF.inv d, (u + 1) * KF.inv (u - 1)⟩ : PtE pF) u 1 := by
        unfold RepE
        rw [e2, e3]
        exact ⟨hy, hm⟩
      refine ⟨-1, c2E, ⟨2 * r * KF.inv d, (u + 1) * KF.inv (u - 1)⟩, cur2, ?_, .inr ⟨fun e => one_nz KF ((y_one_of KF cur2.sq hrep.1 hrep.2).1 e), hrep⟩⟩
      exact KF.cancel (KF.nz (KF.nz d0 (KF.nz hm hm)) k1) (ed_q7 hd c2_k hx2 hy)
/-- IN WHICH ORDER TWO MULTIPLY A POINT DOES NOT MATTER. -/
theorem lad_swap (u : Fin pF) (l m : List Bool) (hl : l ≠ []) (hm : m ≠ []) : ladE KF kE (ladE KF kE u l) m = ladE KF kE (ladE KF kE u m) l := by
  obtain ⟨s, c, B, C, hB, hb⟩ := on_some u
  exact ladE_swap KF KF_zero C hB hb l m hl hm
end Go.Proofs.Ytpgjcmccfpjmoaa
