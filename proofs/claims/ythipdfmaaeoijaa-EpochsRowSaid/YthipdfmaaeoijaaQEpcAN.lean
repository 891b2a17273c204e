/-
  Texts that belong together, merged: EdF, LadderS, LadderT, LadderN, EpcQ. Conditions: as each theorem names them.
-/
import Derived.Test.YthipdfmaaeoijaaQEpcAM
import Derived.Test.YthipdfmaaeoijaaQEpcAI
import Derived.Test.YthipdfmaaeoijaaQEpcAL
section
namespace Go.Proofs.Ythipdfmaaeoijaa
set_option linter.unusedVariables false

open Go.RowKit

section
variable {n : Nat} [NeZero n]
theorem ed_q8 (c : Fin n) : OnE c ⟨0, -1⟩ := by unfold OnE; grind
theorem ed_q9 : (-1 : Fin n) * (0 + 1 * 1) = 0 - 1 * 1 := by grind
theorem ed_q10 (h : (0 : Fin n) + 1 * 1 = 0) : (1 : Fin n) = 0 := by grind
theorem ed_q11 (w k : Fin n) : (k + 1) * w * (k * w) = (k * (k + 1)) * (w * w) := by grind
theorem ed_q12 : (-1 : Fin n) * 1 = -1 := by grind
theorem ed_q13 (a : Fin n) : a = -(-1 * a) := by grind
theorem ed_q14 : -(-1 : Fin n) = 1 := by grind
theorem ed_q15 (u : Fin n) : u + 1 * 1 = u + 1 := by grind
theorem ed_q16 (u : Fin n) : u - 1 * 1 = u - 1 := by grind
theorem ed_q17 (u : Fin n) : u + -1 * 1 = u - 1 := by grind
theorem ed_q18 (u : Fin n) : u - -1 * 1 = u + 1 := by grind
theorem ed_q19 (a : Fin n) : 1 * a = a := by grind
theorem ed_q20 (a : Fin n) : -1 * (-1 * a) = a := by grind
theorem ed_q21 (r i : Fin n) : r * i * (r * i) = (r * r) * (i * i) := by grind
theorem ed_q22 (a : Fin n) : -1 * a * -1 = a := by grind
end
instance : NeZero pF := ⟨by decide⟩
/-- A power, modulo p. -/
def powE (a : Fin pF) (e : Nat) : Fin pF := ⟨powF a.val e, powF_lt _ _⟩
theorem powE_add (a : Fin pF) (m n : Nat) : powE a m * powE a n = powE a (m + n) := Fin.ext (powF_mul a.val m n)
theorem powE_prod (a b : Fin pF) (e : Nat) : powE (a * b) e = powE a e * powE b e := by
  apply Fin.ext
  show (a.val * b.val % pF) ^ e % pF = (a.val ^ e % pF) * (b.val ^ e % pF) % pF
  rw [← Nat.pow_mod, Nat.mul_pow, Nat.mul_mod]
theorem powE_one (a : Fin pF) : powE a 1 = a := Fin.ext (powF_one a.val a.isLt)
theorem powE_last (a : Fin pF) (h : a ≠ 0) : powE a (pF - 1) = 1 := by
  apply Fin.ext
  have hd : ¬ pF ∣ a.val := fun hd => h (Fin.ext (by
    have := Nat.eq_zero_of_dvd_of_lt hd a.isLt
    rw [this]
    rfl))
  exact fermat1 pF_prime a.val hd
/-- The numbers modulo p are a field. -/
def KF : FldN pF where
  inv a := ⟨invF a.val, invF_lt _⟩
  mul_inv a h := Fin.ext (inv_mul a.val a.isLt fun e => h (Fin.ext e))
  two := by decide +kernel
theorem fin_zero : (0 : Fin pF).val = 0 := rfl
theorem KF_zero : KF.inv 0 = 0 := by
  apply Fin.ext
  show invF ((0 : Fin pF).val) = (0 : Fin pF).val
  rw [fin_zero]
  exact inv_zero
/-- Half of p - 1, and a quarter. -/
def halfP : Nat := (pF - 1) / 2
def quarP : Nat := (pF - 1) / 4
theorem half_two : halfP + halfP = pF - 1 := by decide +kernel
theorem quar_two : quarP + quarP = halfP := by decide +kernel
theorem eighth : (pF + 3) / 8 + (pF + 3) / 8 = quarP + 1 := by decide +kernel
theorem ed_root_one {n : Nat} [NeZero n] (K : FldN n) {h : Fin n} (e : h * h = 1) : h = 1 ∨ h = -1 := by
  have h1 : (h - 1) * (h + 1) = 0 := by grind
  rcases K.zero_or h1 with h2 | h2
  · exact .inl (ed_subz h2)
  · right; grind
theorem half_or (a : Fin pF) (h : a ≠ 0) : powE a halfP = 1 ∨ powE a halfP = -1 := ed_root_one KF (by rw [powE_add, half_two, powE_last a h])
/-- By reckoning. -/
theorem powE_ck (a : Nat) (ha : a < pF) (e v : Nat) (he : e < 2 ^ 255) (h : (powN pF a e 255 % pF == v) = true) (hv : v < pF) : powE ⟨a, ha⟩ e = ⟨v, hv⟩ := by
  apply Fin.ext
  show a ^ e % pF = v
  rw [← powN_eq pF 255 a e he]
  exact beq_iff_eq.1 h
theorem neg_one : (-1 : Fin pF) = ⟨pF - 1, by decide⟩ := by decide +kernel
theorem ed_one_ne_neg {n : Nat} [NeZero n] (K : FldN n) : (1 : Fin n) ≠ -1 := fun e => K.two (by grind)
theorem nonSq_ck (a : Nat) (ha : a < pF) (h : (powN pF a halfP 255 % pF == pF - 1) = true) (h0 : a ≠ 0) : NonSq (⟨a, ha⟩ : Fin pF) := by
  intro r hr
  have h1 := powE_ck a ha halfP (pF - 1) (by decide +kernel) h (by decide)
  rw [← neg_one, ← hr, powE_prod, powE_add, half_two] at h1
  have hr0 : r ≠ 0 := fun e => by
    rw [e] at hr
    have := congrArg Fin.val hr
    exact h0 (this.symm.trans (by decide +kernel))
  rw [powE_last r hr0] at h1
  exact ed_one_ne_neg KF h1
theorem sq_of_half (a : Fin pF) (h : powE a halfP = 1) : ∃ r : Fin pF, r * r = a := by
  have e0 : powE a ((pF + 3) / 8) * powE a ((pF + 3) / 8) = powE a quarP * a := by rw [powE_add, eighth, ← powE_add, powE_one]
  have hg : powE a quarP * powE a quarP = 1 := by rw [powE_add, quar_two, h]
  rcases ed_root_one KF hg with g | g
  · exact ⟨_, by rw [e0, g]; exact ed_q19 a⟩
  · have hi : powE (⟨2, by decide⟩ : Fin pF) quarP * powE (⟨2, by decide⟩ : Fin pF) quarP = -1 := by
      rw [powE_add, quar_two, neg_one]
      exact powE_ck 2 _ halfP (pF - 1) (by decide +kernel) (by decide +kernel) _
    refine ⟨powE a ((pF + 3) / 8) * powE (⟨2, by decide⟩ : Fin pF) quarP, ?_⟩
    generalize powE (⟨2, by decide⟩ : Fin pF) quarP = i at *
    generalize powE a ((pF + 3) / 8) = r at *
    rw [g] at e0
    rw [ed_q21, e0, hi]
    exact ed_q22 a

/-- The curve's constants. -/
def kE : Fin pF := ⟨121665, by decide⟩
def c1E : Fin pF := ⟨28692721048178265397853269683490922171210976843790175684556505508326675974058, by decide⟩
def c2E : Fin pF := ⟨20800338683988658368647408995589388737092878452977063003340006470870624536394, by decide⟩
theorem cur1 : CurE 1 kE c1E := ⟨by decide +kernel, by decide +kernel, by decide +kernel, nonSq_ck _ _ (by decide +kernel) (by decide)⟩
theorem cur2 : CurE (-1) kE c2E := ⟨by decide +kernel, by decide +kernel, by decide +kernel, nonSq_ck _ _ (by decide +kernel) (by decide)⟩
theorem c1_k : c1E * kE = kE + 1 := by decide +kernel
theorem c2_k : c2E * (kE + 1) = kE := by decide +kernel
theorem nsA : NonSq (16 * (kE * (kE + 1))) := nonSq_ck 236839902240 (by decide) (by decide +kernel) (by decide)
theorem ns4 : NonSq (4 * (kE * (kE + 1))) := nonSq_ck 59209975560 (by decide) (by decide +kernel) (by decide)
theorem halfK : powE (kE * (kE + 1)) halfP = -1 := by
  rw [neg_one]
  exact powE_ck 14802493890 (by decide) halfP (pF - 1) (by decide +kernel) (by decide +kernel) _
section
variable {n : Nat} [NeZero n]
theorem ed_q1 {u k : Fin n} (h : u * u + (4 * k + 2) * u + 1 = 0) : (2 * u + (4 * k + 2)) * (2 * u + (4 * k + 2)) = 16 * (k * (k + 1)) := by grind
theorem ed_q2 {u k r : Fin n} (hr : r * r = (k + 1) * (u * (u * u + (4 * k + 2) * u + 1))) (h : u + 1 = 0) : r * r = 4 * (k * (k + 1)) := by grind
theorem ed_q3 {u k r : Fin n} (hr : r * r = k * (u * (u * u + (4 * k + 2) * u + 1))) (h : u - 1 = 0) : r * r = 4 * (k * (k + 1)) := by grind
theorem ed_q4 {u k r x d : Fin n} (hr : r * r = (k + 1) * (u * d)) (hx : x * d = 2 * r) : x * x * d * d = 4 * (k + 1) * u * d := by grind
theorem ed_q5 {u k r x d : Fin n} (hr : r * r = k * (u * d)) (hx : x * d = 2 * r) : x * x * d * d = 4 * k * u * d := by grind
theorem ed_q6 {u k c x y d : Fin n} (hd : d = u * u + (4 * k + 2) * u + 1) (hc : c * k = k + 1) (hx : x * x * d = 4 * (k + 1) * u) (hy : y * (u + 1) = u - 1) : x * x * (y * y) * (d * ((u + 1) * (u + 1)) * k) = c * (x * x + y * y - 1) * (d * ((u + 1) * (u + 1)) * k) := by
  have e1 : x * x * (y * y) * (d * ((u + 1) * (u + 1)) * k) = (x * x * d) * ((y * (u + 1)) * (y * (u + 1))) * k := by grind
  have e2 : c * (x * x + y * y - 1) * (d * ((u + 1) * (u + 1)) * k) = (c * k) * ((x * x * d) * ((u + 1) * (u + 1)) + d * ((y * (u + 1)) * (y * (u + 1))) - d * ((u + 1) * (u + 1))) := by grind
  rw [e1, e2, hx, hy, hc, hd]
  clear e1 e2 hx hy hc hd
  grind
theorem ed_q7 {u k c x y d : Fin n} (hd : d = u * u + (4 * k + 2) * u + 1) (hc : c * (k + 1) = k) (hx : x * x * d = 4 * k * u) (hy : y * (u - 1) = u + 1) : x * x * (y * y) * (d * ((u - 1) * (u - 1)) * (k + 1)) = c * (x * x + y * y - 1) * (d * ((u - 1) * (u - 1)) * (k + 1)) := by
  have e1 : x * x * (y * y) * (d * ((u - 1) * (u - 1)) * (k + 1)) = (x * x * d) * ((y * (u - 1)) * (y * (u - 1))) * (k + 1) := by grind
  have e2 : c * (x * x + y * y - 1) * (d * ((u - 1) * (u - 1)) * (k + 1)) = (c * (k + 1)) * ((x * x * d) * ((u - 1) * (u - 1)) + d * ((y * (u - 1)) * (y * (u - 1))) - d * ((u - 1) * (u - 1))) := by grind
  rw [e1, e2, hx, hy, hc, hd]
  clear e1 e2 hx hy hc hd
  grind
end
/-- EVERY NUMBER IS A POINT'S, of the one curve or of the other one. -/
theorem on_some (u : Fin pF) : ∃ (s c : Fin pF) (B : PtE pF), CurE s kE c ∧ OnE c B ∧ UofE s B u := by
  by_cases hu : u = 0
  · refine ⟨1, c1E, ⟨0, -1⟩, cur1, ed_q8 c1E, .inr ⟨fun e => ed_one_ne_neg KF e.symm, ?_, ?_⟩⟩
    · rw [hu]; exact ed_q9
    · rw [hu]; exact fun e => one_nz KF (ed_q10 e)
  · obtain ⟨d, hd⟩ : ∃ d, d = u * u + (4 * kE + 2) * u + 1 := ⟨_, rfl⟩
    have d0 : d ≠ 0 := fun e => nsA _ (ed_q1 (by rw [← hd]; exact e))
    have w0 : u * d ≠ 0 := KF.nz hu d0
    have k0 : kE ≠ 0 := by decide +kernel
    have k1 : kE + 1 ≠ 0 := by decide +kernel
    have hp : powE ((kE + 1) * (u * d)) halfP * powE (kE * (u * d)) halfP = -1 := by
      rw [← powE_prod, ed_q11, powE_prod (kE * (kE + 1)), powE_prod (u * d), powE_add (u * d), half_two, powE_last _ w0, halfK]
      exact ed_q12
    rcases half_or _ (KF.nz k1 w0) with e1 | e1
    · obtain ⟨r, hr⟩ := sq_of_half _ e1
      have hm : u + 1 ≠ 0 := fun e => ns4 r (ed_q2 (by rw [← hd]; exact hr) e)
      have hx : (2 * r * KF.inv d) * d = 2 * r := KF.div_mul d0
      have hy : ((u - 1) * KF.inv (u + 1)) * (u + 1) = u - 1 := KF.div_mul hm
      have hx2 := KF.cancel d0 (ed_q4 hr hx)
      have e2 := ed_q15 u
      have e3 := ed_q16 u
      have hrep : RepE 1 (⟨2 * r * KF.inv d, (u - 1) * KF.inv (u + 1)⟩ : PtE pF) u 1 := by
        unfold RepE
        rw [e2, e3]
        exact ⟨hy, hm⟩
      refine ⟨1, c1E, ⟨2 * r * KF.inv d, (u - 1) * KF.inv (u + 1)⟩, cur1, ?_, .inr ⟨fun e => one_nz KF ((y_one_of KF cur1.sq hrep.1 hrep.2).1 e), hrep⟩⟩
      exact KF.cancel (KF.nz (KF.nz d0 (KF.nz hm hm)) k0) (ed_q6 hd c1_k hx2 hy)
    · have e2 : powE (kE * (u * d)) halfP = 1 := by
        rw [e1] at hp
        exact (ed_q13 _).trans ((congrArg (fun z : Fin pF => -z) hp).trans ed_q14)
      obtain ⟨r, hr⟩ := sq_of_half _ e2
      have hm : u - 1 ≠ 0 := fun e => ns4 r (ed_q3 (by rw [← hd]; exact hr) e)
      have hx : (2 * r * KF.inv d) * d = 2 * r := KF.div_mul d0
      have hy : ((u + 1) * KF.inv (u - 1)) * (u - 1) = u + 1 := KF.div_mul hm
      have hx2 := KF.cancel d0 (ed_q5 hr hx)
      have e2 := ed_q17 u
      have e3 := ed_q18 u
      have hrep : RepE (-1) (⟨2 * r * KF.inv d, (u + 1) * KF.inv (u - 1)⟩ : PtE pF) u 1 := by
        unfold RepE
        rw [e2, e3]
        exact ⟨hy, hm⟩
      refine ⟨-1, c2E, ⟨2 * r * KF.inv d, (u + 1) * KF.inv (u - 1)⟩, cur2, ?_, .inr ⟨fun e => one_nz KF ((y_one_of KF cur2.sq hrep.1 hrep.2).1 e), hrep⟩⟩
      exact KF.cancel (KF.nz (KF.nz d0 (KF.nz hm hm)) k1) (ed_q7 hd c2_k hx2 hy)
/-- IN WHICH ORDER TWO MULTIPLY A POINT DOES NOT MATTER. -/
theorem lad_swap (u : Fin pF) (l m : List Bool) (hl : l ≠ []) (hm : m ≠ []) : ladE KF kE (ladE KF kE u l) m = ladE KF kE (ladE KF kE u m) l := by
  obtain ⟨s, c, B, C, hB, hb⟩ := on_some u
  exact ladE_swap KF KF_zero C hB hb l m hl hm
end Go.Proofs.Ythipdfmaaeoijaa
end
section
namespace Go.Proofs.Ythipdfmaaeoijaa
open Go.RowKit
set_option linter.unusedVariables false
set_option maxRecDepth 20000

theorem sub_val (a b : Fin pF) : (a - b).val = subF a.val b.val := by
  show (pF - b.val + a.val) % pF = (a.val + (pF - b.val)) % pF
  rw [Nat.add_comm]
theorem kE_val : kE.val = 121665 := rfl
/-- Four numbers, and the same four modulo p. -/
def Like (r : RN) (R : R4 pF) : Prop := r.a = R.x2.val ∧ r.b = R.z2.val ∧ r.c = R.x3.val ∧ r.d = R.z3.val
theorem Like.swap {r : RN} {R : R4 pF} (h : Like r R) (b : Bool) : Like (r.swap b) (R.swap b) := by
  obtain ⟨h1, h2, h3, h4⟩ := h
  cases b
  · exact ⟨h1, h2, h3, h4⟩
  · exact ⟨h3, h4, h1, h2⟩
theorem Like.next {r : RN} {R : R4 pF} (h : Like r R) (u : Fin pF) : Like (r.next u.val) (R.next kE u) := by
  obtain ⟨a, b, c, d⟩ := r
  obtain ⟨h1, h2, h3, h4⟩ := h
  simp only at h1 h2 h3 h4
  subst h1 h2 h3 h4
  refine ⟨?_, ?_, ?_, ?_⟩ <;> simp only [RN.next, R4.next, next2, nextz2, next3, nextz3, eN, dN, cN, Fin.val_mul, Fin.val_add, sub_val, kE_val]
/-- The numbers behind these bits. -/
def runL (u : Nat) : List Bool → Bool → RN → RN
  | [], last, r => r.swap last
  | b :: l, last, r => runL u l b ((r.swap (b != last)).next u)
theorem Like.run (u : Fin pF) (l : List Bool) : ∀ (last : Bool) {r : RN} {R : R4 pF}, Like r R → Like (runL u.val l last r) (runE kE u l last R) := by
  induction l with
  | nil => intro last r R h; exact h.swap last
  | cons b l ih => intro last r R h; exact ih b ((h.swap _).next u)
def startN (u : Nat) : RN := ⟨1, 0, u, 1⟩
theorem Like.start (u : Fin pF) : Like (startN u.val) (startE u) := ⟨rfl, rfl, rfl, rfl⟩
def ladN (u : Nat) (l : List Bool) : Nat := (runL u l false (startN u)).a * invF (runL u l false (startN u)).b % pF
theorem ladN_val (u : Fin pF) (l : List Bool) : (ladE KF kE u l).val = ladN u.val l := by
  have h := Like.run u l false (Like.start u)
  unfold ladN
  rw [h.1, h.2.1]
  rfl
theorem ladN_fin (u : Nat) (hu : u < pF) (l : List Bool) : ladE KF kE ⟨u, hu⟩ l = ⟨ladN u l, modF_lt _⟩ := Fin.ext (ladN_val ⟨u, hu⟩ l)
/-- A key's bits, the highest one first. -/
def bitsL (key : List UInt8) : List Bool := (List.range' 0 255).map (fun i => bitK key (254 - i))
theorem bitsL_length (key : List UInt8) : (bitsL key).length = 255 := by simp [bitsL]
theorem bitsL_ne (key : List UInt8) : bitsL key ≠ [] := by
  intro e
  have := bitsL_length key
  rw [e] at this
  exact absurd this (by decide)
theorem run_bits (key : List UInt8) (u : Nat) : ∀ (m k : Nat), k + m = 255 → runL u ((List.range' k m).map (fun i => bitK key (254 - i))) (lastN key k) (runN key u k) = endN key u := by
  intro m
  induction m with
  | zero =>
    intro k hk
    have e : k = 255 := by omega
    subst e
    rfl
  | succ m ih =>
    intro k hk
    rw [List.range'_succ, List.map_cons]
    exact ih (k + 1) (by omega)
theorem multN_lad (key : List UInt8) (u : Nat) : multN key u = ladN u (bitsL key) := by
  have h := run_bits key u 255 0 rfl
  unfold multN ladN
  rw [← h]
  rfl
theorem multN_fin (key : List UInt8) (u : Nat) (hu : u < pF) : (⟨multN key u, multN_lt _ _⟩ : Fin pF) = ladE KF kE ⟨u, hu⟩ (bitsL key) := by
  rw [ladN_fin]
  exact Fin.ext (multN_lad key u)
/-- What a point's number is once it is read back. -/
theorem num_raw (s p : List UInt8) : numK (rawK s p) = multN (clampK s) (numK p) := numK_key _ (multN_lt _ _)
/-- IN WHICH ORDER TWO SECRETS MULTIPLY DOES NOT MATTER. -/
theorem raw_swap (a b p : List UInt8) : rawK a (rawK b p) = rawK b (rawK a p) := by
  unfold rawK
  rw [numK_key _ (multN_lt _ _), numK_key _ (multN_lt _ _)]
  have h := lad_swap ⟨numK p, numK_lt p⟩ (bitsL (clampK a)) (bitsL (clampK b)) (bitsL_ne _) (bitsL_ne _)
  have e : multN (clampK a) (multN (clampK b) (numK p)) = multN (clampK b) (multN (clampK a) (numK p)) := by
    have h1 := congrArg Fin.val h
    rw [← multN_fin, ← multN_fin, ← multN_fin, ← multN_fin] at h1
    exact h1.symm
  rw [e]
/-- Forces a number ahead of what goes on with it. -/
def frc {α : Type} (x : Nat) (f : Nat → α) : α := Nat.rec (motive := fun _ => α) (f 0) (fun n _ => f (n + 1)) x
theorem frc_eq {α : Type} (x : Nat) (f : Nat → α) : frc x f = f x := by cases x <;> rfl
/-- The run, as the kernel can reckon it. -/
def runC (u : Nat) : List Bool → Bool → Nat → Nat → Nat → Nat → RN
  | [], last, a, b, c, d => RN.swap ⟨a, b, c, d⟩ last
  | t :: l, last, a, b, c, d =>
    if t != last then frc (next2 c d) fun a' => frc (nextz2 c d) fun b' => frc (next3 c d a b) fun c' => frc (nextz3 u c d a b) fun d' => runC u l t a' b' c' d'
    else frc (next2 a b) fun a' => frc (nextz2 a b) fun b' => frc (next3 a b c d) fun c' => frc (nextz3 u a b c d) fun d' => runC u l t a' b' c' d'
theorem runC_eq (u : Nat) (l : List Bool) : ∀ (last : Bool) (a b c d : Nat), runC u l last a b c d = runL u l last ⟨a, b, c, d⟩ := by
  induction l with
  | nil => intro last a b c d; rfl
  | cons t l ih =>
    intro last a b c d
    unfold runC runL
    simp only [frc_eq, ih]
    cases h : (t != last) <;> rfl
def ladC (u : Nat) (l : List Bool) : Nat := frc (runC u l false 1 0 u 1).a fun a => frc (runC u l false 1 0 u 1).b fun b => a * powN pF b (pF - 2) 255 % pF
theorem ladC_eq (u : Nat) (l : List Bool) : ladC u l = ladN u l := by
  unfold ladC ladN
  rw [frc_eq, frc_eq, runC_eq]
  show (runL u l false ⟨1, 0, u, 1⟩).a * powN pF (runL u l false ⟨1, 0, u, 1⟩).b (pF - 2) 255 % pF = (runL u l false ⟨1, 0, u, 1⟩).a * ((runL u l false ⟨1, 0, u, 1⟩).b ^ (pF - 2) % pF) % pF
  rw [Nat.mul_mod, powN_eq pF 255 _ (pF - 2) (by decide), ← Nat.mul_mod, Nat.mul_mod_mod]
end Go.Proofs.Ythipdfmaaeoijaa
end
section
namespace Go.Proofs.Ythipdfmaaeoijaa
open Go.RowKit
set_option linter.unusedVariables false
set_option maxRecDepth 20000

section
variable {n : Nat} [NeZero n]
theorem ed_t1 {c y : Fin n} (h : 0 * 0 * (y * y) = c * (0 * 0 + y * y - 1)) : (y * y) * c = 1 * c := by grind
theorem ed_t2 {s w : Fin n} (h : -1 * (w + s * 1) = w - s * 1) : w * 2 = 0 := by grind
theorem ed_t3 {s y : Fin n} (h : y * (0 + s * 1) = 0 - s * 1) : y * s = -1 * s := by grind
theorem ed_t4 (c y : Fin n) (a b : Fin n) : c * (0 * b + 0 * y) * a = 0 := by grind
theorem ed_t5 (c y : Fin n) (h : y * y = 1) : (0 : Fin n) * (c + 0 * 0 * y * y) = c * (0 * y + 0 * y) := by grind
theorem ed_t6 (c y : Fin n) (h : y * y = 1) : (1 : Fin n) * (c - 0 * 0 * y * y) = c * (y * y - 0 * 0) := by grind
theorem y_of_x {c : Fin n} (K : FldN n) (hc : NonSq c) {P : PtE n} (h : OnE c P) (hx : P.x = 0) : P.y * P.y = 1 := by
  unfold OnE at h
  rw [hx] at h
  exact K.cancel hc.nz (ed_t1 h)
/-- A point's number is 0 where the point is one of two. -/
theorem uof_zero (K : FldN n) {s k c : Fin n} (C : CurE s k c) {P : PtE n} (hP : OnE c P) {w : Fin n} (h : UofE s P w) : w = 0 ↔ P.x = 0 := by
  constructor
  · intro hw
    refine x_zero K C.ns hP ?_
    rcases h with ⟨hy, _⟩ | ⟨_, hr⟩
    · rw [hy]; grind
    · have h1 := hr.1
      rw [hw] at h1
      have h2 := ed_t3 h1
      have hs : s ≠ 0 := fun e => one_nz K (by have := C.sq; rw [e] at this; grind)
      rw [K.cancel hs h2]
      exact ed_q20 (1 : Fin n) ▸ (by grind)
  · intro hx
    have hy := y_of_x K C.ns hP hx
    rcases h with ⟨_, hw⟩ | ⟨hne, hr⟩
    · exact hw
    · rcases ed_root_one K hy with e | e
      · exact absurd e hne
      · have h1 := hr.1
        rw [e] at h1
        exact (K.zero_or (ed_t2 h1)).elim id (fun h2 => absurd h2 K.two)
theorem add_x0 (K : FldN n) {c : Fin n} {P Q : PtE n} (hp : P.x = 0) (hq : Q.x = 0) : (addE K c P Q).x = 0 := by
  show c * (P.x * Q.y + Q.x * P.y) * K.inv _ = 0
  rw [hp, hq]
  exact ed_t4 _ _ _ _
theorem add_end (K : FldN n) {c : Fin n} (hc : NonSq c) {P : PtE n} (hP : OnE c P) (hx : P.x = 0) : addE K c P P = zeroE := by
  have hy := y_of_x K hc hP hx
  refine addE_uniq K hc hP hP ?_ ?_
  · show (0 : Fin n) * (c + P.x * P.x * P.y * P.y) = c * (P.x * P.y + P.x * P.y)
    rw [hx]
    exact ed_t5 c _ hy
  · show (1 : Fin n) * (c - P.x * P.x * P.y * P.y) = c * (P.y * P.y - P.x * P.x)
    rw [hx]
    exact ed_t6 c _ hy
theorem mul_x0 (K : FldN n) {c : Fin n} {P : PtE n} (hx : P.x = 0) (k : Nat) : (mulE K c k P).x = 0 := by
  induction k with
  | zero => rfl
  | succ k ih => exact add_x0 K ih hx
theorem mul_end (K : FldN n) {c : Fin n} (hc : NonSq c) {P : PtE n} (hP : OnE c P) {k : Nat} (hx : (mulE K c k P).x = 0) : mulE K c (2 * k) P = zeroE := by
  rw [Nat.two_mul, mulE_add K hc hP]
  exact add_end K hc (onE_mul K hc hP k) hx
theorem mul_gcd (K : FldN n) {c : Fin n} (hc : NonSq c) {P : PtE n} (hP : OnE c P) (a b : Nat) : mulE K c a P = zeroE → mulE K c b P = zeroE → mulE K c (Nat.gcd a b) P = zeroE := by
  refine Nat.gcd.induction (P := fun a b => mulE K c a P = zeroE → mulE K c b P = zeroE → mulE K c (Nat.gcd a b) P = zeroE) a b ?_ ?_
  · intro b _ h
    rw [Nat.gcd_zero_left]
    exact h
  · intro m k hm ih h1 h2
    rw [Nat.gcd_rec]
    refine ih ?_ h1
    have e : k = (k / m) * m + k % m := by rw [Nat.mul_comm]; exact (Nat.div_add_mod k m).symm
    rw [e, mulE_add K hc hP, mulE_mul K hc hP, h1, mulE_zero K hc, addE_comm, addE_zero K hc (onE_mul K hc hP _)] at h2
    exact h2
end
theorem numB_append (l m : List Bool) : ∀ x, numB (l ++ m) x = numB m (numB l x) := by
  induction l with
  | nil => intro x; rfl
  | cons b l ih => intro x; exact ih _
theorem numB_range (l : List Bool) : ∀ x, x * 2 ^ l.length ≤ numB l x ∧ numB l x < (x + 1) * 2 ^ l.length := by
  induction l with
  | nil => intro x; exact ⟨by simp [numB], by simp [numB]⟩
  | cons b l ih =>
    intro x
    have h := ih (2 * x + b.toNat)
    have hb : b.toNat ≤ 1 := by cases b <;> decide
    have p : 2 ^ (b :: l).length = 2 * 2 ^ l.length := by rw [List.length_cons, Nat.pow_succ, Nat.mul_comm]
    rw [p]
    show x * (2 * 2 ^ l.length) ≤ numB l (2 * x + b.toNat) ∧ numB l (2 * x + b.toNat) < (x + 1) * (2 * 2 ^ l.length)
    generalize 2 ^ l.length = q at h ⊢
    have e1 : x * (2 * q) = 2 * x * q := by rw [Nat.mul_left_comm, ← Nat.mul_assoc]
    have e2 : (x + 1) * (2 * q) = (2 * x + 2) * q := by rw [← Nat.mul_assoc]; congr 1; omega
    rw [e1, e2]
    have m1 : 2 * x * q ≤ (2 * x + b.toNat) * q := Nat.mul_le_mul_right q (by omega)
    have m2 : (2 * x + b.toNat + 1) * q ≤ (2 * x + 2) * q := Nat.mul_le_mul_right q (by omega)
    omega
theorem by_63 (x : UInt8) : ((x &&& 127) ||| 64).toNat / 2 ^ 6 % 2 = 1 := by
  have h : ∀ n : Fin 256, ((n.val &&& 127) ||| 64) / 2 ^ 6 % 2 = 1 := by decide +kernel
  have := h ⟨x.toNat, x.toNat_lt⟩
  rw [UInt8.toNat_or, UInt8.toNat_and]
  exact this
theorem by_0 (x : UInt8) : (x &&& 248).toNat / 2 ^ 0 % 2 = 0 ∧ (x &&& 248).toNat / 2 ^ 1 % 2 = 0 ∧ (x &&& 248).toNat / 2 ^ 2 % 2 = 0 := by
  have h : ∀ n : Fin 256, (n.val &&& 248) / 2 ^ 0 % 2 = 0 ∧ (n.val &&& 248) / 2 ^ 1 % 2 = 0 ∧ (n.val &&& 248) / 2 ^ 2 % 2 = 0 := by decide +kernel
  have := h ⟨x.toNat, x.toNat_lt⟩
  rw [UInt8.toNat_and]
  exact this
theorem clamp_31 (s : List UInt8) (hs : s.length = 32) : (clampK s).getD 31 0 = (s.getD 31 0 &&& 127) ||| 64 := by
  unfold clampK
  simp [hs]
theorem clamp_0 (s : List UInt8) (hs : s.length = 32) : (clampK s).getD 0 0 = s.getD 0 0 &&& 248 := by
  unfold clampK
  simp [hs]
theorem range_255 : List.range' 0 255 = 0 :: (List.range' 1 251 ++ [252, 253, 254]) := by decide +kernel
/-- What the bits of a clamped key are: the highest one is set, the last three are not. -/
theorem clamp_bits (s : List UInt8) (hs : s.length = 32) : ∃ l : List Bool, l.length = 251 ∧ bitsL (clampK s) = true :: (l ++ [false, false, false]) := by
  refine ⟨(List.range' 1 251).map (fun i => bitK (clampK s) (254 - i)), by simp, ?_⟩
  have b0 : bitK (clampK s) (254 - 254) = false := by
    show (((clampK s).getD 0 0).toNat / 2 ^ 0 % 2 == 1) = false
    rw [clamp_0 s hs, (by_0 _).1]
    rfl
  have b1 : bitK (clampK s) (254 - 253) = false := by
    show (((clampK s).getD 0 0).toNat / 2 ^ 1 % 2 == 1) = false
    rw [clamp_0 s hs, (by_0 _).2.1]
    rfl
  have b2 : bitK (clampK s) (254 - 252) = false := by
    show (((clampK s).getD 0 0).toNat / 2 ^ 2 % 2 == 1) = false
    rw [clamp_0 s hs, (by_0 _).2.2]
    rfl
  have b3 : bitK (clampK s) (254 - 0) = true := by
    show (((clampK s).getD 31 0).toNat / 2 ^ 6 % 2 == 1) = true
    rw [clamp_31 s hs, by_63]
    rfl
  unfold bitsL
  rw [range_255, List.map_cons, List.map_append, List.map_cons, List.map_cons, List.map_cons, List.map_nil, b0, b1, b2, b3]
theorem clamp_num (s : List UInt8) (hs : s.length = 32) : ∃ m, numB (bitsL (clampK s)) 0 = m * 8 ∧ 2 ^ 251 ≤ m ∧ m < 2 ^ 252 := by
  obtain ⟨l, hl, e⟩ := clamp_bits s hs
  have h := numB_range l 1
  rw [hl] at h
  refine ⟨numB l 1, ?_, by omega, by have := h.2; omega⟩
  rw [e]
  show numB (l ++ [false, false, false]) 1 = numB l 1 * 8
  rw [numB_append]
  simp only [numB, Bool.toNat_false]
  omega
theorem ladE_zero (u : Nat) (hu : u < pF) (l : List Bool) : ladE KF kE ⟨u, hu⟩ l = 0 ↔ ladC u l = 0 := by
  rw [ladN_fin, ladC_eq]
  constructor
  · intro h
    have h1 : ladN u l = (0 : Fin pF).val := congrArg Fin.val h
    rw [fin_zero] at h1
    exact h1
  · intro h
    apply Fin.ext
    show ladN u l = (0 : Fin pF).val
    rw [fin_zero, h]
/-- A point of which eight are nothing has no multiple. -/
theorem small_zero (s : List UInt8) (hs : s.length = 32) (u : Nat) (hu : u < pF) (h8 : ladC u [true, false, false, false] = 0) : multN (clampK s) u = 0 := by
  obtain ⟨q, hq, -, -⟩ := clamp_num s hs
  obtain ⟨t, c, B, C, hB, hb⟩ := on_some ⟨u, hu⟩
  have h1 := ladE_uof KF KF_zero C hB hb (bitsL (clampK s)) (bitsL_ne _)
  have h2 := ladE_uof KF KF_zero C hB hb [true, false, false, false] (by simp)
  have z2 := (ladE_zero u hu [true, false, false, false]).2 h8
  have x8 : (mulE KF c 8 B).x = 0 := (uof_zero KF C (onE_mul KF C.ns hB _) h2).1 z2
  rw [hq, mulE_mul KF C.ns hB] at h1
  have z1 := (uof_zero KF C (onE_mul KF C.ns (onE_mul KF C.ns hB 8) q) h1).2 (mul_x0 KF x8 q)
  rw [← multN_fin] at z1
  exact congrArg Fin.val z1
/-- The order of the base point. -/
def ordE : Nat := 7237005577332262213973186563042994240857116359379907606001950938285454250989
def ordBits : List Bool := [true, false, false, false, false, false, false, false, false, false, false, false, false, false, false, false, false, false, false, false, false, false, false, false, false, false, false, false, false, false, false, false, false, false, false, false, false, false, false, false, false, false, false, false, false, false, false, false, false, false, false, false, false, false, false, false, false, false, false, false, false, false, false, false, false, false, false, false, false, false, false, false, false, false, false, false, false, false, false, false, false, false, false, false, false, false, false, false, false, false, false, false, false, false, false, false, false, false, false, false, false, false, false, false, false, false, false, false, false, false, false, false, false, false, false, false, false, false, false, false, false, false, false, false, false, false, false, false, true, false, true, false, false, true, true, false, true, true, true, true, false, true, true, true, true, true, false, false, true, true, true, false, true, true, true, true, false, true, false, true, false, false, false, true, false, true, true, true, true, false, true, true, true, true, false, false, true, true, true, false, false, true, true, false, true, false, true, true, false, false, true, false, true, true, false, false, false, false, false, false, true, false, false, true, false, false, true, true, false, false, false, true, true, false, false, false, true, true, false, true, false, false, true, false, true, true, true, false, false, true, true, true, true, false, true, false, true, true, true, false, true, false, false, true, true, true, true, true, false, true, true, false, true]
theorem ordBits_num : numB ordBits 0 = ordE := by decide +kernel
theorem ord_lad : ladC 9 ordBits = 0 := by decide +kernel
theorem two_lad : ladC 9 [true, false] ≠ 0 := by decide +kernel
theorem o_1224481 : PrimeN 1224481 := prime_small (b := 1106) (by decide) (by decide) (by decide +kernel)
theorem o_531581 : PrimeN 531581 := prime_small (b := 729) (by decide) (by decide) (by decide +kernel)
theorem o_1257559732178653 : PrimeN 1257559732178653 := prime_two (q := 1224481) (s := 531581) (by decide) (by decide +kernel) (by decide) (cert (a := 2) (m := 1027014492) (f := 51) o_1224481 (by decide +kernel)) (cert (a := 2) (m := 2365697292) (f := 51) o_531581 (by decide +kernel))
theorem o_4434155615661930479 : PrimeN 4434155615661930479 := prime_one (q := 1257559732178653) (by decide) (by decide) (cert (a := 2) (m := 3526) (f := 62) o_1257559732178653 (by decide +kernel))
theorem o_172054593956031949258510691 : PrimeN 172054593956031949258510691 := prime_one (q := 4434155615661930479) (by decide) (by decide) (cert (a := 2) (m := 38802110) (f := 88) o_4434155615661930479 (by decide +kernel))
theorem o_19757330305831588566944191468367130476339 : PrimeN 19757330305831588566944191468367130476339 := prime_one (q := 172054593956031949258510691) (by decide) (by decide) (cert (a := 2) (m := 114831751082918) (f := 134) o_172054593956031949258510691 (by decide +kernel))
theorem o_276602624281642239937218680557139826668747 : PrimeN 276602624281642239937218680557139826668747 := prime_one (q := 19757330305831588566944191468367130476339) (by decide) (by decide) (cert (a := 2) (m := 14) (f := 138) o_19757330305831588566944191468367130476339 (by decide +kernel))
theorem p_ord : PrimeN 7237005577332262213973186563042994240857116359379907606001950938285454250989 := prime_one (q := 276602624281642239937218680557139826668747) (by decide) (by decide) (cert (a := 2) (m := 26163907866482859529727157400808004) (f := 253) o_276602624281642239937218680557139826668747 (by decide +kernel))
theorem ord_prime : PrimeN ordE := p_ord
theorem ord_not (m : Nat) (h0 : 0 < m) (h : m < ordE) : ¬ ordE ∣ m := fun hd => by have := Nat.le_of_dvd h0 hd; omega
/-- WHAT TWO SHARE IS NEVER 0. -/
theorem shared_ne (a b : List UInt8) (ha : a.length = 32) (hb : b.length = 32) : multN (clampK a) (multN (clampK b) 9) ≠ 0 := by
  intro h0
  obtain ⟨q, hq, q1, q2⟩ := clamp_num a ha
  obtain ⟨r, hr, r1, r2⟩ := clamp_num b hb
  have p9 : 9 < pF := by decide
  obtain ⟨t, c, B, C, hB, h9⟩ := on_some ⟨9, p9⟩
  have k1 := ladE_uof KF KF_zero C hB h9 (bitsL (clampK b)) (bitsL_ne _)
  have k2 := ladE_uof KF KF_zero C (onE_mul KF C.ns hB _) k1 (bitsL (clampK a)) (bitsL_ne _)
  rw [← multN_fin, ← multN_fin] at k2
  have z2 := (uof_zero KF C (onE_mul KF C.ns (onE_mul KF C.ns hB _) _) k2).1 (Fin.ext h0)
  rw [← mulE_mul KF C.ns hB, hq, hr] at z2
  have e1 := mul_end KF C.ns hB z2
  have k3 := ladE_uof KF KF_zero C hB h9 ordBits (by simp [ordBits])
  have z3 := (ladE_zero 9 p9 ordBits).2 ord_lad
  rw [ordBits_num] at k3
  have e3 := mul_end KF C.ns hB ((uof_zero KF C (onE_mul KF C.ns hB _) k3).1 z3)
  have hg := mul_gcd KF C.ns hB _ _ e1 e3
  have o1 : 0 < ordE := by decide
  have c64 : Nat.Coprime ordE 64 := prime_coprime ord_prime (ord_not 64 (by decide) (by decide))
  have cq : Nat.Coprime ordE q := prime_coprime ord_prime (ord_not q (by omega) (by unfold ordE; omega))
  have cr : Nat.Coprime ordE r := prime_coprime ord_prime (ord_not r (by omega) (by unfold ordE; omega))
  have cc : Nat.Coprime (64 * (q * r)) ordE := (Nat.Coprime.mul_right c64 (Nat.Coprime.mul_right cq cr)).symm
  have e4 : q * 8 * (r * 8) = 64 * (q * r) := by rw [Nat.mul_assoc, Nat.mul_left_comm 8 r 8, ← Nat.mul_assoc, Nat.mul_comm (q * r)]
  rw [e4, Nat.gcd_mul_left, cc.gcd_eq_one, Nat.mul_one] at hg
  have k4 := ladE_uof KF KF_zero C hB h9 [true, false] (by simp)
  have z4 := (uof_zero KF C (onE_mul KF C.ns hB _) k4).2 (by show (mulE KF c 2 B).x = 0; rw [hg]; rfl)
  exact two_lad ((ladE_zero 9 p9 [true, false]).1 z4)
end Go.Proofs.Ythipdfmaaeoijaa
end
section
namespace Go.Proofs.Ythipdfmaaeoijaa
open Go.RowKit
set_option linter.unusedVariables false
set_option maxRecDepth 20000

theorem nine_num : numK nineK = 9 := by decide +kernel
theorem raw_whole (s p : List UInt8) : ofLowB (rawK s p) < pF := by
  unfold rawK
  have h := multN_lt (clampK s) (numK p)
  rw [ofLowB_lowB, Nat.mod_eq_of_lt (Nat.lt_trans h (by decide))]
  exact h
theorem shared_not (a b : List UInt8) (ha : a.length = 32) (hb : b.length = 32) : rawK a (rawK b nineK) ≠ zeroKey := fun h => by
  have h1 := congrArg numK h
  rw [num_raw, num_raw, nine_num, show numK zeroKey = 0 by decide +kernel] at h1
  exact shared_ne a b ha hb h1
theorem shared_K (a b : List UInt8) : multK a (rawK b nineK) = rawK a (rawK b nineK) := if_pos (raw_whole _ _)
theorem shared_E (a b : List UInt8) (ha : a.length = 32) (hb : b.length = 32) : multE a (rawK b nineK) = 0 := by
  unfold multE
  rw [if_pos (raw_whole _ _), if_neg (shared_not a b ha hb)]
end Go.Proofs.Ythipdfmaaeoijaa
end
section
namespace Go.Proofs.Ythipdfmaaeoijaa
open Go.RowKit
set_option linter.unusedVariables false
set_option maxRecDepth 20000

theorem sorted_eq : ∀ {s t : List Nat}, s.Perm t → s.Pairwise (· ≤ ·) → t.Pairwise (· ≤ ·) → s = t
  | [], t, h, _, _ => (List.nil_perm.1 h).symm
  | x :: s, [], h, _, _ => absurd h.length_eq (by simp)
  | x :: s, y :: t, h, h1, h2 => by
    obtain ⟨a1, a2⟩ := List.pairwise_cons.1 h1
    obtain ⟨b1, b2⟩ := List.pairwise_cons.1 h2
    have hx : x ∈ y :: t := h.subset List.mem_cons_self
    have hy : y ∈ x :: s := h.symm.subset List.mem_cons_self
    have e : x = y := by
      rcases List.mem_cons.1 hx with e | hx
      · exact e
      · rcases List.mem_cons.1 hy with e | hy
        · exact e.symm
        · have := a1 y hy
          have := b1 x hx
          omega
    subst e
    rw [sorted_eq (List.Perm.cons_inv h) a2 b2]
theorem range_le : ∀ (m a : Nat), (List.range' a m).Pairwise (· ≤ ·)
  | 0, _ => List.Pairwise.nil
  | m + 1, a => by
    rw [List.range'_succ]
    refine List.pairwise_cons.2 ⟨fun x hx => ?_, range_le m (a + 1)⟩
    rw [List.mem_range'_1] at hx
    omega
theorem range_from (c : Nat) : ∀ (m a : Nat), ∃ a' m', (List.range' a m).filter (fun x => decide (c ≤ x)) = List.range' a' m' ∧ a' + m' = a + m ∧ a ≤ a'
  | 0, a => ⟨a, 0, rfl, rfl, Nat.le_refl _⟩
  | m + 1, a => by
    by_cases h : c ≤ a
    · refine ⟨a, m + 1, List.filter_eq_self.2 fun x hx => ?_, rfl, Nat.le_refl _⟩
      rw [List.mem_range'_1] at hx
      exact decide_eq_true (by omega)
    · obtain ⟨a', m', h1, h2, h3⟩ := range_from c m (a + 1)
      refine ⟨a', m', ?_, by omega, by omega⟩
      rw [List.range'_succ, List.filter_cons_of_neg (by simpa using h), h1]
/-- What Erase leaves of numbers in a row is in a row, and the last one stays. -/
theorem row_left (below last a m : Nat) (ks : List (Nat × List UInt8)) (hk : ks.map (·.1) = List.range' a m) (hl : 0 < m → last + 1 = a + m) :
    ∃ a' m', (ks.filter fun p => !dead below last p.1).map (·.1) = List.range' a' m' ∧ a' + m' = a + m ∧ a ≤ a' ∧ (0 < m → 0 < m') := by
  have e1 : (ks.filter fun p => !dead below last p.1).map (·.1) = (ks.map (·.1)).filter fun x => !dead below last x := by rw [List.filter_map]; rfl
  rw [e1, hk]
  obtain ⟨a', m', h1, h2, h3⟩ := range_from (min below last) m a
  have h4 : (List.range' a m).filter (fun x => !dead below last x) = (List.range' a m).filter (fun x => decide (min below last ≤ x)) := List.filter_congr fun x hx => by
    rw [List.mem_range'_1] at hx
    have h5 := hl (by omega)
    unfold dead
    by_cases hb : x < below
    · by_cases he : x = last
      · subst he
        simp only [beq_self_eq_true, Bool.not_true, Bool.and_false, Bool.not_false]
        exact (decide_eq_true (by omega)).symm
      · have h6 : ¬ min below last ≤ x := by omega
        simp [hb, he, h6]
    · have h6 : min below last ≤ x := by omega
      simp [hb, h6]
  rw [h4]
  refine ⟨a', m', h1, h2, h3, fun hm => ?_⟩
  have h5 := hl hm
  have hin : last ∈ (List.range' a m).filter (fun x => decide (min below last ≤ x)) := List.mem_filter.2 ⟨by rw [List.mem_range'_1]; omega, decide_eq_true (by omega)⟩
  rw [h1, List.mem_range'_1] at hin
  omega
end Go.Proofs.Ythipdfmaaeoijaa
end
