/-
  Texts that belong together, merged: EdA, EdB, EdC, FieldLaws, FieldPrime. Conditions: as each theorem names them.
-/
import Derived.Test.YthipdfmaaeoijaaQEpcAE
section
namespace Go.Proofs.Ythipdfmaaeoijaa
set_option linter.unusedVariables false

/-- What is wanted of a field: inverses, and that 2 is not 0. -/
structure FldN (n : Nat) [NeZero n] where
  inv : Fin n → Fin n
  mul_inv : ∀ a : Fin n, a ≠ 0 → a * inv a = 1
  two : (2 : Fin n) ≠ 0

section
variable {n : Nat} [NeZero n]
theorem FldN.zero_or (K : FldN n) {a b : Fin n} (h : a * b = 0) : a = 0 ∨ b = 0 := by
  by_cases ha : a = 0
  · exact .inl ha
  · have h1 := K.mul_inv a ha
    right
    grind
theorem FldN.nz (K : FldN n) {a b : Fin n} (ha : a ≠ 0) (hb : b ≠ 0) : a * b ≠ 0 := fun h => (K.zero_or h).elim ha hb
theorem FldN.cancel (K : FldN n) {a b d : Fin n} (hd : d ≠ 0) (h : a * d = b * d) : a = b := by
  have h1 : (a - b) * d = 0 := by grind
  rcases K.zero_or h1 with h2 | h2
  · grind
  · exact absurd h2 hd
theorem FldN.div_eq (K : FldN n) {a b d : Fin n} (hd : d ≠ 0) (h : a * d = b) : a = b * K.inv d := by
  have := K.mul_inv d hd
  grind
theorem FldN.div_mul (K : FldN n) {b d : Fin n} (hd : d ≠ 0) : b * K.inv d * d = b := by
  have := K.mul_inv d hd
  grind
theorem FldN.half (K : FldN n) {a : Fin n} (h : a + a = 0) : a = 0 := by
  have h1 : (2 : Fin n) * a = 0 := by grind
  exact (K.zero_or h1).resolve_left K.two

theorem ed_mulR {a b d : Fin n} (h : a * b = d) (e : Fin n) : a * (b * e) = d * e := by rw [← h]; grind
theorem ed_mulA (a b d : Fin n) : a * b * d = a * (b * d) := by grind
theorem ed_mulC3 (c a b d e : Fin n) (h : a * b = d * e) : c * (c * a) * (c * b) = c * (c * d) * (c * e) := by grind
@[ext] structure PtE (n : Nat) where
  x : Fin n
  y : Fin n
def OnE (c : Fin n) (P : PtE n) : Prop := P.x * P.x * (P.y * P.y) = c * (P.x * P.x + P.y * P.y - 1)
def NonSq (c : Fin n) : Prop := ∀ r : Fin n, r * r ≠ c
theorem NonSq.nz {c : Fin n} (h : NonSq c) : c ≠ 0 := fun e => h 0 (by rw [e]; grind)
theorem NonSq.no {c a b : Fin n} (h : NonSq c) (K : FldN n) (ha : a ≠ 0) (e : c * (a * a) = b * b) : False := by
  have h1 := K.mul_inv a ha
  refine h (b * K.inv a) ?_
  grind

theorem complete_aux (K : FldN n) {c : Fin n} (hc : NonSq c) {x1 y1 x2 y2 e : Fin n} (h1 : x1 * x1 * (y1 * y1) = c * (x1 * x1 + y1 * y1 - 1)) (h2 : x2 * x2 * (y2 * y2) = c * (x2 * x2 + y2 * y2 - 1)) (he : e * e = 1) (ht : x1 * x2 * y1 * y2 = e * c) : False := by
  have hc0 := hc.nz
  have a1 : (c * (x1 * x1 + y1 * y1)) * c = (x1 * x1 * (y1 * y1) * (x2 * x2 + y2 * y2)) * c := by grind
  have a2 := K.cancel hc0 a1
  have b1 : c * ((x1 + e * y1) * (x1 + e * y1)) = (x1 * y1 * (x2 + y2)) * (x1 * y1 * (x2 + y2)) := by grind
  have b2 : c * ((x1 - e * y1) * (x1 - e * y1)) = (x1 * y1 * (x2 - y2)) * (x1 * y1 * (x2 - y2)) := by grind
  by_cases p1 : x1 + e * y1 = 0
  · by_cases p2 : x1 - e * y1 = 0
    · have ed_q1 : x1 = 0 := K.half (by grind)
      have ed_q2 : e * c = 0 := by grind
      have ed_q3 : c = 0 := by grind
      exact hc0 ed_q3
    · exact hc.no K p2 b2
  · exact hc.no K p1 b1

def addE (K : FldN n) (c : Fin n) (P Q : PtE n) : PtE n := ⟨c * (P.x * Q.y + Q.x * P.y) * K.inv (c + P.x * Q.x * P.y * Q.y), c * (P.y * Q.y - P.x * Q.x) * K.inv (c - P.x * Q.x * P.y * Q.y)⟩
def zeroE : PtE n := ⟨0, 1⟩
def negE (P : PtE n) : PtE n := ⟨-P.x, P.y⟩
theorem onE_zero (c : Fin n) : OnE c zeroE := by unfold OnE zeroE; grind
theorem onE_neg {c : Fin n} {P : PtE n} (h : OnE c P) : OnE c (negE P) := by unfold OnE negE at *; grind
theorem plus_nz (K : FldN n) {c : Fin n} (hc : NonSq c) {P Q : PtE n} (hP : OnE c P) (hQ : OnE c Q) : c + P.x * Q.x * P.y * Q.y ≠ 0 := fun h => complete_aux K hc (e := -1) hP hQ (by grind) (by grind)
theorem minus_nz (K : FldN n) {c : Fin n} (hc : NonSq c) {P Q : PtE n} (hP : OnE c P) (hQ : OnE c Q) : c - P.x * Q.x * P.y * Q.y ≠ 0 := fun h => complete_aux K hc (e := 1) hP hQ (by grind) (by grind)
theorem addE_x (K : FldN n) {c : Fin n} (hc : NonSq c) {P Q : PtE n} (hP : OnE c P) (hQ : OnE c Q) : (addE K c P Q).x * (c + P.x * Q.x * P.y * Q.y) = c * (P.x * Q.y + Q.x * P.y) := K.div_mul (plus_nz K hc hP hQ)
theorem addE_y (K : FldN n) {c : Fin n} (hc : NonSq c) {P Q : PtE n} (hP : OnE c P) (hQ : OnE c Q) : (addE K c P Q).y * (c - P.x * Q.x * P.y * Q.y) = c * (P.y * Q.y - P.x * Q.x) := K.div_mul (minus_nz K hc hP hQ)
theorem close_id (c : Fin n) (x1 y1 x2 y2 : Fin n) (h1 : x1 * x1 * (y1 * y1) = c * (x1 * x1 + y1 * y1 - 1)) (h2 : x2 * x2 * (y2 * y2) = c * (x2 * x2 + y2 * y2 - 1)) :
    c * c * c * ((x1 * y2 + x2 * y1) * (x1 * y2 + x2 * y1) * ((y1 * y2 - x1 * x2) * (y1 * y2 - x1 * x2))) = c * c * ((x1 * y2 + x2 * y1) * (x1 * y2 + x2 * y1)) * ((c - x1 * x2 * y1 * y2) * (c - x1 * x2 * y1 * y2)) + c * c * ((y1 * y2 - x1 * x2) * (y1 * y2 - x1 * x2)) * ((c + x1 * x2 * y1 * y2) * (c + x1 * x2 * y1 * y2)) - (c + x1 * x2 * y1 * y2) * (c + x1 * x2 * y1 * y2) * ((c - x1 * x2 * y1 * y2) * (c - x1 * x2 * y1 * y2)) := by
  grind
theorem onE_add (K : FldN n) {c : Fin n} (hc : NonSq c) {P Q : PtE n} (hP : OnE c P) (hQ : OnE c Q) : OnE c (addE K c P Q) := by
  have ex := addE_x K hc hP hQ
  have ey := addE_y K hc hP hQ
  have n1 := plus_nz K hc hP hQ
  have n2 := minus_nz K hc hP hQ
  have id := close_id c P.x P.y Q.x Q.y hP hQ
  unfold OnE
  generalize (addE K c P Q).x = X at *
  generalize (addE K c P Q).y = Y at *
  generalize c + P.x * Q.x * P.y * Q.y = D at *
  generalize c - P.x * Q.x * P.y * Q.y = E at *
  generalize P.x * Q.y + Q.x * P.y = N at *
  generalize P.y * Q.y - P.x * Q.x = M at *
  refine K.cancel (K.nz (K.nz n1 n1) (K.nz n2 n2)) ?_
  have e1 : X * X * (Y * Y) * (D * D * (E * E)) = (X * D) * (X * D) * ((Y * E) * (Y * E)) := by grind
  have e2 : c * (X * X + Y * Y - 1) * (D * D * (E * E)) = c * ((X * D) * (X * D) * (E * E) + (Y * E) * (Y * E) * (D * D) - D * D * (E * E)) := by grind
  rw [e1, e2, ex, ey]
  clear e1 e2 ex ey hP hQ n1 n2
  have e3 : c * (c * c * c * (N * N * (M * M))) = c * (c * c * (N * N) * (E * E) + c * c * (M * M) * (D * D) - D * D * (E * E)) := by rw [id]
  grind
theorem addE_uniq (K : FldN n) {c : Fin n} (hc : NonSq c) {P Q R : PtE n} (hP : OnE c P) (hQ : OnE c Q) (hx : R.x * (c + P.x * Q.x * P.y * Q.y) = c * (P.x * Q.y + Q.x * P.y)) (hy : R.y * (c - P.x * Q.x * P.y * Q.y) = c * (P.y * Q.y - P.x * Q.x)) : addE K c P Q = R := by
  apply PtE.ext
  · exact K.cancel (plus_nz K hc hP hQ) ((addE_x K hc hP hQ).trans hx.symm)
  · exact K.cancel (minus_nz K hc hP hQ) ((addE_y K hc hP hQ).trans hy.symm)
theorem addE_zero (K : FldN n) {c : Fin n} (hc : NonSq c) {P : PtE n} (hP : OnE c P) : addE K c P zeroE = P := addE_uniq K hc hP (onE_zero c) (by simp only [zeroE]; grind) (by simp only [zeroE]; grind)
theorem addE_comm (K : FldN n) {c : Fin n} (P Q : PtE n) : addE K c P Q = addE K c Q P := by
  have e1 : P.x * Q.y + Q.x * P.y = Q.x * P.y + P.x * Q.y := by grind
  have e2 : P.x * Q.x * P.y * Q.y = Q.x * P.x * Q.y * P.y := by grind
  have e3 : P.y * Q.y - P.x * Q.x = Q.y * P.y - Q.x * P.x := by grind
  unfold addE
  rw [e1, e2, e3]
theorem addE_neg (K : FldN n) {c : Fin n} (hc : NonSq c) {P : PtE n} (hP : OnE c P) : addE K c P (negE P) = zeroE := by
  refine addE_uniq K hc hP (onE_neg hP) ?_ ?_
  · simp only [zeroE, negE]; grind
  · have := hP
    unfold OnE at this
    simp only [zeroE, negE]
    grind
theorem assoc_x (c : Fin n) (x1 y1 x2 y2 x3 y3 : Fin n) (h1 : x1*x1*(y1*y1) = c*(x1*x1+y1*y1-1)) (h2 : x2*x2*(y2*y2) = c*(x2*x2+y2*y2-1)) (h3 : x3*x3*(y3*y3) = c*(x3*x3+y3*y3-1)) :
  ((x1*y2+x2*y1)*(c - x1*x2*y1*y2)*y3+(y1*y2-x1*x2)*(c + x1*x2*y1*y2)*x3)*((c + x2*x3*y2*y3)*(c - x2*x3*y2*y3)+c*(x2*y3+x3*y2)*(y2*y3-x2*x3)*x1*y1)
   = (x1*(y2*y3-x2*x3)*(c + x2*x3*y2*y3)+y1*(x2*y3+x3*y2)*(c - x2*x3*y2*y3))*((c + x1*x2*y1*y2)*(c - x1*x2*y1*y2)+c*(x1*y2+x2*y1)*(y1*y2-x1*x2)*x3*y3) := by grind
theorem assoc_y (c : Fin n) (x1 y1 x2 y2 x3 y3 : Fin n) (h1 : x1*x1*(y1*y1) = c*(x1*x1+y1*y1-1)) (h2 : x2*x2*(y2*y2) = c*(x2*x2+y2*y2-1)) (h3 : x3*x3*(y3*y3) = c*(x3*x3+y3*y3-1)) :
  ((y1*y2-x1*x2)*(c + x1*x2*y1*y2)*y3-(x1*y2+x2*y1)*(c - x1*x2*y1*y2)*x3)*((c + x2*x3*y2*y3)*(c - x2*x3*y2*y3)-c*(x2*y3+x3*y2)*(y2*y3-x2*x3)*x1*y1)
   = (y1*(y2*y3-x2*x3)*(c + x2*x3*y2*y3)-x1*(x2*y3+x3*y2)*(c - x2*x3*y2*y3))*((c + x1*x2*y1*y2)*(c - x1*x2*y1*y2)-c*(x1*y2+x2*y1)*(y1*y2-x1*x2)*x3*y3) := by grind
theorem addE_assoc (K : FldN n) {c : Fin n} (hc : NonSq c) {P Q R : PtE n} (hP : OnE c P) (hQ : OnE c Q) (hR : OnE c R) : addE K c (addE K c P Q) R = addE K c P (addE K c Q R) := by
  have hA := onE_add K hc hP hQ
  have hB := onE_add K hc hQ hR
  have ax := addE_x K hc hP hQ
  have ay := addE_y K hc hP hQ
  have bx := addE_x K hc hQ hR
  have by' := addE_y K hc hQ hR
  have n1 := plus_nz K hc hP hQ
  have n2 := minus_nz K hc hP hQ
  have n3 := plus_nz K hc hQ hR
  have n4 := minus_nz K hc hQ hR
  have m1 := plus_nz K hc hA hR
  have m2 := minus_nz K hc hA hR
  have m3 := plus_nz K hc hP hB
  have m4 := minus_nz K hc hP hB
  have lx := addE_x K hc hA hR
  have ly := addE_y K hc hA hR
  have rx := addE_x K hc hP hB
  have ry := addE_y K hc hP hB
  have ix := assoc_x c P.x P.y Q.x Q.y R.x R.y hP hQ hR
  have iy := assoc_y c P.x P.y Q.x Q.y R.x R.y hP hQ hR
  have hc0 := hc.nz
  generalize addE K c P Q = A at *
  generalize addE K c Q R = B at *
  generalize addE K c A R = L at *
  generalize addE K c P B = S at *
  generalize c + P.x * Q.x * P.y * Q.y = D1 at *
  generalize c - P.x * Q.x * P.y * Q.y = E1 at *
  generalize c + Q.x * R.x * Q.y * R.y = D2 at *
  generalize c - Q.x * R.x * Q.y * R.y = E2 at *
  generalize P.x * Q.y + Q.x * P.y = N1 at *
  generalize P.y * Q.y - P.x * Q.x = M1 at *
  generalize Q.x * R.y + R.x * Q.y = N2 at *
  generalize Q.y * R.y - Q.x * R.x = M2 at *
  have k1 := K.nz n1 n2
  have k2 := K.nz n3 n4
  -- the denominators, cleared
  have dx1 : (c + A.x * R.x * A.y * R.y) * (D1 * E1) = c * (D1 * E1 + c * N1 * M1 * R.x * R.y) := by
    have : (c + A.x * R.x * A.y * R.y) * (D1 * E1) = c * (D1 * E1) + (A.x * D1) * (A.y * E1) * R.x * R.y := by grind
    rw [this, ax, ay]; grind
  have dy1 : (c - A.x * R.x * A.y * R.y) * (D1 * E1) = c * (D1 * E1 - c * N1 * M1 * R.x * R.y) := by
    have : (c - A.x * R.x * A.y * R.y) * (D1 * E1) = c * (D1 * E1) - (A.x * D1) * (A.y * E1) * R.x * R.y := by grind
    rw [this, ax, ay]; grind
  have dx2 : (c + P.x * B.x * P.y * B.y) * (D2 * E2) = c * (D2 * E2 + c * N2 * M2 * P.x * P.y) := by
    have : (c + P.x * B.x * P.y * B.y) * (D2 * E2) = c * (D2 * E2) + (B.x * D2) * (B.y * E2) * P.x * P.y := by grind
    rw [this, bx, by']; grind
  have dy2 : (c - P.x * B.x * P.y * B.y) * (D2 * E2) = c * (D2 * E2 - c * N2 * M2 * P.x * P.y) := by
    have : (c - P.x * B.x * P.y * B.y) * (D2 * E2) = c * (D2 * E2) - (B.x * D2) * (B.y * E2) * P.x * P.y := by grind
    rw [this, bx, by']; grind
  have nx1 : (A.x * R.y + R.x * A.y) * (D1 * E1) = c * (N1 * E1 * R.y + M1 * D1 * R.x) := by
    have : (A.x * R.y + R.x * A.y) * (D1 * E1) = (A.x * D1) * E1 * R.y + (A.y * E1) * D1 * R.x := by grind
    rw [this, ax, ay]; grind
  have ny1 : (A.y * R.y - A.x * R.x) * (D1 * E1) = c * (M1 * D1 * R.y - N1 * E1 * R.x) := by
    have : (A.y * R.y - A.x * R.x) * (D1 * E1) = (A.y * E1) * D1 * R.y - (A.x * D1) * E1 * R.x := by grind
    rw [this, ax, ay]; grind
  have nx2 : (P.x * B.y + B.x * P.y) * (D2 * E2) = c * (P.x * M2 * D2 + P.y * N2 * E2) := by
    have : (P.x * B.y + B.x * P.y) * (D2 * E2) = (B.y * E2) * D2 * P.x + (B.x * D2) * E2 * P.y := by grind
    rw [this, bx, by']; grind
  have ny2 : (P.y * B.y - P.x * B.x) * (D2 * E2) = c * (P.y * M2 * D2 - P.x * N2 * E2) := by
    have : (P.y * B.y - P.x * B.x) * (D2 * E2) = (B.y * E2) * D2 * P.y - (B.x * D2) * E2 * P.x := by grind
    rw [this, bx, by']; grind
  have u1 := K.nz m1 k1
  have u2 := K.nz m2 k1
  have u3 := K.nz m3 k2
  have u4 := K.nz m4 k2
  have L1 : L.x * (c * (D1 * E1 + c * N1 * M1 * R.x * R.y)) = c * (c * (N1 * E1 * R.y + M1 * D1 * R.x)) := by rw [← dx1, ← nx1, ed_mulR lx]; exact ed_mulA _ _ _
  have L2 : L.y * (c * (D1 * E1 - c * N1 * M1 * R.x * R.y)) = c * (c * (M1 * D1 * R.y - N1 * E1 * R.x)) := by rw [← dy1, ← ny1, ed_mulR ly]; exact ed_mulA _ _ _
  have S1 : S.x * (c * (D2 * E2 + c * N2 * M2 * P.x * P.y)) = c * (c * (P.x * M2 * D2 + P.y * N2 * E2)) := by rw [← dx2, ← nx2, ed_mulR rx]; exact ed_mulA _ _ _
  have S2 : S.y * (c * (D2 * E2 - c * N2 * M2 * P.x * P.y)) = c * (c * (P.y * M2 * D2 - P.x * N2 * E2)) := by rw [← dy2, ← ny2, ed_mulR ry]; exact ed_mulA _ _ _
  rw [dx1] at u1
  rw [dy1] at u2
  rw [dx2] at u3
  rw [dy2] at u4
  clear dx1 dy1 dx2 dy2 nx1 ny1 nx2 ny2 m1 m2 m3 m4 lx ly rx ry ax ay bx by' n1 n2 n3 n4 k1 k2 hA hB hP hQ hR
  generalize c * N1 * M1 * R.x * R.y = t1 at *
  generalize c * N2 * M2 * P.x * P.y = t2 at *
  apply PtE.ext
  · refine K.cancel (K.nz u1 u3) ?_
    have e1 : L.x * (c * (D1 * E1 + t1) * (c * (D2 * E2 + t2))) = (L.x * (c * (D1 * E1 + t1))) * (c * (D2 * E2 + t2)) := by grind
    have e2 : S.x * (c * (D1 * E1 + t1) * (c * (D2 * E2 + t2))) = (S.x * (c * (D2 * E2 + t2))) * (c * (D1 * E1 + t1)) := by grind
    rw [e1, e2, L1, S1]
    exact ed_mulC3 _ _ _ _ _ ix
  · refine K.cancel (K.nz u2 u4) ?_
    have e1 : L.y * (c * (D1 * E1 - t1) * (c * (D2 * E2 - t2))) = (L.y * (c * (D1 * E1 - t1))) * (c * (D2 * E2 - t2)) := by grind
    have e2 : S.y * (c * (D1 * E1 - t1) * (c * (D2 * E2 - t2))) = (S.y * (c * (D2 * E2 - t2))) * (c * (D1 * E1 - t1)) := by grind
    rw [e1, e2, L2, S2]
    exact ed_mulC3 _ _ _ _ _ iy

def mulE (K : FldN n) (c : Fin n) : Nat → PtE n → PtE n
  | 0, _ => zeroE
  | k + 1, P => addE K c (mulE K c k P) P
theorem onE_mul (K : FldN n) {c : Fin n} (hc : NonSq c) {P : PtE n} (hP : OnE c P) (k : Nat) : OnE c (mulE K c k P) := by
  induction k with
  | zero => exact onE_zero c
  | succ k ih => exact onE_add K hc ih hP
theorem mulE_add (K : FldN n) {c : Fin n} (hc : NonSq c) {P : PtE n} (hP : OnE c P) (a b : Nat) : mulE K c (a + b) P = addE K c (mulE K c a P) (mulE K c b P) := by
  induction b with
  | zero => exact (addE_zero K hc (onE_mul K hc hP a)).symm
  | succ b ih =>
    show addE K c (mulE K c (a + b) P) P = addE K c (mulE K c a P) (addE K c (mulE K c b P) P)
    rw [ih, addE_assoc K hc (onE_mul K hc hP a) (onE_mul K hc hP b) hP]
theorem mulE_one (K : FldN n) {c : Fin n} (hc : NonSq c) {P : PtE n} (hP : OnE c P) : mulE K c 1 P = P := by
  show addE K c zeroE P = P
  rw [addE_comm, addE_zero K hc hP]
theorem mulE_mul (K : FldN n) {c : Fin n} (hc : NonSq c) {P : PtE n} (hP : OnE c P) (a b : Nat) : mulE K c (a * b) P = mulE K c a (mulE K c b P) := by
  induction a with
  | zero => rw [Nat.zero_mul]; rfl
  | succ a ih =>
    rw [Nat.add_mul, Nat.one_mul, mulE_add K hc hP, ih]
    rfl
theorem mulE_zero (K : FldN n) {c : Fin n} (hc : NonSq c) (k : Nat) : mulE K c k zeroE = zeroE := by
  induction k with
  | zero => rfl
  | succ k ih =>
    show addE K c (mulE K c k zeroE) zeroE = zeroE
    rw [ih, addE_zero K hc (onE_zero c)]
theorem mulE_swap (K : FldN n) {c : Fin n} (hc : NonSq c) {P : PtE n} (hP : OnE c P) (a b : Nat) : mulE K c a (mulE K c b P) = mulE K c b (mulE K c a P) := by
  rw [← mulE_mul K hc hP, Nat.mul_comm, mulE_mul K hc hP]
end
end Go.Proofs.Ythipdfmaaeoijaa
end
section
namespace Go.Proofs.Ythipdfmaaeoijaa
set_option linter.unusedVariables false

section
variable {n : Nat} [NeZero n]
theorem ed_subz {a b : Fin n} (h : a - b = 0) : a = b := by grind
theorem ed_addz {a c : Fin n} (h : a + c * 0 = 0) : a = 0 := by grind
theorem ed_mul2 (a c : Fin n) : a * c * 2 = a * (2 * c) := by grind
theorem ed_mul2' (c : Fin n) : c * 2 = 2 * c := by grind
theorem ed_mulS (a m g : Fin n) : a * (m * g) = m * (a * g) := by grind
theorem ed_mulT (y g e : Fin n) : y * g * e = y * e * g := by grind
theorem ed_z1 {c a b G : Fin n} : c * (a - b) * G = (a - b) * G * c := by grind
theorem ed_z2 (hs : (0 : Fin n) * 0 = 1) : (2 : Fin n) = 0 := by grind
theorem ed_z3 {b c px py qx qy : Fin n} (h : b * (c - -px * qx * py * qy) = c * (py * qy - -px * qx)) : b * (c + px * qx * py * qy) = c * (py * qy + px * qx) := by grind
theorem ed_z4 {s u y : Fin n} (hs : s * s = 1) (h : y * (u + s * 1) = u - s * 1) : u * (1 - y) = s * (1 + y) := by grind
theorem ed_z5 {s u : Fin n} (h : u * (1 - 1) = s * (1 + 1)) : s * 2 = 0 := by grind
theorem ed_z6 (Y py qy b c t : Fin n) : Y * (py * py + qy * qy - 2 * b * (py * qy)) * ((c - t) * (c + t)) = (Y * (c - t)) * ((py * py + qy * qy) * (c + t) - 2 * (b * (c + t)) * (py * qy)) := by grind
theorem ed_z7 (py qy b c t : Fin n) : (2 * (py * qy) - b * (py * py + qy * qy)) * ((c - t) * (c + t)) = (c - t) * (2 * (py * qy) * (c + t) - (b * (c + t)) * (py * py + qy * qy)) := by grind
theorem ed_z8 {b p q : Fin n} (g1 : p * p + q * q - 2 * b * (p * q) = 0) (g2 : 2 * (p * q) - b * (p * p + q * q) = 0) : (1 - b) * ((p + q) * (p + q)) = 0 := by grind
theorem ed_z9 {b p q : Fin n} (g1 : p * p + q * q - 2 * b * (p * q) = 0) (g2 : 2 * (p * q) - b * (p * p + q * q) = 0) : (1 + b) * ((p - q) * (p - q)) = 0 := by grind
theorem ed_z10 {p q : Fin n} (a : p + q = 0) (b : p - q = 0) : p + p = 0 := by grind
theorem ed_z11 {p q : Fin n} (a : p + q = 0) (b : p = 0) : q = 0 := by grind
theorem ed_z12 {c x : Fin n} (h : x * x * (0 * 0) = c * (x * x + 0 * 0 - 1)) : x * x * c = 1 * c := by grind
theorem ed_z13 {b c x y : Fin n} (h : b * (c + x * y * 0 * 0) = c * (0 * 0 + x * y)) : b * c = x * y * c := by grind
theorem ed_z14 {b x y : Fin n} (h : b = x * y) (h1 : x * x = 1) (h2 : y * y = 1) : (1 - b) * (1 + b) = 0 := by grind
/-- A point, told by one fraction alone; s is 1 or -1. -/
def RepE (s : Fin n) (P : PtE n) (X Z : Fin n) : Prop := P.y * (X + s * Z) = X - s * Z ∧ X + s * Z ≠ 0
/-- What the ladder's constant is to the curve's. -/
structure CurE (s k c : Fin n) : Prop where
  sq : s * s = 1
  on : c * (2 * k + 1 - s) = 2 * k + 1 + s
  nz : 2 * k + 1 - s ≠ 0
  ns : NonSq c

theorem dbl_id1 {c x y : Fin n} (h : x * x * (y * y) = c * (x * x + y * y - 1)) : (y * y - c) * (c - x * x * y * y) + c * (c - 2 * (y * y) + y * y * (y * y)) = 0 := by grind
theorem dbl_id2 {c x y : Fin n} (h : x * x * (y * y) = c * (x * x + y * y - 1)) : (y * y - x * x) * (c - 2 * (y * y) + y * y * (y * y)) * c = (c - x * x * y * y) * (-(y * y * (y * y) - 2 * c * (y * y) + c)) := by grind
theorem dbl_sum {s k c X Z y : Fin n} (hs : s * s = 1) (ho : c * (2 * k + 1 - s) = 2 * k + 1 + s) (hy : y * (X + s * Z) = X - s * Z) :
    2 * ((X + Z) * (X + Z) * ((X - Z) * (X - Z)) + s * (((X + Z) * (X + Z) - (X - Z) * (X - Z)) * ((X + Z) * (X + Z) + k * ((X + Z) * (X + Z) - (X - Z) * (X - Z))))) = s * (2 * k + 1 - s) * ((X + s * Z) * (X + s * Z) * ((X + s * Z) * (X + s * Z))) * (c - 2 * (y * y) + y * y * (y * y)) := by
  have e1 : s * (2 * k + 1 - s) * ((X + s * Z) * (X + s * Z) * ((X + s * Z) * (X + s * Z))) * (c - 2 * (y * y) + y * y * (y * y)) = s * ((c * (2 * k + 1 - s)) * ((X + s * Z) * (X + s * Z) * ((X + s * Z) * (X + s * Z))) - 2 * (2 * k + 1 - s) * ((y * (X + s * Z)) * (y * (X + s * Z))) * ((X + s * Z) * (X + s * Z)) + (2 * k + 1 - s) * ((y * (X + s * Z)) * (y * (X + s * Z)) * ((y * (X + s * Z)) * (y * (X + s * Z))))) := by grind
  rw [e1, hy, ho]
  clear e1 hy ho
  grind
theorem dbl_dif {s k c X Z y : Fin n} (hs : s * s = 1) (ho : c * (2 * k + 1 - s) = 2 * k + 1 + s) (hy : y * (X + s * Z) = X - s * Z) :
    2 * ((X + Z) * (X + Z) * ((X - Z) * (X - Z)) - s * (((X + Z) * (X + Z) - (X - Z) * (X - Z)) * ((X + Z) * (X + Z) + k * ((X + Z) * (X + Z) - (X - Z) * (X - Z))))) = s * (2 * k + 1 - s) * ((X + s * Z) * (X + s * Z) * ((X + s * Z) * (X + s * Z))) * (-(y * y * (y * y) - 2 * c * (y * y) + c)) := by
  have e1 : s * (2 * k + 1 - s) * ((X + s * Z) * (X + s * Z) * ((X + s * Z) * (X + s * Z))) * (-(y * y * (y * y) - 2 * c * (y * y) + c)) = s * (-((2 * k + 1 - s) * ((y * (X + s * Z)) * (y * (X + s * Z)) * ((y * (X + s * Z)) * (y * (X + s * Z))))) + 2 * (c * (2 * k + 1 - s)) * ((y * (X + s * Z)) * (y * (X + s * Z))) * ((X + s * Z) * (X + s * Z)) - (c * (2 * k + 1 - s)) * ((X + s * Z) * (X + s * Z) * ((X + s * Z) * (X + s * Z)))) := by grind
  rw [e1, hy, ho]
  clear e1 hy ho
  grind
theorem ed_mul_swap3 {a b d e : Fin n} (h : a * b = d * e) (m : Fin n) : a * (m * b) = m * (d * e) := by rw [← h]; grind
theorem RepE.dbl (K : FldN n) {s k c : Fin n} (C : CurE s k c) {P : PtE n} (hP : OnE c P) {X Z : Fin n} (h : RepE s P X Z) :
    RepE s (addE K c P P) ((X + Z) * (X + Z) * ((X - Z) * (X - Z))) (((X + Z) * (X + Z) - (X - Z) * (X - Z)) * ((X + Z) * (X + Z) + k * ((X + Z) * (X + Z) - (X - Z) * (X - Z)))) := by
  show (addE K c P P).y * _ = _ ∧ _
  have h1 := dbl_sum C.sq C.on h.1
  have h2 := dbl_dif C.sq C.on h.1
  have i1 := dbl_id1 hP
  have i2 := dbl_id2 hP
  have m := minus_nz K C.ns hP hP
  have ey := addE_y K C.ns hP hP
  have hc0 := C.ns.nz
  have w : P.y * P.y - c ≠ 0 := fun e => C.ns P.y (ed_subz e)
  have g0 : c - P.x * P.x * P.y * P.y ≠ 0 := m
  have g : c - 2 * (P.y * P.y) + P.y * P.y * (P.y * P.y) ≠ 0 := fun e => by
    rw [e] at i1
    exact K.nz w g0 (ed_addz i1)
  have hD := K.nz (K.nz h.2 h.2) (K.nz h.2 h.2)
  generalize (X + Z) * (X + Z) * ((X - Z) * (X - Z)) = X' at *
  generalize ((X + Z) * (X + Z) - (X - Z) * (X - Z)) * ((X + Z) * (X + Z) + k * ((X + Z) * (X + Z) - (X - Z) * (X - Z))) = Z' at *
  generalize (X + s * Z) * (X + s * Z) * ((X + s * Z) * (X + s * Z)) = D4 at *
  have hs0 : s ≠ 0 := fun e => by have := C.sq; rw [e] at this; exact K.two (by grind)
  have hk := K.nz (K.nz (K.nz hs0 C.nz) hD) g
  generalize (addE K c P P).y = Y at *
  generalize s * (2 * k + 1 - s) * D4 = M at *
  generalize c - 2 * (P.y * P.y) + P.y * P.y * (P.y * P.y) = G at *
  generalize -(P.y * P.y * (P.y * P.y) - 2 * c * (P.y * P.y) + c) = H at *
  have key : Y * G = H := by
    refine K.cancel g0 ?_
    rw [ed_mulT, ey, Fin.mul_comm H, ← i2]
    exact ed_z1
  refine ⟨?_, fun e => ?_⟩
  · refine K.cancel K.two ?_
    rw [ed_mul2, ed_mul2', h1, h2, ← key]
    exact ed_mulS _ _ _
  · rw [e] at h1
    exact hk (h1.symm.trans (Fin.mul_zero 2))

theorem diff_id {c x2 y2 x3 y3 : Fin n} (h2 : x2 * x2 * (y2 * y2) = c * (x2 * x2 + y2 * y2 - 1)) (h3 : x3 * x3 * (y3 * y3) = c * (x3 * x3 + y3 * y3 - 1)) :
    c * (y2 * y3 - x2 * x3) * ((y2 * y2 + y3 * y3) * (c + x2 * x3 * y2 * y3) - 2 * (c * (y2 * y3 + x2 * x3)) * (y2 * y3)) = (c - x2 * x3 * y2 * y3) * (2 * (y2 * y3) * (c + x2 * x3 * y2 * y3) - c * (y2 * y3 + x2 * x3) * (y2 * y2 + y3 * y3)) := by grind
theorem diff_sum {s u yB X2 Z2 X3 Z3 y2 y3 : Fin n} (hs : s * s = 1) (hB : u * (1 - yB) = s * (1 + yB)) (h2 : y2 * (X2 + s * Z2) = X2 - s * Z2) (h3 : y3 * (X3 + s * Z3) = X3 - s * Z3) :
    (1 - yB) * ((((X3 - Z3) * (X2 + Z2) + (X3 + Z3) * (X2 - Z2)) * ((X3 - Z3) * (X2 + Z2) + (X3 + Z3) * (X2 - Z2))) + s * (u * (((X3 - Z3) * (X2 + Z2) - (X3 + Z3) * (X2 - Z2)) * ((X3 - Z3) * (X2 + Z2) - (X3 + Z3) * (X2 - Z2))))) = 2 * ((X2 + s * Z2) * (X2 + s * Z2) * ((X3 + s * Z3) * (X3 + s * Z3))) * (y2 * y2 + y3 * y3 - 2 * yB * (y2 * y3)) := by
  have e1 : 2 * ((X2 + s * Z2) * (X2 + s * Z2) * ((X3 + s * Z3) * (X3 + s * Z3))) * (y2 * y2 + y3 * y3 - 2 * yB * (y2 * y3)) = 2 * ((y2 * (X2 + s * Z2)) * (y2 * (X2 + s * Z2)) * ((X3 + s * Z3) * (X3 + s * Z3))) + 2 * ((X2 + s * Z2) * (X2 + s * Z2) * ((y3 * (X3 + s * Z3)) * (y3 * (X3 + s * Z3)))) - 4 * yB * ((y2 * (X2 + s * Z2)) * (X2 + s * Z2) * ((y3 * (X3 + s * Z3)) * (X3 + s * Z3))) := by grind
  have e2 : ∀ a b : Fin n, (1 - yB) * (a + s * (u * b)) = (1 - yB) * a + s * (u * (1 - yB)) * b := fun a b => by grind
  rw [e1, h2, h3, e2, hB]
  clear e1 e2 h2 h3 hB
  grind
theorem diff_dif {s u yB X2 Z2 X3 Z3 y2 y3 : Fin n} (hs : s * s = 1) (hB : u * (1 - yB) = s * (1 + yB)) (h2 : y2 * (X2 + s * Z2) = X2 - s * Z2) (h3 : y3 * (X3 + s * Z3) = X3 - s * Z3) :
    (1 - yB) * ((((X3 - Z3) * (X2 + Z2) + (X3 + Z3) * (X2 - Z2)) * ((X3 - Z3) * (X2 + Z2) + (X3 + Z3) * (X2 - Z2))) - s * (u * (((X3 - Z3) * (X2 + Z2) - (X3 + Z3) * (X2 - Z2)) * ((X3 - Z3) * (X2 + Z2) - (X3 + Z3) * (X2 - Z2))))) = 2 * ((X2 + s * Z2) * (X2 + s * Z2) * ((X3 + s * Z3) * (X3 + s * Z3))) * (2 * (y2 * y3) - yB * (y2 * y2 + y3 * y3)) := by
  have e1 : 2 * ((X2 + s * Z2) * (X2 + s * Z2) * ((X3 + s * Z3) * (X3 + s * Z3))) * (2 * (y2 * y3) - yB * (y2 * y2 + y3 * y3)) = 4 * ((y2 * (X2 + s * Z2)) * (X2 + s * Z2) * ((y3 * (X3 + s * Z3)) * (X3 + s * Z3))) - 2 * yB * ((y2 * (X2 + s * Z2)) * (y2 * (X2 + s * Z2)) * ((X3 + s * Z3) * (X3 + s * Z3))) - 2 * yB * ((X2 + s * Z2) * (X2 + s * Z2) * ((y3 * (X3 + s * Z3)) * (y3 * (X3 + s * Z3)))) := by grind
  have e2 : ∀ a b : Fin n, (1 - yB) * (a - s * (u * b)) = (1 - yB) * a - s * (u * (1 - yB)) * b := fun a b => by grind
  rw [e1, h2, h3, e2, hB]
  clear e1 e2 h2 h3 hB
  grind
theorem RepE.add (K : FldN n) {s k c : Fin n} (C : CurE s k c) {P Q B : PtE n} (hP : OnE c P) (hQ : OnE c Q) (hB : OnE c B) (hS : Q = addE K c P B) {u X2 Z2 X3 Z3 : Fin n} (hu : u ≠ 0) (h2 : RepE s P X2 Z2) (h3 : RepE s Q X3 Z3) (hb : RepE s B u 1) :
    RepE s (addE K c P Q) (((X3 - Z3) * (X2 + Z2) + (X3 + Z3) * (X2 - Z2)) * ((X3 - Z3) * (X2 + Z2) + (X3 + Z3) * (X2 - Z2))) (u * (((X3 - Z3) * (X2 + Z2) - (X3 + Z3) * (X2 - Z2)) * ((X3 - Z3) * (X2 + Z2) - (X3 + Z3) * (X2 - Z2)))) := by
  have hs := C.sq
  have hs0 : s ≠ 0 := fun e => by rw [e] at hs; exact K.two (ed_z2 hs)
  have hc0 := C.ns.nz
  -- the difference
  have hD : addE K c (negE P) Q = B := by
    rw [hS, ← addE_assoc K C.ns (onE_neg hP) hP hB, addE_comm K (negE P) P, addE_neg K C.ns hP, addE_comm, addE_zero K C.ns hB]
  have dy := addE_y K C.ns (onE_neg hP) hQ
  rw [hD] at dy
  have nx : (negE P).x = - P.x := rfl
  have ny : (negE P).y = P.y := rfl
  rw [nx, ny] at dy
  have dy' : B.y * (c + P.x * Q.x * P.y * Q.y) = c * (P.y * Q.y + P.x * Q.x) := ed_z3 dy
  have sy := addE_y K C.ns hP hQ
  have m1 := minus_nz K C.ns hP hQ
  have m2 := plus_nz K C.ns hP hQ
  have hb1 : u * (1 - B.y) = s * (1 + B.y) := ed_z4 hs hb.1
  have nb : 1 - B.y ≠ 0 := fun e => by
    have e1 : B.y = 1 := (ed_subz e).symm
    rw [e1] at hb1
    exact K.nz hs0 K.two (ed_z5 hb1)
  have f1 := diff_sum hs hb1 h2.1 h3.1
  have f2 := diff_dif hs hb1 h2.1 h3.1
  have id := diff_id hP hQ
  have key : (addE K c P Q).y * (P.y * P.y + Q.y * Q.y - 2 * B.y * (P.y * Q.y)) = 2 * (P.y * Q.y) - B.y * (P.y * P.y + Q.y * Q.y) := by
    refine K.cancel (K.nz m1 m2) ?_
    generalize (addE K c P Q).y = Y at *
    generalize B.y = b at *
    generalize P.x * Q.x * P.y * Q.y = t at *
    rw [ed_z6, ed_z7, sy, dy']
    exact id
  have hDD := K.nz (K.nz h2.2 h2.2) (K.nz h3.2 h3.2)
  generalize hd : (X3 - Z3) * (X2 + Z2) = d at *
  generalize he : (X3 + Z3) * (X2 - Z2) = e at *
  generalize (X2 + s * Z2) * (X2 + s * Z2) * ((X3 + s * Z3) * (X3 + s * Z3)) = W at *
  have r1 : (addE K c P Q).y * ((d + e) * (d + e) + s * (u * ((d - e) * (d - e)))) = (d + e) * (d + e) - s * (u * ((d - e) * (d - e))) := by
    refine K.cancel nb ?_
    generalize (addE K c P Q).y = Y at *
    rw [Fin.mul_comm _ (1 - B.y), Fin.mul_comm _ (1 - B.y), f2, ← key, ed_mulS, f1]
    exact ed_mulS _ _ _
  refine ⟨r1, fun z => ?_⟩
  rw [z, Fin.mul_zero] at r1
  rw [z, Fin.mul_zero] at f1
  rw [← r1, Fin.mul_zero] at f2
  have hW : 2 * W ≠ 0 := K.nz K.two hDD
  have g1 := (K.zero_or f1.symm).resolve_left hW
  have g2 := (K.zero_or f2.symm).resolve_left hW
  -- y2^2 + y3^2 = 2 b y2 y3, 2 y2 y3 = b (y2^2 + y3^2)
  have g3 : (1 - B.y) * ((P.y + Q.y) * (P.y + Q.y)) = 0 := ed_z8 g1 g2
  have g4 : (1 + B.y) * ((P.y - Q.y) * (P.y - Q.y)) = 0 := ed_z9 g1 g2
  have g5 := (K.zero_or g3).resolve_left nb
  have g6 : P.y + Q.y = 0 := (K.zero_or g5).elim (fun h => h) (fun h => h)
  have nb2 : 1 + B.y ≠ 0 := fun e0 => by
    rw [e0, Fin.mul_zero] at hb1
    rcases K.zero_or hb1 with h | h
    · exact hu h
    · exact nb h
  have g7 := (K.zero_or g4).resolve_left nb2
  have g8 : P.y - Q.y = 0 := (K.zero_or g7).elim (fun h => h) (fun h => h)
  have g9 : P.y = 0 := K.half (ed_z10 g6 g8)
  have g10 : Q.y = 0 := ed_z11 g6 g9
  have x1 : P.x * P.x = 1 := by
    have := hP
    unfold OnE at this
    rw [g9] at this
    exact K.cancel hc0 (ed_z12 this)
  have x2 : Q.x * Q.x = 1 := by
    have := hQ
    unfold OnE at this
    rw [g10] at this
    exact K.cancel hc0 (ed_z12 this)
  rw [g9, g10] at dy'
  have g11 : B.y = P.x * Q.x := K.cancel hc0 (ed_z13 dy')
  have g12 : (1 - B.y) * (1 + B.y) = 0 := ed_z14 g11 x1 x2
  exact K.nz nb nb2 g12
end
end Go.Proofs.Ythipdfmaaeoijaa
end
section
namespace Go.Proofs.Ythipdfmaaeoijaa
set_option linter.unusedVariables false

section
variable {n : Nat}
/-- The ladder's four numbers. -/
structure R4 (n : Nat) where
  x2 : Fin n
  z2 : Fin n
  x3 : Fin n
  z3 : Fin n
def R4.swap (r : R4 n) (b : Bool) : R4 n := if b then ⟨r.x3, r.z3, r.x2, r.z2⟩ else r
theorem R4.swap_swap (r : R4 n) (a b : Bool) : (r.swap a).swap b = r.swap (a != b) := by
  cases a <;> cases b <;> rfl
variable [NeZero n]
def R4.next (k u : Fin n) (r : R4 n) : R4 n :=
  ⟨(r.x2 + r.z2) * (r.x2 + r.z2) * ((r.x2 - r.z2) * (r.x2 - r.z2)),
   ((r.x2 + r.z2) * (r.x2 + r.z2) - (r.x2 - r.z2) * (r.x2 - r.z2)) * ((r.x2 + r.z2) * (r.x2 + r.z2) + k * ((r.x2 + r.z2) * (r.x2 + r.z2) - (r.x2 - r.z2) * (r.x2 - r.z2))),
   ((r.x3 - r.z3) * (r.x2 + r.z2) + (r.x3 + r.z3) * (r.x2 - r.z2)) * ((r.x3 - r.z3) * (r.x2 + r.z2) + (r.x3 + r.z3) * (r.x2 - r.z2)),
   u * (((r.x3 - r.z3) * (r.x2 + r.z2) - (r.x3 + r.z3) * (r.x2 - r.z2)) * ((r.x3 - r.z3) * (r.x2 + r.z2) - (r.x3 + r.z3) * (r.x2 - r.z2)))⟩
theorem bne_flip (a b : Bool) : (a != b) = (b != a) := by cases a <;> cases b <;> rfl
/-- What is left behind these bits, the highest one first. -/
def runE (k u : Fin n) : List Bool → Bool → R4 n → R4 n
  | [], last, r => r.swap last
  | b :: l, last, r => runE k u l b ((r.swap (b != last)).next k u)
/-- Their number, behind another one. -/
def numB : List Bool → Nat → Nat
  | [], m => m
  | b :: l, m => numB l (2 * m + b.toNat)
def startE (u : Fin n) : R4 n := ⟨1, 0, u, 1⟩
def ladE (K : FldN n) (k u : Fin n) (l : List Bool) : Fin n := (runE k u l false (startE u)).x2 * K.inv (runE k u l false (startE u)).z2

/-- The ladder's two are m times a point, and once more. -/
def HasE (K : FldN n) (s c : Fin n) (B : PtE n) (m : Nat) (r : R4 n) : Prop := RepE s (mulE K c m B) r.x2 r.z2 ∧ RepE s (mulE K c (m + 1) B) r.x3 r.z3
theorem one_nz (K : FldN n) : (1 : Fin n) ≠ 0 := fun e => K.two (by
  have : (2 : Fin n) = 1 + 1 := by grind
  rw [this, e]
  grind)
theorem repE_zero (K : FldN n) (s : Fin n) : RepE s (zeroE : PtE n) 1 0 := by
  have h := one_nz K
  have e : (1 : Fin n) + s * 0 = 1 := by grind
  exact ⟨by show (1 : Fin n) * (1 + s * 0) = 1 - s * 0; grind, by rw [e]; exact h⟩
theorem diff_swap (u X2 Z2 X3 Z3 : Fin n) : ((X2 - Z2) * (X3 + Z3) + (X2 + Z2) * (X3 - Z3)) * ((X2 - Z2) * (X3 + Z3) + (X2 + Z2) * (X3 - Z3)) = ((X3 - Z3) * (X2 + Z2) + (X3 + Z3) * (X2 - Z2)) * ((X3 - Z3) * (X2 + Z2) + (X3 + Z3) * (X2 - Z2)) := by grind
theorem diff_swap2 (u X2 Z2 X3 Z3 : Fin n) : u * (((X2 - Z2) * (X3 + Z3) - (X2 + Z2) * (X3 - Z3)) * ((X2 - Z2) * (X3 + Z3) - (X2 + Z2) * (X3 - Z3))) = u * (((X3 - Z3) * (X2 + Z2) - (X3 + Z3) * (X2 - Z2)) * ((X3 - Z3) * (X2 + Z2) - (X3 + Z3) * (X2 - Z2))) := by grind
theorem HasE.step (K : FldN n) {s k c : Fin n} (C : CurE s k c) {B : PtE n} (hB : OnE c B) {u : Fin n} (hu : u ≠ 0) (hb : RepE s B u 1) {m : Nat} {r : R4 n} (h : HasE K s c B m r) (b : Bool) : HasE K s c B (2 * m + b.toNat) (((r.swap b).next k u).swap b) := by
  have o1 := onE_mul K C.ns hB m
  have o2 := onE_mul K C.ns hB (m + 1)
  have hS : mulE K c (m + 1) B = addE K c (mulE K c m B) B := rfl
  have hadd := RepE.add K C o1 o2 hB hS hu h.1 h.2 hb
  rw [← mulE_add K C.ns hB, show m + (m + 1) = 2 * m + 1 by omega] at hadd
  cases b with
  | false =>
    have hd := RepE.dbl K C o1 h.1
    rw [← mulE_add K C.ns hB, show m + m = 2 * m by omega] at hd
    exact ⟨hd, hadd⟩
  | true =>
    have hd := RepE.dbl K C o2 h.2
    rw [← mulE_add K C.ns hB, show m + 1 + (m + 1) = 2 * m + 1 + 1 by omega] at hd
    refine ⟨?_, hd⟩
    show RepE s _ (((r.x2 - r.z2) * (r.x3 + r.z3) + (r.x2 + r.z2) * (r.x3 - r.z3)) * ((r.x2 - r.z2) * (r.x3 + r.z3) + (r.x2 + r.z2) * (r.x3 - r.z3))) (u * (((r.x2 - r.z2) * (r.x3 + r.z3) - (r.x2 + r.z2) * (r.x3 - r.z3)) * ((r.x2 - r.z2) * (r.x3 + r.z3) - (r.x2 + r.z2) * (r.x3 - r.z3))))
    rw [diff_swap u, diff_swap2]
    exact hadd
theorem HasE.run (K : FldN n) {s k c : Fin n} (C : CurE s k c) {B : PtE n} (hB : OnE c B) {u : Fin n} (hu : u ≠ 0) (hb : RepE s B u 1) (l : List Bool) : ∀ (m : Nat) (last : Bool) (r : R4 n), HasE K s c B m (r.swap last) → HasE K s c B (numB l m) (runE k u l last r) := by
  induction l with
  | nil => exact fun m last r h => h
  | cons b l ih =>
    intro m last r h
    have h1 := h.step K C hB hu hb b
    rw [R4.swap_swap, bne_flip] at h1
    exact ih _ _ _ h1

/-- The number of a point: 0, if it is none. -/
def UofE (s : Fin n) (P : PtE n) (w : Fin n) : Prop := (P.y = 1 ∧ w = 0) ∨ (P.y ≠ 1 ∧ RepE s P w 1)
theorem ed_mul_one' (s : Fin n) : s * 1 = s := by grind
theorem ed_rep_u {s y w : Fin n} (hs : s * s = 1) (h : y * (w + s * 1) = w - s * 1) : w * (1 - y) = s * (1 + y) := ed_z4 hs h
theorem UofE.one (K : FldN n) {s : Fin n} (hs : s * s = 1) {P : PtE n} {w w' : Fin n} (h : UofE s P w) (h' : UofE s P w') : w = w' := by
  rcases h with ⟨a, b⟩ | ⟨a, b⟩ <;> rcases h' with ⟨a', b'⟩ | ⟨a', b'⟩
  · rw [b, b']
  · exact absurd a a'
  · exact absurd a' a
  · have e1 := ed_rep_u hs b.1
    have e2 := ed_rep_u hs b'.1
    refine K.cancel (d := 1 - P.y) (fun e => a (ed_subz e).symm) ?_
    rw [e1, e2]
theorem y_one_of {s X Z : Fin n} (K : FldN n) (hs : s * s = 1) {y : Fin n} (h : y * (X + s * Z) = X - s * Z) (hn : X + s * Z ≠ 0) : y = 1 ↔ Z = 0 := by
  have hs0 : s ≠ 0 := fun e => by rw [e] at hs; exact K.two (ed_z2 hs)
  constructor
  · intro e
    rw [e] at h
    have h1 : s * Z + s * Z = 0 := by grind
    exact (K.zero_or (K.half h1)).resolve_left hs0
  · intro e
    rw [e] at h hn
    have h2 : X + s * 0 = X := by grind
    have h3 : X - s * 0 = X := by grind
    rw [h2] at hn
    rw [h2, h3] at h
    exact K.cancel hn (by rw [h]; grind)
theorem UofE.of_rep (K : FldN n) (h0 : K.inv 0 = 0) {s : Fin n} (hs : s * s = 1) {P : PtE n} {X Z : Fin n} (h : RepE s P X Z) : UofE s P (X * K.inv Z) := by
  have hy := y_one_of K hs h.1 h.2
  by_cases hz : Z = 0
  · refine .inl ⟨hy.2 hz, ?_⟩
    rw [hz, h0]
    grind
  · refine .inr ⟨fun e => hz (hy.1 e), ?_, fun e => h.2 ?_⟩
    · refine K.cancel hz ?_
      have hi := K.mul_inv Z hz
      have e1 : P.y * (X * K.inv Z + s * 1) * Z = P.y * (X * (Z * K.inv Z) + s * Z) := by grind
      have e2 : (X * K.inv Z - s * 1) * Z = X * (Z * K.inv Z) - s * Z := by grind
      rw [e1, e2, hi, ed_mul_one', h.1]
    · have hi := K.mul_inv Z hz
      have e1 : (X * K.inv Z + s * 1) * Z = X * (Z * K.inv Z) + s * Z := by grind
      rw [e, hi, ed_mul_one'] at e1
      rw [← e1]
      grind
theorem x_zero (K : FldN n) {c : Fin n} (hc : NonSq c) {P : PtE n} (h : OnE c P) (hy : P.y * P.y = 1) : P.x = 0 := by
  have h1 : P.x * P.x * 1 = c * (P.x * P.x + 1 - 1) := by have := h; unfold OnE at this; rw [hy] at this; exact this
  by_cases hx : P.x = 0
  · exact hx
  · have h2 : 1 = c := K.cancel (K.nz hx hx) (by grind)
    exact absurd (by rw [← h2]; grind) (hc 1)
/-- THE LADDER: it makes, of a point's number, the number of m times the point. -/
theorem ladE_uof (K : FldN n) (h0 : K.inv 0 = 0) {s k c : Fin n} (C : CurE s k c) {B : PtE n} (hB : OnE c B) {u : Fin n} (hb : UofE s B u) (l : List Bool) (hl : l ≠ []) : UofE s (mulE K c (numB l 0) B) (ladE K k u l) := by
  by_cases hu : u = 0
  · -- nothing but 0 comes of 0
    have hrun : ∀ (l : List Bool) (last : Bool) (r : R4 n), r.z2 = 0 → r.z3 = 0 → (runE k (0 : Fin n) l last r).z2 = 0 := by
      intro l
      induction l with
      | nil => intro last r a b; cases last <;> simp [runE, R4.swap, a, b]
      | cons b l ih =>
        intro last r a b'
        refine ih b _ ?_ ?_
        · have : (r.swap (b != last)).z2 = 0 := by cases (b != last) <;> simp [R4.swap, a, b']
          show (((r.swap (b != last)).x2 + (r.swap (b != last)).z2) * ((r.swap (b != last)).x2 + (r.swap (b != last)).z2) - ((r.swap (b != last)).x2 - (r.swap (b != last)).z2) * ((r.swap (b != last)).x2 - (r.swap (b != last)).z2)) * _ = 0
          rw [this]
          grind
        · show (0 : Fin n) * _ = 0
          grind
    have hz : (runE k u l false (startE u)).z2 = 0 := by
      rw [hu]
      cases l with
      | nil => exact absurd rfl hl
      | cons b l =>
        refine hrun l b _ ?_ ?_
        · show ((((startE (0 : Fin n)).swap (b != false)).x2 + ((startE (0 : Fin n)).swap (b != false)).z2) * (((startE (0 : Fin n)).swap (b != false)).x2 + ((startE (0 : Fin n)).swap (b != false)).z2) - (((startE (0 : Fin n)).swap (b != false)).x2 - ((startE (0 : Fin n)).swap (b != false)).z2) * (((startE (0 : Fin n)).swap (b != false)).x2 - ((startE (0 : Fin n)).swap (b != false)).z2)) * _ = 0
          cases b <;> simp only [R4.swap, startE] <;> grind
        · show (0 : Fin n) * _ = 0
          grind
    have hw : ladE K k u l = 0 := by unfold ladE; rw [hz, h0]; grind
    rw [hw]
    have hy : B.y * B.y = 1 := by
      rcases hb with ⟨a, b⟩ | ⟨a, b⟩
      · rw [a]; grind
      · have e := b.1
        rw [hu] at e
        have hs := C.sq
        have e2 : s * (B.y + 1) = 0 := by grind
        have hs0 : s ≠ 0 := fun e => by rw [e] at hs; exact K.two (ed_z2 hs)
        have e3 := (K.zero_or e2).resolve_left hs0
        grind
    have hx := x_zero K C.ns hB hy
    -- its multiples are it, or none
    have hm : ∀ m, mulE K c m B = zeroE ∨ mulE K c m B = B := by
      intro m
      induction m with
      | zero => exact .inl rfl
      | succ m ih =>
        have e : mulE K c (m + 1) B = addE K c (mulE K c m B) B := rfl
        rw [e]
        rcases ih with ih | ih
        · right; rw [ih, addE_comm, addE_zero K C.ns hB]
        · left
          rw [ih]
          refine addE_uniq K C.ns hB hB ?_ ?_
          · rw [hx]; simp only [zeroE]; grind
          · rw [hx]; simp only [zeroE]; grind
    rcases hm (numB l 0) with e | e
    · rw [e]; exact .inl ⟨rfl, rfl⟩
    · rw [e, ← hu]; exact hb
  · have hr : RepE s B u 1 := by
      rcases hb with ⟨a, b⟩ | ⟨a, b⟩
      · exact absurd b hu
      · exact b
    have hs : HasE K s c B 0 ((startE u).swap false) := ⟨repE_zero K s, by rw [show 0 + 1 = 1 from rfl, mulE_one K C.ns hB]; exact hr⟩
    exact UofE.of_rep K h0 C.sq (HasE.run K C hB hu hr l 0 false _ hs).1
/-- In which order two multiply does not matter. -/
theorem ladE_swap (K : FldN n) (h0 : K.inv 0 = 0) {s k c : Fin n} (C : CurE s k c) {B : PtE n} (hB : OnE c B) {u : Fin n} (hb : UofE s B u) (l m : List Bool) (hl : l ≠ []) (hm : m ≠ []) : ladE K k (ladE K k u l) m = ladE K k (ladE K k u m) l := by
  have a1 := ladE_uof K h0 C (onE_mul K C.ns hB _) (ladE_uof K h0 C hB hb l hl) m hm
  have a2 := ladE_uof K h0 C (onE_mul K C.ns hB _) (ladE_uof K h0 C hB hb m hm) l hl
  rw [mulE_swap K C.ns hB] at a1
  exact a1.one K C.sq a2
end
end Go.Proofs.Ythipdfmaaeoijaa
end
section
namespace Go.Proofs.Ythipdfmaaeoijaa
set_option linter.unusedVariables false

theorem add_assocF (a b c : Nat) : ((a + b) % pF + c) % pF = (a + (b + c) % pF) % pF := by rw [Nat.mod_add_mod, Nat.add_mod_mod, Nat.add_assoc]
theorem mul_assocF (a b c : Nat) : a * b % pF * c % pF = a * (b * c % pF) % pF := by rw [Nat.mod_mul_mod, Nat.mul_mod_mod, Nat.mul_assoc]
theorem mul_addF (a b c : Nat) : a * ((b + c) % pF) % pF = (a * b % pF + a * c % pF) % pF := by rw [Nat.mul_mod_mod, Nat.mul_add, Nat.mod_add_mod, Nat.add_mod_mod]
theorem sub_addF (a b : Nat) (ha : a < pF) (hb : b < pF) : (subF a b + b) % pF = a := by
  unfold subF
  rw [Nat.mod_add_mod, show a + (pF - b) + b = a + pF by omega, Nat.add_mod_right, Nat.mod_eq_of_lt ha]
theorem add_subF (a b : Nat) (ha : a < pF) (hb : b < pF) : subF ((a + b) % pF) b = a := by
  unfold subF
  rw [Nat.mod_add_mod, show a + b + (pF - b) = a + pF by omega, Nat.add_mod_right, Nat.mod_eq_of_lt ha]
theorem sub_uniq {a b c : Nat} (ha : a < pF) (hb : b < pF) (hc : c < pF) (h : (c + b) % pF = a) : c = subF a b := by
  rw [← h, add_subF c b hc hb]
theorem modP_lt (a : Nat) : a % pF < pF := Nat.mod_lt _ (by decide)
theorem mul_subF (a b c : Nat) (ha : a < pF) (hb : b < pF) (hc : c < pF) : a * subF b c % pF = subF (a * b % pF) (a * c % pF) := by
  refine sub_uniq (modP_lt _) (modP_lt _) (modP_lt _) ?_
  rw [← mul_addF, sub_addF b c hb hc]
end Go.Proofs.Ythipdfmaaeoijaa
end
section
namespace Go.Proofs.Ythipdfmaaeoijaa
set_option linter.unusedVariables false

/-- A number without divisors. -/
def PrimeN (n : Nat) : Prop := 1 < n ∧ ∀ d, d ∣ n → d = 1 ∨ d = n

theorem prime_coprime {r k : Nat} (hr : PrimeN r) (h : ¬ r ∣ k) : Nat.Coprime r k := by
  rcases hr.2 (Nat.gcd r k) (Nat.gcd_dvd_left r k) with h1 | h1
  · exact h1
  · exact absurd (h1 ▸ Nat.gcd_dvd_right r k) h

/-- Ways to choose, by sums. -/
def chN : Nat → Nat → Nat
  | _, 0 => 1
  | 0, _ + 1 => 0
  | n + 1, k + 1 => chN n k + chN n (k + 1)
theorem chN_over (n k : Nat) (h : n < k) : chN n k = 0 := by
  induction n generalizing k with
  | zero => cases k with
    | zero => omega
    | succ k => rfl
  | succ n ih => cases k with
    | zero => omega
    | succ k => simp only [chN]; rw [ih k (by omega), ih (k + 1) (by omega)]
theorem chN_self (n : Nat) : chN n n = 1 := by
  induction n with
  | zero => rfl
  | succ n ih => simp only [chN]; rw [ih, chN_over n (n + 1) (by omega)]
theorem chN_absorb (n k : Nat) : (k + 1) * chN (n + 1) (k + 1) = (n + 1) * chN n k := by
  induction n generalizing k with
  | zero => cases k with
    | zero => rfl
    | succ k => simp [chN]
  | succ n ih =>
    cases k with
    | zero =>
      have h := ih 0
      simp only [chN] at h ⊢
      omega
    | succ k =>
      have h1 := ih k
      have h2 := ih (k + 1)
      have e : chN (n + 1 + 1) (k + 1 + 1) = chN (n + 1) (k + 1) + chN (n + 1) (k + 1 + 1) := rfl
      have e2 : chN (n + 1) (k + 1) = chN n k + chN n (k + 1) := rfl
      rw [e, Nat.mul_add, h2]
      have h3 : (k + 1 + 1) * chN (n + 1) (k + 1) = (n + 1) * chN n k + chN (n + 1) (k + 1) := by rw [Nat.add_mul, h1, Nat.one_mul]
      rw [h3, e2]
      simp only [Nat.add_mul, Nat.mul_add, Nat.one_mul]
      omega
/-- The sum of the first m terms. -/
def sumN (a n : Nat) : Nat → Nat
  | 0 => 0
  | m + 1 => sumN a n m + chN n m * a ^ m
theorem sumN_step (a n m : Nat) : sumN a (n + 1) (m + 1) = a * sumN a n m + sumN a n (m + 1) := by
  induction m with
  | zero => simp [sumN, chN]
  | succ m ih =>
    rw [sumN, ih]
    have e : chN (n + 1) (m + 1) = chN n m + chN n (m + 1) := rfl
    rw [e]
    simp only [sumN, Nat.pow_succ, Nat.mul_add, Nat.add_mul]
    have h : a * (chN n m * a ^ m) = chN n m * (a ^ m * a) := by rw [Nat.mul_comm a, Nat.mul_assoc]
    omega
theorem binomial (a n : Nat) : (a + 1) ^ n = sumN a n (n + 1) := by
  induction n with
  | zero => simp [sumN, chN]
  | succ n ih =>
    rw [Nat.pow_succ, ih, sumN_step]
    have e : sumN a n (n + 1 + 1) = sumN a n (n + 1) := by
      rw [sumN, chN_over n (n + 1) (by omega)]
      simp
    rw [e, Nat.mul_add, Nat.mul_one, Nat.mul_comm]
theorem mid_dvd {r : Nat} (hr : PrimeN r) (k : Nat) (h0 : 0 < k) (h : k < r) : r ∣ chN r k := by
  obtain ⟨n, rfl⟩ : ∃ n, r = n + 1 := ⟨r - 1, by omega⟩
  obtain ⟨j, rfl⟩ : ∃ j, k = j + 1 := ⟨k - 1, by omega⟩
  have hc : Nat.Coprime (n + 1) (j + 1) := prime_coprime hr fun hd => by have := Nat.le_of_dvd (by omega) hd; omega
  refine Nat.Coprime.dvd_of_dvd_mul_left hc ?_
  rw [chN_absorb]
  exact Nat.dvd_mul_right _ _
theorem sum_mod {r : Nat} (hr : PrimeN r) (a m : Nat) (h0 : 0 < m) (h : m ≤ r) : sumN a r m % r = 1 % r := by
  induction m with
  | zero => omega
  | succ m ih =>
    cases m with
    | zero => simp [sumN, chN]
    | succ m =>
      have hd := mid_dvd hr (m + 1) (by omega) (by omega)
      rw [sumN, Nat.add_mod, ih (by omega) (by omega), Nat.mul_mod, Nat.mod_eq_zero_of_dvd hd]
      simp
theorem fermat {r : Nat} (hr : PrimeN r) (a : Nat) : a ^ r % r = a % r := by
  have h1 := hr.1
  induction a with
  | zero => rw [Nat.zero_pow (by omega)]
  | succ a ih =>
    rw [binomial, sumN, Nat.add_mod, sum_mod hr a r (by omega) (Nat.le_refl _), chN_self, Nat.one_mul, ih, ← Nat.add_mod, Nat.add_comm]
theorem fermat1 {r : Nat} (hr : PrimeN r) (a : Nat) (h : ¬ r ∣ a) : a ^ (r - 1) % r = 1 := by
  have h1 := hr.1
  have hf := fermat hr a
  have hc := prime_coprime hr h
  have ha : 0 < a := Nat.pos_of_ne_zero fun h0 => h (h0 ▸ Nat.dvd_zero r)
  obtain ⟨b, hb⟩ : ∃ b, a ^ (r - 1) = b + 1 := ⟨a ^ (r - 1) - 1, by have := Nat.pow_pos (n := r - 1) ha; omega⟩
  have e : a ^ r = a * b + a := by
    have : a ^ r = a ^ (r - 1) * a := by rw [← Nat.pow_succ]; congr 1; omega
    rw [this, hb, Nat.add_mul, Nat.one_mul, Nat.mul_comm]
  have hd : r ∣ a * b := by
    rw [e] at hf
    have : (a * b + a) % r = (0 + a) % r := by rw [hf, Nat.zero_add]
    have h2 := Nat.sub_mod_eq_zero_of_mod_eq this
    rw [Nat.zero_add, Nat.add_sub_cancel] at h2
    exact Nat.dvd_of_mod_eq_zero h2
  have hb2 : r ∣ b := Nat.Coprime.dvd_of_dvd_mul_left hc hd
  rw [hb, Nat.add_mod, Nat.mod_eq_zero_of_dvd hb2, Nat.zero_add, Nat.mod_mod, Nat.mod_eq_of_lt h1]
theorem pow_mul_one {r a n : Nat} (h1 : 1 < r) (h : a ^ n % r = 1) (k : Nat) : a ^ (n * k) % r = 1 := by
  rw [Nat.pow_mul, Nat.pow_mod, h, Nat.one_pow, Nat.mod_eq_of_lt h1]
theorem pow_gcd {r a : Nat} (h1 : 1 < r) (m n : Nat) : a ^ m % r = 1 → a ^ n % r = 1 → a ^ (Nat.gcd m n) % r = 1 := by
  induction m, n using Nat.gcd.induction with
  | H0 n => intro _ h; rwa [Nat.gcd_zero_left]
  | H1 m n h0 ih =>
    intro hm hn
    rw [Nat.gcd_rec]
    refine ih ?_ hm
    have e : a ^ n = a ^ (m * (n / m)) * a ^ (n % m) := by rw [← Nat.pow_add, Nat.div_add_mod]
    rw [e, Nat.mul_mod, pow_mul_one h1 hm, Nat.one_mul, Nat.mod_mod] at hn
    exact hn
theorem pock {N q a m : Nat} (hN : 1 < N) (hq : PrimeN q) (hm : N - 1 = q * m) (h1 : a ^ (N - 1) % N = 1) (h2 : Nat.gcd (a ^ m % N + (N - 1)) N = 1) (r : Nat) (hr : PrimeN r) (hd : r ∣ N) : q ∣ r - 1 := by
  refine Decidable.byContradiction fun hnd => ?_
  have hr1 := hr.1
  have hc : Nat.Coprime q (r - 1) := prime_coprime hq hnd
  have e1 : a ^ (N - 1) % r = 1 := by
    have := congrArg (· % r) h1
    simp only [Nat.mod_mod_of_dvd _ hd] at this
    rw [this, Nat.mod_eq_of_lt hr1]
  have hna : ¬ r ∣ a := fun hra => by
    have : a ^ (N - 1) % r = 0 := Nat.mod_eq_zero_of_dvd (Nat.dvd_trans hra ⟨a ^ (N - 2), by rw [← Nat.pow_succ', show (N - 2).succ = N - 1 by omega]⟩)
    omega
  have e2 := fermat1 hr a hna
  have e3 := pow_gcd hr1 _ _ e1 e2
  rw [hm, Nat.Coprime.gcd_mul_left_cancel _ hc] at e3
  obtain ⟨t, ht⟩ := Nat.gcd_dvd_left m (r - 1)
  have e4 : a ^ m % r = 1 := by
    have := pow_mul_one hr1 e3 t
    rwa [← ht] at this
  have hdr : r ∣ a ^ m % N + (N - 1) := by
    have h5 : (a ^ m % N) % r = 1 := by rw [Nat.mod_mod_of_dvd _ hd, e4]
    obtain ⟨s, hs⟩ := hd
    have h6 : a ^ m % N = r * (a ^ m % N / r) + 1 := by have := Nat.div_add_mod (a ^ m % N) r; omega
    refine ⟨a ^ m % N / r + s, ?_⟩
    rw [Nat.mul_add, ← hs]
    omega
  have hg := Nat.dvd_gcd hdr hd
  rw [h2] at hg
  have := Nat.le_of_dvd (by omega) hg
  omega
theorem has_prime : ∀ n, 1 < n → ∃ r, PrimeN r ∧ r ∣ n ∧ (PrimeN n ∨ r * r ≤ n) := by
  intro n
  induction n using Nat.strongRecOn with
  | _ n ih =>
    intro h
    by_cases hp : ∀ d, d ∣ n → d = 1 ∨ d = n
    · exact ⟨n, ⟨h, hp⟩, Nat.dvd_refl _, .inl ⟨h, hp⟩⟩
    · have : ∃ d, d ∣ n ∧ d ≠ 1 ∧ d ≠ n := by
        refine Classical.byContradiction fun hne => hp fun d hd => ?_
        refine Classical.byContradiction fun hx => hne ⟨d, hd, fun h => hx (.inl h), fun h => hx (.inr h)⟩
      obtain ⟨d, ⟨e, rfl⟩, h1, h2⟩ := this
      have hd0 : d ≠ 0 := fun h0 => by subst h0; simp at h
      have he0 : e ≠ 0 := fun h0 => by subst h0; simp at h
      have he1 : e ≠ 1 := fun h0 => by subst h0; simp at h2
      rcases Nat.le_total d e with hde | hde
      · obtain ⟨r, hr, hrd, _⟩ := ih d (by
          have : d * 1 < d * e := Nat.mul_lt_mul_of_pos_left (by omega) (by omega)
          omega) (by omega)
        refine ⟨r, hr, Nat.dvd_trans hrd (Nat.dvd_mul_right _ _), .inr ?_⟩
        have h3 := Nat.le_of_dvd (by omega) hrd
        exact Nat.mul_le_mul h3 (Nat.le_trans h3 hde)
      · obtain ⟨r, hr, hrd, _⟩ := ih e (by
          have : 1 * e < d * e := Nat.mul_lt_mul_of_pos_right (by omega) (by omega)
          omega) (by omega)
        refine ⟨r, hr, Nat.dvd_trans hrd (Nat.dvd_mul_left _ _), .inr ?_⟩
        have h3 := Nat.le_of_dvd (by omega) hrd
        exact Nat.mul_le_mul (Nat.le_trans h3 hde) h3
/-- By small divisors. -/
def noDiv (n : Nat) : Nat → Bool
  | 0 => true
  | k + 1 => (decide (k + 1 < 2) || n % (k + 1) != 0) && noDiv n k
theorem noDiv_spec {n : Nat} : ∀ {b : Nat}, noDiv n b = true → ∀ d, 2 ≤ d → d ≤ b → ¬ d ∣ n
  | 0, _, d, h1, h2, _ => by omega
  | b + 1, h, d, h1, h2, hd => by
    simp only [noDiv, Bool.and_eq_true, Bool.or_eq_true, decide_eq_true_eq, bne_iff_ne, ne_eq] at h
    by_cases e : d = b + 1
    · subst e
      rcases h.1 with h3 | h3
      · omega
      · exact h3 (Nat.mod_eq_zero_of_dvd hd)
    · exact noDiv_spec h.2 d h1 (by omega) hd
theorem prime_small {n b : Nat} (h : 1 < n) (hb : n < (b + 1) * (b + 1)) (hn : noDiv n b = true) : PrimeN n := by
  obtain ⟨r, hr, hd, h1 | h1⟩ := has_prime n h
  · exact h1
  · have h2 : r ≤ b := Nat.le_of_not_lt fun hlt => by
      have := Nat.mul_le_mul (show b + 1 ≤ r by omega) (show b + 1 ≤ r by omega)
      omega
    exact absurd hd (noDiv_spec hn r hr.1 h2)
theorem prime_two {N q s : Nat} (hN : 1 < N) (hc : Nat.gcd q s = 1) (hb : N < (q * s + 1) * (q * s + 1)) (h1 : ∀ r, PrimeN r → r ∣ N → q ∣ r - 1) (h2 : ∀ r, PrimeN r → r ∣ N → s ∣ r - 1) : PrimeN N := by
  obtain ⟨r, hr, hd, h3 | h3⟩ := has_prime N hN
  · exact h3
  · have hr1 := hr.1
    have h4 : q * s ∣ r - 1 := Nat.Coprime.mul_dvd_of_dvd_of_dvd hc (h1 r hr hd) (h2 r hr hd)
    have h5 := Nat.le_of_dvd (by omega) h4
    have := Nat.mul_le_mul (show q * s + 1 ≤ r by omega) (show q * s + 1 ≤ r by omega)
    omega
/-- What the kernel can reckon. -/
def powN (N a n : Nat) : Nat → Nat
  | 0 => 1
  | f + 1 => if n = 0 then 1 else if n % 2 = 1 then a * powN N (a * a % N) (n / 2) f % N else powN N (a * a % N) (n / 2) f % N
theorem powN_eq (N f : Nat) : ∀ a n, n < 2 ^ f → powN N a n f % N = a ^ n % N := by
  induction f with
  | zero => intro a n h; simp at h; subst h; simp [powN]
  | succ f ih =>
    intro a n h
    unfold powN
    have hp : (a * a % N) ^ (n / 2) % N = a ^ (2 * (n / 2)) % N := by rw [← Nat.pow_mod, Nat.pow_mul, Nat.pow_two]
    split
    · rename_i h0; subst h0; simp
    · have hn : n / 2 < 2 ^ f := by rw [Nat.pow_succ] at h; omega
      have hi := ih (a * a % N) (n / 2) hn
      split
      · rename_i h1
        rw [Nat.mod_mod, Nat.mul_mod, hi, hp, ← Nat.mul_mod, ← Nat.pow_succ', show (2 * (n / 2)).succ = n by omega]
      · rename_i h1
        rw [Nat.mod_mod, hi, hp, show 2 * (n / 2) = n by omega]
/-- One step of a certificate, by reckoning. -/
def certB (N q a m f : Nat) : Bool := decide (1 < N) && N - 1 == q * m && decide (N < 2 ^ f) && powN N a (N - 1) f % N == 1 && Nat.gcd (powN N a m f % N + (N - 1)) N == 1
theorem cert {N q a m f : Nat} (hq : PrimeN q) (h : certB N q a m f = true) : ∀ r, PrimeN r → r ∣ N → q ∣ r - 1 := by
  simp only [certB, Bool.and_eq_true, decide_eq_true_eq, beq_iff_eq] at h
  obtain ⟨⟨⟨⟨h1, h2⟩, h3⟩, h4⟩, h5⟩ := h
  have hm : m ≤ N - 1 := by
    rw [h2]
    exact Nat.le_mul_of_pos_left _ (by have := hq.1; omega)
  rw [powN_eq N f a (N - 1) (by omega)] at h4
  rw [powN_eq N f a m (by omega)] at h5
  exact pock h1 hq h2 h4 h5
theorem prime_one {N q : Nat} (hN : 1 < N) (hb : N < (q + 1) * (q + 1)) (h1 : ∀ r, PrimeN r → r ∣ N → q ∣ r - 1) : PrimeN N :=
  prime_two (s := 1) hN (Nat.gcd_one_right q) (by rw [Nat.mul_one]; exact hb) h1 (fun r _ _ => Nat.one_dvd _)
theorem p_127 : PrimeN 127 := prime_small (b := 11) (by decide) (by decide) (by decide +kernel)
theorem p_8574133 : PrimeN 8574133 := prime_small (b := 2928) (by decide) (by decide) (by decide +kernel)
theorem p_75707 : PrimeN 75707 := prime_small (b := 275) (by decide) (by decide) (by decide +kernel)
theorem p_353 : PrimeN 353 := prime_small (b := 18) (by decide) (by decide) (by decide +kernel)
theorem p_1919519569386763 : PrimeN 1919519569386763 := prime_two (q := 8574133) (s := 127) (by decide) (by decide +kernel) (by decide) (cert (a := 2) (m := 223873314) (f := 51) p_8574133 (by decide +kernel)) (cert (a := 2) (m := 15114327318006) (f := 51) p_127 (by decide +kernel))
theorem p_75445702479781427272750846543864801 : PrimeN 75445702479781427272750846543864801 := prime_two (q := 1919519569386763) (s := 75707) (by decide) (by decide +kernel) (by decide) (cert (a := 2) (m := 39304471641247389600) (f := 116) p_1919519569386763 (by decide +kernel)) (cert (a := 2) (m := 996548568557483816196003626400) (f := 116) p_75707 (by decide +kernel))
theorem p_74058212732561358302231226437062788676166966415465897661863160754340907 : PrimeN 74058212732561358302231226437062788676166966415465897661863160754340907 := prime_two (q := 75445702479781427272750846543864801) (s := 353) (by decide) (by decide +kernel) (by decide) (cert (a := 2) (m := 981609426360740691344999861639072106) (f := 236) p_75445702479781427272750846543864801 (by decide +kernel)) (cert (a := 2) (m := 209796636636151156663544550813209033076960244803019540118592523383402) (f := 236) p_353 (by decide +kernel))
theorem p_p : PrimeN 57896044618658097711785492504343953926634992332820282019728792003956564819949 := prime_one (q := 74058212732561358302231226437062788676166966415465897661863160754340907) (by decide) (by decide) (cert (a := 2) (m := 781764) (f := 255) p_74058212732561358302231226437062788676166966415465897661863160754340907 (by decide +kernel))

theorem pF_prime : PrimeN pF := p_p
theorem one_more : 1 + (pF - 2) = pF - 1 := by decide +kernel
theorem inv_mul (x : Nat) (h : x < pF) (h0 : x ≠ 0) : x * invF x % pF = 1 := by
  have hd : ¬ pF ∣ x := fun hd => by have := Nat.le_of_dvd (by omega) hd; omega
  have hf := fermat1 pF_prime x hd
  have e : x * invF x % pF = x ^ (pF - 1) % pF := by
    have h1 := powF_mul x 1 (pF - 2)
    rw [powF_one x h, one_more] at h1
    exact h1
  rw [e, hf]
theorem powF_zero (n : Nat) (h : 0 < n) : powF 0 n = 0 := by
  unfold powF
  rw [Nat.zero_pow h, Nat.zero_mod]
theorem inv_zero : invF 0 = 0 := powF_zero (pF - 2) (by decide +kernel)
theorem inv_inv (x : Nat) (h : x < pF) : invF (invF x) = x := by
  by_cases h0 : x = 0
  · rw [h0, inv_zero, inv_zero]
  · have hd : ¬ pF ∣ x := fun hd => by have := Nat.le_of_dvd (by omega) hd; omega
    have hf := fermat1 pF_prime x hd
    have e1 : invF (invF x) = powF x ((pF - 2) * (pF - 2)) := powF_pow x (pF - 2) (pF - 2)
    have e2 : (pF - 2) * (pF - 2) = (pF - 1) * (pF - 3) + 1 := by decide +kernel
    rw [e1, e2, ← powF_mul, powF_one x h]
    unfold powF
    rw [pow_mul_one pF_prime.1 hf, Nat.one_mul, Nat.mod_eq_of_lt h]
theorem inv_prod (a b : Nat) : invF (a * b % pF) = invF a * invF b % pF := by
  unfold invF powF
  rw [← Nat.pow_mod, Nat.mul_pow, Nat.mul_mod]
theorem squares (x y : Nat) (hx : x < pF) (hy : y < pF) : (x + y) % pF * subF x y % pF = subF (x * x % pF) (y * y % pF) := by
  refine sub_uniq (modP_lt _) (modP_lt _) (modP_lt _) ?_
  rw [Nat.mod_mul_mod]
  unfold subF
  rw [Nat.mul_mod_mod, Nat.mod_add_mod, Nat.add_mod_mod]
  have e : (x + y) * (x + (pF - y)) + y * y = x * x + (x + y) * pF := by
    obtain ⟨d, hd⟩ : ∃ d, pF = y + d := ⟨pF - y, by omega⟩
    rw [hd, Nat.add_sub_cancel_left]
    simp only [Nat.add_mul, Nat.mul_add, Nat.mul_comm y x]
    omega
  rw [e, Nat.add_mul_mod_self_right]
end Go.Proofs.Ythipdfmaaeoijaa
end
