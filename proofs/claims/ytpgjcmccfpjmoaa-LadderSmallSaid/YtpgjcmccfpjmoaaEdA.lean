/-
  Edwards curves over a finite field: their sums are a group. Conditions: as each theorem names them; nothing of a program is named here.
-/
namespace Go.Proofs.Ytpgjcmccfpjmoaa
set_option linter.unusedVariables false

/-- What is wanted of a field: inverses, and that 2 is not 0. -/
structure FldN (n : Nat) [NeZero n] where
  inv : Fin n → Fin n
  mul_inv : ∀ a : Fin n, a ≠ 0 → a * inv a = 1
  two : (2 : Fin n) ≠ 0

section
variable {n : Nat} [NeZero n]
theorem FldN.zero_or (K : FldN n) {a b : Fin n} (h : a * b = 0) : a = 0 ∨ b = 0 := by
  by_cases ha : a = 0
  · exact .inl ha
  · have h1 := K.mul_inv a ha
    right
    grind
theorem FldN.nz (K : FldN n) {a b : Fin n} (ha : a ≠ 0) (hb : b ≠ 0) : a * b ≠ 0 := fun h => (K.zero_or h).elim ha hb
theorem FldN.cancel (K : FldN n) {a b d : Fin n} (hd : d ≠ 0) (h : a * d = b * d) : a = b := by
  have h1 : (a - b) * d = 0 := by grind
  rcases K.zero_or h1 with h2 | h2
  · grind
  · exact absurd h2 hd
theorem FldN.div_eq (K : FldN n) {a b d : Fin n} (hd : d ≠ 0) (h : a * d = b) : a = b * K.inv d := by
  have := K.mul_inv d hd
  grind
theorem FldN.div_mul (K : FldN n) {b d : Fin n} (hd : d ≠ 0) : b * K.inv d * d = b := by
  have := K.mul_inv d hd
  grind
theorem FldN.half (K : FldN n) {a : Fin n} (h : a + a = 0) : a = 0 := by
  have h1 : (2 : Fin n) * a = 0 := by grind
  exact (K.zero_or h1).resolve_left K.two

theorem ed_mulR {a b d : Fin n} (h : a * b = d) (e : Fin n) : a * (b * e) = d * e := by rw [← h]; grind
theorem ed_mulA (a b d : Fin n) : a * b * d = a * (b * d) := by grind
theorem ed_mulC3 (c a b d e : Fin n) (h : a * b = d * e) : c * (c * a) * (c * b) = c * (c * d) * (c * e) := by grind
@[ext] structure PtE (n : Nat) where
  x : Fin n
  y : Fin n
def OnE (c : Fin n) (P : PtE n) : Prop := P.x * P.x * (P.y * P.y) = c * (P.x * P.x + P.y * P.y - 1)
def NonSq (c : Fin n) : Prop := ∀ r : Fin n, r * r ≠ c
theorem NonSq.nz {c : Fin n} (h : NonSq c) : c ≠ 0 := fun e => h 0 (by rw [e]; grind)
theorem NonSq.no {c a b : Fin n} (h : NonSq c) (K : FldN n) (ha : a ≠ 0) (e : c * (a * a) = b * b) : False := by
  have h1 := K.mul_inv a ha
  refine h (b * K.inv a) ?_
  grind

theorem complete_aux (K : FldN n) {c : Fin n} (hc : NonSq c) {x1 y1 x2 y2 e : Fin n} (h1 : x1 * x1 * (y1 * y1) = c * (x1 * x1 + y1 * y1 - 1)) (h2 : x2 * x2 * (y2 * y2) = c * (x2 * x2 + y2 * y2 - 1)) (he : e * e = 1) (ht : x1 * x2 * y1 * y2 = e * c) : False := by
  have hc0 := hc.nz
  have a1 : (c * (x1 * x1 + y1 * y1)) * c = (x1 * x1 * (y1 * y1) * (x2 * x2 + y2 * y2)) * c := by grind
  have a2 := K.cancel hc0 a1
  have b1 : c * ((x1 + e * y1) * (x1 + e * y1)) = (x1 * y1 * (x2 + y2)) * (x1 * y1 * (x2 + y2)) := by grind
  have b2 : c * ((x1 - e * y1) * (x1 - e * y1)) = (x1 * y1 * (x2 - y2)) * (x1 * y1 * (x2 - y2)) := by grind
  by_cases p1 : x1 + e * y1 = 0
  · by_cases p2 : x1 - e * y1 = 0
    · have ed_q1 : x1 = 0 := K.half (by grind)
      have ed_q2 : e * c = 0 := by grind
      have ed_q3 : c = 0 := by grind
      exact hc0 ed_q3
    · exact hc.no K p2 b2
  · exact hc.no K p1 b1

def addE (K : FldN n) (c : Fin n) (P Q : PtE n) : PtE n := ⟨c * (P.x * Q.y + Q.x * P.y) * K.inv (c + P.x * Q.x * P.y * Q.y), c * (P.y * Q.y - P.x * Q.x) * K.inv (c - P.x * Q.x * P.y * Q.y)⟩
def zeroE : PtE n := ⟨0, 1⟩
def negE (P : PtE n) : PtE n := ⟨-P.x, P.y⟩
theorem onE_zero (c : Fin n) : OnE c zeroE := by unfold OnE zeroE; grind
theorem onE_neg {c : Fin n} {P : PtE n} (h : OnE c P) : OnE c (negE P) := by unfold OnE negE at *; grind
theorem plus_nz (K : FldN n) {c : Fin n} (hc : NonSq c) {P Q : PtE n} (hP : OnE c P) (hQ : OnE c Q) : c + P.x * Q.x * P.y * Q.y ≠ 0 := fun h => complete_aux K hc (e := -1) hP hQ (by grind) (by grind)
theorem minus_nz (K : FldN n) {c : Fin n} (hc : NonSq c) {P Q : PtE n} (hP : OnE c P) (hQ : OnE c Q) : c - P.x * Q.x * P.y * Q.y ≠ 0 := fun h => complete_aux K hc (e := 1) hP hQ (by grind) (by grind)
theorem addE_x (K : FldN n) {c : Fin n} (hc : NonSq c) {P Q : PtE n} (hP : OnE c P) (hQ : OnE c Q) : (addE K c P Q).x * (c + P.x * Q.x * P.y * Q.y) = c * (P.x * Q.y + Q.x * P.y) := K.div_mul (plus_nz K hc hP hQ)
theorem addE_y (K : FldN n) {c : Fin n} (hc : NonSq c) {P Q : PtE n} (hP : OnE c P) (hQ : OnE c Q) : (addE K c P Q).y * (c - P.x * Q.x * P.y * Q.y) = c * (P.y * Q.y - P.x * Q.x) := K.div_mul (minus_nz K hc hP hQ)
theorem close_id (c : Fin n) (x1 y1 x2 y2 : Fin n) (h1 : x1 * x1 * (y1 * y1) = c * (x1 * x1 + y1 * y1 - 1)) (h2 : x2 * x2 * (y2 * y2) = c * (x2 * x2 + y2 * y2 - 1)) :
    c * c * c * ((x1 * y2 + x2 * y1) * (x1 * y2 + x2 * y1) * ((y1 * y2 - x1 * x2) * (y1 * y2 - x1 * x2))) = c * c * ((x1 * y2 + x2 * y1) * (x1 * y2 + x2 * y1)) * ((c - x1 * x2 * y1 * y2) * (c - x1 * x2 * y1 * y2)) + c * c * ((y1 * y2 - x1 * x2) * (y1 * y2 - x1 * x2)) * ((c + x1 * x2 * y1 * y2) * (c + x1 * x2 * y1 * y2)) - (c + x1 * x2 * y1 * y2) * (c + x1 * x2 * y1 * y2) * ((c - x1 * x2 * y1 * y2) * (c - x1 * x2 * y1 * y2)) := by
  grind
theorem onE_add (K : FldN n) {c : Fin n} (hc : NonSq c) {P Q : PtE n} (hP : OnE c P) (hQ : OnE c Q) : OnE c (addE K c P Q) := by
  have ex := addE_x K hc hP hQ
  have ey := addE_y K hc hP hQ
  have n1 := plus_nz K hc hP hQ
  have n2 := minus_nz K hc hP hQ
  have id := close_id c P.x P.y Q.x Q.y hP hQ
  unfold OnE
  generalize (addE K c P Q).x = X at *
  generalize (addE K c P Q).y = Y at *
  generalize c + P.x * Q.x * P.y * Q.y = D at *
  generalize c - P.x * Q.x * P.y * Q.y = E at *
  generalize P.x * Q.y + Q.x * P.y = N at *
  generalize P.y * Q.y - P.x * Q.x = M at *
  refine K.cancel (K.nz (K.nz n1 n1) (K.nz n2 n2)) ?_
  have e1 : X * X * (Y * Y) * (D * D * (E * E)) = (X * D) * (X * D) * ((Y * E) * (Y * E)) := by grind
  have e2 : c * (X * X + Y * Y - 1) * (D * D * (E * E)) = c * ((X * D) * (X * D) * (E * E) + (Y * E) * (Y * E) * (D * D) - D * D * (E * E)) := by grind
  rw [e1, e2, ex, ey]
  clear e1 e2 ex ey hP hQ n1 n2
  have e3 : c * (c * c * c * (N * N * (M * M))) = c * (c * c * (N * N) * (E * E) + c * c * (M * M) * (D * D) - D * D * (E * E)) := by rw [id]
  grind
theorem addE_uniq (K : FldN n) {c : Fin n} (hc : NonSq c) {P Q R : PtE n} (hP : OnE c P) (hQ : OnE c Q) (hx : R.x * (c + P.x * Q.x * P.y * Q.y) = c * (P.x * Q.y + Q.x * P.y)) (hy : R.y * (c - P.x * Q.x * P.y * Q.y) = c * (P.y * Q.y - P.x * Q.x)) : addE K c P Q = R := by
  apply PtE.ext
  · exact K.cancel (plus_nz K hc hP hQ) ((addE_x K hc hP hQ).trans hx.symm)
  · exact K.cancel (minus_nz K hc hP hQ) ((addE_y K hc hP hQ).trans hy.symm)
theorem addE_zero (K : FldN n) {c : Fin n} (hc : NonSq c) {P : PtE n} (hP : OnE c P) : addE K c P zeroE = P := addE_uniq K hc hP (onE_zero c) (by simp only [zeroE]; grind) (by simp only [zeroE]; grind)
theorem addE_comm (K : FldN n) {c : Fin n} (P Q : PtE n) : addE K c P Q = addE K c Q P := by
  have e1 : P.x * Q.y + Q.x * P.y = Q.x * P.y + P.x * Q.y := by grind
  have e2 : P.x * Q.x * P.y * Q.y = Q.x * P.x * Q.y * P.y := by grind
  have e3 : P.y * Q.y - P.x * Q.x = Q.y * P.y - Q.x * P.x := by grind
  unfold addE
  rw [e1, e2, e3]
theorem addE_neg (K : FldN n) {c : Fin n} (hc : NonSq c) {P : PtE n} (hP : OnE c P) : addE K c P (negE P) = zeroE := by
  refine addE_uniq K hc hP (onE_neg hP) ?_ ?_
  · simp only [zeroE, negE]; grind
  · have := hP
    unfold OnE at this
    simp only [zeroE, negE]
    grind
theorem assoc_x (c : Fin n) (x1 y1 x2 y2 x3 y3 : Fin n) (h1 : x1*x1*(y1*y1) = c*(x1*x1+y1*y1-1)) (h2 : x2*x2*(y2*y2) = c*(x2*x2+y2*y2-1)) (h3 : x3*x3*(y3*y3) = c*(x3*x3+y3*y3-1)) :
  ((x1*y2+x2*y1)*(c - x1*x2*y1*y2)*y3+(y1*y2-x1*x2)*(c + x1*x2*y1*y2)*x3)*((c + x2*x3*y2*y3)*(c - x2*x3*y2*y3)+c*(x2*y3+x3*y2)*(y2*y3-x2*x3)*x1*y1)
   = (x1*(y2*y3-x2*x3)*(c + x2*x3*y2*y3)+y1*(x2*y3+x3*y2)*(c - x2*x3*y2*y3))*((c + x1*x2*y1*y2)*(c - x1*x2*y1*y2)+c*(x1*y2+x2*y1)*(y1*y2-x1*x2)*x3*y3) := by grind
theorem assoc_y (c : Fin n) (x1 y1 x2 y2 x3 y3 : Fin n) (h1 : x1*x1*(y1*y1) = c*(x1*x1+y1*y1-1)) (h2 : x2*x2*(y2*y2) = c*(x2*x2+y2*y2-1)) (h3 : x3*x3*(y3*y3) = c*(x3*x3+y3*y3-1)) :
  ((y1*y2-x1*x2)*(c + x1*x2*y1*y2)*y3-(x1*y2+x2*y1)*(c - x1*x2*y1*y2)*x3)*((c + x2*x3*y2*y3)*(c - x2*x3*y2*y3)-c*(x2*y3+x3*y2)*(y2*y3-x2*x3)*x1*y1)
   = (y1*(y2*y3-x2*x3)*(c + x2*x3*y2*y3)-x1*(x2*y3+x3*y2)*(c - x2*x3*y2*y3))*((c + x1*x2*y1*y2)*(c - x1*x2*y1*y2)-c*(x1*y2+x2*y1)*(y1*y2-x1*x2)*x3*y3) := by grind
theorem addE_assoc (K : FldN n) {c : Fin n} (hc : NonSq c) {P Q R : PtE n} (hP : OnE c P) (hQ : OnE c Q) (hR : OnE c R) : addE K c (addE K c P Q) R = addE K c P (addE K c Q R) := by
  have hA := onE_add K hc hP hQ
  have hB := onE_add K hc hQ hR
  have ax := addE_x K hc hP hQ
  have ay := addE_y K hc hP hQ
  have bx := addE_x K hc hQ hR
  have by' := addE_y K hc hQ hR
  have n1 := plus_nz K hc hP hQ
  have n2 := minus_nz K hc hP hQ
  have n3 := plus_nz K hc hQ hR
  have n4 := minus_nz K hc hQ hR
  have m1 := plus_nz K hc hA hR
  have m2 := minus_nz K hc hA hR
  have m3 := plus_nz K hc hP hB
  have m4 := minus_nz K hc hP hB
  have lx := addE_x K hc hA hR
  have ly := addE_y K hc hA hR
  have rx := addE_x K hc hP hB
  have ry := addE_y K hc hP hB
  have ix := assoc_x c P.x P.y Q.x Q.y R.x R.y hP hQ hR
  have iy := assoc_y c P.x P.y Q.x Q.y R.x R.y hP hQ hR
  have hc0 := hc.nz
  generalize addE K c P Q = A at *
  generalize addE K c Q R = B at *
  generalize addE K c A R = L at *
  generalize addE K c P B = S at *
  generalize c + P.x * Q.x * P.y * Q.y = D1 at *
  generalize c - P.x * Q.x * P.y * Q.y = E1 at *
  generalize c + Q.x * R.x * Q.y * R.y = D2 at *
  generalize c - Q.x * R.x * Q.y * R.y = E2 at *
  generalize P.x * Q.y + Q.x * P.y = N1 at *
  generalize P.y * Q.y - P.x * Q.x = M1 at *
  generalize Q.x * R.y + R.x * Q.y = N2 at *
  generalize Q.y * R.y - Q.x * R.x = M2 at *
  have k1 := K.nz n1 n2
  have k2 := K.nz n3 n4
  -- the denominators, cleared
  have dx1 : (c + A.x * R.x * A.y * R.y) * (D1 * E1) = c * (D1 * E1 + c * N1 * M1 * R.x * R.y) := by
    have : (c + A.x * R.x * A.y * R.y) * (D1 * E1) = c * (D1 * E1) + (A.x * D1) * (A.y * E1) * R.x * R.y := by grind
    rw [this, ax, ay]; grind
  have dy1 : (c - A.x * R.x * A.y * R.y) * (D1 * E1) = c * (D1 * E1 - c * N1 * M1 * R.x * R.y) := by
    have : (c - A.x * R.x * A.y * R.y) * (D1 * E1) = c * (D1 * E1) - (A.x * D1) * (A.y * E1) * R.x * R.y := by grind
    rw [this, ax, ay]; grind
  have dx2 : (c + P.x * B.x * P.y * B.y) * (D2 * E2) = c * (D2 * E2 + c * N2 * M2 * P.x * P.y) := by
    have : (c + P.x * B.x * P.y * B.y) * (D2 * E2) = c * (D2 * E2) + (B.x * D2) * (B.y * E2) * P.x * P.y := by grind
    rw [this, bx, by']; grind
  have dy2 : (c - P.x * B.x * P.y * B.y) * (D2 * E2) = c * (D2 * E2 - c * N2 * M2 * P.x * P.y) := by
    have : (c - P.x * B.x * P.y * B.y) * (D2 * E2) = c * (D2 * E2) - (B.x * D2) * (B.y * E2) * P.x * P.y := by grind
    rw [this, bx, by']; grind
  have nx1 : (A.x * R.y + R.x * A.y) * (D1 * E1) = c * (N1 * E1 * R.y + M1 * D1 * R.x) := by
    have : (A.x * R.y + R.x * A.y) * (D1 * E1) = (A.x * D1) * E1 * R.y + (A.y * E1) * D1 * R.x := by grind
    rw [this, ax, ay]; grind
  have ny1 : (A.y * R.y - A.x * R.x) * (D1 * E1) = c * (M1 * D1 * R.y - N1 * E1 * R.x) := by
    have : (A.y * R.y - A.x * R.x) * (D1 * E1) = (A.y * E1) * D1 * R.y - (A.x * D1) * E1 * R.x := by grind
    rw [this, ax, ay]; grind
  have nx2 : (P.x * B.y + B.x * P.y) * (D2 * E2) = c * (P.x * M2 * D2 + P.y * N2 * E2) := by
    have : (P.x * B.y + B.x * P.y) * (D2 * E2) = (B.y * E2) * D2 * P.x + (B.x * D2) * E2 * P.y := by grind
    rw [this, bx, by']; grind
  have ny2 : (P.y * B.y - P.x * B.x) * (D2 * E2) = c * (P.y * M2 * D2 - P.x * N2 * E2) := by
    have : (P.y * B.y - P.x * B.x) * (D2 * E2) = (B.y * E2) * D2 * P.y - (B.x * D2) * E2 * P.x := by grind
    rw [this, bx, by']; grind
  have u1 := K.nz m1 k1
  have u2 := K.nz m2 k1
  have u3 := K.nz m3 k2
  have u4 := K.nz m4 k2
  have L1 : L.x * (c * (D1 * E1 + c * N1 * M1 * R.x * R.y)) = c * (c * (N1 * E1 * R.y + M1 * D1 * R.x)) := by rw [← dx1, ← nx1, ed_mulR lx]; exact ed_mulA _ _ _
  have L2 : L.y * (c * (D1 * E1 - c * N1 * M1 * R.x * R.y)) = c * (c * (M1 * D1 * R.y - N1 * E1 * R.x)) := by rw [← dy1, ← ny1, ed_mulR ly]; exact ed_mulA _ _ _
  have S1 : S.x * (c * (D2 * E2 + c * N2 * M2 * P.x * P.y)) = c * (c * (P.x * M2 * D2 + P.y * N2 * E2)) := by rw [← dx2, ← nx2, ed_mulR rx]; exact ed_mulA _ _ _
  have S2 : S.y * (c * (D2 * E2 - c * N2 * M2 * P.x * P.y)) = c * (c * (P.y * M2 * D2 - P.x * N2 * E2)) := by rw [← dy2, ← ny2, ed_mulR ry]; exact ed_mulA _ _ _
  rw [dx1] at u1
  rw [dy1] at u2
  rw [dx2] at u3
  rw [dy2] at u4
  clear dx1 dy1 dx2 dy2 nx1 ny1 nx2 ny2 m1 m2 m3 m4 lx ly rx ry ax ay bx by' n1 n2 n3 n4 k1 k2 hA hB hP hQ hR
  generalize c * N1 * M1 * R.x * R.y = t1 at *
  generalize c * N2 * M2 * P.x * P.y = t2 at *
  apply PtE.ext
  · refine K.cancel (K.nz u1 u3) ?_
    have e1 : L.x * (c * (D1 * E1 + t1) * (c * (D2 * E2 + t2))) = (L.x * (c * (D1 * E1 + t1))) * (c * (D2 * E2 + t2)) := by grind
    have e2 : S.x * (c * (D1 * E1 + t1) * (c * (D2 * E2 + t2))) = (S.x * (c * (D2 * E2 + t2))) * (c * (D1 * E1 + t1)) := by grind
    rw [e1, e2, L1, S1]
    exact ed_mulC3 _ _ _ _ _ ix
  · refine K.cancel (K.nz u2 u4) ?_
    have e1 : L.y * (c * (D1 * E1 - t1) * (c * (D2 * E2 - t2))) = (L.y * (c * (D1 * E1 - t1))) * (c * (D2 * E2 - t2)) := by grind
    have e2 : S.y * (c * (D1 * E1 - t1) * (c * (D2 * E2 - t2))) = (S.y * (c * (D2 * E2 - t2))) * (c * (D1 * E1 - t1)) := by grind
    rw [e1, e2, L2, S2]
    exact ed_mulC3 _ _ _ _ _ iy

def mulE (K : FldN n) (c : Fin n) : Nat → PtE n → PtE n
  | 0, _ => zeroE
  | k + 1, P => addE K c (mulE K c k P) P
theorem onE_mul (K : FldN n) {c : Fin n} (hc : NonSq c) {P : PtE n} (hP : OnE c P) (k : Nat) : OnE c (mulE K c k P) := by
  induction k with
  | zero => exact onE_zero c
  | succ k ih => exact onE_add K hc ih hP
theorem mulE_add (K : FldN n) {c : Fin n} (hc : NonSq c) {P : PtE n} (hP : OnE c P) (a b : Nat) : mulE K c (a + b) P = addE K c (mulE K c a P) (mulE K c b P) := by
  induction b with
  | zero => exact (addE_zero K hc (onE_mul K hc hP a)).symm
  | succ b ih =>
    show addE K c (mulE K c (a + b) P) P = addE K c (mulE K c a P) (addE K c (mulE K c b P) P)
    rw [ih, addE_assoc K hc (onE_mul K hc hP a) (onE_mul K hc hP b) hP]
theorem mulE_one (K : FldN n) {c : Fin n} (hc : NonSq c) {P : PtE n} (hP : OnE c P) : mulE K c 1 P = P := by
  show addE K c zeroE P = P
  rw [addE_comm, addE_zero K hc hP]
theorem mulE_mul (K : FldN n) {c : Fin n} (hc : NonSq c) {P : PtE n} (hP : OnE c P) (a b : Nat) : mulE K c (a * b) P = mulE K c a (mulE K c b P) := by
  induction a with
  | zero => rw [Nat.zero_mul]; rfl
  | succ a ih =>
    rw [Nat.add_mul, Nat.one_mul, mulE_add K hc hP, ih]
    rfl
theorem mulE_zero (K : FldN n) {c : Fin n} (hc : NonSq c) (k : Nat) : mulE K c k zeroE = zeroE := by
  induction k with
  | zero => rfl
  | succ k ih =>
    show addE K c (mulE K c k zeroE) zeroE = zeroE
    rw [ih, addE_zero K hc (onE_zero c)]
theorem mulE_swap (K : FldN n) {c : Fin n} (hc : NonSq c) {P : PtE n} (hP : OnE c P) (a b : Nat) : mulE K c a (mulE K c b P) = mulE K c b (mulE K c a P) := by
  rw [← mulE_mul K hc hP, Nat.mul_comm, mulE_mul K hc hP]
end
end Go.Proofs.Ytpgjcmccfpjmoaa
