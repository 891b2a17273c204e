/-
  A point by one fraction alone: its double, and sums whose difference is known. Conditions: as each theorem names them.
-/
import Derived.Test.YtpgjcmccfpjmoaaEdA
namespace Go.Proofs.Ytpgjcmccfpjmoaa
set_option linter.unusedVariables false

section
variable {n : Nat} [NeZero n]
theorem ed_subz {a b : Fin n} (h : a - b = 0) : a = b := by grind
theorem ed_addz {a c : Fin n} (h : a + c * 0 = 0) : a = 0 := by grind
theorem ed_mul2 (a c : Fin n) : a * c * 2 = a * (2 * c) := by grind
theorem ed_mul2' (c : Fin n) : c * 2 = 2 * c := by grind
theorem ed_mulS (a m g : Fin n) : a * (m * g) = m * (a * g) := by grind
theorem ed_mulT (y g e : Fin n) : y * g * e = y * e * g := by grind
theorem ed_z1 {c a b G : Fin n} : c * (a - b) * G = (a - b) * G * c := by grind
theorem ed_z2 (hs : (0 : Fin n) * 0 = 1) : (2 : Fin n) = 0 := by grind
theorem ed_z3 {b c px py qx qy : Fin n} (h : b * (c - -px * qx * py * qy) = c * (py * qy - -px * qx)) : b * (c + px * qx * py * qy) = c * (py * qy + px * qx) := by grind
theorem ed_z4 {s u y : Fin n} (hs : s * s = 1) (h : y * (u + s * 1) = u - s * 1) : u * (1 - y) = s * (1 + y) := by grind
theorem ed_z5 {s u : Fin n} (h : u * (1 - 1) = s * (1 + 1)) : s * 2 = 0 := by grind
theorem ed_z6 (Y py qy b c t : Fin n) : Y * (py * py + qy * qy - 2 * b * (py * qy)) * ((c - t) * (c + t)) = (Y * (c - t)) * ((py * py + qy * qy) * (c + t) - 2 * (b * (c + t)) * (py * qy)) := by grind
theorem ed_z7 (py qy b c t : Fin n) : (2 * (py * qy) - b * (py * py + qy * qy)) * ((c - t) * (c + t)) = (c - t) * (2 * (py * qy) * (c + t) - (b * (c + t)) * (py * py + qy * qy)) := by grind
theorem ed_z8 {b p q : Fin n} (g1 : p * p + q * q - 2 * b * (p * q) = 0) (g2 : 2 * (p * q) - b * (p * p + q * q) = 0) : (1 - b) * ((p + q) * (p + q)) = 0 := by grind
theorem ed_z9 {b p q : Fin n} (g1 : p * p + q * q - 2 * b * (p * q) = 0) (g2 : 2 * (p * q) - b * (p * p + q * q) = 0) : (1 + b) * ((p - q) * (p - q)) = 0 := by grind
theorem ed_z10 {p q : Fin n} (a : p + q = 0) (b : p - q = 0) : p + p = 0 := by grind
theorem ed_z11 {p q : Fin n} (a : p + q = 0) (b : p = 0) : q = 0 := by grind
theorem ed_z12 {c x : Fin n} (h : x * x * (0 * 0) = c * (x * x + 0 * 0 - 1)) : x * x * c = 1 * c := by grind
theorem ed_z13 {b c x y : Fin n} (h : b * (c + x * y * 0 * 0) = c * (0 * 0 + x * y)) : b * c = x * y * c := by grind
theorem ed_z14 {b x y : Fin n} (h : b = x * y) (h1 : x * x = 1) (h2 : y * y = 1) : (1 - b) * (1 + b) = 0 := by grind
/-- A point, told by one fraction alone; s is 1 or -1. -/
def RepE (s : Fin n) (P : PtE n) (X Z : Fin n) : Prop := P.y * (X + s * Z) = X - s * Z ∧ X + s * Z ≠ 0
/-- What the ladder's constant is to the curve's. -/
structure CurE (s k c : Fin n) : Prop where
  sq : s * s = 1
  on : c * (2 * k + 1 - s) = 2 * k + 1 + s
  nz : 2 * k + 1 - s ≠ 0
  ns : NonSq c

theorem dbl_id1 {c x y : Fin n} (h : x * x * (y * y) = c * (x * x + y * y - 1)) : (y * y - c) * (c - x * x * y * y) + c * (c - 2 * (y * y) + y * y * (y * y)) = 0 := by grind
theorem dbl_id2 {c x y : Fin n} (h : x * x * (y * y) = c * (x * x + y * y - 1)) : (y * y - x * x) * (c - 2 * (y * y) + y * y * (y * y)) * c = (c - x * x * y * y) * (-(y * y * (y * y) - 2 * c * (y * y) + c)) := by grind
theorem dbl_sum {s k c X Z y : Fin n} (hs : s * s = 1) (ho : c * (2 * k + 1 - s) = 2 * k + 1 + s) (hy : y * (X + s * Z) = X - s * Z) :
    2 * ((X + Z) * (X + Z) * ((X - Z) * (X - Z)) + s * (((X + Z) * (X + Z) - (X - Z) * (X - Z)) * ((X + Z) * (X + Z) + k * ((X + Z) * (X + Z) - (X - Z) * (X - Z))))) = s * (2 * k + 1 - s) * ((X + s * Z) * (X + s * Z) * ((X + s * Z) * (X + s * Z))) * (c - 2 * (y * y) + y * y * (y * y)) := by
  have e1 : s * (2 * k + 1 - s) * ((X + s * Z) * (X + s * Z) * ((X + s * Z) * (X + s * Z))) * (c - 2 * (y * y) + y * y * (y * y)) = s * ((c * (2 * k + 1 - s)) * ((X + s * Z) * (X + s * Z) * ((X + s * Z) * (X + s * Z))) - 2 * (2 * k + 1 - s) * ((y * (X + s * Z)) * (y * (X + s * Z))) * ((X + s * Z) * (X + s * Z)) + (2 * k + 1 - s) * ((y * (X + s * Z)) * (y * (X + s * Z)) * ((y * (X + s * Z)) * (y * (X + s * Z))))) := by grind
  rw [e1, hy, ho]
  clear e1 hy ho
  grind
theorem dbl_dif {s k c X Z y : Fin n} (hs : s * s = 1) (ho : c * (2 * k + 1 - s) = 2 * k + 1 + s) (hy : y * (X + s * Z) = X - s * Z) :
    2 * ((X + Z) * (X + Z) * ((X - Z) * (X - Z)) - s * (((X + Z) * (X + Z) - (X - Z) * (X - Z)) * ((X + Z) * (X + Z) + k * ((X + Z) * (X + Z) - (X - Z) * (X - Z))))) = s * (2 * k + 1 - s) * ((X + s * Z) * (X + s * Z) * ((X + s * Z) * (X + s * Z))) * (-(y * y * (y * y) - 2 * c * (y * y) + c)) := by
  have e1 : s * (2 * k + 1 - s) * ((X + s * Z) * (X + s * Z) * ((X + s * Z) * (X + s * Z))) * (-(y * y * (y * y) - 2 * c * (y * y) + c)) = s * (-((2 * k + 1 - s) * ((y * (X + s * Z)) * (y * (X + s * Z)) * ((y * (X + s * Z)) * (y * (X + s * Z))))) + 2 * (c * (2 * k + 1 - s)) * ((y * (X + s * Z)) * (y * (X + s * Z))) * ((X + s * Z) * (X + s * Z)) - (c * (2 * k + 1 - s)) * ((X + s * Z) * (X + s * Z) * ((X + s * Z) * (X + s * Z)))) := by grind
  rw [e1, hy, ho]
  clear e1 hy ho
  grind
theorem ed_mul_swap3 {a b d e : Fin n} (h : a * b = d * e) (m : Fin n) : a * (m * b) = m * (d * e) := by rw [← h]; grind
theorem RepE.dbl (K : FldN n) {s k c : Fin n} (C : CurE s k c) {P : PtE n} (hP : OnE c P) {X Z : Fin n} (h : RepE s P X Z) :
    RepE s (addE K c P P) ((X + Z) * (X + Z) * ((X - Z) * (X - Z))) (((X + Z) * (X + Z) - (X - Z) * (X - Z)) * ((X + Z) * (X + Z) + k * ((X + Z) * (X + Z) - (X - Z) * (X - Z)))) := by
  show (addE K c P P).y * _ = _ ∧ _
  have h1 := dbl_sum C.sq C.on h.1
  have h2 := dbl_dif C.sq C.on h.1
  have i1 := dbl_id1 hP
  have i2 := dbl_id2 hP
  have m := minus_nz K C.ns hP hP
  have ey := addE_y K C.ns hP hP
  have hc0 := C.ns.nz
  have w : P.y * P.y - c ≠ 0 := fun e => C.ns P.y (ed_subz e)
  have g0 : c - P.x * P.x * P.y * P.y ≠ 0 := m
  have g : c - 2 * (P.y * P.y) + P.y * P.y * (P.y * P.y) ≠ 0 := fun e => by
    rw [e] at i1
    exact K.nz w g0 (ed_addz i1)
  have hD := K.nz (K.nz h.2 h.2) (K.nz h.2 h.2)
  generalize (X + Z) * (X + Z) * ((X - Z) * (X - Z)) = X' at *
  generalize ((X + Z) * (X + Z) - (X - Z) * (X - Z)) * ((X + Z) * (X + Z) + k * ((X + Z) * (X + Z) - (X - Z) * (X - Z))) = Z' at *
  generalize (X + s * Z) * (X + s * Z) * ((X + s * Z) * (X + s * Z)) = D4 at *
  have hs0 : s ≠ 0 := fun e => by have := C.sq; rw [e] at this; exact K.two (by grind)
  have hk := K.nz (K.nz (K.nz hs0 C.nz) hD) g
  generalize (addE K c P P).y = Y at *
  generalize s * (2 * k + 1 - s) * D4 = M at *
  generalize c - 2 * (P.y * P.y) + P.y * P.y * (P.y * P.y) = G at *
  generalize -(P.y * P.y * (P.y * P.y) - 2 * c * (P.y * P.y) + c) = H at *
  have key : Y * G = H := by
    refine K.cancel g0 ?_
    rw [ed_mulT, ey, Fin.mul_comm H, ← i2]
    exact ed_z1
  refine ⟨?_, fun e => ?_⟩
  · refine K.cancel K.two ?_
    rw [ed_mul2, ed_mul2', h1, h2, ← key]
    exact ed_mulS _ _ _
  · rw [e] at h1
    exact hk (h1.symm.trans (Fin.mul_zero 2))

theorem diff_id {c x2 y2 x3 y3 : Fin n} (h2 : x2 * x2 * (y2 * y2) = c * (x2 * x2 + y2 * y2 - 1)) (h3 : x3 * x3 * (y3 * y3) = c * (x3 * x3 + y3 * y3 - 1)) :
    c * (y2 * y3 - x2 * x3) * ((y2 * y2 + y3 * y3) * (c + x2 * x3 * y2 * y3) - 2 * (c * (y2 * y3 + x2 * x3)) * (y2 * y3)) = (c - x2 * x3 * y2 * y3) * (2 * (y2 * y3) * (c + x2 * x3 * y2 * y3) - c * (y2 * y3 + x2 * x3) * (y2 * y2 + y3 * y3)) := by grind
theorem diff_sum {s u yB X2 Z2 X3 Z3 y2 y3 : Fin n} (hs : s * s = 1) (hB : u * (1 - yB) = s * (1 + yB)) (h2 : y2 * (X2 + s * Z2) = X2 - s * Z2) (h3 : y3 * (X3 + s * Z3) = X3 - s * Z3) :
    (1 - yB) * ((((X3 - Z3) * (X2 + Z2) + (X3 + Z3) * (X2 - Z2)) * ((X3 - Z3) * (X2 + Z2) + (X3 + Z3) * (X2 - Z2))) + s * (u * (((X3 - Z3) * (X2 + Z2) - (X3 + Z3) * (X2 - Z2)) * ((X3 - Z3) * (X2 + Z2) - (X3 + Z3) * (X2 - Z2))))) = 2 * ((X2 + s * Z2) * (X2 + s * Z2) * ((X3 + s * Z3) * (X3 + s * Z3))) * (y2 * y2 + y3 * y3 - 2 * yB * (y2 * y3)) := by
  have e1 : 2 * ((X2 + s * Z2) * (X2 + s * Z2) * ((X3 + s * Z3) * (X3 + s * Z3))) * (y2 * y2 + y3 * y3 - 2 * yB * (y2 * y3)) = 2 * ((y2 * (X2 + s * Z2)) * (y2 * (X2 + s * Z2)) * ((X3 + s * Z3) * (X3 + s * Z3))) + 2 * ((X2 + s * Z2) * (X2 + s * Z2) * ((y3 * (X3 + s * Z3)) * (y3 * (X3 + s * Z3)))) - 4 * yB * ((y2 * (X2 + s * Z2)) * (X2 + s * Z2) * ((y3 * (X3 + s * Z3)) * (X3 + s * Z3))) := by grind
  have e2 : ∀ a b : Fin n, (1 - yB) * (a + s * (u * b)) = (1 - yB) * a + s * (u * (1 - yB)) * b := fun a b => by grind
  rw [e1, h2, h3, e2, hB]
  clear e1 e2 h2 h3 hB
  grind
theorem diff_dif {s u yB X2 Z2 X3 Z3 y2 y3 : Fin n} (hs : s * s = 1) (hB : u * (1 - yB) = s * (1 + yB)) (h2 : y2 * (X2 + s * Z2) = X2 - s * Z2) (h3 : y3 * (X3 + s * Z3) = X3 - s * Z3) :
    (1 - yB) * ((((X3 - Z3) * (X2 + Z2) + (X3 + Z3) * (X2 - Z2)) * ((X3 - Z3) * (X2 + Z2) + (X3 + Z3) * (X2 - Z2))) - s * (u * (((X3 - Z3) * (X2 + Z2) - (X3 + Z3) * (X2 - Z2)) * ((X3 - Z3) * (X2 + Z2) - (X3 + Z3) * (X2 - Z2))))) = 2 * ((X2 + s * Z2) * (X2 + s * Z2) * ((X3 + s * Z3) * (X3 + s * Z3))) * (2 * (y2 * y3) - yB * (y2 * y2 + y3 * y3)) := by
  have e1 : 2 * ((X2 + s * Z2) * (X2 + s * Z2) * ((X3 + s * Z3) * (X3 + s * Z3))) * (2 * (y2 * y3) - yB * (y2 * y2 + y3 * y3)) = 4 * ((y2 * (X2 + s * Z2)) * (X2 + s * Z2) * ((y3 * (X3 + s * Z3)) * (X3 + s * Z3))) - 2 * yB * ((y2 * (X2 + s * Z2)) * (y2 * (X2 + s * Z2)) * ((X3 + s * Z3) * (X3 + s * Z3))) - 2 * yB * ((X2 + s * Z2) * (X2 + s * Z2) * ((y3 * (X3 + s * Z3)) * (y3 * (X3 + s * Z3)))) := by grind
  have e2 : ∀ a b : Fin n, (1 - yB) * (a - s * (u * b)) = (1 - yB) * a - s * (u * (1 - yB)) * b := fun a b => by grind
  rw [e1, h2, h3, e2, hB]
  clear e1 e2 h2 h3 hB
  grind
theorem RepE.add (K : FldN n) {s k c : Fin n} (C : CurE s k c) {P Q B : PtE n} (hP : OnE c P) (hQ : OnE c Q) (hB : OnE c B) (hS : Q = addE K c P B) {u X2 Z2 X3 Z3 : Fin n} (hu : u ≠ 0) (h2 : RepE s P X2 Z2) (h3 : RepE s Q X3 Z3) (hb : RepE s B u 1) :
    RepE s (addE K c P Q) (((X3 - Z3) * (X2 + Z2) + (X3 + Z3) * (X2 - Z2)) * ((X3 - Z3) * (X2 + Z2) + (X3 + Z3) * (X2 - Z2))) (u * (((X3 - Z3) * (X2 + Z2) - (X3 + Z3) * (X2 - Z2)) * ((X3 - Z3) * (X2 + Z2) - (X3 + Z3) * (X2 - Z2)))) := by
  have hs := C.sq
  have hs0 : s ≠ 0 := fun e => by rw [e] at hs; exact K.two (ed_z2 hs)
  have hc0 := C.ns.nz
  -- the difference
  have hD : addE K c (negE P) Q = B := by
    rw [hS, ← addE_assoc K C.ns (onE_neg hP) hP hB, addE_comm K (negE P) P, addE_neg K C.ns hP, addE_comm, addE_zero K C.ns hB]
  have dy := addE_y K C.ns (onE_neg hP) hQ
  rw [hD] at dy
  have nx : (negE P).x = - P.x := rfl
  have ny : (negE P).y = P.y := rfl
  rw [nx, ny] at dy
  have dy' : B.y * (c + P.x * Q.x * P.y * Q.y) = c * (P.y * Q.y + P.x * Q.x) := ed_z3 dy
  have sy := addE_y K C.ns hP hQ
  have m1 := minus_nz K C.ns hP hQ
  have m2 := plus_nz K C.ns hP hQ
  have hb1 : u * (1 - B.y) = s * (1 + B.y) := ed_z4 hs hb.1
  have nb : 1 - B.y ≠ 0 := fun e => by
    have e1 : B.y = 1 := (ed_subz e).symm
    rw [e1] at hb1
    exact K.nz hs0 K.two (ed_z5 hb1)
  have f1 := diff_sum hs hb1 h2.1 h3.1
  have f2 := diff_dif hs hb1 h2.1 h3.1
  have id := diff_id hP hQ
  have key : (addE K c P Q).y * (P.y * P.y + Q.y * Q.y - 2 * B.y * (P.y * Q.y)) = 2 * (P.y * Q.y) - B.y * (P.y * P.y + Q.y * Q.y) := by
    refine K.cancel (K.nz m1 m2) ?_
    generalize (addE K c P Q).y = Y at *
    generalize B.y = b at *
    generalize P.x * Q.x * P.y * Q.y = t at *
    rw [ed_z6, ed_z7, sy, dy']
    exact id
  have hDD := K.nz (K.nz h2.2 h2.2) (K.nz h3.2 h3.2)
  generalize hd : (X3 - Z3) * (X2 + Z2) = d at *
  generalize he : (X3 + Z3) * (X2 - Z2) = e at *
  generalize (X2 + s * Z2) * (X2 + s * Z2) * ((X3 + s * Z3) * (X3 + s * Z3)) = W at *
  have r1 : (addE K c P Q).y * ((d + e) * (d + e) + s * (u * ((d - e) * (d - e)))) = (d + e) * (d + e) - s * (u * ((d - e) * (d - e))) := by
    refine K.cancel nb ?_
    generalize (addE K c P Q).y = Y at *
    rw [Fin.mul_comm _ (1 - B.y), Fin.mul_comm _ (1 - B.y), f2, ← key, ed_mulS, f1]
    exact ed_mulS _ _ _
  refine ⟨r1, fun z => ?_⟩
  rw [z, Fin.mul_zero] at r1
  rw [z, Fin.mul_zero] at f1
  rw [← r1, Fin.mul_zero] at f2
  have hW : 2 * W ≠ 0 := K.nz K.two hDD
  have g1 := (K.zero_or f1.symm).resolve_left hW
  have g2 := (K.zero_or f2.symm).resolve_left hW
  -- y2^2 + y3^2 = 2 b y2 y3, 2 y2 y3 = b (y2^2 + y3^2)
  have g3 : (1 - B.y) * ((P.y + Q.y) * (P.y + Q.y)) = 0 := ed_z8 g1 g2
  have g4 : (1 + B.y) * ((P.y - Q.y) * (P.y - Q.y)) = 0 := ed_z9 g1 g2
  have g5 := (K.zero_or g3).resolve_left nb
  have g6 : P.y + Q.y = 0 := (K.zero_or g5).elim (fun h => h) (fun h => h)
  have nb2 : 1 + B.y ≠ 0 := fun e0 => by
    rw [e0, Fin.mul_zero] at hb1
    rcases K.zero_or hb1 with h | h
    · exact hu h
    · exact nb h
  have g7 := (K.zero_or g4).resolve_left nb2
  have g8 : P.y - Q.y = 0 := (K.zero_or g7).elim (fun h => h) (fun h => h)
  have g9 : P.y = 0 := K.half (ed_z10 g6 g8)
  have g10 : Q.y = 0 := ed_z11 g6 g9
  have x1 : P.x * P.x = 1 := by
    have := hP
    unfold OnE at this
    rw [g9] at this
    exact K.cancel hc0 (ed_z12 this)
  have x2 : Q.x * Q.x = 1 := by
    have := hQ
    unfold OnE at this
    rw [g10] at this
    exact K.cancel hc0 (ed_z12 this)
  rw [g9, g10] at dy'
  have g11 : B.y = P.x * Q.x := K.cancel hc0 (ed_z13 dy')
  have g12 : (1 - B.y) * (1 + B.y) = 0 := ed_z14 g11 x1 x2
  exact K.nz nb nb2 g12
end
end Go.Proofs.Ytpgjcmccfpjmoaa
