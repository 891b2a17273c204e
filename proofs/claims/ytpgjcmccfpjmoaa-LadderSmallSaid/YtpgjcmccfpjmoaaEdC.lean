/-
  The ladder makes multiples. Conditions: as each theorem names them.
-/
import Derived.Test.YtpgjcmccfpjmoaaEdB
namespace Go.Proofs.Ytpgjcmccfpjmoaa
set_option linter.unusedVariables false

section
variable {n : Nat}
/-- The ladder's four numbers. -/
structure R4 (n : Nat) where
  x2 : Fin n
  z2 : Fin n
  x3 : Fin n
  z3 : Fin n
def R4.swap (r : R4 n) (b : Bool) : R4 n := if b then ⟨r.x3, r.z3, r.x2, r.z2⟩ else r
theorem R4.swap_swap (r : R4 n) (a b : Bool) : (r.swap a).swap b = r.swap (a != b) := by
  cases a <;> cases b <;> rfl
variable [NeZero n]
def R4.next (k u : Fin n) (r : R4 n) : R4 n :=
  ⟨(r.x2 + r.z2) * (r.x2 + r.z2) * ((r.x2 - r.z2) * (r.x2 - r.z2)),
   ((r.x2 + r.z2) * (r.x2 + r.z2) - (r.x2 - r.z2) * (r.x2 - r.z2)) * ((r.x2 + r.z2) * (r.x2 + r.z2) + k * ((r.x2 + r.z2) * (r.x2 + r.z2) - (r.x2 - r.z2) * (r.x2 - r.z2))),
   ((r.x3 - r.z3) * (r.x2 + r.z2) + (r.x3 + r.z3) * (r.x2 - r.z2)) * ((r.x3 - r.z3) * (r.x2 + r.z2) + (r.x3 + r.z3) * (r.x2 - r.z2)),
   u * (((r.x3 - r.z3) * (r.x2 + r.z2) - (r.x3 + r.z3) * (r.x2 - r.z2)) * ((r.x3 - r.z3) * (r.x2 + r.z2) - (r.x3 + r.z3) * (r.x2 - r.z2)))⟩
theorem bne_flip (a b : Bool) : (a != b) = (b != a) := by cases a <;> cases b <;> rfl
/-- What is left behind these bits, the highest one first. -/
def runE (k u : Fin n) : List Bool → Bool → R4 n → R4 n
  | [], last, r => r.swap last
  | b :: l, last, r => runE k u l b ((r.swap (b != last)).next k u)
/-- Their number, behind another one. -/
def numB : List Bool → Nat → Nat
  | [], m => m
  | b :: l, m => numB l (2 * m + b.toNat)
def startE (u : Fin n) : R4 n := ⟨1, 0, u, 1⟩
def ladE (K : FldN n) (k u : Fin n) (l : List Bool) : Fin n := (runE k u l false (startE u)).x2 * K.inv (runE k u l false (startE u)).z2

/-- The ladder's two are m times a point, and once more. -/
def HasE (K : FldN n) (s c : Fin n) (B : PtE n) (m : Nat) (r : R4 n) : Prop := RepE s (mulE K c m B) r.x2 r.z2 ∧ RepE s (mulE K c (m + 1) B) r.x3 r.z3
theorem one_nz (K : FldN n) : (1 : Fin n) ≠ 0 := fun e => K.two (by
  have : (2 : Fin n) = 1 + 1 := by grind
  rw [this, e]
  grind)
theorem repE_zero (K : FldN n) (s : Fin n) : RepE s (zeroE : PtE n) 1 0 := by
  have h := one_nz K
  have e : (1 : Fin n) + s * 0 = 1 := by grind
  exact ⟨by show (1 : Fin n) * (1 + s * 0) = 1 - s * 0; grind, by rw [e]; exact h⟩
theorem diff_swap (u X2 Z2 X3 Z3 : Fin n) : ((X2 - Z2) * (X3 + Z3) + (X2 + Z2) * (X3 - Z3)) * ((X2 - Z2) * (X3 + Z3) + (X2 + Z2) * (X3 - Z3)) = ((X3 - Z3) * (X2 + Z2) + (X3 + Z3) * (X2 - Z2)) * ((X3 - Z3) * (X2 + Z2) + (X3 + Z3) * (X2 - Z2)) := by grind
theorem diff_swap2 (u X2 Z2 X3 Z3 : Fin n) : u * (((X2 - Z2) * (X3 + Z3) - (X2 + Z2) * (X3 - Z3)) * ((X2 - Z2) * (X3 + Z3) - (X2 + Z2) * (X3 - Z3))) = u * (((X3 - Z3) * (X2 + Z2) - (X3 + Z3) * (X2 - Z2)) * ((X3 - Z3) * (X2 + Z2) - (X3 + Z3) * (X2 - Z2))) := by grind
theorem HasE.step (K : FldN n) {s k c : Fin n} (C : CurE s k c) {B : PtE n} (hB : OnE c B) {u : Fin n} (hu : u ≠ 0) (hb : RepE s B u 1) {m : Nat} {r : R4 n} (h : HasE K s c B m r) (b : Bool) : HasE K s c B (2 * m + b.toNat) (((r.swap b).next k u).swap b) := by
  have o1 := onE_mul K C.ns hB m
  have o2 := onE_mul K C.ns hB (m + 1)
  have hS : mulE K c (m + 1) B = addE K c (mulE K c m B) B := rfl
  have hadd := RepE.add K C o1 o2 hB hS hu h.1 h.2 hb
  rw [← mulE_add K C.ns hB, show m + (m + 1) = 2 * m + 1 by omega] at hadd
  cases b with
  | false =>
    have hd := RepE.dbl K C o1 h.1
    rw [← mulE_add K C.ns hB, show m + m = 2 * m by omega] at hd
    exact ⟨hd, hadd⟩
  | true =>
    have hd := RepE.dbl K C o2 h.2
    rw [← mulE_add K C.ns hB, show m + 1 + (m + 1) = 2 * m + 1 + 1 by omega] at hd
    refine ⟨?_, hd⟩
    show RepE s _ (((r.x2 - r.z2) * (r.x3 + r.z3) + (r.x2 + r.z2) * (r.x3 - r.z3)) * ((r.x2 - r.z2) * (r.x3 + r.z3) + (r.x2 + r.z2) * (r.x3 - r.z3))) (u * (((r.x2 - r.z2) * (r.x3 + r.z3) - (r.x2 + r.z2) * (r.x3 - r.z3)) * ((r.x2 - r.z2) * (r.x3 + r.z3) - (r.x2 + r.z2) * (r.x3 - r.z3))))
    rw [diff_swap u, diff_swap2]
    exact hadd
theorem HasE.run (K : FldN n) {s k c : Fin n} (C : CurE s k c) {B : PtE n} (hB : OnE c B) {u : Fin n} (hu : u ≠ 0) (hb : RepE s B u 1) (l : List Bool) : ∀ (m : Nat) (last : Bool) (r : R4 n), HasE K s c B m (r.swap last) → HasE K s c B (numB l m) (runE k u l last r) := by
  induction l with
  | nil => exact fun m last r h => h
  | cons b l ih =>
    intro m last r h
    have h1 := h.step K C hB hu hb b
    rw [R4.swap_swap, bne_flip] at h1
    exact ih _ _ _ h1

/-- The number of a point: 0, if it is none. -/
def UofE (s : Fin n) (P : PtE n) (w : Fin n) : Prop := (P.y = 1 ∧ w = 0) ∨ (P.y ≠ 1 ∧ RepE s P w 1)
theorem ed_mul_one' (s : Fin n) : s * 1 = s := by grind
theorem ed_rep_u {s y w : Fin n} (hs : s * s = 1) (h : y * (w + s * 1) = w - s * 1) : w * (1 - y) = s * (1 + y) := ed_z4 hs h
theorem UofE.one (K : FldN n) {s : Fin n} (hs : s * s = 1) {P : PtE n} {w w' : Fin n} (h : UofE s P w) (h' : UofE s P w') : w = w' := by
  rcases h with ⟨a, b⟩ | ⟨a, b⟩ <;> rcases h' with ⟨a', b'⟩ | ⟨a', b'⟩
  · rw [b, b']
  · exact absurd a a'
  · exact absurd a' a
  · have e1 := ed_rep_u hs b.1
    have e2 := ed_rep_u hs b'.1
    refine K.cancel (d := 1 - P.y) (fun e => a (ed_subz e).symm) ?_
    rw [e1, e2]
theorem y_one_of {s X Z : Fin n} (K : FldN n) (hs : s * s = 1) {y : Fin n} (h : y * (X + s * Z) = X - s * Z) (hn : X + s * Z ≠ 0) : y = 1 ↔ Z = 0 := by
  have hs0 : s ≠ 0 := fun e => by rw [e] at hs; exact K.two (ed_z2 hs)
  constructor
  · intro e
    rw [e] at h
    have h1 : s * Z + s * Z = 0 := by grind
    exact (K.zero_or (K.half h1)).resolve_left hs0
  · intro e
    rw [e] at h hn
    have h2 : X + s * 0 = X := by grind
    have h3 : X - s * 0 = X := by grind
    rw [h2] at hn
    rw [h2, h3] at h
    exact K.cancel hn (by rw [h]; grind)
theorem UofE.of_rep (K : FldN n) (h0 : K.inv 0 = 0) {s : Fin n} (hs : s * s = 1) {P : PtE n} {X Z : Fin n} (h : RepE s P X Z) : UofE s P (X * K.inv Z) := by
  have hy := y_one_of K hs h.1 h.2
  by_cases hz : Z = 0
  · refine .inl ⟨hy.2 hz, ?_⟩
    rw [hz, h0]
    grind
  · refine .inr ⟨fun e => hz (hy.1 e), ?_, fun e => h.2 ?_⟩
    · refine K.cancel hz ?_
      have hi := K.mul_inv Z hz
      have e1 : P.y * (X * K.inv Z + s * 1) * Z = P.y * (X * (Z * K.inv Z) + s * Z) := by grind
      have e2 : (X * K.inv Z - s * 1) * Z = X * (Z * K.inv Z) - s * Z := by grind
      rw [e1, e2, hi, ed_mul_one', h.1]
    · have hi := K.mul_inv Z hz
      have e1 : (X * K.inv Z + s * 1) * Z = X * (Z * K.inv Z) + s * Z := by grind
      rw [e, hi, ed_mul_one'] at e1
      rw [← e1]
      grind
theorem x_zero (K : FldN n) {c : Fin n} (hc : NonSq c) {P : PtE n} (h : OnE c P) (hy : P.y * P.y = 1) : P.x = 0 := by
  have h1 : P.x * P.x * 1 = c * (P.x * P.x + 1 - 1) := by have := h; unfold OnE at this; rw [hy] at this; exact this
  by_cases hx : P.x = 0
  · exact hx
  · have h2 : 1 = c := K.cancel (K.nz hx hx) (by grind)
    exact absurd (by rw [← h2]; grind) (hc 1)
/-- THE LADDER: it makes, of a point's number, the number of m times the point. -/
theorem ladE_uof (K : FldN n) (h0 : K.inv 0 = 0) {s k c : Fin n} (C : CurE s k c) {B : PtE n} (hB : OnE c B) {u : Fin n} (hb : UofE s B u) (l : List Bool) (hl : l ≠ []) : UofE s (mulE K c (numB l 0) B) (ladE K k u l) := by
  by_cases hu : u = 0
  · -- nothing but 0 comes of 0
    have hrun : ∀ (l : List Bool) (last : Bool) (r : R4 n), r.z2 = 0 → r.z3 = 0 → (runE k (0 : Fin n) l last r).z2 = 0 := by
      intro l
      induction l with
      | nil => intro last r a b; cases last <;> simp [runE, R4.swap, a, b]
      | cons b l ih =>
        intro last r a b'
        refine ih b _ ?_ ?_
        · have : (r.swap (b != last)).z2 = 0 := by cases (b != last) <;> simp [R4.swap, a, b']
          show (((r.swap (b != last)).x2 + (r.swap (b != last)).z2) * ((r.swap (b != last)).x2 + (r.swap (b != last)).z2) - ((r.swap (b != last)).x2 - (r.swap (b != last)).z2) * ((r.swap (b != last)).x2 - (r.swap (b != last)).z2)) * _ = 0
          rw [this]
          grind
        · show (0 : Fin n) * _ = 0
          grind
    have hz : (runE k u l false (startE u)).z2 = 0 := by
      rw [hu]
      cases l with
      | nil => exact absurd rfl hl
      | cons b l =>
        refine hrun l b _ ?_ ?_
        · show ((((startE (0 : Fin n)).swap (b != false)).x2 + ((startE (0 : Fin n)).swap (b != false)).z2) * (((startE (0 : Fin n)).swap (b != false)).x2 + ((startE (0 : Fin n)).swap (b != false)).z2) - (((startE (0 : Fin n)).swap (b != false)).x2 - ((startE (0 : Fin n)).swap (b != false)).z2) * (((startE (0 : Fin n)).swap (b != false)).x2 - ((startE (0 : Fin n)).swap (b != false)).z2)) * _ = 0
          cases b <;> simp only [R4.swap, startE] <;> grind
        · show (0 : Fin n) * _ = 0
          grind
    have hw : ladE K k u l = 0 := by unfold ladE; rw [hz, h0]; grind
    rw [hw]
    have hy : B.y * B.y = 1 := by
      rcases hb with ⟨a, b⟩ | ⟨a, b⟩
      · rw [a]; grind
      · have e := b.1
        rw [hu] at e
        have hs := C.sq
        have e2 : s * (B.y + 1) = 0 := by grind
        have hs0 : s ≠ 0 := fun e => by rw [e] at hs; exact K.two (ed_z2 hs)
        have e3 := (K.zero_or e2).resolve_left hs0
        grind
    have hx := x_zero K C.ns hB hy
    -- its multiples are it, or none
    have hm : ∀ m, mulE K c m B = zeroE ∨ mulE K c m B = B := by
      intro m
      induction m with
      | zero => exact .inl rfl
      | succ m ih =>
        have e : mulE K c (m + 1) B = addE K c (mulE K c m B) B := rfl
        rw [e]
        rcases ih with ih | ih
        · right; rw [ih, addE_comm, addE_zero K C.ns hB]
        · left
          rw [ih]
          refine addE_uniq K C.ns hB hB ?_ ?_
          · rw [hx]; simp only [zeroE]; grind
          · rw [hx]; simp only [zeroE]; grind
    rcases hm (numB l 0) with e | e
    · rw [e]; exact .inl ⟨rfl, rfl⟩
    · rw [e, ← hu]; exact hb
  · have hr : RepE s B u 1 := by
      rcases hb with ⟨a, b⟩ | ⟨a, b⟩
      · exact absurd b hu
      · exact b
    have hs : HasE K s c B 0 ((startE u).swap false) := ⟨repE_zero K s, by rw [show 0 + 1 = 1 from rfl, mulE_one K C.ns hB]; exact hr⟩
    exact UofE.of_rep K h0 C.sq (HasE.run K C hB hu hr l 0 false _ hs).1
/-- In which order two multiply does not matter. -/
theorem ladE_swap (K : FldN n) (h0 : K.inv 0 = 0) {s k c : Fin n} (C : CurE s k c) {B : PtE n} (hB : OnE c B) {u : Fin n} (hb : UofE s B u) (l m : List Bool) (hl : l ≠ []) (hm : m ≠ []) : ladE K k (ladE K k u l) m = ladE K k (ladE K k u m) l := by
  have a1 := ladE_uof K h0 C (onE_mul K C.ns hB _) (ladE_uof K h0 C hB hb l hl) m hm
  have a2 := ladE_uof K h0 C (onE_mul K C.ns hB _) (ladE_uof K h0 C hB hb m hm) l hl
  rw [mulE_swap K C.ns hB] at a1
  exact a1.one K C.sq a2
end
end Go.Proofs.Ytpgjcmccfpjmoaa
