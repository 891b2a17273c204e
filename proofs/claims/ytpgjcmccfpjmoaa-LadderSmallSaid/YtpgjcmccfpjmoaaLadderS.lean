/-
  The ladder of plain numbers is the ladder of the field. Conditions: the number is below p.
-/
import Derived.Test.YtpgjcmccfpjmoaaLadderE
import Derived.Test.YtpgjcmccfpjmoaaEdF
namespace Go.Proofs.Ytpgjcmccfpjmoaa
open Go.RowKit
set_option linter.unusedVariables false
set_option maxRecDepth 20000

theorem sub_val (a b : Fin pF) : (a - b).val = subF a.val b.val := by
  show (pF - b.val + a.val) % pF = (a.val + (pF - b.val)) % pF
  rw [Nat.add_comm]
theorem kE_val : kE.val = 121665 := rfl
/-- Four numbers, and the same four modulo p. -/
def Like (r : RN) (R : R4 pF) : Prop := r.a = R.x2.val ∧ r.b = R.z2.val ∧ r.c = R.x3.val ∧ r.d = R.z3.val
theorem Like.swap {r : RN} {R : R4 pF} (h : Like r R) (b : Bool) : Like (r.swap b) (R.swap b) := by
  obtain ⟨h1, h2, h3, h4⟩ := h
  cases b
  · exact ⟨h1, h2, h3, h4⟩
  · exact ⟨h3, h4, h1, h2⟩
theorem Like.next {r : RN} {R : R4 pF} (h : Like r R) (u : Fin pF) : Like (r.next u.val) (R.next kE u) := by
  obtain ⟨a, b, c, d⟩ := r
  obtain ⟨h1, h2, h3, h4⟩ := h
  simp only at h1 h2 h3 h4
  subst h1 h2 h3 h4
  refine ⟨?_, ?_, ?_, ?_⟩ <;> simp only [RN.next, R4.next, next2, nextz2, next3, nextz3, eN, dN, cN, Fin.val_mul, Fin.val_add, sub_val, kE_val]
/-- The numbers behind these bits. -/
def runL (u : Nat) : List Bool → Bool → RN → RN
  | [], last, r => r.swap last
  | b :: l, last, r => runL u l b ((r.swap (b != last)).next u)
theorem Like.run (u : Fin pF) (l : List Bool) : ∀ (last : Bool) {r : RN} {R : R4 pF}, Like r R → Like (runL u.val l last r) (runE kE u l last R) := by
  induction l with
  | nil => intro last r R h; exact h.swap last
  | cons b l ih => intro last r R h; exact ih b ((h.swap _).next u)
def startN (u : Nat) : RN := ⟨1, 0, u, 1⟩
theorem Like.start (u : Fin pF) : Like (startN u.val) (startE u) := ⟨rfl, rfl, rfl, rfl⟩
def ladN (u : Nat) (l : List Bool) : Nat := (runL u l false (startN u)).a * invF (runL u l false (startN u)).b % pF
theorem ladN_val (u : Fin pF) (l : List Bool) : (ladE KF kE u l).val = ladN u.val l := by
  have h := Like.run u l false (Like.start u)
  unfold ladN
  rw [h.1, h.2.1]
  rfl
theorem ladN_fin (u : Nat) (hu : u < pF) (l : List Bool) : ladE KF kE ⟨u, hu⟩ l = ⟨ladN u l, modF_lt _⟩ := Fin.ext (ladN_val ⟨u, hu⟩ l)
/-- A key's bits, the highest one first. -/
def bitsL (key : List UInt8) : List Bool := (List.range' 0 255).map (fun i => bitK key (254 - i))
theorem bitsL_length (key : List UInt8) : (bitsL key).length = 255 := by simp [bitsL]
theorem bitsL_ne (key : List UInt8) : bitsL key ≠ [] := by
  intro e
  have := bitsL_length key
  rw [e] at this
  exact absurd this (by decide)
theorem run_bits (key : List UInt8) (u : Nat) : ∀ (m k : Nat), k + m = 255 → runL u ((List.range' k m).map (fun i => bitK key (254 - i))) (lastN key k) (runN key u k) = endN key u := by
  intro m
  induction m with
  | zero =>
    intro k hk
    have e : k = 255 := by omega
    subst e
    rfl
  | succ m ih =>
    intro k hk
    rw [List.range'_succ, List.map_cons]
    exact ih (k + 1) (by omega)
theorem multN_lad (key : List UInt8) (u : Nat) : multN key u = ladN u (bitsL key) := by
  have h := run_bits key u 255 0 rfl
  unfold multN ladN
  rw [← h]
  rfl
theorem multN_fin (key : List UInt8) (u : Nat) (hu : u < pF) : (⟨multN key u, multN_lt _ _⟩ : Fin pF) = ladE KF kE ⟨u, hu⟩ (bitsL key) := by
  rw [ladN_fin]
  exact Fin.ext (multN_lad key u)
/-- What a point's number is once it is read back. -/
theorem num_raw (s p : List UInt8) : numK (rawK s p) = multN (clampK s) (numK p) := numK_key _ (multN_lt _ _)
/-- IN WHICH ORDER TWO SECRETS MULTIPLY DOES NOT MATTER. -/
theorem raw_swap (a b p : List UInt8) : rawK a (rawK b p) = rawK b (rawK a p) := by
  unfold rawK
  rw [numK_key _ (multN_lt _ _), numK_key _ (multN_lt _ _)]
  have h := lad_swap ⟨numK p, numK_lt p⟩ (bitsL (clampK a)) (bitsL (clampK b)) (bitsL_ne _) (bitsL_ne _)
  have e : multN (clampK a) (multN (clampK b) (numK p)) = multN (clampK b) (multN (clampK a) (numK p)) := by
    have h1 := congrArg Fin.val h
    rw [← multN_fin, ← multN_fin, ← multN_fin, ← multN_fin] at h1
    exact h1.symm
  rw [e]
/-- Forces a number ahead of what goes on with it. -/
def frc {α : Type} (x : Nat) (f : Nat → α) : α := Nat.rec (motive := fun _ => α) (f 0) (fun n _ => f (n + 1)) x
theorem frc_eq {α : Type} (x : Nat) (f : Nat → α) : frc x f = f x := by cases x <;> rfl
/-- The run, as the kernel can reckon it. -/
def runC (u : Nat) : List Bool → Bool → Nat → Nat → Nat → Nat → RN
  | [], last, a, b, c, d => RN.swap ⟨a, b, c, d⟩ last
  | t :: l, last, a, b, c, d =>
    if t != last then frc (next2 c d) fun a' => frc (nextz2 c d) fun b' => frc (next3 c d a b) fun c' => frc (nextz3 u c d a b) fun d' => runC u l t a' b' c' d'
    else frc (next2 a b) fun a' => frc (nextz2 a b) fun b' => frc (next3 a b c d) fun c' => frc (nextz3 u a b c d) fun d' => runC u l t a' b' c' d'
theorem runC_eq (u : Nat) (l : List Bool) : ∀ (last : Bool) (a b c d : Nat), runC u l last a b c d = runL u l last ⟨a, b, c, d⟩ := by
  induction l with
  | nil => intro last a b c d; rfl
  | cons t l ih =>
    intro last a b c d
    unfold runC runL
    simp only [frc_eq, ih]
    cases h : (t != last) <;> rfl
def ladC (u : Nat) (l : List Bool) : Nat := frc (runC u l false 1 0 u 1).a fun a => frc (runC u l false 1 0 u 1).b fun b => a * powN pF b (pF - 2) 255 % pF
theorem ladC_eq (u : Nat) (l : List Bool) : ladC u l = ladN u l := by
  unfold ladC ladN
  rw [frc_eq, frc_eq, runC_eq]
  show (runL u l false ⟨1, 0, u, 1⟩).a * powN pF (runL u l false ⟨1, 0, u, 1⟩).b (pF - 2) 255 % pF = (runL u l false ⟨1, 0, u, 1⟩).a * ((runL u l false ⟨1, 0, u, 1⟩).b ^ (pF - 2) % pF) % pF
  rw [Nat.mul_mod, powN_eq pF 255 _ (pF - 2) (by decide), ← Nat.mul_mod, Nat.mul_mod_mod]
end Go.Proofs.Ytpgjcmccfpjmoaa
