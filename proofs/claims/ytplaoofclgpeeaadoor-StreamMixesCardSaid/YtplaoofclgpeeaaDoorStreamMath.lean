/-
  The stream as plain Lean functions: what layer 4 of the document says, and what follows of it. Conditions: none; nothing of a program is named here.
-/
import Derived.Test.YtplaoofclgpeeaaDoorWordMath
namespace Go.Proofs.YtplaoofclgpeeaaDoor
set_option linter.unusedVariables false

/-- One word added to another one, with which a third one is mixed, that is turned left. -/
def stirW (w : List UInt32) (s p t by_ : Nat) : List UInt32 :=
  (w.set s (w.getD s 0 + w.getD p 0)).set t (rotl ((w.set s (w.getD s 0 + w.getD p 0)).getD t 0 ^^^ (w.set s (w.getD s 0 + w.getD p 0)).getD s 0) by_)
theorem stirW_length (w : List UInt32) (s p t n : Nat) : (stirW w s p t n).length = w.length := by simp [stirW]
def quarterW (w : List UInt32) (a b c d : Nat) : List UInt32 := stirW (stirW (stirW (stirW w a b d 16) c d b 12) a b d 8) c d b 7
theorem quarterW_length (w : List UInt32) (a b c d : Nat) : (quarterW w a b c d).length = w.length := by simp [quarterW, stirW_length]

def quartersT : List (List Nat) := [[0, 4, 8, 12], [1, 5, 9, 13], [2, 6, 10, 14], [3, 7, 11, 15], [0, 5, 10, 15], [1, 6, 11, 12], [2, 7, 8, 13], [3, 4, 9, 14]]
def quarterAt (k : Nat) : List Nat := quartersT.getD (k % 8) []
/-- k quarter rounds, in their order. -/
def runS (w : List UInt32) : Nat → List UInt32
  | 0 => w
  | k + 1 => quarterW (runS w k) ((quarterAt k).getD 0 0) ((quarterAt k).getD 1 0) ((quarterAt k).getD 2 0) ((quarterAt k).getD 3 0)
theorem runS_length (w : List UInt32) (k : Nat) : (runS w k).length = w.length := by
  induction k with
  | zero => rfl
  | succ k ih => rw [runS, quarterW_length, ih]

def firstS (key : List UInt8) (ctr : UInt32) (nonce : List UInt8) : List UInt32 :=
  [0x61707865, 0x3320646e, 0x79622d32, 0x6b206574] ++ (List.range 8).map (wordLow key) ++ [ctr] ++ (List.range 3).map (wordLow nonce)
theorem firstS_length (key : List UInt8) (ctr : UInt32) (nonce : List UInt8) : (firstS key ctr nonce).length = 16 := by simp [firstS]
def lastS (key : List UInt8) (ctr : UInt32) (nonce : List UInt8) : List UInt32 := List.zipWith (· + ·) (runS (firstS key ctr nonce) 80) (firstS key ctr nonce)
theorem lastS_length (key : List UInt8) (ctr : UInt32) (nonce : List UInt8) : (lastS key ctr nonce).length = 16 := by
  simp [lastS, runS_length, firstS_length]
def blockS (key : List UInt8) (ctr : UInt32) (nonce : List UInt8) : List UInt8 := bytesLow (lastS key ctr nonce)
theorem blockS_length (key : List UInt8) (ctr : UInt32) (nonce : List UInt8) : (blockS key ctr nonce).length = 64 := by
  rw [blockS, bytesLow_length, lastS_length]

/-- The stream, so many blocks of it. -/
def noiseS (key : List UInt8) (ctr : UInt32) (nonce : List UInt8) : Nat → List UInt8
  | 0 => []
  | k + 1 => noiseS key ctr nonce k ++ blockS key (ctr + UInt32.ofNat k) nonce
theorem noiseS_length (key : List UInt8) (ctr : UInt32) (nonce : List UInt8) (k : Nat) : (noiseS key ctr nonce k).length = 64 * k := by
  induction k with
  | zero => rfl
  | succ k ih => rw [noiseS, List.length_append, ih, blockS_length]; omega
/-- A text, mixed. -/
def mixS (key : List UInt8) (ctr : UInt32) (nonce text : List UInt8) : List UInt8 := xorB text (noiseS key ctr nonce ((text.length + 63) / 64))
theorem mixS_length (key : List UInt8) (ctr : UInt32) (nonce text : List UInt8) : (mixS key ctr nonce text).length = text.length := by
  rw [mixS, xorB_length, noiseS_length]; omega

theorem xorB_append (t a b : List UInt8) : xorB t (a ++ b) = xorB t a ++ xorB (t.drop a.length) b := by
  induction a generalizing t with
  | nil => simp [xorB]
  | cons x a ih =>
    cases t with
    | nil => simp [xorB]
    | cons y t =>
      have := ih t
      simp only [xorB, List.cons_append, List.zipWith_cons_cons, List.length_cons, List.drop_succ_cons] at *
      rw [this]
/-- The same, by how much has been mixed. -/
theorem xorB_next (t a b : List UInt8) : xorB t (a ++ b) = xorB t a ++ xorB (t.drop (xorB t a).length) b := by
  rw [xorB_append, xorB_length]
  rcases Nat.le_total a.length t.length with h | h
  · rw [Nat.min_eq_right h]
  · rw [Nat.min_eq_left h, List.drop_of_length_le h, List.drop_of_length_le (Nat.le_refl _)]
theorem noise_flat (key : List UInt8) (ctr : UInt32) (nonce : List UInt8) (k : Nat) : (List.range k).flatMap (fun x => blockS key (ctr + UInt32.ofNat x) nonce) = noiseS key ctr nonce k := by
  induction k with
  | zero => rfl
  | succ k ih => rw [List.range_succ, List.flatMap_append, ih, noiseS]; simp
theorem xorB_full (t a b : List UInt8) (h : t.length ≤ a.length) : xorB t (a ++ b) = xorB t a := by
  rw [xorB_append, List.drop_of_length_le h]
  simp [xorB]
theorem noiseS_add (key : List UInt8) (ctr : UInt32) (nonce : List UInt8) (m d : Nat) : ∃ r, noiseS key ctr nonce (m + d) = noiseS key ctr nonce m ++ r := by
  induction d with
  | zero => exact ⟨[], by simp⟩
  | succ d ih =>
    obtain ⟨r, hr⟩ := ih
    exact ⟨r ++ blockS key (ctr + UInt32.ofNat (m + d)) nonce, by rw [← Nat.add_assoc, noiseS, hr, List.append_assoc]⟩
/-- With blocks enough the answer is the same. -/
theorem mixS_more (key : List UInt8) (ctr : UInt32) (nonce text : List UInt8) (m : Nat) (h : (text.length + 63) / 64 ≤ m) : xorB text (noiseS key ctr nonce m) = mixS key ctr nonce text := by
  obtain ⟨r, hr⟩ := noiseS_add key ctr nonce ((text.length + 63) / 64) (m - (text.length + 63) / 64)
  rw [show (text.length + 63) / 64 + (m - (text.length + 63) / 64) = m by omega] at hr
  rw [hr, xorB_full _ _ _ (by rw [noiseS_length]; omega), mixS]
theorem xorB_again (t a : List UInt8) (h : t.length ≤ a.length) : xorB (xorB t a) a = t := by
  induction a generalizing t with
  | nil =>
    have : t = [] := List.eq_nil_of_length_eq_zero (by simpa using h)
    subst this; rfl
  | cons x a ih =>
    cases t with
    | nil => rfl
    | cons y t =>
      have := ih t (by simpa using h)
      simp only [xorB, List.zipWith_cons_cons] at *
      rw [this, UInt8.xor_assoc, UInt8.xor_self, UInt8.xor_zero]
theorem mixS_twice (key : List UInt8) (ctr : UInt32) (nonce text : List UInt8) : mixS key ctr nonce (mixS key ctr nonce text) = text := by
  rw [mixS, mixS_length, mixS, xorB_again _ _ (by rw [noiseS_length]; omega)]
theorem xorB_left (t a : List UInt8) (n : Nat) : (xorB t a).take n = xorB (t.take n) a := by
  induction a generalizing t n with
  | nil => simp [xorB]
  | cons x a ih =>
    cases t with
    | nil => simp [xorB]
    | cons y t =>
      cases n with
      | zero => simp [xorB]
      | succ n =>
        have := ih t n
        simp only [xorB, List.zipWith_cons_cons, List.take_succ_cons] at *
        rw [this]
theorem mixS_cut (key : List UInt8) (ctr : UInt32) (nonce text : List UInt8) (n : Nat) (h : n ≤ text.length) : (mixS key ctr nonce text).take n = mixS key ctr nonce (text.take n) := by
  rw [mixS, xorB_left]
  exact mixS_more _ _ _ _ _ (by rw [List.length_take]; omega)
theorem ctr_next (c : UInt32) (k : Nat) : c + UInt32.ofNat (k + 1) = c + 1 + UInt32.ofNat k := by
  apply UInt32.toNat_inj.1
  simp only [UInt32.toNat_add, UInt32.toNat_ofNat', show (1 : UInt32).toNat = 1 from rfl]
  omega
theorem ctr_zero (c : UInt32) : c + UInt32.ofNat 0 = c := by
  apply UInt32.toNat_inj.1
  have := c.toNat_lt
  simp only [UInt32.toNat_add, UInt32.toNat_ofNat']
  omega
theorem noiseS_next (key : List UInt8) (ctr : UInt32) (nonce : List UInt8) (k : Nat) : noiseS key ctr nonce (k + 1) = blockS key ctr nonce ++ noiseS key (ctr + 1) nonce k := by
  induction k with
  | zero => rw [noiseS, noiseS, noiseS, ctr_zero, List.nil_append, List.append_nil]
  | succ k ih => rw [noiseS, ih, noiseS, List.append_assoc, ctr_next]
theorem mixS_further (key : List UInt8) (ctr : UInt32) (nonce text : List UInt8) (h : 64 ≤ text.length) : (mixS key ctr nonce text).drop 64 = mixS key (ctr + 1) nonce (text.drop 64) := by
  rw [mixS, show (text.length + 63) / 64 = (text.length - 1) / 64 + 1 by omega, noiseS_next, xorB_append, blockS_length]
  rw [List.drop_left' (by rw [xorB_length, blockS_length]; omega)]
  exact mixS_more _ _ _ _ _ (by rw [List.length_drop]; omega)

/-- The step of one block: what the program adds to its answer. -/
theorem mixS_step (key : List UInt8) (ctr : UInt32) (nonce text : List UInt8) (k : Nat) :
    xorB text (noiseS key ctr nonce (k + 1)) = xorB text (noiseS key ctr nonce k) ++ xorB (text.drop (64 * k)) (blockS key (ctr + UInt32.ofNat k) nonce) := by
  rw [noiseS, xorB_append, noiseS_length]

/-- A word turned left, by numbers. -/
theorem rotl_sum (x : UInt32) (n m : Nat) (hm : m + n = 32) (hn : 1 ≤ n) (hm1 : 1 ≤ m) : (rotl x n).toNat = 2 ^ n * (x.toNat % 2 ^ m) + x.toNat / 2 ^ m := by
  have hx := x.toNat_lt
  have e32 : (4294967296 : Nat) = 2 ^ n * 2 ^ m := by rw [← Nat.pow_add, show n + m = 32 by omega]
  have h1 : x.toNat * 2 ^ n % 4294967296 = 2 ^ n * (x.toNat % 2 ^ m) := by
    rw [e32, Nat.mul_comm x.toNat, Nat.mul_mod_mul_left]
  have h2 : x.toNat / 2 ^ m < 2 ^ n := by
    rw [Nat.div_lt_iff_lt_mul (Nat.pow_pos (by omega)), ← e32]; exact hx
  rw [rotl_toNat, show 32 - n = m by omega, h1, ← Nat.two_pow_add_eq_or_of_lt h2]
theorem rotl_inj (x y : UInt32) (n m : Nat) (hm : m + n = 32) (hn : 1 ≤ n) (hm1 : 1 ≤ m) (h : rotl x n = rotl y n) : x = y := by
  have e : (rotl x n).toNat = (rotl y n).toNat := by rw [h]
  rw [rotl_sum x n m hm hn hm1, rotl_sum y n m hm hn hm1] at e
  have e32 : (4294967296 : Nat) = 2 ^ n * 2 ^ m := by rw [← Nat.pow_add, show n + m = 32 by omega]
  have lt : ∀ z : UInt32, z.toNat / 2 ^ m < 2 ^ n := fun z => by
    rw [Nat.div_lt_iff_lt_mul (Nat.pow_pos (by omega)), ← e32]; exact z.toNat_lt
  have hd : x.toNat / 2 ^ m = y.toNat / 2 ^ m := by
    have := congrArg (· % 2 ^ n) e
    simpa [Nat.mul_add_mod, Nat.mod_eq_of_lt (lt x), Nat.mod_eq_of_lt (lt y)] using this
  have hr : x.toNat % 2 ^ m = y.toNat % 2 ^ m := by
    rw [hd] at e
    exact Nat.eq_of_mul_eq_mul_left (Nat.pow_pos (by omega)) (Nat.add_right_cancel e)
  apply UInt32.toNat_inj.1
  rw [← Nat.div_add_mod x.toNat (2 ^ m), ← Nat.div_add_mod y.toNat (2 ^ m), hd, hr]

theorem getD_set_same (w : List UInt32) (i : Nat) (x : UInt32) (h : i < w.length) : (w.set i x).getD i 0 = x := by
  simp [List.getD_eq_getElem?_getD, h]
theorem getD_set_far (w : List UInt32) (i j : Nat) (x : UInt32) (h : i ≠ j) : (w.set i x).getD j 0 = w.getD j 0 := by
  simp [List.getD_eq_getElem?_getD, List.getElem?_set_ne h]
theorem list_of_getD (v w : List UInt32) (hl : v.length = w.length) (h : ∀ i, i < v.length → v.getD i 0 = w.getD i 0) : v = w := by
  apply List.ext_getElem hl
  intro i h1 h2
  have := h i h1
  simpa [List.getD_eq_getElem?_getD, h1, h2] using this
theorem xor_cancel {a b c : UInt32} (h : a ^^^ c = b ^^^ c) : a = b := by
  have := congrArg (· ^^^ c) h
  simpa [UInt32.xor_assoc] using this
theorem stirW_inj (v w : List UInt32) (s p t n m : Nat) (hm : m + n = 32) (hn : 1 ≤ n) (hm1 : 1 ≤ m) (hv : v.length = 16) (hw : w.length = 16) (hs : s < 16) (ht : t < 16) (h1 : s ≠ p) (h2 : s ≠ t) (h3 : p ≠ t)
    (h : stirW v s p t n = stirW w s p t n) : v = w := by
  have g : ∀ i, (stirW v s p t n).getD i 0 = (stirW w s p t n).getD i 0 := fun i => by rw [h]
  have other : ∀ i, i ≠ s → i ≠ t → v.getD i 0 = w.getD i 0 := fun i hi1 hi2 => by
    have := g i
    unfold stirW at this
    rwa [getD_set_far _ _ _ _ (Ne.symm hi2), getD_set_far _ _ _ _ (Ne.symm hi1), getD_set_far _ _ _ _ (Ne.symm hi2), getD_set_far _ _ _ _ (Ne.symm hi1)] at this
  have hsum : v.getD s 0 + v.getD p 0 = w.getD s 0 + w.getD p 0 := by
    have := g s
    unfold stirW at this
    rwa [getD_set_far _ _ _ _ (Ne.symm h2), getD_set_same _ _ _ (by omega), getD_set_far _ _ _ _ (Ne.symm h2), getD_set_same _ _ _ (by omega)] at this
  have hsv : v.getD s 0 = w.getD s 0 := by
    rw [other p (Ne.symm h1) h3] at hsum
    have := congrArg (· - w.getD p 0) hsum
    simpa using this
  have htv : v.getD t 0 = w.getD t 0 := by
    have := g t
    unfold stirW at this
    have len : ∀ (l : List UInt32) (x : UInt32), l.length = 16 → t < (l.set s x).length := fun l x hl => by rw [List.length_set, hl]; exact ht
    rw [getD_set_same _ t _ (len v _ hv), getD_set_same _ t _ (len w _ hw), getD_set_far _ _ _ _ h2, getD_set_far _ _ _ _ h2, getD_set_same _ _ _ (by omega), getD_set_same _ _ _ (by omega), hsum] at this
    exact xor_cancel (rotl_inj _ _ n m hm hn hm1 this)
  refine list_of_getD v w (by omega) fun i _ => ?_
  by_cases hi1 : i = s
  · rw [hi1, hsv]
  · by_cases hi2 : i = t
    · rw [hi2, htv]
    · exact other i hi1 hi2
theorem quarterW_inj (v w : List UInt32) (a b c d : Nat) (hv : v.length = 16) (hw : w.length = 16) (ha : a < 16) (hb : b < 16) (hc : c < 16) (hd : d < 16) (hab : a ≠ b) (hac : a ≠ c) (had : a ≠ d) (hbc : b ≠ c) (hbd : b ≠ d) (hcd : c ≠ d)
    (h : quarterW v a b c d = quarterW w a b c d) : v = w := by
  unfold quarterW at h
  have h1 := stirW_inj _ _ c d b 7 25 (by omega) (by omega) (by omega) (by simp [stirW_length, hv]) (by simp [stirW_length, hw]) hc hb hcd (Ne.symm hbc) (Ne.symm hbd) h
  have h2 := stirW_inj _ _ a b d 8 24 (by omega) (by omega) (by omega) (by simp [stirW_length, hv]) (by simp [stirW_length, hw]) ha hd hab had hbd h1
  have h3 := stirW_inj _ _ c d b 12 20 (by omega) (by omega) (by omega) (by simp [stirW_length, hv]) (by simp [stirW_length, hw]) hc hb hcd (Ne.symm hbc) (Ne.symm hbd) h2
  exact stirW_inj _ _ a b d 16 16 (by omega) (by omega) (by omega) hv hw ha hd hab had hbd h3
theorem quarterW_iff (v w : List UInt32) (a b c d : Nat) (hv : v.length = 16) (hw : w.length = 16) (ha : a < 16) (hb : b < 16) (hc : c < 16) (hd : d < 16) (hab : a ≠ b) (hac : a ≠ c) (had : a ≠ d) (hbc : b ≠ c) (hbd : b ≠ d) (hcd : c ≠ d) :
    (quarterW v a b c d == quarterW w a b c d) = (v == w) := by
  rw [Bool.eq_iff_iff, beq_iff_eq, beq_iff_eq]
  exact ⟨quarterW_inj v w a b c d hv hw ha hb hc hd hab hac had hbc hbd hcd, fun h => by rw [h]⟩
end Go.Proofs.YtplaoofclgpeeaaDoor
