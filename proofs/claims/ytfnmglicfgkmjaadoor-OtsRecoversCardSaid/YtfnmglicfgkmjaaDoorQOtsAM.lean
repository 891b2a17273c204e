/-
  Texts that belong together, merged: Fast, OtsFast, OtsK. Conditions: as each theorem names them.
-/
import Derived.Test.YtfnmglicfgkmjaaDoorQOtsAA
import Derived.Test.YtfnmglicfgkmjaaDoorQOtsAH
import Derived.Test.YtfnmglicfgkmjaaDoorQOtsAL
import Derived.Test.YtfnmglicfgkmjaaDoorQOtsAI
section
namespace Go.Proofs.YtfnmglicfgkmjaaDoor
namespace Fast
set_option linter.unusedVariables false

/-- n is reckoned first. -/
def force {α : Type} (n : Nat) (f : Nat → α) : α := Nat.rec (motive := fun _ => α) (f 0) (fun m _ => f (m + 1)) n
theorem force_eq {α : Type} (n : Nat) (f : Nat → α) : force n f = f n := by cases n <;> rfl
def turn (x n : Nat) : Nat := Nat.lor (Nat.mod (Nat.mul x (Nat.pow 2 (Nat.sub 32 n))) 4294967296) (Nat.div x (Nat.pow 2 n))
def big (x a b c : Nat) : Nat := Nat.xor (Nat.xor (turn x a) (turn x b)) (turn x c)
def small (x a b c : Nat) : Nat := Nat.xor (Nat.xor (turn x a) (turn x b)) (Nat.div x (Nat.pow 2 c))
def m32 (x : Nat) : Nat := Nat.mod x 4294967296
abbrev F8 (α : Type) : Type := Nat → Nat → Nat → Nat → Nat → Nat → Nat → Nat → α
abbrev F24 (α : Type) : Type := Nat → Nat → Nat → Nat → Nat → Nat → Nat → Nat → Nat → Nat → Nat → Nat → Nat → Nat → Nat → Nat → Nat → Nat → Nat → Nat → Nat → Nat → Nat → Nat → α
def stepN {α : Type} (k : Nat) (ih : F24 α) (a b c d e f g h w0 w1 w2 w3 w4 w5 w6 w7 w8 w9 w10 w11 w12 w13 w14 w15 : Nat) : α :=
   force (m32 (Nat.add (Nat.add (Nat.add (Nat.add h (big e 6 11 25)) (Nat.xor (Nat.land e f) (Nat.land (Nat.sub 4294967295 e) g))) k) w0)) fun t =>
   force (m32 (Nat.add d t)) fun e' =>
   force (m32 (Nat.add t (Nat.add (big a 2 13 22) (Nat.xor (Nat.xor (Nat.land a b) (Nat.land a c)) (Nat.land b c))))) fun a' =>
   force (m32 (Nat.add (Nat.add (Nat.add w0 (small w1 7 18 3)) w9) (small w14 17 19 10))) fun w16 =>
   ih a' a b c e' e f g w1 w2 w3 w4 w5 w6 w7 w8 w9 w10 w11 w12 w13 w14 w15 w16
noncomputable def roundsN {α : Type} (K : F8 α) (cs : List Nat) : F24 α :=
  List.rec (motive := fun _ => F24 α) (fun a b c d e f g h _ _ _ _ _ _ _ _ _ _ _ _ _ _ _ _ => K a b c d e f g h) (fun k _ ih => stepN k ih) cs
def cubesN : List Nat := [0x428a2f98, 0x71374491, 0xb5c0fbcf, 0xe9b5dba5, 0x3956c25b, 0x59f111f1, 0x923f82a4, 0xab1c5ed5,
  0xd807aa98, 0x12835b01, 0x243185be, 0x550c7dc3, 0x72be5d74, 0x80deb1fe, 0x9bdc06a7, 0xc19bf174,
  0xe49b69c1, 0xefbe4786, 0x0fc19dc6, 0x240ca1cc, 0x2de92c6f, 0x4a7484aa, 0x5cb0a9dc, 0x76f988da,
  0x983e5152, 0xa831c66d, 0xb00327c8, 0xbf597fc7, 0xc6e00bf3, 0xd5a79147, 0x06ca6351, 0x14292967,
  0x27b70a85, 0x2e1b2138, 0x4d2c6dfc, 0x53380d13, 0x650a7354, 0x766a0abb, 0x81c2c92e, 0x92722c85,
  0xa2bfe8a1, 0xa81a664b, 0xc24b8b70, 0xc76c51a3, 0xd192e819, 0xd6990624, 0xf40e3585, 0x106aa070,
  0x19a4c116, 0x1e376c08, 0x2748774c, 0x34b0bcb5, 0x391c0cb3, 0x4ed8aa4a, 0x5b9cca4f, 0x682e6ff3,
  0x748f82ee, 0x78a5636f, 0x84c87814, 0x8cc70208, 0x90befffa, 0xa4506ceb, 0xbef9a3f7, 0xc67178f2]
noncomputable def compN {α : Type} (a b c d e f g h : Nat) (ws : List Nat) (K : F8 α) : α :=
  roundsN (fun a' b' c' d' e' f' g' h' => force (m32 (Nat.add a a')) fun a => force (m32 (Nat.add b b')) fun b => force (m32 (Nat.add c c')) fun c => force (m32 (Nat.add d d')) fun d => force (m32 (Nat.add e e')) fun e => force (m32 (Nat.add f f')) fun f => force (m32 (Nat.add g g')) fun g => force (m32 (Nat.add h h')) fun h => K a b c d e f g h)
   cubesN a b c d e f g h (ws.getD 0 0) (ws.getD 1 0) (ws.getD 2 0) (ws.getD 3 0) (ws.getD 4 0) (ws.getD 5 0) (ws.getD 6 0) (ws.getD 7 0) (ws.getD 8 0) (ws.getD 9 0) (ws.getD 10 0) (ws.getD 11 0) (ws.getD 12 0) (ws.getD 13 0) (ws.getD 14 0) (ws.getD 15 0)
/-- n blocks. -/
noncomputable def foldN {α : Type} : Nat → List Nat → F8 α → F8 α
  | 0, _, K, a, b, c, d, e, f, g, h => K a b c d e f g h
  | n + 1, ws, K, a, b, c, d, e, f, g, h => compN a b c d e f g h ws (foldN n (ws.drop 16) K)

/-! What it is. -/
theorem turn_eq (x : UInt32) (n : Nat) : turn x.toNat n = (rotr x n).toNat := (rotr_toNat x n).symm
theorem big_eq (x : UInt32) (a b c : Nat) : big x.toNat a b c = (bigS x a b c).toNat := by
  unfold big bigS
  rw [turn_eq, turn_eq, turn_eq, UInt32.toNat_xor, UInt32.toNat_xor]
  rfl
theorem small_eq (x : UInt32) (a b c : Nat) : small x.toNat a b c = (smallS x a b c).toNat := by
  unfold small smallS
  rw [turn_eq, turn_eq, UInt32.toNat_xor, UInt32.toNat_xor, movr_toNat]
  rfl
theorem m32_add (a b : UInt32) : m32 (Nat.add a.toNat b.toNat) = (a + b).toNat := (UInt32.toNat_add a b).symm
theorem m32_l (a b : Nat) : m32 (Nat.add a b) = m32 (Nat.add (m32 a) b) := (Nat.mod_add_mod a 4294967296 b).symm
theorem m32_r (a b : Nat) : m32 (Nat.add a b) = m32 (Nat.add a (m32 b)) := (Nat.add_mod_mod a b 4294967296).symm
theorem not_eq (x : UInt32) : Nat.sub 4294967295 x.toNat = (4294967295 - x).toNat := by
  rw [UInt32.toNat_sub_of_le _ _ (by rw [UInt32.le_iff_toNat_le]; have := x.toNat_lt; simp; omega)]
  rfl
theorem one_eq (s : Eight8) (k w : UInt32) : m32 (Nat.add (Nat.add (Nat.add (Nat.add s.h.toNat (big s.e.toNat 6 11 25)) (Nat.xor (Nat.land s.e.toNat s.f.toNat) (Nat.land (Nat.sub 4294967295 s.e.toNat) s.g.toNat))) k.toNat) w.toNat) = (tOne s k w).toNat := by
  rw [big_eq, not_eq, show Nat.xor (Nat.land s.e.toNat s.f.toNat) (Nat.land (4294967295 - s.e).toNat s.g.toNat) = ((s.e &&& s.f) ^^^ ((4294967295 - s.e) &&& s.g)).toNat by rw [UInt32.toNat_xor, UInt32.toNat_and, UInt32.toNat_and]; rfl]
  rw [m32_l, m32_l (Nat.add (Nat.add s.h.toNat _) _), m32_l (Nat.add s.h.toNat _), m32_add, m32_add, m32_add, m32_add]
  rfl
theorem two_eq (s : Eight8) (k w : UInt32) : m32 (Nat.add (tOne s k w).toNat (Nat.add (big s.a.toNat 2 13 22) (Nat.xor (Nat.xor (Nat.land s.a.toNat s.b.toNat) (Nat.land s.a.toNat s.c.toNat)) (Nat.land s.b.toNat s.c.toNat)))) = (tOne s k w + tTwo s).toNat := by
  rw [big_eq, show Nat.xor (Nat.xor (Nat.land s.a.toNat s.b.toNat) (Nat.land s.a.toNat s.c.toNat)) (Nat.land s.b.toNat s.c.toNat) = ((s.a &&& s.b) ^^^ (s.a &&& s.c) ^^^ (s.b &&& s.c)).toNat by rw [UInt32.toNat_xor, UInt32.toNat_xor, UInt32.toNat_and, UInt32.toNat_and, UInt32.toNat_and]; rfl]
  rw [m32_r, m32_add, m32_add]
  rfl
theorem next_eq (a b c d : UInt32) : m32 (Nat.add (Nat.add (Nat.add a.toNat (small b.toNat 7 18 3)) c.toNat) (small d.toNat 17 19 10)) = (a + smallS b 7 18 3 + c + smallS d 17 19 10).toNat := by
  rw [small_eq, small_eq, m32_l, m32_l (Nat.add a.toNat _), m32_add, m32_add, m32_add]

/-- The words of a block, however many. -/
def wAt (block : List UInt8) (i : Nat) : UInt32 := (wordsTo block (i + 1)).getD i 0
theorem words_at (block : List UInt8) (n i : Nat) (h : i < n) : (wordsTo block n).getD i 0 = wAt block i := by
  induction n with
  | zero => omega
  | succ n ih =>
    by_cases e : i = n
    · rw [e]; rfl
    · have hl := wordsTo_length block n
      rw [wordsTo, List.getD_eq_getElem?_getD, List.getElem?_append_left (by omega), ← List.getD_eq_getElem?_getD, ih (by omega)]
theorem wAt_low (block : List UInt8) (i : Nat) (h : i < 16) : wAt block i = wordOf block i := by
  have hl := wordsTo_length block i
  unfold wAt
  rw [wordsTo, if_pos h, List.getD_eq_getElem?_getD, List.getElem?_append_right (by omega), hl, Nat.sub_self]
  rfl
theorem wAt_next (block : List UInt8) (i : Nat) : wAt block (i + 16) = wAt block i + smallS (wAt block (i + 1)) 7 18 3 + wAt block (i + 9) + smallS (wAt block (i + 14)) 17 19 10 := by
  have hl := wordsTo_length block (i + 16)
  rw [wAt, wordsTo, if_neg (by omega), List.getD_eq_getElem?_getD, List.getElem?_append_right (by omega), hl, Nat.sub_self]
  show nextW (wordsTo block (i + 16)) (i + 16) = _
  unfold nextW
  rw [show i + 16 - 16 = i by omega, show i + 16 - 15 = i + 1 by omega, show i + 16 - 7 = i + 9 by omega, show i + 16 - 2 = i + 14 by omega, words_at _ _ _ (by omega), words_at _ _ _ (by omega), words_at _ _ _ (by omega), words_at _ _ _ (by omega)]
/-- Rounds from i on. -/
def runF {σ κ : Type} (f : σ → κ → κ → σ) (w : Nat → κ) : Nat → List κ → σ → σ
  | _, [], s => s
  | i, k :: cs, s => runF f w (i + 1) cs (f s k (w i))
theorem roundsN_spec {α : Type} (K : F8 α) (w : Nat → UInt32) (hw : ∀ i, w (i + 16) = w i + smallS (w (i + 1)) 7 18 3 + w (i + 9) + smallS (w (i + 14)) 17 19 10) (cs : List UInt32) : ∀ (i : Nat) (s : Eight8),
    roundsN K (cs.map UInt32.toNat) s.a.toNat s.b.toNat s.c.toNat s.d.toNat s.e.toNat s.f.toNat s.g.toNat s.h.toNat (w i).toNat (w (i + 1)).toNat (w (i + 2)).toNat (w (i + 3)).toNat (w (i + 4)).toNat (w (i + 5)).toNat (w (i + 6)).toNat (w (i + 7)).toNat (w (i + 8)).toNat (w (i + 9)).toNat (w (i + 10)).toNat (w (i + 11)).toNat (w (i + 12)).toNat (w (i + 13)).toNat (w (i + 14)).toNat (w (i + 15)).toNat
      = (fun r : Eight8 => K r.a.toNat r.b.toNat r.c.toNat r.d.toNat r.e.toNat r.f.toNat r.g.toNat r.h.toNat) (runF stepE w i cs s) := by
  induction cs with
  | nil => intro i s; rfl
  | cons k cs ih =>
    intro i s
    obtain ⟨s', hs⟩ : ∃ s', s' = stepE s k (w i) := ⟨_, rfl⟩
    have h := ih (i + 1) s'
    simp only [Nat.add_assoc, Nat.reduceAdd] at h
    have ha : s'.a = tOne s k (w i) + tTwo s := by rw [hs, stepE]
    have hb : s'.b = s.a := by rw [hs, stepE]
    have hc : s'.c = s.b := by rw [hs, stepE]
    have hd : s'.d = s.c := by rw [hs, stepE]
    have he : s'.e = s.d + tOne s k (w i) := by rw [hs, stepE]
    have hf : s'.f = s.e := by rw [hs, stepE]
    have hg : s'.g = s.f := by rw [hs, stepE]
    have hh : s'.h = s.g := by rw [hs, stepE]
    rw [ha, hb, hc, hd, he, hf, hg, hh] at h
    show stepN k.toNat (roundsN K (cs.map UInt32.toNat)) _ _ _ _ _ _ _ _ _ _ _ _ _ _ _ _ _ _ _ _ _ _ _ _ = _
    unfold stepN
    rw [force_eq, force_eq, force_eq, force_eq, one_eq, two_eq, next_eq, m32_add, ← hw]
    rw [runF, ← hs]
    exact h
theorem runE_rounds (w : Nat → UInt32) (W : List UInt32) (hw : ∀ i, i < 64 → W.getD i 0 = w i) (cs : List UInt32) (s : Eight8) : ∀ i, (∀ j, j < cs.length → cs[j]? = cubesW[i + j]?) → i + cs.length ≤ 64 → runF stepE w i cs (roundsE W s i) = roundsE W s (i + cs.length) := by
  induction cs with
  | nil => intro i _ _; rfl
  | cons k cs ih =>
    intro i hc hl
    simp only [List.length_cons] at hl hc
    have h0 := hc 0 (by omega)
    have hk : cubesW.getD i 0 = k := by
      rw [List.getD_eq_getElem?_getD, ← Nat.add_zero i, ← h0]
      rfl
    have e : roundsE W s (i + 1) = stepE (roundsE W s i) k (w i) := by
      rw [roundsE, hk, hw i (by omega)]
    rw [runF, ← e, ih (i + 1) (fun j hj => by have := hc (j + 1) (by omega); rw [show i + 1 + j = i + (j + 1) by omega, ← this]; rfl) (by omega)]
    congr 1
    simp only [List.length_cons]
    omega
def at8 {α : Type} (K : F8 α) (l : List UInt32) : α := K (l.getD 0 0).toNat (l.getD 1 0).toNat (l.getD 2 0).toNat (l.getD 3 0).toNat (l.getD 4 0).toNat (l.getD 5 0).toNat (l.getD 6 0).toNat (l.getD 7 0).toNat
theorem eight_of (st : List UInt32) (h : st.length = 8) : ∃ a b c d e f g i, st = [a, b, c, d, e, f, g, i] := by
  match st, h with
  | [a, b, c, d, e, f, g, i], _ => exact ⟨a, b, c, d, e, f, g, i, rfl⟩
theorem cubesN_eq : cubesN = cubesW.map UInt32.toNat := by decide
theorem compN_spec {α : Type} (K : F8 α) (st : List UInt32) (hst : st.length = 8) (block : List UInt8) (ws : List Nat) (hw : ∀ i, i < 16 → ws.getD i 0 = (wordOf block i).toNat) :
    compN (st.getD 0 0).toNat (st.getD 1 0).toNat (st.getD 2 0).toNat (st.getD 3 0).toNat (st.getD 4 0).toNat (st.getD 5 0).toNat (st.getD 6 0).toNat (st.getD 7 0).toNat ws K = at8 K (blockW st block) := by
  unfold compN
  rw [hw 0 (by omega), hw 1 (by omega), hw 2 (by omega), hw 3 (by omega), hw 4 (by omega), hw 5 (by omega), hw 6 (by omega), hw 7 (by omega), hw 8 (by omega), hw 9 (by omega), hw 10 (by omega), hw 11 (by omega), hw 12 (by omega), hw 13 (by omega), hw 14 (by omega), hw 15 (by omega)]
  rw [← wAt_low block 0 (by omega), ← wAt_low block 1 (by omega), ← wAt_low block 2 (by omega), ← wAt_low block 3 (by omega), ← wAt_low block 4 (by omega), ← wAt_low block 5 (by omega), ← wAt_low block 6 (by omega), ← wAt_low block 7 (by omega), ← wAt_low block 8 (by omega), ← wAt_low block 9 (by omega), ← wAt_low block 10 (by omega), ← wAt_low block 11 (by omega), ← wAt_low block 12 (by omega), ← wAt_low block 13 (by omega), ← wAt_low block 14 (by omega), ← wAt_low block 15 (by omega)]
  rw [cubesN_eq]
  have hr := runE_rounds (wAt block) (wordsTo block 64) (fun i hi => words_at block 64 i hi) cubesW (toE st) 0 (fun j _ => by rw [Nat.zero_add]) (by rw [cubesW_length]; omega)
  have hq := fun K => roundsN_spec (α := α) K (wAt block) (wAt_next block) cubesW 0 (toE st)
  generalize cubesW.map UInt32.toNat = cN at hq ⊢
  rw [cubesW_length, Nat.zero_add] at hr
  rw [show roundsE (wordsTo block 64) (toE st) 0 = toE st from rfl] at hr
  rw [hr] at hq
  refine (hq _).trans ?_
  unfold blockW at8
  generalize roundsE (wordsTo block 64) (toE st) 64 = r
  clear hr hq
  obtain ⟨a, b, c, d, e, f, g, h, rfl⟩ := eight_of st hst
  simp only [force_eq, List.getD_cons_zero, List.getD_cons_succ, m32_add, ofE, List.zipWith_cons_cons]
/-- Words as bytes, a word of them. -/
theorem bytesOfW_cons (x : UInt32) (l : List UInt32) : bytesOfW (x :: l) = (lowB x.toNat 4).reverse ++ bytesOfW l := rfl
theorem bytesOfW_append (a b : List UInt32) : bytesOfW (a ++ b) = bytesOfW a ++ bytesOfW b := by simp [bytesOfW]
theorem bytesOfW_drop (l : List UInt32) : ∀ i, (bytesOfW l).drop (4 * i) = bytesOfW (l.drop i) := by
  induction l with
  | nil => intro i; simp [bytesOfW]
  | cons x l ih =>
    intro i
    cases i with
    | zero => rfl
    | succ i =>
      rw [bytesOfW_cons, List.drop_append, List.drop_eq_nil_of_le (by simp only [List.length_reverse, lowB_length]; omega), List.nil_append, List.drop_succ_cons, ← ih i]
      rw [show 4 * (i + 1) - (lowB x.toNat 4).reverse.length = 4 * i by rw [List.length_reverse, lowB_length]; omega]
theorem bytesOfW_take (l : List UInt32) : ∀ i, (bytesOfW l).take (4 * i) = bytesOfW (l.take i) := by
  induction l with
  | nil => intro i; simp [bytesOfW]
  | cons x l ih =>
    intro i
    cases i with
    | zero => rfl
    | succ i =>
      rw [bytesOfW_cons, List.take_append, List.take_of_length_le (by simp only [List.length_reverse, lowB_length]; omega), List.take_succ_cons, bytesOfW_cons, ← ih i]
      rw [show 4 * (i + 1) - (lowB x.toNat 4).reverse.length = 4 * i by rw [List.length_reverse, lowB_length]; omega]
theorem word_at (l : List UInt32) (i : Nat) (h : i < l.length) : wordOf (bytesOfW l) i = l.getD i 0 := by
  unfold wordOf
  rw [bytesOfW_drop, List.drop_eq_getElem_cons h, bytesOfW_cons, List.take_append, List.take_of_length_le (by simp [lowB_length]), show 4 - (lowB l[i].toNat 4).reverse.length = 0 by simp [lowB_length], List.take_zero, List.append_nil, ofHighB, List.reverse_reverse, ofLowB_lowB, List.getD_eq_getElem?_getD, List.getElem?_eq_getElem h]
  apply UInt32.toNat_inj.1
  rw [UInt32.toNat_ofNat']
  have := l[i].toNat_lt
  simp only [Option.getD_some]
  omega
theorem foldB_left (st : List UInt32) (all : List UInt8) : ∀ k, foldB st all (k + 1) = foldB (blockW st (all.take 64)) (all.drop 64) k := by
  intro k
  induction k with
  | zero => rfl
  | succ k ih =>
    rw [foldB, ih, foldB, List.drop_drop]
    congr 3
    omega
theorem foldN_spec {α : Type} (K : F8 α) : ∀ (n : Nat) (ws : List UInt32) (st : List UInt32), st.length = 8 → ws.length = 16 * n →
    foldN n (ws.map UInt32.toNat) K (st.getD 0 0).toNat (st.getD 1 0).toNat (st.getD 2 0).toNat (st.getD 3 0).toNat (st.getD 4 0).toNat (st.getD 5 0).toNat (st.getD 6 0).toNat (st.getD 7 0).toNat = at8 K (foldB st (bytesOfW ws) n) := by
  intro n
  induction n with
  | zero => intro ws st _ _; rfl
  | succ n ih =>
    intro ws st hst hw
    have ht : (bytesOfW ws).take 64 = bytesOfW (ws.take 16) := bytesOfW_take ws 16
    have hd : (bytesOfW ws).drop 64 = bytesOfW (ws.drop 16) := bytesOfW_drop ws 16
    rw [foldN, foldB_left, ht, hd, compN_spec _ st hst (bytesOfW (ws.take 16))]
    · unfold at8
      rw [← List.map_drop]
      exact ih (ws.drop 16) (blockW st (bytesOfW (ws.take 16))) (blockW_length _ _ hst) (by rw [List.length_drop]; omega)
    · intro i hi
      rw [word_at _ _ (by rw [List.length_take]; omega), List.getD_eq_getElem?_getD, List.getD_eq_getElem?_getD, List.getElem?_map, List.getElem?_take, if_pos hi, List.getElem?_eq_getElem (by omega)]
      rfl
/-- A digest whose padded bytes are words. -/
theorem digest_words (b : List UInt8) (ws : List UInt32) (n : Nat) (h : paddedB b = bytesOfW ws) (hw : ws.length = 16 * n) : digestB b = bytesOfW (foldB squaresW (bytesOfW ws) n) := by
  unfold digestB
  rw [h, bytesOfW_length, hw, show 4 * (16 * n) / 64 = n by omega]
end Fast
end Go.Proofs.YtfnmglicfgkmjaaDoor
end
section
namespace Go.Proofs.YtfnmglicfgkmjaaDoor
open Fast
set_option linter.unusedVariables false
set_option maxRecDepth 100000

def endsT : List (List Nat) := [
  [2010145271, 695257965, 1945725658, 3141492564, 472087481, 1952441465, 2366337467, 1176790243],
  [2712926099, 1732782552, 2900185096, 2331496812, 1965098608, 3249467368, 656118633, 2004012628],
  [1473784957, 2855014296, 302038370, 2897206741, 1684702499, 3614706400, 1950010450, 3953563839],
  [60053252, 3317442181, 3865598092, 1707505778, 3122993801, 2208029601, 462819208, 2383023946],
  [2693473099, 3942269023, 713211462, 948271602, 516066211, 1669275588, 1774577140, 1610532070],
  [690148100, 1254807232, 1828293290, 206091218, 2868591699, 345645056, 3451372786, 105739866],
  [2041331353, 4077592999, 2560964289, 3752347950, 2512912795, 1190809171, 2058842078, 3671258227],
  [484901927, 116053426, 154253771, 3760453873, 3996245311, 1557220099, 75852193, 2686121835],
  [2623197064, 2678045270, 1105950249, 3952512160, 3756556403, 4255800697, 1279926052, 256364290],
  [3638799718, 1694550870, 2560350300, 3832230498, 3290811732, 2664814443, 944706473, 3613382220],
  [643848991, 2627879439, 814741712, 3496371602, 2309399089, 3183327161, 2489275572, 3444803388],
  [909118384, 145398482, 1841536786, 800309369, 1408267252, 3694323104, 2094108254, 83566056],
  [273053120, 1361515295, 1689609693, 146611003, 2429017866, 2084942836, 2452113293, 699719820],
  [4195112250, 19131277, 1822186845, 2483114930, 3483290991, 2249557738, 153975751, 3375994773],
  [3652112262, 1219201372, 4285271407, 3754865508, 1510235312, 485459563, 1519838240, 2663601792],
  [418444722, 1275362078, 1306221666, 967130384, 503220113, 1888452817, 944514985, 1854124663],
  [1707066626, 3637047053, 2221317353, 2284226318, 4186629912, 1558491903, 4101428262, 1186942655],
  [944400830, 2092210371, 3172194672, 1233030654, 4163657942, 4160293388, 2494860487, 4009672559],
  [774308224, 3214817859, 1427713602, 1504471517, 2589393097, 369031167, 4269523085, 2691278000],
  [3681322140, 2287947156, 455909355, 225791060, 126700235, 3262781671, 1727211008, 836289628],
  [2462278098, 2705646990, 1500698108, 3278622223, 2621992413, 3001065914, 2599128147, 818808116],
  [789888736, 2988093185, 2333373183, 2592908944, 1210294585, 3162813244, 2119229772, 2584179118],
  [2893631073, 1460535523, 1537506559, 148808647, 1311505091, 3179099224, 281794385, 2511518309],
  [195983887, 4103792196, 1608746648, 2705023543, 1165836633, 315400083, 864975680, 3894841394],
  [1691125252, 3695644922, 3061546011, 2478450081, 4049922412, 4122014543, 3120955950, 1847189241],
  [3428930816, 53654099, 3415054545, 3722977715, 213611159, 3462321242, 2297028639, 3318216459],
  [3939735383, 2567258926, 41810090, 228746362, 356415733, 2735198328, 1795383503, 492462605],
  [3086387557, 3720958141, 86254813, 189868499, 2155236592, 2132652225, 1853894514, 3520881051],
  [1025962636, 1820118949, 1928716645, 3100083515, 2450329415, 2393028125, 2806725513, 3496694107],
  [798055632, 3400962503, 633850782, 2734385837, 1650078040, 3880927407, 686343190, 1301167823],
  [727316324, 3941849152, 2826611541, 3434165564, 3704446609, 4090770129, 4034424205, 963468111],
  [4225807800, 4172305486, 543232102, 1999298270, 1183047837, 2610011558, 650647340, 1299194662],
  [475600986, 2329925441, 3732957787, 2761323633, 3694385816, 585973465, 3925101686, 2247369928],
  [255367928, 160201839, 551078777, 4197137433, 3770752917, 218633304, 897243044, 1104310774],
  [2998129836, 1049466498, 550378699, 3706556118, 36916652, 1319215963, 3504096546, 1456433765],
  [1300950779, 2411422579, 4079551709, 711607590, 3422429382, 2459941544, 2558665381, 1036342184],
  [3587097105, 3603613270, 1561925227, 1604799642, 1745050808, 1233531920, 661087119, 4232818963],
  [2482510763, 433781521, 3575314239, 282916613, 3948695390, 3835417499, 1787405496, 3168332361],
  [737135452, 4111676876, 460834317, 137176368, 1875826468, 1340137746, 618943950, 1536372623],
  [2857754919, 2601643563, 3501433870, 613303028, 4130448930, 3721803181, 2417033331, 894699067],
  [3249522792, 2699216565, 510307963, 3335988288, 1331170464, 3525934845, 2476444187, 520944767],
  [2433594780, 741191046, 1611088766, 2002154924, 2672109143, 1002731088, 1524519767, 2495161117],
  [2406477440, 1680798459, 384254852, 708566789, 3163239949, 48173922, 370399619, 640512618],
  [3882875408, 2438405525, 2868044620, 1225273985, 395466911, 4280692797, 421401091, 1649964824],
  [3220902480, 1871823327, 1047236504, 3390982469, 1198979770, 3695739338, 1894708828, 2869318103],
  [429800478, 3620608355, 1237652326, 2947405120, 751562285, 766329059, 3234683864, 4192134177],
  [3428907697, 4275213370, 3569460447, 1411952172, 783537447, 2547772188, 366034714, 2973170397],
  [2976373999, 2689082987, 2907496433, 1096052552, 3886628073, 2830483095, 1198556023, 2390970234],
  [3115663607, 2841304234, 3254713399, 1641845465, 596316544, 3994057822, 2918214889, 47178326],
  [641759479, 674614548, 4127487797, 460291320, 2691581014, 672778017, 1430576439, 3645709272],
  [3781765936, 1001511766, 1023636977, 1063208752, 3268473536, 871977620, 153912015, 1699232635],
  [1916761933, 1833258647, 1117344296, 791148224, 3347857021, 1690431999, 608368745, 2176101061],
  [1359578395, 1867285069, 3763249946, 2955363099, 2554072924, 3031939336, 602678004, 667120501],
  [116663858, 961441515, 283091123, 2156906237, 2129769375, 2223737748, 1582059573, 1452731799],
  [59655723, 528156394, 506517681, 1132872641, 2953543374, 226961549, 4126145300, 4011518576],
  [2002264015, 2631203210, 1720318813, 1727697627, 3322118041, 889737646, 1386597891, 260642859],
  [3822457646, 253750984, 1604366574, 3760138176, 3763344537, 897390492, 1642079899, 3813758300],
  [3690383233, 1841648402, 4065175680, 3974508818, 3087789275, 107805671, 1688361665, 3596643718],
  [3123296292, 1919778417, 3811366138, 1009971203, 1513100378, 1591728277, 190717052, 544329395],
  [1526548107, 27010020, 652777989, 1094515510, 1054672499, 103857874, 35476824, 3348461778],
  [1095258695, 1866421861, 1532261370, 3704007947, 2247749425, 2739353862, 2322133921, 15222459],
  [3832978006, 4083451262, 2153325825, 2225604838, 1079400728, 2501528748, 1199784020, 3335356512],
  [3789038021, 2928461291, 4131246982, 1095290434, 1928974168, 2633719891, 874152456, 1940814327],
  [3870535202, 3726564463, 3531426338, 2550261649, 1773190313, 3519704783, 1463749354, 3391882712],
  [4289579439, 3424132566, 4163932234, 3546992186, 2673073590, 3272468094, 966405081, 1699550814],
  [2961817409, 1793015308, 560827871, 2350597514, 1424502775, 3785381708, 2678756569, 2829702924],
  [3970364124, 1919435400, 4066480570, 1677368379, 1630346558, 962864950, 925485248, 1905299331]]
def e1T : List Nat := [186687157, 2983951972, 148594915, 1531211200, 3344979569, 2079867423, 3759194146, 1678497591]
def e66T : List Nat := [1177298385, 2859332371, 2037719042, 2034343237, 2617544730, 2659482241, 2631922497, 1312201439]
def pubT : List Nat := [50753496, 2871926664, 2152777483, 2223670644, 191238365, 1208192534, 2926461965, 912914528]
def notT : List Nat := [2474183112, 604660342, 782408548, 3490569691, 4089117278, 3336684406, 672053285, 2241729878]

def tag2W : List UInt32 := [33554432, 0, 0, 0, 0, 0, 0, 0]
def tag2N : List Nat := [33554432, 0, 0, 0, 0, 0, 0, 0]
def seed1K : List UInt8 := 1 :: List.replicate 31 0
def tag2K : List UInt8 := 2 :: List.replicate 31 0
def dig3K : List UInt8 := 3 :: List.replicate 31 0
def dig4K : List UInt8 := 4 :: List.replicate 31 0
def padW : List UInt32 := [2147483648, 0, 0, 0, 0, 0, 0, 0, 0, 0, 0, 0, 0, 0, 544]
def padN : List Nat := [2147483648, 0, 0, 0, 0, 0, 0, 0, 0, 0, 0, 0, 0, 0, 544]
/-- Are the eight words these? -/
def eqF (l : List Nat) : F8 Bool := fun a b c d e f g h => (((((((Nat.beq a (l.getD 0 0)).and (Nat.beq b (l.getD 1 0))).and (Nat.beq c (l.getD 2 0))).and (Nat.beq d (l.getD 3 0))).and (Nat.beq e (l.getD 4 0))).and (Nat.beq f (l.getD 5 0))).and (Nat.beq g (l.getD 6 0))).and (Nat.beq h (l.getD 7 0))
noncomputable def initF (K : F8 Bool → Bool) : F8 Bool → Bool := K
/-- From the first words on. -/
noncomputable def firstF (n : Nat) (ws : List Nat) (K : F8 Bool) : Bool := foldN n ws K 0x6a09e667 0xbb67ae85 0x3c6ef372 0xa54ff53a 0x510e527f 0x9b05688c 0x1f83d9ab 0x5be0cd19
noncomputable def alongF : Nat → Nat → F8 Bool → F8 Bool
  | 0, _, K => K
  | n + 1, x, K => fun a b c d e f g h => firstF 2 (tag2N ++ [x, a, b, c, d, e, f, g, h, 2147483648, 0, 0, 0, 0, 0, 0, 0, 0, 0, 0, 0, 0, 0, 544]) (alongF n (x + 1) K)
def innerN : List Nat := [926299702, 909522486, 909522486, 909522486, 909522486, 909522486, 909522486, 909522486, 909522486, 909522486, 909522486, 909522486, 909522486, 909522486, 909522486, 909522486]
def outerN : List Nat := [1566334044, 1549556828, 1549556828, 1549556828, 1549556828, 1549556828, 1549556828, 1549556828, 1549556828, 1549556828, 1549556828, 1549556828, 1549556828, 1549556828, 1549556828, 1549556828]
noncomputable def beginF (c : Nat) (K : F8 Bool) : Bool :=
  firstF 2 (innerN ++ [90400865, 1768816640, 131072 + c, 25165824, 0, 0, 0, 0, 0, 0, 0, 0, 0, 0, 0, 616]) fun a b c d e f g h => firstF 2 (outerN ++ [a, b, c, d, e, f, g, h, 2147483648, 0, 0, 0, 0, 0, 0, 768]) K

theorem firstF_spec (K : F8 Bool) (n : Nat) (ws : List UInt32) (h : ws.length = 16 * n) : firstF n (ws.map UInt32.toNat) K = at8 K (foldB squaresW (bytesOfW ws) n) :=
  foldN_spec K n ws squaresW squaresW_length h
theorem eqF_spec (l : List Nat) (hl : l.length = 8) (st : List UInt32) (hs : st.length = 8) (h : at8 (eqF l) st = true) : st = l.map UInt32.ofNat := by
  obtain ⟨a, b, c, d, e, f, g, i, rfl⟩ := eight_of st hs
  match l, hl with
  | [p, q, r, s, t, u, v, w], _ =>
    simp only [at8, eqF, List.getD_cons_zero, List.getD_cons_succ, Bool.and_eq_true] at h
    obtain ⟨⟨⟨⟨⟨⟨⟨h0, h1⟩, h2⟩, h3⟩, h4⟩, h5⟩, h6⟩, h7⟩ := h
    rw [← Nat.eq_of_beq_eq_true h0, ← Nat.eq_of_beq_eq_true h1, ← Nat.eq_of_beq_eq_true h2, ← Nat.eq_of_beq_eq_true h3, ← Nat.eq_of_beq_eq_true h4, ← Nat.eq_of_beq_eq_true h5, ← Nat.eq_of_beq_eq_true h6, ← Nat.eq_of_beq_eq_true h7]
    simp only [List.map_cons, List.map_nil, UInt32.ofNat_toNat]
theorem foldS_length (all : List UInt8) (k : Nat) : (foldB squaresW all k).length = 8 := foldB_length _ _ _ squaresW_length
theorem tag2_words : tag2K = bytesOfW tag2W := by decide +kernel
theorem padW_bytes : padB 68 = bytesOfW padW := by decide +kernel
theorem num_words : ∀ c, c < 67 → ∀ i, i < 16 → numB ((c : Nat) : Int) ++ numB ((i : Nat) : Int) = bytesOfW [UInt32.ofNat (c * 65536 + i)] := by decide +kernel
def stepW (x : Nat) (vs : List UInt32) : List UInt32 := foldB squaresW (bytesOfW (tag2W ++ UInt32.ofNat x :: (vs ++ padW))) 2
theorem stepW_len (x : Nat) (vs : List UInt32) : (stepW x vs).length = 8 := foldS_length _ _
theorem step_words (c i : Nat) (hc : c < 67) (hi : i < 16) (vs : List UInt32) (hv : vs.length = 8) : digestB (tag2K ++ numB c ++ numB i ++ bytesOfW vs) = bytesOfW (stepW (c * 65536 + i) vs) := by
  refine digest_words _ _ 2 ?_ (by simp [hv, tag2W, padW])
  unfold paddedB
  rw [show (tag2K ++ numB c ++ numB i ++ bytesOfW vs).length = 68 by simp only [List.length_append, numB_length, bytesOfW_length, hv]; rfl, padW_bytes, List.append_assoc tag2K, num_words c hc i hi, tag2_words, ← bytesOfW_append, ← bytesOfW_append, ← bytesOfW_append]
  congr 1
theorem alongF_spec (c : Nat) (hc : c < 67) : ∀ (n i : Nat) (vs : List UInt32) (K : F8 Bool), i + n ≤ 16 → vs.length = 8 →
    ∃ us, us.length = 8 ∧ alongB tag2K c i (bytesOfW vs) n = bytesOfW us ∧ at8 (alongF n (c * 65536 + i) K) vs = at8 K us := by
  intro n
  induction n with
  | zero => intro i vs K _ hv; exact ⟨vs, hv, rfl, rfl⟩
  | succ n ih =>
    intro i vs K hi hv
    obtain ⟨us, h1, h2, h3⟩ := ih (i + 1) (stepW (c * 65536 + i) vs) K (by omega) (stepW_len _ _)
    refine ⟨us, h1, ?_, ?_⟩
    · rw [alongB_left, step_words c i hc (by omega) vs hv, ← h2]
      rfl
    · rw [← h3]
      have hx : (UInt32.ofNat (c * 65536 + i)).toNat = c * 65536 + i := by rw [UInt32.toNat_ofNat']; omega
      have hf := firstF_spec (alongF n (c * 65536 + i + 1) K) 2 (tag2W ++ UInt32.ofNat (c * 65536 + i) :: (vs ++ padW)) (by simp [hv, tag2W, padW])
      rw [show c * 65536 + (i + 1) = c * 65536 + i + 1 by omega]
      refine Eq.trans ?_ hf
      obtain ⟨a, b, c', d, e, f, g, j, rfl⟩ := eight_of vs hv
      rw [List.map_append, List.map_cons, hx]
      rfl
def innerW : List UInt32 := 926299702 :: List.replicate 15 909522486
def outerW : List UInt32 := 1566334044 :: List.replicate 15 1549556828
def msgW (c : Nat) : List UInt32 := [90400865, 1768816640, UInt32.ofNat (131072 + c), 25165824, 0, 0, 0, 0, 0, 0, 0, 0, 0, 0, 0, 616]
theorem inner_words : mixB (blockK seed1K) 54 = bytesOfW innerW := by decide +kernel
theorem outer_words : mixB (blockK seed1K) 92 = bytesOfW outerW := by decide +kernel
theorem msg_words : ∀ c, c < 67 → infoB chainB [numB ((c : Nat) : Int)] ++ [1] ++ padB 77 = bytesOfW (msgW c) ∧ (infoB chainB [numB ((c : Nat) : Int)] ++ [1]).length = 13 := by decide +kernel
theorem pad96 : padB 96 = bytesOfW [2147483648, 0, 0, 0, 0, 0, 0, 768] := by decide +kernel
theorem beginF_spec (c : Nat) (hc : c < 67) : ∃ us, us.length = 8 ∧ beginB seed1K c = bytesOfW us ∧ ∀ K, beginF c K = at8 K us := by
  obtain ⟨m1, m2⟩ := msg_words c hc
  obtain ⟨vs, hvs⟩ : ∃ vs, vs = foldB squaresW (bytesOfW (innerW ++ msgW c)) 2 := ⟨_, rfl⟩
  have hv : vs.length = 8 := by rw [hvs]; exact foldS_length _ _
  have h1 : digestB (mixB (blockK seed1K) 54 ++ (infoB chainB [numB c] ++ [1])) = bytesOfW vs := by
    rw [hvs]
    refine digest_words _ _ 2 ?_ (by rfl)
    unfold paddedB
    rw [show (mixB (blockK seed1K) 54 ++ (infoB chainB [numB (c : Int)] ++ [(1 : UInt8)]) : List UInt8).length = 77 by rw [List.length_append, m2, mixB_length, blockK_length], List.append_assoc, m1, inner_words, ← bytesOfW_append]
  refine ⟨foldB squaresW (bytesOfW (outerW ++ (vs ++ [2147483648, 0, 0, 0, 0, 0, 0, 768]))) 2, foldS_length _ _, ?_, fun K => ?_⟩
  · unfold beginB macB
    rw [h1]
    refine digest_words _ _ 2 ?_ (by simp [hv, outerW])
    unfold paddedB
    rw [show (mixB (blockK seed1K) 92 ++ bytesOfW vs).length = 96 by rw [List.length_append, mixB_length, blockK_length, bytesOfW_length, hv], pad96, outer_words, List.append_assoc, ← bytesOfW_append, ← bytesOfW_append]
  · have hx : (UInt32.ofNat (131072 + c)).toNat = 131072 + c := by rw [UInt32.toNat_ofNat']; omega
    have hf := fun (K : F8 Bool) => firstF_spec K 2 (innerW ++ msgW c) (by rfl)
    have hg := firstF_spec K 2 (outerW ++ (vs ++ [2147483648, 0, 0, 0, 0, 0, 0, 768])) (by simp [hv, outerW])
    rw [← hg]
    rw [← hvs] at hf
    unfold beginF
    have e1 : innerN ++ [90400865, 1768816640, 131072 + c, 25165824, 0, 0, 0, 0, 0, 0, 0, 0, 0, 0, 0, 616] = (innerW ++ msgW c).map UInt32.toNat := by
      rw [List.map_append, msgW]
      simp only [List.map_cons, hx]
      rfl
    rw [e1, hf]
    obtain ⟨a, b, c', d, e, f, g, j, rfl⟩ := eight_of vs hv
    rfl
theorem chain_fact (c : Nat) (hc : c < 67) (l : List Nat) (hl : l.length = 8) (a i b : Nat) (ha : a ≤ 16) (hb : i + b ≤ 16) (h : beginF c (alongF a (c * 65536) (alongF b (c * 65536 + i) (eqF l))) = true) :
    alongB tag2K c i (alongB tag2K c 0 (beginB seed1K c) a) b = bytesOfW (l.map UInt32.ofNat) := by
  obtain ⟨us, h1, h2, h3⟩ := beginF_spec c hc
  obtain ⟨vs, k1, k2, k3⟩ := alongF_spec c hc a 0 us (alongF b (c * 65536 + i) (eqF l)) (by omega) h1
  obtain ⟨ws, m1, m2, m3⟩ := alongF_spec c hc b i vs (eqF l) hb k1
  rw [h3] at h
  rw [Nat.add_zero] at k3
  rw [k3, m3] at h
  rw [h2]
  have k2' : alongB tag2K c 0 (bytesOfW us) a = bytesOfW vs := k2
  rw [k2', m2, eqF_spec l hl ws m1 h]

theorem ends_0 : (List.range' 0 10).all (fun c => beginF c (alongF 15 (c * 65536) (alongF 0 (c * 65536 + 0) (eqF (endsT.getD c []))))) = true := by decide +kernel
theorem ends_10 : (List.range' 10 10).all (fun c => beginF c (alongF 15 (c * 65536) (alongF 0 (c * 65536 + 0) (eqF (endsT.getD c []))))) = true := by decide +kernel
theorem ends_20 : (List.range' 20 10).all (fun c => beginF c (alongF 15 (c * 65536) (alongF 0 (c * 65536 + 0) (eqF (endsT.getD c []))))) = true := by decide +kernel
theorem ends_30 : (List.range' 30 10).all (fun c => beginF c (alongF 15 (c * 65536) (alongF 0 (c * 65536 + 0) (eqF (endsT.getD c []))))) = true := by decide +kernel
theorem ends_40 : (List.range' 40 10).all (fun c => beginF c (alongF 15 (c * 65536) (alongF 0 (c * 65536 + 0) (eqF (endsT.getD c []))))) = true := by decide +kernel
theorem ends_50 : (List.range' 50 10).all (fun c => beginF c (alongF 15 (c * 65536) (alongF 0 (c * 65536 + 0) (eqF (endsT.getD c []))))) = true := by decide +kernel
theorem ends_60 : (List.range' 60 7).all (fun c => beginF c (alongF 15 (c * 65536) (alongF 0 (c * 65536 + 0) (eqF (endsT.getD c []))))) = true := by decide +kernel
theorem e1_fact : beginF 1 (alongF 3 (1 * 65536) (alongF 11 (1 * 65536 + 4) (eqF e1T))) = true := by decide +kernel
theorem e66_fact : beginF 66 (alongF 13 (66 * 65536) (alongF 3 (66 * 65536 + 12) (eqF e66T))) = true := by decide +kernel
theorem endsT_len : ∀ c, c < 67 → (endsT.getD c []).length = 8 := by decide +kernel
theorem ends_fact (c : Nat) (hc : c < 67) : alongB tag2K c 0 (beginB seed1K c) 15 = bytesOfW ((endsT.getD c []).map UInt32.ofNat) := by
  have key : beginF c (alongF 15 (c * 65536) (alongF 0 (c * 65536 + 0) (eqF (endsT.getD c [])))) = true := by
    have h : ∀ s n, (List.range' s n).all (fun c => beginF c (alongF 15 (c * 65536) (alongF 0 (c * 65536 + 0) (eqF (endsT.getD c []))))) = true → s ≤ c → c < s + n → beginF c (alongF 15 (c * 65536) (alongF 0 (c * 65536 + 0) (eqF (endsT.getD c [])))) = true := fun s n h h1 h2 =>
      List.all_eq_true.1 h c (List.mem_range'_1.2 ⟨h1, h2⟩)
    by_cases h1 : c < 10
    · exact h 0 10 ends_0 (by omega) (by omega)
    by_cases h2 : c < 20
    · exact h 10 10 ends_10 (by omega) (by omega)
    by_cases h3 : c < 30
    · exact h 20 10 ends_20 (by omega) (by omega)
    by_cases h4 : c < 40
    · exact h 30 10 ends_30 (by omega) (by omega)
    by_cases h5 : c < 50
    · exact h 40 10 ends_40 (by omega) (by omega)
    by_cases h6 : c < 60
    · exact h 50 10 ends_50 (by omega) (by omega)
    · exact h 60 7 ends_60 (by omega) (by omega)
  exact chain_fact c hc _ (endsT_len c hc) 15 0 0 (by omega) (by omega) key
def twoT : List (List Nat) := (endsT.set 1 e1T).set 66 e66T
def pad35W : List UInt32 := 2147483648 :: (List.replicate 14 0 ++ [17408])
def pad35N : List Nat := 2147483648 :: (List.replicate 14 0 ++ [17408])
theorem pub_fact : firstF 35 (tag2N ++ (endsT.flatten ++ pad35N)) (eqF pubT) = true := by decide +kernel
theorem not_fact : firstF 35 (tag2N ++ (twoT.flatten ++ pad35N)) (eqF notT) = true := by decide +kernel
theorem pad35 : padB 2176 = bytesOfW pad35W := by decide +kernel
theorem flatW (T : List (List Nat)) : (T.map fun l => bytesOfW (l.map UInt32.ofNat)).flatten = bytesOfW (T.flatten.map UInt32.ofNat) := by
  induction T with
  | nil => rfl
  | cons l T ih => rw [List.map_cons, List.flatten_cons, List.flatten_cons, ih, List.map_append, bytesOfW_append]
theorem many_fact (T : List (List Nat)) (hT : (T.flatten.map UInt32.ofNat).map UInt32.toNat = T.flatten) (hl : T.flatten.length = 536) (r : List Nat) (hr : r.length = 8) (h : firstF 35 (tag2N ++ (T.flatten ++ pad35N)) (eqF r) = true) :
    digestB (tag2K ++ (T.map fun l => bytesOfW (l.map UInt32.ofNat)).flatten) = bytesOfW (r.map UInt32.ofNat) := by
  rw [flatW]
  have e : tag2N ++ (T.flatten ++ pad35N) = (tag2W ++ (T.flatten.map UInt32.ofNat ++ pad35W)).map UInt32.toNat := by
    rw [List.map_append, List.map_append, hT]
    rfl
  have hlen : (tag2W ++ (T.flatten.map UInt32.ofNat ++ pad35W)).length = 16 * 35 := by
    rw [List.length_append, List.length_append, List.length_map, hl]
    rfl
  rw [e, firstF_spec _ 35 _ hlen] at h
  rw [← eqF_spec r hr _ (foldS_length _ _) h]
  refine digest_words _ _ 35 ?_ hlen
  unfold paddedB
  rw [show (tag2K ++ bytesOfW (T.flatten.map UInt32.ofNat)).length = 2176 by rw [List.length_append, bytesOfW_length, List.length_map, hl]; rfl, pad35, tag2_words, ← bytesOfW_append, ← bytesOfW_append, List.append_assoc]
theorem mapT (T : List (List Nat)) (n : Nat) (h : T.length = n) (f : List Nat → List UInt8) : T.map f = (List.range n).map fun c => f (T.getD c []) := by
  subst h
  refine List.ext_getElem (by simp) fun i h1 h2 => ?_
  simp only [List.length_map] at h1
  simp [h1]
theorem pub_is : pubB seed1K tag2K = bytesOfW (pubT.map UInt32.ofNat) := by
  unfold pubB
  rw [show endsL seed1K tag2K = endsT.map fun l => bytesOfW (l.map UInt32.ofNat) by
    rw [mapT endsT 67 rfl]
    exact List.map_congr_left fun c hc => ends_fact c (List.mem_range.1 hc)]
  exact many_fact endsT (by decide +kernel) (by decide +kernel) pubT rfl pub_fact
theorem digits_same : ∀ c, c < 67 → c ≠ 1 → c ≠ 66 → (digitsL dig4K).getD c 0 = (digitsL dig3K).getD c 0 := by decide +kernel
theorem two_get : ∀ c, c < 67 → twoT.getD c [] = if c = 1 then e1T else if c = 66 then e66T else endsT.getD c [] := by decide +kernel
theorem not_is : recB tag2K dig4K (signL seed1K tag2K dig3K) = bytesOfW (notT.map UInt32.ofNat) := by
  unfold recB
  rw [show reachL tag2K dig4K (signL seed1K tag2K dig3K) = twoT.map fun l => bytesOfW (l.map UInt32.ofNat) by
    rw [mapT twoT 67 rfl]
    refine List.map_congr_left fun c hc => ?_
    have hc' := List.mem_range.1 hc
    rw [signL_get _ _ _ _ hc', two_get c hc']
    by_cases h1 : c = 1
    · subst h1
      exact chain_fact 1 (by omega) e1T rfl 3 4 11 (by omega) (by omega) e1_fact
    by_cases h2 : c = 66
    · subst h2
      exact chain_fact 66 (by omega) e66T rfl 13 12 3 (by omega) (by omega) e66_fact
    rw [if_neg h1, if_neg h2, ← ends_fact c hc', digits_same c hc' h1 h2]
    have hd := digitsL_getD dig3K rfl c
    have := alongB_add tag2K (c : Int) 0 (beginB seed1K c) ((digitsL dig3K).getD c 0) (15 - (digitsL dig3K).getD c 0)
    rw [Int.zero_add, show (digitsL dig3K).getD c 0 + (15 - (digitsL dig3K).getD c 0) = 15 by omega] at this
    exact this.symm]
  exact many_fact twoT (by decide +kernel) (by decide +kernel) notT rfl not_fact
/-- What is signed for one digest is recovered to another key for another one. -/
theorem example_not : recB tag2K dig4K (signL seed1K tag2K dig3K) ≠ pubB seed1K tag2K := by
  rw [pub_is, not_is]
  decide +kernel
theorem example_is : recB tag2K dig3K (signL seed1K tag2K dig3K) = pubB seed1K tag2K := rec_sign _ _ _ rfl
def allK : List UInt8 := List.replicate 32 255
theorem digits_all : (digitsL allK).drop 64 = [0, 0, 0] := by decide +kernel
theorem digits_zero : (digitsL zeroKey).drop 64 = [3, 12, 0] := by decide +kernel
end Go.Proofs.YtfnmglicfgkmjaaDoor
end
section
namespace Go.Proofs.YtfnmglicfgkmjaaDoor
open Go.RowKit
set_option linter.unusedVariables false
set_option maxRecDepth 20000

/-- The first j bytes are 255. -/
def manyK (j : Nat) : List UInt8 := List.replicate j 255 ++ List.replicate (32 - j) 0
theorem manyK_length (j : Nat) (h : j ≤ 32) : (manyK j).length = 32 := by simp [manyK]; omega
theorem manyK_set (j : Nat) (h : j < 32) : (keyC (manyK j)).setIfInBounds j (.int .u8 255) = keyC (manyK (j + 1)) := by
  unfold keyC
  rw [List.setIfInBounds_toArray]
  congr 1
  unfold cellsB
  rw [show Value.int .u8 255 = (fun (b : UInt8) => Value.int .u8 (b.toNat : Int)) 255 from rfl, ← List.map_set]
  congr 1
  unfold manyK
  rw [List.set_append_right _ _ (by simp), List.length_replicate, Nat.sub_self, show 32 - j = (32 - (j + 1)) + 1 by omega, List.replicate_succ, List.set_cons_zero, List.replicate_succ', List.append_assoc]
  rfl
theorem drop_get (l : List Nat) (i : Nat) (m : List Nat) (h : l.drop i = m) (j : Nat) : l.getD (i + j) 0 = m.getD j 0 := by
  rw [← h, List.getD_eq_getElem?_getD, List.getD_eq_getElem?_getD, List.getElem?_drop]

set_option maxHeartbeats 8000000 in
theorem otsAwake_any (w : World) (hq : Tabs w) : Calls Tryd.prog 8 #[] w (RetV w (.bool true)) := by
  have HQ := Lib.hid hq
  clear hq
  obtain ⟨s1, hs1⟩ : ∃ k, k = seed1K := ⟨_, rfl⟩
  obtain ⟨t2, ht2⟩ : ∃ k, k = tag2K := ⟨_, rfl⟩
  obtain ⟨d3, hd3⟩ : ∃ k, k = dig3K := ⟨_, rfl⟩
  obtain ⟨d4, hd4⟩ : ∃ k, k = dig4K := ⟨_, rfl⟩
  have LS : Hid (s1.length = 32) := by show _ = _; rw [hs1]; rfl
  have LT : Hid (t2.length = 32) := by show _ = _; rw [ht2]; rfl
  have L3 : Hid (d3.length = 32) := by show _ = _; rw [hd3]; rfl
  have L4 : Hid (d4.length = 32) := by show _ = _; rw [hd4]; rfl
  have X1 : Hid (Value.agg #[.int .u8 1, .int .u8 0, .int .u8 0, .int .u8 0, .int .u8 0, .int .u8 0, .int .u8 0, .int .u8 0, .int .u8 0, .int .u8 0, .int .u8 0, .int .u8 0, .int .u8 0, .int .u8 0, .int .u8 0, .int .u8 0, .int .u8 0, .int .u8 0, .int .u8 0, .int .u8 0, .int .u8 0, .int .u8 0, .int .u8 0, .int .u8 0, .int .u8 0, .int .u8 0, .int .u8 0, .int .u8 0, .int .u8 0, .int .u8 0, .int .u8 0, .int .u8 0] = .agg (keyC s1)) := by show _ = _; rw [hs1]; rfl
  have X2 : Hid (Value.agg #[.int .u8 2, .int .u8 0, .int .u8 0, .int .u8 0, .int .u8 0, .int .u8 0, .int .u8 0, .int .u8 0, .int .u8 0, .int .u8 0, .int .u8 0, .int .u8 0, .int .u8 0, .int .u8 0, .int .u8 0, .int .u8 0, .int .u8 0, .int .u8 0, .int .u8 0, .int .u8 0, .int .u8 0, .int .u8 0, .int .u8 0, .int .u8 0, .int .u8 0, .int .u8 0, .int .u8 0, .int .u8 0, .int .u8 0, .int .u8 0, .int .u8 0, .int .u8 0] = .agg (keyC t2)) := by show _ = _; rw [ht2]; rfl
  have X3 : Hid (Value.agg #[.int .u8 3, .int .u8 0, .int .u8 0, .int .u8 0, .int .u8 0, .int .u8 0, .int .u8 0, .int .u8 0, .int .u8 0, .int .u8 0, .int .u8 0, .int .u8 0, .int .u8 0, .int .u8 0, .int .u8 0, .int .u8 0, .int .u8 0, .int .u8 0, .int .u8 0, .int .u8 0, .int .u8 0, .int .u8 0, .int .u8 0, .int .u8 0, .int .u8 0, .int .u8 0, .int .u8 0, .int .u8 0, .int .u8 0, .int .u8 0, .int .u8 0, .int .u8 0] = .agg (keyC d3)) := by show _ = _; rw [hd3]; rfl
  have X4 : Hid (Value.agg #[.int .u8 4, .int .u8 0, .int .u8 0, .int .u8 0, .int .u8 0, .int .u8 0, .int .u8 0, .int .u8 0, .int .u8 0, .int .u8 0, .int .u8 0, .int .u8 0, .int .u8 0, .int .u8 0, .int .u8 0, .int .u8 0, .int .u8 0, .int .u8 0, .int .u8 0, .int .u8 0, .int .u8 0, .int .u8 0, .int .u8 0, .int .u8 0, .int .u8 0, .int .u8 0, .int .u8 0, .int .u8 0, .int .u8 0, .int .u8 0, .int .u8 0, .int .u8 0] = .agg (keyC d4)) := by show _ = _; rw [hd4]; rfl
  have X0 : Hid (Value.agg #[.int .u8 0, .int .u8 0, .int .u8 0, .int .u8 0, .int .u8 0, .int .u8 0, .int .u8 0, .int .u8 0, .int .u8 0, .int .u8 0, .int .u8 0, .int .u8 0, .int .u8 0, .int .u8 0, .int .u8 0, .int .u8 0, .int .u8 0, .int .u8 0, .int .u8 0, .int .u8 0, .int .u8 0, .int .u8 0, .int .u8 0, .int .u8 0, .int .u8 0, .int .u8 0, .int .u8 0, .int .u8 0, .int .u8 0, .int .u8 0, .int .u8 0, .int .u8 0] = .agg (keyC zeroKey)) := rfl
  obtain ⟨pk, hpk⟩ : ∃ k, k = pubB s1 t2 := ⟨_, rfl⟩
  obtain ⟨nk, hnk⟩ : ∃ k, k = recB t2 d4 (signL s1 t2 d3) := ⟨_, rfl⟩
  have LP : Hid (pk.length = 32) := by show _ = _; rw [hpk]; exact digestB_length _
  have LN : Hid (nk.length = 32) := by show _ = _; rw [hnk]; exact digestB_length _
  have HP : Hid (recB t2 d3 (signL s1 t2 d3) = pk) := by show _ = _; rw [hpk]; exact rec_sign s1 t2 d3 L3.out
  have hne : (nk == pk) = false := by rw [beq_eq_false_iff_ne, hnk, hpk, hs1, ht2, hd3, hd4]; exact example_not
  have heq : (pk == pk) = true := beq_self_eq_true _
  have HQ1 : Hid (∀ W, (Op.equalIn 10000 23 (.agg (keyC pk)) (.agg (keyC pk))).run Tryd.prog W = .ok true W) := fun W => by rw [Tryd.eqKeyIn pk pk LP.out LP.out W, heq]
  have HQ2 : Hid (∀ W, (Op.equalIn 10000 23 (.agg (keyC nk)) (.agg (keyC pk))).run Tryd.prog W = .ok false W) := fun W => by rw [Tryd.eqKeyIn nk pk LN.out LP.out W, hne]
  have HPK := Lib.hid hpk
  have HNK := Lib.hid hnk
  have DA : Hid ((digitsL (manyK 32)).getD 64 0 = 0 ∧ (digitsL (manyK 32)).getD 65 0 = 0 ∧ (digitsL (manyK 32)).getD 66 0 = 0) := by
    have h : (digitsL (manyK 32)).drop 64 = [0, 0, 0] := digits_all
    exact ⟨drop_get _ 64 _ h 0, drop_get _ 64 _ h 1, drop_get _ 64 _ h 2⟩
  have DZ : Hid ((digitsL zeroKey).getD 64 0 = 3 ∧ (digitsL zeroKey).getD 65 0 = 12 ∧ (digitsL zeroKey).getD 66 0 = 0) :=
    ⟨drop_get _ 64 _ digits_zero 0, drop_get _ 64 _ digits_zero 1, drop_get _ 64 _ digits_zero 2⟩
  have hlm : (manyK 32).length = 32 := manyK_length 32 (by omega)
  have CD1 : Hid (∀ x rs', Env w rs' x → Calls Tryd.prog 9 #[.agg (keyC (manyK 32))] x fun e w' => ∃ b, e = .returned (.slice (some ⟨b, 0, none⟩) 67 67) ∧ Env w ((b, 3, intC (digitsL (manyK 32))) :: rs') w') := fun x rs' h => digits_env w x rs' h _ hlm
  have CD2 : Hid (∀ x rs', Env w rs' x → Calls Tryd.prog 9 #[.agg (keyC zeroKey)] x fun e w' => ∃ b, e = .returned (.slice (some ⟨b, 0, none⟩) 67 67) ∧ Env w ((b, 3, intC (digitsL zeroKey)) :: rs') w') := fun x rs' h => digits_env w x rs' h _ zeroKey_length
  have DL1 : Hid ((digitsL (manyK 32)).length = 67) := digitsL_length _ hlm
  have DL2 : Hid ((digitsL zeroKey).length = 67) := digitsL_length _ zeroKey_length
  obtain ⟨da, hda⟩ : ∃ l, l = digitsL (manyK 32) := ⟨_, rfl⟩
  obtain ⟨dz, hdz⟩ : ∃ l, l = digitsL zeroKey := ⟨_, rfl⟩
  rw [← hda] at DA CD1 DL1
  rw [← hdz] at DZ CD2 DL2
  rw [← X0.out] at CD2
  clear hda hdz hlm hne heq hs1 ht2 hd3 hd4 hpk hnk
  have E0 := Lib.hid (Env.start w)
  go_enter Tryd.func8, Tryd.ntmps8
  go_wp2_with (first
    | ((with_reducible refine wpE_alloc (o := ⟨some 1, _, _, _, _, _⟩) rfl 23 rfl (keyC zeroKey) Tryd.zeroK E0.out ?_); intro g1 w1 T1; have E1 := Lib.hid T1; clear T1)
    | ((with_reducible refine wpE_store (o := ⟨none, _, _, _, _, _⟩) rfl 23 (.tmp 1) (.tmp 13) rfl 0 g1 23 (keyC zeroKey) (keyC zeroKey) (by with_unfolding_all rfl) (by with_unfolding_all rfl) (by with_unfolding_all exact X0.out) rfl (Tryd.sizeKey _ zeroKey_length) (keyC_one _) E1.out ?_); intro w2 T2; simp only [List.set_cons_zero] at T2; have E2 := Lib.hid T2; clear T2))
  clear E0 E1
  go_loopw [2] (fun v wr => ∃ c : Nat, c ≤ 32 ∧ v = .int .i64 (c : Int) ∧ Env w [(g1, 23, keyC (manyK c))] wr) (fun v _ => 32 - (intOf v).toNat)
  case atStart => exact ⟨0, by omega, rfl, E2.out⟩
  case round =>
    clear E2
    obtain ⟨c, hc, rfl, hE⟩ := hrel
    have E := Lib.hid hE
    clear hE
    by_cases hlt : c < 32
    · have hlt2 : (c : Int) < 32 := by omega
      have hw1 : IntKind.i64.wrap ((c : Int) + 1) = (c : Int) + 1 := IntWalk.i64_in _ (by omega)
      have hcell := E.out.cellV 0 rfl c _ (keyC_at (manyK c) c (by rw [manyK_length c (by omega)]; exact hlt))
      have hfz := E.out.fzV 0 rfl c
      have T1 := E.out.cell 0 rfl c (.int .u8 255)
      simp only [List.set_cons_zero] at T1
      rw [manyK_set c hlt] at T1
      have E1 := Lib.hid T1
      clear T1
      go_wp2_with fail
      refine ⟨⟨c + 1, by omega, by congr 1, E1.out⟩, ?_⟩
      show 32 - ((c : Int) + 1).toNat < 32 - (c : Int).toNat
      omega
    · have hc2 : c = 32 := by omega
      clear hlt
      subst hc2
      have LM : Hid ((manyK 32).length = 32) := manyK_length 32 (by omega)
      go_wp2_with (with_reducible refine wpE_load (o := ⟨some 20, _, _, _, _, _⟩) rfl 23 (.tmp 1) rfl 0 g1 23 (keyC (manyK 32)) _ (by with_unfolding_all rfl) (by with_unfolding_all rfl) Tryd.underlying23 rfl (Tryd.sizeKey _ LM.out) E.out ?_)
      refine (CD1.out _ _ E.out).mono ?_
      intro e w3 h
      obtain ⟨ga, he, h3⟩ := h
      subst he
      have E3 := Lib.hid h3
      clear h3 E CD1
      go_wp2_with fail
      refine (CD2.out _ _ E3.out).mono ?_
      intro e w4 h
      obtain ⟨gz, he, h4⟩ := h
      subst he
      have E4 := Lib.hid h4
      clear h4 E3 CD2
      go_wp2_with fail
      refine (New_any _ false).mono ?_
      intro e w5 h
      obtain ⟨g, he, n5⟩ := h
      subst he
      have E5 : Hid (Env w ((g, 66, mC 0) :: (gz, 3, intC dz) :: (ga, 3, intC da) :: [(g1, 23, keyC (manyK 32))]) w5) := E4.out.new n5
      clear n5 E4
      go_wp2_with fail
      have hcall := signer_env w _ _ g s1 t2 LS.out LT.out E5.out
      rw [← X1.out, ← X2.out] at hcall
      refine hcall.mono ?_
      clear hcall
      intro e w6 h
      obtain ⟨b, he, h6⟩ := h
      subst he
      have E6 := Lib.hid h6
      clear h6 E5
      go_wp2_with fail
      have hcall := sign_env w _ HQ.out _ 1 g 0 0 b s1 t2 zeroKey d3 0 0 LS.out LT.out L3.out E6.out rfl (by omega) rfl
      rw [← X3.out] at hcall
      refine hcall.mono ?_
      clear hcall
      intro e w7 h
      obtain ⟨n7, ge, hn7, he, h7⟩ := h
      subst he
      simp only [List.set_cons_zero, List.set_cons_succ] at h7
      have E7 := Lib.hid h7
      clear h7 E6
      have LSG : Hid ((signL s1 t2 d3).length = 67 ∧ ∀ l ∈ signL s1 t2 d3, l.length = 32) := ⟨by simp [signL], signL_len _ _ _⟩
      go_wp2_with fail
      have hcall := recover_env w _ HQ.out _ 2 g n7 t2 d3 LT.out L3.out E7.out rfl (by omega) (.slice (some ⟨ge, 0, none⟩) 67 67) (signL s1 t2 d3) LSG.out.2 LSG.out.1 (fun x n' h => by
        have := Ks.row (h.row 0 rfl) LSG.out.2 (by rw [LSG.out.1]; omega)
        rwa [LSG.out.1] at this)
      rw [HP.out] at hcall
      rw [← X2.out, ← X3.out] at hcall
      refine hcall.mono ?_
      clear hcall
      intro e w8 h
      obtain ⟨n8, hn8, he, h8⟩ := h
      subst he
      simp only [List.set_cons_zero, List.set_cons_succ] at h8
      have E8 := Lib.hid h8
      clear h8 E7
      go_wp2_with (first
        | ((with_reducible refine wpE_alloc (o := ⟨some 8, _, _, _, _, _⟩) rfl 23 rfl (keyC zeroKey) Tryd.zeroK E8.out ?_); intro g8 w9 T9; have E9 := Lib.hid T9; clear T9)
        | ((with_reducible refine wpE_store (o := ⟨none, _, _, _, _, _⟩) rfl 23 (.tmp 8) (.tmp 48) rfl 0 g8 23 (keyC zeroKey) (keyC pk) (by with_unfolding_all rfl) (by with_unfolding_all rfl) (by with_unfolding_all rfl) (keyC_same zeroKey_length LP.out) (Tryd.sizeKey _ LP.out) (keyC_one _) E9.out ?_); intro w10 T10; simp only [List.set_cons_zero] at T10; have E10 := Lib.hid T10; clear T10))
      have hcall := recover_env w _ HQ.out _ 3 g n8 t2 d4 LT.out L4.out E10.out rfl (by omega) (.slice (some ⟨ge, 0, none⟩) 67 67) (signL s1 t2 d3) LSG.out.2 LSG.out.1 (fun x n' h => by
        have := Ks.row (h.row 1 rfl) LSG.out.2 (by rw [LSG.out.1]; omega)
        rwa [LSG.out.1] at this)
      rw [← HNK.out] at hcall
      rw [← X2.out, ← X4.out] at hcall
      refine hcall.mono ?_
      clear hcall
      intro e w11 h
      obtain ⟨n11, hn11, he, h11⟩ := h
      subst he
      simp only [List.set_cons_zero, List.set_cons_succ] at h11
      have E11 := Lib.hid h11
      clear h11 E10 E9 E8
      go_wp2_with (first
        | ((with_reducible refine wpE_alloc (o := ⟨some 10, _, _, _, _, _⟩) rfl 23 rfl (keyC zeroKey) Tryd.zeroK E11.out ?_); intro g10 w12 T12; have E12 := Lib.hid T12; clear T12)
        | ((with_reducible refine wpE_store (o := ⟨none, _, _, _, _, _⟩) rfl 23 (.tmp 10) (.tmp 56) rfl 0 g10 23 (keyC zeroKey) (keyC nk) (by with_unfolding_all rfl) (by with_unfolding_all rfl) (by with_unfolding_all rfl) (keyC_same zeroKey_length LN.out) (Tryd.sizeKey _ LN.out) (keyC_one _) E12.out ?_); intro w13 T13; simp only [List.set_cons_zero] at T13; have E13 := Lib.hid T13; clear T13))
      have hcall := public_first w _ HQ.out _ 4 g n11 3 b s1 t2 zeroKey LS.out LT.out zeroKey_length E13.out rfl (by omega) rfl
      rw [← HPK.out] at hcall
      refine hcall.mono ?_
      clear hcall
      intro e w14 h
      obtain ⟨n14, hn14, he, h14⟩ := h
      subst he
      simp only [List.set_cons_zero, List.set_cons_succ] at h14
      have E14 := Lib.hid h14
      clear h14 E13 E12 E11
      have hgd := Tryd.eqGuardKey
      have hq1 := HQ1.out
      have hq2 := HQ2.out
      go_wp2_with (first
        | ((with_reducible refine wpE_alloc (o := ⟨some 12, _, _, _, _, _⟩) rfl 23 rfl (keyC zeroKey) Tryd.zeroK E14.out ?_); intro g12 w15 T15; have E15 := Lib.hid T15; clear T15)
        | ((with_reducible refine wpE_store (o := ⟨none, _, _, _, _, _⟩) rfl 23 (.tmp 12) (.tmp 59) rfl 0 g12 23 (keyC zeroKey) (keyC pk) (by with_unfolding_all rfl) (by with_unfolding_all rfl) (by with_unfolding_all rfl) (keyC_same zeroKey_length LP.out) (Tryd.sizeKey _ LP.out) (keyC_one _) E15.out ?_); intro w16 T16; simp only [List.set_cons_zero] at T16; have E16 := Lib.hid T16; have a0 := T16.cellV 7 rfl 64 _ (intC_get da 64 (by rw [DL1.out]; omega)); have a1 := T16.cellV 7 rfl 65 _ (intC_get da 65 (by rw [DL1.out]; omega)); have a2 := T16.cellV 7 rfl 66 _ (intC_get da 66 (by rw [DL1.out]; omega)); have z0 := T16.cellV 6 rfl 64 _ (intC_get dz 64 (by rw [DL2.out]; omega)); have z1 := T16.cellV 6 rfl 65 _ (intC_get dz 65 (by rw [DL2.out]; omega)); have z2 := T16.cellV 6 rfl 66 _ (intC_get dz 66 (by rw [DL2.out]; omega)); rw [DA.out.1] at a0; rw [DA.out.2.1] at a1; rw [DA.out.2.2] at a2; rw [DZ.out.1] at z0; rw [DZ.out.2.1] at z1; rw [DZ.out.2.2] at z2; clear T16)
        | (with_reducible refine wpListG_load_row (o := ⟨some 99, _, _, _, _, _⟩) 23 (.tmp 8) rfl (by with_unfolding_all rfl) g8 (by with_unfolding_all rfl) 23 (keyC pk) (.array 32 5) (by with_unfolding_all exact E16.out.row 2 rfl) Tryd.underlying23 rfl (Tryd.sizeKey _ LP.out) ?_)
        | (with_reducible refine wpListG_load_row (o := ⟨some 100, _, _, _, _, _⟩) 23 (.tmp 12) rfl (by with_unfolding_all rfl) g12 (by with_unfolding_all rfl) 23 (keyC pk) (.array 32 5) (by with_unfolding_all exact E16.out.row 0 rfl) Tryd.underlying23 rfl (Tryd.sizeKey _ LP.out) ?_)
        | (with_reducible refine wpListG_load_row (o := ⟨some 108, _, _, _, _, _⟩) 23 (.tmp 10) rfl (by with_unfolding_all rfl) g10 (by with_unfolding_all rfl) 23 (keyC nk) (.array 32 5) (by with_unfolding_all exact E16.out.row 1 rfl) Tryd.underlying23 rfl (Tryd.sizeKey _ LN.out) ?_)
        | (with_reducible refine wpListG_load_row (o := ⟨some 109, _, _, _, _, _⟩) 23 (.tmp 12) rfl (by with_unfolding_all rfl) g12 (by with_unfolding_all rfl) 23 (keyC pk) (.array 32 5) (by with_unfolding_all exact E16.out.row 0 rfl) Tryd.underlying23 rfl (Tryd.sizeKey _ LP.out) ?_))
      go_ret
      exact E16.out.ret _
end Go.Proofs.YtfnmglicfgkmjaaDoor
end
