/-
  SHA-256 as plain Lean functions over words of 32 bits: what layer 2 of the document says. Conditions: none; nothing of a program is named here.
-/
import Derived.Test.YtdojaighchgghaaDoorWordMath
namespace Go.Proofs.YtdojaighchgghaaDoor

def bigS (x : UInt32) (a b c : Nat) : UInt32 := rotr x a ^^^ rotr x b ^^^ rotr x c
def smallS (x : UInt32) (a b c : Nat) : UInt32 := rotr x a ^^^ rotr x b ^^^ movr x c

/-- The sixteen words of a block, the highest byte of each first; then 64 of them. -/
def wordOf (block : List UInt8) (i : Nat) : UInt32 := UInt32.ofNat (ofHighB ((block.drop (4 * i)).take 4))
def nextW (w : List UInt32) (i : Nat) : UInt32 :=
  w.getD (i - 16) 0 + smallS (w.getD (i - 15) 0) 7 18 3 + w.getD (i - 7) 0 + smallS (w.getD (i - 2) 0) 17 19 10
def wordsTo (block : List UInt8) : Nat → List UInt32
  | 0 => []
  | i + 1 => wordsTo block i ++ [if i < 16 then wordOf block i else nextW (wordsTo block i) i]
theorem wordsTo_length (block : List UInt8) (n : Nat) : (wordsTo block n).length = n := by
  induction n with
  | zero => rfl
  | succ n ih => rw [wordsTo, List.length_append, ih]; rfl

def cubesW : List UInt32 := [0x428a2f98, 0x71374491, 0xb5c0fbcf, 0xe9b5dba5, 0x3956c25b, 0x59f111f1, 0x923f82a4, 0xab1c5ed5,
  0xd807aa98, 0x12835b01, 0x243185be, 0x550c7dc3, 0x72be5d74, 0x80deb1fe, 0x9bdc06a7, 0xc19bf174,
  0xe49b69c1, 0xefbe4786, 0x0fc19dc6, 0x240ca1cc, 0x2de92c6f, 0x4a7484aa, 0x5cb0a9dc, 0x76f988da,
  0x983e5152, 0xa831c66d, 0xb00327c8, 0xbf597fc7, 0xc6e00bf3, 0xd5a79147, 0x06ca6351, 0x14292967,
  0x27b70a85, 0x2e1b2138, 0x4d2c6dfc, 0x53380d13, 0x650a7354, 0x766a0abb, 0x81c2c92e, 0x92722c85,
  0xa2bfe8a1, 0xa81a664b, 0xc24b8b70, 0xc76c51a3, 0xd192e819, 0xd6990624, 0xf40e3585, 0x106aa070,
  0x19a4c116, 0x1e376c08, 0x2748774c, 0x34b0bcb5, 0x391c0cb3, 0x4ed8aa4a, 0x5b9cca4f, 0x682e6ff3,
  0x748f82ee, 0x78a5636f, 0x84c87814, 0x8cc70208, 0x90befffa, 0xa4506ceb, 0xbef9a3f7, 0xc67178f2]
def squaresW : List UInt32 := [0x6a09e667, 0xbb67ae85, 0x3c6ef372, 0xa54ff53a, 0x510e527f, 0x9b05688c, 0x1f83d9ab, 0x5be0cd19]
theorem cubesW_length : cubesW.length = 64 := rfl
theorem squaresW_length : squaresW.length = 8 := rfl

/-- Eight words, by name. -/
structure Eight8 where
  a : UInt32
  b : UInt32
  c : UInt32
  d : UInt32
  e : UInt32
  f : UInt32
  g : UInt32
  h : UInt32
def tOne (s : Eight8) (k w : UInt32) : UInt32 := s.h + bigS s.e 6 11 25 + ((s.e &&& s.f) ^^^ ((4294967295 - s.e) &&& s.g)) + k + w
def tTwo (s : Eight8) : UInt32 := bigS s.a 2 13 22 + ((s.a &&& s.b) ^^^ (s.a &&& s.c) ^^^ (s.b &&& s.c))
def stepE (s : Eight8) (k w : UInt32) : Eight8 := ⟨tOne s k w + tTwo s, s.a, s.b, s.c, s.d + tOne s k w, s.e, s.f, s.g⟩
def roundsE (ws : List UInt32) (s : Eight8) : Nat → Eight8
  | 0 => s
  | i + 1 => stepE (roundsE ws s i) (cubesW.getD i 0) (ws.getD i 0)
def ofE (s : Eight8) : List UInt32 := [s.a, s.b, s.c, s.d, s.e, s.f, s.g, s.h]
def toE (l : List UInt32) : Eight8 := ⟨l.getD 0 0, l.getD 1 0, l.getD 2 0, l.getD 3 0, l.getD 4 0, l.getD 5 0, l.getD 6 0, l.getD 7 0⟩
def blockW (st : List UInt32) (block : List UInt8) : List UInt32 :=
  List.zipWith (· + ·) st (ofE (roundsE (wordsTo block 64) (toE st) 64))
theorem ofE_length (s : Eight8) : (ofE s).length = 8 := rfl
theorem blockW_length (st : List UInt32) (block : List UInt8) (h : st.length = 8) : (blockW st block).length = 8 := by
  simp [blockW, h, ofE_length]

/-- What stands behind n bytes. -/
def padB (n : Nat) : List UInt8 := 128 :: List.replicate ((119 - n % 64) % 64) 0 ++ (lowB (8 * n % 18446744073709551616) 8).reverse
theorem padB_length (n : Nat) : (padB n).length = 9 + (119 - n % 64) % 64 := by
  simp [padB, lowB_length]; omega

/-- Block by block. -/
def foldB (st : List UInt32) (all : List UInt8) : Nat → List UInt32
  | 0 => st
  | k + 1 => blockW (foldB st all k) ((all.drop (64 * k)).take 64)
theorem foldB_length (st : List UInt32) (all : List UInt8) (k : Nat) (h : st.length = 8) : (foldB st all k).length = 8 := by
  induction k with
  | zero => exact h
  | succ k ih => exact blockW_length _ _ ih
def bytesOfW (l : List UInt32) : List UInt8 := l.flatMap fun x => (lowB x.toNat 4).reverse
def paddedB (b : List UInt8) : List UInt8 := b ++ padB b.length
def digestB (b : List UInt8) : List UInt8 := bytesOfW (foldB squaresW (paddedB b) ((paddedB b).length / 64))
theorem bytesOfW_length (l : List UInt32) : (bytesOfW l).length = 4 * l.length := by
  induction l with
  | nil => rfl
  | cons x l ih => simp only [bytesOfW, List.flatMap_cons, List.length_append, List.length_reverse, lowB_length, List.length_cons] at *; omega
theorem digestB_length (b : List UInt8) : (digestB b).length = 32 := by
  rw [digestB, bytesOfW_length, foldB_length _ _ _ squaresW_length]
set_option maxRecDepth 100000 in
theorem digest_empty : digestB [] = [0xe3, 0xb0, 0xc4, 0x42, 0x98, 0xfc, 0x1c, 0x14, 0x9a, 0xfb, 0xf4, 0xc8, 0x99, 0x6f, 0xb9, 0x24, 0x27, 0xae, 0x41, 0xe4, 0x64, 0x9b, 0x93, 0x4c, 0xa4, 0x95, 0x99, 0x1b, 0x78, 0x52, 0xb8, 0x55] := by decide +kernel
theorem digest_abc : digestB [97, 98, 99] = [0xba, 0x78, 0x16, 0xbf, 0x8f, 0x01, 0xcf, 0xea, 0x41, 0x41, 0x40, 0xde, 0x5d, 0xae, 0x22, 0x23, 0xb0, 0x03, 0x61, 0xa3, 0x96, 0x17, 0x7a, 0x9c, 0xb4, 0x10, 0xff, 0x61, 0xf2, 0x00, 0x15, 0xad] := by decide +kernel
end Go.Proofs.YtdojaighchgghaaDoor
