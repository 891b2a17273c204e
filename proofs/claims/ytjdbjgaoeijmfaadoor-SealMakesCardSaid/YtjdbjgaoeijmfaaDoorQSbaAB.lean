/-
  Texts that belong together, merged: ShaMath, ShaA, D, ShaB, ShaC, StreamMath. Conditions: as each theorem names them.
-/
import Derived.Test.YtjdbjgaoeijmfaaDoorQSbaAA
import Derived.Test.YtjdbjgaoeijmfaaDoorChecked
import Derived.StillTactics
section
namespace Go.Proofs.YtjdbjgaoeijmfaaDoor

def bigS (x : UInt32) (a b c : Nat) : UInt32 := rotr x a ^^^ rotr x b ^^^ rotr x c
def smallS (x : UInt32) (a b c : Nat) : UInt32 := rotr x a ^^^ rotr x b ^^^ movr x c

/-- The sixteen words of a block, the highest byte of each first; then 64 of them. -/
def wordOf (block : List UInt8) (i : Nat) : UInt32 := UInt32.ofNat (ofHighB ((block.drop (4 * i)).take 4))
def nextW (w : List UInt32) (i : Nat) : UInt32 :=
  w.getD (i - 16) 0 + smallS (w.getD (i - 15) 0) 7 18 3 + w.getD (i - 7) 0 + smallS (w.getD (i - 2) 0) 17 19 10
def wordsTo (block : List UInt8) : Nat → List UInt32
  | 0 => []
  | i + 1 => wordsTo block i ++ [if i < 16 then wordOf block i else nextW (wordsTo block i) i]
theorem wordsTo_length (block : List UInt8) (n : Nat) : (wordsTo block n).length = n := by
  induction n with
  | zero => rfl
  | succ n ih => rw [wordsTo, List.length_append, ih]; rfl

def cubesW : List UInt32 := [0x428a2f98, 0x71374491, 0xb5c0fbcf, 0xe9b5dba5, 0x3956c25b, 0x59f111f1, 0x923f82a4, 0xab1c5ed5,
  0xd807aa98, 0x12835b01, 0x243185be, 0x550c7dc3, 0x72be5d74, 0x80deb1fe, 0x9bdc06a7, 0xc19bf174,
  0xe49b69c1, 0xefbe4786, 0x0fc19dc6, 0x240ca1cc, 0x2de92c6f, 0x4a7484aa, 0x5cb0a9dc, 0x76f988da,
  0x983e5152, 0xa831c66d, 0xb00327c8, 0xbf597fc7, 0xc6e00bf3, 0xd5a79147, 0x06ca6351, 0x14292967,
  0x27b70a85, 0x2e1b2138, 0x4d2c6dfc, 0x53380d13, 0x650a7354, 0x766a0abb, 0x81c2c92e, 0x92722c85,
  0xa2bfe8a1, 0xa81a664b, 0xc24b8b70, 0xc76c51a3, 0xd192e819, 0xd6990624, 0xf40e3585, 0x106aa070,
  0x19a4c116, 0x1e376c08, 0x2748774c, 0x34b0bcb5, 0x391c0cb3, 0x4ed8aa4a, 0x5b9cca4f, 0x682e6ff3,
  0x748f82ee, 0x78a5636f, 0x84c87814, 0x8cc70208, 0x90befffa, 0xa4506ceb, 0xbef9a3f7, 0xc67178f2]
def squaresW : List UInt32 := [0x6a09e667, 0xbb67ae85, 0x3c6ef372, 0xa54ff53a, 0x510e527f, 0x9b05688c, 0x1f83d9ab, 0x5be0cd19]
theorem cubesW_length : cubesW.length = 64 := rfl
theorem squaresW_length : squaresW.length = 8 := rfl

/-- Eight words, by name. -/
structure Eight8 where
  a : UInt32
  b : UInt32
  c : UInt32
  d : UInt32
  e : UInt32
  f : UInt32
  g : UInt32
  h : UInt32
def tOne (s : Eight8) (k w : UInt32) : UInt32 := s.h + bigS s.e 6 11 25 + ((s.e &&& s.f) ^^^ ((4294967295 - s.e) &&& s.g)) + k + w
def tTwo (s : Eight8) : UInt32 := bigS s.a 2 13 22 + ((s.a &&& s.b) ^^^ (s.a &&& s.c) ^^^ (s.b &&& s.c))
def stepE (s : Eight8) (k w : UInt32) : Eight8 := ⟨tOne s k w + tTwo s, s.a, s.b, s.c, s.d + tOne s k w, s.e, s.f, s.g⟩
def roundsE (ws : List UInt32) (s : Eight8) : Nat → Eight8
  | 0 => s
  | i + 1 => stepE (roundsE ws s i) (cubesW.getD i 0) (ws.getD i 0)
def ofE (s : Eight8) : List UInt32 := [s.a, s.b, s.c, s.d, s.e, s.f, s.g, s.h]
def toE (l : List UInt32) : Eight8 := ⟨l.getD 0 0, l.getD 1 0, l.getD 2 0, l.getD 3 0, l.getD 4 0, l.getD 5 0, l.getD 6 0, l.getD 7 0⟩
def blockW (st : List UInt32) (block : List UInt8) : List UInt32 :=
  List.zipWith (· + ·) st (ofE (roundsE (wordsTo block 64) (toE st) 64))
theorem ofE_length (s : Eight8) : (ofE s).length = 8 := rfl
theorem blockW_length (st : List UInt32) (block : List UInt8) (h : st.length = 8) : (blockW st block).length = 8 := by
  simp [blockW, h, ofE_length]

/-- What stands behind n bytes. -/
def padB (n : Nat) : List UInt8 := 128 :: List.replicate ((119 - n % 64) % 64) 0 ++ (lowB (8 * n % 18446744073709551616) 8).reverse
theorem padB_length (n : Nat) : (padB n).length = 9 + (119 - n % 64) % 64 := by
  simp [padB, lowB_length]; omega

/-- Block by block. -/
def foldB (st : List UInt32) (all : List UInt8) : Nat → List UInt32
  | 0 => st
  | k + 1 => blockW (foldB st all k) ((all.drop (64 * k)).take 64)
theorem foldB_length (st : List UInt32) (all : List UInt8) (k : Nat) (h : st.length = 8) : (foldB st all k).length = 8 := by
  induction k with
  | zero => exact h
  | succ k ih => exact blockW_length _ _ ih
def bytesOfW (l : List UInt32) : List UInt8 := l.flatMap fun x => (lowB x.toNat 4).reverse
def paddedB (b : List UInt8) : List UInt8 := b ++ padB b.length
def digestB (b : List UInt8) : List UInt8 := bytesOfW (foldB squaresW (paddedB b) ((paddedB b).length / 64))
theorem bytesOfW_length (l : List UInt32) : (bytesOfW l).length = 4 * l.length := by
  induction l with
  | nil => rfl
  | cons x l ih => simp only [bytesOfW, List.flatMap_cons, List.length_append, List.length_reverse, lowB_length, List.length_cons] at *; omega
theorem digestB_length (b : List UInt8) : (digestB b).length = 32 := by
  rw [digestB, bytesOfW_length, foldB_length _ _ _ squaresW_length]
set_option maxRecDepth 100000 in
theorem digest_empty : digestB [] = [0xe3, 0xb0, 0xc4, 0x42, 0x98, 0xfc, 0x1c, 0x14, 0x9a, 0xfb, 0xf4, 0xc8, 0x99, 0x6f, 0xb9, 0x24, 0x27, 0xae, 0x41, 0xe4, 0x64, 0x9b, 0x93, 0x4c, 0xa4, 0x95, 0x99, 0x1b, 0x78, 0x52, 0xb8, 0x55] := by decide +kernel
theorem digest_abc : digestB [97, 98, 99] = [0xba, 0x78, 0x16, 0xbf, 0x8f, 0x01, 0xcf, 0xea, 0x41, 0x41, 0x40, 0xde, 0x5d, 0xae, 0x22, 0x23, 0xb0, 0x03, 0x61, 0xa3, 0x96, 0x17, 0x7a, 0x9c, 0xb4, 0x10, 0xff, 0x61, 0xf2, 0x00, 0x15, 0xad] := by decide +kernel
end Go.Proofs.YtjdbjgaoeijmfaaDoor
end
section
namespace Go.Proofs.YtjdbjgaoeijmfaaDoor
open Go.RowKit
set_option linter.unusedVariables false

theorem low5 (n : Nat) (h1 : 1 ≤ n) (h2 : n ≤ 31) : (18446744073709551616 - n) &&& 31 = 32 - n := by
  rw [show (31 : Nat) = 2 ^ 5 - 1 from rfl, Nat.and_two_pow_sub_one_eq_mod]
  omega

theorem low5_int (n m : Nat) (h1 : 1 ≤ n) (h2 : n ≤ 31) (hm : m + n = 32) : bits .and .u64 (IntKind.u64.wrap (-(n : Int))) 31 = (m : Int) := by
  have e : IntKind.u64.wrap (-(n : Int)) = ((18446744073709551616 - n : Nat) : Int) := by
    rw [IntKind.wrap_u64]
    omega
  rw [e]
  have := u64_and_nat (18446744073709551616 - n) 31 (by omega) (by omega)
  rw [show ((31 : Nat) : Int) = 31 from rfl] at this
  rw [this, low5 n h1 h2]
  omega

theorem rot_int (x : UInt32) (n m : Nat) (hm : m + n = 32) : bits .or .u32 ((x.toNat : Int) * 2 ^ m % 4294967296) ((x.toNat : Int) / 2 ^ n) = ((rotr x n).toNat : Int) := by
  have e1 : (x.toNat : Int) * 2 ^ m % 4294967296 = ((x.toNat * 2 ^ m % 4294967296 : Nat) : Int) := by simp
  have e2 : (x.toNat : Int) / 2 ^ n = ((x.toNat / 2 ^ n : Nat) : Int) := by simp
  rw [e1, e2, u32_or_nat _ _ (Nat.mod_lt _ (by omega)) (div_lt32 x n), rotr_toNat, show 32 - n = m by omega]
theorem movr_int (x : UInt32) (n : Nat) : ((movr x n).toNat : Int) = (x.toNat : Int) / 2 ^ n := by
  rw [movr_toNat]; simp

theorem Rot_any (w : World) (x : UInt32) (n : Nat) (h1 : 1 ≤ n) (h2 : n ≤ 31) :
    Calls Tryd.prog 86 #[.int .u32 (x.toNat : Int), .int .i64 (-(n : Int))] w fun e w' => e = .returned (.int .u32 ((rotr x n).toNat : Int)) ∧ w = w' := by
  have hx := x.toNat_lt
  obtain ⟨m, hm⟩ : ∃ m, m + n = 32 := ⟨32 - n, by omega⟩
  have hs := low5_int n m h1 h2 hm
  have hs2 : IntKind.u64.wrap (32 - (m : Int)) = (n : Int) := by rw [IntKind.wrap_u64]; omega
  go_enter Tryd.func86, Tryd.ntmps86
  go_wp2
  go_ret
  exact ⟨ret_int (rot_int x n m hm), rfl⟩

theorem turned_any (w : World) (x : UInt32) (a b c : Nat) (ha : 1 ≤ a ∧ a ≤ 31) (hb : 1 ≤ b ∧ b ≤ 31) (hc : 1 ≤ c ∧ c ≤ 31) :
    Calls Tryd.prog 83 #[.int .u32 (x.toNat : Int), .int .i64 (a : Int), .int .i64 (b : Int), .int .i64 (c : Int)] w fun e w' => e = .returned (.int .u32 ((bigS x a b c).toNat : Int)) ∧ w = w' := by
  go_enter Tryd.func83, Tryd.ntmps83
  go_wp2_with fail
  refine (Rot_any _ x a ha.1 ha.2).mono ?_
  rintro e w' ⟨rfl, rfl⟩
  go_wp2_with fail
  refine (Rot_any _ x b hb.1 hb.2).mono ?_
  rintro e w' ⟨rfl, rfl⟩
  go_wp2_with fail
  refine (Rot_any _ x c hc.1 hc.2).mono ?_
  rintro e w' ⟨rfl, rfl⟩
  go_wp2
  go_ret
  exact ⟨ret_int (by rw [xor32, xor32]; rfl), rfl⟩

theorem moved_any (w : World) (x : UInt32) (a b c : Nat) (ha : 1 ≤ a ∧ a ≤ 31) (hb : 1 ≤ b ∧ b ≤ 31) (hc : 1 ≤ c ∧ c ≤ 31) :
    Calls Tryd.prog 96 #[.int .u32 (x.toNat : Int), .int .i64 (a : Int), .int .i64 (b : Int), .int .i64 (c : Int)] w fun e w' => e = .returned (.int .u32 ((smallS x a b c).toNat : Int)) ∧ w = w' := by
  have hx := x.toNat_lt
  go_enter Tryd.func96, Tryd.ntmps96
  go_wp2_with fail
  refine (Rot_any _ x a ha.1 ha.2).mono ?_
  rintro e w' ⟨rfl, rfl⟩
  go_wp2_with fail
  refine (Rot_any _ x b hb.1 hb.2).mono ?_
  rintro e w' ⟨rfl, rfl⟩
  go_wp2
  go_ret
  exact ⟨ret_int (by rw [xor32, ← movr_int, xor32]; rfl), rfl⟩
end Go.Proofs.YtjdbjgaoeijmfaaDoor
end
section
namespace Go.Proofs.YtjdbjgaoeijmfaaDoor
open Go.RowKit
set_option linter.unusedVariables false
set_option maxRecDepth 20000

theorem take8 (l : List UInt8) (k : Nat) (hk : k ≤ l.length) (h8 : k ≤ 8) (h : ¬ (k < 8 ∧ k < l.length)) : l.take 8 = l.take k := by
  by_cases h1 : k = 8
  · rw [h1]
  · rw [List.take_of_length_le (by omega), List.take_of_length_le (by omega)]

theorem mul256_lt (k b : Nat) (hk : k < 8) (hb : b < 256) : 256 ^ k * b < 18446744073709551616 := by
  have h1 : 256 ^ k * b < 256 ^ k * 256 := Nat.mul_lt_mul_of_pos_left hb (Nat.pow_pos (by omega))
  have h2 := pow256_le (k + 1) (by omega)
  rw [Nat.pow_succ] at h2
  omega

theorem or_low (k q b : Nat) (hk : k < 8) (hq : q < 256 ^ k) (hb : b < 256) :
    bits .or .u64 (q : Int) (IntKind.u64.wrap ((b : Int) * 2 ^ (8 * k))) = ((q + 256 ^ k * b : Nat) : Int) := by
  have hv : ((b : Int) * 2 ^ (8 * k)) = ((256 ^ k * b : Nat) : Int) := by
    have h : (2 : Int) ^ (8 * k) = ((256 ^ k : Nat) : Int) := by
      rw [show (256 : Nat) = 2 ^ 8 from rfl, ← Nat.pow_mul]
      simp
    rw [h, Int.natCast_mul, Int.mul_comm]
  have hlt := mul256_lt k b hk hb
  have hw : IntKind.u64.wrap ((256 ^ k * b : Nat) : Int) = ((256 ^ k * b : Nat) : Int) := by
    rw [IntKind.wrap_u64]; omega
  have hq2 : q < 18446744073709551616 := Nat.lt_of_lt_of_le hq (pow256_le k (by omega))
  rw [hv, hw, u64_or_nat _ _ hq2 hlt]
  have e : 256 ^ k = 2 ^ (8 * k) := by rw [show (256 : Nat) = 2 ^ 8 from rfl, ← Nat.pow_mul]
  have := Nat.two_pow_add_eq_or_of_lt (b := q) (i := 8 * k) (by rw [← e]; exact hq) b
  rw [Nat.or_comm, e, ← this, Nat.add_comm]

theorem or_high (k q b : Nat) (hk : k < 8) (hq : q < 256 ^ k) (hb : b < 256) :
    bits .or .u64 (IntKind.u64.wrap ((q : Int) * 256)) (b : Int) = ((q * 256 + b : Nat) : Int) := by
  have h2 := pow256_le (k + 1) (by omega)
  rw [Nat.pow_succ] at h2
  have hw : IntKind.u64.wrap ((q : Int) * 256) = ((2 ^ 8 * q : Nat) : Int) := by
    rw [IntKind.wrap_u64]; omega
  have := Nat.two_pow_add_eq_or_of_lt (b := b) (i := 8) hb q
  rw [hw, u64_or_nat _ _ (by omega) (by omega), ← this]
  omega

set_option maxHeartbeats 400000 in
theorem OfLow_any (w : World) (v : Value) (l : List UInt8) (h : Bs w v l) :
    Calls Tryd.prog 85 #[v] w fun e w' => e = .returned (.int .u64 (ofLowB (l.take 8) : Int)) ∧ w = w' := by
  obtain ⟨A, c, rfl, h1, h2, h3⟩ := h
  unfold maxLen at h2
  by_cases h8 : 8 < l.length
  all_goals
    go_enter Tryd.func85, Tryd.ntmps85
    go_wp2
    go_loop [3, 8] (fun n i => ∃ k q : Nat, k ≤ 8 ∧ k ≤ l.length ∧ i = .int .i64 k ∧ q = ofLowB (l.take k) ∧ n = .int .u64 (q : Int)) (fun _ i => 8 - (intOf i).toNat)
    case atStart => exact ⟨0, 0, by omega, Nat.zero_le _, rfl, by simp [ofLowB], rfl⟩
    case round =>
      obtain ⟨k, q, hk, hk2, rfl, hq, rfl⟩ := hrel
      have hql : q < 256 ^ k := by
        have := ofLowB_lt (l.take k); rw [← hq, List.length_take_of_le (by omega)] at this; exact this
      have hq64 : q < 18446744073709551616 := Nat.lt_of_lt_of_le hql (pow256_le k (by omega))
      have HQ := Lib.hid hq
      have HQL := Lib.hid hql
      clear hq hql
      by_cases hlt : k < 8 ∧ k < l.length
      · obtain ⟨hlt1, hlt2⟩ := hlt
        obtain ⟨b0, o0, rfl, hc⟩ := h3 (by omega)
        have hcell := hc k (by omega)
        have hb := l[k].toNat_lt
        clear hc
        go_wp2
        go_round
        case rel => 
          refine ⟨k + 1, ofLowB (l.take (k + 1)), by omega, by omega, by go_num, rfl, ?_⟩
          rw [or_low k q _ hlt1 HQL.out hb, List.take_succ_eq_append_getElem hlt2, ofLowB_snoc, List.length_take_of_le hk2, HQ.out]
        case measure => simp [intOf]; omega
      · have hfin := take8 l k hk2 hk hlt
        have HF := Lib.hid hfin
        clear hfin
        go_wp2
        go_ret
        exact ⟨ret_int (by rw [HF.out, HQ.out]), rfl⟩

set_option maxHeartbeats 400000 in
theorem OfHigh_any (w : World) (v : Value) (l : List UInt8) (h : Bs w v l) :
    Calls Tryd.prog 95 #[v] w fun e w' => e = .returned (.int .u64 (ofHighB (l.take 8) : Int)) ∧ w = w' := by
  obtain ⟨A, c, rfl, h1, h2, h3⟩ := h
  unfold maxLen at h2
  by_cases h8 : 8 < l.length
  all_goals
    go_enter Tryd.func95, Tryd.ntmps95
    go_wp2
    go_loop [3, 8] (fun n i => ∃ k q : Nat, k ≤ 8 ∧ k ≤ l.length ∧ i = .int .i64 k ∧ q = ofHighB (l.take k) ∧ n = .int .u64 (q : Int)) (fun _ i => 8 - (intOf i).toNat)
    case atStart => exact ⟨0, 0, by omega, Nat.zero_le _, rfl, by simp [ofHighB, ofLowB], rfl⟩
    case round =>
      obtain ⟨k, q, hk, hk2, rfl, hq, rfl⟩ := hrel
      have hql : q < 256 ^ k := by
        have := ofHighB_lt (l.take k); rw [← hq, List.length_take_of_le (by omega)] at this; exact this
      have hq64 : q < 18446744073709551616 := Nat.lt_of_lt_of_le hql (pow256_le k (by omega))
      have HQ := Lib.hid hq
      have HQL := Lib.hid hql
      clear hq hql
      by_cases hlt : k < 8 ∧ k < l.length
      · obtain ⟨hlt1, hlt2⟩ := hlt
        obtain ⟨b0, o0, rfl, hc⟩ := h3 (by omega)
        have hcell := hc k (by omega)
        have hb := l[k].toNat_lt
        clear hc
        go_wp2
        go_round
        case rel => 
          refine ⟨k + 1, ofHighB (l.take (k + 1)), by omega, by omega, by go_num, rfl, ?_⟩
          rw [or_high k q _ hlt1 HQL.out hb, List.take_succ_eq_append_getElem hlt2, ofHighB_snoc, HQ.out]
        case measure => simp [intOf]; omega
      · have hfin := take8 l k hk2 hk hlt
        have HF := Lib.hid hfin
        clear hfin
        go_wp2
        go_ret
        exact ⟨ret_int (by rw [HF.out, HQ.out]), rfl⟩


end Go.Proofs.YtjdbjgaoeijmfaaDoor
end
section
namespace Go.Proofs.YtjdbjgaoeijmfaaDoor
open Go.RowKit
set_option linter.unusedVariables false

/-- The first k words, and zeros behind them. -/
def partW (block : List UInt8) (k : Nat) : List UInt32 := wordsTo block k ++ List.replicate (64 - k) 0
theorem partW_length (block : List UInt8) (k : Nat) (h : k ≤ 64) : (partW block k).length = 64 := by simp [partW, wordsTo_length]; omega
theorem partW_step (block : List UInt8) (k : Nat) (h : k < 64) : (partW block k).set k (if k < 16 then wordOf block k else nextW (wordsTo block k) k) = partW block (k + 1) := by
  unfold partW
  rw [List.set_append_right _ _ (by rw [wordsTo_length]; exact Nat.le_refl _), wordsTo_length, Nat.sub_self, wordsTo, List.append_assoc]
  congr 1
  have e2 : 64 - k = (64 - (k + 1)) + 1 := by omega
  rw [e2, List.replicate_succ]
  simp
theorem partW_get (block : List UInt8) (k j : Nat) (h : j < k) : (partW block k).getD j 0 = (wordsTo block k).getD j 0 := by
  unfold partW
  simp only [List.getD_eq_getElem?_getD]
  rw [List.getElem?_append_left (by rw [wordsTo_length]; exact h)]

theorem Tryd.zero64 : (Tryd.prog.info? 118).map (·.zero) = some (some (.agg (wordsC (List.replicate 64 0)))) := by kernel_rfl
theorem Tryd.size64 : (Tryd.prog.info? 118).map (·.size) = some 64 := by kernel_rfl
theorem Tryd.size64l (l : List UInt32) (h : l.length = 64) : (Tryd.prog.info? 118).map (·.size) = some (wordsC l).size := by rw [wordsC_size, h]; exact Tryd.size64

set_option maxHeartbeats 1000000 in
set_option maxRecDepth 20000 in
theorem spread_any (w : World) (block : List UInt8) (hl : block.length = 64) :
    Calls Tryd.prog 82 #[keyV block] w (RetV w (.agg (wordsC (wordsTo block 64)))) := by
  obtain ⟨fin, hfin⟩ : ∃ fin, fin = wordsC (wordsTo block 64) := ⟨_, rfl⟩
  rw [← hfin]
  have HF := Lib.hid hfin
  have HL := Lib.hid hl
  clear hfin hl
  go_enter Tryd.func82, Tryd.ntmps82
  go_wp2_with (first | ((with_reducible refine wpList_box_row (o := ⟨some 1, _, _, _, _, _⟩) rfl 75 (.tmp 0) rfl (keyC block) (by with_unfolding_all rfl) ?_); intro g1 w1 n1) | ((with_reducible refine wpList_alloc_row (o := ⟨some 2, _, _, _, _, _⟩) rfl 118 rfl (wordsC (List.replicate 64 0)) Tryd.zero64 ?_); intro g2 w2 n2) | ((with_reducible refine wpList_alloc_row (o := ⟨some 3, _, _, _, _, _⟩) rfl 118 rfl (wordsC (List.replicate 64 0)) Tryd.zero64 ?_); intro g3 w3 n3))
  have hr1 : RowAt w3 g1 75 (keyC block) := (n1.row.kept n2.below).kept n3.below
  have hg3 : w2.heap.size ≤ g3 := Nat.le_of_eq n3.spot.symm
  have hr3 : RowAt w3 g3 118 (wordsC (partW block 0)) := n3.row
  have hlt1 : g1 < w2.heap.size := Nat.lt_of_lt_of_le n1.row.lt n2.below.size
  go_loopw [6] (fun i wr => ∃ k : Nat, k ≤ 16 ∧ i = .int .i64 k ∧ RowAt wr g3 118 (wordsC (partW block k)) ∧ RowAt wr g1 75 (keyC block) ∧ Below w2.heap.size w2 wr) (fun i _ => 16 - (intOf i).toNat)
  case atStart => exact ⟨0, Nat.zero_le _, rfl, hr3, hr1, n3.below⟩
  case round =>
    obtain ⟨k, hk, rfl, hr, hrb, hb⟩ := hrel
    clear hr3 hr1
    have HR := Lib.hid hr
    have HRB := Lib.hid hrb
    have HB := Lib.hid hb
    have N1 := Lib.hid n1
    have N2 := Lib.hid n2
    have N3 := Lib.hid n3
    clear hr hrb hb n1 n2 n3
    by_cases hlt : k < 16
    · have hsl := fun x : World => run_sliceArr (P := Tryd.prog) x 75 5 64 Tryd.underlying75 Tryd.sizeB g1 0 (4 * k) (4 * k + 4) (4 * (k : Int)) (4 * ((k : Int) + 1)) (by omega) (by omega) (by omega) (by omega) (by omega)
      rw [Nat.zero_add, show 4 * k + 4 - 4 * k = 4 by omega] at hsl
      have hcell := wordsC_cell HR.out k (by rw [partW_length _ _ (by omega)]; omega)
      have hfz := HR.out.frozen k
      have hv := ofHighB_lt ((block.drop (4 * k)).take 4)
      rw [show ((block.drop (4 * k)).take 4).length = 4 by simp [HL.out]; omega] at hv
      have hwo : IntKind.u32.wrap (ofHighB ((block.drop (4 * k)).take 4) : Int) = ((wordOf block k).toNat : Int) := by
        rw [IntKind.wrap_u32, wordOf, UInt32.toNat_ofNat']
        omega
      have hput := HR.out.put k (.int .u32 ((wordOf block k).toNat : Int))
      have hps := partW_step block k (by omega)
      rw [if_pos hlt] at hps
      rw [wordsC_put, hps] at hput
      have HP := Lib.hid hput
      have HW := Lib.hid hwo
      have ht8 : ((block.drop (4 * k)).take 4).take 8 = (block.drop (4 * k)).take 4 := List.take_of_length_le (by simp; omega)
      have HT := Lib.hid ht8
      clear hv hput hps hwo ht8
      go_wp2_with fail
      refine (OfHigh_any _ _ ((block.drop (4 * k)).take 4) (Bs.part HRB.out (4 * k) 4 (64 - 4 * k) (by rw [HL.out]; omega) (by omega) (by unfold maxLen; omega))).mono ?_
      rintro e w' ⟨rfl, rfl⟩
      rw [HT.out]
      have hwo := HW.out
      go_wp2
      go_roundw
      case rel => exact ⟨k + 1, by omega, by go_num, HP.out, HRB.out.far (by show g1 ≠ g3; omega) _, HB.out.setCell hg3 _⟩
      case measure => simp [intOf]; omega
    · have hk16 : k = 16 := by omega
      have HR16 : Hid (RowAt wr g3 118 (wordsC (partW block 16))) := by rw [← hk16]; exact HR
      clear hk16 HR
      go_wp2
      go_loopw [5] (fun i wr => ∃ k : Nat, 16 ≤ k ∧ k ≤ 64 ∧ i = .int .i64 k ∧ RowAt wr g3 118 (wordsC (partW block k)) ∧ Below w2.heap.size w2 wr) (fun i _ => 64 - (intOf i).toNat)
      case atStart => exact ⟨16, by omega, by omega, rfl, HR16.out, HB.out⟩
      case round =>
        clear HR16 HB HRB
        rename_i k0 _ _ _ _
        obtain ⟨k, hk16, hk64, rfl, hr, hb⟩ := hrel
        have HR := Lib.hid hr
        have HB := Lib.hid hb
        clear hr hb
        by_cases hlt : k < 64
        · obtain ⟨p1, hp1⟩ : ∃ p, p + 16 = k := ⟨k - 16, by omega⟩
          obtain ⟨p2, hp2⟩ : ∃ p, p + 15 = k := ⟨k - 15, by omega⟩
          obtain ⟨p3, hp3⟩ : ∃ p, p + 7 = k := ⟨k - 7, by omega⟩
          obtain ⟨p4, hp4⟩ : ∃ p, p + 2 = k := ⟨k - 2, by omega⟩
          have hs1 : IntKind.i64.wrap ((k : Int) - 16) = (p1 : Int) := by rw [IntWalk.i64_in _ (by omega)]; omega
          have hs2 : IntKind.i64.wrap ((k : Int) - 15) = (p2 : Int) := by rw [IntWalk.i64_in _ (by omega)]; omega
          have hs3 : IntKind.i64.wrap ((k : Int) - 7) = (p3 : Int) := by rw [IntWalk.i64_in _ (by omega)]; omega
          have hs4 : IntKind.i64.wrap ((k : Int) - 2) = (p4 : Int) := by rw [IntWalk.i64_in _ (by omega)]; omega
          have hln := partW_length block k (by omega)
          have hc1 := wordsC_cell HR.out p1 (by omega)
          have hc2 := wordsC_cell HR.out p2 (by omega)
          have hc3 := wordsC_cell HR.out p3 (by omega)
          have hc4 := wordsC_cell HR.out p4 (by omega)
          have hcell := wordsC_cell HR.out k (by omega)
          have hfz := HR.out.frozen k
          rw [partW_get _ _ _ (by omega)] at hc1 hc2 hc3 hc4
          have hps := partW_step block k hlt
          rw [if_neg (by omega), nextW, show k - 16 = p1 by omega, show k - 15 = p2 by omega, show k - 7 = p3 by omega, show k - 2 = p4 by omega] at hps
          generalize (wordsTo block k).getD p1 0 = x1 at hc1 hps
          generalize (wordsTo block k).getD p2 0 = x2 at hc2 hps
          generalize (wordsTo block k).getD p3 0 = x3 at hc3 hps
          generalize (wordsTo block k).getD p4 0 = x4 at hc4 hps
          generalize (partW block k).getD k 0 = x5 at hcell
          obtain ⟨xs, hxs⟩ : ∃ xs, xs = x1 + smallS x2 7 18 3 + x3 + smallS x4 17 19 10 := ⟨_, rfl⟩
          have HXS := Lib.hid hxs
          have hput := HR.out.put k (.int .u32 (xs.toNat : Int))
          rw [wordsC_put, hxs, hps, ← hxs] at hput
          clear hxs
          have HP := Lib.hid hput
          clear hln hps hput
          have hq1 : (p1 : Int) < 64 := by omega
          have hq2 : (p2 : Int) < 64 := by omega
          have hq3 : (p3 : Int) < 64 := by omega
          have hq4 : (p4 : Int) < 64 := by omega
          have hq5 : (k : Int) < 64 := by omega
          go_wp2_with fail
          go_still_tail 23, (by kernel_rfl)
          still_call ((moved_any _ x2 7 18 3 (by omega) (by omega) (by omega)).mono fun _ _ h => ⟨h.1, h.2.symm⟩)
          repeat still_step
          still_call ((moved_any _ x4 17 19 10 (by omega) (by omega) (by omega)).mono fun _ _ h => ⟨h.1, h.2.symm⟩)
          repeat still_step
          refine wpStill_nil ?_
          simp only [add32]
          rw [← HXS.out]
          change wpList _ _ _ _ _ wr.drew
          go_wp2
          go_roundw
          case rel => exact ⟨k + 1, by omega, by omega, by go_num, HP.out.drew, (HB.out.setCell hg3 _).drew⟩
          case measure => simp [intOf]; omega
        · have hk2 : k = 64 := by omega
          have HR2 : Hid (RowAt wr g3 118 fin) := by
            have := HR.out
            unfold partW at this
            rw [hk2] at this
            rw [HF.out]
            show RowAt _ _ _ _
            simpa using this
          have hsz : (wordsC (List.replicate 64 0)).size = fin.size := by rw [HF.out, wordsC_size, wordsC_size, wordsTo_length, List.length_replicate]
          have hsi : (Tryd.prog.info? 118).map (·.size) = some fin.size := by rw [HF.out, wordsC_size, wordsTo_length]; exact Tryd.size64
          have hone : ∀ u ∈ fin.toList, u.oneCell' = true := by rw [HF.out]; exact wordsC_one _
          have HS1 := Lib.hid hsz
          have HS2 := Lib.hid hsi
          have HS3 := Lib.hid hone
          have HG2 : Hid (RowAt wr g2 118 (wordsC (List.replicate 64 0))) := N2.out.row.below HB.out N2.out.row.lt
          clear hk2 hsz hsi hone
          go_wp2_with (first | (with_reducible refine wpList_load_row rfl 118 (.tmp 3) rfl g3 (by with_unfolding_all rfl) 118 fin (0, 0) (.array 64 48) (by with_unfolding_all exact HR2.out) Tryd.underlying118 rfl HS2.out ?_) | ((with_reducible refine wpList_store_row rfl 118 (.tmp 2) (.tmp 47) rfl g2 118 _ fin (by with_unfolding_all rfl) (by with_unfolding_all rfl) HG2.out HS1.out HS2.out HS3.out ?_); intro w4 p4))
          refine bodyPost_ret (results_cell_row rfl _ _ g2 118 fin (0, 0) (.array 64 48) rfl p4.row Tryd.underlying118 rfl HS2.out) rfl ⟨rfl, ?_⟩
          exact p4.below (below_size (below_size N1.out.below N2.out.below) HB.out) (by have := N1.out.below.size; have := N2.out.below.size; have := HB.out.size; omega) (by have := N2.out.spot; have := N1.out.below.size; omega)
end Go.Proofs.YtjdbjgaoeijmfaaDoor
end
section
namespace Go.Proofs.YtjdbjgaoeijmfaaDoor
open Go.RowKit
set_option linter.unusedVariables false
set_option maxRecDepth 20000

/-- The two tables at package level hold what the program's text lays. -/
structure Tabs (w : World) : Prop where
  cubes : ∀ j, j < 64 → w.cell? ⟨2, j, none⟩ = some (.int .u32 ((cubesW.getD j 0).toNat : Int))
  squares : ∀ j, j < 8 → w.cell? ⟨1, j, none⟩ = some (.int .u32 ((squaresW.getD j 0).toNat : Int))
theorem Tabs.below {w w' : World} (h : Tabs w) (hb : Below w.heap.size w w') : Tabs w' :=
  ⟨fun j hj => (hb.cell (World.block_lt_of_cell? w _ (h.cubes j hj))).trans (h.cubes j hj), fun j hj => (hb.cell (World.block_lt_of_cell? w _ (h.squares j hj))).trans (h.squares j hj)⟩

theorem not32 (x : UInt32) : 4294967295 - (x.toNat : Int) = ((4294967295 - x).toNat : Int) := by
  have := x.toNat_lt
  rw [UInt32.toNat_sub_of_le _ _ (by rw [UInt32.le_iff_toNat_le]; show x.toNat ≤ 4294967295; omega)]
  show _ = ((4294967295 - x.toNat : Nat) : Int)
  omega

theorem xor_ones (x : UInt32) : (4294967295 : UInt32) ^^^ x = 4294967295 - x := by
  have hx := x.toNat_lt
  apply UInt32.toNat_inj.1
  rw [UInt32.toNat_sub_of_le _ _ (by rw [UInt32.le_iff_toNat_le]; show x.toNat ≤ 4294967295; omega)]
  have h : (4294967295 : UInt32) ^^^ x = ⟨~~~ x.toBitVec⟩ := by
    apply UInt32.toBitVec_inj.1
    rw [UInt32.toBitVec_xor]
    show BitVec.allOnes 32 ^^^ x.toBitVec = _
    rw [BitVec.allOnes_xor]
  rw [h]
  show (~~~ x.toBitVec).toNat = _
  rw [BitVec.toNat_not]
  rfl
theorem flip32 (x : UInt32) : bits .xor .u32 (if IntKind.u32.signed = true then -1 else IntKind.u32.max) (x.toNat : Int) = ((4294967295 - x).toNat : Int) := by
  rw [← xor_ones, ← xor32]
  rfl

theorem add32m (a b : UInt32) : ((a.toNat : Int) + (b.toNat : Int)) % 4294967296 = ((a + b).toNat : Int) := by
  rw [UInt32.toNat_add]; omega

theorem Tryd.zero8 : (Tryd.prog.info? 101).map (·.zero) = some (some (.agg (wordsC (List.replicate 8 0)))) := by kernel_rfl
theorem Tryd.size8 : (Tryd.prog.info? 101).map (·.size) = some 8 := by kernel_rfl
theorem Tryd.size8l (l : List UInt32) (h : l.length = 8) : (Tryd.prog.info? 101).map (·.size) = some (wordsC l).size := by rw [wordsC_size, h]; exact Tryd.size8
theorem Tryd.size64b0 : (Tryd.prog.info? 75).map (·.size) = some 64 := by kernel_rfl
theorem Tryd.size64b (l : List UInt8) (h : l.length = 64) : (Tryd.prog.info? 75).map (·.size) = some (keyC l).size := by rw [keyC_size, h]; exact Tryd.size64b0

/-- The first k sums. -/
def mixed (st l : List UInt32) (k : Nat) : List UInt32 := (List.zipWith (· + ·) st l).take k ++ st.drop k
theorem mixed_length (st l : List UInt32) (k : Nat) (h : st.length = 8) (hl : l.length = 8) (hk : k ≤ 8) : (mixed st l k).length = 8 := by simp [mixed, h, hl]; omega
theorem mixed_zero (st l : List UInt32) : mixed st l 0 = st := by simp [mixed]
theorem mixed_all (st l : List UInt32) (h : st.length = 8) (hl : l.length = 8) : mixed st l 8 = List.zipWith (· + ·) st l := by
  unfold mixed
  rw [List.take_of_length_le (by simp [h, hl]), List.drop_of_length_le (by omega), List.append_nil]
theorem mixed_get (st l : List UInt32) (k : Nat) (h : st.length = 8) (hl : l.length = 8) (hk : k < 8) : (mixed st l k).getD k 0 = st.getD k 0 := by
  unfold mixed
  simp only [List.getD_eq_getElem?_getD]
  rw [List.getElem?_append_right (by simp [h, hl]; omega)]
  simp [h, hl, show min k 8 = k by omega]
theorem mixed_step (st l : List UInt32) (k : Nat) (h : st.length = 8) (hl : l.length = 8) (hk : k < 8) : (mixed st l k).set k (st.getD k 0 + l.getD k 0) = mixed st l (k + 1) := by
  unfold mixed
  have hz : (List.zipWith (· + ·) st l).length = 8 := by simp [h, hl]
  rw [List.set_append_right _ _ (by simp [h, hl]; omega), List.take_succ_eq_append_getElem (by omega), List.append_assoc]
  congr 1
  rw [show k - ((List.zipWith (· + ·) st l).take k).length = 0 by simp [h, hl]; omega, List.drop_eq_getElem_cons (l := st) (i := k) (by omega), List.set_cons_zero]
  simp [h, hl, hk]

theorem Tryd.index8_0 (x : World) (s : Eight8) : (Instr.index 101 (.agg #[.int .u32 (s.a.toNat : Int), .int .u32 (s.b.toNat : Int), .int .u32 (s.c.toNat : Int), .int .u32 (s.d.toNat : Int), .int .u32 (s.e.toNat : Int), .int .u32 (s.f.toNat : Int), .int .u32 (s.g.toNat : Int), .int .u32 (s.h.toNat : Int)]) (.int .i64 0)).run Tryd.prog x = .ok (.int .u32 (s.a.toNat : Int)) x := by kernel_rfl
theorem Tryd.index8_1 (x : World) (s : Eight8) : (Instr.index 101 (.agg #[.int .u32 (s.a.toNat : Int), .int .u32 (s.b.toNat : Int), .int .u32 (s.c.toNat : Int), .int .u32 (s.d.toNat : Int), .int .u32 (s.e.toNat : Int), .int .u32 (s.f.toNat : Int), .int .u32 (s.g.toNat : Int), .int .u32 (s.h.toNat : Int)]) (.int .i64 1)).run Tryd.prog x = .ok (.int .u32 (s.b.toNat : Int)) x := by kernel_rfl
theorem Tryd.index8_2 (x : World) (s : Eight8) : (Instr.index 101 (.agg #[.int .u32 (s.a.toNat : Int), .int .u32 (s.b.toNat : Int), .int .u32 (s.c.toNat : Int), .int .u32 (s.d.toNat : Int), .int .u32 (s.e.toNat : Int), .int .u32 (s.f.toNat : Int), .int .u32 (s.g.toNat : Int), .int .u32 (s.h.toNat : Int)]) (.int .i64 2)).run Tryd.prog x = .ok (.int .u32 (s.c.toNat : Int)) x := by kernel_rfl
theorem Tryd.index8_3 (x : World) (s : Eight8) : (Instr.index 101 (.agg #[.int .u32 (s.a.toNat : Int), .int .u32 (s.b.toNat : Int), .int .u32 (s.c.toNat : Int), .int .u32 (s.d.toNat : Int), .int .u32 (s.e.toNat : Int), .int .u32 (s.f.toNat : Int), .int .u32 (s.g.toNat : Int), .int .u32 (s.h.toNat : Int)]) (.int .i64 3)).run Tryd.prog x = .ok (.int .u32 (s.d.toNat : Int)) x := by kernel_rfl
theorem Tryd.index8_4 (x : World) (s : Eight8) : (Instr.index 101 (.agg #[.int .u32 (s.a.toNat : Int), .int .u32 (s.b.toNat : Int), .int .u32 (s.c.toNat : Int), .int .u32 (s.d.toNat : Int), .int .u32 (s.e.toNat : Int), .int .u32 (s.f.toNat : Int), .int .u32 (s.g.toNat : Int), .int .u32 (s.h.toNat : Int)]) (.int .i64 4)).run Tryd.prog x = .ok (.int .u32 (s.e.toNat : Int)) x := by kernel_rfl
theorem Tryd.index8_5 (x : World) (s : Eight8) : (Instr.index 101 (.agg #[.int .u32 (s.a.toNat : Int), .int .u32 (s.b.toNat : Int), .int .u32 (s.c.toNat : Int), .int .u32 (s.d.toNat : Int), .int .u32 (s.e.toNat : Int), .int .u32 (s.f.toNat : Int), .int .u32 (s.g.toNat : Int), .int .u32 (s.h.toNat : Int)]) (.int .i64 5)).run Tryd.prog x = .ok (.int .u32 (s.f.toNat : Int)) x := by kernel_rfl
theorem Tryd.index8_6 (x : World) (s : Eight8) : (Instr.index 101 (.agg #[.int .u32 (s.a.toNat : Int), .int .u32 (s.b.toNat : Int), .int .u32 (s.c.toNat : Int), .int .u32 (s.d.toNat : Int), .int .u32 (s.e.toNat : Int), .int .u32 (s.f.toNat : Int), .int .u32 (s.g.toNat : Int), .int .u32 (s.h.toNat : Int)]) (.int .i64 6)).run Tryd.prog x = .ok (.int .u32 (s.g.toNat : Int)) x := by kernel_rfl
theorem Tryd.index8_7 (x : World) (s : Eight8) : (Instr.index 101 (.agg #[.int .u32 (s.a.toNat : Int), .int .u32 (s.b.toNat : Int), .int .u32 (s.c.toNat : Int), .int .u32 (s.d.toNat : Int), .int .u32 (s.e.toNat : Int), .int .u32 (s.f.toNat : Int), .int .u32 (s.g.toNat : Int), .int .u32 (s.h.toNat : Int)]) (.int .i64 7)).run Tryd.prog x = .ok (.int .u32 (s.h.toNat : Int)) x := by kernel_rfl
theorem Tryd.index8 (x : World) (s : Eight8) (k : Nat) (hk : k < 8) :
    (Instr.index 101 (.agg #[.int .u32 (s.a.toNat : Int), .int .u32 (s.b.toNat : Int), .int .u32 (s.c.toNat : Int), .int .u32 (s.d.toNat : Int), .int .u32 (s.e.toNat : Int), .int .u32 (s.f.toNat : Int), .int .u32 (s.g.toNat : Int), .int .u32 (s.h.toNat : Int)]) (.int .i64 (k : Int))).run Tryd.prog x = .ok (.int .u32 (((ofE s).getD k 0).toNat : Int)) x := by
  have h : k = 0 ∨ k = 1 ∨ k = 2 ∨ k = 3 ∨ k = 4 ∨ k = 5 ∨ k = 6 ∨ k = 7 := by omega
  rcases h with rfl | rfl | rfl | rfl | rfl | rfl | rfl | rfl
  · exact Tryd.index8_0 x s
  · exact Tryd.index8_1 x s
  · exact Tryd.index8_2 x s
  · exact Tryd.index8_3 x s
  · exact Tryd.index8_4 x s
  · exact Tryd.index8_5 x s
  · exact Tryd.index8_6 x s
  · exact Tryd.index8_7 x s

set_option maxHeartbeats 4000000 in
set_option maxRecDepth 20000 in
theorem Block_any (w : World) (ht : Tabs w) (st : List UInt32) (block : List UInt8) (hs : st.length = 8) (hl : block.length = 64) :
    Calls Tryd.prog 71 #[.agg (wordsC st), keyV block] w (RetV w (.agg (wordsC (blockW st block)))) := by
  obtain ⟨fin, hfin⟩ : ∃ fin, fin = blockW st block := ⟨_, rfl⟩
  obtain ⟨ws, hws⟩ : ∃ ws, ws = wordsTo block 64 := ⟨_, rfl⟩
  obtain ⟨s0, hs0⟩ : ∃ s0, s0 = toE st := ⟨_, rfl⟩
  have hwl : ws.length = 64 := by rw [hws, wordsTo_length]
  have hfl : fin.length = 8 := by rw [hfin]; exact blockW_length _ _ hs
  rw [← hfin]
  have HF : Hid (fin = List.zipWith (· + ·) st (ofE (roundsE ws s0 64))) := by rw [hfin, hws, hs0]; rfl
  have HSP := Lib.hid (spread_any (block := block) · hl)
  rw [← hws] at HSP
  have HW := Lib.hid hwl
  have HFL := Lib.hid hfl
  have HS := Lib.hid hs
  have HL := Lib.hid hl
  have HT := Lib.hid ht
  have HS0 := Lib.hid hs0
  clear hfin hws hwl hfl hs hl ht hs0
  go_enter Tryd.func71, Tryd.ntmps71
  go_wp2_with (first
    | ((with_reducible refine wpList_box_row (o := ⟨some 2, _, _, _, _, _⟩) rfl 101 (.tmp 0) rfl (wordsC st) (by with_unfolding_all rfl) ?_); intro g2 w2 n2)
    | ((with_reducible refine wpList_box_row (o := ⟨some 3, _, _, _, _, _⟩) rfl 75 (.tmp 1) rfl (keyC block) (by with_unfolding_all rfl) ?_); intro g3 w3 n3)
    | ((with_reducible refine wpList_alloc_row (o := ⟨some 4, _, _, _, _, _⟩) rfl 101 rfl (wordsC (List.replicate 8 0)) Tryd.zero8 ?_); intro g4 w4 n4)
    | (with_reducible refine wpList_load_row (o := ⟨some 19, _, _, _, _, _⟩) rfl 75 (.tmp 3) rfl g3 (by with_unfolding_all rfl) 75 (keyC block) (0, 0) (.array 64 5) (by with_unfolding_all exact n3.row.kept n4.below) Tryd.underlying75 rfl (Tryd.size64b block HL.out) ?_)
    | (go_at_call 82; refine (HSP.out _).mono ?_; rintro e w5 ⟨rfl, b5⟩)
    | ((with_reducible refine wpList_alloc_row (o := ⟨some 5, _, _, _, _, _⟩) rfl 118 rfl (wordsC (List.replicate 64 0)) Tryd.zero64 ?_); intro g6 w6 n6)
    | ((with_reducible refine wpList_store_row (o := ⟨none, _, _, _, _, _⟩) rfl 118 (.tmp 5) (.tmp 20) rfl g6 118 _ (wordsC ws) (by with_unfolding_all rfl) (by with_unfolding_all rfl) n6.row (by rw [wordsC_size, wordsC_size, HW.out, List.length_replicate]) (Tryd.size64l ws HW.out) (wordsC_one ws) ?_); intro w7 p7))
  have hw6 : w.heap.size ≤ w6.heap.size := by have := n2.below.size; have := n3.below.size; have := n4.below.size; have := b5.size; have := n6.below.size; omega
  have e2 := n2.spot
  have e3 := n3.spot
  have e4 := n4.spot
  have e6 := n6.spot
  have z2 := n2.size
  have z3 := n3.size
  have z4 := n4.size
  have z5 := b5.size
  have B6 : Below w.heap.size w w6 := below_size (below_size (below_size (below_size n2.below n3.below) n4.below) b5) n6.below
  have B7 : Hid (Below w.heap.size w w7) := p7.below B6 hw6 (by omega)
  have R2 : Hid (RowAt w7 g2 101 (wordsC st)) := ((((n2.row.kept n3.below).kept n4.below).kept b5).kept n6.below).grown p7.grown (by intro h; injection h with h; omega)
  have R4 : Hid (RowAt w7 g4 101 (wordsC (List.replicate 8 0))) := ((n4.row.kept b5).kept n6.below).grown p7.grown (by intro h; injection h with h; omega)
  have R6 : Hid (RowAt w7 g6 118 (wordsC ws)) := p7.row
  have T7 : Hid (Tabs w7) := HT.out.below B7.out
  have hg2 : w.heap.size ≤ g2 := by omega
  have hg4 : w.heap.size ≤ g4 := by omega
  have hg24 : g2 ≠ g4 := by omega
  have hg46 : g2 ≠ g6 := by omega
  clear hw6 e2 e3 e4 e6 z2 z3 z4 z5 B6 n2 n3 n4 b5 n6 p7 HSP HT
  have E0 : Hid (st.getD 0 0 = s0.a ∧ st.getD 1 0 = s0.b ∧ st.getD 2 0 = s0.c ∧ st.getD 3 0 = s0.d ∧ st.getD 4 0 = s0.e ∧ st.getD 5 0 = s0.f ∧ st.getD 6 0 = s0.g ∧ st.getD 7 0 = s0.h) := by
    rw [HS0.out]; exact ⟨rfl, rfl, rfl, rfl, rfl, rfl, rfl, rfl⟩
  have c0 := wordsC_cell R2.out 0 (by rw [HS.out]; omega)
  have c1 := wordsC_cell R2.out 1 (by rw [HS.out]; omega)
  have c2 := wordsC_cell R2.out 2 (by rw [HS.out]; omega)
  have c3 := wordsC_cell R2.out 3 (by rw [HS.out]; omega)
  have c4 := wordsC_cell R2.out 4 (by rw [HS.out]; omega)
  have c5 := wordsC_cell R2.out 5 (by rw [HS.out]; omega)
  have c6 := wordsC_cell R2.out 6 (by rw [HS.out]; omega)
  have c7 := wordsC_cell R2.out 7 (by rw [HS.out]; omega)
  rw [E0.out.1] at c0
  rw [E0.out.2.1] at c1
  rw [E0.out.2.2.1] at c2
  rw [E0.out.2.2.2.1] at c3
  rw [E0.out.2.2.2.2.1] at c4
  rw [E0.out.2.2.2.2.2.1] at c5
  rw [E0.out.2.2.2.2.2.2.1] at c6
  rw [E0.out.2.2.2.2.2.2.2] at c7
  simp only [Act.put, Array.setIfInBounds, List.size_toArray, List.length_cons, List.length_nil]
  go_quiet (fail)
  clear c0 c1 c2 c3 c4 c5 c6 c7 E0
  go_wp2
  go_loopw [6, 7, 8, 9, 10, 11, 12, 13, 37] (fun a b c d e f g h i wr => ∃ (k n : Nat) (s : Eight8), k ≤ 64 ∧ i = .int .i64 k ∧ s = roundsE ws s0 k ∧ a = .int .u32 (s.a.toNat : Int) ∧ b = .int .u32 (s.b.toNat : Int) ∧ c = .int .u32 (s.c.toNat : Int) ∧ d = .int .u32 (s.d.toNat : Int) ∧ e = .int .u32 (s.e.toNat : Int) ∧ f = .int .u32 (s.f.toNat : Int) ∧ g = .int .u32 (s.g.toNat : Int) ∧ h = .int .u32 (s.h.toNat : Int) ∧ wr = w7.drewN n) (fun _ _ _ _ _ _ _ _ i _ => 64 - (intOf i).toNat)
  case atStart => exact ⟨0, nq, s0, by omega, rfl, rfl, rfl, rfl, rfl, rfl, rfl, rfl, rfl, rfl, rfl⟩
  case round =>
    obtain ⟨k, n, s, hk, rfl, hs, rfl, rfl, rfl, rfl, rfl, rfl, rfl, rfl, hwr⟩ := hrel
    have HWR := Lib.hid hwr
    have HSS := Lib.hid hs
    by_cases hlt : k < 64
    · have ck : wr.cell? ⟨2, k, none⟩ = some (.int .u32 ((cubesW.getD k 0).toNat : Int)) := by rw [hwr]; exact T7.out.cubes k hlt
      have cw : wr.cell? ⟨g6, k, none⟩ = some (.int .u32 ((ws.getD k 0).toNat : Int)) := by rw [hwr]; exact wordsC_cell R6.out k (by rw [HW.out]; exact hlt)
      have HSN : Hid (roundsE ws s0 (k + 1) = stepE s (cubesW.getD k 0) (ws.getD k 0)) := by rw [hs]; rfl
      generalize cubesW.getD k 0 = kk at ck HSN
      generalize ws.getD k 0 = ww at cw HSN
      have hq : (k : Int) < 64 := by omega
      have hea := s.a.toNat_lt
      have heb := s.e.toNat_lt
      clear hwr hs
      go_wp2_with fail
      refine wp_region_still_lit (by kernel_rfl) (by kernel_rfl) ?_
      repeat still_step
      still_call ((turned_any _ s.e 6 11 25 (by omega) (by omega) (by omega)).mono fun _ _ h => ⟨h.1, h.2.symm⟩)
      repeat still_step
      refine wpStill_nil ?_
      obtain ⟨t1, ht1⟩ : ∃ t1, s.h + bigS s.e 6 11 25 + ((s.e &&& s.f) ^^^ ((4294967295 - s.e) &&& s.g)) + kk + ww = t1 := ⟨_, rfl⟩
      simp only [flip32, and32, xor32, add32]
      rw [ht1]
      have HT1 := Lib.hid ht1
      clear ht1 ck cw hea heb
      change Exit.then _ _ _ _ wr.drew
      go_wp2_with (go_at_call 83; refine (turned_any _ s.a 2 13 22 (by omega) (by omega) (by omega)).mono ?_; rintro e w' ⟨rfl, rfl⟩)
      go_roundw
      case rel => 
        refine ⟨k + 1, n + 1, stepE s kk ww, by omega, by go_num, HSN.out.symm, ?_, rfl, rfl, rfl, ?_, rfl, rfl, rfl, by rw [HWR.out]; rfl⟩
        · simp only [and32, xor32, add32m]
          rw [← HT1.out]
          rfl
        · simp only [add32m]
          rw [← HT1.out]
          rfl
      case measure => simp [intOf]; omega
    · have hk64 : k = 64 := by omega
      have HS64 : Hid (s = roundsE ws s0 64) := by rw [← hk64]; exact HSS
      have B8 : Hid (Below w.heap.size w wr) := by rw [hwr]; exact below_drewN B7.out n
      have R28 : Hid (RowAt wr g2 101 (wordsC (mixed st (ofE s) 0))) := by rw [hwr, mixed_zero]; exact R2.out
      have R48 : Hid (RowAt wr g4 101 (wordsC (List.replicate 8 0))) := by rw [hwr]; exact R4.out
      clear hwr hs HWR HSS R2 R4 R6 T7 B7 hk64
      go_wp2
      go_loopw [97] (fun i wr => ∃ k : Nat, k ≤ 8 ∧ i = .int .i64 k ∧ RowAt wr g2 101 (wordsC (mixed st (ofE s) k)) ∧ RowAt wr g4 101 (wordsC (List.replicate 8 0)) ∧ Below w.heap.size w wr) (fun i _ => 8 - (intOf i).toNat)
      case atStart => exact ⟨0, by omega, rfl, R28.out, R48.out, B8.out⟩
      case round =>
        clear R28 R48 B8
        rename_i k0 _ _ _ _
        obtain ⟨k, hk8, rfl, hr2, hr4, hb⟩ := hrel
        have R2 := Lib.hid hr2
        have R4 := Lib.hid hr4
        have HB := Lib.hid hb
        clear hr2 hr4 hb
        by_cases hlt8 : k < 8
        · have c0 := wordsC_cell R2.out k (by rw [mixed_length _ _ _ HS.out (ofE_length s) (by omega)]; omega)
          rw [mixed_get _ _ _ HS.out (ofE_length s) hlt8] at c0
          have hfz := R2.out.frozen k
          have hix := fun x => Tryd.index8 x s k hlt8
          have hps := mixed_step st (ofE s) k HS.out (ofE_length s) hlt8
          generalize st.getD k 0 = x1 at c0 hps
          generalize (ofE s).getD k 0 = x2 at hix hps
          obtain ⟨xs, hxs⟩ : ∃ xs, x1 + x2 = xs := ⟨_, rfl⟩
          have hsum : IntKind.u32.wrap ((x1.toNat : Int) + (x2.toNat : Int)) = (xs.toNat : Int) := by rw [add32, hxs]
          have hput := R2.out.put k (.int .u32 (xs.toNat : Int))
          rw [wordsC_put, ← hxs, hps, hxs] at hput
          have HP := Lib.hid hput
          clear hput hps hxs
          go_wp2
          go_roundw
          case rel => exact ⟨k + 1, by omega, by go_num, HP.out, R4.out.far (by show g4 ≠ g2; omega) _, HB.out.setCell hg2 _⟩
          case measure => simp [intOf]; omega
        · have hk88 : k = 8 := by omega
          have HR2 : Hid (RowAt wr g2 101 (wordsC fin)) := by
            have := R2.out
            rw [hk88, mixed_all _ _ HS.out (ofE_length s)] at this
            rw [HF.out, ← HS64.out]
            exact this
          clear hk88
          go_wp2_with (first | (with_reducible refine wpList_load_row rfl 101 (.tmp 2) rfl g2 (by with_unfolding_all rfl) 101 (wordsC fin) (0, 0) (.array 8 48) (by with_unfolding_all exact HR2.out) Tryd.underlying101 rfl (Tryd.size8l fin HFL.out) ?_) | ((with_reducible refine wpList_store_row rfl 101 (.tmp 4) (.tmp 108) rfl g4 101 _ (wordsC fin) (by with_unfolding_all rfl) (by with_unfolding_all rfl) R4.out (by rw [wordsC_size, wordsC_size, HFL.out, List.length_replicate]) (Tryd.size8l fin HFL.out) (wordsC_one fin) ?_); intro w9 p9))
          refine bodyPost_ret (results_cell_row rfl _ _ g4 101 (wordsC fin) (0, 0) (.array 8 48) rfl p9.row Tryd.underlying101 rfl (Tryd.size8l fin HFL.out)) rfl ⟨rfl, ?_⟩
          exact p9.below HB.out HB.out.size hg4
end Go.Proofs.YtjdbjgaoeijmfaaDoor
end
section
namespace Go.Proofs.YtjdbjgaoeijmfaaDoor
set_option linter.unusedVariables false

/-- One word added to another one, with which a third one is mixed, that is turned left. -/
def stirW (w : List UInt32) (s p t by_ : Nat) : List UInt32 :=
  (w.set s (w.getD s 0 + w.getD p 0)).set t (rotl ((w.set s (w.getD s 0 + w.getD p 0)).getD t 0 ^^^ (w.set s (w.getD s 0 + w.getD p 0)).getD s 0) by_)
theorem stirW_length (w : List UInt32) (s p t n : Nat) : (stirW w s p t n).length = w.length := by simp [stirW]
def quarterW (w : List UInt32) (a b c d : Nat) : List UInt32 := stirW (stirW (stirW (stirW w a b d 16) c d b 12) a b d 8) c d b 7
theorem quarterW_length (w : List UInt32) (a b c d : Nat) : (quarterW w a b c d).length = w.length := by simp [quarterW, stirW_length]

def quartersT : List (List Nat) := [[0, 4, 8, 12], [1, 5, 9, 13], [2, 6, 10, 14], [3, 7, 11, 15], [0, 5, 10, 15], [1, 6, 11, 12], [2, 7, 8, 13], [3, 4, 9, 14]]
def quarterAt (k : Nat) : List Nat := quartersT.getD (k % 8) []
/-- k quarter rounds, in their order. -/
def runS (w : List UInt32) : Nat → List UInt32
  | 0 => w
  | k + 1 => quarterW (runS w k) ((quarterAt k).getD 0 0) ((quarterAt k).getD 1 0) ((quarterAt k).getD 2 0) ((quarterAt k).getD 3 0)
theorem runS_length (w : List UInt32) (k : Nat) : (runS w k).length = w.length := by
  induction k with
  | zero => rfl
  | succ k ih => rw [runS, quarterW_length, ih]

def firstS (key : List UInt8) (ctr : UInt32) (nonce : List UInt8) : List UInt32 :=
  [0x61707865, 0x3320646e, 0x79622d32, 0x6b206574] ++ (List.range 8).map (wordLow key) ++ [ctr] ++ (List.range 3).map (wordLow nonce)
theorem firstS_length (key : List UInt8) (ctr : UInt32) (nonce : List UInt8) : (firstS key ctr nonce).length = 16 := by simp [firstS]
def lastS (key : List UInt8) (ctr : UInt32) (nonce : List UInt8) : List UInt32 := List.zipWith (· + ·) (runS (firstS key ctr nonce) 80) (firstS key ctr nonce)
theorem lastS_length (key : List UInt8) (ctr : UInt32) (nonce : List UInt8) : (lastS key ctr nonce).length = 16 := by
  simp [lastS, runS_length, firstS_length]
def blockS (key : List UInt8) (ctr : UInt32) (nonce : List UInt8) : List UInt8 := bytesLow (lastS key ctr nonce)
theorem blockS_length (key : List UInt8) (ctr : UInt32) (nonce : List UInt8) : (blockS key ctr nonce).length = 64 := by
  rw [blockS, bytesLow_length, lastS_length]

/-- The stream, so many blocks of it. -/
def noiseS (key : List UInt8) (ctr : UInt32) (nonce : List UInt8) : Nat → List UInt8
  | 0 => []
  | k + 1 => noiseS key ctr nonce k ++ blockS key (ctr + UInt32.ofNat k) nonce
theorem noiseS_length (key : List UInt8) (ctr : UInt32) (nonce : List UInt8) (k : Nat) : (noiseS key ctr nonce k).length = 64 * k := by
  induction k with
  | zero => rfl
  | succ k ih => rw [noiseS, List.length_append, ih, blockS_length]; omega
/-- A text, mixed. -/
def mixS (key : List UInt8) (ctr : UInt32) (nonce text : List UInt8) : List UInt8 := xorB text (noiseS key ctr nonce ((text.length + 63) / 64))
theorem mixS_length (key : List UInt8) (ctr : UInt32) (nonce text : List UInt8) : (mixS key ctr nonce text).length = text.length := by
  rw [mixS, xorB_length, noiseS_length]; omega

theorem xorB_append (t a b : List UInt8) : xorB t (a ++ b) = xorB t a ++ xorB (t.drop a.length) b := by
  induction a generalizing t with
  | nil => simp [xorB]
  | cons x a ih =>
    cases t with
    | nil => simp [xorB]
    | cons y t =>
      have := ih t
      simp only [xorB, List.cons_append, List.zipWith_cons_cons, List.length_cons, List.drop_succ_cons] at *
      rw [this]
/-- The same, by how much has been mixed. -/
theorem xorB_next (t a b : List UInt8) : xorB t (a ++ b) = xorB t a ++ xorB (t.drop (xorB t a).length) b := by
  rw [xorB_append, xorB_length]
  rcases Nat.le_total a.length t.length with h | h
  · rw [Nat.min_eq_right h]
  · rw [Nat.min_eq_left h, List.drop_of_length_le h, List.drop_of_length_le (Nat.le_refl _)]
theorem noise_flat (key : List UInt8) (ctr : UInt32) (nonce : List UInt8) (k : Nat) : (List.range k).flatMap (fun x => blockS key (ctr + UInt32.ofNat x) nonce) = noiseS key ctr nonce k := by
  induction k with
  | zero => rfl
  | succ k ih => rw [List.range_succ, List.flatMap_append, ih, noiseS]; simp
theorem xorB_full (t a b : List UInt8) (h : t.length ≤ a.length) : xorB t (a ++ b) = xorB t a := by
  rw [xorB_append, List.drop_of_length_le h]
  simp [xorB]
theorem noiseS_add (key : List UInt8) (ctr : UInt32) (nonce : List UInt8) (m d : Nat) : ∃ r, noiseS key ctr nonce (m + d) = noiseS key ctr nonce m ++ r := by
  induction d with
  | zero => exact ⟨[], by simp⟩
  | succ d ih =>
    obtain ⟨r, hr⟩ := ih
    exact ⟨r ++ blockS key (ctr + UInt32.ofNat (m + d)) nonce, by rw [← Nat.add_assoc, noiseS, hr, List.append_assoc]⟩
/-- With blocks enough the answer is the same. -/
theorem mixS_more (key : List UInt8) (ctr : UInt32) (nonce text : List UInt8) (m : Nat) (h : (text.length + 63) / 64 ≤ m) : xorB text (noiseS key ctr nonce m) = mixS key ctr nonce text := by
  obtain ⟨r, hr⟩ := noiseS_add key ctr nonce ((text.length + 63) / 64) (m - (text.length + 63) / 64)
  rw [show (text.length + 63) / 64 + (m - (text.length + 63) / 64) = m by omega] at hr
  rw [hr, xorB_full _ _ _ (by rw [noiseS_length]; omega), mixS]
theorem xorB_again (t a : List UInt8) (h : t.length ≤ a.length) : xorB (xorB t a) a = t := by
  induction a generalizing t with
  | nil =>
    have : t = [] := List.eq_nil_of_length_eq_zero (by simpa using h)
    subst this; rfl
  | cons x a ih =>
    cases t with
    | nil => rfl
    | cons y t =>
      have := ih t (by simpa using h)
      simp only [xorB, List.zipWith_cons_cons] at *
      rw [this, UInt8.xor_assoc, UInt8.xor_self, UInt8.xor_zero]
theorem mixS_twice (key : List UInt8) (ctr : UInt32) (nonce text : List UInt8) : mixS key ctr nonce (mixS key ctr nonce text) = text := by
  rw [mixS, mixS_length, mixS, xorB_again _ _ (by rw [noiseS_length]; omega)]
theorem xorB_left (t a : List UInt8) (n : Nat) : (xorB t a).take n = xorB (t.take n) a := by
  induction a generalizing t n with
  | nil => simp [xorB]
  | cons x a ih =>
    cases t with
    | nil => simp [xorB]
    | cons y t =>
      cases n with
      | zero => simp [xorB]
      | succ n =>
        have := ih t n
        simp only [xorB, List.zipWith_cons_cons, List.take_succ_cons] at *
        rw [this]
theorem mixS_cut (key : List UInt8) (ctr : UInt32) (nonce text : List UInt8) (n : Nat) (h : n ≤ text.length) : (mixS key ctr nonce text).take n = mixS key ctr nonce (text.take n) := by
  rw [mixS, xorB_left]
  exact mixS_more _ _ _ _ _ (by rw [List.length_take]; omega)
theorem ctr_next (c : UInt32) (k : Nat) : c + UInt32.ofNat (k + 1) = c + 1 + UInt32.ofNat k := by
  apply UInt32.toNat_inj.1
  simp only [UInt32.toNat_add, UInt32.toNat_ofNat', show (1 : UInt32).toNat = 1 from rfl]
  omega
theorem ctr_zero (c : UInt32) : c + UInt32.ofNat 0 = c := by
  apply UInt32.toNat_inj.1
  have := c.toNat_lt
  simp only [UInt32.toNat_add, UInt32.toNat_ofNat']
  omega
theorem noiseS_next (key : List UInt8) (ctr : UInt32) (nonce : List UInt8) (k : Nat) : noiseS key ctr nonce (k + 1) = blockS key ctr nonce ++ noiseS key (ctr + 1) nonce k := by
  induction k with
  | zero => rw [noiseS, noiseS, noiseS, ctr_zero, List.nil_append, List.append_nil]
  | succ k ih => rw [noiseS, ih, noiseS, List.append_assoc, ctr_next]
theorem mixS_further (key : List UInt8) (ctr : UInt32) (nonce text : List UInt8) (h : 64 ≤ text.length) : (mixS key ctr nonce text).drop 64 = mixS key (ctr + 1) nonce (text.drop 64) := by
  rw [mixS, show (text.length + 63) / 64 = (text.length - 1) / 64 + 1 by omega, noiseS_next, xorB_append, blockS_length]
  rw [List.drop_left' (by rw [xorB_length, blockS_length]; omega)]
  exact mixS_more _ _ _ _ _ (by rw [List.length_drop]; omega)

/-- The step of one block: what the program adds to its answer. -/
theorem mixS_step (key : List UInt8) (ctr : UInt32) (nonce text : List UInt8) (k : Nat) :
    xorB text (noiseS key ctr nonce (k + 1)) = xorB text (noiseS key ctr nonce k) ++ xorB (text.drop (64 * k)) (blockS key (ctr + UInt32.ofNat k) nonce) := by
  rw [noiseS, xorB_append, noiseS_length]

/-- A word turned left, by numbers. -/
theorem rotl_sum (x : UInt32) (n m : Nat) (hm : m + n = 32) (hn : 1 ≤ n) (hm1 : 1 ≤ m) : (rotl x n).toNat = 2 ^ n * (x.toNat % 2 ^ m) + x.toNat / 2 ^ m := by
  have hx := x.toNat_lt
  have e32 : (4294967296 : Nat) = 2 ^ n * 2 ^ m := by rw [← Nat.pow_add, show n + m = 32 by omega]
  have h1 : x.toNat * 2 ^ n % 4294967296 = 2 ^ n * (x.toNat % 2 ^ m) := by
    rw [e32, Nat.mul_comm x.toNat, Nat.mul_mod_mul_left]
  have h2 : x.toNat / 2 ^ m < 2 ^ n := by
    rw [Nat.div_lt_iff_lt_mul (Nat.pow_pos (by omega)), ← e32]; exact hx
  rw [rotl_toNat, show 32 - n = m by omega, h1, ← Nat.two_pow_add_eq_or_of_lt h2]
theorem rotl_inj (x y : UInt32) (n m : Nat) (hm : m + n = 32) (hn : 1 ≤ n) (hm1 : 1 ≤ m) (h : rotl x n = rotl y n) : x = y := by
  have e : (rotl x n).toNat = (rotl y n).toNat := by rw [h]
  rw [rotl_sum x n m hm hn hm1, rotl_sum y n m hm hn hm1] at e
  have e32 : (4294967296 : Nat) = 2 ^ n * 2 ^ m := by rw [← Nat.pow_add, show n + m = 32 by omega]
  have lt : ∀ z : UInt32, z.toNat / 2 ^ m < 2 ^ n := fun z => by
    rw [Nat.div_lt_iff_lt_mul (Nat.pow_pos (by omega)), ← e32]; exact z.toNat_lt
  have hd : x.toNat / 2 ^ m = y.toNat / 2 ^ m := by
    have := congrArg (· % 2 ^ n) e
    simpa [Nat.mul_add_mod, Nat.mod_eq_of_lt (lt x), Nat.mod_eq_of_lt (lt y)] using this
  have hr : x.toNat % 2 ^ m = y.toNat % 2 ^ m := by
    rw [hd] at e
    exact Nat.eq_of_mul_eq_mul_left (Nat.pow_pos (by omega)) (Nat.add_right_cancel e)
  apply UInt32.toNat_inj.1
  rw [← Nat.div_add_mod x.toNat (2 ^ m), ← Nat.div_add_mod y.toNat (2 ^ m), hd, hr]

theorem getD_set_same (w : List UInt32) (i : Nat) (x : UInt32) (h : i < w.length) : (w.set i x).getD i 0 = x := by
  simp [List.getD_eq_getElem?_getD, h]
theorem getD_set_far (w : List UInt32) (i j : Nat) (x : UInt32) (h : i ≠ j) : (w.set i x).getD j 0 = w.getD j 0 := by
  simp [List.getD_eq_getElem?_getD, List.getElem?_set_ne h]
theorem list_of_getD (v w : List UInt32) (hl : v.length = w.length) (h : ∀ i, i < v.length → v.getD i 0 = w.getD i 0) : v = w := by
  apply List.ext_getElem hl
  intro i h1 h2
  have := h i h1
  simpa [List.getD_eq_getElem?_getD, h1, h2] using this
theorem xor_cancel {a b c : UInt32} (h : a ^^^ c = b ^^^ c) : a = b := by
  have := congrArg (· ^^^ c) h
  simpa [UInt32.xor_assoc] using this
theorem stirW_inj (v w : List UInt32) (s p t n m : Nat) (hm : m + n = 32) (hn : 1 ≤ n) (hm1 : 1 ≤ m) (hv : v.length = 16) (hw : w.length = 16) (hs : s < 16) (ht : t < 16) (h1 : s ≠ p) (h2 : s ≠ t) (h3 : p ≠ t)
    (h : stirW v s p t n = stirW w s p t n) : v = w := by
  have g : ∀ i, (stirW v s p t n).getD i 0 = (stirW w s p t n).getD i 0 := fun i => by rw [h]
  have other : ∀ i, i ≠ s → i ≠ t → v.getD i 0 = w.getD i 0 := fun i hi1 hi2 => by
    have := g i
    unfold stirW at this
    rwa [getD_set_far _ _ _ _ (Ne.symm hi2), getD_set_far _ _ _ _ (Ne.symm hi1), getD_set_far _ _ _ _ (Ne.symm hi2), getD_set_far _ _ _ _ (Ne.symm hi1)] at this
  have hsum : v.getD s 0 + v.getD p 0 = w.getD s 0 + w.getD p 0 := by
    have := g s
    unfold stirW at this
    rwa [getD_set_far _ _ _ _ (Ne.symm h2), getD_set_same _ _ _ (by omega), getD_set_far _ _ _ _ (Ne.symm h2), getD_set_same _ _ _ (by omega)] at this
  have hsv : v.getD s 0 = w.getD s 0 := by
    rw [other p (Ne.symm h1) h3] at hsum
    have := congrArg (· - w.getD p 0) hsum
    simpa using this
  have htv : v.getD t 0 = w.getD t 0 := by
    have := g t
    unfold stirW at this
    have len : ∀ (l : List UInt32) (x : UInt32), l.length = 16 → t < (l.set s x).length := fun l x hl => by rw [List.length_set, hl]; exact ht
    rw [getD_set_same _ t _ (len v _ hv), getD_set_same _ t _ (len w _ hw), getD_set_far _ _ _ _ h2, getD_set_far _ _ _ _ h2, getD_set_same _ _ _ (by omega), getD_set_same _ _ _ (by omega), hsum] at this
    exact xor_cancel (rotl_inj _ _ n m hm hn hm1 this)
  refine list_of_getD v w (by omega) fun i _ => ?_
  by_cases hi1 : i = s
  · rw [hi1, hsv]
  · by_cases hi2 : i = t
    · rw [hi2, htv]
    · exact other i hi1 hi2
theorem quarterW_inj (v w : List UInt32) (a b c d : Nat) (hv : v.length = 16) (hw : w.length = 16) (ha : a < 16) (hb : b < 16) (hc : c < 16) (hd : d < 16) (hab : a ≠ b) (hac : a ≠ c) (had : a ≠ d) (hbc : b ≠ c) (hbd : b ≠ d) (hcd : c ≠ d)
    (h : quarterW v a b c d = quarterW w a b c d) : v = w := by
  unfold quarterW at h
  have h1 := stirW_inj _ _ c d b 7 25 (by omega) (by omega) (by omega) (by simp [stirW_length, hv]) (by simp [stirW_length, hw]) hc hb hcd (Ne.symm hbc) (Ne.symm hbd) h
  have h2 := stirW_inj _ _ a b d 8 24 (by omega) (by omega) (by omega) (by simp [stirW_length, hv]) (by simp [stirW_length, hw]) ha hd hab had hbd h1
  have h3 := stirW_inj _ _ c d b 12 20 (by omega) (by omega) (by omega) (by simp [stirW_length, hv]) (by simp [stirW_length, hw]) hc hb hcd (Ne.symm hbc) (Ne.symm hbd) h2
  exact stirW_inj _ _ a b d 16 16 (by omega) (by omega) (by omega) hv hw ha hd hab had hbd h3
theorem quarterW_iff (v w : List UInt32) (a b c d : Nat) (hv : v.length = 16) (hw : w.length = 16) (ha : a < 16) (hb : b < 16) (hc : c < 16) (hd : d < 16) (hab : a ≠ b) (hac : a ≠ c) (had : a ≠ d) (hbc : b ≠ c) (hbd : b ≠ d) (hcd : c ≠ d) :
    (quarterW v a b c d == quarterW w a b c d) = (v == w) := by
  rw [Bool.eq_iff_iff, beq_iff_eq, beq_iff_eq]
  exact ⟨quarterW_inj v w a b c d hv hw ha hb hc hd hab hac had hbc hbd hcd, fun h => by rw [h]⟩
end Go.Proofs.YtjdbjgaoeijmfaaDoor
end
