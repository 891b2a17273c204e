/-
  Contracts of the document's own answers for sha: a word turned, Block. Conditions: as each theorem names them.
-/
import Derived.Test.YtdojaighchgghaaDoorShaC
import Derived.Test.YtdojaighchgghaaDoorTail
import Derived.Test.YtdojaighchgghaaDoorRound
import Derived.StillTailTactics
import Derived.BigQuiet
namespace Go.Proofs.YtdojaighchgghaaDoor
open Go.RowKit
set_option linter.unusedVariables false
set_option maxRecDepth 20000

theorem rot_int2 (x : UInt32) (n m : Nat) (hm : m + n = 32) : bits .or .u32 ((x.toNat : Int) / 2 ^ n) ((x.toNat : Int) * 2 ^ m % 4294967296) = ((rotr x n).toNat : Int) := by
  have e1 : (x.toNat : Int) * 2 ^ m % 4294967296 = ((x.toNat * 2 ^ m % 4294967296 : Nat) : Int) := by simp
  have e2 : (x.toNat : Int) / 2 ^ n = ((x.toNat / 2 ^ n : Nat) : Int) := by simp
  rw [e1, e2, u32_or_nat _ _ (div_lt32 x n) (Nat.mod_lt _ (by omega)), rotr_toNat, Nat.or_comm, show 32 - n = m by omega]

theorem turn_any (w : World) (x : UInt32) (n : Nat) (h1 : 1 ≤ n) (h2 : n ≤ 31) :
    Calls Tryd.prog 42 #[.int .u32 (x.toNat : Int), .int .i64 (n : Int)] w fun e w' => e = .returned (.int .u32 ((rotr x n).toNat : Int)) ∧ ∃ n, w' = w.drewN n := by
  have hx := x.toNat_lt
  obtain ⟨m, hm⟩ : ∃ m, m + n = 32 := ⟨32 - n, by omega⟩
  have hs2 : IntKind.i64.wrap (32 - (n : Int)) = (m : Int) := by rw [IntWalk.i64_in _ (by omega)]; omega
  have hle : (n : Int) ≤ 32 := by omega
  go_enter Tryd.func42, Tryd.ntmps42
  go_wp2
  go_quiet (fail)
  go_wp2
  go_ret
  exact ⟨ret_int (rot_int2 x n m hm), _, rfl⟩

/-- Four bytes as a word, the highest one first. -/
def word4 (a b c d : UInt8) : UInt32 := UInt32.ofNat (((a.toNat * 256 + b.toNat) * 256 + c.toNat) * 256 + d.toNat)
theorem word4_toNat (a b c d : UInt8) : (word4 a b c d).toNat = ((a.toNat * 256 + b.toNat) * 256 + c.toNat) * 256 + d.toNat := by
  have := a.toNat_lt
  have := b.toNat_lt
  have := c.toNat_lt
  have := d.toNat_lt
  exact UInt32.toNat_ofNat_of_lt' (by show _ < 4294967296; omega)
theorem or_sum (x y n : Nat) (hy : y < 2 ^ n) : x * 2 ^ n ||| y = x * 2 ^ n + y := by
  rw [Nat.mul_comm, Nat.two_pow_add_eq_or_of_lt hy]
theorem word4_or (a b c d : UInt8) : ((a.toNat * 16777216 ||| b.toNat * 65536) ||| c.toNat * 256) ||| d.toNat = (word4 a b c d).toNat := by
  have := a.toNat_lt
  have := b.toNat_lt
  have := c.toNat_lt
  have := d.toNat_lt
  rw [word4_toNat, show a.toNat * 16777216 = a.toNat * 2 ^ 24 by omega, or_sum _ _ _ (by omega), show a.toNat * 2 ^ 24 + b.toNat * 65536 = (a.toNat * 256 + b.toNat) * 2 ^ 16 by omega, or_sum _ _ _ (by omega),
    show (a.toNat * 256 + b.toNat) * 2 ^ 16 + c.toNat * 256 = ((a.toNat * 256 + b.toNat) * 256 + c.toNat) * 2 ^ 8 by omega, or_sum _ _ _ (by omega)]
theorem wordOf_four (block : List UInt8) (k : Nat) (h : 4 * k + 4 ≤ block.length) :
    wordOf block k = word4 (block[4 * k]'(by omega)) (block[4 * k + 1]'(by omega)) (block[4 * k + 2]'(by omega)) (block[4 * k + 3]'(by omega)) := by
  have e : (block.drop (4 * k)).take 4 = [block[4 * k]'(by omega), block[4 * k + 1]'(by omega), block[4 * k + 2]'(by omega), block[4 * k + 3]'(by omega)] := by
    rw [List.drop_eq_getElem_cons (by omega), List.drop_eq_getElem_cons (by omega), List.drop_eq_getElem_cons (by omega), List.drop_eq_getElem_cons (by omega)]
    rfl
  rw [wordOf, e, word4]
  congr 1
  simp [ofHighB, ofLowB]
  omega
theorem Tryd.litsK : Value.agg #[.int .u32 1116352408, .int .u32 1899447441, .int .u32 3049323471, .int .u32 3921009573, .int .u32 961987163, .int .u32 1508970993, .int .u32 2453635748, .int .u32 2870763221, .int .u32 3624381080, .int .u32 310598401, .int .u32 607225278, .int .u32 1426881987, .int .u32 1925078388, .int .u32 2162078206, .int .u32 2614888103, .int .u32 3248222580, .int .u32 3835390401, .int .u32 4022224774, .int .u32 264347078, .int .u32 604807628, .int .u32 770255983, .int .u32 1249150122, .int .u32 1555081692, .int .u32 1996064986, .int .u32 2554220882, .int .u32 2821834349, .int .u32 2952996808, .int .u32 3210313671, .int .u32 3336571891, .int .u32 3584528711, .int .u32 113926993, .int .u32 338241895, .int .u32 666307205, .int .u32 773529912, .int .u32 1294757372, .int .u32 1396182291, .int .u32 1695183700, .int .u32 1986661051, .int .u32 2177026350, .int .u32 2456956037, .int .u32 2730485921, .int .u32 2820302411, .int .u32 3259730800, .int .u32 3345764771, .int .u32 3516065817, .int .u32 3600352804, .int .u32 4094571909, .int .u32 275423344, .int .u32 430227734, .int .u32 506948616, .int .u32 659060556, .int .u32 883997877, .int .u32 958139571, .int .u32 1322822218, .int .u32 1537002063, .int .u32 1747873779, .int .u32 1955562222, .int .u32 2024104815, .int .u32 2227730452, .int .u32 2361852424, .int .u32 2428436474, .int .u32 2756734187, .int .u32 3204031479, .int .u32 3329325298] = .agg (wordsC cubesW) := by kernel_rfl
theorem word4_bits (a b c d : UInt8) : bits .or .u32 (bits .or .u32 (bits .or .u32 (IntKind.u32.wrap (IntKind.u32.wrap (a.toNat : Int) * 16777216)) (IntKind.u32.wrap (IntKind.u32.wrap (b.toNat : Int) * 65536))) (IntKind.u32.wrap (IntKind.u32.wrap (c.toNat : Int) * 256))) (IntKind.u32.wrap (d.toNat : Int)) = ((word4 a b c d).toNat : Int) := by
  have ha := a.toNat_lt
  have hb := b.toNat_lt
  have hc := c.toNat_lt
  have hd := d.toNat_lt
  have e1 : IntKind.u32.wrap (IntKind.u32.wrap (a.toNat : Int) * 16777216) = ((a.toNat * 16777216 : Nat) : Int) := by simp only [IntKind.wrap_u32]; omega
  have e2 : IntKind.u32.wrap (IntKind.u32.wrap (b.toNat : Int) * 65536) = ((b.toNat * 65536 : Nat) : Int) := by simp only [IntKind.wrap_u32]; omega
  have e3 : IntKind.u32.wrap (IntKind.u32.wrap (c.toNat : Int) * 256) = ((c.toNat * 256 : Nat) : Int) := by simp only [IntKind.wrap_u32]; omega
  have e4 : IntKind.u32.wrap (d.toNat : Int) = (d.toNat : Int) := by simp only [IntKind.wrap_u32]; omega
  rw [e1, e2, e3, e4, u32_or_nat _ _ (by omega) (by omega), u32_or_nat _ _ (or_lt32 (by omega) (by omega)) (by omega), u32_or_nat _ _ (or_lt32 (or_lt32 (by omega) (by omega)) (by omega)) (by omega), word4_or]
theorem wrap32 (x : UInt32) : IntKind.u32.wrap (x.toNat : Int) = (x.toNat : Int) := by have := x.toNat_lt; rw [IntKind.wrap_u32]; omega
theorem sum5 (a b c d e : UInt32) : (((a.toNat : Int) + b.toNat + c.toNat + d.toNat) % 4294967296 + e.toNat) % 4294967296 = ((a + b + c + d + e).toNat : Int) := by
  simp only [UInt32.toNat_add]
  omega
theorem sum3 (a b c : UInt32) : ((a.toNat : Int) + b.toNat + c.toNat) % 4294967296 = ((a + b + c).toNat : Int) := by
  simp only [UInt32.toNat_add]
  omega
theorem movr8 (x : UInt32) : (x.toNat : Int) / 8 = ((movr x 3).toNat : Int) := by rw [movr_toNat]; simp
theorem movr1024 (x : UInt32) : (x.toNat : Int) / 1024 = ((movr x 10).toNat : Int) := by rw [movr_toNat]; simp
end Go.Proofs.YtdojaighchgghaaDoor
