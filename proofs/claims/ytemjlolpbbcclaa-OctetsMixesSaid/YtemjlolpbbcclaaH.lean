/-
  Contract of cablegramref01.Hex. Conditions: as the theorem names them.
-/
import Derived.Test.YtemjlolpbbcclaaF
import Derived.Laws.Strings3
namespace Go.Proofs.Ytemjlolpbbcclaa
open Go.RowKit
set_option linter.unusedVariables false

theorem encode_ascii (c : UInt8) (h : c.toNat < 128) : Utf8.encode (c.toNat : Int) = ⟨#[c]⟩ := by
  have hv : Utf8.valid (c.toNat : Int) = true := by simp [Utf8.valid]; omega
  unfold Utf8.encode
  simp only [hv, if_true, Int.toNat_natCast, h]
  simp
theorem encode_digit (n : Nat) (hn : n < 16) (i : Int) (hi : i.toNat = n) (h : i.toNat < (ByteArray.mk #[48, 49, 50, 51, 52, 53, 54, 55, 56, 57, 97, 98, 99, 100, 101, 102]).size) :
    Utf8.encode (((ByteArray.mk #[48, 49, 50, 51, 52, 53, 54, 55, 56, 57, 97, 98, 99, 100, 101, 102])[i.toNat]'h).toNat : Int) = ⟨#[hexC n]⟩ := by
  rw [digs_int n i hi h]
  exact encode_ascii _ (hexC_ascii ⟨n, hn⟩)

set_option maxHeartbeats 1000000 in
theorem refHex_any (w : World) (v : Value) (l : List UInt8) (h : Bs w v l) (hl : l.length ≤ 1000000000000) :
    Calls Try.prog 27 #[v] w (RetV w (.string ⟨(hexL l).toArray⟩)) := by
  obtain ⟨A, c, rfl, h1, h2, h3⟩ := h
  unfold maxLen at h2
  go_enter Try.func27, Try.ntmps27
  go_wp2
  go_loopw [3, 5] (fun v i wr => ∃ k n : Nat, k ≤ l.length ∧ i = .int .i64 k ∧ v = .string ⟨(hexL (l.take k)).toArray⟩ ∧ wr = w.drewN n) (fun _ i _ => l.length - (intOf i).toNat)
  case atStart => exact ⟨0, 0, Nat.zero_le _, rfl, rfl, rfl⟩
  case round =>
    obtain ⟨k, n, hk, rfl, rfl, rfl⟩ := hrel
    by_cases hlt : k < l.length
    · obtain ⟨b0, o0, rfl, hc⟩ := h3 (by omega)
      have hc0 := hc k hlt
      have HT := Lib.hid (hexL_take l k hlt)
      have hzl : (hexL (l.take k)).length = 2 * k := by rw [hexL_length, List.length_take_of_le (by omega)]
      generalize hexL (l.take k) = z at HT hzl ⊢
      have hzb : z.length ≤ 2000000000000 := by omega
      clear hzl
      generalize l[k] = x at hc0 HT
      have hx := x.toNat_lt
      have hx1 : 0 ≤ (x.toNat : Int) / 16 := by omega
      have hx2 : (x.toNat : Int) / 16 < 16 := by omega
      have hy1 : 0 ≤ (x.toNat : Int) % 16 := by omega
      have hy2 : (x.toNat : Int) % 16 < 16 := by omega
      clear hc h3
      go_wp2
      have e1 : IntKind.u8.wrap ((x.toNat : Int) / 16) = (x.toNat : Int) / 16 := IntWalk.u8_in _ (by omega)
      have e2 : IntKind.u8.wrap ((x.toNat : Int) % 16) = (x.toNat : Int) % 16 := IntWalk.u8_in _ (by omega)
      have e3 : (x.toNat : Int).tmod 16 = (x.toNat : Int) % 16 := Int.tmod_eq_emod_of_nonneg (by omega)
      have q1 := encode_digit (x.toNat / 16) (by omega) ((x.toNat : Int) / 16) (by omega) (by simp [ByteArray.size]; omega)
      have q2 := encode_digit (x.toNat % 16) (by omega) ((x.toNat : Int) % 16) (by omega) (by simp [ByteArray.size]; omega)
      have n1 : ¬ (9223372036854775807 < z.length + 1) := by omega
      have n2 : ¬ (9223372036854775807 ≤ z.length) := by omega
      have n3 : ¬ (9223372036854775807 < z.length + 1 + 1) := by omega
      have n4 : ¬ (9223372036854775807 ≤ z.length + 1) := by omega
      have n5 : ¬ (9223372036854775806 ≤ z.length) := by omega
      go_quiet (fail)
      go_wp2
      clear e1 e2 e3 q1 q2 n1 n2 n3 n4 n5
      go_roundw
      case rel => exact ⟨k + 1, _, by omega, by go_num, by rw [HT.out]; congr 1; apply ByteArray.ext; simp, rfl⟩
      case measure => simp [intOf]; omega
    · have HF : Hid (hexL (l.take k) = hexL l) := by rw [List.take_of_length_le (by omega)]; rfl
      go_wp2
      go_ret
      exact ⟨ret_eq (by rw [HF.out]; rfl), below_drewN (Below.refl _ _) n⟩
end Go.Proofs.Ytemjlolpbbcclaa
