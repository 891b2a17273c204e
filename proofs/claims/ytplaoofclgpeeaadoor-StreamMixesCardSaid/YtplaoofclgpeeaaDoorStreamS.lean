/-
  Contracts of the document's own answers for the stream: a word of four bytes, Block. Conditions: as each theorem names them.
-/
import Derived.Test.YtplaoofclgpeeaaDoorStreamR
import Derived.Test.YtplaoofclgpeeaaDoorStreamC
namespace Go.Proofs.YtplaoofclgpeeaaDoor
open Go.RowKit
set_option linter.unusedVariables false
set_option maxRecDepth 20000

theorem word_sum (b0 b1 b2 b3 : UInt8) (l : List UInt8) (h : l = [b0, b1, b2, b3]) : ((b0.toNat : Int) + (b1.toNat : Int) * 256 + (b2.toNat : Int) * 65536 + (b3.toNat : Int) * 16777216) = (((UInt32.ofNat (ofLowB l)).toNat : Nat) : Int) := by
  subst h
  have h0 := b0.toNat_lt
  have h1 := b1.toNat_lt
  have h2 := b2.toNat_lt
  have h3 := b3.toNat_lt
  have hv : ofLowB [b0, b1, b2, b3] = b0.toNat + b1.toNat * 256 + b2.toNat * 65536 + b3.toNat * 16777216 := by simp only [ofLowB]; omega
  rw [hv, UInt32.toNat_ofNat_of_lt' (by simp only [UInt32.size]; omega)]
  omega

set_option maxHeartbeats 400000 in
theorem word_any (w : World) (v : Value) (l : List UInt8) (h : Bs w v l) (hl : l.length = 4) :
    Calls Tryd.prog 21 #[v] w fun e w' => e = .returned (.int .u32 ((UInt32.ofNat (ofLowB l)).toNat : Int)) ∧ ∃ n, w' = w.drewN n := by
  obtain ⟨A, c, rfl, h1, h2, h3⟩ := h
  unfold maxLen at h2
  obtain ⟨b, off, rfl, hc⟩ := h3 (by omega)
  obtain ⟨b0, b1, b2, b3, hlist⟩ : ∃ b0 b1 b2 b3, l = [b0, b1, b2, b3] := by
    match l, hl with
    | [b0, b1, b2, b3], _ => exact ⟨b0, b1, b2, b3, rfl⟩
  have hs := word_sum b0 b1 b2 b3 l hlist
  have HS := Lib.hid hs
  subst hlist
  have c0 := hc 0 (by simp)
  have c1 := hc 1 (by simp)
  have c2 := hc 2 (by simp)
  have c3 := hc 3 (by simp)
  simp only [List.getElem_cons_zero, List.getElem_cons_succ, Nat.add_zero] at c0 c1 c2 c3
  have h0 := b0.toNat_lt
  have h1' := b1.toNat_lt
  have h2' := b2.toNat_lt
  have h3' := b3.toNat_lt
  clear hc h3 hs hl
  generalize (UInt32.ofNat (ofLowB [b0, b1, b2, b3])) = res at HS ⊢
  go_enter Tryd.func21, Tryd.ntmps21
  go_wp2
  go_quiet (fail)
  go_wp2
  go_ret
  refine ⟨ret_int ?_, _, rfl⟩
  exact HS.out

theorem bytesLow_getD (ws : List UInt32) : ∀ (q r : Nat), r < 4 → q < ws.length → (bytesLow ws).getD (4 * q + r) 0 = byteN (ws.getD q 0).toNat r := by
  induction ws with
  | nil => intro q r _ h; simp at h
  | cons x l ih =>
    intro q r hr hq
    have hc : bytesLow (x :: l) = lowB x.toNat 4 ++ bytesLow l := by simp [bytesLow]
    rw [hc, List.getD_eq_getElem?_getD]
    cases q with
    | zero =>
      rw [List.getElem?_append_left (by rw [lowB_length]; omega)]
      simp [lowB, hr]
    | succ q =>
      rw [List.getElem?_append_right (by rw [lowB_length]; omega), lowB_length, show 4 * (q + 1) + r - 4 = 4 * q + r by omega, ← List.getD_eq_getElem?_getD, ih q r hr (by simpa using hq)]
      simp
theorem zipAdd_getD (a b : List UInt32) (q : Nat) (ha : q < a.length) (hb : q < b.length) : (List.zipWith (· + ·) a b).getD q 0 = a.getD q 0 + b.getD q 0 := by
  have hz : q < (List.zipWith (· + ·) a b).length := by rw [List.length_zipWith]; omega
  rw [List.getD_eq_getElem?_getD, List.getElem?_eq_getElem hz, List.getElem_zipWith]
  simp [List.getD_eq_getElem?_getD, ha, hb]
theorem quarter_row (w : List UInt32) (i j : Nat) (h : j < 4) (a b c d : Int) (ha : a = j) (hb : b = 4 + j) (hc : c = 8 + j) (hd : d = 12 + j) :
    quarterW (runS w (8 * i + j)) (low4 a) (low4 b) (low4 c) (low4 d) = runS w (8 * i + (j + 1)) := by
  subst ha hb hc hd
  rw [runS_step w i j (by omega)]
  have : j = 0 ∨ j = 1 ∨ j = 2 ∨ j = 3 := by omega
  rcases this with rfl | rfl | rfl | rfl <;> rfl
theorem quarter_diag (w : List UInt32) (i j : Nat) (h : j < 4) (a b c d : Int) (ha : a = j) (hb : b = 4 + ((j + 1) % 4 : Nat)) (hc : c = 8 + ((j + 2) % 4 : Nat)) (hd : d = 12 + ((j + 3) % 4 : Nat)) :
    quarterW (runS w (8 * i + (4 + j))) (low4 a) (low4 b) (low4 c) (low4 d) = runS w (8 * i + (4 + (j + 1))) := by
  subst ha hb hc hd
  rw [show 4 + (j + 1) = (4 + j) + 1 by omega, runS_step w i (4 + j) (by omega)]
  have : j = 0 ∨ j = 1 ∨ j = 2 ∨ j = 3 := by omega
  rcases this with rfl | rfl | rfl | rfl <;> rfl
end Go.Proofs.YtplaoofclgpeeaaDoor
