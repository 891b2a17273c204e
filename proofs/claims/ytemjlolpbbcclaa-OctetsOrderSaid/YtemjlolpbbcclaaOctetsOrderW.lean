/-
  The walk of OctetsOrder. Conditions: what a row hands over.
-/
import Derived.Test.YtemjlolpbbcclaaAwake
namespace Go.Proofs.Ytemjlolpbbcclaa
open Go.RowKit
set_option linter.unusedVariables false

/-- A slice of eight bytes, told place by place. -/
def Eight (w : World) (f : Nat → UInt8) (w0 : World) (e : Ending) (w' : World) : Prop :=
  ∃ b off c, e = .returned (.slice (some ⟨b, off, none⟩) 8 c) ∧ 8 ≤ c ∧ c ≤ 9223372036854775807 ∧ (∀ j, j < 8 → w'.cell? ⟨b, off + j, none⟩ = some (.int .u8 ((f j).toNat : Int))) ∧ Below w0.heap.size w0 w'

theorem Eight.of {w : World} {l : List UInt8} {f : Nat → UInt8} (hl : l.length = 8) (hf : ∀ j (h : j < l.length), l[j] = f j) {e : Ending} {w' : World} (h : RetBs w l e w') : Eight w f w e w' := by
  obtain ⟨v, rfl, ⟨A, c, rfl, h1, h2, h3⟩, hb⟩ := h
  obtain ⟨b, off, rfl, hc⟩ := h3 (by omega)
  refine ⟨b, off, c, by rw [hl], by omega, by unfold maxLen at h2; omega, fun j hj => ?_, hb⟩
  rw [hc j (by omega), hf]

theorem High8 (w : World) (n : Nat) (hn : n < 18446744073709551616) :
    Calls Try.prog 12 #[.int .u64 (n : Int), .int .i64 8] w (Eight w (fun j => byteN n (7 - j)) w) := by
  have hl : (highI n 8).length = 8 := by
    have := lowI_in n 8 (by omega) (by omega)
    unfold highI
    rw [show ((8 : Nat) : Int) = 8 from rfl] at this
    rw [this, List.length_reverse, lowB_length]
  refine (High_any w n hn 8).mono fun e w' h => Eight.of hl (fun j hj => ?_) h
  have := lowI_in n 8 (by omega) (by omega)
  rw [show ((8 : Nat) : Int) = 8 from rfl] at this
  simp only [highI, this, List.getElem_reverse, lowB, List.getElem_map, List.getElem_range, List.length_map, List.length_range]
theorem Low8 (w : World) (n : Nat) (hn : n < 18446744073709551616) :
    Calls Try.prog 11 #[.int .u64 (n : Int), .int .i64 8] w (Eight w (fun j => byteN n j) w) := by
  have e := lowI_in n 8 (by omega) (by omega)
  rw [show ((8 : Nat) : Int) = 8 from rfl] at e
  have hl : (lowI n 8).length = 8 := by rw [e, lowB_length]
  refine (Low_any w n hn 8).mono fun _ w' h => Eight.of hl (fun j hj => ?_) h
  simp only [e, lowB, List.getElem_map, List.getElem_range]

/-- Of the lowest j bytes: is a's number below b's? -/
def lessAt (a b j : Nat) : Bool := decide (a % 256 ^ j < b % 256 ^ j)
theorem lessAt_step (a b j : Nat) : lessAt a b (j + 1) = if (byteN a j).toNat = (byteN b j).toNat then lessAt a b j else decide ((byteN a j).toNat < (byteN b j).toNat) := by
  rw [byteN_toNat, byteN_toNat]
  unfold lessAt
  rw [Nat.pow_succ, Nat.mod_mul, Nat.mod_mul]
  generalize a / 256 ^ j % 256 = x
  generalize b / 256 ^ j % 256 = y
  have h1 := Nat.mod_lt a (Nat.pow_pos (n := j) (show 0 < 256 by omega))
  have h2 := Nat.mod_lt b (Nat.pow_pos (n := j) (show 0 < 256 by omega))
  generalize a % 256 ^ j = r at *
  generalize b % 256 ^ j = s at *
  generalize 256 ^ j = P at *
  by_cases h : x = y
  · rw [if_pos h, h, decide_eq_decide]
    omega
  · rw [if_neg h, decide_eq_decide]
    constructor
    · intro hh
      rcases Nat.lt_or_ge x y with h3 | h3
      · exact h3
      · have : P * (y + 1) ≤ P * x := Nat.mul_le_mul_left _ (by omega)
        rw [Nat.mul_add] at this
        omega
    · intro hh
      have : P * (x + 1) ≤ P * y := Nat.mul_le_mul_left _ (by omega)
      rw [Nat.mul_add] at this
      omega
theorem lessAt_all (a b : Nat) (ha : a < 18446744073709551616) (hb : b < 18446744073709551616) : lessAt a b 8 = decide (a < b) := by
  unfold lessAt
  rw [Nat.mod_eq_of_lt (by simpa using ha), Nat.mod_eq_of_lt (by simpa using hb)]

set_option maxHeartbeats 2000000 in
theorem octetsOrder_walk (w : World) (a : Nat) (ha : a < 18446744073709551616) (b : Nat) (hb : b < 18446744073709551616) :
    Calls Try.prog 8 #[.int .u64 (a : Int), .int .u64 (b : Int)] w (RetV w (.bool true)) := by
  go_enter Try.func8, Try.ntmps8
  go_wp2_with fail
  refine (awake_true _).mono ?_
  rintro e w1 ⟨rfl, b1⟩
  go_wp2_with fail
  refine (High8 _ a ha).mono ?_
  rintro e w2 ⟨p0, q0, c0, rfl, x1, x2, hx2, b2'⟩
  have b2 := below_size b1 b2'
  clear b1 b2'
  go_wp2_with fail
  refine (High8 _ b hb).mono ?_
  rintro e w3 ⟨p1, q1, c1, rfl, y1, y2, hy3, b3'⟩
  have hx3 : ∀ j, j < 8 → w3.cell? ⟨p0, q0 + j, none⟩ = some (.int .u8 ((byteN a (7 - j)).toNat : Int)) := fun j hj => (b3'.cell (World.block_lt_of_cell? w2 _ (hx2 j hj))).trans (hx2 j hj)
  have b3 := below_size b2 b3'
  have HX3 := Lib.hid hx3
  have HY3 := Lib.hid hy3
  clear hx2 b2 b3' hx3 hy3
  go_wp2_with fail
  refine (Low8 _ a ha).mono ?_
  rintro e w4 ⟨p2, q2, c2, rfl, z1, z2, hz4, b4'⟩
  have HX : Hid (∀ j, j < 8 → w4.cell? ⟨p0, q0 + j, none⟩ = some (.int .u8 ((byteN a (7 - j)).toNat : Int))) := fun j hj => (b4'.cell (World.block_lt_of_cell? w3 _ (HX3.out j hj))).trans (HX3.out j hj)
  have HY : Hid (∀ j, j < 8 → w4.cell? ⟨p1, q1 + j, none⟩ = some (.int .u8 ((byteN b (7 - j)).toNat : Int))) := fun j hj => (b4'.cell (World.block_lt_of_cell? w3 _ (HY3.out j hj))).trans (HY3.out j hj)
  have HZ := Lib.hid hz4
  have b4 := below_size b3 b4'
  clear hz4 b3 b4' HX3 HY3
  go_wp2
  go_loopw [9, 10] (fun z i wr => ∃ (m : Int) (n : Nat) (t : Bool), -1 ≤ m ∧ m ≤ 7 ∧ i = .int .i64 m ∧ t = lessAt a b (7 - m).toNat ∧ z = .bool t ∧ wr = w4.drewN n) (fun _ i _ => (intOf i + 1).toNat)
  case atStart => exact ⟨7, 0, false, by omega, by omega, rfl, by simp [lessAt, Nat.mod_one], rfl, rfl⟩
  case round =>
    obtain ⟨m, n, t, hm1, hm2, rfl, ht, rfl, rfl⟩ := hrel
    have HT := Lib.hid ht
    clear ht
    by_cases h0 : 0 ≤ m
    · obtain ⟨i, rfl⟩ := Int.eq_ofNat_of_zero_le h0
      have hi : i ≤ 7 := by omega
      have cx := HX.out i (by omega)
      have cy := HY.out i (by omega)
      have cz := HZ.out i (by omega)
      have cw := HX.out (7 - i) (by omega)
      have HS := Lib.hid (lessAt_step a b (7 - i))
      have HJ : Hid ((7 - ((i : Int) - 1)).toNat = 7 - i + 1) := by show _ = _; omega
      have HJ0 : Hid ((7 - (i : Int)).toNat = 7 - i) := by show _ = _; omega
      have e4 : 7 - (7 - i) = i := by omega
      rw [e4] at cw
      have e5 : (((byteN a i).toNat : Int) != ((byteN a i).toNat : Int)) = false := by simp
      by_cases he : (byteN a (7 - i)).toNat = (byteN b (7 - i)).toNat
      · have he1 : (((byteN a (7 - i)).toNat : Int) != ((byteN b (7 - i)).toNat : Int)) = false := by simp [he]
        have HE : Hid (lessAt a b (7 - i + 1) = lessAt a b (7 - i)) := by have := HS.out; rwa [if_pos he] at this
        clear he e4 HS
        go_wp2
        go_quiet (fail)
        go_wp2
        have e1 : IntKind.i64.wrap (7 - (i : Int)) = 7 - (i : Int) := IntWalk.i64_in _ (by omega)
        have e2 : (7 - (i : Int)).toNat = 7 - i := by omega
        have e6 : 0 ≤ 7 - (i : Int) := by omega
        have e7 : 7 - (i : Int) < 8 := by omega
        go_quiet (fail)
        clear e1 e2 e6 e7
        go_wp2
        go_roundw
        case rel => exact ⟨(i : Int) - 1, _, t, by omega, by omega, by go_num, by rw [HJ.out, HE.out, HT.out, HJ0.out], rfl, rfl⟩
        case measure => simp [intOf]
      · have he1 : (((byteN a (7 - i)).toNat : Int) != ((byteN b (7 - i)).toNat : Int)) = true := by rw [bne_iff_ne]; omega
        have HE : Hid (lessAt a b (7 - i + 1) = decide ((byteN a (7 - i)).toNat < (byteN b (7 - i)).toNat)) := by have := HS.out; rwa [if_neg he] at this
        obtain ⟨u, hu⟩ : ∃ u, u = decide ((byteN a (7 - i)).toNat < (byteN b (7 - i)).toNat) := ⟨_, rfl⟩
        have hu1 : decide (((byteN a (7 - i)).toNat : Int) < ((byteN b (7 - i)).toNat : Int)) = u := by rw [hu, decide_eq_decide]; omega
        have hu2 : decide ((byteN a (7 - i)).toNat < (byteN b (7 - i)).toNat) = u := hu.symm
        have HU := Lib.hid hu
        clear he e4 HS hu
        go_wp2
        go_quiet (fail)
        go_wp2
        go_quiet (fail)
        go_wp2
        have e1 : IntKind.i64.wrap (7 - (i : Int)) = 7 - (i : Int) := IntWalk.i64_in _ (by omega)
        have e2 : (7 - (i : Int)).toNat = 7 - i := by omega
        have e6 : 0 ≤ 7 - (i : Int) := by omega
        have e7 : 7 - (i : Int) < 8 := by omega
        go_quiet (fail)
        clear e1 e2 e6 e7
        go_wp2
        go_roundw
        case rel => exact ⟨(i : Int) - 1, _, u, by omega, by omega, by go_num, by rw [HJ.out, HE.out, HU.out], rfl, rfl⟩
        case measure => simp [intOf]
    · have hm : m = -1 := by omega
      have HF : Hid (t = decide (a < b)) := by
        show _ = _
        rw [HT.out, hm, ← lessAt_all a b ha hb]
        rfl
      have hd : decide (0 ≤ m) = false := by simp; omega
      have h5 : (t == decide ((a : Int) < (b : Int))) = true := by
        rw [HF.out, beq_iff_eq, decide_eq_decide]; omega
      have h6 : (t == decide (a < b)) = true := by rw [HF.out]; simp
      clear hm
      go_wp2
      go_ret
      exact ⟨rfl, below_drewN b4 n⟩
end Go.Proofs.Ytemjlolpbbcclaa
