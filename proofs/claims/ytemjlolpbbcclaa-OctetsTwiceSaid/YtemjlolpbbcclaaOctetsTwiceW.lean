/-
  The walk of OctetsTwice. Conditions: what a row hands over.
-/
import Derived.Test.YtemjlolpbbcclaaAwake
import Derived.StillTailTactics
namespace Go.Proofs.Ytemjlolpbbcclaa
open Go.RowKit
set_option linter.unusedVariables false

theorem Bs.take {w : World} {A : Option Addr} {n c : Nat} {l : List UInt8} (h : Bs w (.slice A n c) l) (m : Nat) (hm : m ≤ l.length) : Bs w (.slice A m c) (l.take m) := by
  obtain ⟨A', c', hv, h1, h2, h3⟩ := h
  injection hv with e1 e2 e3
  subst e1 e2 e3
  have hl : (l.take m).length = m := List.length_take_of_le hm
  refine ⟨A, c, by rw [hl], by rw [hl]; omega, h2, fun h0 => ?_⟩
  rw [hl] at h0
  obtain ⟨b, off, hA, hc⟩ := h3 (by omega)
  refine ⟨b, off, hA, fun j hj => ?_⟩
  rw [hl] at hj
  rw [hc j (by omega), List.getElem_take]

theorem xor_twice (a b : List UInt8) (h : a.length = b.length) : xorB (xorB a b) b = a := by
  apply List.ext_getElem
  · rw [xorB_length, xorB_length]; omega
  · intro j h1 h2
    have hx : j < (xorB a b).length := by rw [xorB_length]; omega
    rw [xorB_get _ _ _ h1 hx (by omega), xorB_get _ _ _ hx h2 (by omega), UInt8.xor_assoc, UInt8.xor_self, UInt8.xor_zero]
/-- Are the first k bytes nothing but 0? -/
def zerosTo (l : List UInt8) (k : Nat) : Bool := (l.take k).all (· == 0)
theorem zerosTo_step (l : List UInt8) (k : Nat) (h : k < l.length) : zerosTo l (k + 1) = (zerosTo l k && l[k] == 0) := by
  unfold zerosTo
  rw [List.take_succ_eq_append_getElem h, List.all_append]
  simp
theorem zeros_same (a b : List UInt8) (h : a.length = b.length) : (a == b) = zerosTo (xorB a b) (xorB a b).length := by
  unfold zerosTo
  rw [List.take_length, Bool.eq_iff_iff, beq_iff_eq, List.all_eq_true]
  constructor
  · rintro rfl x hx
    obtain ⟨j, hj, rfl⟩ := List.getElem_of_mem hx
    rw [xorB_length] at hj
    rw [xorB_get _ _ _ (by rw [xorB_length]; exact hj) (by omega) (by omega)]
    simp
  · intro hz
    apply List.ext_getElem h
    intro j h1 h2
    have hj : j < (xorB a b).length := by rw [xorB_length]; omega
    have := hz _ (List.getElem_mem hj)
    rw [xorB_get _ _ _ hj h1 h2] at this
    exact (UInt8.xor_eq_zero_iff).1 (by simpa using this)

set_option maxHeartbeats 4000000 in
theorem octetsTwice_walk (w : World) (va : Value) (a : List UInt8) (ha : Bs w va a) (vb : Value) (b : List UInt8) (hb : Bs w vb b) :
    Calls Try.prog 7 #[va, vb] w (RetV w (.bool true)) := by
  have HA := Lib.hid ha
  have HB := Lib.hid hb
  obtain ⟨A, ca, rfl, ha1, ha2, ha3⟩ := ha
  obtain ⟨B, cb, rfl, hb1, hb2, hb3⟩ := hb
  unfold maxLen at ha2 hb2
  clear ha3 hb3
  by_cases hle : b.length < a.length
  · by_cases hlen : 200 < b.length
    · go_enter Try.func7, Try.ntmps7
      go_wp2_with fail
      refine (awake_true _).mono ?_
      rintro e w1 ⟨rfl, b1⟩
      go_wp2
      go_ret
      exact ⟨rfl, b1⟩
    · obtain ⟨X, hX⟩ : ∃ X, X = a.take b.length := ⟨_, rfl⟩
      obtain ⟨Y, hY⟩ : ∃ Y, Y = b.take b.length := ⟨_, rfl⟩
      have hXl : X.length = b.length := by rw [hX, List.length_take]; omega
      have hYl : Y.length = b.length := by rw [hY, List.length_take]; omega
      have HAX : Hid (Bs w (.slice A b.length ca) X) := by rw [hX]; exact HA.out.take _ (by omega)
      have HBY : Hid (Bs w (.slice B b.length cb) Y) := by rw [hY]; exact HB.out.take _ (by omega)
      obtain ⟨xs, hxs⟩ : ∃ xs, xs = xorB X Y := ⟨_, rfl⟩
      obtain ⟨sv, hsv⟩ : ∃ sv, sv = (X == Y) := ⟨_, rfl⟩
      have HSV : Hid (sv = zerosTo xs xs.length) := by show _ = _; rw [hsv, hxs]; exact zeros_same X Y (by omega)
      have HBK : Hid (xorB xs Y = X) := by show _ = _; rw [hxs]; exact xor_twice X Y (by omega)
      have hxl : xs.length = b.length := by rw [hxs, xorB_length]; omega
      have hxl1 : xs.length ≤ b.length := by omega
      have hxl2 : b.length ≤ xs.length := by omega
      have hxe : ((xs.length : Int) == (b.length : Int)) = true := by rw [beq_iff_eq]; omega
      have HC1 : Hid (∀ w', Bs w' (.slice A b.length ca) X → Bs w' (.slice B b.length cb) Y → Calls Try.prog 20 #[.slice A b.length ca, .slice B b.length cb] w' (RetBs w' xs)) := by
        intro w' h1 h2
        rw [hxs]
        exact Xor_any w' _ _ X Y h1 h2 (by omega) (by omega)
      have HC2 : Hid (∀ w' v', Bs w' v' xs → Bs w' (.slice B b.length cb) Y → Calls Try.prog 20 #[v', .slice B b.length cb] w' (RetBs w' X)) := by
        intro w' v' h1 h2
        have := Xor_any w' _ _ xs Y h1 h2 (by omega) (by omega)
        rwa [HBK.out] at this
      have HC3 : Hid (∀ w', Bs w' (.slice A b.length ca) X → Bs w' (.slice B b.length cb) Y → Calls Try.prog 21 #[.slice A b.length ca, .slice B b.length cb] w' fun e w'' => e = .returned (.bool sv) ∧ w' = w'') := by
        intro w' h1 h2
        rw [hsv]
        exact Same_any w' _ _ X Y h1 h2
      clear hX hY hXl hYl hxs hsv hxl
      go_enter Try.func7, Try.ntmps7
      go_wp2_with fail
      refine (awake_true _).mono ?_
      rintro e w1 ⟨rfl, b1⟩
      have hax1 := HAX.out.below b1
      have hby1 := HBY.out.below b1
      go_wp2
      go_region_with (go_at_call 20; refine (HC1.out _ hax1.drew hby1.drew).mono ?_; rintro e w2 ⟨_, rfl, ⟨Ax, cx, rfl, g1, g2, g3⟩, b2'⟩)
      have b2 := below_size b1.drew b2'
      have HX2 : Hid (Bs w2 (.slice Ax xs.length cx) xs) := ⟨Ax, cx, rfl, g1, g2, g3⟩
      have hby2 := HBY.out.below b2
      unfold maxLen at g2
      clear b1 b2' hax1 hby1
      go_wp2_with fail
      refine (HC2.out _ _ HX2.out hby2).mono ?_
      rintro e w3 ⟨vy, rfl, hy3, b3'⟩
      have b3 := below_size b2 b3'
      have HX3 := Lib.hid (HX2.out.below b3')
      have hax3 := HAX.out.below b3
      have hby3 := HBY.out.below b3
      have HY3 := Lib.hid hy3
      clear b2 b3' hby2 HX2 hy3 g3
      go_wp2
      go_region_with (go_at_call 21; refine (HC3.out _ hax3.drew hby3.drew).mono ?_; rintro e w4 ⟨rfl, rfl⟩)
      go_wp2
      have HX4 : Hid (Bs w3.drew (.slice Ax xs.length cx) xs) := HX3.out.drew
      have HY4 : Hid (Bs w3.drew vy X) := HY3.out.drew
      have b4 := b3.drew
      clear b3 hax3 hby3 HX3 HY3
      generalize w3.drew = w4 at HX4 HY4 b4 ⊢
      go_loop [10, 11] (fun z i => ∃ (k : Nat) (t : Bool), k ≤ xs.length ∧ i = .int .i64 k ∧ t = zerosTo xs k ∧ z = .bool t) (fun _ i => xs.length - (intOf i).toNat)
      case atStart => exact ⟨0, true, Nat.zero_le _, rfl, by simp [zerosTo], rfl⟩
      case round =>
        obtain ⟨k, t, hk, rfl, ht, rfl⟩ := hrel
        have HT := Lib.hid ht
        clear ht
        by_cases hlt : k < xs.length
        · have HS := Lib.hid (zerosTo_step xs k hlt)
          obtain ⟨Ax', cx', hv, _, _, h3⟩ := HX4.out
          injection hv with e1 e2 e3
          subst e1 e3
          obtain ⟨q0, o0, rfl, hc⟩ := h3 (by omega)
          have hcell := hc k hlt
          clear hc h3
          cases t with
          | false =>
            go_wp2
            go_round
            case rel => exact ⟨k + 1, false, by omega, by go_num, by rw [HS.out, ← HT.out]; rfl, rfl⟩
            case measure => simp [intOf]; omega
          | true =>
            by_cases hz : xs[k] = 0
            · have hz1 : ((xs[k].toNat : Int) == 0) = true := by rw [hz]; rfl
              have HZ := Lib.hid hz
              clear hz
              go_wp2
              go_round
              case rel => exact ⟨k + 1, true, by omega, by go_num, by rw [HS.out, ← HT.out, HZ.out]; rfl, rfl⟩
              case measure => simp [intOf]; omega
            · have hz1 : ((xs[k].toNat : Int) == 0) = false := by
                rw [beq_eq_false_iff_ne]; intro h; exact hz (UInt8.toNat_inj.1 (by simpa using h))
              have HZ : Hid ((xs[k] == 0) = false) := by show _ = _; rw [beq_eq_false_iff_ne]; exact hz
              clear hz
              go_wp2
              go_round
              case rel => exact ⟨k + 1, false, by omega, by go_num, by rw [HS.out, ← HT.out, HZ.out]; rfl, rfl⟩
              case measure => simp [intOf]; omega
        · have hts : (sv == t) = true := by
            have hk2 : k = xs.length := by omega
            rw [HSV.out, HT.out, hk2]
            simp
          have hax4 := HAX.out.below b4
          go_wp2_with fail
          refine (refSame_yes _ _ _ X HY4.out hax4).mono ?_
          rintro e w5 ⟨rfl, b5'⟩
          have b5 := below_size b4 b5'
          go_wp2
          go_ret
          exact ⟨rfl, b5⟩
  · by_cases hlen : 200 < a.length
    · go_enter Try.func7, Try.ntmps7
      go_wp2_with fail
      refine (awake_true _).mono ?_
      rintro e w1 ⟨rfl, b1⟩
      go_wp2
      go_ret
      exact ⟨rfl, b1⟩
    · obtain ⟨X, hX⟩ : ∃ X, X = a.take a.length := ⟨_, rfl⟩
      obtain ⟨Y, hY⟩ : ∃ Y, Y = b.take a.length := ⟨_, rfl⟩
      have hXl : X.length = a.length := by rw [hX, List.length_take]; omega
      have hYl : Y.length = a.length := by rw [hY, List.length_take]; omega
      have HAX : Hid (Bs w (.slice A a.length ca) X) := by rw [hX]; exact HA.out.take _ (by omega)
      have HBY : Hid (Bs w (.slice B a.length cb) Y) := by rw [hY]; exact HB.out.take _ (by omega)
      obtain ⟨xs, hxs⟩ : ∃ xs, xs = xorB X Y := ⟨_, rfl⟩
      obtain ⟨sv, hsv⟩ : ∃ sv, sv = (X == Y) := ⟨_, rfl⟩
      have HSV : Hid (sv = zerosTo xs xs.length) := by show _ = _; rw [hsv, hxs]; exact zeros_same X Y (by omega)
      have HBK : Hid (xorB xs Y = X) := by show _ = _; rw [hxs]; exact xor_twice X Y (by omega)
      have hxl : xs.length = a.length := by rw [hxs, xorB_length]; omega
      have hxl1 : xs.length ≤ a.length := by omega
      have hxl2 : a.length ≤ xs.length := by omega
      have hxe : ((xs.length : Int) == (a.length : Int)) = true := by rw [beq_iff_eq]; omega
      have HC1 : Hid (∀ w', Bs w' (.slice A a.length ca) X → Bs w' (.slice B a.length cb) Y → Calls Try.prog 20 #[.slice A a.length ca, .slice B a.length cb] w' (RetBs w' xs)) := by
        intro w' h1 h2
        rw [hxs]
        exact Xor_any w' _ _ X Y h1 h2 (by omega) (by omega)
      have HC2 : Hid (∀ w' v', Bs w' v' xs → Bs w' (.slice B a.length cb) Y → Calls Try.prog 20 #[v', .slice B a.length cb] w' (RetBs w' X)) := by
        intro w' v' h1 h2
        have := Xor_any w' _ _ xs Y h1 h2 (by omega) (by omega)
        rwa [HBK.out] at this
      have HC3 : Hid (∀ w', Bs w' (.slice A a.length ca) X → Bs w' (.slice B a.length cb) Y → Calls Try.prog 21 #[.slice A a.length ca, .slice B a.length cb] w' fun e w'' => e = .returned (.bool sv) ∧ w' = w'') := by
        intro w' h1 h2
        rw [hsv]
        exact Same_any w' _ _ X Y h1 h2
      clear hX hY hXl hYl hxs hsv hxl
      go_enter Try.func7, Try.ntmps7
      go_wp2_with fail
      refine (awake_true _).mono ?_
      rintro e w1 ⟨rfl, b1⟩
      have hax1 := HAX.out.below b1
      have hby1 := HBY.out.below b1
      go_wp2
      go_region_with (go_at_call 20; refine (HC1.out _ hax1.drew hby1.drew).mono ?_; rintro e w2 ⟨_, rfl, ⟨Ax, cx, rfl, g1, g2, g3⟩, b2'⟩)
      have b2 := below_size b1.drew b2'
      have HX2 : Hid (Bs w2 (.slice Ax xs.length cx) xs) := ⟨Ax, cx, rfl, g1, g2, g3⟩
      have hby2 := HBY.out.below b2
      unfold maxLen at g2
      clear b1 b2' hax1 hby1
      go_wp2_with fail
      refine (HC2.out _ _ HX2.out hby2).mono ?_
      rintro e w3 ⟨vy, rfl, hy3, b3'⟩
      have b3 := below_size b2 b3'
      have HX3 := Lib.hid (HX2.out.below b3')
      have hax3 := HAX.out.below b3
      have hby3 := HBY.out.below b3
      have HY3 := Lib.hid hy3
      clear b2 b3' hby2 HX2 hy3 g3
      go_wp2
      go_region_with (go_at_call 21; refine (HC3.out _ hax3.drew hby3.drew).mono ?_; rintro e w4 ⟨rfl, rfl⟩)
      go_wp2
      have HX4 : Hid (Bs w3.drew (.slice Ax xs.length cx) xs) := HX3.out.drew
      have HY4 : Hid (Bs w3.drew vy X) := HY3.out.drew
      have b4 := b3.drew
      clear b3 hax3 hby3 HX3 HY3
      generalize w3.drew = w4 at HX4 HY4 b4 ⊢
      go_loop [10, 11] (fun z i => ∃ (k : Nat) (t : Bool), k ≤ xs.length ∧ i = .int .i64 k ∧ t = zerosTo xs k ∧ z = .bool t) (fun _ i => xs.length - (intOf i).toNat)
      case atStart => exact ⟨0, true, Nat.zero_le _, rfl, by simp [zerosTo], rfl⟩
      case round =>
        obtain ⟨k, t, hk, rfl, ht, rfl⟩ := hrel
        have HT := Lib.hid ht
        clear ht
        by_cases hlt : k < xs.length
        · have HS := Lib.hid (zerosTo_step xs k hlt)
          obtain ⟨Ax', cx', hv, _, _, h3⟩ := HX4.out
          injection hv with e1 e2 e3
          subst e1 e3
          obtain ⟨q0, o0, rfl, hc⟩ := h3 (by omega)
          have hcell := hc k hlt
          clear hc h3
          cases t with
          | false =>
            go_wp2
            go_round
            case rel => exact ⟨k + 1, false, by omega, by go_num, by rw [HS.out, ← HT.out]; rfl, rfl⟩
            case measure => simp [intOf]; omega
          | true =>
            by_cases hz : xs[k] = 0
            · have hz1 : ((xs[k].toNat : Int) == 0) = true := by rw [hz]; rfl
              have HZ := Lib.hid hz
              clear hz
              go_wp2
              go_round
              case rel => exact ⟨k + 1, true, by omega, by go_num, by rw [HS.out, ← HT.out, HZ.out]; rfl, rfl⟩
              case measure => simp [intOf]; omega
            · have hz1 : ((xs[k].toNat : Int) == 0) = false := by
                rw [beq_eq_false_iff_ne]; intro h; exact hz (UInt8.toNat_inj.1 (by simpa using h))
              have HZ : Hid ((xs[k] == 0) = false) := by show _ = _; rw [beq_eq_false_iff_ne]; exact hz
              clear hz
              go_wp2
              go_round
              case rel => exact ⟨k + 1, false, by omega, by go_num, by rw [HS.out, ← HT.out, HZ.out]; rfl, rfl⟩
              case measure => simp [intOf]; omega
        · have hts : (sv == t) = true := by
            have hk2 : k = xs.length := by omega
            rw [HSV.out, HT.out, hk2]
            simp
          have hax4 := HAX.out.below b4
          go_wp2_with fail
          refine (refSame_yes _ _ _ X HY4.out hax4).mono ?_
          rintro e w5 ⟨rfl, b5'⟩
          have b5 := below_size b4 b5'
          go_wp2
          go_ret
          exact ⟨rfl, b5⟩
end Go.Proofs.Ytemjlolpbbcclaa
