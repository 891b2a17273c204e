/-
  Texts that belong together, merged: CodecDecodesW, CodH. Conditions: as each theorem names them.
-/
import Derived.Test.YtjhhpakaemnemaaQCorAI
import Derived.Test.YtjhhpakaemnemaaQCorAJ
import Derived.Test.YtjhhpakaemnemaaQCorAK
import Derived.Test.YtjhhpakaemnemaaQCorAL
import Derived.Test.YtjhhpakaemnemaaQCorAH
section
namespace Go.Proofs.Ytjhhpakaemnemaa
open Go.RowKit
set_option linter.unusedVariables false
set_option maxRecDepth 20000

theorem Its.nilR (w : World) : Its w (.slice none 0 0) [] := ⟨fun _ => undef, fun _ => undef, ⟨none, 0, rfl, Nat.le_refl _, by simp [maxLen], fun h => absurd h (by simp)⟩, fun j x h => by cases h⟩
def decY (shape : List Int) (b : List UInt8) : Int := if shape.any badK = true then 51 else (decE shape ⟨b, 0⟩).fin
def decI (shape : List Int) (b : List UInt8) : List It := if shape.any badK = true then [] else if (decE shape ⟨b, 0⟩).fin = 0 then decL shape ⟨b, 0⟩ else []
theorem dec_val {w : World} {shape : List Int} {b : List UInt8} {e : Ending} (h : DecRet w shape b e) : ∃ v, e = .returned (.tuple #[v, .int .i64 (decY shape b)]) ∧ Its w v (decI shape b) := by
  unfold decY decI
  rcases h with ⟨h1, h2⟩ | ⟨h1, ⟨h2, h3⟩ | ⟨h2, v, h3, h4⟩⟩
  · rw [if_pos h1, if_pos h1]
    exact ⟨_, h2, Its.nilR w⟩
  · rw [if_neg (by rw [h1]; decide), if_neg (by rw [h1]; decide), if_neg h2]
    exact ⟨_, h3, Its.nilR w⟩
  · rw [if_neg (by rw [h1]; decide), if_neg (by rw [h1]; decide), if_pos h2, h2]
    exact ⟨v, h3, h4⟩
theorem decL_keys (l : List Int) : ∀ (s : St) x, x ∈ decL l s → x.l.length ≤ 100 := by
  induction l with
  | nil => intro s x h; cases h
  | cons z r ih =>
    intro s x h
    rw [decL] at h
    rcases List.mem_cons.1 h with rfl | h
    · unfold St.rd
      split
      · simp
      · split
        · exact s.keys_le 100
        · simp
    · exact ih _ x h
theorem decI_length (shape : List Int) (b : List UInt8) : (decI shape b).length ≤ shape.length := by
  unfold decI
  split
  · simp
  · split
    · rw [decL_length]; exact Nat.le_refl _
    · simp
theorem decI_keys (shape : List Int) (b : List UInt8) : ∀ x ∈ decI shape b, x.l.length ≤ 1000 := by
  unfold decI
  split
  · simp
  · split
    · intro x hx; have := decL_keys _ _ x hx; omega
    · simp

set_option maxHeartbeats 4000000 in
theorem codecDecodes_walk (w : World) (v : Value) (shape : List Int) (hz : Zs w v shape) (u : Value) (b : List UInt8) (hu : Bs w u b) :
    Calls Try.prog 4 #[v, u] w (RetV w (.bool true)) := by
  have HZ := Lib.hid hz
  have HU := Lib.hid hu
  have HA := Lib.hid (fun w => awake_true w)
  obtain ⟨A, c, rfl, _, q2, _⟩ := hz
  obtain ⟨UA, uc, rfl, _, _, _⟩ := hu
  unfold maxLen at q2
  by_cases hs : (20 : Int) < (shape.length : Int)
  · go_enter Try.func4, Try.ntmps4
    go_wp2_with fail
    refine (HA.out _).mono ?_
    intro e w1 hh
    obtain ⟨he, b1⟩ := hh
    subst he
    have B1 := Lib.hid b1
    clear b1
    go_wp2
    go_ret
    exact ⟨rfl, B1.out⟩
  · by_cases hs2 : (5000 : Int) < (b.length : Int)
    · go_enter Try.func4, Try.ntmps4
      go_wp2_with fail
      refine (HA.out _).mono ?_
      intro e w1 hh
      obtain ⟨he, b1⟩ := hh
      subst he
      have B1 := Lib.hid b1
      clear b1
      go_wp2
      go_ret
      exact ⟨rfl, B1.out⟩
    · have hn20 : shape.length ≤ 20 := by omega
      have hbl : b.length ≤ 5000 := by omega
      obtain ⟨y, hy⟩ : ∃ y, y = decY shape b := ⟨_, rfl⟩
      obtain ⟨D, hD⟩ : ∃ D, D = decI shape b := ⟨_, rfl⟩
      have HDV : Hid (∀ w e, DecRet w shape b e → ∃ v, e = .returned (.tuple #[v, .int .i64 y]) ∧ Its w v D) := fun w e h => by rw [hy, hD]; exact dec_val h
      have HD1 : Hid (D.length ≤ 1000) := by show _ ≤ _; rw [hD]; have := decI_length shape b; omega
      have HD2 : Hid (∀ x ∈ D, x.l.length ≤ 1000) := by show ∀ x ∈ D, _; rw [hD]; exact decI_keys shape b
      have hyy : decide (y = y) = true := by simp
      clear hy hD
      have X1 := Lib.hid (fun w h1 h2 => decode_any w (.slice A shape.length c) (.slice UA b.length uc) shape b h1 h2 (by omega) (by omega))
      have X2 := Lib.hid (fun w h1 h2 => refDecode_any w (.slice A shape.length c) (.slice UA b.length uc) shape b h1 h2 (by omega) (by omega))
      go_enter Try.func4, Try.ntmps4
      go_wp2_with fail
      refine (HA.out _).mono ?_
      intro e w1 hh
      obtain ⟨he, b1⟩ := hh
      subst he
      have B1 := Lib.hid b1
      clear b1 HA
      go_wp2_with fail
      refine (X1.out _ (HZ.out.below B1.out) (HU.out.below B1.out)).mono ?_
      intro e w2 hh
      obtain ⟨b2, hh⟩ := hh
      obtain ⟨v2, he, hi⟩ := HDV.out _ _ hh
      subst he
      have B2 := Lib.hid (below_size B1.out b2)
      have I2 := Lib.hid hi
      obtain ⟨_, _, ⟨A2, c2, rfl, _, _, _⟩, _⟩ := hi
      clear b2 hh X1 B1
      go_wp2_with fail
      refine (X2.out _ (HZ.out.below B2.out) (HU.out.below B2.out)).mono ?_
      intro e w3 hh
      obtain ⟨b3, hh⟩ := hh
      obtain ⟨v3, he, hi⟩ := HDV.out _ _ hh
      subst he
      have B3 := Lib.hid (below_size B2.out b3)
      have I23 := Lib.hid (I2.out.below b3)
      have I3 := Lib.hid hi
      obtain ⟨_, _, ⟨A3, c3, rfl, _, _, _⟩, _⟩ := hi
      clear b3 hh X2 B2 I2 HDV
      go_wp2_with fail
      refine (doc_any _ _ D I23.out HD1.out).mono ?_
      intro e w4 hh
      obtain ⟨v4, he, hi, b4⟩ := hh
      subst he
      have B4 := Lib.hid (below_size B3.out b4)
      have I34 := Lib.hid (I3.out.below b4)
      have I4 := Lib.hid hi
      obtain ⟨_, _, ⟨A4, c4, rfl, _, _, _⟩, _⟩ := hi
      clear b4 B3 I23 I3
      go_wp2_with fail
      refine (refAlike_same _ _ _ D I4.out I34.out HD1.out HD2.out).mono ?_
      intro e w5 hh
      obtain ⟨he, b5⟩ := hh
      subst he
      have B5 := Lib.hid (below_size B4.out b5)
      clear b5 B4 I4 I34
      go_wp2
      go_ret
      exact ⟨rfl, B5.out⟩
end Go.Proofs.Ytjhhpakaemnemaa
end
section
namespace Go.Proofs.Ytjhhpakaemnemaa
open Go.RowKit
set_option linter.unusedVariables false
set_option maxRecDepth 20000

/-- An item with its kind's own field alone. -/
def It.own (x : It) : It := if x.k = 9 then ⟨9, 0, x.b, []⟩ else if x.k = 32 then ⟨32, 0, [], x.l⟩ else ⟨x.k, x.n, [], []⟩
theorem put_ne (s : St) (b : List UInt8) (h : s.e ≠ 0) : s.put b = s := by unfold St.put; rw [if_neg h]
theorem fail_stay (s : St) (x : Int) (h : s.e ≠ 0) : s.fail x = s := by unfold St.fail; rw [if_neg h]
theorem item_ne (s : St) (x : It) (h : s.e ≠ 0) : s.item x = s := by
  unfold St.item St.wByt St.wKey St.wNum
  split
  · split <;> simp [put_ne, fail_stay, h]
  · split
    · split <;> simp [put_ne, fail_stay, h]
    · split <;> simp [put_ne, fail_stay, h]
theorem fold_ne (l : List It) : ∀ s : St, s.e ≠ 0 → l.foldl St.item s = s := by
  induction l with
  | nil => intro s _; rfl
  | cons x r ih => intro s h; rw [List.foldl_cons, item_ne s x h, ih s h]
/-- The bytes c are what the item x is written to: read, they give x with its kind's own field; cut short, they end in 3. -/
def Reads (x : It) (c : List UInt8) : Prop := (∀ r : List UInt8, St.rd ⟨c ++ r, 0⟩ x.k = x.own ∧ St.rdS ⟨c ++ r, 0⟩ x.k = ⟨r, 0⟩) ∧ ∀ n, n < c.length → (St.rdS ⟨c.take n, 0⟩ x.k).e = 3
theorem rest_short (l : List UInt8) (n : Nat) (h : l.length < n) : (St.rest ⟨l, 0⟩ n) = ⟨[], 3⟩ := (take_no ⟨l, 0⟩ n rfl h).2
theorem two_cnt (c r : List UInt8) (N : Nat) (m : Int) (hN : N < 65536) (hm : (N : Int) ≤ m) : St.cntS ⟨(lowB N 2).reverse ++ r, 0⟩ m = ⟨r, 0⟩ ∧ St.cnt ⟨(lowB N 2).reverse ++ r, 0⟩ m = N := by
  have hl : (2 : Nat) = (lowB N 2).reverse.length := (high_length N 2).symm
  obtain ⟨h1, h2⟩ := take_ok (lowB N 2).reverse r 2 hl
  have hn : St.num ⟨(lowB N 2).reverse ++ r, 0⟩ 2 = N := by
    unfold St.num
    rw [if_pos (by decide), show ((2 : Int)).toNat = 2 from rfl, h1, List.take_of_length_le (by rw [high_length]; omega), of_high N 2 (by omega)]
  have hs : St.numS ⟨(lowB N 2).reverse ++ r, 0⟩ 2 = ⟨r, 0⟩ := by
    unfold St.numS
    rw [if_pos (by decide), show ((2 : Int)).toNat = 2 from rfl, h2]
  unfold St.cntS St.cnt
  rw [hn, hs, if_neg (by omega), if_neg (by omega)]
  exact ⟨rfl, rfl⟩
theorem short_cnt (l : List UInt8) (m : Int) (h : l.length < 2) : St.cntS ⟨l, 0⟩ m = ⟨[], 3⟩ ∨ ∃ s, St.cntS ⟨l, 0⟩ m = s ∧ s.e = 3 := by
  right
  refine ⟨_, rfl, ?_⟩
  have hs : St.numS ⟨l, 0⟩ 2 = ⟨[], 3⟩ := by
    unfold St.numS
    rw [if_pos (by decide), show ((2 : Int)).toNat = 2 from rfl, rest_short l 2 h]
  unfold St.cntS
  rw [hs]
  split
  · rw [fail_stay _ _ (by decide)]
  · rfl
theorem take_high (N n : Nat) (p : List UInt8) : n < 2 → (((lowB N 2).reverse ++ p).take n).length < 2 := by
  intro h
  rw [List.length_take]
  omega
theorem take_past (N n : Nat) (p : List UInt8) (h : 2 ≤ n) : ((lowB N 2).reverse ++ p).take n = (lowB N 2).reverse ++ p.take (n - 2) := by
  rw [List.take_append, high_length, List.take_of_length_le (by rw [high_length]; exact h)]
/-- What is written well can be read. -/
theorem item_reads (t : St) (x : It) (ht : t.e = 0) (hz : badK x.k = false) (h32 : ∀ l ∈ x.l, l.length = 32) (h : (t.item x).e = 0) : ∃ c, t.item x = ⟨t.l ++ c, 0⟩ ∧ Reads x c := by
  obtain ⟨p, hp1, hp2, hp3⟩ := pos_cases x.k hz
  unfold Reads It.own St.rd St.rdS
  unfold St.item at h ⊢
  by_cases h9 : x.k = 9
  · rw [if_pos h9] at h ⊢
    unfold St.wByt at h ⊢
    by_cases hb : (x.b.length : Int) > 4000
    · have hb2 : x.b.length > 4000 := by omega
      rw [if_pos hb2] at h
      exact absurd h (fail_ne _ 2 (by decide))
    · have hb2 : ¬ x.b.length > 4000 := by omega
      rw [if_neg hb2, put_ok t ht, put_ok _ rfl]
      refine ⟨(lowB x.b.length 2).reverse ++ x.b, by rw [List.append_assoc], fun r => ?_, fun n hn => ?_⟩
      · rw [if_pos h9, if_pos h9, if_pos h9]
        unfold St.byt St.bytS
        have em : (min 4000 4000 : Int) = 4000 := by omega
        rw [em, List.append_assoc]
        obtain ⟨c1, c2⟩ := two_cnt [] (x.b ++ r) x.b.length 4000 (by omega) (by omega)
        rw [c1, c2]
        obtain ⟨d1, d2⟩ := take_ok x.b r x.b.length rfl
        rw [d1, d2]
        exact ⟨rfl, rfl⟩
      · rw [if_pos h9]
        unfold St.bytS
        have em : (min 4000 4000 : Int) = 4000 := by omega
        rw [em]
        rw [List.length_append, high_length] at hn
        by_cases h2 : n < 2
        · rcases short_cnt (((lowB x.b.length 2).reverse ++ x.b).take n) 4000 (take_high _ _ _ h2) with e | ⟨s, e, e2⟩
          · rw [e, (take_err _ _ (by decide)).2]
          · rw [e, (take_err _ _ (by rw [e2]; decide)).2, e2]
        · rw [take_past _ _ _ (by omega)]
          obtain ⟨c1, c2⟩ := two_cnt [] (x.b.take (n - 2)) x.b.length 4000 (by omega) (by omega)
          rw [c1, c2, rest_short _ _ (by rw [List.length_take]; omega)]
  · rw [if_neg h9] at h ⊢
    by_cases hk : x.k = 32
    · rw [if_pos hk] at h ⊢
      unfold St.wKey at h ⊢
      by_cases hb2 : x.l.length > 100
      · rw [if_pos hb2] at h
        exact absurd h (fail_ne _ 2 (by decide))
      · rw [if_neg hb2, put_ok t ht, put_ok _ rfl]
        have hfl := flat_len32 x.l h32
        refine ⟨(lowB x.l.length 2).reverse ++ x.l.flatten, by rw [List.append_assoc], fun r => ?_, fun n hn => ?_⟩
        · rw [if_neg h9, if_pos hk, if_neg h9, if_pos hk, if_neg h9, if_pos hk]
          unfold St.keys St.keyB St.keyS
          have em : (min 100 100 : Int) = 100 := by omega
          rw [em, List.append_assoc]
          obtain ⟨c1, c2⟩ := two_cnt [] (x.l.flatten ++ r) x.l.length 100 (by omega) (by omega)
          rw [c1, c2]
          obtain ⟨d1, d2⟩ := take_ok x.l.flatten r (32 * x.l.length) (by rw [hfl]; omega)
          rw [d1, d2, hfl, show x.l.length * 32 / 32 = x.l.length by omega, cut_flat x.l h32]
          exact ⟨rfl, rfl⟩
        · rw [if_neg h9, if_pos hk]
          unfold St.keyS
          have em : (min 100 100 : Int) = 100 := by omega
          rw [em]
          rw [List.length_append, high_length, hfl] at hn
          by_cases h2 : n < 2
          · rcases short_cnt (((lowB x.l.length 2).reverse ++ x.l.flatten).take n) 100 (take_high _ _ _ h2) with e | ⟨s, e, e2⟩
            · rw [e, (take_err _ _ (by decide)).2]
            · rw [e, (take_err _ _ (by rw [e2]; decide)).2, e2]
          · rw [take_past _ _ _ (by omega)]
            obtain ⟨c1, c2⟩ := two_cnt [] (x.l.flatten.take (n - 2)) x.l.length 100 (by omega) (by omega)
            rw [c1, c2, rest_short _ _ (by rw [List.length_take, hfl]; omega)]
    · rw [if_neg hk] at h ⊢
      unfold St.wNum at h ⊢
      by_cases hn : isNum x.k = true ∧ x.n < 256 ^ x.k.toNat
      · rw [if_pos hn, put_ok t ht]
        have h8 := inNum_shape x.k hn.1
        refine ⟨(lowB x.n x.k.toNat).reverse, rfl, fun r => ?_, fun n hl => ?_⟩
        · rw [if_neg h9, if_neg hk, if_neg h9, if_neg hk, if_neg h9, if_neg hk]
          unfold St.num St.numS
          obtain ⟨d1, d2⟩ := take_ok (lowB x.n x.k.toNat).reverse r x.k.toNat (high_length _ _).symm
          rw [if_pos hn.1, if_pos hn.1, d1, d2, List.take_of_length_le (by rw [high_length]; omega), of_high _ _ hn.2]
          exact ⟨rfl, rfl⟩
        · rw [if_neg h9, if_neg hk]
          unfold St.numS
          rw [high_length] at hl
          rw [if_pos hn.1, rest_short _ _ (by rw [List.length_take, high_length]; omega)]
      · rw [if_neg hn] at h
        exact absurd h (fail_ne _ 51 (by decide))
theorem numS_stay (s : St) (z : Int) (h : s.e ≠ 0) : s.numS z = s := by
  unfold St.numS
  split
  · exact (take_err s _ h).2
  · exact fail_stay s 51 h
theorem cntS_stay (s : St) (m : Int) (h : s.e ≠ 0) : s.cntS m = s := by
  unfold St.cntS
  rw [numS_stay s 2 h]
  split
  · exact fail_stay s 2 h
  · rfl
theorem rdS_stay (s : St) (z : Int) (h : s.e ≠ 0) : s.rdS z = s := by
  unfold St.rdS
  split
  · unfold St.bytS
    rw [cntS_stay s _ h]
    exact (take_err s _ h).2
  · split
    · unfold St.keyS
      rw [cntS_stay s _ h]
      exact (take_err s _ h).2
    · exact numS_stay s z h
theorem decE_stay (l : List Int) : ∀ s : St, s.e ≠ 0 → decE l s = s := by
  induction l with
  | nil => intro s _; rfl
  | cons z r ih => intro s h; rw [decE, rdS_stay s z h, ih s h]
/-- WHAT IS WRITTEN IS READ: all of it, and cut short it ends in 3. -/
theorem items_read (its : List It) : ∀ t : St, t.e = 0 → its.any (fun x => badK x.k) = false → (∀ x ∈ its, ∀ l ∈ x.l, l.length = 32) → (its.foldl St.item t).e = 0 →
    ∃ c, its.foldl St.item t = ⟨t.l ++ c, 0⟩ ∧ (∀ r : List UInt8, decL (its.map It.k) ⟨c ++ r, 0⟩ = its.map It.own ∧ decE (its.map It.k) ⟨c ++ r, 0⟩ = ⟨r, 0⟩) ∧ ∀ n, n < c.length → (decE (its.map It.k) ⟨c.take n, 0⟩).e = 3 := by
  induction its with
  | nil =>
    intro t ht _ _ h
    exact ⟨[], by rw [List.append_nil]; exact St.eta0 t ht, fun r => ⟨rfl, rfl⟩, fun n hn => absurd hn (by simp)⟩
  | cons x r ih =>
    intro t ht hb h32 h
    rw [List.any_cons, Bool.or_eq_false_iff] at hb
    rw [List.foldl_cons] at h
    have h1 : (t.item x).e = 0 := by
      by_cases h1 : (t.item x).e = 0
      · exact h1
      · rw [fold_ne r _ h1] at h
        exact absurd h h1
    obtain ⟨c1, hc1, hr1, hr2⟩ := item_reads t x ht hb.1 (h32 x List.mem_cons_self) h1
    obtain ⟨c2, hc2, hs1, hs2⟩ := ih (t.item x) h1 hb.2 (fun y hy => h32 y (List.mem_cons_of_mem _ hy)) h
    refine ⟨c1 ++ c2, by rw [List.foldl_cons, hc2, hc1, List.append_assoc], fun q => ?_, fun n hn => ?_⟩
    · rw [List.map_cons, List.map_cons, decL, decE, List.append_assoc, (hr1 (c2 ++ q)).1, (hr1 (c2 ++ q)).2, (hs1 q).1, (hs1 q).2]
      exact ⟨rfl, rfl⟩
    · rw [List.map_cons, decE]
      by_cases hn1 : n < c1.length
      · have e3 := hr2 n hn1
        rw [List.take_append_of_le_length (by omega), decE_stay _ _ (by rw [e3]; decide), e3]
      · rw [List.length_append] at hn
        rw [List.take_append, List.take_of_length_le (by omega), (hr1 _).2]
        exact hs2 _ (by omega)
/-- The same of a whole list of items. -/
theorem enc_read (its : List It) (hb : its.any (fun x => badK x.k) = false) (h32 : ∀ x ∈ its, ∀ l ∈ x.l, l.length = 32) (h : (encS its).e = 0) :
    (decL (its.map It.k) ⟨(encS its).l, 0⟩ = its.map It.own ∧ (decE (its.map It.k) ⟨(encS its).l, 0⟩).fin = 0) ∧ (decE (its.map It.k) ⟨(encS its).l ++ [0], 0⟩).fin = 50 ∧ ∀ n, n < (encS its).l.length → (decE (its.map It.k) ⟨(encS its).l.take n, 0⟩).fin = 3 := by
  obtain ⟨c, hc, h1, h2⟩ := items_read its ⟨[], 0⟩ rfl hb h32 h
  have e : (encS its).l = c := by unfold encS; rw [hc]; rfl
  rw [e]
  have h3 := h1 []
  rw [List.append_nil] at h3
  refine ⟨⟨h3.1, by rw [h3.2]; rfl⟩, by rw [(h1 [0]).2]; rfl, fun n hn => ?_⟩
  have h4 := h2 n hn
  unfold St.fin
  rw [if_neg (by rw [h4]; decide), h4]
end Go.Proofs.Ytjhhpakaemnemaa
end
