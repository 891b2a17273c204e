/-
  CodecDecodes: for every input the call returns true, and each argument reads as it read before. Conditions: none beyond the given statement's own.
-/
import Derived.Test.YtjhhpakaemnemaaQCorAH
import Derived.Test.YtjhhpakaemnemaaQCorAI
import Derived.Test.YtjhhpakaemnemaaQCorAK
import Derived.Test.YtjhhpakaemnemaaQCorAL
import Derived.Test.YtjhhpakaemnemaaRows
import Derived.OpenShut
import Derived.ShutString
import Derived.ChangeOld
section
namespace Go.Proofs.Ytjhhpakaemnemaa
open Go.RowKit
set_option linter.unusedVariables false
set_option maxRecDepth 20000

theorem Its.nilR (w : World) : Its w (.slice none 0 0) [] := ⟨fun _ => undef, fun _ => undef, ⟨none, 0, rfl, Nat.le_refl _, by simp [maxLen], fun h => absurd h (by simp)⟩, fun j x h => by cases h⟩
def decY (shape : List Int) (b : List UInt8) : Int := if shape.any badK = true then 51 else (decE shape ⟨b, 0⟩).fin
def decI (shape : List Int) (b : List UInt8) : List It := if shape.any badK = true then [] else if (decE shape ⟨b, 0⟩).fin = 0 then decL shape ⟨b, 0⟩ else []
theorem dec_val {w : World} {shape : List Int} {b : List UInt8} {e : Ending} (h : DecRet w shape b e) : ∃ v, e = .returned (.tuple #[v, .int .i64 (decY shape b)]) ∧ Its w v (decI shape b) := by
  unfold decY decI
  rcases h with ⟨h1, h2⟩ | ⟨h1, ⟨h2, h3⟩ | ⟨h2, v, h3, h4⟩⟩
  · rw [if_pos h1, if_pos h1]
    exact ⟨_, h2, Its.nilR w⟩
  · rw [if_neg (by rw [h1]; decide), if_neg (by rw [h1]; decide), if_neg h2]
    exact ⟨_, h3, Its.nilR w⟩
  · rw [if_neg (by rw [h1]; decide), if_neg (by rw [h1]; decide), if_pos h2, h2]
    exact ⟨v, h3, h4⟩
theorem decL_keys (l : List Int) : ∀ (s : St) x, x ∈ decL l s → x.l.length ≤ 100 := by
  induction l with
  | nil => intro s x h; cases h
  | cons z r ih =>
    intro s x h
    rw [decL] at h
    rcases List.mem_cons.1 h with rfl | h
    · unfold St.rd
      split
      · simp
      · split
        · exact s.keys_le 100
        · simp
    · exact ih _ x h
theorem decI_length (shape : List Int) (b : List UInt8) : (decI shape b).length ≤ shape.length := by
  unfold decI
  split
  · simp
  · split
    · rw [decL_length]; exact Nat.le_refl _
    · simp
theorem decI_keys (shape : List Int) (b : List UInt8) : ∀ x ∈ decI shape b, x.l.length ≤ 1000 := by
  unfold decI
  split
  · simp
  · split
    · intro x hx; have := decL_keys _ _ x hx; omega
    · simp

set_option maxHeartbeats 4000000 in
theorem codecDecodes_walk (w : World) (v : Value) (shape : List Int) (hz : Zs w v shape) (u : Value) (b : List UInt8) (hu : Bs w u b) :
    Calls Try.prog 4 #[v, u] w (RetV w (.bool true)) := by
  have HZ := Lib.hid hz
  have HU := Lib.hid hu
  have HA := Lib.hid (fun w => awake_true w)
  obtain ⟨A, c, rfl, _, q2, _⟩ := hz
  obtain ⟨UA, uc, rfl, _, _, _⟩ := hu
  unfold maxLen at q2
  by_cases hs : (20 : Int) < (shape.length : Int)
  · go_enter Try.func4, Try.ntmps4
    go_wp2_with fail
    refine (HA.out _).mono ?_
    intro e w1 hh
    obtain ⟨he, b1⟩ := hh
    subst he
    have B1 := Lib.hid b1
    clear b1
    go_wp2
    go_ret
    exact ⟨rfl, B1.out⟩
  · by_cases hs2 : (5000 : Int) < (b.length : Int)
    · go_enter Try.func4, Try.ntmps4
      go_wp2_with fail
      refine (HA.out _).mono ?_
      intro e w1 hh
      obtain ⟨he, b1⟩ := hh
      subst he
      have B1 := Lib.hid b1
      clear b1
      go_wp2
      go_ret
      exact ⟨rfl, B1.out⟩
    · have hn20 : shape.length ≤ 20 := by omega
      have hbl : b.length ≤ 5000 := by omega
      obtain ⟨y, hy⟩ : ∃ y, y = decY shape b := ⟨_, rfl⟩
      obtain ⟨D, hD⟩ : ∃ D, D = decI shape b := ⟨_, rfl⟩
      have HDV : Hid (∀ w e, DecRet w shape b e → ∃ v, e = .returned (.tuple #[v, .int .i64 y]) ∧ Its w v D) := fun w e h => by rw [hy, hD]; exact dec_val h
      have HD1 : Hid (D.length ≤ 1000) := by show _ ≤ _; rw [hD]; have := decI_length shape b; omega
      have HD2 : Hid (∀ x ∈ D, x.l.length ≤ 1000) := by show ∀ x ∈ D, _; rw [hD]; exact decI_keys shape b
      have hyy : decide (y = y) = true := by simp
      clear hy hD
      have X1 := Lib.hid (fun w h1 h2 => decode_any w (.slice A shape.length c) (.slice UA b.length uc) shape b h1 h2 (by omega) (by omega))
      have X2 := Lib.hid (fun w h1 h2 => refDecode_any w (.slice A shape.length c) (.slice UA b.length uc) shape b h1 h2 (by omega) (by omega))
      go_enter Try.func4, Try.ntmps4
      go_wp2_with fail
      refine (HA.out _).mono ?_
      intro e w1 hh
      obtain ⟨he, b1⟩ := hh
      subst he
      have B1 := Lib.hid b1
      clear b1 HA
      go_wp2_with fail
      refine (X1.out _ (HZ.out.below B1.out) (HU.out.below B1.out)).mono ?_
      intro e w2 hh
      obtain ⟨b2, hh⟩ := hh
      obtain ⟨v2, he, hi⟩ := HDV.out _ _ hh
      subst he
      have B2 := Lib.hid (below_size B1.out b2)
      have I2 := Lib.hid hi
      obtain ⟨_, _, ⟨A2, c2, rfl, _, _, _⟩, _⟩ := hi
      clear b2 hh X1 B1
      go_wp2_with fail
      refine (X2.out _ (HZ.out.below B2.out) (HU.out.below B2.out)).mono ?_
      intro e w3 hh
      obtain ⟨b3, hh⟩ := hh
      obtain ⟨v3, he, hi⟩ := HDV.out _ _ hh
      subst he
      have B3 := Lib.hid (below_size B2.out b3)
      have I23 := Lib.hid (I2.out.below b3)
      have I3 := Lib.hid hi
      obtain ⟨_, _, ⟨A3, c3, rfl, _, _, _⟩, _⟩ := hi
      clear b3 hh X2 B2 I2 HDV
      go_wp2_with fail
      refine (doc_any _ _ D I23.out HD1.out).mono ?_
      intro e w4 hh
      obtain ⟨v4, he, hi, b4⟩ := hh
      subst he
      have B4 := Lib.hid (below_size B3.out b4)
      have I34 := Lib.hid (I3.out.below b4)
      have I4 := Lib.hid hi
      obtain ⟨_, _, ⟨A4, c4, rfl, _, _, _⟩, _⟩ := hi
      clear b4 B3 I23 I3
      go_wp2_with fail
      refine (refAlike_same _ _ _ D I4.out I34.out HD1.out HD2.out).mono ?_
      intro e w5 hh
      obtain ⟨he, b5⟩ := hh
      subst he
      have B5 := Lib.hid (below_size B4.out b5)
      clear b5 B4 I4 I34
      go_wp2
      go_ret
      exact ⟨rfl, B5.out⟩
end Go.Proofs.Ytjhhpakaemnemaa
end
section
namespace Go.Proofs.Ytjhhpakaemnemaa.codecDecodes
open Go.ChangeShapes Go.WideShapes Go.ChangeAt Go.RowKit
open Go.ChangeMaps (open_string shut_string)
set_option linter.unusedVariables false

theorem own : ownKnob Try.prog.godebug = none := by kernel_rfl
theorem laidOut : laidOutB Try.prog = true := by kernel_rfl

set_option maxRecDepth 100000 in
theorem lifted (os : Os) (started : os.Started) (H : Type) (enc : TypeId × Value → H) :
    ReturnsInHanded {} Try.checked os 4 .any (Rows.codecDecodesSpec.pre6 enc Try.prog Try.f4 Rows.codecDecodesRow.domain false) (Rows.codecDecodesSpec.post enc Try.prog Try.f4 false true false false) := by
  refine returnsInHanded_of_change (C := Try.checked) own started (by kernel_rfl) Try.func4
    (ChangeSpec.witness6 (enc := enc) (C := Try.checked) false ⟨#[], #[.slice none 0 0, .slice none 0 0], []⟩ 8 (by kernel_rfl) (by kernel_rfl) (by kernel_rfl) (by kernel_rfl)) ?_
  intro W base args ds gs before hval0 hW hcnd _
  have hval : ∀ (j : Nat) t v, Try.f4.params[j]? = some t → args[j]? = some v → Value.okWide Try.prog W .any base t v := hval0
  have hW' := hW
  obtain ⟨p, q, hA0, hV, rfl, hfz, hnd⟩ := hW
  have hA : DataW.TrodAll enc Try.prog W 0 (fun _ => true) true Try.f4.params.toList args.toList ds p := hA0
  rw [Try.params4] at hA hval
  obtain ⟨v0, vs0, d0, ds0, p0, q0, hargs, rfl, rfl, h0, r0⟩ := trodAll_cons hA
  obtain ⟨v1, vs1, d1, ds1, p1, q1, rfl, rfl, rfl, h1, r1⟩ := trodAll_cons r0
  obtain ⟨rfl, rfl, rfl⟩ := trodAll_nil r1
  obtain rfl : args = #[v0, v1] := by cases args; simp_all
  obtain ⟨rfl, rfl⟩ := trodVars_none hV
  obtain ⟨a0, len0, cap0, rfl⟩ := okWide_slice Try.underlying33 (hval 0 33 v0 rfl rfl)
  have k0 := h0
  have lt0 : ∀ x ∈ p0, x.block < W.heap.size := by obtain ⟨m, hm⟩ := k0; exact DataW.trod_lt m _ _ _ hm
  obtain ⟨l0, w0⟩ : ∃ l : List Int, Zs W (.slice a0 len0 cap0) l := by
    obtain ⟨fuel, hf⟩ := h0
    obtain ⟨v, l, hcs, hl⟩ := open_zs Try.underlying33 Try.underlying3 (by kernel_rfl) hf
    simp [Value.cells] at hcs
    exact ⟨l, hcs ▸ hl⟩
  obtain ⟨a1, len1, cap1, rfl⟩ := okWide_slice Try.underlying25 (hval 1 25 v1 rfl rfl)
  have k1 := h1
  have lt1 : ∀ x ∈ p1, x.block < W.heap.size := by obtain ⟨m, hm⟩ := k1; exact DataW.trod_lt m _ _ _ hm
  obtain ⟨l1, w1⟩ : ∃ l, Bs W (.slice a1 len1 cap1) l := by
    obtain ⟨fuel, hf⟩ := h1
    rcases open_ints Try.underlying25 Try.underlying5 (by kernel_rfl) hf with ⟨hcs, _⟩ | ⟨x, l, c, zs, hcs, _, hl, hm, hz, _, hcell, hwz⟩
    · simp [Value.cells] at hcs
      obtain ⟨rfl, rfl, rfl⟩ := hcs
      exact ⟨[], Bs.nil W⟩
    · simp [Value.cells] at hcs
      obtain ⟨rfl, rfl, rfl⟩ := hcs
      exact bs_of_ints hl hm (by simpa using hz) hcell hwz
  clear hA0 hval0
  refine (codecDecodes_walk W _ l0 w0 _ l1 w1).mono fun e W' ⟨he, bel⟩ => ?_
  subst he
  exact ⟨_, rfl, _, _, _, [], _, [], hW', trodAll_mk1 (shut_bool Try.underlying4 _), (trodAll_cons_mk (Below.trod laidOut (by kernel_rfl) (of_decide_eq_true (by kernel_rfl)) k0 bel lt0) (trodAll_cons_mk (Below.trod laidOut (by kernel_rfl) (of_decide_eq_true (by kernel_rfl)) k1 bel lt1) trodAll_mk0)), rfl, bel.frame _, fun h => by cases h⟩

theorem over : Rows.codecDecodesRow.holds Try.pinned (OpenSpec.ofChange Rows.codecDecodesSpec) :=
  OpenClaim.holds_of_wide 4 Try.f4 rfl rfl rfl rfl rfl rfl rfl ⟨rfl, rfl, rfl, rfl, rfl⟩ rfl rfl rfl rfl rfl (by kernel_rfl) Try.func4 (by kernel_rfl)
    (of_decide_eq_true (by kernel_rfl)) (by unfold Func.isWrapper; first | (rw [if_pos (by decide +kernel)]; kernel_rfl) | (rw [if_neg (by decide +kernel)]; exact ⟨rfl, rfl⟩))
    (fun os started H enc _ => lifted os started H enc)

theorem proved : Rows.CodecDecodesSaid := over
#print axioms proved
end Go.Proofs.Ytjhhpakaemnemaa.codecDecodes
end
