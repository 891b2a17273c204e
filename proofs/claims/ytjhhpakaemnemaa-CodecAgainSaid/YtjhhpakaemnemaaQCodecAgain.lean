/-
  CodecAgain: for every input the call returns true, and each argument reads as it read before. Conditions: none beyond the given statement's own.
-/
import Derived.Test.YtjhhpakaemnemaaQCodAH
import Derived.Test.YtjhhpakaemnemaaQCodAI
import Derived.Test.YtjhhpakaemnemaaRows
import Derived.OpenShut
import Derived.ShutString
import Derived.ChangeOld
section
namespace Go.Proofs.Ytjhhpakaemnemaa
open Go.RowKit
set_option linter.unusedVariables false
set_option maxRecDepth 20000

/-- Decode's answer where something is wrong, and where nothing is. -/
theorem decode_two (w : World) (v u : Value) (shape : List Int) (b : List UInt8) (hz : Zs w v shape) (hu : Bs w u b) (hn : shape.length ≤ 20) (hl : b.length ≤ 1000000) :
    Calls Try.prog 15 #[v, u] w fun e w' => Below w.heap.size w w' ∧
      ((∃ y : Int, y ≠ 0 ∧ e = .returned (.tuple #[.slice none 0 0, .int .i64 y])) ∨ ∃ v', e = .returned (.tuple #[v', .int .i64 0]) ∧ Its w' v' (decL shape ⟨b, 0⟩) ∧ shape.any badK = false ∧ (decE shape ⟨b, 0⟩).fin = 0) :=
  (decode_any w v u shape b hz hu (by omega) (by omega)).mono fun e w' ⟨hb, hr⟩ => ⟨hb, by
    rcases hr with ⟨_, he⟩ | ⟨h0, ⟨h1, he⟩ | ⟨h1, v', he, hi⟩⟩
    · exact .inl ⟨51, by decide, he⟩
    · exact .inl ⟨_, h1, he⟩
    · exact .inr ⟨v', he, hi, h0, h1⟩⟩

set_option maxHeartbeats 4000000 in
theorem codecAgain_walk (w : World) (v : Value) (shape : List Int) (hz : Zs w v shape) (u : Value) (b : List UInt8) (hu : Bs w u b) :
    Calls Try.prog 7 #[v, u] w (RetV w (.bool true)) := by
  have HZ := Lib.hid hz
  have HU := Lib.hid hu
  have HA := Lib.hid (fun w => awake_true w)
  obtain ⟨A, c, rfl, q1, q2, q3⟩ := hz
  obtain ⟨UA, uc, rfl, p1, p2, p3⟩ := hu
  unfold maxLen at q2 p2
  clear q3 p3
  by_cases hs : (20 : Int) < (shape.length : Int)
  · go_enter Try.func7, Try.ntmps7
    go_wp2_with fail
    refine (HA.out _).mono ?_
    intro e w1 hh
    obtain ⟨he, b1⟩ := hh
    subst he
    have B1 := Lib.hid b1
    clear b1
    go_wp2
    go_ret
    exact ⟨rfl, B1.out⟩
  · by_cases hl : (5000 : Int) < (b.length : Int)
    · go_enter Try.func7, Try.ntmps7
      go_wp2_with fail
      refine (HA.out _).mono ?_
      intro e w1 hh
      obtain ⟨he, b1⟩ := hh
      subst he
      have B1 := Lib.hid b1
      clear b1
      go_wp2
      go_ret
      exact ⟨rfl, B1.out⟩
    · have HD := Lib.hid (fun w h1 h2 => decode_two w (.slice A shape.length c) (.slice UA b.length uc) shape b h1 h2 (by omega) (by omega))
      have hn20 : shape.length ≤ 20 := by omega
      go_enter Try.func7, Try.ntmps7
      go_wp2_with fail
      refine (HA.out _).mono ?_
      intro e w1 hh
      obtain ⟨he, b1⟩ := hh
      subst he
      have B1 := Lib.hid b1
      clear b1
      go_wp2_with fail
      refine (HD.out _ (HZ.out.below B1.out) (HU.out.below B1.out)).mono ?_
      intro e w2 hh
      obtain ⟨b2, hh⟩ := hh
      have B2 := Lib.hid (below_size B1.out b2)
      clear b2
      rcases hh with ⟨y, hy, he⟩ | ⟨v2, he, hi, hb0, hf0⟩
      · subst he
        have hd : decide (y = 0) = false := by simp [hy]
        go_wp2
        go_ret
        exact ⟨rfl, B2.out⟩
      · subst he
        have HE := Lib.hid (dec_enc shape b hb0 hf0)
        have HB := Lib.hid (decL_bad shape ⟨b, 0⟩)
        rw [hb0] at HB
        have hlen := decL_length shape ⟨b, 0⟩
        obtain ⟨its, hits⟩ : ∃ its, its = decL shape ⟨b, 0⟩ := ⟨_, rfl⟩
        rw [← hits] at hi HE HB hlen
        have hl1000 : its.length ≤ 1000 := by omega
        clear hlen
        have HEN : Hid (∀ w v, Its w v its → Calls Try.prog 11 #[v] w fun e w' => ∃ u, e = .returned (.tuple #[u, .int .i64 0]) ∧ Bs w' u b ∧ Below w.heap.size w w') := fun w v h => (encode_any w v its h hl1000).mono fun e w' ⟨hb, hr⟩ => by
          rcases hr with ⟨h1, _⟩ | ⟨_, u, he, ho⟩
          · rw [HB.out] at h1; cases h1
          · rw [HE.out] at he ho
            exact ⟨u, he, ho.bs, hb⟩
        have HI := Lib.hid hi
        obtain ⟨bv, lv, ⟨A2, c2, rfl, _, _, _⟩, _⟩ := hi
        clear hits hf0 hb0 HD
        go_wp2_with fail
        refine (HEN.out _ _ HI.out).mono ?_
        intro e w3 hh
        obtain ⟨u3, he, hu3, b3⟩ := hh
        subst he
        have U3 := Lib.hid hu3
        have B3 := Lib.hid (below_size B2.out b3)
        obtain ⟨A3, c3, rfl, _, _, _⟩ := hu3
        clear b3 HEN
        go_wp2_with fail
        refine (same_yes w3 _ _ b (HU.out.below B3.out) U3.out).mono ?_
        intro e w4 hh
        obtain ⟨he, b4⟩ := hh
        subst he
        have B4 := Lib.hid (below_size B3.out b4)
        clear b4
        go_wp2
        go_ret
        exact ⟨rfl, B4.out⟩
end Go.Proofs.Ytjhhpakaemnemaa
end
section
namespace Go.Proofs.Ytjhhpakaemnemaa.codecAgain
open Go.ChangeShapes Go.WideShapes Go.ChangeAt Go.RowKit
open Go.ChangeMaps (open_string shut_string)
set_option linter.unusedVariables false

theorem own : ownKnob Try.prog.godebug = none := by kernel_rfl
theorem laidOut : laidOutB Try.prog = true := by kernel_rfl

set_option maxRecDepth 100000 in
theorem lifted (os : Os) (started : os.Started) (H : Type) (enc : TypeId × Value → H) :
    ReturnsInHanded {} Try.checked os 7 .any (Rows.codecAgainSpec.pre6 enc Try.prog Try.f7 Rows.codecAgainRow.domain false) (Rows.codecAgainSpec.post enc Try.prog Try.f7 false true false false) := by
  refine returnsInHanded_of_change (C := Try.checked) own started (by kernel_rfl) Try.func7
    (ChangeSpec.witness6 (enc := enc) (C := Try.checked) false ⟨#[], #[.slice none 0 0, .slice none 0 0], []⟩ 8 (by kernel_rfl) (by kernel_rfl) (by kernel_rfl) (by kernel_rfl)) ?_
  intro W base args ds gs before hval0 hW hcnd _
  have hval : ∀ (j : Nat) t v, Try.f7.params[j]? = some t → args[j]? = some v → Value.okWide Try.prog W .any base t v := hval0
  have hW' := hW
  obtain ⟨p, q, hA0, hV, rfl, hfz, hnd⟩ := hW
  have hA : DataW.TrodAll enc Try.prog W 0 (fun _ => true) true Try.f7.params.toList args.toList ds p := hA0
  rw [Try.params7] at hA hval
  obtain ⟨v0, vs0, d0, ds0, p0, q0, hargs, rfl, rfl, h0, r0⟩ := trodAll_cons hA
  obtain ⟨v1, vs1, d1, ds1, p1, q1, rfl, rfl, rfl, h1, r1⟩ := trodAll_cons r0
  obtain ⟨rfl, rfl, rfl⟩ := trodAll_nil r1
  obtain rfl : args = #[v0, v1] := by cases args; simp_all
  obtain ⟨rfl, rfl⟩ := trodVars_none hV
  obtain ⟨a0, len0, cap0, rfl⟩ := okWide_slice Try.underlying33 (hval 0 33 v0 rfl rfl)
  have k0 := h0
  have lt0 : ∀ x ∈ p0, x.block < W.heap.size := by obtain ⟨m, hm⟩ := k0; exact DataW.trod_lt m _ _ _ hm
  obtain ⟨l0, w0⟩ : ∃ l : List Int, Zs W (.slice a0 len0 cap0) l := by
    obtain ⟨fuel, hf⟩ := h0
    obtain ⟨v, l, hcs, hl⟩ := open_zs Try.underlying33 Try.underlying3 (by kernel_rfl) hf
    simp [Value.cells] at hcs
    exact ⟨l, hcs ▸ hl⟩
  obtain ⟨a1, len1, cap1, rfl⟩ := okWide_slice Try.underlying25 (hval 1 25 v1 rfl rfl)
  have k1 := h1
  have lt1 : ∀ x ∈ p1, x.block < W.heap.size := by obtain ⟨m, hm⟩ := k1; exact DataW.trod_lt m _ _ _ hm
  obtain ⟨l1, w1⟩ : ∃ l, Bs W (.slice a1 len1 cap1) l := by
    obtain ⟨fuel, hf⟩ := h1
    rcases open_ints Try.underlying25 Try.underlying5 (by kernel_rfl) hf with ⟨hcs, _⟩ | ⟨x, l, c, zs, hcs, _, hl, hm, hz, _, hcell, hwz⟩
    · simp [Value.cells] at hcs
      obtain ⟨rfl, rfl, rfl⟩ := hcs
      exact ⟨[], Bs.nil W⟩
    · simp [Value.cells] at hcs
      obtain ⟨rfl, rfl, rfl⟩ := hcs
      exact bs_of_ints hl hm (by simpa using hz) hcell hwz
  clear hA0 hval0
  refine (codecAgain_walk W _ l0 w0 _ l1 w1).mono fun e W' ⟨he, bel⟩ => ?_
  subst he
  exact ⟨_, rfl, _, _, _, [], _, [], hW', trodAll_mk1 (shut_bool Try.underlying4 _), (trodAll_cons_mk (Below.trod laidOut (by kernel_rfl) (of_decide_eq_true (by kernel_rfl)) k0 bel lt0) (trodAll_cons_mk (Below.trod laidOut (by kernel_rfl) (of_decide_eq_true (by kernel_rfl)) k1 bel lt1) trodAll_mk0)), rfl, bel.frame _, fun h => by cases h⟩

theorem over : Rows.codecAgainRow.holds Try.pinned (OpenSpec.ofChange Rows.codecAgainSpec) :=
  OpenClaim.holds_of_wide 7 Try.f7 rfl rfl rfl rfl rfl rfl rfl ⟨rfl, rfl, rfl, rfl, rfl⟩ rfl rfl rfl rfl rfl (by kernel_rfl) Try.func7 (by kernel_rfl)
    (of_decide_eq_true (by kernel_rfl)) (by unfold Func.isWrapper; first | (rw [if_pos (by decide +kernel)]; kernel_rfl) | (rw [if_neg (by decide +kernel)]; exact ⟨rfl, rfl⟩))
    (fun os started H enc _ => lifted os started H enc)

theorem proved : Rows.CodecAgainSaid := over
#print axioms proved
end Go.Proofs.Ytjhhpakaemnemaa.codecAgain
end
