/-
  CodecEncodes: for every input the call returns true, and each argument reads as it read before. Conditions: none beyond the given statement's own.
-/
import Derived.Test.YtjhhpakaemnemaaQCodAJ
import Derived.Test.YtjhhpakaemnemaaRows
import Derived.Test.YtjhhpakaemnemaaQCodAI
import Derived.OpenShut
import Derived.ShutString
import Derived.ChangeOld
section
namespace Go.Proofs.Ytjhhpakaemnemaa
open Go.RowKit
set_option linter.unusedVariables false
set_option maxRecDepth 20000

/-- Encode, the program's and the document's: one answer. -/
def EncTwo (bad : Bool) (E : Int) (L : List UInt8) (e : Ending) (w' : World) : Prop := ∃ u, e = .returned (.tuple #[u, .int .i64 E]) ∧ Bs w' u L
theorem encode_val (w : World) (v : Value) (its : List It) (h : Its w v its) (hl : its.length ≤ 1000) :
    Calls Try.prog 11 #[v] w fun e w' => Below w.heap.size w w' ∧ ∃ u, e = .returned (.tuple #[u, .int .i64 (if its.any (fun x => badK x.k) = true then 51 else (encS its).e)]) ∧ Bs w' u (if its.any (fun x => badK x.k) = true then [] else (encS its).l) :=
  (encode_any w v its h hl).mono fun e w' ⟨hb, hr⟩ => ⟨hb, by
    rcases hr with ⟨h1, he⟩ | ⟨h1, u, he, ho⟩
    · rw [if_pos h1, if_pos h1]; exact ⟨_, he, Bs.nil _⟩
    · rw [if_neg (by rw [h1]; simp), if_neg (by rw [h1]; simp)]; exact ⟨u, he, ho.bs⟩⟩
theorem refEncode_val (w : World) (v : Value) (its : List It) (h : Its w v its) (hl : its.length ≤ 1000) :
    Calls Try.prog 12 #[v] w fun e w' => Below w.heap.size w w' ∧ ∃ u, e = .returned (.tuple #[u, .int .i64 (if its.any (fun x => badK x.k) = true then 51 else (encS its).e)]) ∧ Bs w' u (if its.any (fun x => badK x.k) = true then [] else (encS its).l) :=
  (refEncode_any w v its h hl).mono fun e w' ⟨hb, hr⟩ => ⟨hb, by
    rcases hr with ⟨h1, he⟩ | ⟨h1, u, he, ho⟩
    · rw [if_pos h1, if_pos h1]; exact ⟨_, he, Bs.nil _⟩
    · rw [if_neg (by rw [h1]; simp), if_neg (by rw [h1]; simp)]; exact ⟨u, he, ho⟩⟩

set_option maxHeartbeats 4000000 in
theorem codecEncodes_walk (w : World) (v : Value) (its : List It) (h : Its w v its) :
    Calls Try.prog 3 #[v] w (RetV w (.bool true)) := by
  have HH := Lib.hid h
  have HA := Lib.hid (fun w => awake_true w)
  have HS := Lib.hid (fun w v h => short_any w v its h)
  obtain ⟨E, hE⟩ : ∃ E : Int, E = if its.any (fun x => badK x.k) = true then 51 else (encS its).e := ⟨_, rfl⟩
  obtain ⟨L, hL⟩ : ∃ L, L = if its.any (fun x => badK x.k) = true then [] else (encS its).l := ⟨_, rfl⟩
  have H1 : Hid (∀ w v, its.length ≤ 1000 → Its w v its → Calls Try.prog 11 #[v] w fun e w' => Below w.heap.size w w' ∧ ∃ u, e = .returned (.tuple #[u, .int .i64 E]) ∧ Bs w' u L) := fun w v hl h => by rw [hE, hL]; exact encode_val w v its h hl
  have H2 : Hid (∀ w v, its.length ≤ 1000 → Its w v its → Calls Try.prog 12 #[v] w fun e w' => Below w.heap.size w w' ∧ ∃ u, e = .returned (.tuple #[u, .int .i64 E]) ∧ Bs w' u L) := fun w v hl h => by rw [hE, hL]; exact refEncode_val w v its h hl
  have H3 := Lib.hid (fun w v h hl => doc_any w v its h hl)
  obtain ⟨bv, lv, ⟨A, c, rfl, _, _, _⟩, _⟩ := h
  clear hE hL
  go_enter Try.func3, Try.ntmps3
  go_wp2_with fail
  refine (HA.out _).mono ?_
  intro e w1 hh
  obtain ⟨he, b1⟩ := hh
  subst he
  have B1 := Lib.hid b1
  clear b1
  go_wp2_with fail
  refine (HS.out _ _ (HH.out.below B1.out)).mono ?_
  intro e w2 hh
  obtain ⟨⟨q, he, hq⟩, hw⟩ := hh
  subst he hw
  cases q with
  | false =>
    go_wp2
    go_ret
    exact ⟨rfl, B1.out⟩
  | true =>
    have HQ : Hid (its.length ≤ 1000) := by have := hq rfl; show _ ≤ _; omega
    clear hq
    go_wp2_with fail
    refine (H1.out _ _ HQ.out (HH.out.below B1.out)).mono ?_
    intro e w3 hh
    obtain ⟨b3, u3, he, hu3⟩ := hh
    subst he
    have B3 := Lib.hid (below_size B1.out b3)
    have U3 := Lib.hid hu3
    obtain ⟨A3, c3, rfl, _, _, _⟩ := hu3
    clear b3
    go_wp2_with fail
    refine (H3.out _ _ (HH.out.below B3.out) HQ.out).mono ?_
    intro e w4 hh
    obtain ⟨v4, he, hi4, b4⟩ := hh
    subst he
    have B4 := Lib.hid (below_size B3.out b4)
    have U4 := Lib.hid (U3.out.below b4)
    have I4 := Lib.hid hi4
    obtain ⟨_, _, ⟨A4, c4, rfl, _, _, _⟩, _⟩ := hi4
    clear b4 U3 B3
    go_wp2_with fail
    refine (H2.out _ _ HQ.out I4.out).mono ?_
    intro e w5 hh
    obtain ⟨b5, u5, he, hu5⟩ := hh
    subst he
    have B5 := Lib.hid (below_size B4.out b5)
    have U5 := Lib.hid hu5
    have U45 := Lib.hid (U4.out.below b5)
    obtain ⟨A5, c5, rfl, _, _, _⟩ := hu5
    clear b5 U4 B4
    have hdE : decide (E = E) = true := by simp
    go_wp2_with fail
    refine (same_yes w5 _ _ L U45.out U5.out).mono ?_
    intro e w6 hh
    obtain ⟨he, b6⟩ := hh
    subst he
    have B6 := Lib.hid (below_size B5.out b6)
    clear b6
    go_wp2_with fail
    go_ret
    exact ⟨rfl, B6.out⟩
end Go.Proofs.Ytjhhpakaemnemaa
end
section
namespace Go.Proofs.Ytjhhpakaemnemaa.codecEncodes
open Go.ChangeShapes Go.WideShapes Go.ChangeAt Go.RowKit
open Go.ChangeMaps (open_string shut_string)
set_option linter.unusedVariables false

theorem own : ownKnob Try.prog.godebug = none := by kernel_rfl
theorem laidOut : laidOutB Try.prog = true := by kernel_rfl

set_option maxRecDepth 100000 in
theorem lifted (os : Os) (started : os.Started) (H : Type) (enc : TypeId × Value → H) :
    ReturnsInHanded {} Try.checked os 3 .any (Rows.codecEncodesSpec.pre6 enc Try.prog Try.f3 Rows.codecEncodesRow.domain false) (Rows.codecEncodesSpec.post enc Try.prog Try.f3 false true false false) := by
  refine returnsInHanded_of_change (C := Try.checked) own started (by kernel_rfl) Try.func3
    (ChangeSpec.witness6 (enc := enc) (C := Try.checked) false ⟨#[], #[.slice none 0 0], []⟩ 8 (by kernel_rfl) (by kernel_rfl) (by kernel_rfl) (by kernel_rfl)) ?_
  intro W base args ds gs before hval0 hW hcnd _
  have hval : ∀ (j : Nat) t v, Try.f3.params[j]? = some t → args[j]? = some v → Value.okWide Try.prog W .any base t v := hval0
  have hW' := hW
  obtain ⟨p, q, hA0, hV, rfl, hfz, hnd⟩ := hW
  have hA : DataW.TrodAll enc Try.prog W 0 (fun _ => true) true Try.f3.params.toList args.toList ds p := hA0
  rw [Try.params3] at hA hval
  obtain ⟨v0, vs0, d0, ds0, p0, q0, hargs, rfl, rfl, h0, r0⟩ := trodAll_cons hA
  obtain ⟨rfl, rfl, rfl⟩ := trodAll_nil r0
  obtain rfl : args = #[v0] := by cases args; simp_all
  obtain ⟨rfl, rfl⟩ := trodVars_none hV
  obtain ⟨a0, len0, cap0, rfl⟩ := okWide_slice Try.underlying22 (hval 0 22 v0 rfl rfl)
  have k0 := h0
  have lt0 : ∀ x ∈ p0, x.block < W.heap.size := by obtain ⟨m, hm⟩ := k0; exact DataW.trod_lt m _ _ _ hm
  obtain ⟨l0, w0⟩ : ∃ l : List It, Its W (.slice a0 len0 cap0) l := by
    obtain ⟨fuel, hf⟩ := h0
    obtain ⟨v, l, hcs, hl⟩ := open_items hf
    simp [Value.cells] at hcs
    exact ⟨l, hcs ▸ hl⟩
  clear hA0 hval0
  refine (codecEncodes_walk W _ l0 w0).mono fun e W' ⟨he, bel⟩ => ?_
  subst he
  exact ⟨_, rfl, _, _, _, [], _, [], hW', trodAll_mk1 (shut_bool Try.underlying4 _), (trodAll_cons_mk (Below.trod laidOut (by kernel_rfl) (of_decide_eq_true (by kernel_rfl)) k0 bel lt0) trodAll_mk0), rfl, bel.frame _, fun h => by cases h⟩

theorem over : Rows.codecEncodesRow.holds Try.pinned (OpenSpec.ofChange Rows.codecEncodesSpec) :=
  OpenClaim.holds_of_wide 3 Try.f3 rfl rfl rfl rfl rfl rfl rfl ⟨rfl, rfl, rfl, rfl, rfl⟩ rfl rfl rfl rfl rfl (by kernel_rfl) Try.func3 (by kernel_rfl)
    (of_decide_eq_true (by kernel_rfl)) (by unfold Func.isWrapper; first | (rw [if_pos (by decide +kernel)]; kernel_rfl) | (rw [if_neg (by decide +kernel)]; exact ⟨rfl, rfl⟩))
    (fun os started H enc _ => lifted os started H enc)

theorem proved : Rows.CodecEncodesSaid := over
#print axioms proved
end Go.Proofs.Ytjhhpakaemnemaa.codecEncodes
end
