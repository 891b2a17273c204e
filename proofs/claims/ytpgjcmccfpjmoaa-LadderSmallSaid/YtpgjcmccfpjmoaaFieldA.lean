/-
  Contracts of the field's carries: place, carried, reduced. Conditions: as each theorem names them.
-/
import Derived.Test.YtpgjcmccfpjmoaaChecked
import Derived.Test.YtpgjcmccfpjmoaaNats
import Derived.Test.YtpgjcmccfpjmoaaFieldMath
import Derived.WalkKit
import Derived.LoopTactic
import Derived.RegionTactic
import Derived.Deep.QuietTactic
import Derived.BigQuiet
import Derived.Outline
import Derived.WalkSpells
import Derived.WalkLawsBesides
namespace Go.Proofs.Ytpgjcmccfpjmoaa
open Go.RowKit
set_option linter.unusedVariables false
set_option maxRecDepth 20000

theorem Try.sz5p : (Try.prog.info? 43).map (·.size) = some 5 := by kernel_rfl
theorem Try.sz5e : (Try.prog.info? 45).map (·.size) = some 5 := by kernel_rfl
theorem Try.sz5w : (Try.prog.info? 42).map (·.size) = some 5 := by kernel_rfl
theorem Try.szU64 : (Try.prog.info? 39).map (·.size) = some 1 := by kernel_rfl
def zero5 : List Nat := [0, 0, 0, 0, 0]
theorem zero5_length : zero5.length = 5 := rfl
theorem Try.zero5p : (Try.prog.info? 43).map (·.zero) = some (some (.agg (natsC zero5))) := by kernel_rfl
theorem Try.zero5e : (Try.prog.info? 45).map (·.zero) = some (some (.agg (natsC zero5))) := by kernel_rfl
theorem Try.zero5w : (Try.prog.info? 42).map (·.zero) = some (some (.agg (natsC zero5))) := by kernel_rfl

theorem place_any (w : World) (i : Nat) (hi : i < 5) :
    Calls Try.prog 44 #[.int .i64 (i : Int)] w fun e w' => e = .returned (.tuple #[.int .i64 ((51 * i / 64 : Nat) : Int), .int .u64 ((51 * i % 64 : Nat) : Int)]) ∧ w = w' := by
  go_enter Try.func44, Try.ntmps44
  go_wp2
  go_ret2
  have h1 : ((51 * i / 64 : Nat) : Int) = (51 * (i : Int)) / 64 := by omega
  have h2 : ((51 * i % 64 : Nat) : Int) = (51 * (i : Int)) % 64 := by omega
  exact ⟨by rw [h1, h2]; rfl, rfl⟩

set_option maxHeartbeats 1000000 in
theorem carried_any (w : World) (l : List Nat) (hl : l.length = 5) (hB : ∀ x ∈ l, x < 9223372036854775808) :
    Calls Try.prog 51 #[.agg (natsC l)] w (RetV w (.agg (natsC (carriedL l)))) := by
  have HL := Lib.hid hl
  have HB := Lib.hid hB
  clear hl hB
  have E0 := Env.start w
  go_enter Try.func51, Try.ntmps51
  go_wp2_with (first
    | ((with_reducible refine wpE_box (o := ⟨some 1, _, _, _, _, _⟩) rfl 43 (.tmp 0) rfl (natsC l) (by with_unfolding_all rfl) E0 ?_); intro g1 w1 E1)
    | ((with_reducible refine wpE_alloc (o := ⟨some 2, _, _, _, _, _⟩) rfl 43 rfl (natsC zero5) Try.zero5p E1 ?_); intro g2 w2 E2))
  have E2' := Lib.hid E2
  clear E0 E1 E2
  go_loopw [3, 5] (fun c i wr => ∃ k : Nat, k ≤ 5 ∧ i = .int .i64 k ∧ c = .int .u64 ((cyC l k : Nat) : Int) ∧ Env w [(g2, 43, natsC zero5), (g1, 43, natsC (stC l k))] wr) (fun _ i _ => 5 - (intOf i).toNat)
  case atStart => exact ⟨0, by omega, rfl, by rw [cyC_zero]; rfl, by rw [stC_zero]; exact E2'.out⟩
  case round =>
    clear E2'
    obtain ⟨k, hk, rfl, rfl, hE⟩ := hrel
    have E := Lib.hid hE
    clear hE
    by_cases hlt : k < 5
    · have hsl : (stC l k).length = 5 := by rw [stC_length l k (by rw [HL.out]; omega), HL.out]
      have c1 := E.out.getN 1 rfl k (by rw [hsl]; omega)
      have f1 := E.out.fzN 1 rfl k
      rw [stC_get l k (by rw [HL.out]; omega)] at c1
      have hx := getD_lt HB.out (by omega) k
      have hc := cyC_lt l _ HB.out (by omega) k (by rw [HL.out]; omega)
      have hc2 : cyC l k < 16384 := by unfold Mx at hc; omega
      have hstep := stC_step l k (by rw [HL.out]; omega)
      have hcy := cyC_succ l k (by rw [HL.out]; omega)
      generalize l.getD k 0 = x at c1 hx hstep hcy
      generalize cyC l k = c at hc2 hstep hcy ⊢
      clear hc hsl
      have E3 := (E.out.cellN 1 rfl k (x + c)).cellN 1 rfl k ((x + c) % 2251799813685248)
      simp only [List.set_cons_zero, List.set_cons_succ, List.set_set] at E3
      rw [show (stC l k).set k ((x + c) % 2251799813685248) = stC l (k + 1) from hstep] at E3
      have HE := Lib.hid E3
      have hsum : IntKind.u64.wrap ((x : Int) + (c : Int)) = ((x + c : Nat) : Int) := by rw [IntKind.wrap_u64]; omega
      have hdiv : ((x + c : Nat) : Int) / 2251799813685248 = ((cyC l (k + 1) : Nat) : Int) := by rw [hcy]; unfold Mx; omega
      have hand := and51 (x + c) (by omega)
      have hq : (k : Int) < 5 := by omega
      generalize (x + c) % 2251799813685248 = y at HE hand
      generalize x + c = s at HE hsum hdiv hand
      obtain ⟨c', hc'⟩ : ∃ c', c' = cyC l (k + 1) := ⟨_, rfl⟩
      rw [← hc'] at hdiv
      have HC := Lib.hid hc'
      clear hc'
      clear hstep hcy E3 E
      go_wp2
      go_roundw
      case rel => exact ⟨k + 1, by omega, by go_num, by rw [HC.out], HE.out⟩
      case measure => simp [intOf]; omega
    · have hk5 : k = 5 := by omega
      have e1 : stC l k = digL 5 (valL l) := by
        rw [hk5]
        unfold stC
        rw [List.take_of_length_le (by rw [HL.out]; omega), List.drop_eq_nil_of_le (by rw [HL.out]; omega), List.append_nil]
      have e2 : cyC l k = valL l / Mx ^ 5 := by rw [hk5]; unfold cyC; rw [List.take_of_length_le (by rw [HL.out]; omega)]
      have hsl : (stC l k).length = 5 := by rw [e1, digL_length]
      have hfin : (stC l k).set 0 ((stC l k).getD 0 0 + 19 * cyC l k) = carriedL l := by rw [e1, e2]; rfl
      have c1 := E.out.getN 1 rfl 0 (by rw [hsl]; omega)
      have f1 := E.out.fzN 1 rfl 0
      have hd2 : (stC l k).getD 0 0 < 2251799813685248 := by rw [e1]; exact getD_lt (digL_lt 5 _) Mx_pos 0
      have hc := cyC_lt l _ HB.out (by omega) k (by rw [HL.out]; omega)
      have hc2 : cyC l k < 16384 := by unfold Mx at hc; omega
      have E3 := E.out.cellN 1 rfl 0 ((stC l k).getD 0 0 + 19 * cyC l k)
      simp only [List.set_cons_zero, List.set_cons_succ] at E3
      rw [hfin] at E3
      have HE := Lib.hid E3
      clear hc E3 E hfin hsl e1 e2 hk5
      generalize (stC l k).getD 0 0 = x at c1 hd2 HE
      generalize cyC l k = c at hc2 HE ⊢
      have hx : x + 19 * c < 18446744073709551616 := by omega
      obtain ⟨s, hs⟩ : ∃ s, s = x + 19 * c := ⟨_, rfl⟩
      have hsum : (x : Int) + 19 * (c : Int) = (s : Int) := by omega
      rw [← hs] at HE hx
      clear hs
      go_wp2_with (first
        | (with_reducible refine wpE_load (o := ⟨some 30, _, _, _, _, _⟩) rfl 43 (.tmp 1) rfl 1 g1 43 (natsC (carriedL l)) (.array 5 39) (by with_unfolding_all rfl) (by with_unfolding_all rfl) Try.underlying43 rfl (sizeN Try.sz5p _ (carriedL_length l)) HE.out ?_)
        | ((with_reducible refine wpE_store (o := ⟨none, _, _, _, _, _⟩) rfl 43 (.tmp 2) (.tmp 30) rfl 0 g2 43 (natsC zero5) (natsC (carriedL l)) (by with_unfolding_all rfl) (by with_unfolding_all rfl) (by with_unfolding_all rfl) (natsC_same zero5_length (carriedL_length l)) (sizeN Try.sz5p _ (carriedL_length l)) (natsC_one _) HE.out ?_); intro w9 E9))
      refine bodyPost_ret (results_cell_row rfl _ _ g2 43 (natsC (carriedL l)) (0, 0) (.array 5 39) rfl (E9.row 0 rfl) Try.underlying43 rfl (sizeN Try.sz5p _ (carriedL_length l))) rfl (E9.ret _)
end Go.Proofs.Ytpgjcmccfpjmoaa
