/-
  Contracts of Unhex, the program's and the document's answer. Conditions: as each theorem names them.
-/
import Derived.Test.YtemjlolpbbcclaaF
namespace Go.Proofs.Ytemjlolpbbcclaa
open Go.RowKit
set_option linter.unusedVariables false

/-- What a call of Unhex comes back with. -/
def RetUnhex (w : World) (o : Option (List UInt8)) (e : Ending) (w' : World) : Prop :=
  ∃ v, e = .returned (.tuple #[v, .int .i64 (if o.isSome then 0 else 10)]) ∧ Bs w' v (o.getD []) ∧ Below w.heap.size w w'
theorem RetUnhex.none_ {w w' : World} {o : Option (List UInt8)} {e : Ending} (ho : o = none) (he : e = .returned (.tuple #[.slice none 0 0, .int .i64 10])) (hb : Below w.heap.size w w') : RetUnhex w o e w' := by
  subst ho
  exact ⟨_, he, Bs.nil _, hb⟩
theorem RetUnhex.some_ {w w' : World} {o : Option (List UInt8)} {x : List UInt8} {e : Ending} {v : Value} (ho : o = some x) (he : e = .returned (.tuple #[v, .int .i64 0])) (hv : Bs w' v x) (hb : Below w.heap.size w w') : RetUnhex w o e w' := by
  subst ho
  exact ⟨_, he, hv, hb⟩

theorem pair_bits (x y : UInt8) : bits .or .u8 (((hexd x).toNat : Int) * 16) ((hexd y).toNat : Int) = ((pairB x y).toNat : Int) := by
  have h1 := hexd_lt x
  have h2 := hexd_lt y
  have hw : ((hexd x).toNat : Int) * 16 = ((2 ^ 4 * (hexd x).toNat : Nat) : Int) := by omega
  have := Nat.two_pow_add_eq_or_of_lt (b := (hexd y).toNat) (i := 4) (by omega) (hexd x).toNat
  rw [hw, u8_or_nat _ _ (by omega) (by omega), ← this, pairB_toNat]

theorem ba_get (s : ByteArray) (i : Nat) (h : i < s.size) (h2 : i < s.data.toList.length) : s.data.toList[i] = s[i] := by
  rw [Array.getElem_toList]
  rfl

set_option maxHeartbeats 1000000 in
theorem Unhex_any (w : World) (s : ByteArray) (hs : s.size ≤ 1000000000000) :
    Calls Try.prog 28 #[.string s] w (RetUnhex w (unhexL s.data.toList)) := by
  obtain ⟨i0, hi, hz0, hz1, hz2⟩ := info_parts Try.infoB
  have hsl : s.data.toList.length = s.size := by simp
  have HS := Lib.hid hsl
  clear hsl
  by_cases hodd : s.size % 2 = 1
  · have hm : ((s.size : Int) % 2 != 0) = true := by rw [bne_iff_ne]; omega
    have hfin := Lib.hid (unhexL_odd (s.size / 2) s.data.toList (by rw [HS.out]; omega))
    clear hodd
    go_enter Try.func28, Try.ntmps28
    go_wp2
    go_ret2
    exact RetUnhex.none_ hfin.out rfl (Below.refl _ _)
  · have hm : ((s.size : Int) % 2 != 0) = false := by simp; omega
    obtain ⟨n, hn⟩ : ∃ n, s.size = 2 * n := ⟨s.size / 2, by omega⟩
    have hd : (s.size : Int) / 2 = (n : Int) := by omega
    have HN := Lib.hid hn
    have hnb : n ≤ 1000000000000 := by omega
    clear hn hodd
    go_enter Try.func28, Try.ntmps28
    go_wp2_with (refine wpList_make_full _ rfl (.tmp 16) (.tmp 16) 23 rfl w.heap.size 5 i0 (.int .u8 0) 1 Try.underlying23 hi hz0 hz1 .i64 .i64 _ _ n rfl rfl rfl rfl (by rw [hz2]; omega) (by unfold maxLen; omega) (Nat.le_refl _) ?_; intro w1 hown hgrow)
    rw [made_zeros] at hown
    have hown0 : w1.ownsRow w.heap.size 5 1 (.slice (some ⟨w.heap.size, 0, none⟩) n n) n (cellsB (padded [] n)) := by
      rw [padded_nil]; exact hown
    have hbel : Below w.heap.size w w1 := (Below.refl _ _).grown hgrow (Nat.le_refl _) (fun k h => by cases h)
    clear hown hgrow
    go_loopw [20] (fun i wr => ∃ (k : Nat) (acc : List UInt8), k ≤ n ∧ i = .int .i64 k ∧ unhexL (s.data.toList.take (2 * k)) = some acc ∧ acc.length = k ∧ wr.ownsRow w.heap.size 5 1 (.slice (some ⟨w.heap.size, 0, none⟩) n n) n (cellsB (padded acc n)) ∧ Below w.heap.size w wr) (fun i _ => n - (intOf i).toNat)
    case atStart => exact ⟨0, [], Nat.zero_le _, rfl, by simp [unhexL], rfl, hown0, hbel⟩
    case round =>
      obtain ⟨k, acc, hk, rfl, hacc, hal, hown, hb⟩ := hrel
      clear hown0 hbel
      have HA := Lib.hid hacc
      have HAL := Lib.hid hal
      have HB := Lib.hid hb
      clear hacc hal hb
      by_cases hlt : k < n
      · have hb2 : 2 * k + 1 < s.size := by have := HN.out; omega
        have hg1 := ba_get s (2 * k) (by omega) (by rw [HS.out]; omega)
        have hg2 := ba_get s (2 * k + 1) (by omega) (by rw [HS.out]; omega)
        by_cases hx : isHex s[2 * k] = true
        · by_cases hy : isHex s[2 * k + 1] = true
          · have hst := unhex_step s.data.toList acc k (by rw [HS.out]; omega) HA.out (by rw [hg1]; exact hx) (by rw [hg2]; exact hy)
            rw [hg1, hg2] at hst
            have HT := Lib.hid hst
            obtain ⟨old, hcell⟩ := own_some hown k hlt
            have hfz := hown.frozenAt k
            have hput := own_put hown k (pairB s[2 * k] s[2 * k + 1])
            have hps := padded_step acc n (pairB s[2 * k] s[2 * k + 1]) (by rw [HAL.out]; exact hlt)
            rw [HAL.out] at hps
            rw [hps, ← pair_bits] at hput
            have HP := Lib.hid hput
            have hl1 := hexd_lt s[2 * k]
            have hl2 := hexd_lt s[2 * k + 1]
            clear hg1 hg2 hst hput hps hown
            go_wp2_with fail
            refine (digit_any _ _).mono ?_
            rintro e w' ⟨rfl, rfl⟩
            go_wp2_with fail
            refine (digit_any _ _).mono ?_
            rintro e w' ⟨rfl, rfl⟩
            go_wp2
            go_roundw
            case rel => exact ⟨k + 1, acc ++ [pairB s[2 * k] s[2 * k + 1]], by omega, by go_num, HT.out, by simp [HAL.out], HP.out, HB.out.setCell (by simp) _⟩
            case measure => simp [intOf]; omega
          · have hy1 : isHex s[2 * k + 1] = false := by simpa using hy
            have HF := Lib.hid (unhex_bad s.data.toList k (by rw [HS.out]; omega) (.inr (by rw [hg2]; exact hy1)))
            clear hg1 hg2 hy hown
            go_wp2_with fail
            refine (digit_any _ _).mono ?_
            rintro e w' ⟨rfl, rfl⟩
            go_wp2_with fail
            refine (digit_any _ _).mono ?_
            rintro e w' ⟨rfl, rfl⟩
            go_wp2
            go_ret2
            exact RetUnhex.none_ HF.out rfl HB.out
        · have hx1 : isHex s[2 * k] = false := by simpa using hx
          have HF := Lib.hid (unhex_bad s.data.toList k (by rw [HS.out]; omega) (.inl (by rw [hg1]; exact hx1)))
          clear hg1 hg2 hx hown
          go_wp2_with fail
          refine (digit_any _ _).mono ?_
          rintro e w' ⟨rfl, rfl⟩
          go_wp2_with fail
          refine (digit_any _ _).mono ?_
          rintro e w' ⟨rfl, rfl⟩
          go_wp2
          go_ret2
          exact RetUnhex.none_ HF.out rfl HB.out
      · have hkn : k = n := by omega
        have hfin : unhexL s.data.toList = some acc := by
          have := HA.out
          rwa [hkn, ← HN.out, List.take_of_length_le (by rw [HS.out]; omega)] at this
        have HF := Lib.hid hfin
        have hp : padded acc n = acc := by
          have := padded_all acc; rwa [HAL.out, hkn] at this
        rw [hp] at hown
        have HO := Lib.hid hown
        clear hkn hfin hp hown
        go_wp2
        go_ret2
        exact RetUnhex.some_ HF.out rfl (Bs.of_own HO.out) HB.out

set_option maxHeartbeats 1000000 in
theorem refUnhex_any (w : World) (s : ByteArray) (hs : s.size ≤ 1000000000000) :
    Calls Try.prog 29 #[.string s] w (RetUnhex w (unhexL s.data.toList)) := by
  have hsl : s.data.toList.length = s.size := by simp
  have HS := Lib.hid hsl
  clear hsl
  by_cases hodd : s.size % 2 = 1
  · have hm : ((s.size : Int) % 2 == 1) = true := by rw [beq_iff_eq]; omega
    have hfin := Lib.hid (unhexL_odd (s.size / 2) s.data.toList (by rw [HS.out]; omega))
    clear hodd
    go_enter Try.func29, Try.ntmps29
    go_wp2
    go_ret2
    exact RetUnhex.none_ hfin.out rfl (Below.refl _ _)
  · have hm : ((s.size : Int) % 2 == 1) = false := by rw [beq_eq_false_iff_ne]; omega
    obtain ⟨n, hn⟩ : ∃ n, s.size = 2 * n := ⟨s.size / 2, by omega⟩
    have HN := Lib.hid hn
    have hn1 : 2 * n ≤ s.size := by omega
    have hn2 : s.size ≤ 2 * n := by omega
    clear hn hodd
    go_enter Try.func29, Try.ntmps29
    go_wp2
    go_loopw [4, 5] (fun v i wr => ∃ (k : Nat) (acc : List UInt8), k ≤ n ∧ i = .int .i64 (2 * (k : Int)) ∧ unhexL (s.data.toList.take (2 * k)) = some acc ∧ acc.length = k ∧ OwnB wr w.heap.size 5 v acc ∧ Below w.heap.size w wr) (fun _ i _ => 2 * n - (intOf i).toNat)
    case atStart => exact ⟨0, [], Nat.zero_le _, rfl, by simp [unhexL], rfl, OwnB.nil _ _ _, Below.refl _ _⟩
    case round =>
      obtain ⟨k, acc, hk, rfl, hacc, hal, hown, hb⟩ := hrel
      have HA := Lib.hid hacc
      have HAL := Lib.hid hal
      have HB := Lib.hid hb
      have HO := Lib.hid hown
      have hsz := hb.size
      clear hacc hal hb hown
      by_cases hlt : k < n
      · have hb2 : 2 * k + 1 < s.size := by omega
        have hg1 := ba_get s (2 * k) (by omega) (by rw [HS.out]; omega)
        have hg2 := ba_get s (2 * k + 1) (by omega) (by rw [HS.out]; omega)
        by_cases hx : isHex s[2 * k] = true
        · by_cases hy : isHex s[2 * k + 1] = true
          · have hst := unhex_step s.data.toList acc k (by rw [HS.out]; omega) HA.out (by rw [hg1]; exact hx) (by rw [hg2]; exact hy)
            rw [hg1, hg2] at hst
            have HT := Lib.hid hst
            have hr1 : refDig s[2 * k] = ((hexd s[2 * k]).toNat : Int) := by unfold refDig; rw [if_pos hx]
            have hr2 : refDig s[2 * k + 1] = ((hexd s[2 * k + 1]).toNat : Int) := by unfold refDig; rw [if_pos hy]
            have hl1 := hexd_lt s[2 * k]
            have hl2 := hexd_lt s[2 * k + 1]
            have hpr := Lib.hid (pairB_toNat s[2 * k] s[2 * k + 1])
            clear hg1 hg2 hst
            go_wp2_with fail
            refine (refDigit_any _ _).mono ?_
            rintro e w' ⟨rfl, rfl⟩
            rw [hr1]
            go_wp2_with fail
            refine (refDigit_any _ _).mono ?_
            rintro e w' ⟨rfl, rfl⟩
            rw [hr2]
            clear hr1 hr2
            go_wp2_with (at_builtin; refine wpList_appB _ rfl (.tmp 34) (.tmp 40) 23 rfl w 5 Try.infoB Try.underlying23 _ _ acc [pairB s[2 * k] s[2 * k + 1]] rfl rfl (HO.out.alloc _) (Bs.lit1 _ _ _ _ (by rw [hpr.out]; omega)) (by rw [HAL.out]; simp; omega) (HB.out.alloc hsz _) ?_; intro v1 w1 hown1 hb1)
            go_roundw
            case rel => exact ⟨k + 1, acc ++ [pairB s[2 * k] s[2 * k + 1]], by omega, by go_num, HT.out, by simp [HAL.out], hown1, hb1⟩
            case measure => simp [intOf]; omega
          · have hy1 : isHex s[2 * k + 1] = false := by simpa using hy
            have HF := Lib.hid (unhex_bad s.data.toList k (by rw [HS.out]; omega) (.inr (by rw [hg2]; exact hy1)))
            have hr1 : refDig s[2 * k] = ((hexd s[2 * k]).toNat : Int) := by unfold refDig; rw [if_pos hx]
            have hr2 : refDig s[2 * k + 1] = -1 := by unfold refDig; rw [if_neg hy]
            have hl1 := hexd_lt s[2 * k]
            clear hg1 hg2 hy
            go_wp2_with fail
            refine (refDigit_any _ _).mono ?_
            rintro e w' ⟨rfl, rfl⟩
            rw [hr1]
            go_wp2_with fail
            refine (refDigit_any _ _).mono ?_
            rintro e w' ⟨rfl, rfl⟩
            rw [hr2]
            clear hr1 hr2
            have hd : decide (((hexd s[2 * k]).toNat : Int) < 0) = false := by simp
            go_wp2
            go_ret2
            exact RetUnhex.none_ HF.out rfl HB.out
        · have hx1 : isHex s[2 * k] = false := by simpa using hx
          have HF := Lib.hid (unhex_bad s.data.toList k (by rw [HS.out]; omega) (.inl (by rw [hg1]; exact hx1)))
          have hr1 : refDig s[2 * k] = -1 := by unfold refDig; rw [if_neg hx]
          clear hg1 hg2 hx
          go_wp2_with fail
          refine (refDigit_any _ _).mono ?_
          rintro e w' ⟨rfl, rfl⟩
          rw [hr1]
          clear hr1
          go_wp2_with fail
          refine (refDigit_any _ _).mono ?_
          rintro e w' ⟨rfl, rfl⟩
          go_wp2
          go_ret2
          exact RetUnhex.none_ HF.out rfl HB.out
      · have hkn : k = n := by omega
        have hfin : unhexL s.data.toList = some acc := by
          have := HA.out
          rwa [hkn, ← HN.out, List.take_of_length_le (by rw [HS.out]; omega)] at this
        have HF := Lib.hid hfin
        clear hkn hfin
        go_wp2
        go_ret2
        exact RetUnhex.some_ HF.out rfl HO.out.bs HB.out
end Go.Proofs.Ytemjlolpbbcclaa
