/-
  Contract of the document's own Pad of sha. Conditions: as each theorem names them.
-/
import Derived.Test.YtdojaighchgghaaDoorShaD
import Derived.Test.YtdojaighchgghaaDoorRound
namespace Go.Proofs.YtdojaighchgghaaDoor
open Go.RowKit
set_option linter.unusedVariables false
set_option maxRecDepth 20000

theorem OwnB.lit {w : World} {base : Nat} (e : TypeId) (l : List UInt8) (c : Array Value) (hb : base ≤ w.heap.size) (hc : c.toList = cellsB l) (hm : l.length ≤ maxLen) : OwnB (w.alloc (.cells c e)) base e (.slice (some ⟨w.heap.size, 0, none⟩) l.length l.length) l := by
  have h := World.ownsRow_lit (base := base) (e := e) (size := 1) w c l.length hb hm (by rw [← Array.length_toList, hc, cellsB_length]; omega)
  rw [hc] at h
  exact h

def accP (k : Nat) : List UInt8 := 128 :: List.replicate k 0
theorem accP_length (k : Nat) : (accP k).length = k + 1 := by simp [accP]
theorem accP_succ (k : Nat) : accP (k + 1) = accP k ++ [0] := by simp [accP, List.replicate_succ']
theorem accP_all (n : Nat) (hn : 8 * n < 18446744073709551616) : accP ((119 - n % 64) % 64) ++ highI (8 * n) 8 = padB n := by
  rw [padB, accP, highI, show lowI (8 * n) 8 = lowB (8 * n) 8 from lowI_in _ 8 (by omega) (by omega), Nat.mod_eq_of_lt hn]

theorem refPad_neg (w : World) (n : Int) (h : n < 0) :
    Calls Tryd.prog 19 #[.int .i64 n] w (RetBs w []) := by
  have hd : decide (n < 0) = true := by simp; omega
  go_enter Tryd.func19, Tryd.ntmps19
  go_wp2
  go_ret
  exact ⟨_, rfl, Bs.nil _, Below.refl _ _⟩

set_option maxHeartbeats 1000000 in
theorem refPad_any (w : World) (n : Nat) (hn : n ≤ 1000000000) :
    Calls Tryd.prog 19 #[.int .i64 (n : Int)] w (RetBs w (padB n)) := by
  have hd : decide ((n : Int) < 0) = false := by simp
  have HA : Hid (accP ((119 - n % 64) % 64) ++ highI (8 * n) 8 = padB n) := accP_all n (by omega)
  obtain ⟨z, hz⟩ : ∃ z, z = (119 - n % 64) % 64 := ⟨_, rfl⟩
  rw [← hz] at HA
  have hzl : z < 64 := by omega
  go_enter Tryd.func19, Tryd.ntmps19
  go_wp2
  have ho : OwnB (w.alloc (.cells #[.int .u8 128] 5)) w.heap.size 5 (.slice (some ⟨w.heap.size, 0, none⟩) 1 1) (accP 0) := OwnB.lit _ [128] _ (Nat.le_refl _) rfl (by unfold maxLen; simp)
  have hb0 : Below w.heap.size w (w.alloc (.cells #[.int .u8 128] 5)) := (Below.refl _ w).alloc (Nat.le_refl _) _
  have HO := Lib.hid ho
  have HB := Lib.hid hb0
  clear ho hb0
  go_loopw [3] (fun v wr => ∃ k : Nat, k ≤ z ∧ OwnB wr w.heap.size 5 v (accP k) ∧ Below w.heap.size w wr) (fun v _ => 100 - (match v with | .slice _ n _ => n | _ => 0))
  case atStart => exact ⟨0, by omega, HO.out, HB.out⟩
  case round =>
    clear HO HB
    obtain ⟨k, hk, hown, hb⟩ := hrel
    have HO := Lib.hid hown
    have HB := Lib.hid hb
    obtain ⟨A, c, rfl, hc1, hc2⟩ := hown.shape
    have hsz := hb.size
    have hlen := accP_length k
    obtain ⟨m, hm⟩ : ∃ m, m = (accP k).length := ⟨_, rfl⟩
    rw [← hm] at HO hc1 ⊢
    have hmk : m = k + 1 := by omega
    clear hown hb hlen
    by_cases hlt : k < z
    · have ht : (((n : Int) + (m : Int) + 8) % 64 != 0) = true := by rw [bne_iff_ne]; omega
      have hml : m ≤ 64 := by omega
      have HM := Lib.hid hm
      have HZ := Lib.hid hz
      have HMK := Lib.hid hmk
      clear hm hz hmk
      go_wp2_with (at_builtin; refine wpList_appB _ rfl (.tmp 14) (.tmp 15) 27 rfl w 5 Tryd.infoB Tryd.underlying27 _ _ (accP k) [0] rfl rfl (HO.out.alloc _) (Bs.lit1 _ _ _ _ rfl) (by rw [← HM.out]; simp; omega) (HB.out.alloc hsz _) ?_; intro v1 w1 hown1 hb1)
      go_roundw
      case rel => exact ⟨k + 1, by omega, by rw [accP_succ]; exact hown1, hb1⟩
      case measure =>
        obtain ⟨A1, c1, rfl, _, _⟩ := hown1.shape
        have := HM.out
        have := HMK.out
        simp only [List.length_append, List.length_singleton]
        omega
    · have hkz : k = z := by omega
      have ht : (((n : Int) + (m : Int) + 8) % 64 != 0) = false := by rw [bne_eq_false_iff_eq]; omega
      have e8 : IntKind.u64.wrap (n : Int) * 8 = ((8 * n : Nat) : Int) := by rw [IntKind.wrap_u64]; omega
      have e9 : (n : Int) * 8 = ((8 * n : Nat) : Int) := by omega
      have HE9 := Lib.hid e9
      rw [hkz] at HO
      have HM := Lib.hid hm
      have hml : m ≤ 64 := by omega
      have HML : Hid (m = (accP z).length) := by show _ = _; rw [← hkz]; exact hm
      clear hm hz hmk hkz e8 e9
      go_wp2_with fail
      rw [HE9.out]
      refine (refHigh_any _ (8 * n) (by omega) 8 (by omega)).mono ?_
      intro e w2 h
      obtain ⟨u, he, hu, b2⟩ := h
      subst he
      have HO2 := Lib.hid (HO.out.below b2)
      have HB2 := Lib.hid (below_size HB.out b2)
      have HU := Lib.hid hu
      have hhl : (highI (8 * n) 8).length ≤ 8 := by rw [highI, List.length_reverse]; exact lowI_length _ _
      clear b2 hu HO HB
      go_wp2_with (at_builtin; refine wpList_appB _ rfl (.tmp 17) (.tmp 21) 27 rfl w 5 Tryd.infoB Tryd.underlying27 _ _ (accP z) (highI (8 * n) 8) rfl rfl HO2.out HU.out (by rw [← HML.out]; omega) HB2.out ?_; intro v1 w3 hown1 hb1)
      go_ret
      rw [HA.out] at hown1
      exact ⟨_, rfl, hown1.bs, hb1⟩

theorem refPad_int (w : World) (n : Int) (h : n ≤ 1000000000) :
    Calls Tryd.prog 19 #[.int .i64 n] w (RetBs w (if n < 0 then [] else padB n.toNat)) := by
  by_cases h0 : n < 0
  · rw [if_pos h0]; exact refPad_neg w n h0
  · rw [if_neg h0]
    have := refPad_any w n.toNat (by omega)
    rwa [Int.toNat_of_nonneg (by omega)] at this
theorem Pad_int (w : World) (n : Int) (h : n ≤ 1000000000) :
    Calls Tryd.prog 16 #[.int .i64 n] w (RetBs w (if n < 0 then [] else padB n.toNat)) := by
  by_cases h0 : n < 0
  · rw [if_pos h0]; exact Pad_neg w n h0
  · rw [if_neg h0]
    have := Pad_any w n.toNat (by omega)
    rwa [Int.toNat_of_nonneg (by omega)] at this
end Go.Proofs.YtdojaighchgghaaDoor
