/-
  Contract of the document's own Expand, with a Log that keeps nothing. Conditions: as each theorem names them.
-/
import Derived.Test.YtdojaighchgghaaDoorMacE
import Derived.Test.YtdojaighchgghaaDoorShaH
namespace Go.Proofs.YtdojaighchgghaaDoor
open Go.RowKit
set_option linter.unusedVariables false
set_option maxRecDepth 20000

/-- T1, T2 and so on; T0 is empty. -/
def tB (key info : List UInt8) : Nat → List UInt8
  | 0 => []
  | k + 1 => macB key (tB key info k ++ info ++ [UInt8.ofNat (k + 1)])
def outT (key info : List UInt8) : Nat → List UInt8
  | 0 => []
  | k + 1 => outT key info k ++ tB key info (k + 1)
theorem tB_length (key info : List UInt8) (k : Nat) : (tB key info (k + 1)).length = 32 := macB_length _ _
theorem tB_le (key info : List UInt8) (k : Nat) : (tB key info k).length ≤ 32 := by
  cases k with
  | zero => simp [tB]
  | succ k => rw [tB_length]; omega
theorem outT_length (key info : List UInt8) (k : Nat) : (outT key info k).length = 32 * k := by
  induction k with
  | zero => rfl
  | succ k ih => rw [outT, List.length_append, ih, tB_length]; omega

set_option maxHeartbeats 1000000 in
theorem refExpand_arg (w : World) (p v : Value) (key : List UInt8) (n : Int) (h : n < 0 ∨ 8160 < n) :
    Calls Tryd.prog 35 #[p, .agg (keyC key), v, .int .i64 n] w fun e w' => e = .returned (.tuple #[.slice none 0 0, .int .i64 1]) ∧ Below w.heap.size w w' := by
  by_cases h0 : n < 0
  · have d1 : decide (n < 0) = true := by simp; omega
    go_enter Tryd.func35, Tryd.ntmps35
    go_wp2_with ((with_reducible refine wpList_box_row (o := ⟨some 5, _, _, _, _, _⟩) rfl 33 (.tmp 1) rfl (keyC key) (by with_unfolding_all rfl) ?_); intro g5 w1 n1)
    go_ret2
    exact ⟨rfl, n1.below⟩
  · have d1 : decide (n < 0) = false := by simp; omega
    have d2 : decide (8160 < n) = true := by simp; omega
    go_enter Tryd.func35, Tryd.ntmps35
    go_wp2_with ((with_reducible refine wpList_box_row (o := ⟨some 5, _, _, _, _, _⟩) rfl 33 (.tmp 1) rfl (keyC key) (by with_unfolding_all rfl) ?_); intro g5 w1 n1)
    go_ret2
    exact ⟨rfl, n1.below⟩

set_option maxHeartbeats 4000000 in
theorem refExpand_any (w0 w : World) (g n m : Nat) (vi : Value) (key info : List UInt8) (h : LogR w0 w g n w) (hn : n ≤ 1000000) (hk : key.length = 32) (hi : Bs w vi info) (hi2 : info.length ≤ 10000) (hm : m ≤ 8160) :
    Calls Tryd.prog 35 #[.pointer (some ⟨g, 0, none⟩), .agg (keyC key), vi, .int .i64 (m : Int)] w fun e w' => ∃ u n', n' ≤ n + 3 * ((m + 31) / 32) ∧ e = .returned (.tuple #[u, .int .i64 0]) ∧ Bs w' u ((outT key info ((m + 31) / 32)).take m) ∧ LogR w0 w g n' w' := by
  have HR := Lib.hid h
  have HI := Lib.hid hi
  have HK := Lib.hid hk
  have hgl := h.glt
  obtain ⟨IA, IC, rfl, i1, i2, i3⟩ := hi
  have d1 : decide ((m : Int) < 0) = false := by simp
  have d2 : decide ((8160 : Int) < (m : Int)) = false := by simp; omega
  obtain ⟨kk, hkk⟩ : ∃ kk, kk = (m + 31) / 32 := ⟨_, rfl⟩
  rw [← hkk]
  have HBY : Hid (∀ x, Calls Tryd.prog 54 #[.agg (keyC key)] x (RetOwn x 5 key)) := fun x => refBytes_own x key HK.out
  clear h hk i3
  go_enter Tryd.func35, Tryd.ntmps35
  go_wp2_with ((with_reducible refine wpList_box_row (o := ⟨some 5, _, _, _, _, _⟩) rfl 33 (.tmp 1) rfl (keyC key) (by with_unfolding_all rfl) ?_); intro g5 w1 n1)
  have R1 := Lib.hid (HR.out.kept n1.below)
  have Q1 := Lib.hid n1.row
  have hg5 : g5 ≠ g := by have := n1.spot; omega
  clear n1 HR
  go_loopw [10, 11, 12] (fun vo vl i wr => ∃ k : Nat, 32 * k < m + 32 ∧ i = .int .i64 ((k : Int) + 1) ∧ OwnB wr w.heap.size 5 vo (outT key info k) ∧ OwnB wr w.heap.size 5 vl (tB key info k) ∧ Apart vo vl ∧ RowAt wr g5 33 (keyC key) ∧ ∃ nn, nn ≤ n + 3 * k ∧ LogR w0 w g nn wr) (fun _ _ i _ => 10000 - (intOf i).toNat)
  case atStart => exact ⟨0, by omega, rfl, OwnB.nil _ _ _, OwnB.nil _ _ _, Apart.nil _, Q1.out, n, by omega, R1.out⟩
  case round =>
    clear R1 Q1
    obtain ⟨k, hk, rfl, hoo, hol, hap, hrow, nn, hnn, hlr⟩ := hrel
    have HL := Lib.hid hol
    have HQ := Lib.hid hrow
    have HLR := Lib.hid hlr
    have hsz := hlr.size
    have hlen := outT_length key info k
    obtain ⟨OA, oc, rfl, hc1, hc2⟩ := hoo.shape
    unfold maxLen at hc2
    rw [hlen] at hoo hc1 ⊢
    have HO := Lib.hid hoo
    have hmx : maxLen = 9223372036854775807 := rfl
    clear hoo hol hap hrow hlr
    by_cases hlt : 32 * k < m
    · have ht : decide (((32 * k : Nat) : Int) < (m : Int)) = true := by simp; omega
      have hk254 : k ≤ 254 := by omega
      have hb8 : Hid ((k : Int) + 1 = ((UInt8.ofNat (k + 1)).toNat : Int)) := by
        show _ = _
        rw [UInt8.toNat_ofNat_of_lt' (by simp only [UInt8.size]; omega)]
        omega
      obtain ⟨x8, hx8⟩ : ∃ x, x = UInt8.ofNat (k + 1) := ⟨_, rfl⟩
      rw [← hx8] at hb8
      obtain ⟨t0, ht0⟩ : ∃ t, t = tB key info k := ⟨_, rfl⟩
      obtain ⟨t1, ht1⟩ : ∃ t, t = tB key info (k + 1) := ⟨_, rfl⟩
      have HT1 := Lib.hid ht1
      have LT1 : Hid (t1.length = 32) := by show _ = _; rw [ht1, tB_length]
      have lt0 : t0.length ≤ 32 := by rw [ht0]; exact tB_le _ _ _
      have HMS : Hid (∀ x m' u v, LogR w0 x g m' x → m' ≤ 100000000 → Bs x u key → Bs x v ((([] ++ t0) ++ info) ++ [x8]) → Calls Tryd.prog 33 #[.pointer (some ⟨g, 0, none⟩), u, v] x fun e w' => ∃ n', n' ≤ m' + 3 ∧ e = .returned (.agg (keyC t1)) ∧ LogR w0 x g n' w') := fun x m' u v hr hm' hu hv => by
        rw [ht1, tB, ← ht0, ← hx8]
        exact refMacSum_any w0 x g m' u v key (t0 ++ info ++ [x8]) hr hm' hu (by rw [HK.out]; omega) hv (by simp; omega)
      have HBO : Hid (∀ x, Calls Tryd.prog 54 #[.agg (keyC t1)] x (RetOwn x 5 t1)) := fun x => refBytes_own x t1 LT1.out
      rw [← ht0] at HL
      have HIr := Lib.hid (HLR.out.bs HI.out)
      have HLT0 := Lib.hid lt0
      clear hx8 ht0 ht1 hlen
      go_wp2_with (first
        | (at_builtin; refine wpList_appB _ rfl (.tmp 26) (.tmp 27) 27 rfl wr 5 Tryd.infoB Tryd.underlying27 _ _ [] t0 rfl rfl (OwnB.empty2 _ _ _ (Nat.le_refl _)) (HL.out.bs.below (alloc_below _ _)) (by simp; omega) (alloc_below _ _) ?_; intro v28 w28 own28 b28)
        | (at_builtin; refine wpList_appB _ rfl (.tmp 28) (.tmp 29) 27 rfl wr 5 Tryd.infoB Tryd.underlying27 _ _ ([] ++ t0) info rfl rfl own28 (HIr.out.below b28) (by simp; omega) b28 ?_; intro v30 w30 own30 b30; have Q30 := Lib.hid (HQ.out.kept b30))
        | (with_reducible refine wpList_load_row (o := ⟨some 32, _, _, _, _, _⟩) rfl 33 (.tmp 5) rfl g5 (by with_unfolding_all rfl) 33 (keyC key) (0, 0) (.array 32 5) (by with_unfolding_all exact Q30.out) Tryd.underlying33 rfl (Tryd.sizeKey key HK.out) ?_))
      refine (HBY.out _).mono ?_
      intro e w33 h
      obtain ⟨u33, he, own33, b33⟩ := h
      subst he
      have O33 := Lib.hid (own30.below b33)
      have B33 := Lib.hid (below_size b30 b33)
      have U33 := Lib.hid own33
      have A33 : Hid (Apart v30 u33) := fun k hk h2 => by
        have h3 := (World.ownsRow.lt own30 k hk).2
        have h4 := own33.rows k h2
        omega
      have s33 := B33.out.size
      clear own28 b28 own30 b30 own33 b33 Q30
      go_wp2_with (at_builtin; refine wpList_appD rfl (.tmp 34) (.tmp 37) 27 rfl wr.heap.size 5 Tryd.infoB Tryd.underlying27 _ _ (([] ++ t0) ++ info) [x8] rfl rfl (O33.out.alloc _) (Bs.lit1 _ _ _ _ hb8.out) (by simp; omega) (Nat.le_trans s33 ((Below.refl _ w33).alloc (Nat.le_refl _) _).size) ?_; intro v38 w38 own38 gr38 ds38; have b38 := (B33.out.alloc s33 (.cells #[.int .u8 ((k : Int) + 1)] 5)).grown gr38 (Nat.le_trans s33 ((Below.refl _ w33).alloc (Nat.le_refl _) _).size) O33.out.rows; have L38 := Lib.hid (HLR.out.kept b38); have U38 := Lib.hid ((U33.out.alloc (.cells #[.int .u8 ((k : Int) + 1)] 5)).apart A33.out gr38).bs; have V38 := Lib.hid own38.bs; have Q38 := Lib.hid (HQ.out.kept b38); have P38 := Lib.hid (HO.out.below b38); have s38 := b38.size; clear own38 gr38 ds38 b38 O33 B33 U33 A33)
      refine (HMS.out w38 nn _ _ L38.out.self (by omega) U38.out V38.out).mono ?_
      intro e w39 h
      obtain ⟨n', hn', he, r39⟩ := h
      subst he
      have L39 := Lib.hid (L38.out.trans r39)
      have Q39 := Lib.hid (r39.other Q38.out hg5)
      have P39 := Lib.hid (r39.own P38.out)
      have s39 := r39.size
      clear r39 L38 Q38 P38 U38 V38
      go_wp2_with fail
      refine (HBO.out _).mono ?_
      intro e w40 h
      obtain ⟨v40, he, own40, b40⟩ := h
      subst he
      have L40 := Lib.hid (L39.out.kept b40)
      have Q40 := Lib.hid (Q39.out.kept b40)
      have P40 := Lib.hid (P39.out.below b40)
      have s40 := b40.size
      have A40 : Hid (Apart (.slice OA (32 * k) oc) v40) := fun k hk h2 => by
        have h3 := (World.ownsRow.lt P39.out k hk).2
        have h4 := own40.rows k h2
        omega
      have O40 := Lib.hid (own40.low (show w.heap.size ≤ w39.heap.size by omega))
      clear own40 b40 L39 Q39 P39
      go_wp2_with (at_builtin; refine wpList_appD rfl (.tmp 41) (.tmp 42) 27 rfl w.heap.size 5 Tryd.infoB Tryd.underlying27 _ _ (outT key info k) t1 rfl rfl P40.out O40.out.bs (by rw [outT_length, LT1.out]; omega) (by omega) ?_; intro v43 w43 own43 gr43 ds43; have L43 := Lib.hid (L40.out.app P40.out (Nat.le_refl _) gr43); have Q43 := Lib.hid (Q40.out.grown gr43 (P40.out.other Q40.out (by decide))); have O43 := Lib.hid (O40.out.apart A40.out gr43); have A43 := Lib.hid (A40.out.grown O40.out ds43); have P43 := Lib.hid own43; clear own43 gr43 ds43 L40 Q40 O40 A40 P40)
      go_roundw
      case rel => exact ⟨k + 1, by omega, by go_num, by rw [outT, ← HT1.out]; exact P43.out, by rw [← HT1.out]; exact O43.out, A43.out, Q43.out, n', by omega, L43.out⟩
      case measure => simp [intOf]; omega
    · have hkk2 : k = kk := by omega
      have ht : decide (((32 * k : Nat) : Int) < (m : Int)) = false := by simp; omega
      have hml : m ≤ (outT key info k).length := by rw [hlen]; omega
      have hmo : m ≤ oc := by omega
      have HB := HO.out.bs
      have HBU := Lib.hid (HB.upto m hml)
      rw [hkk2] at HBU
      clear HB hlen HO HL HQ hml
      go_wp2
      go_ret2
      exact ⟨_, nn, by omega, rfl, HBU.out, HLR.out⟩
end Go.Proofs.YtdojaighchgghaaDoor
