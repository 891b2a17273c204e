/-
  Contract of the document's own Derive, with a Log that keeps nothing, out of its Info's. Conditions: as each theorem names them.
-/
import Derived.Test.YtdojaighchgghaaDoorMacE
namespace Go.Proofs.YtdojaighchgghaaDoor
open Go.RowKit
set_option linter.unusedVariables false
set_option maxRecDepth 20000

set_option maxHeartbeats 4000000 in
theorem refDerive_of (w0 w : World) (g n : Nat) (lab : ByteArray) (IA : Option Addr) (il ic : Nat) (key inf d : List UInt8) (hd : d = macB key (inf ++ [1])) (h : LogR w0 w g n w) (hn : n ≤ 1000000) (hk : key.length = 32) (hi : inf.length ≤ 90000)
    (hinfo : ∀ x, Below w.heap.size w x → Calls Tryd.prog 57 #[.string lab, .slice IA il ic] x (RetOwn x 5 inf)) :
    Calls Tryd.prog 37 #[.pointer (some ⟨g, 0, none⟩), .agg (keyC key), .string lab, .slice IA il ic] w fun e w' => ∃ n', n' ≤ n + 3 ∧ e = .returned (.agg (keyC d)) ∧ LogR w0 w g n' w' := by
  have HR := Lib.hid h
  have HK := Lib.hid hk
  have HIN := Lib.hid hinfo
  have hgl := h.glt
  have LD : Hid (d.length = 32) := by show _ = _; rw [hd, macB_length]
  have HBY : Hid (∀ x, Calls Tryd.prog 54 #[.agg (keyC key)] x (RetOwn x 5 key)) := fun x => refBytes_own x key HK.out
  have HMS : Hid (∀ x m' u v, LogR w0 x g m' x → m' ≤ 100000000 → Bs x u key → Bs x v (inf ++ [1]) → Calls Tryd.prog 33 #[.pointer (some ⟨g, 0, none⟩), u, v] x fun e w' => ∃ n', n' ≤ m' + 3 ∧ e = .returned (.agg (keyC d)) ∧ LogR w0 x g n' w') := fun x m' u v hr hm' hu hv => by
    rw [hd]
    exact refMacSum_any w0 x g m' u v key (inf ++ [1]) hr hm' hu (by rw [HK.out]; omega) hv (by simp; omega)
  clear h hk hinfo hd
  go_enter Tryd.func37, Tryd.ntmps37
  go_wp2_with (first
    | ((with_reducible refine wpList_box_row (o := ⟨some 5, _, _, _, _, _⟩) rfl 33 (.tmp 1) rfl (keyC key) (by with_unfolding_all rfl) ?_); intro g5 w1 n1)
    | ((with_reducible refine wpList_alloc_row (o := ⟨some 8, _, _, _, _, _⟩) rfl 33 rfl (keyC zeroKey) Tryd.zeroK ?_); intro g8 w2 n2))
  have b2 := below_size n1.below n2.below
  have R2 := Lib.hid (HR.out.kept b2)
  have Q2 := Lib.hid (n1.row.kept n2.below)
  have S2 := Lib.hid n2.row
  have h8 : w.heap.size ≤ g8 := by have := n2.spot; have := n1.below.size; omega
  have h8g : g8 ≠ g := by omega
  have B2 := Lib.hid b2
  clear n1 n2 HR b2
  refine (HIN.out _ B2.out).mono ?_
  intro e w3 h
  obtain ⟨u3, he, own3, b3⟩ := h
  subst he
  have R3 := Lib.hid (R2.out.kept b3)
  have Q3 := Lib.hid (Q2.out.kept b3)
  have S3 := Lib.hid (S2.out.kept b3)
  have O3 := Lib.hid (own3.low B2.out.size)
  have s3 := b3.size
  clear own3 b3 R2 Q2 S2 B2 HIN
  go_wp2_with (with_reducible refine wpList_load_row (o := ⟨some 14, _, _, _, _, _⟩) rfl 33 (.tmp 5) rfl g5 (by with_unfolding_all rfl) 33 (keyC key) (0, 0) (.array 32 5) (by with_unfolding_all exact Q3.out) Tryd.underlying33 rfl (Tryd.sizeKey key HK.out) ?_)
  refine (HBY.out _).mono ?_
  intro e w4 h
  obtain ⟨u4, he, own4, b4⟩ := h
  subst he
  have A4 : Hid (Apart u3 u4) := fun k hk h2 => by
    have h3 := (World.ownsRow.lt O3.out k hk).2
    have h4 := own4.rows k h2
    omega
  have R4 := Lib.hid (R3.out.kept b4)
  have S4 := Lib.hid (S3.out.kept b4)
  have O4 := Lib.hid (O3.out.below b4)
  have K4 := Lib.hid own4
  have s4 := b4.size
  have s24 := R4.out.size
  clear own4 b4 R3 Q3 S3 O3
  go_wp2_with (at_builtin; refine wpList_appD rfl (.tmp 16) (.tmp 17) 27 rfl w.heap.size 5 Tryd.infoB Tryd.underlying27 _ _ inf [1] rfl rfl (O4.out.alloc _) (Bs.lit1 _ _ _ _ rfl) (by simp; omega) (Nat.le_trans s24 ((Below.refl _ w4).alloc (Nat.le_refl _) _).size) ?_; intro v5 w5 own5 gr5 ds5; have R5 := Lib.hid ((R4.out.kept (alloc_below w4 (.cells #[.int .u8 1] 5))).app (O4.out.alloc _) (Nat.le_refl _) gr5); have S5 := Lib.hid ((S4.out.kept (alloc_below w4 (.cells #[.int .u8 1] 5))).grown gr5 ((O4.out.alloc (.cells #[.int .u8 1] 5)).other (S4.out.kept (alloc_below w4 (.cells #[.int .u8 1] 5))) (by decide))); have K5 := Lib.hid ((K4.out.alloc (.cells #[.int .u8 1] 5)).apart A4.out gr5).bs; have V5 := Lib.hid own5.bs; clear own5 gr5 ds5 R4 S4 K4 O4 A4)
  refine (HMS.out w5 n _ _ R5.out.self (by omega) K5.out V5.out).mono ?_
  intro e w6 h
  obtain ⟨n', hn', he, r6⟩ := h
  subst he
  have R6 := Lib.hid (R5.out.trans r6)
  have S6 := Lib.hid (r6.other S5.out h8g)
  clear r6 R5 S5 K5 V5
  go_wp2_with ((with_reducible refine wpList_store_row (o := ⟨none, _, _, _, _, _⟩) rfl 33 (.tmp 8) (.tmp 19) rfl g8 33 _ (keyC d) (by with_unfolding_all rfl) (by with_unfolding_all rfl) S6.out (keyC_same zeroKey_length LD.out) (Tryd.sizeKey d LD.out) (keyC_one d) ?_); intro w7 p7)
  refine bodyPost_ret (results_cell_row rfl _ _ g8 33 (keyC d) (0, 0) (.array 32 5) rfl p7.row Tryd.underlying33 rfl (Tryd.sizeKey d LD.out)) rfl ⟨n', hn', rfl, ?_⟩
  exact R6.out.put p7 h8 h8g
end Go.Proofs.YtdojaighchgghaaDoor
