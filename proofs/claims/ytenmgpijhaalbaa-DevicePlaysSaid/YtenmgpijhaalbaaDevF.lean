/-
  Contract of device.New. Conditions: as it names them.
-/
import Derived.Test.YtenmgpijhaalbaaDevE
import Derived.Test.YtenmgpijhaalbaaEnvS
namespace Go.Proofs.Ytenmgpijhaalbaa
open Go.RowKit
set_option linter.unusedVariables false
set_option maxRecDepth 20000

theorem zeroSec_get (i : Nat) (hi : i < 256) : ((cellsB zeroSec).toArray)[i]? = some (Value.int .u8 0) := by
  unfold cellsB zeroSec
  rw [List.getElem?_toArray, List.getElem?_map, List.getElem?_replicate, if_pos hi]; rfl
theorem madeSectors (n : Nat) : madeCells (Value.agg (cellsB zeroSec).toArray).cells (n * 256) = (cellsB (List.replicate n zeroSec).flatten).toArray := by
  have hz : ∀ i, i < 256 → (cellsB zeroSec).toArray[i]! = Value.int .u8 0 := by
    intro i hi
    have h := zeroSec_get i hi
    rw [Array.getElem!_eq_getD, Array.getD_eq_getD_getElem?, h]; rfl
  have hs : (cellsB zeroSec).toArray.size = 256 := by rw [List.size_toArray, cellsB_length, zeroSec_length]
  have hf : (List.replicate n zeroSec).flatten = List.replicate (n * 256) 0 := by
    unfold zeroSec
    rw [List.flatten_replicate_replicate]
  rw [hf]
  apply Array.ext_getElem?
  intro i
  show ((Array.range (n * 256)).map (fun j => (cellsB zeroSec).toArray[j % (cellsB zeroSec).toArray.size]!))[i]? = _
  rw [Array.getElem?_map]
  by_cases hi : i < n * 256
  · rw [Array.getElem?_range, if_pos hi]
    rw [Option.map_some, hs, hz _ (Nat.mod_lt _ (by omega))]
    rw [List.getElem?_toArray]
    simp only [cellsB, List.getElem?_map, List.getElem?_replicate, if_pos hi]
    rfl
  · rw [Array.getElem?_eq_none (by simp; omega), Array.getElem?_eq_none (by rw [List.size_toArray, cellsB_length, List.length_replicate]; omega)]
    rfl
theorem Try.builtDev (A B : Option Addr) (n c m k : Nat) : Try.prog.built 59 [(0, .slice A n c), (1, .slice B m k)] = some #[.slice A n c, .slice B m k, .slice none 0 0, .bool false, .int .i64 0, .bool false] := by kernel_rfl
theorem share_rows {P : Program} {md : Region.Mode} {ops : Array Oper} {Q : Exit → Act → World → Prop} {fin : Nat → Bool} {SS : World → Prop} {w : World} {m m' : Nat} {listed L' : Array Bool} {a : Act} {A : Nat → Nat → Act} (Φ : Nat → Nat → World → Prop)
    (hgo : ∀ u v x, Φ u v x → walkS P md ops Q SS fin m' L' (A u v) x) (h : (∀ u v x, Φ u v x → walkS P md ops Q SS fin m' L' (A u v) x) → walkS P md ops Q SS fin m listed a w) : walkS P md ops Q SS fin m listed a w := h hgo
theorem own_of_rowN {w : World} {g base n sz : Nat} {e : TypeId} {l : List Value} (h : RowAt w g e l.toArray) (hb : base ≤ g) (hm : n ≤ maxLen) (hl : l.length = n * sz) : w.ownsRow base e sz (.slice (some ⟨g, 0, none⟩) n n) n l :=
  ⟨hl, .inr ⟨g, n, _, rfl, hb, h, Nat.le_refl _, hm, by rw [List.size_toArray, hl], by rw [← hl]; exact List.take_length⟩⟩
set_option maxHeartbeats 2000000 in
theorem devNew_any (w : World) (n : Nat) (h1 : 1 ≤ n) (h2 : n ≤ 600) :
    Calls Try.prog 9 #[.int .i64 (n : Int)] w fun e w' => ∃ g gn cn gs cs vp, e = .returned (.tuple #[.pointer (some ⟨g, 0, none⟩), .int .i64 0]) ∧ DevIs w' g gn cn gs cs vp (Dev.new n) ∧ (∀ k, Foot g gn gs vp k → w.heap.size ≤ k) ∧ Below w.heap.size w w' := by
  have hd1 : decide ((n : Int) < 1) = false := by simp; omega
  have hd2 : decide ((600 : Int) < (n : Int)) = false := by simp; omega
  go_enter Try.func9, Try.ntmps9
  go_wp2_with fail
  have hS : Below w.heap.size w w.drew := (Below.refl _ _).drew
  refine plain_region (S := fun W => Below w.heap.size w W) (fin := fun _ => false) (by kernel_rfl) ?_
  change walkS _ _ _ _ _ _ 8 _ _ _
  refine walkS_take (i := 0) (oi := ⟨some 10, _, _, _, _, _⟩) (v := (.int .i64 (n : Int))) rfl (by kernel_rfl) (by kernel_rfl) (fun _ _ _ h => h) _ _ _ _ (by kernel_rfl) (by kernel_rfl) (Or.inl ⟨by rfl, fun w' hS' => (by clear hS hS'; go_simp)⟩) hS ?_
  try simp only [Act.put, List.setIfInBounds_toArray, List.set_cons_zero, List.set_cons_succ]
  refine walkS_take (i := 2) (oi := ⟨some 12, _, _, _, _, _⟩) (v := (.int .i64 (n : Int))) rfl (by kernel_rfl) (by kernel_rfl) (fun _ _ _ h => h) _ _ _ _ (by kernel_rfl) (by kernel_rfl) (Or.inl ⟨by rfl, fun w' hS' => (by clear hS hS'; go_simp)⟩) hS ?_
  try simp only [Act.put, List.setIfInBounds_toArray, List.set_cons_zero, List.set_cons_succ]
  refine share_rows (m' := ?mm) (L' := ?LL) (A := ?AA) (fun gn gs x => RowAt x gn 67 (cellsB (List.replicate n zeroSec).flatten).toArray ∧ RowAt x gs 67 (cellsB (List.replicate n zeroSec).flatten).toArray ∧ gn ≠ gs ∧ w.heap.size ≤ gn ∧ w.heap.size ≤ gs ∧ Below w.heap.size w x) ?hgo ?h
  case h =>
    intro hgo
    refine walkS_two (i := 1) (j := 3) (oi := ⟨some 11, _, _, _, _, _⟩) (oj := ⟨some 13, _, _, _, _, _⟩) (by kernel_rfl) rfl rfl rfl rfl (fun KK hKK => ?_) (fun KK hKK => ?_)
    · refine wp_makeR 54 67 (.tmp 10) (.tmp 10) rfl n n (by with_unfolding_all rfl) (by with_unfolding_all rfl) Try.underlying54 (.agg (cellsB zeroSec).toArray) 256 256 Try.infoSector _ (madeSectors n) (Nat.le_refl _) (by omega) (by omega) ?_
      intro gn w1 n1
      have b1 := below_size hS n1.below
      refine hKK _ _ (.inr b1) ?_
      try simp only [Act.put, List.setIfInBounds_toArray, List.set_cons_zero, List.set_cons_succ]
      clear hKK KK
      refine walkS_only (i := 3) (o := ⟨some 13, _, _, _, _, _⟩) (by kernel_rfl) rfl rfl fun KK hKK => ?_
      refine wp_makeR 54 67 (.tmp 12) (.tmp 12) rfl n n (by with_unfolding_all rfl) (by with_unfolding_all rfl) Try.underlying54 (.agg (cellsB zeroSec).toArray) 256 256 Try.infoSector _ (madeSectors n) (Nat.le_refl _) (by omega) (by omega) ?_
      intro gs w2 n2
      have b2 := below_size b1 n2.below
      refine hKK _ _ (.inr b2) ?_
      try simp only [Act.put, List.setIfInBounds_toArray, List.set_cons_zero, List.set_cons_succ]
      clear hKK KK
      have l1 := n1.row.lt
      have s1 := n1.spot
      have s2 := n2.spot
      have z1 := b1.size
      exact hgo gn gs w2 ⟨n1.row.kept n2.below, n2.row, by omega, by rw [s1]; exact hS.size, by omega, b2⟩
    · refine wp_makeR 54 67 (.tmp 12) (.tmp 12) rfl n n (by with_unfolding_all rfl) (by with_unfolding_all rfl) Try.underlying54 (.agg (cellsB zeroSec).toArray) 256 256 Try.infoSector _ (madeSectors n) (Nat.le_refl _) (by omega) (by omega) ?_
      intro gs w1 n1
      have b1 := below_size hS n1.below
      refine hKK _ _ (.inr b1) ?_
      try simp only [Act.put, List.setIfInBounds_toArray, List.set_cons_zero, List.set_cons_succ]
      clear hKK KK
      refine walkS_only (i := 1) (o := ⟨some 11, _, _, _, _, _⟩) (by kernel_rfl) rfl rfl fun KK hKK => ?_
      refine wp_makeR 54 67 (.tmp 10) (.tmp 10) rfl n n (by with_unfolding_all rfl) (by with_unfolding_all rfl) Try.underlying54 (.agg (cellsB zeroSec).toArray) 256 256 Try.infoSector _ (madeSectors n) (Nat.le_refl _) (by omega) (by omega) ?_
      intro gn w2 n2
      have b2 := below_size b1 n2.below
      refine hKK _ _ (.inr b2) ?_
      try simp only [Act.put, List.setIfInBounds_toArray, List.set_cons_zero, List.set_cons_succ]
      clear hKK KK
      have l1 := n1.row.lt
      have s1 := n1.spot
      have s2 := n2.spot
      have z1 := b1.size
      exact hgo gn gs w2 ⟨n2.row, n1.row.kept n2.below, by omega, by omega, by rw [s1]; exact hS.size, b2⟩
  case hgo =>
    intro gn gs w2 hΦ
    obtain ⟨rn, rs, hne, hn1, hs1, b2⟩ := hΦ
    have RN := Lib.hid rn
    have RS := Lib.hid rs
    clear rn rs hS
    refine walkS_only (i := 4) (o := ⟨some 14, _, _, _, _, _⟩) (by kernel_rfl) rfl rfl fun KK hKK => ?_
    refine wp_val (.agg #[.slice (some ⟨gn, 0, none⟩) n n, .slice (some ⟨gs, 0, none⟩) n n, .slice none 0 0, .bool false, .int .i64 0, .bool false]) (by exact run_builtOp 59 #[(0, .tmp 11), (1, .tmp 13)] rfl _ (by with_unfolding_all exact Try.builtDev _ _ _ _ _ _)) ?_
    refine hKK _ _ (.inr b2) ?_
    try simp only [Act.put, List.setIfInBounds_toArray, List.set_cons_zero, List.set_cons_succ]
    clear hKK KK
    refine walkS_only (i := 5) (o := ⟨some 15, _, _, _, _, _⟩) (by kernel_rfl) rfl rfl fun KK hKK => ?_
    refine wp_box_row 59 (.tmp 14) rfl #[.slice (some ⟨gn, 0, none⟩) n n, .slice (some ⟨gs, 0, none⟩) n n, .slice none 0 0, .bool false, .int .i64 0, .bool false] (by with_unfolding_all rfl) ?_
    intro g w3 n3
    have b3 := below_size b2 n3.below
    have N3 := Lib.hid n3
    clear n3
    refine hKK _ _ (.inr b3) ?_
    try simp only [Act.put, List.setIfInBounds_toArray, List.set_cons_zero, List.set_cons_succ]
    clear hKK KK
    refine walkS_only (i := 6) (o := ⟨some 2, _, _, _, _, _⟩) (by kernel_rfl) rfl rfl fun KK hKK => ?_
    go_simp
    refine hKK _ _ (.inr b3) ?_
    clear hKK KK
    refine walkS_only (i := 7) (o := ⟨some 3, _, _, _, _, _⟩) (by kernel_rfl) rfl rfl fun KK hKK => ?_
    go_simp
    refine hKK _ _ (.inr b3) ?_
    clear hKK KK
    refine walkS_done (by kernel_rfl) ?_ _
    go_wp2
    go_ret2
    have hln : (cellsB (List.replicate n zeroSec).flatten).length = n * 256 := by
      rw [cellsB_length, flat_length (n := 256) (fun l hl => by rw [(List.mem_replicate.1 hl).2]; exact zeroSec_length), List.length_replicate]
    have hl2 : (Dev.new n).now.length = n := List.length_replicate
    have hm : n ≤ maxLen := by unfold maxLen; omega
    refine ⟨g, gn, n, gs, n, _, rfl, ⟨?_, ?_, ?_, World.ownsRow_nil _ _ _ _, hne, Dev.new_ok n h1 h2⟩, fun k hk => ?_, b3⟩
    · rw [hl2]; exact N3.out.row
    · rw [hl2]; exact own_of_rowN (RN.out.kept N3.out.below) (Nat.zero_le _) hm hln
    · rw [hl2]; exact own_of_rowN (RS.out.kept N3.out.below) (Nat.zero_le _) hm hln
    · rcases hk with rfl | rfl | rfl | hk
      · have := N3.out.spot
        have := b2.size
        omega
      · exact hn1
      · exact hs1
      · cases hk
theorem devNew_none (w : World) (n : Int) (h1 : n < 1 ∨ 600 < n) :
    Calls Try.prog 9 #[.int .i64 n] w fun e w' => e = .returned (.tuple #[.pointer none, .int .i64 1]) ∧ Below w.heap.size w w' := by
  by_cases h : n < 1
  · have hd1 : decide (n < 1) = true := by simp; omega
    go_enter Try.func9, Try.ntmps9
    go_wp2
    go_ret2
    exact ⟨rfl, Below.refl _ _⟩
  · have hd1 : decide (n < 1) = false := by simp; omega
    have hd2 : decide (600 < n) = true := by simp; omega
    go_enter Try.func9, Try.ntmps9
    go_wp2
    go_ret2
    exact ⟨rfl, Below.refl _ _⟩
end Go.Proofs.Ytenmgpijhaalbaa
