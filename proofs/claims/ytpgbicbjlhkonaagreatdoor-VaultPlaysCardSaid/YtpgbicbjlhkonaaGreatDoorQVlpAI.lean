/-
  Texts that belong together, merged: L, MacE, MacG, HighO, MacJ, OtsMath, KeyEq, Keys, MacT, Iter, MacH, MacI, MacM. Conditions: as each theorem names them.
-/
import Derived.Test.YtpgbicbjlhkonaaGreatDoorQVlpAA
import Derived.Test.YtpgbicbjlhkonaaGreatDoorQVlpAH
import Derived.Test.YtpgbicbjlhkonaaGreatDoorQVlpAF
import Derived.Test.YtpgbicbjlhkonaaGreatDoorQVlpAG
import Derived.Lib.AtoiErrMem
import Derived.Deep.DeepMust
import Derived.Stop.BytesEq
import Derived.Test.YtpgbicbjlhkonaaGreatDoorQVlpAC
import Derived.Great.BuildSlice
import Derived.RangeFuncNested
section
namespace Go.Proofs.YtpgbicbjlhkonaaGreatDoor
open Go.RowKit
set_option linter.unusedVariables false

theorem keyC_put (l : List UInt8) (i : Nat) (b : UInt8) : (keyC l).setIfInBounds i (.int .u8 (b.toNat : Int)) = keyC (l.set i b) := by
  unfold keyC
  rw [← cellsB_set]
  simp
theorem keyC_cell {w : World} {g : Nat} {t : TypeId} {l : List UInt8} (h : RowAt w g t (keyC l)) (i : Nat) (hi : i < l.length) : w.cell? ⟨g, i, none⟩ = some (.int .u8 (l[i].toNat : Int)) := by
  rw [h.cell i]
  have := cellsB_get l i hi
  simpa [keyC] using this
theorem Tryz.buildK (w : World) : (Instr.build 117 #[]).run Tryz.prog w = .ok (keyV zeroKey) w := by kernel_rfl





set_option maxHeartbeats 1000000 in
theorem refBytes_any (w : World) (l : List UInt8) (hl : l.length = 32) :
    Calls Tryz.prog 73 #[keyV l] w (RetBs w l) := by
  have HL := Lib.hid hl
  have hl1 : l.length ≤ 32 := by omega
  have hl2 : 32 ≤ l.length := by omega
  clear hl
  go_enter Tryz.func73, Tryz.ntmps73
  go_wp2_with ((with_reducible refine wpList_box_row (o := ⟨some 1, _, _, _, _, _⟩) rfl 117 (.tmp 0) rfl (keyC l) (by with_unfolding_all rfl) ?_); intro g1 w1 n1)
  go_loopw [3, 4] (fun v i wr => ∃ k : Nat, k ≤ l.length ∧ i = .int .i64 k ∧ OwnB wr w1.heap.size 5 v (l.take k) ∧ Below w1.heap.size w1 wr) (fun _ i _ => l.length - (intOf i).toNat)
  case atStart => exact ⟨0, Nat.zero_le _, rfl, OwnB.nil _ _ _, Below.refl _ _⟩
  case round =>
    obtain ⟨k, hk, rfl, hown, hb⟩ := hrel
    have HO := Lib.hid hown
    have HB := Lib.hid hb
    have hsz := hb.size
    clear hown hb
    by_cases hlt : k < l.length
    · have hcell := keyC_cell (n1.row.kept HB.out) k hlt
      have HT := Lib.hid (List.take_succ_eq_append_getElem hlt)
      go_wp2_with (at_builtin; refine wpList_appB _ rfl (.tmp 9) (.tmp 13) 38 rfl w1 5 Tryz.infoB Tryz.underlying38 _ _ _ [l[k]] rfl rfl (HO.out.alloc _) (Bs.lit1 _ _ _ _ rfl) (by simp; omega) (HB.out.alloc hsz _) ?_; intro v2 w2 hown2 hb2)
      go_roundw
      case rel => exact ⟨k + 1, by omega, by go_num, by rw [HT.out]; exact hown2, hb2⟩
      case measure => simp [intOf]; omega
    · have HO2 : Hid (OwnB wr w1.heap.size 5 u3 l) := by
        have := HO.out; rwa [List.take_of_length_le (by omega)] at this
      go_wp2
      go_ret
      exact ⟨_, rfl, HO2.out.bs, below_size n1.below HB.out⟩
end Go.Proofs.YtpgbicbjlhkonaaGreatDoor
end
section
namespace Go.Proofs.YtpgbicbjlhkonaaGreatDoor
open Go.RowKit
set_option linter.unusedVariables false
set_option maxRecDepth 20000

theorem OwnB.low {w : World} {base base' : Nat} {e : TypeId} {v : Value} {l : List UInt8} (h : OwnB w base e v l) (hb : base' ≤ base) : OwnB w base' e v l := by
  obtain ⟨hl, h⟩ := h
  refine ⟨hl, ?_⟩
  rcases h with h | ⟨g, cap, cur, h1, h2, h3⟩
  · exact .inl h
  · exact .inr ⟨g, cap, cur, h1, Nat.le_trans hb h2, h3⟩

set_option maxHeartbeats 1000000 in
theorem refBytes_own (w : World) (l : List UInt8) (hl : l.length = 32) :
    Calls Tryz.prog 73 #[keyV l] w (RetOwn w 5 l) := by
  have HL := Lib.hid hl
  have hl1 : l.length ≤ 32 := by omega
  have hl2 : 32 ≤ l.length := by omega
  clear hl
  go_enter Tryz.func73, Tryz.ntmps73
  go_wp2_with ((with_reducible refine wpList_box_row (o := ⟨some 1, _, _, _, _, _⟩) rfl 117 (.tmp 0) rfl (keyC l) (by with_unfolding_all rfl) ?_); intro g1 w1 n1)
  go_loopw [3, 4] (fun v i wr => ∃ k : Nat, k ≤ l.length ∧ i = .int .i64 k ∧ OwnB wr w1.heap.size 5 v (l.take k) ∧ Below w1.heap.size w1 wr) (fun _ i _ => l.length - (intOf i).toNat)
  case atStart => exact ⟨0, Nat.zero_le _, rfl, OwnB.nil _ _ _, Below.refl _ _⟩
  case round =>
    obtain ⟨k, hk, rfl, hown, hb⟩ := hrel
    have HO := Lib.hid hown
    have HB := Lib.hid hb
    have hsz := hb.size
    clear hown hb
    by_cases hlt : k < l.length
    · have hcell := keyC_cell (n1.row.kept HB.out) k hlt
      have HT := Lib.hid (List.take_succ_eq_append_getElem hlt)
      go_wp2_with (at_builtin; refine wpList_appB _ rfl (.tmp 9) (.tmp 13) 38 rfl w1 5 Tryz.infoB Tryz.underlying38 _ _ _ [l[k]] rfl rfl (HO.out.alloc _) (Bs.lit1 _ _ _ _ rfl) (by simp; omega) (HB.out.alloc hsz _) ?_; intro v2 w2 hown2 hb2)
      go_roundw
      case rel => exact ⟨k + 1, by omega, by go_num, by rw [HT.out]; exact hown2, hb2⟩
      case measure => simp [intOf]; omega
    · have HO2 : Hid (OwnB wr w1.heap.size 5 u3 l) := by
        have := HO.out; rwa [List.take_of_length_le (by omega)] at this
      go_wp2
      go_ret
      exact ⟨_, rfl, HO2.out.low n1.below.size, below_size n1.below HB.out⟩

/-- append onto the call's own row leaves the Log as it was. -/
theorem LogR.app {w0 w x y : World} {g n base : Nat} {v : Value} {l : List UInt8} (h : LogR w0 w g n x) (ho : OwnB x base 5 v l) (hb : w.heap.size ≤ base) (hg : x.grownBy y v.ownBlock) : LogR w0 w g n y := by
  have hr : ∀ k, v.ownBlock = some k → base ≤ k := ho.rows
  refine ⟨h.below.grown hg h.below.size (fun k e => by have := hr k e; have := h.old; omega), h.row.grown hg (ho.other h.row (by decide)), h.far, h.old, h.row0, ?_⟩
  exact ⟨hg.os.trans h.grown.os, hg.tape.trans h.grown.tape, hg.output.trans h.grown.output, Nat.le_trans h.grown.size hg.size, fun k hk h1 => (hg.block k (Nat.lt_of_lt_of_le hk h.grown.size) (fun e => by have := hr k e.symm; omega)).trans (h.grown.block k hk h1)⟩
theorem LogR.own {w0 w x : World} {g n base : Nat} {v : Value} {l : List UInt8} (h : LogR w0 w g n x) (ho : OwnB w base 5 v l) : OwnB x base 5 v l := by
  obtain ⟨n0, h0⟩ := h.row0
  refine World.ownsRow.kept ho h.grown ?_
  rcases hv : v.ownBlock with _ | k
  · exact .inl rfl
  · refine .inr fun hk => ?_
    exact ho.other h0 (by decide) (by rw [hv]; exact hk.symm)
theorem mixB_step (b : List UInt8) (x : UInt8) (k : Nat) (h : k < b.length) : mixB (b.take (k + 1)) x = mixB (b.take k) x ++ [b.getD k 0 ^^^ x] := by
  have e2 := List.take_succ_eq_append_getElem (l := b.map (· ^^^ x)) (i := k) (by simpa using h)
  simp only [mixB, List.map_take]
  rw [e2]
  simp [List.getD_eq_getElem?_getD, h]

end Go.Proofs.YtpgbicbjlhkonaaGreatDoor
end
section
namespace Go.Proofs.YtpgbicbjlhkonaaGreatDoor
open Go.RowKit
set_option linter.unusedVariables false
set_option maxRecDepth 20000

end Go.Proofs.YtpgbicbjlhkonaaGreatDoor
end
section
namespace Go.Proofs.YtpgbicbjlhkonaaGreatDoor
open Go.RowKit
set_option linter.unusedVariables false

set_option maxHeartbeats 400000 in
theorem High_own (w : World) (n s : Nat) (hn : n < 18446744073709551616) (hs1 : 1 ≤ s) (hs2 : s ≤ 8) :
    Calls Tryz.prog 84 #[.int .u64 (n : Int), .int .i64 (s : Int)] w (fun e w' => ∃ v, e = .returned v ∧ OwnB w' w.heap.size 5 v (lowB n s).reverse ∧ Below w.heap.size w w') := by
  obtain ⟨i0, hi, hz0, hz1, hz2⟩ := info_parts Tryz.infoB
  have hlen : (lowB n s).reverse.length = s := by rw [List.length_reverse, lowB_length]
  have HL := Lib.hid hlen
  clear hlen
  go_enter Tryz.func84, Tryz.ntmps84
  go_wp2_with (first
    | (go_at_call 99; refine (fits_yes _ _ (by omega) (by omega)).mono ?_; rintro e w' ⟨rfl, rfl⟩)
    | (refine wpList_make_full _ rfl (.tmp 10) (.tmp 10) 38 rfl w.heap.size 5 i0 (.int .u8 0) 1 Tryz.underlying38 hi hz0 hz1 .i64 .i64 _ _ s rfl rfl rfl rfl (by rw [hz2]; omega) (by unfold maxLen; omega) (Nat.le_refl _) ?_; intro w1 hown hgrow))
  rw [made_zeros] at hown
  have hown0 : w1.ownsRow w.heap.size 5 1 (.slice (some ⟨w.heap.size, 0, none⟩) s s) s (cellsB (partlyR (lowB n s).reverse 0)) := by
    rw [partlyR_zero, HL.out]; exact hown
  have hbel : Below w.heap.size w w1 := (Below.refl _ _).grown hgrow (Nat.le_refl _) (fun k h => by cases h)
  clear hown hgrow
  go_loopw [13] (fun i wr => ∃ k : Nat, k ≤ s ∧ i = .int .i64 k ∧ wr.ownsRow w.heap.size 5 1 (.slice (some ⟨w.heap.size, 0, none⟩) s s) s (cellsB (partlyR (lowB n s).reverse k)) ∧ Below w.heap.size w wr) (fun i _ => s - (intOf i).toNat)
  case atStart => exact ⟨0, Nat.zero_le _, rfl, hown0, hbel⟩
  case round =>
    obtain ⟨k, hk, rfl, hown, hb⟩ := hrel
    clear hown0 hbel
    by_cases hlt : k < s
    · obtain ⟨old, hcell⟩ := own_some hown (s - 1 - k) (by omega)
      have hfz := hown.frozenAt (s - 1 - k)
      have hput := own_put hown (s - 1 - k) (byteN n k)
      have hstep := partlyR_step (lowB n s).reverse k (by rw [HL.out]; omega)
      have hget : (lowB n s).reverse[(lowB n s).reverse.length - 1 - k]'(by rw [HL.out]; omega) = byteN n k := by
        rw [List.getElem_reverse]
        have e : (lowB n s).length - 1 - ((lowB n s).reverse.length - 1 - k) = k := by rw [HL.out, lowB_length]; omega
        simp only [e]
        simp [lowB]
      rw [hget, HL.out] at hstep
      rw [hstep] at hput
      have HP := Lib.hid hput
      have HG := Lib.hid hown
      have HB := Lib.hid hb
      clear hput hown hget hb hstep
      go_wp2_with (go_at_call 100; refine (byteAt_any _ n k hn (by omega)).mono ?_; rintro e w' ⟨rfl, rfl⟩)
      go_roundw
      case rel => exact ⟨k + 1, by omega, by go_num, HP.out, HB.out.setCell (by simp) _⟩
      case measure => simp [intOf]; omega
    · have hks : k = s := by omega
      subst hks
      have hown2 : wr.ownsRow w.heap.size 5 1 (.slice (some ⟨w.heap.size, 0, none⟩) k k) k (cellsB (lowB n k).reverse) := by
        have := partlyR_all (lowB n k).reverse; rw [HL.out] at this; rwa [this] at hown
      have HO := Lib.hid hown2
      have HB := Lib.hid hb
      clear hown2 hown hb
      go_wp2
      go_ret
      exact ⟨_, rfl, by unfold OwnB; rw [HL.out]; exact HO.out, HB.out⟩

end Go.Proofs.YtpgbicbjlhkonaaGreatDoor
end
section
namespace Go.Proofs.YtpgbicbjlhkonaaGreatDoor
open Go.RowKit
set_option linter.unusedVariables false
set_option maxRecDepth 20000

def highB4 (n : Nat) : List UInt8 := (lowB n 4).reverse
def partsL (lab : List UInt8) (ls : List (List UInt8)) : List (List UInt8) := [[UInt8.ofNat lab.length], lab] ++ ls.flatMap fun b => [highB4 b.length, b]
def infoB (lab : List UInt8) (ls : List (List UInt8)) : List UInt8 := (partsL (lab.take 255) ls).flatten
theorem partsL_next (lab : List UInt8) (ls : List (List UInt8)) (k : Nat) (h : k < ls.length) : partsL lab (ls.take (k + 1)) = partsL lab (ls.take k) ++ [highB4 ls[k].length, ls[k]] := by
  unfold partsL
  rw [List.take_succ_eq_append_getElem h, List.flatMap_append]
  simp
theorem partsL_length (lab : List UInt8) (ls : List (List UInt8)) : (partsL lab ls).length = 2 + 2 * ls.length := by
  unfold partsL
  rw [List.length_append]
  have : ∀ ls : List (List UInt8), (ls.flatMap fun b => [highB4 b.length, b]).length = 2 * ls.length := by
    intro ls
    induction ls with
    | nil => rfl
    | cons a l ih => rw [List.flatMap_cons, List.length_append, ih, List.length_cons]; simp; omega
  rw [this]
  rfl
theorem partsL_flat (lab : List UInt8) (ls : List (List UInt8)) (hl : ∀ b ∈ ls, b.length ≤ 1000) : (partsL lab ls).flatten.length ≤ 1 + lab.length + 1004 * ls.length := by
  have : ∀ ls : List (List UInt8), (∀ b ∈ ls, b.length ≤ 1000) → (ls.flatMap fun b => [highB4 b.length, b]).flatten.length ≤ 1004 * ls.length := by
    intro ls
    induction ls with
    | nil => intro _; simp
    | cons a l ih =>
      intro h
      have h1 := h a (by simp)
      have h2 := ih fun b hb => h b (by simp [hb])
      rw [List.flatMap_cons, List.flatten_append, List.length_append, List.length_cons]
      have : ([highB4 a.length, a] : List (List UInt8)).flatten.length = 4 + a.length := by simp [highB4, lowB_length]
      omega
  have := this ls hl
  unfold partsL
  rw [List.flatten_append, List.length_append]
  have e : ([[UInt8.ofNat lab.length], lab] : List (List UInt8)).flatten.length = 1 + lab.length := by simp; omega
  omega

theorem OwnSs.two (w : World) (base : Nat) (hb : base ≤ w.heap.size) (u v : Value) (a b : List UInt8) (ha : El base w u a) (hc : El base w v b) :
    OwnSs (w.alloc (.cells #[u, v] 38)) base (.slice (some ⟨w.heap.size, 0, none⟩) 2 2) [a, b] :=
  ⟨[u, v], World.ownsRow_lit (base := base) (e := 38) (size := 1) w #[u, v] 2 hb (by unfold maxLen; omega) rfl, rfl, fun j h1 h2 => by
    match j, h1 with
    | 0, _ => exact ha.below (alloc_below _ _)
    | 1, _ => exact hc.below (alloc_below _ _)⟩
/-- append of two more. -/
theorem wpList_appSs {P : Program} {w : World} {ops : Array Oper} {rest : List Oper} {o : Oper} {a : Act} {Q : Exit → Act → World → Prop} (hgd : o.guard = none) (s x : Operand) (t : TypeId)
    (ho : o.op = .call { callee := .builtin .append, args := #[s, x], argTypes := #[t, t] })
    (base : Nat) (hinfo : (P.info? 38).map (fun i => (i.zero, i.size, i.bytes)) = some (some (.slice none 0 0), 1, 24)) (ht : P.underlying t = some (.slice 38))
    (v u1 u2 : Value) (g : Nat) (ls : List (List UInt8)) (b1 b2 : List UInt8) (hs : a.eval s = v) (hx : a.eval x = .slice (some ⟨g, 0, none⟩) 2 2) (hg : RowAt w g 38 #[u1, u2])
    (hown : OwnSs w base v ls) (h1 : El base w u1 b1) (h2 : El base w u2 b2) (hlen : ls.length ≤ 1000000) (hb : base ≤ w.heap.size)
    (h : ∀ v' w', OwnSs w' base v' (ls ++ [b1, b2]) → w.grownBy w' v.ownBlock → (∀ k, v.ownBlock = some k → base ≤ k) → wpList P ops Q rest (a.put o.dst v') w') : wpList P ops Q (o :: rest) a w := by
  obtain ⟨i0, hi, hz0, hz1, hz2⟩ := info_parts hinfo
  obtain ⟨xs, hx1, hx2, hx3⟩ := hown
  refine wpList_append_own _ hgd s x t ho base 38 i0 (.slice none 0 0) 1 24 ht hi hz0 hz1 hz2 rfl (by decide) v ls.length xs hs hx1 ⟨g, 0, none⟩ 2 2 [u1, u2] hx rfl (fun j y hj => ?_) (fun y hy => ?_) (by unfold maxLen; omega) (by omega) hb ?_
  · have hj2 := (List.getElem?_eq_some_iff.1 hj).1
    have hadd : (⟨g, 0, none⟩ : Addr).add j = ⟨g, j, none⟩ := by unfold Addr.add; split <;> simp_all
    rw [hadd, hg.cell j]
    simpa using hj
  · rcases List.mem_cons.1 hy with rfl | hy
    · exact h1.1.isSlice2
    · obtain rfl : y = u2 := by simpa using hy
      exact h2.1.isSlice2
  · intro v' w' ho' hg' _
    refine h v' w' ⟨xs ++ [u1, u2], by rw [List.length_append]; exact ho', by simp [hx2], fun j a1 a2 => ?_⟩ hg' (fun k hk => (World.ownsRow.lt hx1 k hk).1)
    rcases Nat.lt_or_ge j xs.length with hlt | hge
    · rw [List.getElem_append_left hlt, List.getElem_append_left (by omega)]
      exact (hx3 j hlt (by omega)).grown hx1 hg'
    · obtain ⟨i, rfl⟩ : ∃ i, j = xs.length + i := ⟨j - xs.length, by omega⟩
      have hi2 : i < 2 := by simpa using a1
      have e1 : (xs ++ [u1, u2])[xs.length + i] = [u1, u2][i]'(by simpa using hi2) := by rw [List.getElem_append_right (by omega)]; simp
      have e2 : (ls ++ [b1, b2])[xs.length + i] = [b1, b2][i]'(by simpa using hi2) := by rw [List.getElem_append_right (by omega)]; simp [hx2]
      rw [e1, e2]
      match i, hi2 with
      | 0, _ => exact h1.grown hx1 hg'
      | 1, _ => exact h2.grown hx1 hg'

/-- '[]byte(s)'. -/
theorem bytes_el (w : World) (base : Nat) (s : ByteArray) (hs : s.size ≤ 1000) : El base (Lib.bytesWorld w 5 s) (.slice (some ⟨w.heap.size, 0, none⟩) s.size (grownCap w s.size 0 5)) s.data.toList ∧ Below w.heap.size w (Lib.bytesWorld w 5 s) := by
  have hl : s.data.toList.length = s.size := by simp
  refine ⟨⟨⟨_, grownCap w s.size 0 5, by rw [hl], by rw [hl]; exact grownCap_ge _ _ _ _, grownCap_le_maxLen _ _ _ _ (by unfold maxLen; omega), fun _ => ⟨w.heap.size, 0, rfl, fun j hj => ?_⟩⟩, fun _ b off n c hu => ?_⟩, Lib.bytesWorld_below _ _ _⟩
  · rw [Nat.zero_add, Lib.bytesWorld_cell w 5 s j (by rw [← hl]; exact hj)]
    congr 2
    rw [List.getD_eq_getElem?_getD, List.getElem?_eq_getElem hj]
    rfl
  · injection hu with e1 _ _
    injection e1 with e1
    injection e1 with e1 _ _
    subst e1
    exact .inr ⟨_, _, _, Lib.bytesWorld_at_new w 5 s, by decide⟩

end Go.Proofs.YtpgbicbjlhkonaaGreatDoor
end
section
namespace Go.Proofs.YtpgbicbjlhkonaaGreatDoor
set_option linter.unusedVariables false

/-- A number's two lowest bytes, the higher one first. -/
def numB (z : Int) : List UInt8 := (lowB (z % 18446744073709551616).toNat 2).reverse
theorem numB_length (z : Int) : (numB z).length = 2 := by simp [numB, lowB_length]
/-- k steps along chain c, from step i on. -/
def alongB (tag : List UInt8) (c i : Int) (v : List UInt8) : Nat → List UInt8
  | 0 => v
  | k + 1 => digestB (tag ++ numB c ++ numB (i + k) ++ alongB tag c i v k)
theorem alongB_length (tag : List UInt8) (c i : Int) (v : List UInt8) (h : v.length = 32) (k : Nat) : (alongB tag c i v k).length = 32 := by
  cases k with
  | zero => exact h
  | succ k => exact digestB_length _
theorem alongB_add (tag : List UInt8) (c i : Int) (v : List UInt8) (a b : Nat) : alongB tag c i v (a + b) = alongB tag c (i + a) (alongB tag c i v a) b := by
  induction b with
  | zero => rfl
  | succ b ih =>
    rw [← Nat.add_assoc, alongB, alongB, ih]
    rw [show i + ((a + b : Nat) : Int) = i + (a : Int) + (b : Int) by omega]
theorem alongB_left (tag : List UInt8) (c i : Int) (v : List UInt8) (n : Nat) : alongB tag c i v (n + 1) = alongB tag c (i + 1) (digestB (tag ++ numB c ++ numB i ++ v)) n := by
  rw [Nat.add_comm n 1, alongB_add]
  simp [alongB]
def lackB (b : UInt8) : Nat := (15 - b.toNat / 16) + (15 - b.toNat % 16)
def lackL (d : List UInt8) : Nat := (d.map lackB).sum
def halvesL (d : List UInt8) : List Nat := d.flatMap fun b => [b.toNat / 16, b.toNat % 16]
def digitsL (d : List UInt8) : List Nat := halvesL d ++ [lackL d / 256, lackL d / 16 % 16, lackL d % 16]
theorem halvesL_length (d : List UInt8) : (halvesL d).length = 2 * d.length := by
  induction d with
  | nil => rfl
  | cons b d ih => simp only [halvesL, List.flatMap_cons, List.length_append, List.length_cons, List.length_nil] at *; omega
theorem digitsL_length (d : List UInt8) (h : d.length = 32) : (digitsL d).length = 67 := by
  rw [digitsL, List.length_append, halvesL_length, h]; rfl
theorem lackB_le (b : UInt8) : lackB b ≤ 30 := by unfold lackB; omega
theorem lackL_le (d : List UInt8) : lackL d ≤ 30 * d.length := by
  induction d with
  | nil => simp [lackL]
  | cons b d ih =>
    have := lackB_le b
    simp only [lackL, List.map_cons, List.sum_cons, List.length_cons] at *
    omega
theorem lackL_snoc (d : List UInt8) (b : UInt8) : lackL (d ++ [b]) = lackL d + lackB b := by simp [lackL]
theorem halvesL_snoc (d : List UInt8) (b : UInt8) : halvesL (d ++ [b]) = halvesL d ++ [b.toNat / 16, b.toNat % 16] := by simp [halvesL]
theorem halvesL_le (d : List UInt8) : ∀ x ∈ halvesL d, x ≤ 15 := by
  intro x hx
  obtain ⟨b, _, hx⟩ := List.mem_flatMap.1 hx
  have := b.toNat_lt
  rcases List.mem_cons.1 hx with rfl | hx
  · omega
  · rw [List.mem_singleton] at hx
    omega
theorem digitsL_le (d : List UInt8) (h : d.length = 32) : ∀ x ∈ digitsL d, x ≤ 15 := by
  intro x hx
  have hl := lackL_le d
  rw [h] at hl
  rcases List.mem_append.1 hx with hx | hx
  · exact halvesL_le d x hx
  · rcases List.mem_cons.1 hx with rfl | hx
    · omega
    · rcases List.mem_cons.1 hx with rfl | hx
      · omega
      · rw [List.mem_singleton] at hx
        omega
theorem digitsL_getD (d : List UInt8) (h : d.length = 32) (i : Nat) : (digitsL d).getD i 0 ≤ 15 := by
  rw [List.getD_eq_getElem?_getD]
  cases e : (digitsL d)[i]? with
  | none => simp
  | some x => exact digitsL_le d h x (List.mem_of_getElem? e)

/-- What a chain begins with. -/
def chainB : List UInt8 := [99, 104, 97, 105, 110]
def beginB (seed : List UInt8) (c : Int) : List UInt8 := macB seed (infoB chainB [numB c] ++ [1])
theorem beginB_length (seed : List UInt8) (c : Int) : (beginB seed c).length = 32 := macB_length _ _
def endsL (seed tag : List UInt8) : List (List UInt8) := (List.range 67).map fun (c : Nat) => alongB tag (c : Int) 0 (beginB seed c) 15
def pubB (seed tag : List UInt8) : List UInt8 := digestB (tag ++ (endsL seed tag).flatten)
def signL (seed tag d : List UInt8) : List (List UInt8) := (List.range 67).map fun (c : Nat) => alongB tag (c : Int) 0 (beginB seed c) ((digitsL d).getD c 0)
def reachL (tag d : List UInt8) (l : List (List UInt8)) : List (List UInt8) := (List.range 67).map fun (c : Nat) => alongB tag (c : Int) (((digitsL d).getD c 0 : Nat) : Int) (l.getD c zeroKey) (15 - (digitsL d).getD c 0)
def recB (tag d : List UInt8) (l : List (List UInt8)) : List UInt8 := digestB (tag ++ (reachL tag d l).flatten)
theorem signL_get (seed tag d : List UInt8) (c : Nat) (h : c < 67) : (signL seed tag d).getD c zeroKey = alongB tag (c : Int) 0 (beginB seed c) ((digitsL d).getD c 0) := by
  rw [signL, List.getD_eq_getElem?_getD, List.getElem?_map, List.getElem?_range h]
  rfl
theorem signL_len (seed tag d : List UInt8) : ∀ l ∈ signL seed tag d, l.length = 32 := by
  intro l hl
  obtain ⟨c, _, rfl⟩ := List.mem_map.1 hl
  exact alongB_length _ _ _ _ (beginB_length _ _) _
theorem endsL_len (seed tag : List UInt8) : ∀ l ∈ endsL seed tag, l.length = 32 := by
  intro l hl
  obtain ⟨c, _, rfl⟩ := List.mem_map.1 hl
  exact alongB_length _ _ _ _ (beginB_length _ _) _
theorem reachL_len (tag d : List UInt8) (ls : List (List UInt8)) (h : ∀ l ∈ ls, l.length = 32) : ∀ l ∈ reachL tag d ls, l.length = 32 := by
  intro l hl
  obtain ⟨c, _, rfl⟩ := List.mem_map.1 hl
  refine alongB_length _ _ _ _ ?_ _
  rw [List.getD_eq_getElem?_getD]
  cases e : ls[c]? with
  | none => exact zeroKey_length
  | some x => exact h x (List.mem_of_getElem? e)
/-- WHAT IS SIGNED IS RECOVERED. -/
theorem rec_sign (seed tag d : List UInt8) (h : d.length = 32) : recB tag d (signL seed tag d) = pubB seed tag := by
  unfold recB pubB reachL endsL
  congr 3
  refine List.map_congr_left fun c hc => ?_
  have hc' := List.mem_range.1 hc
  have hd := digitsL_getD d h c
  rw [signL_get _ _ _ _ hc']
  have := alongB_add tag (c : Int) 0 (beginB seed c) ((digitsL d).getD c 0) (15 - (digitsL d).getD c 0)
  rw [Int.zero_add, show (digitsL d).getD c 0 + (15 - (digitsL d).getD c 0) = 15 by omega] at this
  exact this.symm

/-! Of two digests that are unlike each has a digit that is above the other one's. -/
theorem lack_le_of (a b : List UInt8) : a.length = b.length → (∀ i, i < 2 * a.length → (halvesL a).getD i 0 ≤ (halvesL b).getD i 0) → lackL b ≤ lackL a ∧ (lackL a = lackL b → a = b) := by
  induction a generalizing b with
  | nil => intro h _; cases b with
    | nil => simp [lackL]
    | cons y b => simp at h
  | cons x a ih =>
    intro h hle
    cases b with
    | nil => simp at h
    | cons y b =>
      simp only [List.length_cons, Nat.add_right_cancel_iff] at h
      have e : ∀ (z : UInt8) (l : List UInt8), halvesL (z :: l) = (z.toNat / 16) :: (z.toNat % 16) :: halvesL l := fun z l => rfl
      have h0 := hle 0 (by simp)
      have h1 := hle 1 (by simp; omega)
      have ih' := ih b h fun i hi => by
        have := hle (i + 2) (by simp only [List.length_cons]; omega)
        rw [e, e] at this
        simpa using this
      rw [e, e] at h0 h1
      simp only [List.getD_cons_zero, List.getD_cons_succ] at h0 h1
      have hx := x.toNat_lt
      have hy := y.toNat_lt
      have es : ∀ (z : UInt8) (l : List UInt8), lackL (z :: l) = lackB z + lackL l := fun z l => by simp [lackL]
      rw [es, es]
      unfold lackB
      refine ⟨by omega, fun he => ?_⟩
      have hxy : x.toNat = y.toNat := by omega
      rw [UInt8.toNat_inj.1 hxy, ih'.2 (by omega)]
theorem digits_below (a b : List UInt8) (ha : a.length = 32) (hb : b.length = 32) (h : ∀ i, i < 67 → (digitsL a).getD i 0 ≤ (digitsL b).getD i 0) : a = b := by
  have get : ∀ (l : List UInt8), l.length = 32 → ∀ i, i < 64 → (digitsL l).getD i 0 = (halvesL l).getD i 0 := fun l hl i hi => by
    rw [digitsL, List.getD_eq_getElem?_getD, List.getElem?_append_left (by rw [halvesL_length, hl]; omega), ← List.getD_eq_getElem?_getD]
  have top : ∀ (l : List UInt8), l.length = 32 → ∀ i, (digitsL l).getD (64 + i) 0 = [lackL l / 256, lackL l / 16 % 16, lackL l % 16].getD i 0 := fun l hl i => by
    rw [digitsL, List.getD_eq_getElem?_getD, List.getElem?_append_right (by rw [halvesL_length, hl]; omega), halvesL_length, hl, show 64 + i - 2 * 32 = i by omega, ← List.getD_eq_getElem?_getD]
  have key := lack_le_of a b (by rw [ha, hb]) fun i hi => by
    rw [← get a ha i (by omega), ← get b hb i (by omega)]
    exact h i (by omega)
  refine key.2 ?_
  have h0 := h 64 (by omega)
  have h1 := h 65 (by omega)
  have h2 := h 66 (by omega)
  have t0 : ∀ (l : List UInt8), l.length = 32 → (digitsL l).getD 64 0 = lackL l / 256 := fun l hl => top l hl 0
  have t1 : ∀ (l : List UInt8), l.length = 32 → (digitsL l).getD 65 0 = lackL l / 16 % 16 := fun l hl => top l hl 1
  have t2 : ∀ (l : List UInt8), l.length = 32 → (digitsL l).getD 66 0 = lackL l % 16 := fun l hl => top l hl 2
  rw [t0 a ha, t0 b hb] at h0
  rw [t1 a ha, t1 b hb] at h1
  rw [t2 a ha, t2 b hb] at h2
  have := key.1
  omega
/-- Is a digit among the first k above the other one's? -/
def aboveB (a b : List Nat) : Nat → Bool
  | 0 => false
  | k + 1 => aboveB a b k || decide (b.getD k 0 < a.getD k 0)
theorem aboveB_false (a b : List Nat) (k : Nat) (h : aboveB a b k = false) : ∀ i, i < k → a.getD i 0 ≤ b.getD i 0 := by
  induction k with
  | zero => intro i hi; omega
  | succ k ih =>
    simp only [aboveB, Bool.or_eq_false_iff, decide_eq_false_iff_not] at h
    intro i hi
    by_cases e : i = k
    · subst e; omega
    · exact ih h.1 i (by omega)
theorem aboveB_same (a : List Nat) (k : Nat) : aboveB a a k = false := by
  induction k with
  | zero => rfl
  | succ k ih => simp [aboveB, ih]
theorem above_iff (a b : List UInt8) (ha : a.length = 32) (hb : b.length = 32) : aboveB (digitsL a) (digitsL b) 67 = !(a == b) := by
  by_cases e : a = b
  · subst e; simp [aboveB_same]
  · rw [beq_eq_false_iff_ne.2 e]
    refine Bool.of_not_eq_false fun h => e (digits_below a b ha hb (aboveB_false _ _ _ h))
end Go.Proofs.YtpgbicbjlhkonaaGreatDoor
end
section
namespace Go.Proofs.YtpgbicbjlhkonaaGreatDoor
open Go.RowKit

theorem Tryz.sizeOfB (w : World) : (sizeOf 5).run Tryz.prog w = .ok 1 w := by kernel_rfl
theorem Tryz.eqKeyIn (a b : List UInt8) (ha : a.length = 32) (hb : b.length = 32) (w : World) :
    (Op.equalIn 10000 117 (.agg (keyC a)) (.agg (keyC b))).run Tryz.prog w = .ok (a == b) w :=
  run_equalIn_bytes w 9998 117 5 32 Tryz.underlying117 Tryz.underlying5 Tryz.sizeOfB a b ha hb
theorem Tryz.eqGuardKey : Tryz.prog.eqGuardType Tryz.prog.depth 117 = false := by kernel_rfl
theorem zeroLit : (#[.int .u8 0, .int .u8 0, .int .u8 0, .int .u8 0, .int .u8 0, .int .u8 0, .int .u8 0, .int .u8 0, .int .u8 0, .int .u8 0, .int .u8 0, .int .u8 0, .int .u8 0, .int .u8 0, .int .u8 0, .int .u8 0, .int .u8 0, .int .u8 0, .int .u8 0, .int .u8 0, .int .u8 0, .int .u8 0, .int .u8 0, .int .u8 0, .int .u8 0, .int .u8 0, .int .u8 0, .int .u8 0, .int .u8 0, .int .u8 0, .int .u8 0, .int .u8 0] : Array Value) = keyC zeroKey := rfl
theorem Tryz.eqZeroIn (w : World) : (Op.equalIn 10000 117 (.agg (keyC zeroKey)) (.agg #[.int .u8 0, .int .u8 0, .int .u8 0, .int .u8 0, .int .u8 0, .int .u8 0, .int .u8 0, .int .u8 0, .int .u8 0, .int .u8 0, .int .u8 0, .int .u8 0, .int .u8 0, .int .u8 0, .int .u8 0, .int .u8 0, .int .u8 0, .int .u8 0, .int .u8 0, .int .u8 0, .int .u8 0, .int .u8 0, .int .u8 0, .int .u8 0, .int .u8 0, .int .u8 0, .int .u8 0, .int .u8 0, .int .u8 0, .int .u8 0, .int .u8 0, .int .u8 0])).run Tryz.prog w = .ok true w := by
  rw [zeroLit, Tryz.eqKeyIn zeroKey zeroKey zeroKey_length zeroKey_length w, beq_self_eq_true]
end Go.Proofs.YtpgbicbjlhkonaaGreatDoor
end
section
namespace Go.Proofs.YtpgbicbjlhkonaaGreatDoor
open Go.RowKit
set_option linter.unusedVariables false

theorem flat_length (ls : List (List UInt8)) (h : ∀ l ∈ ls, l.length = 32) : ls.flatten.length = ls.length * 32 := by
  induction ls with
  | nil => rfl
  | cons l ls ih =>
    rw [List.flatten_cons, List.length_append, h l List.mem_cons_self, ih fun m hm => h m (List.mem_cons_of_mem _ hm), List.length_cons, Nat.add_mul]
    omega
theorem flat_part (ls : List (List UInt8)) (h : ∀ l ∈ ls, l.length = 32) : ∀ (k : Nat) (l : List UInt8), ls[k]? = some l → (ls.flatten.drop (k * 32)).take 32 = l := by
  induction ls with
  | nil => intro k l hk; cases hk
  | cons m ls ih =>
    intro k l hk
    have hm := h m List.mem_cons_self
    cases k with
    | zero =>
      obtain rfl : m = l := by simpa using hk
      rw [List.flatten_cons, Nat.zero_mul, List.drop_zero, List.take_left' hm]
    | succ k =>
      rw [List.flatten_cons, List.drop_append, List.drop_of_length_le (by omega), List.nil_append, show (k + 1) * 32 - m.length = k * 32 by omega]
      exact ih (fun x hx => h x (List.mem_cons_of_mem _ hx)) k l (by simpa using hk)
theorem keys_part (ls : List (List UInt8)) (h : ∀ l ∈ ls, l.length = 32) (k : Nat) (l : List UInt8) (hk : ls[k]? = some l) : ((keyC ls.flatten).toList.drop (k * 32)).take (cellsB l).length = cellsB l := by
  have hl : l.length = 32 := h l (List.mem_of_getElem? hk)
  have e : (keyC ls.flatten).toList = cellsB ls.flatten := by simp [keyC]
  rw [e, cellsB_length, hl]
  unfold cellsB
  rw [← List.map_drop, ← List.map_take, flat_part ls h k l hk]
theorem keys_flat : ∀ ls : List (List UInt8), ((ls.map fun l => Value.agg (keyC l)).flatMap fun v => v.cells.toList).toArray = keyC ls.flatten := by
  intro ls
  have key : ((ls.map fun l => Value.agg (keyC l)).flatMap fun v => v.cells.toList) = cellsB ls.flatten := by
    induction ls with
    | nil => rfl
    | cons l ls ih =>
      rw [List.map_cons, List.flatMap_cons, ih, List.flatten_cons]
      simp [Value.cells, keyC, cellsB]
  rw [key]
  rfl

section
variable {P : Program} {w0 w : World} {rs : List (Nat × TypeId × Array Value)} {ops : Array Oper} {rest : List Oper} {o : Oper} {a : Act} {Q : Exit → Act → World → Prop}
/-- A slice of keys is built. -/
theorem wpE_buildKeys (hgd : o.guard = none) (ty e : TypeId) (len : Nat) (parts : Array (Nat × Operand)) (ho : o.op = .buildSlice ty len parts) (ls : List (List UInt8)) (hl : ∀ l ∈ ls, l.length = 32) (hlen : ls.length = len) (hpos : 0 < len) (hsm : len * 32 ≤ 2 ^ 24)
    (hp : (parts.map fun (i, x) => (i, a.eval x)).toList = ((ls.map fun l => Value.agg (keyC l)).zipIdx 0).map fun x => (x.2, x.1))
    (hu : P.underlying ty = some (.slice e)) (hsz : (P.info? e).map (·.size) = some 32) (z : Array Value) (hz : (P.info? e).map (·.zero) = some (some (.agg z)))
    (hE : Env w0 rs w) (h : ∀ g w', Env w0 ((g, e, keyC ls.flatten) :: rs) w' → wpList P ops Q rest (a.put o.dst (.slice (some ⟨g, 0, none⟩) len len)) w') : wpList P ops Q (o :: rest) a w := by
  obtain ⟨ie, hie, hs⟩ := Option.map_eq_some_iff.1 hsz
  obtain ⟨ie2, hie2, hz2⟩ := Option.map_eq_some_iff.1 hz
  obtain rfl : ie = ie2 := by rw [hie] at hie2; exact Option.some.inj hie2
  refine wpList_buildSlice hgd ty e len parts ho (keyC ls.flatten) ie (.agg z) hu hie hz2 (by rw [hs]; omega) (by rw [hs]; omega) ?_ (h _ _ (hE.new (NewRow.mk_ w e _)))
  rw [hp, hs, ← keys_flat ls]
  refine Great.fill_whole (by omega) _ _ (fun v hv => ?_) (by simp [hlen])
  obtain ⟨l, hm, rfl⟩ := List.mem_map.1 hv
  simp [Value.cells, keyC_size, hl l hm]
/-- The address of a slice's key. -/
theorem run_keyAddr (ty e : TypeId) (x y : Operand) (ho : o.op = .indexAddr ty x y) (g n c k : Nat) (hx : a.eval x = .slice (some ⟨g, 0, none⟩) n c) (hy : a.eval y = .int .i64 (k : Int)) (hk : k < n)
    (hu : P.underlying ty = some (.slice e)) (hs : (P.info? e).map (·.size) = some 32) : (execOp a.eval o).run P w = .ok (.value (.pointer (some ⟨g, k * 32, none⟩))) w := by
  obtain ⟨f, hf, hz⟩ := Option.map_eq_some_iff.1 hs
  unfold execOp
  simp only [ho, hx, hy]
  simp [Instr.indexAt, asIntOf, run_underlying hu, sizeOf, typeInfo, hf, hz, hk, Addr.add, go_sem]
  exact fun h0 => h0.symm
/-- A slice's key is read. -/
theorem run_keyOf (ty : TypeId) (x : Operand) (ho : o.op = .load ty x) (g k : Nat) (hx : a.eval x = .pointer (some ⟨g, k * 32, none⟩)) (t : TypeId) (ls : List (List UInt8)) (h : ∀ l ∈ ls, l.length = 32) (l : List UInt8) (hk : ls[k]? = some l) (d : TypeDesc) (hr : RowAt w g t (keyC ls.flatten))
    (hu : P.underlying ty = some d) (hd : d.isRow = true) (hs : (P.info? ty).map (·.size) = some (cellsB l).length) : (execOp a.eval o).run P w = .ok (.value (.agg (keyC l))) w := by
  have hc : w.rangeAt g (k * 32) (cellsB l) := by
    have h1 := rangeAt_row (k := k * 32) (n := (cellsB l).length) hr
    rwa [keys_part ls h k l hk] at h1
  unfold execOp
  simp only [ho, hx, Instr.loadAt, Instr.sureAddr, Sem.run_bind, Sem.run_pure, Result.andThen_ok, run_loadVar_mid w g (k * 32) ty (cellsB l) d hc hu hd hs]
  rfl
end
theorem Env.off {w0 w : World} {r : Nat × TypeId × Array Value} {rs : List (Nat × TypeId × Array Value)} (h : Env w0 (r :: rs) w) : Env w0 rs w := h.less (List.sublist_cons_self _ _)
theorem Tryz.keyCells (l : List UInt8) (h : l.length = 32) : (Tryz.prog.info? 117).map (·.size) = some (cellsB l).length := by
  have := Tryz.sizeKey l h
  rwa [show (keyC l).size = (cellsB l).length by simp [keyC]] at this
theorem Tryz.key32 : (Tryz.prog.info? 117).map (·.size) = some 32 := by
  have := Tryz.keyCells zeroKey zeroKey_length
  rwa [cellsB_length, zeroKey_length] at this
end Go.Proofs.YtpgbicbjlhkonaaGreatDoor
end
section
namespace Go.Proofs.YtpgbicbjlhkonaaGreatDoor
set_option linter.unusedVariables false

/-- T1, T2 and so on; T0 is empty. -/
def tB (key info : List UInt8) : Nat → List UInt8
  | 0 => []
  | k + 1 => macB key (tB key info k ++ info ++ [UInt8.ofNat (k + 1)])
def outT (key info : List UInt8) : Nat → List UInt8
  | 0 => []
  | k + 1 => outT key info k ++ tB key info (k + 1)
theorem tB_length (key info : List UInt8) (k : Nat) : (tB key info (k + 1)).length = 32 := macB_length _ _
theorem tB_le (key info : List UInt8) (k : Nat) : (tB key info k).length ≤ 32 := by
  cases k with
  | zero => simp [tB]
  | succ k => rw [tB_length]; omega
theorem outT_length (key info : List UInt8) (k : Nat) : (outT key info k).length = 32 * k := by
  induction k with
  | zero => rfl
  | succ k ih => rw [outT, List.length_append, ih, tB_length]; omega

end Go.Proofs.YtpgbicbjlhkonaaGreatDoor
end
section
namespace Go.Proofs.YtpgbicbjlhkonaaGreatDoor
open Go.RowKit
set_option linter.unusedVariables false

/-- The iterator's contract: J stands behind each round; it may say nothing that R turns. -/
def SeqR {α : Type} (F : Fence) (n : Nat) (P : Program) (g : Nat) (lb : Array Value) (encs : α → Array Value) (R Kp : World → World → Prop) (S Sp : List α → Prop) (N : Nat) (w : World) : Prop :=
  ∀ (l : Nat) (J Jx : List α → World → Prop) (W : World), Below w.heap.size w W → AbidesFrom W.heap.size J → AbidesFrom W.heap.size Jx →
    (∀ s A B, J s A → R A B → J s B) → (∀ s A B, Jx s A → R A B → Jx s B) →
    (∀ pre x W1, J pre W1 → pre.length < N → YieldAt F (n - 1) P l (encs x) W1 fun e W' =>
      (e = .returned (.bool true) ∧ J (pre ++ [x]) W' ∧ Kp W1 W') ∨ (e = .returned (.bool false) ∧ Jx (pre ++ [x]) W')) →
    J [] W →
    CallsIn F n P g (#[.func (.yield l) #[] #[]] ++ lb) W fun e W' => (∃ v, e = .returned v) ∧ ((∃ xs, S xs ∧ J xs W') ∨ (∃ pre, Sp pre ∧ Jx pre W'))

variable {F : Fence} {n : Nat} {P : Program}

theorem wpIn_rangeFunc_R {α : Type} {g : Operand} {ps : Array Tmp} {assign body : Code} {Q : Exit → Act → World → Prop} {a : Act} {w : World}
    (hro : F.round = none) (h1 : 1 ≤ n) {gf : Nat} {lb : Array Value} (hg : a.eval g = .func (.func gf) #[] lb) (hFg : F.fn gf) (eg : ∀ args w, (callFunc gf args).run P w = .ok (.enter gf args) w)
    {encs : α → Array Value} {R Kp : World → World → Prop} {S Sp : List α → Prop} {N : Nat} {w0 : World} (hseq : SeqR F (n - 1) P gf lb encs R Kp S Sp N w0)
    (hRk : ∀ A B, R A B → ∀ k o, w.heap.size ≤ k → A.heap[k]? = some o → o.isCells = false → B.heap[k]? = some o)
    (hKt : ∀ {A B C : World}, Kp A B → Kp B C → Kp A C) (hKb : ∀ (W : World) (l : Nat) (o o' : Obj), w.heap.size ≤ l → W.heap[l]? = some o → o.isCells = false → o.isWalk = false → Kp W (W.putObj l o')) (hb0 : Below w0.heap.size w0 w) (hps : ∀ x, (encs x).size = ps.size)
    (I : List α → World → Prop) (Ix : Code → List α → World → Prop) (hI : OwnFrom w.heap.size I) (hIx : ∀ c, OwnFrom w.heap.size (Ix c)) (hIR : ∀ s A B, I s A → R A B → I s B) (hIxR : ∀ c s A B, Ix c s A → R A B → Ix c s B) (h0 : I [] w)
    (Ax : α → Act → World → Prop) (hAx : ∀ x a', OwnFrom w.heap.size (fun (_ : Unit) W => Ax x a' W))
    (hassign : ∀ (l : Nat) (pre : List α) (x : α) (W : World) (K : Act → World → Prop), I pre W → (∀ a' W', KeepsFrom w.heap.size W W' → Kp W W' → I pre W' → Ax x a' W' → K a' W') →
      assign.wpIn (F.inRound l) (n - 1 - 1) P (Exit.then K (fun _ _ _ => False)) { tmps := (ps.zip (encs x)).foldl (fun t (p, v) => t.setIfInBounds p v) a.tmps, defers := [] } W)
    (hbody : ∀ (l : Nat) (pre : List α) (x : α) (a' : Act) (W : World), w.heap.size ≤ l → (∃ r, W.heap[l]? = some (.loop r)) → I pre W → Ax x a' W → pre.length < N → body.wpIn (F.inRound l) (n - 1 - 1) P (ownPostG w.heap.size Kp I Ix (pre ++ [x]) W) a' W)
    (hdone : ∀ (D : Nat) (xs : List α) (W : World), w.heap.size ≤ D → S xs → I xs W → W.heap[D]? = some (.deferred (some [])) → Q .normal { a with defers := { target := .collected D, args := #[] } :: a.defers } W)
    (hstop : ∀ (D : Nat) (c : Code) (pre : List α) (W : World), w.heap.size ≤ D → Sp pre → Ix c pre W → W.heap[D]? = some (.deferred (some [])) → c.wpIn F n P Q { a with defers := { target := .collected D, args := #[] } :: a.defers } W) :
    (Code.rangeFunc g ps assign body).wpIn F n P Q a w := by
  refine wpIn_rangeFunc fun fn hfn => ?_
  rw [hro]
  obtain ⟨B, hB⟩ : ∃ B, B = w.heap.size := ⟨_, rfl⟩
  obtain ⟨rec, hrec⟩ : ∃ rec : LoopState → Option Code → Loop, rec = fun st pe => { state := st, pending := pe, fn, tmps := a.tmps, params := ps, assign, body, defers := B } := ⟨_, rfl⟩
  obtain ⟨W1, hW1⟩ : ∃ W1, W1 = (w.alloc (.deferred (some []))).alloc (.loop (rec .ready none)) := ⟨_, rfl⟩
  have hD0 : W1.heap[B]? = some (.deferred (some [])) := by
    rw [hW1, hB]; exact (Below.heap_alloc _ _ _ (by simp)).trans (World.alloc_heap_new w _)
  have hL0 : W1.heap[B + 1]? = some (.loop (rec .ready none)) := by
    have := World.alloc_heap_new (w.alloc (.deferred (some []))) (.loop (rec .ready none)); rwa [World.size_alloc, ← hB, ← hW1] at this
  have hb1 : Below w.heap.size w W1 := by rw [hW1]; exact ((Below.refl _ w).alloc (Nat.le_refl _) _).alloc (by simp) _
  have hI0 : I [] W1 := by rw [hW1]; exact hI.alloc _ (hI.alloc _ h0)
  refine ⟨B + 1, [{ target := .collected B, args := #[] }], W1, { target := .fn (.func gf) lb, args := #[.func (.yield (B + 1)) #[] #[]] }, W1, gf, #[.func (.yield (B + 1)) #[] #[]] ++ lb, W1,
    by rw [hW1, hrec, hB]; exact run_enterLoop_outer _ _ _ _ _, by simp only [resolve, hg]; simp [go_sem], by intro f' hf'; simp [Target.leads] at hf'; subst hf'; exact hFg, by simp [invoke, go_sem, eg], fun _ => h1, ?_⟩
  have hWB : B + 2 ≤ W1.heap.size := by rw [hW1]; simp only [World.size_alloc]; omega
  clear hW1
  have hBle : w0.heap.size ≤ B := by rw [hB]; exact hb0.size
  have hsz : w.heap.size = B := hB.symm
  rw [hsz] at hI hRk hb1
  simp only [hsz] at hIx hKb hassign hbody hdone hstop hAx
  -- what the loop keeps of its own: its record in a state, and what it has deferred
  obtain ⟨At, hAt⟩ : ∃ At : LoopState → Option Code → World → Prop, At = fun st pe W => W.heap[B + 1]? = some (.loop (rec st pe)) ∧ W.heap[B]? = some (.deferred (some [])) := ⟨_, rfl⟩
  have keep : ∀ {st pe X Y} {row : Option Nat}, At st pe X → X.grownBy Y row → (∀ r, row = some r → W1.heap.size ≤ r ∧ ∃ o : Obj, X.heap[r]? = some o ∧ o.isWalk = true) → At st pe Y := by
    intro st pe X Y row hs hgr hr
    rw [hAt] at hs ⊢
    have far : ∀ k, k ≤ B + 1 → k < X.heap.size → Y.heap[k]? = X.heap[k]? := fun k hk hx => hgr.block k hx fun e => by have := (hr k e.symm).1; omega
    exact ⟨(far _ (Nat.le_refl _) (Array.getElem?_eq_some_iff.1 hs.1).1).trans hs.1, (far _ (Nat.le_succ _) (Array.getElem?_eq_some_iff.1 hs.2).1).trans hs.2⟩
  have keepR : ∀ {st pe X Y}, At st pe X → R X Y → At st pe Y := by
    intro st pe X Y hs hr
    rw [hAt] at hs ⊢
    exact ⟨hRk X Y hr _ _ (Nat.le_succ _) hs.1 rfl, hRk X Y hr _ _ (Nat.le_refl _) hs.2 rfl⟩
  have put : ∀ {st pe X} (st' : LoopState) (pe' : Option Code), At st pe X → At st' pe' (X.putObj (B + 1) (.loop (rec st' pe'))) := by
    intro st pe X st' pe' hs
    rw [hAt] at hs ⊢
    exact ⟨World.putObj_heap_same (Array.getElem?_eq_some_iff.1 hs.1).1, (World.putObj_heap_other (by omega)).trans hs.2⟩
  have keepF : ∀ {st pe X Y}, At st pe X → KeepsFrom B X Y → At st pe Y := by
    intro st pe X Y hs hk
    rw [hAt] at hs ⊢
    exact ⟨hk.same _ _ (Nat.le_succ _) hs.1 rfl, hk.same _ _ (Nat.le_refl _) hs.2 rfl⟩
  have loopOf : ∀ {st pe X}, At st pe X → X.heap[B + 1]? = some (.loop (rec st pe)) := fun hs => by rw [hAt] at hs; exact hs.1
  have defOf : ∀ {st pe X}, At st pe X → X.heap[B]? = some (.deferred (some [])) := fun hs => by rw [hAt] at hs; exact hs.2
  have at0 : At .ready none W1 := by rw [hAt]; exact ⟨hL0, hD0⟩
  have cells : ∀ {X Y : World} {row : Option Nat}, (∀ r, row = some r → W1.heap.size ≤ r ∧ ∃ o : Obj, X.heap[r]? = some o ∧ o.isWalk = true) → (∀ r, row = some r → B ≤ r ∧ ∃ o : Obj, X.heap[r]? = some o ∧ o.isCells = false) :=
    fun hr r e => by obtain ⟨hb, o, ho, hw⟩ := hr r e; exact ⟨by omega, o, ho, Obj.not_cells_of_walk hw⟩
  have hb01 : Below w0.heap.size w0 W1 := hb0.trans (hb1.mono hBle)
  clear hAt hL0 hD0
  refine (hseq (B + 1) (fun pre W => I pre W ∧ At .ready none W) (fun pre W => ∃ c, Ix c pre W ∧ At .done (some c) W) W1 hb01
    (fun s X Y row hs hgr hr => ⟨hI s X Y row hs.1 hgr (cells (Y := Y) hr), keep hs.2 hgr hr⟩)
    (fun s X Y row ⟨c, hs⟩ hgr hr => ⟨c, hIx c s X Y row hs.1 hgr (cells (Y := Y) hr), keep hs.2 hgr hr⟩)
    (fun s X Y hs hr => ⟨hIR s X Y hs.1 hr, keepR hs.2 hr⟩) (fun s X Y ⟨c, hs⟩ hr => ⟨c, hIxR c s X Y hs.1 hr, keepR hs.2 hr⟩) ?_ ⟨hI0, at0⟩).mono ?_
  · rintro pre x X ⟨hi, hat⟩ hlen
    have hy := run_yield (P := P) (args := encs x) (loopOf hat) (by rw [hrec]; exact hps x)
    rw [hrec] at hy
    refine ⟨fn, _, assign, body, hy, roundIn_of_wpIn hfn (hassign _ pre x X _ hi fun a' X2 hkf hkp hi2 hax => ?_)⟩
    have hat2 := keepF hat hkf
    refine ⟨_, run_beginRound (loopOf hat2) (by rw [hrec]), ?_⟩
    have hat3 := put .busy none hat2
    have hkb := hKb X2 (B + 1) _ (.loop (rec .busy none)) (Nat.le_succ _) (loopOf hat2) rfl rfl
    have hi3 := hI.putObj (.loop (rec .busy none)) hi2 (Nat.le_succ _) (loopOf hat2) rfl
    have hax3 := (hAx x a').putObj (s := ()) (.loop (rec .busy none)) hax (Nat.le_succ _) (loopOf hat2) rfl
    have hB3 := hbody (B + 1) pre x a' (X2.putObj (B + 1) (.loop (rec .busy none))) (Nat.le_succ _) ⟨_, loopOf hat3⟩ hi3 hax3 hlen
    have ends : ∀ (jump : Option Code) (Y : World), At .busy none Y → (Instr.endRound (B + 1) jump).run P Y = .ok (.bool jump.isNone) (Y.putObj (B + 1) (.loop (rec (if jump.isNone then .ready else .done) jump))) := fun jump Y hY => by
      have := run_endRound (P := P) jump (loopOf hY)
      rw [hrec] at this ⊢
      exact this
    rw [show ({ rec LoopState.ready none with state := LoopState.busy } : Loop) = rec .busy none by rw [hrec]]
    refine wpIn_mono hB3 ?_
    rintro e a3 Y hp
    have left : ∀ c : Code, KeepsFrom B (X2.putObj (B + 1) (.loop (rec .busy none))) Y → Ix c (pre ++ [x]) Y →
        ∃ W', (Instr.endRound (B + 1) (some c)).run P Y = .ok (.bool false) W' ∧ ∃ c', Ix c' (pre ++ [x]) W' ∧ At .done (some c') W' := fun c hk hx => by
      have hY := keepF hat3 hk
      exact ⟨_, ends (some c) Y hY, c, (hIx c).putObj _ hx (Nat.le_succ _) (loopOf hY) rfl, put .done (some c) hY⟩
    cases e with
    | normal =>
      obtain ⟨hk3, hkp3, hi4⟩ := hp
      have hY := keepF hat3 hk3
      exact ⟨_, _, ends none Y hY, .inl ⟨rfl, ⟨hI.putObj _ hi4 (Nat.le_succ _) (loopOf hY) rfl, put .ready none hY⟩, hKt hkp (hKt (hKt hkb hkp3) (hKb Y (B + 1) _ _ (Nat.le_succ _) (loopOf hY) rfl rfl))⟩⟩
    | ret =>
      obtain ⟨_, h1, h3⟩ := left .ret hp.1 hp.2
      exact ⟨_, _, h1, .inr ⟨rfl, h3⟩⟩
    | exit id =>
      obtain ⟨_, h1, h3⟩ := left (.exit id) hp.1 hp.2
      exact ⟨_, _, h1, .inr ⟨rfl, h3⟩⟩
    | goto t =>
      obtain ⟨_, h1, h3⟩ := left (.goto t) hp.1 hp.2
      exact ⟨_, _, h1, .inr ⟨rfl, h3⟩⟩
    | panic ch => exact hp.elim
    | outgrown => exact hp.elim
  · rintro e W2 ⟨⟨v, rfl⟩, (⟨xs, hS, hi, hat⟩ | ⟨pre, hSp, c, hi, hat⟩)⟩
    · exact ⟨none, _, by have := run_endLoop (P := P) (loopOf hat) (by rw [hrec]; simp); rw [hrec] at this; exact this, hdone _ xs _ (Nat.le_refl _) hS (hI.putObj _ hi (Nat.le_succ _) (loopOf hat) rfl) ((World.putObj_heap_other (by omega)).trans (defOf hat))⟩
    · exact ⟨some c, _, by have := run_endLoop (P := P) (loopOf hat) (by rw [hrec]; simp); rw [hrec] at this; exact this, hstop _ c pre _ (Nat.le_refl _) hSp ((hIx c).putObj _ hi (Nat.le_succ _) (loopOf hat) rfl) ((World.putObj_heap_other (by omega)).trans (defOf hat))⟩
end Go.Proofs.YtpgbicbjlhkonaaGreatDoor
end
section
namespace Go.Proofs.YtpgbicbjlhkonaaGreatDoor
open Go.RowKit Go.Shelf
attribute [local go_sem] Oper.semAt_some
set_option linter.unusedVariables false
set_option maxRecDepth 20000

/-- What may come of a Meter at g that keeps nothing: it has counted, but no more than M. -/
def MeterStep (g M : Nat) (A B : World) : Prop :=
  A.grownBy B (some g) ∧ (∃ n, RowAt A g 82 (meterC false n (.slice none 0 0))) ∧ ∃ n, n ≤ M ∧ RowAt B g 82 (meterC false n (.slice none 0 0))
theorem MeterStep.keeps {g M : Nat} {A B : World} (h : MeterStep g M A B) (k : Nat) (o : Obj) (hk : A.heap[k]? = some o) (ho : o.isCells = false) : B.heap[k]? = some o := by
  obtain ⟨hg, ⟨n, hn⟩, _⟩ := h
  refine (hg.block k (Array.getElem?_eq_some_iff.1 hk).1 fun e => ?_).trans hk
  injection e with e
  subst e
  rw [show A.heap[k]? = _ from hn] at hk
  cases hk
  simp [Obj.isCells] at ho

/-- A row of cells, but none of bytes. -/
def rowKept : Obj → Bool
  | .cells _ t _ => t != 5
  | _ => false
/-- What a round's body must keep: all that lay when the caller began, and each row but those that X names. -/
def BodyKeeps (x : World) (X : Nat → Prop) (W W' : World) : Prop := Below x.heap.size W W' ∧ ∀ k o, W.heap[k]? = some o → rowKept o = true → ¬ X k → W'.heap[k]? = some o
theorem bodyKeeps_t {x : World} {X : Nat → Prop} {A B C : World} (h : BodyKeeps x X A B) (k : BodyKeeps x X B C) : BodyKeeps x X A C :=
  ⟨h.1.trans k.1, fun i o h1 h2 h3 => k.2 i o (h.2 i o h1 h2 h3) h2 h3⟩
theorem bodyKeeps_b {x w : World} {X : Nat → Prop} (hx : x.heap.size ≤ w.heap.size) (W : World) (l : Nat) (o o' : Obj) (hl : w.heap.size ≤ l) (h : W.heap[l]? = some o) (h2 : o.isCells = false) (h3 : o.isWalk = false) : BodyKeeps x X W (W.putObj l o') := by
  refine ⟨belowK_b hx W l o o' hl h h2 h3, fun k o2 hk hc _ => ?_⟩
  refine (World.putObj_heap_other fun e => ?_).trans hk
  subst e
  rw [h] at hk
  cases hk
  cases o <;> simp [rowKept, Obj.isCells] at hc h2
theorem BodyKeeps.of_below {x W W' : World} {X : Nat → Prop} (hx : x.heap.size ≤ W.heap.size) (h : Below W.heap.size W W') : BodyKeeps x X W W' :=
  ⟨h.mono hx, fun k o hk _ _ => (h.block k (Array.getElem?_eq_some_iff.1 hk).1).trans hk⟩

theorem Run.beneath {w0 w x y : World} {g n : Nat} (h : Run w0 w g n x) (hb : Below w.heap.size x y) : Run w0 w g n y :=
  ⟨h.below.trans (hb.mono h.old), h.row.below hb h.glt, h.tabs0, h.far, h.old, h.row0, ⟨hb.os.trans h.grown.os, hb.tape.trans h.grown.tape, hb.output.trans h.grown.output, Nat.le_trans h.grown.size hb.size, fun k hk h1 => (hb.block k hk).trans (h.grown.block k hk h1)⟩⟩
theorem Run.step {w0 w x y : World} {g n M : Nat} (h : Run w0 w g n x) (hs : MeterStep g M x y) : ∃ n', n' ≤ M ∧ Run w0 w g n' y := by
  obtain ⟨hg, _, n', hn, hr⟩ := hs
  exact ⟨n', hn, h.below.grown hg h.below.size (fun k e => by injection e with e; subst e; exact h.far), hr, h.tabs0, h.far, h.old, h.row0, grown_trans h.grown hg⟩
theorem Run.meterStep {w0 w x : World} {g n M : Nat} (h : Run w0 w g n x) (hn : n ≤ M) : MeterStep g M w x := ⟨h.grown, h.row0, n, hn, h.row⟩

/-- What the function has captured: how many, a Meter, a key, an info. -/
structure XEnv (w0 x W : World) (g m gn gm gk gi : Nat) (vi : Value) (key : List UInt8) (N : Nat) : Prop where
  run : ∃ n, n ≤ m ∧ Run w0 x g n W
  count : Boxed W gn 3 (.int .i64 (N : Int))
  meter : Boxed W gm 31 (.pointer (some ⟨g, 0, none⟩))
  key : RowAt W gk 117 (keyC key)
  info : Boxed W gi 38 vi
section
variable {w0 x W W' : World} {g m gn gm gk gi : Nat} {vi : Value} {key : List UInt8} {N : Nat}
theorem XEnv.apart (h : XEnv w0 x W g m gn gm gk gi vi key N) : gn ≠ g ∧ gm ≠ g ∧ gk ≠ g ∧ gi ≠ g := by
  obtain ⟨n, _, hr⟩ := h.run
  have row : W.heap[g]? = some (.cells (meterC false n (.slice none 0 0)) 82 (0, 0)) := hr.row
  refine ⟨fun e => ?_, fun e => ?_, fun e => ?_, fun e => ?_⟩
  · have c : W.heap[gn]? = _ := h.count
    rw [e, row] at c
    injection c with c; injection c with _ c _; exact absurd c (by decide)
  · have c : W.heap[gm]? = _ := h.meter
    rw [e, row] at c
    injection c with c; injection c with _ c _; exact absurd c (by decide)
  · have c : W.heap[gk]? = _ := h.key
    rw [e, row] at c
    injection c with c; injection c with _ c _; exact absurd c (by decide)
  · have c : W.heap[gi]? = _ := h.info
    rw [e, row] at c
    injection c with c; injection c with _ c _; exact absurd c (by decide)
theorem XEnv.below (h : XEnv w0 x W g m gn gm gk gi vi key N) (hb : Below W.heap.size W W') : XEnv w0 x W' g m gn gm gk gi vi key N := by
  obtain ⟨n, hn, hr⟩ := h.run
  exact ⟨⟨n, hn, hr.kept hb⟩, (hb.block _ h.count.lt).trans h.count, (hb.block _ h.meter.lt).trans h.meter, h.key.kept hb, (hb.block _ h.info.lt).trans h.info⟩
theorem XEnv.ran (h : XEnv w0 x W g m gn gm gk gi vi key N) {n m' : Nat} (hr : Run w0 W g n W') (hn : n ≤ m') : XEnv w0 x W' g m' gn gm gk gi vi key N := by
  obtain ⟨h1, h2, h3, h4⟩ := h.apart
  obtain ⟨n0, _, hr0⟩ := h.run
  exact ⟨⟨n, hn, hr0.trans hr⟩, h.count.kept hr.grown (by intro e; injection e with e; exact h1 e), h.meter.kept hr.grown (by intro e; injection e with e; exact h2 e), hr.other h.key h3, h.info.kept hr.grown (by intro e; injection e with e; exact h4 e)⟩
theorem XEnv.body (h : XEnv w0 x W g m gn gm gk gi vi key N) {X : Nat → Prop} (hX : ¬ X gn ∧ ¬ X gm ∧ ¬ X gk ∧ ¬ X gi) (hb : BodyKeeps x X W W') : XEnv w0 x W' g m gn gm gk gi vi key N := by
  obtain ⟨h1, h2, h3, h4⟩ := hX
  obtain ⟨n0, hn, hr0⟩ := h.run
  exact ⟨⟨n0, hn, hr0.beneath hb.1⟩, hb.2 _ _ h.count rfl h1, hb.2 _ _ h.meter rfl h2, hb.2 _ _ h.key rfl h3, hb.2 _ _ h.info rfl h4⟩
theorem XEnv.own (h : XEnv w0 x W g m gn gm gk gi vi key N) {row : Option Nat} (hg : W.grownBy W' row) (hr : ∀ r, row = some r → ∃ o : Obj, W.heap[r]? = some o ∧ o.isCells = false) (hx : ∀ r, row = some r → x.heap.size ≤ r) : XEnv w0 x W' g m gn gm gk gi vi key N := by
  obtain ⟨n0, hn, hr0⟩ := h.run
  have keep : ∀ (k : Nat) (o : Obj), W.heap[k]? = some o → o.isCells = true → W'.heap[k]? = some o := fun k o hk hc => by
    refine (hg.block k (Array.getElem?_eq_some_iff.1 hk).1 fun e => ?_).trans hk
    obtain ⟨o2, h1, h2⟩ := hr k e.symm
    rw [hk] at h1
    cases h1
    rw [hc] at h2
    cases h2
  exact ⟨⟨n0, hn, hr0.beneath ((Below.refl _ W).grown hg hr0.size hx)⟩, keep _ _ h.count rfl, keep _ _ h.meter rfl, keep _ _ h.key rfl, keep _ _ h.info rfl⟩
end

theorem XEnv.stepped {w0 x A B : World} {g m gn gm gk gi M : Nat} {vi : Value} {key : List UInt8} {N : Nat} (h : XEnv w0 x A g m gn gm gk gi vi key N) (hs : MeterStep g M A B) : XEnv w0 x B g M gn gm gk gi vi key N := by
  obtain ⟨h1, h2, h3, h4⟩ := h.apart
  obtain ⟨n0, _, hr0⟩ := h.run
  exact ⟨hr0.step hs, h.count.kept hs.1 (by intro e; injection e with e; exact h1 e), h.meter.kept hs.1 (by intro e; injection e with e; exact h2 e), h.key.grown hs.1 (by intro e; injection e with e; exact h3 e), h.info.kept hs.1 (by intro e; injection e with e; exact h4 e)⟩
theorem XEnv.lt {w0 x W : World} {g m gn gm gk gi : Nat} {vi : Value} {key : List UInt8} {N : Nat} (h : XEnv w0 x W g m gn gm gk gi vi key N) : gn < W.heap.size ∧ gm < W.heap.size ∧ gk < W.heap.size ∧ gi < W.heap.size := ⟨h.count.lt, h.meter.lt, h.key.lt, h.info.lt⟩
theorem XEnv.more {w0 x W : World} {g m m' gn gm gk gi : Nat} {vi : Value} {key : List UInt8} {N : Nat} (h : XEnv w0 x W g m gn gm gk gi vi key N) (hm : m ≤ m') : XEnv w0 x W g m' gn gm gk gi vi key N := by
  obtain ⟨n, hn, hr⟩ := h.run
  exact ⟨⟨n, Nat.le_trans hn hm, hr⟩, h.count, h.meter, h.key, h.info⟩

/-- What was told last, as the next round reads it. -/
def LastOk (base : Nat) (W : World) (v : Value) (key info : List UInt8) (k : Nat) : Prop :=
  (k = 0 ∧ v = .slice none 0 0) ∨ (0 < k ∧ ∃ b, v = .slice (some ⟨b, 0, none⟩) 32 32 ∧ base ≤ b ∧ RowAt W b 117 (keyC (tB key info k)))
theorem LastOk.bs {base : Nat} {W : World} {v : Value} {key info : List UInt8} {k : Nat} (h : LastOk base W v key info k) : Bs W v (tB key info k) := by
  rcases h with ⟨rfl, rfl⟩ | ⟨hk, b, rfl, _, hr⟩
  · exact Bs.nil W
  · obtain ⟨j, rfl⟩ : ∃ j, k = j + 1 := ⟨k - 1, by omega⟩
    exact row32 hr (tB_length _ _ _)
theorem LastOk.keep {base : Nat} {W W' : World} {v : Value} {key info : List UInt8} {k : Nat} (h : LastOk base W v key info k) (hk : ∀ b cs, RowAt W b 117 cs → base ≤ b → RowAt W' b 117 cs) : LastOk base W' v key info k := by
  rcases h with ⟨rfl, rfl⟩ | ⟨h0, b, rfl, hb, hr⟩
  · exact .inl ⟨rfl, rfl⟩
  · exact .inr ⟨h0, b, rfl, hb, hk b _ hr hb⟩
theorem meter_not_key {W : World} {g n b : Nat} {cs : Array Value} (h : RowAt W g 82 (meterC false n (.slice none 0 0))) (hr : RowAt W b 117 cs) : b ≠ g := by
  rintro rfl
  have e := (show W.heap[b]? = _ from h).symm.trans (show W.heap[b]? = _ from hr)
  injection e with e
  injection e with _ c _
  exact absurd c (by decide)
theorem wrap64k (n : Nat) (h : n < 18446744073709551616) : IntKind.u64.wrap (n : Int) = (n : Int) := by rw [IntKind.wrap_u64]; omega
theorem high1 (k : Nat) (hk : k < 256) (w : World) : Calls Tryz.prog 84 #[.int .u64 (k : Int), .int .i64 1] w (RetBs w [UInt8.ofNat k]) := by
  have h := High_in w k 1 (by omega) (by omega) (by omega)
  have e : (lowB k 1).reverse = [UInt8.ofNat k] := by simp [lowB, byteN]
  rwa [e] at h
/-- However a region's operations came about, one continuation serves. -/
theorem share_walk {P : Program} {md : Region.Mode} {ops : Array Oper} {Q : Exit → Act → World → Prop} {fin : Nat → Bool} {w : World} {T : World → Prop} {m : Nat} {listed : Array Bool} {a : Act} {A : Nat → Option Addr → Nat → Nat → Act} (E : Nat → World → Prop)
    (hgo : ∀ g d c b w', E g w' → Q .normal (A g d c b) w') (h : (∀ g d c b w', E g w' → Q .normal (A g d c b) w') → walkS P md ops Q T fin m listed a w) : walkS P md ops Q T fin m listed a w := h hgo
/-- Two are left, in whichever order: the one that makes a variable, and another one. -/
theorem walkT_two {P : Program} {md : Region.Mode} {ops : Array Oper} {Q : Exit → Act → World → Prop} {S : World → Prop} {fin : Nat → Bool} {i j m : Nat} {oi oj : Oper} {listed : Array Bool} {a : Act} {w : World} (hr : Region.ready md ops listed = [i, j]) (hi : ops[i]? = some oi) (hj : ops[j]? = some oj) (hgi : oi.guard = none) (hgj : oj.guard = none)
    (h1 : ∀ K : Act → World → Prop, (∀ a' w', (fin i = true ∨ S w') → walkS P md ops Q S fin m (listed.setIfInBounds i true) a' w' → K a' w') → oi.wp P a w K Q)
    (h2 : ∀ K : Act → World → Prop, (∀ a' w', (fin j = true ∨ S w') → walkS P md ops Q S fin m (listed.setIfInBounds j true) a' w' → K a' w') → oj.wp P a w K Q) : walkS P md ops Q S fin (m + 1) listed a w := by
  have gone : ∀ o : Oper, o.guard = none → Region.wanted o (yielded ops a.tmps) = true := fun o h => by simp [Region.wanted, h]
  refine ⟨fun h0 => by simp [hr] at h0, fun k hk => ?_⟩
  rw [hr] at hk
  unfold wpOp
  rcases List.mem_cons.1 hk with rfl | hk
  · simp only [hi, gone _ hgi, if_true]
    exact .inl (h1 _ (fun _ _ h1 h2 => ⟨h1, h2⟩))
  · obtain rfl : k = j := by simpa using hk
    simp only [hj, gone _ hgj, if_true]
    exact .inl (h2 _ (fun _ _ h1 h2 => ⟨h1, h2⟩))

end Go.Proofs.YtpgbicbjlhkonaaGreatDoor
end
section
namespace Go.Proofs.YtpgbicbjlhkonaaGreatDoor
open Go.RowKit Go.Shelf
attribute [local go_sem] Oper.semAt_some
set_option linter.unusedVariables false
set_option maxRecDepth 20000

end Go.Proofs.YtpgbicbjlhkonaaGreatDoor
end
section
namespace Go.Proofs.YtpgbicbjlhkonaaGreatDoor
open Go.RowKit Go.Shelf
attribute [local go_sem] Oper.semAt_some
set_option linter.unusedVariables false
set_option maxRecDepth 20000

def lastT (key info : List UInt8) (pre : List Nat) : List UInt8 := match pre.getLast? with | none => zeroKey | some x => tB key info (x + 1)
theorem lastT_length (key info : List UInt8) (pre : List Nat) : (lastT key info pre).length = 32 := by
  unfold lastT
  split
  · exact zeroKey_length
  · exact tB_length _ _ _
theorem lastT_snoc (key info : List UInt8) (pre : List Nat) (x : Nat) : lastT key info (pre ++ [x]) = tB key info (x + 1) := by simp [lastT]

end Go.Proofs.YtpgbicbjlhkonaaGreatDoor
end
