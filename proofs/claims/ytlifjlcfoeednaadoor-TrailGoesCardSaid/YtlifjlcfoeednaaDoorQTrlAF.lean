/-
  Texts that belong together, merged: L, MacE, MacG, HighO, MacJ, OtsMath, Env, KeyEq, Keys. Conditions: as each theorem names them.
-/
import Derived.Test.YtlifjlcfoeednaaDoorQTrlAA
import Derived.Test.YtlifjlcfoeednaaDoorQTrlAE
import Derived.Test.YtlifjlcfoeednaaDoorQTrlAC
import Derived.Test.YtlifjlcfoeednaaDoorQTrlAD
import Derived.Lib.AtoiErrMem
import Derived.Deep.DeepMust
import Derived.Test.YtlifjlcfoeednaaDoorQTrlAB
import Derived.Deep.MidRow
import Derived.Stop.BytesEq
import Derived.Great.BuildSlice
section
namespace Go.Proofs.YtlifjlcfoeednaaDoor
open Go.RowKit
set_option linter.unusedVariables false

theorem keyC_put (l : List UInt8) (i : Nat) (b : UInt8) : (keyC l).setIfInBounds i (.int .u8 (b.toNat : Int)) = keyC (l.set i b) := by
  unfold keyC
  rw [← cellsB_set]
  simp
theorem keyC_cell {w : World} {g : Nat} {t : TypeId} {l : List UInt8} (h : RowAt w g t (keyC l)) (i : Nat) (hi : i < l.length) : w.cell? ⟨g, i, none⟩ = some (.int .u8 (l[i].toNat : Int)) := by
  rw [h.cell i]
  have := cellsB_get l i hi
  simpa [keyC] using this
theorem Tryd.buildK (w : World) : (Instr.build 24 #[]).run Tryd.prog w = .ok (keyV zeroKey) w := by kernel_rfl





set_option maxHeartbeats 1000000 in
theorem refBytes_any (w : World) (l : List UInt8) (hl : l.length = 32) :
    Calls Tryd.prog 28 #[keyV l] w (RetBs w l) := by
  have HL := Lib.hid hl
  have hl1 : l.length ≤ 32 := by omega
  have hl2 : 32 ≤ l.length := by omega
  clear hl
  go_enter Tryd.func28, Tryd.ntmps28
  go_wp2_with ((with_reducible refine wpList_box_row (o := ⟨some 1, _, _, _, _, _⟩) rfl 24 (.tmp 0) rfl (keyC l) (by with_unfolding_all rfl) ?_); intro g1 w1 n1)
  go_loopw [3, 4] (fun v i wr => ∃ k : Nat, k ≤ l.length ∧ i = .int .i64 k ∧ OwnB wr w1.heap.size 5 v (l.take k) ∧ Below w1.heap.size w1 wr) (fun _ i _ => l.length - (intOf i).toNat)
  case atStart => exact ⟨0, Nat.zero_le _, rfl, OwnB.nil _ _ _, Below.refl _ _⟩
  case round =>
    obtain ⟨k, hk, rfl, hown, hb⟩ := hrel
    have HO := Lib.hid hown
    have HB := Lib.hid hb
    have hsz := hb.size
    clear hown hb
    by_cases hlt : k < l.length
    · have hcell := keyC_cell (n1.row.kept HB.out) k hlt
      have HT := Lib.hid (List.take_succ_eq_append_getElem hlt)
      go_wp2_with (at_builtin; refine wpList_appB _ rfl (.tmp 9) (.tmp 13) 22 rfl w1 5 Tryd.infoB Tryd.underlying22 _ _ _ [l[k]] rfl rfl (HO.out.alloc _) (Bs.lit1 _ _ _ _ rfl) (by simp; omega) (HB.out.alloc hsz _) ?_; intro v2 w2 hown2 hb2)
      go_roundw
      case rel => exact ⟨k + 1, by omega, by go_num, by rw [HT.out]; exact hown2, hb2⟩
      case measure => simp [intOf]; omega
    · have HO2 : Hid (OwnB wr w1.heap.size 5 u3 l) := by
        have := HO.out; rwa [List.take_of_length_le (by omega)] at this
      go_wp2
      go_ret
      exact ⟨_, rfl, HO2.out.bs, below_size n1.below HB.out⟩
end Go.Proofs.YtlifjlcfoeednaaDoor
end
section
namespace Go.Proofs.YtlifjlcfoeednaaDoor
open Go.RowKit
set_option linter.unusedVariables false
set_option maxRecDepth 20000

theorem OwnB.low {w : World} {base base' : Nat} {e : TypeId} {v : Value} {l : List UInt8} (h : OwnB w base e v l) (hb : base' ≤ base) : OwnB w base' e v l := by
  obtain ⟨hl, h⟩ := h
  refine ⟨hl, ?_⟩
  rcases h with h | ⟨g, cap, cur, h1, h2, h3⟩
  · exact .inl h
  · exact .inr ⟨g, cap, cur, h1, Nat.le_trans hb h2, h3⟩

set_option maxHeartbeats 1000000 in
theorem refBytes_own (w : World) (l : List UInt8) (hl : l.length = 32) :
    Calls Tryd.prog 28 #[keyV l] w (RetOwn w 5 l) := by
  have HL := Lib.hid hl
  have hl1 : l.length ≤ 32 := by omega
  have hl2 : 32 ≤ l.length := by omega
  clear hl
  go_enter Tryd.func28, Tryd.ntmps28
  go_wp2_with ((with_reducible refine wpList_box_row (o := ⟨some 1, _, _, _, _, _⟩) rfl 24 (.tmp 0) rfl (keyC l) (by with_unfolding_all rfl) ?_); intro g1 w1 n1)
  go_loopw [3, 4] (fun v i wr => ∃ k : Nat, k ≤ l.length ∧ i = .int .i64 k ∧ OwnB wr w1.heap.size 5 v (l.take k) ∧ Below w1.heap.size w1 wr) (fun _ i _ => l.length - (intOf i).toNat)
  case atStart => exact ⟨0, Nat.zero_le _, rfl, OwnB.nil _ _ _, Below.refl _ _⟩
  case round =>
    obtain ⟨k, hk, rfl, hown, hb⟩ := hrel
    have HO := Lib.hid hown
    have HB := Lib.hid hb
    have hsz := hb.size
    clear hown hb
    by_cases hlt : k < l.length
    · have hcell := keyC_cell (n1.row.kept HB.out) k hlt
      have HT := Lib.hid (List.take_succ_eq_append_getElem hlt)
      go_wp2_with (at_builtin; refine wpList_appB _ rfl (.tmp 9) (.tmp 13) 22 rfl w1 5 Tryd.infoB Tryd.underlying22 _ _ _ [l[k]] rfl rfl (HO.out.alloc _) (Bs.lit1 _ _ _ _ rfl) (by simp; omega) (HB.out.alloc hsz _) ?_; intro v2 w2 hown2 hb2)
      go_roundw
      case rel => exact ⟨k + 1, by omega, by go_num, by rw [HT.out]; exact hown2, hb2⟩
      case measure => simp [intOf]; omega
    · have HO2 : Hid (OwnB wr w1.heap.size 5 u3 l) := by
        have := HO.out; rwa [List.take_of_length_le (by omega)] at this
      go_wp2
      go_ret
      exact ⟨_, rfl, HO2.out.low n1.below.size, below_size n1.below HB.out⟩

/-- append onto the call's own row leaves the Log as it was. -/
theorem LogR.app {w0 w x y : World} {g n base : Nat} {v : Value} {l : List UInt8} (h : LogR w0 w g n x) (ho : OwnB x base 5 v l) (hb : w.heap.size ≤ base) (hg : x.grownBy y v.ownBlock) : LogR w0 w g n y := by
  have hr : ∀ k, v.ownBlock = some k → base ≤ k := ho.rows
  refine ⟨h.below.grown hg h.below.size (fun k e => by have := hr k e; have := h.old; omega), h.row.grown hg (ho.other h.row (by decide)), h.far, h.old, h.row0, ?_⟩
  exact ⟨hg.os.trans h.grown.os, hg.tape.trans h.grown.tape, hg.output.trans h.grown.output, Nat.le_trans h.grown.size hg.size, fun k hk h1 => (hg.block k (Nat.lt_of_lt_of_le hk h.grown.size) (fun e => by have := hr k e.symm; omega)).trans (h.grown.block k hk h1)⟩
theorem LogR.own {w0 w x : World} {g n base : Nat} {v : Value} {l : List UInt8} (h : LogR w0 w g n x) (ho : OwnB w base 5 v l) : OwnB x base 5 v l := by
  obtain ⟨n0, h0⟩ := h.row0
  refine World.ownsRow.kept ho h.grown ?_
  rcases hv : v.ownBlock with _ | k
  · exact .inl rfl
  · refine .inr fun hk => ?_
    exact ho.other h0 (by decide) (by rw [hv]; exact hk.symm)
theorem mixB_step (b : List UInt8) (x : UInt8) (k : Nat) (h : k < b.length) : mixB (b.take (k + 1)) x = mixB (b.take k) x ++ [b.getD k 0 ^^^ x] := by
  have e2 := List.take_succ_eq_append_getElem (l := b.map (· ^^^ x)) (i := k) (by simpa using h)
  simp only [mixB, List.map_take]
  rw [e2]
  simp [List.getD_eq_getElem?_getD, h]

end Go.Proofs.YtlifjlcfoeednaaDoor
end
section
namespace Go.Proofs.YtlifjlcfoeednaaDoor
open Go.RowKit
set_option linter.unusedVariables false
set_option maxRecDepth 20000

end Go.Proofs.YtlifjlcfoeednaaDoor
end
section
namespace Go.Proofs.YtlifjlcfoeednaaDoor
open Go.RowKit
set_option linter.unusedVariables false

set_option maxHeartbeats 400000 in
theorem High_own (w : World) (n s : Nat) (hn : n < 18446744073709551616) (hs1 : 1 ≤ s) (hs2 : s ≤ 8) :
    Calls Tryd.prog 23 #[.int .u64 (n : Int), .int .i64 (s : Int)] w (fun e w' => ∃ v, e = .returned v ∧ OwnB w' w.heap.size 5 v (lowB n s).reverse ∧ Below w.heap.size w w') := by
  obtain ⟨i0, hi, hz0, hz1, hz2⟩ := info_parts Tryd.infoB
  have hlen : (lowB n s).reverse.length = s := by rw [List.length_reverse, lowB_length]
  have HL := Lib.hid hlen
  clear hlen
  go_enter Tryd.func23, Tryd.ntmps23
  go_wp2_with (first
    | (go_at_call 30; refine (fits_yes _ _ (by omega) (by omega)).mono ?_; rintro e w' ⟨rfl, rfl⟩)
    | (refine wpList_make_full _ rfl (.tmp 10) (.tmp 10) 22 rfl w.heap.size 5 i0 (.int .u8 0) 1 Tryd.underlying22 hi hz0 hz1 .i64 .i64 _ _ s rfl rfl rfl rfl (by rw [hz2]; omega) (by unfold maxLen; omega) (Nat.le_refl _) ?_; intro w1 hown hgrow))
  rw [made_zeros] at hown
  have hown0 : w1.ownsRow w.heap.size 5 1 (.slice (some ⟨w.heap.size, 0, none⟩) s s) s (cellsB (partlyR (lowB n s).reverse 0)) := by
    rw [partlyR_zero, HL.out]; exact hown
  have hbel : Below w.heap.size w w1 := (Below.refl _ _).grown hgrow (Nat.le_refl _) (fun k h => by cases h)
  clear hown hgrow
  go_loopw [13] (fun i wr => ∃ k : Nat, k ≤ s ∧ i = .int .i64 k ∧ wr.ownsRow w.heap.size 5 1 (.slice (some ⟨w.heap.size, 0, none⟩) s s) s (cellsB (partlyR (lowB n s).reverse k)) ∧ Below w.heap.size w wr) (fun i _ => s - (intOf i).toNat)
  case atStart => exact ⟨0, Nat.zero_le _, rfl, hown0, hbel⟩
  case round =>
    obtain ⟨k, hk, rfl, hown, hb⟩ := hrel
    clear hown0 hbel
    by_cases hlt : k < s
    · obtain ⟨old, hcell⟩ := own_some hown (s - 1 - k) (by omega)
      have hfz := hown.frozenAt (s - 1 - k)
      have hput := own_put hown (s - 1 - k) (byteN n k)
      have hstep := partlyR_step (lowB n s).reverse k (by rw [HL.out]; omega)
      have hget : (lowB n s).reverse[(lowB n s).reverse.length - 1 - k]'(by rw [HL.out]; omega) = byteN n k := by
        rw [List.getElem_reverse]
        have e : (lowB n s).length - 1 - ((lowB n s).reverse.length - 1 - k) = k := by rw [HL.out, lowB_length]; omega
        simp only [e]
        simp [lowB]
      rw [hget, HL.out] at hstep
      rw [hstep] at hput
      have HP := Lib.hid hput
      have HG := Lib.hid hown
      have HB := Lib.hid hb
      clear hput hown hget hb hstep
      go_wp2_with (go_at_call 31; refine (byteAt_any _ n k hn (by omega)).mono ?_; rintro e w' ⟨rfl, rfl⟩)
      go_roundw
      case rel => exact ⟨k + 1, by omega, by go_num, HP.out, HB.out.setCell (by simp) _⟩
      case measure => simp [intOf]; omega
    · have hks : k = s := by omega
      subst hks
      have hown2 : wr.ownsRow w.heap.size 5 1 (.slice (some ⟨w.heap.size, 0, none⟩) k k) k (cellsB (lowB n k).reverse) := by
        have := partlyR_all (lowB n k).reverse; rw [HL.out] at this; rwa [this] at hown
      have HO := Lib.hid hown2
      have HB := Lib.hid hb
      clear hown2 hown hb
      go_wp2
      go_ret
      exact ⟨_, rfl, by unfold OwnB; rw [HL.out]; exact HO.out, HB.out⟩

end Go.Proofs.YtlifjlcfoeednaaDoor
end
section
namespace Go.Proofs.YtlifjlcfoeednaaDoor
open Go.RowKit
set_option linter.unusedVariables false
set_option maxRecDepth 20000

def highB4 (n : Nat) : List UInt8 := (lowB n 4).reverse
def partsL (lab : List UInt8) (ls : List (List UInt8)) : List (List UInt8) := [[UInt8.ofNat lab.length], lab] ++ ls.flatMap fun b => [highB4 b.length, b]
def infoB (lab : List UInt8) (ls : List (List UInt8)) : List UInt8 := (partsL (lab.take 255) ls).flatten
theorem partsL_next (lab : List UInt8) (ls : List (List UInt8)) (k : Nat) (h : k < ls.length) : partsL lab (ls.take (k + 1)) = partsL lab (ls.take k) ++ [highB4 ls[k].length, ls[k]] := by
  unfold partsL
  rw [List.take_succ_eq_append_getElem h, List.flatMap_append]
  simp
theorem partsL_length (lab : List UInt8) (ls : List (List UInt8)) : (partsL lab ls).length = 2 + 2 * ls.length := by
  unfold partsL
  rw [List.length_append]
  have : ∀ ls : List (List UInt8), (ls.flatMap fun b => [highB4 b.length, b]).length = 2 * ls.length := by
    intro ls
    induction ls with
    | nil => rfl
    | cons a l ih => rw [List.flatMap_cons, List.length_append, ih, List.length_cons]; simp; omega
  rw [this]
  rfl
theorem partsL_flat (lab : List UInt8) (ls : List (List UInt8)) (hl : ∀ b ∈ ls, b.length ≤ 1000) : (partsL lab ls).flatten.length ≤ 1 + lab.length + 1004 * ls.length := by
  have : ∀ ls : List (List UInt8), (∀ b ∈ ls, b.length ≤ 1000) → (ls.flatMap fun b => [highB4 b.length, b]).flatten.length ≤ 1004 * ls.length := by
    intro ls
    induction ls with
    | nil => intro _; simp
    | cons a l ih =>
      intro h
      have h1 := h a (by simp)
      have h2 := ih fun b hb => h b (by simp [hb])
      rw [List.flatMap_cons, List.flatten_append, List.length_append, List.length_cons]
      have : ([highB4 a.length, a] : List (List UInt8)).flatten.length = 4 + a.length := by simp [highB4, lowB_length]
      omega
  have := this ls hl
  unfold partsL
  rw [List.flatten_append, List.length_append]
  have e : ([[UInt8.ofNat lab.length], lab] : List (List UInt8)).flatten.length = 1 + lab.length := by simp; omega
  omega

theorem OwnSs.two (w : World) (base : Nat) (hb : base ≤ w.heap.size) (u v : Value) (a b : List UInt8) (ha : El base w u a) (hc : El base w v b) :
    OwnSs (w.alloc (.cells #[u, v] 22)) base (.slice (some ⟨w.heap.size, 0, none⟩) 2 2) [a, b] :=
  ⟨[u, v], World.ownsRow_lit (base := base) (e := 22) (size := 1) w #[u, v] 2 hb (by unfold maxLen; omega) rfl, rfl, fun j h1 h2 => by
    match j, h1 with
    | 0, _ => exact ha.below (alloc_below _ _)
    | 1, _ => exact hc.below (alloc_below _ _)⟩
/-- append of two more. -/
theorem wpList_appSs {P : Program} {w : World} {ops : Array Oper} {rest : List Oper} {o : Oper} {a : Act} {Q : Exit → Act → World → Prop} (hgd : o.guard = none) (s x : Operand) (t : TypeId)
    (ho : o.op = .call { callee := .builtin .append, args := #[s, x], argTypes := #[t, t] })
    (base : Nat) (hinfo : (P.info? 22).map (fun i => (i.zero, i.size, i.bytes)) = some (some (.slice none 0 0), 1, 24)) (ht : P.underlying t = some (.slice 22))
    (v u1 u2 : Value) (g : Nat) (ls : List (List UInt8)) (b1 b2 : List UInt8) (hs : a.eval s = v) (hx : a.eval x = .slice (some ⟨g, 0, none⟩) 2 2) (hg : RowAt w g 22 #[u1, u2])
    (hown : OwnSs w base v ls) (h1 : El base w u1 b1) (h2 : El base w u2 b2) (hlen : ls.length ≤ 1000000) (hb : base ≤ w.heap.size)
    (h : ∀ v' w', OwnSs w' base v' (ls ++ [b1, b2]) → w.grownBy w' v.ownBlock → (∀ k, v.ownBlock = some k → base ≤ k) → wpList P ops Q rest (a.put o.dst v') w') : wpList P ops Q (o :: rest) a w := by
  obtain ⟨i0, hi, hz0, hz1, hz2⟩ := info_parts hinfo
  obtain ⟨xs, hx1, hx2, hx3⟩ := hown
  refine wpList_append_own _ hgd s x t ho base 22 i0 (.slice none 0 0) 1 24 ht hi hz0 hz1 hz2 rfl (by decide) v ls.length xs hs hx1 ⟨g, 0, none⟩ 2 2 [u1, u2] hx rfl (fun j y hj => ?_) (fun y hy => ?_) (by unfold maxLen; omega) (by omega) hb ?_
  · have hj2 := (List.getElem?_eq_some_iff.1 hj).1
    have hadd : (⟨g, 0, none⟩ : Addr).add j = ⟨g, j, none⟩ := by unfold Addr.add; split <;> simp_all
    rw [hadd, hg.cell j]
    simpa using hj
  · rcases List.mem_cons.1 hy with rfl | hy
    · exact h1.1.isSlice2
    · obtain rfl : y = u2 := by simpa using hy
      exact h2.1.isSlice2
  · intro v' w' ho' hg' _
    refine h v' w' ⟨xs ++ [u1, u2], by rw [List.length_append]; exact ho', by simp [hx2], fun j a1 a2 => ?_⟩ hg' (fun k hk => (World.ownsRow.lt hx1 k hk).1)
    rcases Nat.lt_or_ge j xs.length with hlt | hge
    · rw [List.getElem_append_left hlt, List.getElem_append_left (by omega)]
      exact (hx3 j hlt (by omega)).grown hx1 hg'
    · obtain ⟨i, rfl⟩ : ∃ i, j = xs.length + i := ⟨j - xs.length, by omega⟩
      have hi2 : i < 2 := by simpa using a1
      have e1 : (xs ++ [u1, u2])[xs.length + i] = [u1, u2][i]'(by simpa using hi2) := by rw [List.getElem_append_right (by omega)]; simp
      have e2 : (ls ++ [b1, b2])[xs.length + i] = [b1, b2][i]'(by simpa using hi2) := by rw [List.getElem_append_right (by omega)]; simp [hx2]
      rw [e1, e2]
      match i, hi2 with
      | 0, _ => exact h1.grown hx1 hg'
      | 1, _ => exact h2.grown hx1 hg'

/-- '[]byte(s)'. -/
theorem bytes_el (w : World) (base : Nat) (s : ByteArray) (hs : s.size ≤ 1000) : El base (Lib.bytesWorld w 5 s) (.slice (some ⟨w.heap.size, 0, none⟩) s.size (grownCap w s.size 0 5)) s.data.toList ∧ Below w.heap.size w (Lib.bytesWorld w 5 s) := by
  have hl : s.data.toList.length = s.size := by simp
  refine ⟨⟨⟨_, grownCap w s.size 0 5, by rw [hl], by rw [hl]; exact grownCap_ge _ _ _ _, grownCap_le_maxLen _ _ _ _ (by unfold maxLen; omega), fun _ => ⟨w.heap.size, 0, rfl, fun j hj => ?_⟩⟩, fun _ b off n c hu => ?_⟩, Lib.bytesWorld_below _ _ _⟩
  · rw [Nat.zero_add, Lib.bytesWorld_cell w 5 s j (by rw [← hl]; exact hj)]
    congr 2
    rw [List.getD_eq_getElem?_getD, List.getElem?_eq_getElem hj]
    rfl
  · injection hu with e1 _ _
    injection e1 with e1
    injection e1 with e1 _ _
    subst e1
    exact .inr ⟨_, _, _, Lib.bytesWorld_at_new w 5 s, by decide⟩

end Go.Proofs.YtlifjlcfoeednaaDoor
end
section
namespace Go.Proofs.YtlifjlcfoeednaaDoor
set_option linter.unusedVariables false

/-- A number's two lowest bytes, the higher one first. -/
def numB (z : Int) : List UInt8 := (lowB (z % 18446744073709551616).toNat 2).reverse
theorem numB_length (z : Int) : (numB z).length = 2 := by simp [numB, lowB_length]
/-- k steps along chain c, from step i on. -/
def alongB (tag : List UInt8) (c i : Int) (v : List UInt8) : Nat → List UInt8
  | 0 => v
  | k + 1 => digestB (tag ++ numB c ++ numB (i + k) ++ alongB tag c i v k)
theorem alongB_length (tag : List UInt8) (c i : Int) (v : List UInt8) (h : v.length = 32) (k : Nat) : (alongB tag c i v k).length = 32 := by
  cases k with
  | zero => exact h
  | succ k => exact digestB_length _
theorem alongB_add (tag : List UInt8) (c i : Int) (v : List UInt8) (a b : Nat) : alongB tag c i v (a + b) = alongB tag c (i + a) (alongB tag c i v a) b := by
  induction b with
  | zero => rfl
  | succ b ih =>
    rw [← Nat.add_assoc, alongB, alongB, ih]
    rw [show i + ((a + b : Nat) : Int) = i + (a : Int) + (b : Int) by omega]
theorem alongB_left (tag : List UInt8) (c i : Int) (v : List UInt8) (n : Nat) : alongB tag c i v (n + 1) = alongB tag c (i + 1) (digestB (tag ++ numB c ++ numB i ++ v)) n := by
  rw [Nat.add_comm n 1, alongB_add]
  simp [alongB]
def lackB (b : UInt8) : Nat := (15 - b.toNat / 16) + (15 - b.toNat % 16)
def lackL (d : List UInt8) : Nat := (d.map lackB).sum
def halvesL (d : List UInt8) : List Nat := d.flatMap fun b => [b.toNat / 16, b.toNat % 16]
def digitsL (d : List UInt8) : List Nat := halvesL d ++ [lackL d / 256, lackL d / 16 % 16, lackL d % 16]
theorem halvesL_length (d : List UInt8) : (halvesL d).length = 2 * d.length := by
  induction d with
  | nil => rfl
  | cons b d ih => simp only [halvesL, List.flatMap_cons, List.length_append, List.length_cons, List.length_nil] at *; omega
theorem digitsL_length (d : List UInt8) (h : d.length = 32) : (digitsL d).length = 67 := by
  rw [digitsL, List.length_append, halvesL_length, h]; rfl
theorem lackB_le (b : UInt8) : lackB b ≤ 30 := by unfold lackB; omega
theorem lackL_le (d : List UInt8) : lackL d ≤ 30 * d.length := by
  induction d with
  | nil => simp [lackL]
  | cons b d ih =>
    have := lackB_le b
    simp only [lackL, List.map_cons, List.sum_cons, List.length_cons] at *
    omega
theorem lackL_snoc (d : List UInt8) (b : UInt8) : lackL (d ++ [b]) = lackL d + lackB b := by simp [lackL]
theorem halvesL_snoc (d : List UInt8) (b : UInt8) : halvesL (d ++ [b]) = halvesL d ++ [b.toNat / 16, b.toNat % 16] := by simp [halvesL]
theorem halvesL_le (d : List UInt8) : ∀ x ∈ halvesL d, x ≤ 15 := by
  intro x hx
  obtain ⟨b, _, hx⟩ := List.mem_flatMap.1 hx
  have := b.toNat_lt
  rcases List.mem_cons.1 hx with rfl | hx
  · omega
  · rw [List.mem_singleton] at hx
    omega
theorem digitsL_le (d : List UInt8) (h : d.length = 32) : ∀ x ∈ digitsL d, x ≤ 15 := by
  intro x hx
  have hl := lackL_le d
  rw [h] at hl
  rcases List.mem_append.1 hx with hx | hx
  · exact halvesL_le d x hx
  · rcases List.mem_cons.1 hx with rfl | hx
    · omega
    · rcases List.mem_cons.1 hx with rfl | hx
      · omega
      · rw [List.mem_singleton] at hx
        omega
theorem digitsL_getD (d : List UInt8) (h : d.length = 32) (i : Nat) : (digitsL d).getD i 0 ≤ 15 := by
  rw [List.getD_eq_getElem?_getD]
  cases e : (digitsL d)[i]? with
  | none => simp
  | some x => exact digitsL_le d h x (List.mem_of_getElem? e)

/-- What a chain begins with. -/
def chainB : List UInt8 := [99, 104, 97, 105, 110]
def beginB (seed : List UInt8) (c : Int) : List UInt8 := macB seed (infoB chainB [numB c] ++ [1])
theorem beginB_length (seed : List UInt8) (c : Int) : (beginB seed c).length = 32 := macB_length _ _
def endsL (seed tag : List UInt8) : List (List UInt8) := (List.range 67).map fun (c : Nat) => alongB tag (c : Int) 0 (beginB seed c) 15
def pubB (seed tag : List UInt8) : List UInt8 := digestB (tag ++ (endsL seed tag).flatten)
def signL (seed tag d : List UInt8) : List (List UInt8) := (List.range 67).map fun (c : Nat) => alongB tag (c : Int) 0 (beginB seed c) ((digitsL d).getD c 0)
def reachL (tag d : List UInt8) (l : List (List UInt8)) : List (List UInt8) := (List.range 67).map fun (c : Nat) => alongB tag (c : Int) (((digitsL d).getD c 0 : Nat) : Int) (l.getD c zeroKey) (15 - (digitsL d).getD c 0)
def recB (tag d : List UInt8) (l : List (List UInt8)) : List UInt8 := digestB (tag ++ (reachL tag d l).flatten)
theorem signL_get (seed tag d : List UInt8) (c : Nat) (h : c < 67) : (signL seed tag d).getD c zeroKey = alongB tag (c : Int) 0 (beginB seed c) ((digitsL d).getD c 0) := by
  rw [signL, List.getD_eq_getElem?_getD, List.getElem?_map, List.getElem?_range h]
  rfl
theorem signL_len (seed tag d : List UInt8) : ∀ l ∈ signL seed tag d, l.length = 32 := by
  intro l hl
  obtain ⟨c, _, rfl⟩ := List.mem_map.1 hl
  exact alongB_length _ _ _ _ (beginB_length _ _) _
theorem endsL_len (seed tag : List UInt8) : ∀ l ∈ endsL seed tag, l.length = 32 := by
  intro l hl
  obtain ⟨c, _, rfl⟩ := List.mem_map.1 hl
  exact alongB_length _ _ _ _ (beginB_length _ _) _
theorem reachL_len (tag d : List UInt8) (ls : List (List UInt8)) (h : ∀ l ∈ ls, l.length = 32) : ∀ l ∈ reachL tag d ls, l.length = 32 := by
  intro l hl
  obtain ⟨c, _, rfl⟩ := List.mem_map.1 hl
  refine alongB_length _ _ _ _ ?_ _
  rw [List.getD_eq_getElem?_getD]
  cases e : ls[c]? with
  | none => exact zeroKey_length
  | some x => exact h x (List.mem_of_getElem? e)
/-- WHAT IS SIGNED IS RECOVERED. -/
theorem rec_sign (seed tag d : List UInt8) (h : d.length = 32) : recB tag d (signL seed tag d) = pubB seed tag := by
  unfold recB pubB reachL endsL
  congr 3
  refine List.map_congr_left fun c hc => ?_
  have hc' := List.mem_range.1 hc
  have hd := digitsL_getD d h c
  rw [signL_get _ _ _ _ hc']
  have := alongB_add tag (c : Int) 0 (beginB seed c) ((digitsL d).getD c 0) (15 - (digitsL d).getD c 0)
  rw [Int.zero_add, show (digitsL d).getD c 0 + (15 - (digitsL d).getD c 0) = 15 by omega] at this
  exact this.symm

/-! Of two digests that are unlike each has a digit that is above the other one's. -/
theorem lack_le_of (a b : List UInt8) : a.length = b.length → (∀ i, i < 2 * a.length → (halvesL a).getD i 0 ≤ (halvesL b).getD i 0) → lackL b ≤ lackL a ∧ (lackL a = lackL b → a = b) := by
  induction a generalizing b with
  | nil => intro h _; cases b with
    | nil => simp [lackL]
    | cons y b => simp at h
  | cons x a ih =>
    intro h hle
    cases b with
    | nil => simp at h
    | cons y b =>
      simp only [List.length_cons, Nat.add_right_cancel_iff] at h
      have e : ∀ (z : UInt8) (l : List UInt8), halvesL (z :: l) = (z.toNat / 16) :: (z.toNat % 16) :: halvesL l := fun z l => rfl
      have h0 := hle 0 (by simp)
      have h1 := hle 1 (by simp; omega)
      have ih' := ih b h fun i hi => by
        have := hle (i + 2) (by simp only [List.length_cons]; omega)
        rw [e, e] at this
        simpa using this
      rw [e, e] at h0 h1
      simp only [List.getD_cons_zero, List.getD_cons_succ] at h0 h1
      have hx := x.toNat_lt
      have hy := y.toNat_lt
      have es : ∀ (z : UInt8) (l : List UInt8), lackL (z :: l) = lackB z + lackL l := fun z l => by simp [lackL]
      rw [es, es]
      unfold lackB
      refine ⟨by omega, fun he => ?_⟩
      have hxy : x.toNat = y.toNat := by omega
      rw [UInt8.toNat_inj.1 hxy, ih'.2 (by omega)]
theorem digits_below (a b : List UInt8) (ha : a.length = 32) (hb : b.length = 32) (h : ∀ i, i < 67 → (digitsL a).getD i 0 ≤ (digitsL b).getD i 0) : a = b := by
  have get : ∀ (l : List UInt8), l.length = 32 → ∀ i, i < 64 → (digitsL l).getD i 0 = (halvesL l).getD i 0 := fun l hl i hi => by
    rw [digitsL, List.getD_eq_getElem?_getD, List.getElem?_append_left (by rw [halvesL_length, hl]; omega), ← List.getD_eq_getElem?_getD]
  have top : ∀ (l : List UInt8), l.length = 32 → ∀ i, (digitsL l).getD (64 + i) 0 = [lackL l / 256, lackL l / 16 % 16, lackL l % 16].getD i 0 := fun l hl i => by
    rw [digitsL, List.getD_eq_getElem?_getD, List.getElem?_append_right (by rw [halvesL_length, hl]; omega), halvesL_length, hl, show 64 + i - 2 * 32 = i by omega, ← List.getD_eq_getElem?_getD]
  have key := lack_le_of a b (by rw [ha, hb]) fun i hi => by
    rw [← get a ha i (by omega), ← get b hb i (by omega)]
    exact h i (by omega)
  refine key.2 ?_
  have h0 := h 64 (by omega)
  have h1 := h 65 (by omega)
  have h2 := h 66 (by omega)
  have t0 : ∀ (l : List UInt8), l.length = 32 → (digitsL l).getD 64 0 = lackL l / 256 := fun l hl => top l hl 0
  have t1 : ∀ (l : List UInt8), l.length = 32 → (digitsL l).getD 65 0 = lackL l / 16 % 16 := fun l hl => top l hl 1
  have t2 : ∀ (l : List UInt8), l.length = 32 → (digitsL l).getD 66 0 = lackL l % 16 := fun l hl => top l hl 2
  rw [t0 a ha, t0 b hb] at h0
  rw [t1 a ha, t1 b hb] at h1
  rw [t2 a ha, t2 b hb] at h2
  have := key.1
  omega
/-- Is a digit among the first k above the other one's? -/
def aboveB (a b : List Nat) : Nat → Bool
  | 0 => false
  | k + 1 => aboveB a b k || decide (b.getD k 0 < a.getD k 0)
theorem aboveB_false (a b : List Nat) (k : Nat) (h : aboveB a b k = false) : ∀ i, i < k → a.getD i 0 ≤ b.getD i 0 := by
  induction k with
  | zero => intro i hi; omega
  | succ k ih =>
    simp only [aboveB, Bool.or_eq_false_iff, decide_eq_false_iff_not] at h
    intro i hi
    by_cases e : i = k
    · subst e; omega
    · exact ih h.1 i (by omega)
theorem aboveB_same (a : List Nat) (k : Nat) : aboveB a a k = false := by
  induction k with
  | zero => rfl
  | succ k ih => simp [aboveB, ih]
theorem above_iff (a b : List UInt8) (ha : a.length = 32) (hb : b.length = 32) : aboveB (digitsL a) (digitsL b) 67 = !(a == b) := by
  by_cases e : a = b
  · subst e; simp [aboveB_same]
  · rw [beq_eq_false_iff_ne.2 e]
    refine Bool.of_not_eq_false fun h => e (digits_below a b ha hb (aboveB_false _ _ _ h))
end Go.Proofs.YtlifjlcfoeednaaDoor
end
section
namespace Go.Proofs.YtlifjlcfoeednaaDoor
open Go.RowKit
set_option linter.unusedVariables false

/-- What the call has laid itself: each row lies there, no two in one block; and nothing that was there before has turned. -/
structure Env (w0 : World) (rs : List (Nat × TypeId × Array Value)) (w : World) : Prop where
  below : Below w0.heap.size w0 w
  rows : ∀ r ∈ rs, RowAt w r.1 r.2.1 r.2.2 ∧ w0.heap.size ≤ r.1
  apart : (rs.map (·.1)).Nodup

section
variable {w0 w w' : World} {rs : List (Nat × TypeId × Array Value)} {g : Nat} {t : TypeId} {cs old : Array Value}
theorem Env.start (w : World) : Env w [] w := ⟨Below.refl _ _, by simp, by simp⟩
theorem Env.row (h : Env w0 rs w) (i : Nat) (hi : rs[i]? = some (g, t, cs)) : RowAt w g t cs := (h.rows _ (List.mem_of_getElem? hi)).1
theorem Env.spot (h : Env w0 rs w) (i : Nat) (hi : rs[i]? = some (g, t, cs)) : w0.heap.size ≤ g := (h.rows _ (List.mem_of_getElem? hi)).2
theorem Env.new (h : Env w0 rs w) (n : NewRow w g t cs w') : Env w0 ((g, t, cs) :: rs) w' := by
  refine ⟨below_size h.below n.below, fun r hr => ?_, ?_⟩
  · rcases List.mem_cons.1 hr with rfl | hr
    · exact ⟨n.row, by have := n.spot; have := h.below.size; simp only; omega⟩
    · exact ⟨(h.rows r hr).1.kept n.below, (h.rows r hr).2⟩
  · refine List.nodup_cons.2 ⟨fun hm => ?_, h.apart⟩
    obtain ⟨r, hr, he⟩ := List.mem_map.1 hm
    have := (h.rows r hr).1.lt
    have := n.spot
    simp only at he
    omega
theorem Env.call (h : Env w0 rs w) (b : Below w.heap.size w w') : Env w0 rs w' := ⟨below_size h.below b, fun r hr => ⟨(h.rows r hr).1.kept b, (h.rows r hr).2⟩, h.apart⟩
theorem Env.drew (h : Env w0 rs w) : Env w0 rs w.drew := ⟨h.below.drew, h.rows, h.apart⟩
theorem Env.drewN (h : Env w0 rs w) (n : Nat) : Env w0 rs (w.drewN n) := ⟨below_drewN h.below n, h.rows, h.apart⟩
theorem set_map_fst {i : Nat} {x : Nat × TypeId × Array Value} (hi : rs[i]? = some (g, t, old)) (hx : x.1 = g) : (rs.set i x).map (·.1) = rs.map (·.1) := by
  rw [List.map_set, hx]
  apply List.ext_getElem? fun j => ?_
  rw [List.getElem?_set]
  split
  · rename_i h
    subst h
    have := (List.getElem?_eq_some_iff.1 hi).1
    rw [if_pos (by simpa using this), List.getElem?_map, hi]
    rfl
  · rfl
theorem nodup_at {α : Type} {l : List α} (h : l.Nodup) {i j : Nat} {a : α} (hi : l[i]? = some a) (hj : l[j]? = some a) : i = j := by
  obtain ⟨h1, e1⟩ := List.getElem?_eq_some_iff.1 hi
  obtain ⟨h2, e2⟩ := List.getElem?_eq_some_iff.1 hj
  exact (List.getElem_inj h).1 (e1.trans e2.symm)
/-- One row is written, by whatever leaves the other blocks alone. -/
theorem Env.turned (h : Env w0 rs w) (i : Nat) (hi : rs[i]? = some (g, t, old)) (hr : RowAt w' g t cs) (hg : w.grownBy w' (some g)) : Env w0 (rs.set i (g, t, cs)) w' := by
  refine ⟨h.below.grown hg h.below.size fun k hk => by injection hk with hk; subst hk; exact h.spot i hi, fun r hm => ?_, by rw [set_map_fst hi rfl]; exact h.apart⟩
  obtain ⟨j, hj⟩ := List.mem_iff_getElem?.1 hm
  rw [List.getElem?_set] at hj
  split at hj
  · split at hj
    · injection hj with hj; subst hj; exact ⟨hr, h.spot i hi⟩
    · cases hj
  · rename_i hne
    have hr' := h.rows r (List.mem_of_getElem? hj)
    refine ⟨hr'.1.grown hg fun he => ?_, hr'.2⟩
    injection he with he
    refine hne (nodup_at (l := rs.map (·.1)) h.apart (a := g) (by rw [List.getElem?_map, hi]; rfl) (by rw [List.getElem?_map, hj, ← he]; rfl))
theorem Env.put (h : Env w0 rs w) (i : Nat) (hi : rs[i]? = some (g, t, old)) (p : PutRow w g t cs w') : Env w0 (rs.set i (g, t, cs)) w' := h.turned i hi p.row p.grown
theorem grown_setCell (w : World) (g j : Nat) (u : Value) : w.grownBy (w.setCell ⟨g, j, none⟩ u) (some g) :=
  ⟨rfl, rfl, rfl, by simp, fun k hk hne => Below.heap_setCell w ⟨g, j, none⟩ u k (fun e => hne (by rw [e]))⟩
theorem Env.cell (h : Env w0 rs w) (i : Nat) (hi : rs[i]? = some (g, t, old)) (j : Nat) (u : Value) : Env w0 (rs.set i (g, t, old.setIfInBounds j u)) (w.setCell ⟨g, j, none⟩ u) :=
  h.turned i hi ((h.row i hi).put j u) (grown_setCell w g j u)
theorem Env.cellTo (h : Env w0 rs w) (i : Nat) (hi : rs[i]? = some (g, t, old)) (j : Nat) (u : Value) (he : old.setIfInBounds j u = cs) : Env w0 (rs.set i (g, t, cs)) (w.setCell ⟨g, j, none⟩ u) := he ▸ h.cell i hi j u
theorem Env.less (h : Env w0 rs w) {rs' : List (Nat × TypeId × Array Value)} (hs : rs'.Sublist rs) : Env w0 rs' w := ⟨h.below, fun r hr => h.rows r (hs.subset hr), List.Pairwise.sublist (hs.map _) h.apart⟩
/-- The newest row is written by what leaves all that is below it alone. -/
theorem Env.over (h : Env w0 ((g, t, old) :: rs) w) (hlt : ∀ r ∈ rs, r.1 < g) (hb : Below g w w') (hr : RowAt w' g t cs) : Env w0 ((g, t, cs) :: rs) w' := by
  have hs := h.spot 0 rfl
  refine ⟨h.below.trans (hb.mono hs), fun r hm => ?_, h.apart⟩
  rcases List.mem_cons.1 hm with rfl | hm
  · exact ⟨hr, hs⟩
  · have h2 := h.rows r (List.mem_cons_of_mem _ hm)
    exact ⟨h2.1.below hb (hlt r hm), h2.2⟩
theorem Env.ret (h : Env w0 rs w) (v : Value) : RetV w0 v (.returned v) w := ⟨rfl, h.below⟩
end

section
variable {P : Program} {w0 w : World} {rs : List (Nat × TypeId × Array Value)} {ops : Array Oper} {rest : List Oper} {o : Oper} {a : Act} {Q : Exit → Act → World → Prop}

theorem wpE_alloc (hgd : o.guard = none) (ty : TypeId) (ho : o.op = .alloc ty) (z : Array Value) (hz : (P.info? ty).map (·.zero) = some (some (.agg z))) (hE : Env w0 rs w)
    (h : ∀ g w', Env w0 ((g, ty, z) :: rs) w' → wpList P ops Q rest (a.put o.dst (.pointer (some ⟨g, 0, none⟩))) w') : wpList P ops Q (o :: rest) a w :=
  wpList_alloc_row hgd ty ho z hz fun g w' n => h g w' (hE.new n)
theorem wpE_allocF (hgd : o.guard = none) (ty : TypeId) (ho : o.op = .alloc ty) (z : Array Value) (hz : (P.info? ty).map (·.zero) = some (some (.agg z))) (hE : Env w0 rs w)
    (h : ∀ g w', Env w0 ((g, ty, z) :: rs) w' → (∀ r ∈ rs, r.1 < g) → wpList P ops Q rest (a.put o.dst (.pointer (some ⟨g, 0, none⟩))) w') : wpList P ops Q (o :: rest) a w :=
  wpList_alloc_row hgd ty ho z hz fun g w' n => h g w' (hE.new n) fun r hr => by rw [n.spot]; exact (hE.rows r hr).1.lt
theorem wpE_box (hgd : o.guard = none) (ty : TypeId) (x : Operand) (ho : o.op = .box ty x) (cs : Array Value) (hx : a.eval x = .agg cs) (hE : Env w0 rs w)
    (h : ∀ g w', Env w0 ((g, ty, cs) :: rs) w' → wpList P ops Q rest (a.put o.dst (.pointer (some ⟨g, 0, none⟩))) w') : wpList P ops Q (o :: rest) a w :=
  wpList_box_row hgd ty x ho cs hx fun g w' n => h g w' (hE.new n)
theorem wpE_load (hgd : o.guard = none) (ty : TypeId) (x : Operand) (ho : o.op = .load ty x) (i g : Nat) (t : TypeId) (cs : Array Value) (d : TypeDesc) (hi : rs[i]? = some (g, t, cs)) (hx : a.eval x = .pointer (some ⟨g, 0, none⟩))
    (hu : P.underlying ty = some d) (hd : (match d with | .struct _ | .array _ _ => true | _ => false) = true) (hs : (P.info? ty).map (·.size) = some cs.size) (hE : Env w0 rs w)
    (h : wpList P ops Q rest (a.put o.dst (.agg cs)) w) : wpList P ops Q (o :: rest) a w :=
  wpList_load_row hgd ty x ho g hx t cs (0, 0) d (hE.row i hi) hu hd hs h
theorem wpE_store (hgd : o.guard = none) (ty : TypeId) (x y : Operand) (ho : o.op = .store ty x y) (i g : Nat) (t : TypeId) (old cs : Array Value) (hi : rs[i]? = some (g, t, old)) (hx : a.eval x = .pointer (some ⟨g, 0, none⟩)) (hy : a.eval y = .agg cs)
    (hso : old.size = cs.size) (hs : (P.info? ty).map (·.size) = some cs.size) (h1 : ∀ u ∈ cs.toList, u.oneCell' = true) (hE : Env w0 rs w)
    (h : ∀ w', Env w0 (rs.set i (g, t, cs)) w' → wpList P ops Q rest (a.put o.dst undef) w') : wpList P ops Q (o :: rest) a w :=
  wpList_store_row hgd ty x y ho g t old cs hx hy (hE.row i hi) hso hs h1 fun w' p => h w' (hE.put i hi p)

/-- A part of a row, from its cell k on: read, and written. -/
theorem rangeAt_row {w : World} {g k n : Nat} {t : TypeId} {cs : Array Value} (hr : RowAt w g t cs) : w.rangeAt g k ((cs.toList.drop k).take n) := fun j v hv => by
  rw [hr.cell]
  rw [List.getElem?_take] at hv
  split at hv
  · rw [List.getElem?_drop] at hv
    simpa using hv
  · cases hv
theorem wpE_loadP (hgd : o.guard = none) (ty : TypeId) (x : Operand) (ho : o.op = .load ty x) (i g k : Nat) (t : TypeId) (cs : Array Value) (ps : List Value) (d : TypeDesc) (hi : rs[i]? = some (g, t, cs)) (hx : a.eval x = .pointer (some ⟨g, k, none⟩))
    (hp : (cs.toList.drop k).take ps.length = ps)
    (hu : P.underlying ty = some d) (hd : d.isRow = true) (hs : (P.info? ty).map (·.size) = some ps.length) (hE : Env w0 rs w)
    (h : wpList P ops Q rest (a.put o.dst (.agg ps.toArray)) w) : wpList P ops Q (o :: rest) a w :=
  wpList_load_mid hgd ty x ho g k hx ps d (by have := rangeAt_row (k := k) (n := ps.length) (hE.row i hi); rwa [hp] at this) hu hd hs h
theorem wpE_storeP (hgd : o.guard = none) (ty : TypeId) (x y : Operand) (ho : o.op = .store ty x y) (i g k : Nat) (t : TypeId) (old cs ps : Array Value) (hi : rs[i]? = some (g, t, old)) (hx : a.eval x = .pointer (some ⟨g, k, none⟩)) (hy : a.eval y = .agg ps)
    (hk : k + ps.size ≤ old.size) (hc : (old.toList.take k ++ ps.toList ++ old.toList.drop (k + ps.size)).toArray = cs) (hs : (P.info? ty).map (·.size) = some ps.size) (h1 : ∀ u ∈ ps.toList, u.oneCell' = true) (hE : Env w0 rs w)
    (h : ∀ w', Env w0 (rs.set i (g, t, cs)) w' → wpList P ops Q rest (a.put o.dst undef) w') : wpList P ops Q (o :: rest) a w := by
  refine wpList_plain hgd fun _ hK => ?_
  obtain ⟨f, hf, hz⟩ := Option.map_eq_some_iff.1 hs
  have hrun := run_storeCells_at (P := P) g k t ps.toList 0 old w (hE.row i hi) (by simpa using hk) h1
  have e : (old.toList.take (k + 0) ++ ps.toList ++ old.toList.drop (k + 0 + ps.toList.length)).toArray = cs := by rw [← hc, Nat.add_zero, Array.length_toList]
  rw [e] at hrun
  unfold Oper.wp execOp
  simp [ho, Instr.storeAt, Instr.sureAddr, storeVar, hx, hy, sizeOf, typeInfo, hf, hz, Value.cells, hrun]
  exact hK _ _ (h _ (hE.put i hi (setRow_put (hE.row i hi))))
end

/-! A region that draws its order: all but its last operations yield one value each wherever C holds; these are walked in the text's order. -/
section
variable {P : Program} {C : World → Prop} {ops : Array Oper}
theorem region_class_tail {id : Nat} {Q : Exit → Act → World → Prop} {a : Act} {w : World} {l : List Oper} (n : Nat) (C : World → Prop) (hC : C w.drew) (hm : P.follows .mixedOrders = true) (hB : Region.lexTailB .any l.toArray n = true)
    (h : wpQuiet P l.toArray C (fun a' => ∀ w', C w' → wpList P l.toArray Q (l.drop n) a' w') (l.take n) a) : (Code.region id l.toArray true).wp P Q a w := by
  simp only [Region.lexTailB, Bool.and_eq_true, decide_eq_true_eq] at hB
  obtain ⟨⟨⟨⟨hsel, hn⟩, hs⟩, hc⟩, hlex⟩ := hB
  have hn' : n < l.length := by simpa using hn
  have htl : (l.take n).length = n := by rw [List.length_take]; omega
  have hdl : (l.drop n).length = l.toArray.size - n := by simp
  have H := headQ_lex (md := .any) (g := l.toArray.size - n) hsel hs hc hn (l.take n) 0 (Array.replicate l.toArray.size false) a
    (fun j hj => by rw [htl] at hj; simp [hj]) (by rw [htl]; omega)
    ⟨by simp, fun j oj _ hl => (by rw [getD_replicate_false] at hl; cases hl), fun t _ ht => getD_in (by simpa using ht) (getD_replicate_false _ _)⟩ (by rw [htl]; exact hlex) h
  refine wp_region_any hm ?_
  have A := any_of_headQ (Q := Q) (g := l.toArray.size - n) (fun listed a' w' hw' hL => by
    have := wpAny_of_seq (md := .any) (Q' := Q) (l.drop n) n listed a' w' (fun j => by simp [List.getElem?_drop]) (by rw [hdl]; exact hL.1) (hL.2 w' hw')
    rwa [hdl] at this) (l.take n).length _ _ w.drew hC H
  rw [htl, show n + (l.toArray.size - n) = l.toArray.size by omega] at A
  exact A
theorem wp_assignE {o : Oper} {a : Act} {w : World} {K : Act → World → Prop} {Q : Exit → Act → World → Prop} (x : Operand) (ho : o.op = .assign x) (h : K (a.put o.dst (a.eval x)) w) : o.wp P a w K Q := by
  unfold Oper.wp execOp
  simp [ho]
  exact h
/-! The same, where behind the first n two operations are left that do not wait for one another, but for all the first ones. -/
def fullB (md : Region.Mode) (ops : Array Oper) (n : Nat) : Bool := (List.range ops.size).all fun j => decide (j < n) || (List.range n).all fun i => (ops[j]?).any fun oj => oj.after.any fun e => Region.binds md e && e.on == i
theorem fullB_spec {md : Region.Mode} {ops : Array Oper} {n i j : Nat} {oj : Oper} (h : fullB md ops n = true) (hj : ops[j]? = some oj) (hn : n ≤ j) (hi : i < n) : ∃ e ∈ oj.after, Region.binds md e = true ∧ e.on = i := by
  have h1 := List.all_eq_true.1 h j (List.mem_range.2 (Array.getElem?_eq_some_iff.1 hj).1)
  rw [decide_eq_false (by omega), Bool.false_or] at h1
  have h2 := List.all_eq_true.1 h1 i (List.mem_range.2 hi)
  rw [hj] at h2
  obtain ⟨e, he, hb⟩ := Array.any_eq_true'.1 h2
  simp only [Bool.and_eq_true, beq_iff_eq] at hb
  exact ⟨e, he, hb.1, hb.2⟩
def lexTo (md : Region.Mode) (ops : Array Oper) : Nat → Nat → Array Bool → Bool
  | 0, _, _ => true
  | f + 1, k, listed => (Region.ready md ops listed).contains k && Region.free md ops listed k && lexTo md ops f (k + 1) (listed.setIfInBounds k true)
def putTo : Nat → Nat → Array Bool → Array Bool
  | 0, _, listed => listed
  | f + 1, k, listed => putTo f (k + 1) (listed.setIfInBounds k true)
theorem headQ_firstF {md : Region.Mode} {n i : Nat} {oi : Oper} {v : Value} {L : Array Bool → Act → Prop} (hi : ops[i]? = some oi) (hsel : ∀ (j : Nat) (o : Oper) cs b, ops[j]? = some o → o.op ≠ .select cs b)
    (hfull : fullB md ops n = true) (hin : i < n) (hdone : ∀ listed a, L listed a → ∀ j ∈ Region.ready md ops listed, n ≤ j) (f : Nat) :
    ∀ (listed : Array Bool) (a : Act),
      (∀ j oj, ops[j]? = some oj → j ≠ i → listed.getD j true = false → (∀ e ∈ oj.after, Region.binds md e = true → e.on ≠ i) → oi.apart ops oj = true) →
      i ∈ Region.ready md ops listed → YieldsIn P ops C oi v a →
      headQ P md ops C n L f (listed.setIfInBounds i true) (a.put oi.dst v) → headQ P md ops C n L (f + 1) listed a := by
  have low : ∀ (listed : Array Bool), i ∈ Region.ready md ops listed → ∀ j ∈ Region.ready md ops listed, j < n := by
    intro listed hr j hj
    refine Nat.lt_of_not_le fun hge => ?_
    obtain ⟨hun, oj, hoj, hall⟩ := mem_ready.1 hj
    obtain ⟨e, he, hb, hon⟩ := fullB_spec hfull hoj hge hin
    have h1 := hall e he hb
    rw [hon, getD_both (mem_ready.1 hr).1] at h1
    cases h1
  induction f with
  | zero =>
    intro listed a _ hr hy H
    refine ⟨fun h0 => (by rw [h0] at hr; cases hr), fun j hj => ?_⟩
    have hlt := low listed hr j hj
    refine ⟨hlt, ?_⟩
    by_cases e : j = i
    · rw [e]; exact hy.qOp hi H
    · exact absurd hlt (Nat.not_lt.2 (hdone _ _ H j (ready_mono hj e)))
  | succ f ih =>
    intro listed a free hr hy H
    refine ⟨fun h0 => (by rw [h0] at hr; cases hr), fun j hj => ?_⟩
    have hlt := low listed hr j hj
    refine ⟨hlt, ?_⟩
    by_cases e : j = i
    · rw [e]; exact hy.qOp hi H
    · obtain ⟨hun, oj, hoj, hall⟩ := mem_ready.1 hj
      have hno : ∀ x ∈ oj.after, Region.binds md x = true → x.on ≠ i := fun x hx hb hon => by
        have h1 := hall x hx hb
        rw [hon, getD_both (mem_ready.1 hr).1] at h1
        cases h1
      have hboth := qOp_put hoj (free j oj hoj e hun hno) (fun cs b => hsel i oi cs b hi) (fun cs b => hsel j oj cs b hoj) hy (H.2 j (ready_mono hj e)).2
      refine qOp_mono (fun a' h3 => ?_) hboth
      refine ih _ a' (fun k ok hk hki hkun hkno => ?_) (ready_mono hr (Ne.symm e)) h3.1 ?_
      · refine free k ok hk hki ?_ hkno
        rcases Nat.decEq j k with hne | heq
        · rwa [getD_set_ne true hne] at hkun
        · rw [← heq]; exact hun
      · rw [Array.setIfInBounds_comm _ _ e]; exact h3.2
theorem headQ_lexF {md : Region.Mode} {n : Nat} {K : Act → Prop} (hsel : Region.noSelect ops = true) (hfull : fullB md ops n = true) (l : List Oper) :
    ∀ (k : Nat) (listed fin : Array Bool) (a : Act), (∀ j, j < l.length → l[j]? = ops[k + j]?) → k + l.length = n → fin = putTo l.length k listed → (∀ j ∈ Region.ready md ops fin, n ≤ j) →
    lexTo md ops l.length k listed = true → wpQuiet P ops C K l a →
    headQ P md ops C n (fun listed' a' => listed' = fin ∧ K a') l.length listed a := by
  induction l with
  | nil =>
    intro k listed fin a _ _ hf _ _ h
    exact ⟨hf.symm, h⟩
  | cons o l ih =>
    intro k listed fin a hl hk hf hd hB h
    simp only [List.length_cons, lexTo, Bool.and_eq_true] at hB hk
    have h0 : ops[k]? = some o := by simpa using (hl 0 (by simp)).symm
    have hst : qOp P ops C k (wpQuiet P ops C K l) a := by unfold qOp; simp only [h0]; exact h
    obtain ⟨v, hy, hK⟩ := yieldsIn_of_qOp h0 hst
    have hr : k ∈ Region.ready md ops listed := by simpa using hB.1.1
    refine headQ_firstF h0 (Region.noSelect_spec hsel) hfull (by omega) (fun listed' a' hL j hj => by rw [hL.1] at hj; exact hd j hj) l.length listed a (Region.free_spec h0 hB.1.2) hr hy ?_
    refine ih (k + 1) _ fin _ (fun j hj => ?_) (by omega) hf hd hB.2 hK
    have := hl (j + 1) (by simp; omega)
    simpa [Nat.add_assoc, Nat.add_comm 1 j] using this
/-- Two are left, in whichever order. -/
theorem any_pair {md : Region.Mode} {Q : Exit → Act → World → Prop} {i j : Nat} {oi oj : Oper} {listed : Array Bool} {a : Act} {w : World} (hi : ops[i]? = some oi) (hj : ops[j]? = some oj)
    (h0 : Region.ready md ops listed = [i, j]) (h1 : Region.ready md ops (listed.setIfInBounds i true) = [j]) (h2 : Region.ready md ops (listed.setIfInBounds j true) = [i])
    (h3 : Region.ready md ops ((listed.setIfInBounds i true).setIfInBounds j true) = []) (h4 : Region.ready md ops ((listed.setIfInBounds j true).setIfInBounds i true) = [])
    (hgi : oi.guard = none) (hgj : oj.guard = none)
    (ha : oi.wp P a w (fun a' w' => oj.wp P a' w' (Q .normal) Q) Q) (hb : oj.wp P a w (fun a' w' => oi.wp P a' w' (Q .normal) Q) Q) : wpAny P md ops Q 2 listed a w := by
  have wi : ∀ a : Act, Region.wanted oi (yielded ops a.tmps) = true := fun a => by simp [Region.wanted, hgi]
  have wj : ∀ a : Act, Region.wanted oj (yielded ops a.tmps) = true := fun a => by simp [Region.wanted, hgj]
  refine ⟨fun h => (by rw [h0] at h; cases h), fun k hk => ?_⟩
  rw [h0] at hk
  rcases List.mem_cons.1 hk with rfl | hk
  · unfold wpOp
    simp only [hi, wi, if_true]
    refine .inl (Oper.wp_mono (fun a' w' hw => ?_) ha)
    refine ⟨fun h => (by rw [h1] at h; cases h), fun k hk => ?_⟩
    rw [h1] at hk
    obtain rfl : k = j := by simpa using hk
    unfold wpOp
    simp only [hj, wj, if_true]
    exact .inl (Oper.wp_mono (fun a' w' hw => ⟨h3, hw⟩) hw)
  · obtain rfl : k = j := by simpa using hk
    unfold wpOp
    simp only [hj, wj, if_true]
    refine .inl (Oper.wp_mono (fun a' w' hw => ?_) hb)
    refine ⟨fun h => (by rw [h2] at h; cases h), fun k' hk' => ?_⟩
    rw [h2] at hk'
    obtain rfl : k' = i := by simpa using hk'
    unfold wpOp
    simp only [hi, wi, if_true]
    exact .inl (Oper.wp_mono (fun a' w' hw => ⟨h4, hw⟩) hw)
theorem region_class_pair {id : Nat} {Q : Exit → Act → World → Prop} {a : Act} {w : World} {l : List Oper} {oi oj : Oper} (n : Nat) (C : World → Prop) (hC : C w.drew) (hm : P.follows .mixedOrders = true)
    (hB : (Region.noSelect l.toArray && fullB .any l.toArray n && lexTo .any l.toArray n 0 (Array.replicate l.toArray.size false) && decide (l.toArray.size = n + 2)) = true)
    (h0 : Region.ready .any l.toArray (putTo n 0 (Array.replicate l.toArray.size false)) = [n, n + 1]) (h1 : Region.ready .any l.toArray ((putTo n 0 (Array.replicate l.toArray.size false)).setIfInBounds n true) = [n + 1]) (h2 : Region.ready .any l.toArray ((putTo n 0 (Array.replicate l.toArray.size false)).setIfInBounds (n + 1) true) = [n])
    (h3 : Region.ready .any l.toArray (((putTo n 0 (Array.replicate l.toArray.size false)).setIfInBounds n true).setIfInBounds (n + 1) true) = []) (h4 : Region.ready .any l.toArray (((putTo n 0 (Array.replicate l.toArray.size false)).setIfInBounds (n + 1) true).setIfInBounds n true) = [])
    (hi : l.toArray[n]? = some oi) (hj : l.toArray[n + 1]? = some oj) (hgi : oi.guard = none) (hgj : oj.guard = none)
    (h : wpQuiet P l.toArray C (fun a' => ∀ w', C w' → oi.wp P a' w' (fun a' w' => oj.wp P a' w' (Q .normal) Q) Q ∧ oj.wp P a' w' (fun a' w' => oi.wp P a' w' (Q .normal) Q) Q) (l.take n) a) : (Code.region id l.toArray true).wp P Q a w := by
  simp only [Bool.and_eq_true, decide_eq_true_eq] at hB
  obtain ⟨⟨⟨hsel, hfull⟩, hlex⟩, hsz⟩ := hB
  have hsz' : l.length = n + 2 := by simpa using hsz
  have htl : (l.take n).length = n := by rw [List.length_take]; omega
  have H := headQ_lexF (md := .any) hsel hfull (l.take n) 0 (Array.replicate l.toArray.size false) _ a (fun j hj => by rw [htl] at hj; simp [hj]) (by rw [htl]; omega) rfl (by
    rw [htl, h0]
    intro j hj
    simp only [List.mem_cons, List.not_mem_nil, or_false] at hj
    omega) (by rw [htl]; exact hlex) h
  refine wp_region_any hm ?_
  have A := any_of_headQ (Q := Q) (g := 2) (fun listed a' w' hw' hL => by
    obtain ⟨hl, hK⟩ := hL
    rw [htl] at hl
    subst hl
    exact any_pair hi hj h0 h1 h2 h3 h4 hgi hgj (hK w' hw').1 (hK w' hw').2) (l.take n).length _ _ w.drew hC H
  rw [htl, ← hsz] at A
  exact A
theorem region_class {id : Nat} {Q : Exit → Act → World → Prop} {a : Act} {w : World} {l : List Oper} (C : World → Prop) (hC : C w.drew) (hm : P.follows .mixedOrders = true) (hB : Region.lexB .any l.toArray = true)
    (h : wpQuiet P l.toArray C (fun a' => ∀ w', C w' → Q .normal a' w') l a) : (Code.region id l.toArray true).wp P Q a w := by
  exact wp_region_quiet (C := C) hm hB hC (by simpa using h)

variable {rest : List Oper} {o : Oper} {a : Act} {K : Act → Prop}
theorem q_step (hw : Region.wanted o (yielded ops a.tmps) = true) {v : Value} (hv : ∀ w, C w → o.quietAt P a C w v) (h : wpQuiet P ops C K rest (a.put o.dst v)) : wpQuiet P ops C K (o :: rest) a := by
  refine wpQuiet_step fun K' hK => ?_
  rw [if_pos hw]
  exact ⟨v, hv, hK _ h⟩
theorem q_skip (hw : Region.wanted o (yielded ops a.tmps) = false) (h : wpQuiet P ops C K rest (a.put o.dst undef)) : wpQuiet P ops C K (o :: rest) a := by
  refine wpQuiet_step fun K' hK => ?_
  rw [hw]
  exact hK _ h
/-- It yields v and leaves the world. -/
theorem q_run (hw : Region.wanted o (yielded ops a.tmps) = true) {v : Value} (hv : ∀ w, C w → (execOp a.eval o).run P w = .ok (.value v) w) (h : wpQuiet P ops C K rest (a.put o.dst v)) : wpQuiet P ops C K (o :: rest) a :=
  q_step hw (fun w hC => by unfold Oper.quietAt; rw [hv w hC]; exact ⟨rfl, rfl⟩) h
theorem q_call (hw : Region.wanted o (yielded ops a.tmps) = true) {v : Value} (f : FuncId) (args : Array Value) (hr : ∀ w, (execOp a.eval o).run P w = .ok (.enter f args) w)
    (hv : ∀ w, C w → Calls P f args w fun e w' => e = .returned v ∧ C w') (h : wpQuiet P ops C K rest (a.put o.dst v)) : wpQuiet P ops C K (o :: rest) a :=
  q_step hw (fun w hC => by unfold Oper.quietAt; rw [hr w]; exact ⟨rfl, hv w hC⟩) h
variable {w0 : World} {rs : List (Nat × TypeId × Array Value)}
theorem qE_load (hw : Region.wanted o (yielded ops a.tmps) = true) (ty : TypeId) (x : Operand) (ho : o.op = .load ty x) (i g : Nat) (t : TypeId) (cs : Array Value) (d : TypeDesc) (hi : rs[i]? = some (g, t, cs)) (hx : a.eval x = .pointer (some ⟨g, 0, none⟩))
    (hu : P.underlying ty = some d) (hd : (match d with | .struct _ | .array _ _ => true | _ => false) = true) (hs : (P.info? ty).map (·.size) = some cs.size)
    (h : wpQuiet P ops (Env w0 rs) K rest (a.put o.dst (.agg cs))) : wpQuiet P ops (Env w0 rs) K (o :: rest) a :=
  q_run hw (fun w hE => run_load_row ty x ho g hx t cs (0, 0) d (hE.row i hi) hu hd hs) h
/-- What lies there already is stored once more. -/
theorem qE_same (hw : Region.wanted o (yielded ops a.tmps) = true) (ty : TypeId) (x y : Operand) (ho : o.op = .store ty x y) (i g : Nat) (t : TypeId) (cs : Array Value) (hi : rs[i]? = some (g, t, cs)) (hx : a.eval x = .pointer (some ⟨g, 0, none⟩)) (hy : a.eval y = .agg cs)
    (hs : (P.info? ty).map (·.size) = some cs.size) (h1 : ∀ u ∈ cs.toList, u.oneCell' = true)
    (h : wpQuiet P ops (Env w0 rs) K rest (a.put o.dst undef)) : wpQuiet P ops (Env w0 rs) K (o :: rest) a := by
  refine q_step hw (v := undef) (fun w hE => ?_) h
  obtain ⟨f, hf, hz⟩ := Option.map_eq_some_iff.1 hs
  have hg := hE.row i hi
  have hrun := run_storeCells_at (P := P) g 0 t cs.toList 0 cs w hg (by simp) h1
  have he : (cs.toList.take (0 + 0) ++ cs.toList ++ cs.toList.drop (0 + 0 + cs.toList.length)).toArray = cs := by
    rw [List.drop_eq_nil_of_le (by simp)]
    simp
  rw [he, setRow_self w g cs t (0, 0) hg] at hrun
  unfold Oper.quietAt execOp
  simp [ho, Instr.storeAt, Instr.sureAddr, storeVar, hx, hy, sizeOf, typeInfo, hf, hz, Value.cells, hrun, Oper.quietUpon]
/-- A call whose contract is 'it came back with v; what was there is as it was'. -/
theorem Env.calls {f : FuncId} {args : Array Value} {w : World} {v : Value} (hE : Env w0 rs w) (h : Calls P f args w (RetV w v)) : Calls P f args w fun e w' => e = .returned v ∧ Env w0 rs w' := h.mono fun e w' ⟨he, hb⟩ => ⟨he, hE.call hb⟩
theorem Env.callsQ {f : FuncId} {args : Array Value} {w : World} {v : Value} (hE : Env w0 rs w) (h : Calls P f args w fun e w' => e = .returned v ∧ w = w') : Calls P f args w fun e w' => e = .returned v ∧ Env w0 rs w' := h.mono fun e w' ⟨he, hb⟩ => ⟨he, hb ▸ hE⟩
end
end Go.Proofs.YtlifjlcfoeednaaDoor
end
section
namespace Go.Proofs.YtlifjlcfoeednaaDoor
open Go.RowKit

theorem Tryd.sizeOfB (w : World) : (sizeOf 5).run Tryd.prog w = .ok 1 w := by kernel_rfl
theorem Tryd.eqKeyIn (a b : List UInt8) (ha : a.length = 32) (hb : b.length = 32) (w : World) :
    (Op.equalIn 10000 24 (.agg (keyC a)) (.agg (keyC b))).run Tryd.prog w = .ok (a == b) w :=
  run_equalIn_bytes w 9998 24 5 32 Tryd.underlying24 Tryd.underlying5 Tryd.sizeOfB a b ha hb
theorem Tryd.eqGuardKey : Tryd.prog.eqGuardType Tryd.prog.depth 24 = false := by kernel_rfl
theorem zeroLit : (#[.int .u8 0, .int .u8 0, .int .u8 0, .int .u8 0, .int .u8 0, .int .u8 0, .int .u8 0, .int .u8 0, .int .u8 0, .int .u8 0, .int .u8 0, .int .u8 0, .int .u8 0, .int .u8 0, .int .u8 0, .int .u8 0, .int .u8 0, .int .u8 0, .int .u8 0, .int .u8 0, .int .u8 0, .int .u8 0, .int .u8 0, .int .u8 0, .int .u8 0, .int .u8 0, .int .u8 0, .int .u8 0, .int .u8 0, .int .u8 0, .int .u8 0, .int .u8 0] : Array Value) = keyC zeroKey := rfl
theorem Tryd.eqZeroIn (w : World) : (Op.equalIn 10000 24 (.agg (keyC zeroKey)) (.agg #[.int .u8 0, .int .u8 0, .int .u8 0, .int .u8 0, .int .u8 0, .int .u8 0, .int .u8 0, .int .u8 0, .int .u8 0, .int .u8 0, .int .u8 0, .int .u8 0, .int .u8 0, .int .u8 0, .int .u8 0, .int .u8 0, .int .u8 0, .int .u8 0, .int .u8 0, .int .u8 0, .int .u8 0, .int .u8 0, .int .u8 0, .int .u8 0, .int .u8 0, .int .u8 0, .int .u8 0, .int .u8 0, .int .u8 0, .int .u8 0, .int .u8 0, .int .u8 0])).run Tryd.prog w = .ok true w := by
  rw [zeroLit, Tryd.eqKeyIn zeroKey zeroKey zeroKey_length zeroKey_length w, beq_self_eq_true]
end Go.Proofs.YtlifjlcfoeednaaDoor
end
section
namespace Go.Proofs.YtlifjlcfoeednaaDoor
open Go.RowKit
set_option linter.unusedVariables false

theorem flat_length (ls : List (List UInt8)) (h : ∀ l ∈ ls, l.length = 32) : ls.flatten.length = ls.length * 32 := by
  induction ls with
  | nil => rfl
  | cons l ls ih =>
    rw [List.flatten_cons, List.length_append, h l List.mem_cons_self, ih fun m hm => h m (List.mem_cons_of_mem _ hm), List.length_cons, Nat.add_mul]
    omega
theorem flat_part (ls : List (List UInt8)) (h : ∀ l ∈ ls, l.length = 32) : ∀ (k : Nat) (l : List UInt8), ls[k]? = some l → (ls.flatten.drop (k * 32)).take 32 = l := by
  induction ls with
  | nil => intro k l hk; cases hk
  | cons m ls ih =>
    intro k l hk
    have hm := h m List.mem_cons_self
    cases k with
    | zero =>
      obtain rfl : m = l := by simpa using hk
      rw [List.flatten_cons, Nat.zero_mul, List.drop_zero, List.take_left' hm]
    | succ k =>
      rw [List.flatten_cons, List.drop_append, List.drop_of_length_le (by omega), List.nil_append, show (k + 1) * 32 - m.length = k * 32 by omega]
      exact ih (fun x hx => h x (List.mem_cons_of_mem _ hx)) k l (by simpa using hk)
theorem keys_part (ls : List (List UInt8)) (h : ∀ l ∈ ls, l.length = 32) (k : Nat) (l : List UInt8) (hk : ls[k]? = some l) : ((keyC ls.flatten).toList.drop (k * 32)).take (cellsB l).length = cellsB l := by
  have hl : l.length = 32 := h l (List.mem_of_getElem? hk)
  have e : (keyC ls.flatten).toList = cellsB ls.flatten := by simp [keyC]
  rw [e, cellsB_length, hl]
  unfold cellsB
  rw [← List.map_drop, ← List.map_take, flat_part ls h k l hk]
theorem keys_flat : ∀ ls : List (List UInt8), ((ls.map fun l => Value.agg (keyC l)).flatMap fun v => v.cells.toList).toArray = keyC ls.flatten := by
  intro ls
  have key : ((ls.map fun l => Value.agg (keyC l)).flatMap fun v => v.cells.toList) = cellsB ls.flatten := by
    induction ls with
    | nil => rfl
    | cons l ls ih =>
      rw [List.map_cons, List.flatMap_cons, ih, List.flatten_cons]
      simp [Value.cells, keyC, cellsB]
  rw [key]
  rfl

section
variable {P : Program} {w0 w : World} {rs : List (Nat × TypeId × Array Value)} {ops : Array Oper} {rest : List Oper} {o : Oper} {a : Act} {Q : Exit → Act → World → Prop}
/-- A slice of keys is built. -/
theorem wpE_buildKeys (hgd : o.guard = none) (ty e : TypeId) (len : Nat) (parts : Array (Nat × Operand)) (ho : o.op = .buildSlice ty len parts) (ls : List (List UInt8)) (hl : ∀ l ∈ ls, l.length = 32) (hlen : ls.length = len) (hpos : 0 < len) (hsm : len * 32 ≤ 2 ^ 24)
    (hp : (parts.map fun (i, x) => (i, a.eval x)).toList = ((ls.map fun l => Value.agg (keyC l)).zipIdx 0).map fun x => (x.2, x.1))
    (hu : P.underlying ty = some (.slice e)) (hsz : (P.info? e).map (·.size) = some 32) (z : Array Value) (hz : (P.info? e).map (·.zero) = some (some (.agg z)))
    (hE : Env w0 rs w) (h : ∀ g w', Env w0 ((g, e, keyC ls.flatten) :: rs) w' → wpList P ops Q rest (a.put o.dst (.slice (some ⟨g, 0, none⟩) len len)) w') : wpList P ops Q (o :: rest) a w := by
  obtain ⟨ie, hie, hs⟩ := Option.map_eq_some_iff.1 hsz
  obtain ⟨ie2, hie2, hz2⟩ := Option.map_eq_some_iff.1 hz
  obtain rfl : ie = ie2 := by rw [hie] at hie2; exact Option.some.inj hie2
  refine wpList_buildSlice hgd ty e len parts ho (keyC ls.flatten) ie (.agg z) hu hie hz2 (by rw [hs]; omega) (by rw [hs]; omega) ?_ (h _ _ (hE.new (NewRow.mk_ w e _)))
  rw [hp, hs, ← keys_flat ls]
  refine Great.fill_whole (by omega) _ _ (fun v hv => ?_) (by simp [hlen])
  obtain ⟨l, hm, rfl⟩ := List.mem_map.1 hv
  simp [Value.cells, keyC_size, hl l hm]
/-- The address of a slice's key. -/
theorem run_keyAddr (ty e : TypeId) (x y : Operand) (ho : o.op = .indexAddr ty x y) (g n c k : Nat) (hx : a.eval x = .slice (some ⟨g, 0, none⟩) n c) (hy : a.eval y = .int .i64 (k : Int)) (hk : k < n)
    (hu : P.underlying ty = some (.slice e)) (hs : (P.info? e).map (·.size) = some 32) : (execOp a.eval o).run P w = .ok (.value (.pointer (some ⟨g, k * 32, none⟩))) w := by
  obtain ⟨f, hf, hz⟩ := Option.map_eq_some_iff.1 hs
  unfold execOp
  simp only [ho, hx, hy]
  simp [Instr.indexAt, asIntOf, run_underlying hu, sizeOf, typeInfo, hf, hz, hk, Addr.add, go_sem]
  exact fun h0 => h0.symm
/-- A slice's key is read. -/
theorem run_keyOf (ty : TypeId) (x : Operand) (ho : o.op = .load ty x) (g k : Nat) (hx : a.eval x = .pointer (some ⟨g, k * 32, none⟩)) (t : TypeId) (ls : List (List UInt8)) (h : ∀ l ∈ ls, l.length = 32) (l : List UInt8) (hk : ls[k]? = some l) (d : TypeDesc) (hr : RowAt w g t (keyC ls.flatten))
    (hu : P.underlying ty = some d) (hd : d.isRow = true) (hs : (P.info? ty).map (·.size) = some (cellsB l).length) : (execOp a.eval o).run P w = .ok (.value (.agg (keyC l))) w := by
  have hc : w.rangeAt g (k * 32) (cellsB l) := by
    have h1 := rangeAt_row (k := k * 32) (n := (cellsB l).length) hr
    rwa [keys_part ls h k l hk] at h1
  unfold execOp
  simp only [ho, hx, Instr.loadAt, Instr.sureAddr, Sem.run_bind, Sem.run_pure, Result.andThen_ok, run_loadVar_mid w g (k * 32) ty (cellsB l) d hc hu hd hs]
  rfl
end
theorem Env.off {w0 w : World} {r : Nat × TypeId × Array Value} {rs : List (Nat × TypeId × Array Value)} (h : Env w0 (r :: rs) w) : Env w0 rs w := h.less (List.sublist_cons_self _ _)
theorem Tryd.keyCells (l : List UInt8) (h : l.length = 32) : (Tryd.prog.info? 24).map (·.size) = some (cellsB l).length := by
  have := Tryd.sizeKey l h
  rwa [show (keyC l).size = (cellsB l).length by simp [keyC]] at this
theorem Tryd.key32 : (Tryd.prog.info? 24).map (·.size) = some 32 := by
  have := Tryd.keyCells zeroKey zeroKey_length
  rwa [cellsB_length, zeroKey_length] at this
end Go.Proofs.YtlifjlcfoeednaaDoor
end
