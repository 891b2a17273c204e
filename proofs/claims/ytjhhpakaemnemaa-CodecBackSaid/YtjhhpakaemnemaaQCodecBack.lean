/-
  CodecBack: for every input the call returns true, and each argument reads as it read before. Conditions: none beyond the given statement's own.
-/
import Derived.Test.YtjhhpakaemnemaaQCorAJ
import Derived.Test.YtjhhpakaemnemaaQCorAM
import Derived.Test.YtjhhpakaemnemaaRows
import Derived.OpenShut
import Derived.ShutString
import Derived.ChangeOld
section
namespace Go.Proofs.Ytjhhpakaemnemaa
open Go.RowKit
set_option linter.unusedVariables false
set_option maxRecDepth 20000

theorem Try.infoI64 : (Try.prog.info? 3).map (fun i => (i.zero, i.size, i.bytes)) = some (some (.int .i64 0), 1, 8) := by kernel_rfl
theorem wpList_appIntO {w0 w : World} {ops : Array Oper} {rest : List Oper} {o : Oper} {a : Act} {Q : Exit → Act → World → Prop} (hgd : o.guard = none) (s x : Operand)
    (ho : o.op = .call { callee := .builtin .append, args := #[s, x], argTypes := #[33, 33] })
    (v : Value) (xs : List Value) (z : Int) (n b : Nat) (hs : a.eval s = v) (hx : a.eval x = .slice (some ⟨b, 0, none⟩) 1 1) (hrow : RowAt w b 3 #[.int .i64 z]) (hlen : n ≤ 1000)
    (hown : w.ownsRow w0.heap.size 3 1 v n xs) (hb : w0.heap.size ≤ w.heap.size)
    (h : ∀ v' w', w'.ownsRow w0.heap.size 3 1 v' (n + 1) (xs ++ [.int .i64 z]) → w.grownBy w' v.ownBlock → wpList Try.prog ops Q rest (a.put o.dst v') w') : wpList Try.prog ops Q (o :: rest) a w := by
  refine wpList_plain hgd fun _ hK => ?_
  obtain ⟨i0, hi0, hz0, hz1, hz2⟩ := info_parts Try.infoI64
  refine wp_append_own w s x 33 ho w0.heap.size 3 i0 (.int .i64 0) 1 8 Try.underlying33 hi0 hz0 hz1 hz2 rfl (by decide) v n xs hs hown ⟨b, 0, none⟩ 1 1 [.int .i64 z] hx rfl (fun j y hj => ?_) (by intro u hu; simp at hu; subst hu; rfl) (by unfold maxLen; omega) (by omega) hb fun v2 W2 ho2 hg2 _ => ?_
  · have hadd : (⟨b, 0, none⟩ : Addr).add j = ⟨b, j, none⟩ := by unfold Addr.add; split <;> simp_all
    rw [hadd, hrow.cell j]
    simpa using hj
  · exact hK _ _ (h v2 W2 ho2 hg2)
/-- Two own rows of unlike types: one grows, the other stays. -/
theorem owns_beside {w w' : World} {b1 b2 n1 n2 s1 s2 : Nat} {e1 e2 : TypeId} {v1 v2 : Value} {x1 x2 : List Value} (h1 : w.ownsRow b1 e1 s1 v1 n1 x1) (h2 : w.ownsRow b2 e2 s2 v2 n2 x2) (hne : e1 ≠ e2) (hg : w.grownBy w' v2.ownBlock) : w'.ownsRow b1 e1 s1 v1 n1 x1 := by
  refine World.ownsRow.kept h1 hg ?_
  rcases h1.2 with ⟨rfl, _⟩ | ⟨g, cap, cur, rfl, _, hc, _⟩
  · exact .inl rfl
  · refine .inr fun e => ?_
    obtain ⟨cs, hcs⟩ := own_typed h2 g e.symm
    have e3 := hc.symm.trans hcs
    injection e3 with e3
    injection e3 with _ e4 _
    exact hne e4
theorem Zs.of_own {w : World} {base : Nat} {v : Value} {l : List Int} (h : w.ownsRow base 3 1 v l.length (l.map (Value.int .i64))) : Zs w v l := by
  rcases h.2 with ⟨rfl, h0⟩ | ⟨g, cap, cur, rfl, _, hg, h1, h2, h3, h4⟩
  · obtain rfl : l = [] := List.eq_nil_of_length_eq_zero h0
    exact ⟨none, 0, rfl, Nat.le_refl _, by simp [maxLen], fun h => absurd h (by simp)⟩
  · refine ⟨_, cap, rfl, h1, h2, fun _ => ⟨g, 0, rfl, fun j hj => ?_⟩⟩
    have hcell := World.ownsRow.cellAt h j (by omega)
    rw [Nat.zero_add, hcell]
    simp [hj]
/-- What the law wants of the items' cells: each kind's own field. -/
def ownB (its : List It) (bv : Nat → Value) (j : Nat) : Value := if (its.getD j default).k = 9 then bv j else .slice none 0 0
def ownL (its : List It) (lv : Nat → Value) (j : Nat) : Value := if (its.getD j default).k = 32 then lv j else .slice none 0 0
theorem own_ok {w : World} {its : List It} {bv lv : Nat → Value} (h : ∀ (j : Nat) x, its[j]? = some x → Bs w (bv j) x.b ∧ Kl w (lv j) x.l ∧ x.n < 18446744073709551616) : ∀ (j : Nat) x, (its.map It.own)[j]? = some x → Bs w (ownB its bv j) x.b ∧ Kl w (ownL its lv j) x.l ∧ x.n < 18446744073709551616 := by
  intro j x hx
  rw [List.getElem?_map, Option.map_eq_some_iff] at hx
  obtain ⟨y, hy, rfl⟩ := hx
  obtain ⟨h1, h2, h3⟩ := h j y hy
  have hg : its.getD j default = y := by rw [List.getD_eq_getElem?_getD, hy]; rfl
  unfold ownB ownL It.own
  rw [hg]
  by_cases h9 : y.k = 9
  · rw [if_pos h9, if_pos h9, if_neg (by omega)]
    exact ⟨h1, Kl.nil _, Nat.zero_lt_succ _⟩
  · rw [if_neg h9, if_neg h9]
    by_cases hk : y.k = 32
    · rw [if_pos hk, if_pos hk]
      exact ⟨Bs.nil _, h2, Nat.zero_lt_succ _⟩
    · rw [if_neg hk, if_neg hk]
      exact ⟨Bs.nil _, Kl.nil _, h3⟩
-- WALK
theorem own_not_new {w5 : World} {base e sz n g : Nat} {v : Value} {xs : List Value} (h : w5.ownsRow base e sz v n xs) (hg : g = w5.heap.size) : v.ownBlock ≠ some g := fun e => by
  rcases h.2 with ⟨rfl, _⟩ | ⟨k, cap, cur, rfl, _, hc, _⟩
  · cases e
  · have hk := (Array.getElem?_eq_some_iff.1 hc).1
    have e2 : some k = some g := e
    injection e2 with e2
    omega
theorem own_set_alloc {w : World} {base e sz n g F : Nat} {v u : Value} {xs : List Value} {o : Obj} (h : w.ownsRow base e sz v n xs) (hg : v.ownBlock ≠ some g) : ((w.setCell ⟨g, F, none⟩ u).alloc o).ownsRow base e sz v n xs :=
  owned_far (row := none) (World.ownsRow.kept h (grown_setCell w g F u) (.inr hg)) (grown_of_below (alloc_below _ _)) (fun r e => by cases e)
theorem size_set_alloc {w w3 : World} {g F : Nat} {u : Value} {o : Obj} (h : w3.heap.size ≤ w.heap.size) : w3.heap.size ≤ ((w.setCell ⟨g, F, none⟩ u).alloc o).heap.size := by
  simp
  omega
theorem below_set_alloc {w w3 : World} {g F : Nat} {v : Value} {cs : Array Value} {t : TypeId} (h : Below w3.heap.size w3 w) (hg : w3.heap.size ≤ g) : Below w3.heap.size w3 ((w.setCell ⟨g, F, none⟩ v).alloc (.cells cs t)) :=
  below_size (h.grown (grown_setCell w g F v) h.size (fun k e => by injection e with e; omega)) (alloc_below _ _)
theorem row_new_set (w : World) (g F : Nat) (v : Value) (t : TypeId) (cs : Array Value) : RowAt ((w.setCell ⟨g, F, none⟩ v).alloc (.cells cs t)) w.heap.size t cs := by
  have h := RowAt.new (w.setCell ⟨g, F, none⟩ v) t cs
  have hs : (w.setCell ⟨g, F, none⟩ v).heap.size = w.heap.size := by simp
  rw [hs] at h
  exact h

theorem lit_own (w : World) (l : List UInt8) (c : Array Value) (hc : c.toList = cellsB l) (hm : l.length ≤ maxLen) : OwnB (w.alloc (.cells c 5)) w.heap.size 5 (.slice (some ⟨w.heap.size, 0, none⟩) l.length l.length) l := by
  have h := World.ownsRow_lit (base := w.heap.size) (e := 5) (size := 1) w c l.length (Nat.le_refl _) hm (by rw [← Array.length_toList, hc, cellsB_length]; omega)
  rw [hc] at h
  exact h
set_option maxHeartbeats 8000000 in
theorem codecBack_walk (w : World) (v : Value) (its : List It) (h : Its w v its) (left : Int) :
    Calls Try.prog 6 #[v, .int .i64 left] w (RetV w (.bool true)) := by
  have HH := Lib.hid h
  have HA := Lib.hid (fun w => awake_true w)
  have HS := Lib.hid (fun w v h => short_any w v its h)
  obtain ⟨E, hE⟩ : ∃ E : Int, E = if its.any (fun x => badK x.k) = true then 51 else (encS its).e := ⟨_, rfl⟩
  obtain ⟨L, hL⟩ : ∃ L, L = if its.any (fun x => badK x.k) = true then [] else (encS its).l := ⟨_, rfl⟩
  have H1 : Hid (∀ w v, its.length ≤ 1000 → Its w v its → Calls Try.prog 11 #[v] w fun e w' => Below w.heap.size w w' ∧ ∃ u, e = .returned (.tuple #[u, .int .i64 E]) ∧ Bs w' u L) := fun w v hl h => by rw [hE, hL]; exact encode_val w v its h hl
  have H3 := Lib.hid (fun w v its h hl => doc_any w v its h hl)
  obtain ⟨bv, lv, ⟨A, c, rfl, q1, q2, q3⟩, hI⟩ := h
  have Q3 := Lib.hid q3
  have HI := Lib.hid hI
  have H32 : ∀ x ∈ its, ∀ l ∈ x.l, l.length = 32 := fun x hx l hl => by
    obtain ⟨j, hj⟩ := List.mem_iff_getElem?.1 hx
    obtain ⟨_, _, _, _, _, h4, _⟩ := (hI j x hj).2.1
    exact h4 l hl
  have HEN : Hid (E ≠ 0 → L = []) := fun he => by
    rw [hL]; rw [hE] at he
    by_cases hb : its.any (fun x => badK x.k) = true
    · rw [if_pos hb]
    · rw [if_neg hb] at he ⊢
      exact encS_inv its he
  have HLN : Hid (L.length ≤ 4002 * its.length) := by
    show _ ≤ _
    rw [hL]
    split
    · simp
    · exact encS_length its H32
  obtain ⟨KS, hKS⟩ : ∃ KS, KS = its.map It.k := ⟨_, rfl⟩
  obtain ⟨D, hD⟩ : ∃ D, D = its.map It.own := ⟨_, rfl⟩
  have HBK : Hid (E = 0 → decY KS L = 0 ∧ decI KS L = D ∧ decY KS (L ++ [0]) = 50 ∧ ∀ n, n < L.length → decY KS (L.take n) = 3) := fun he => by
    rw [hE] at he
    by_cases hb : its.any (fun x => badK x.k) = true
    · rw [if_pos hb] at he; exact absurd he (by decide)
    · rw [if_neg hb] at he hL
      have hb2 : its.any (fun x => badK x.k) = false := by simpa using hb
      have hk : ¬ (KS.any badK = true) := by rw [hKS, List.any_map]; simpa [Function.comp_def] using hb
      obtain ⟨⟨r1, r2⟩, r3, r4⟩ := enc_read its hb2 H32 he
      rw [← hL, ← hKS] at r1 r2 r3 r4
      unfold decY decI
      rw [if_neg hk, if_neg hk, if_neg hk, if_pos r2, r2, r3, r1]
      exact ⟨rfl, hD.symm, rfl, fun n hn => by rw [if_neg hk, r4 n hn]⟩
  have HDE : Hid (∀ w v u b, KS.length ≤ 1000 → Zs w v KS → Bs w u b → b.length ≤ 1000000 → Calls Try.prog 15 #[v, u] w fun e w' => Below w.heap.size w w' ∧ ∃ v', e = .returned (.tuple #[v', .int .i64 (decY KS b)]) ∧ Its w' v' (decI KS b)) := fun w v u b h0 h1 h2 h3 => (decode_any w v u KS b h1 h2 h0 (by omega)).mono fun e w' ⟨x1, x2⟩ => ⟨x1, dec_val x2⟩
  have HKL : Hid (KS.length = its.length) := by show _ = _; rw [hKS, List.length_map]
  have HDL : Hid (D.length = its.length) := by show _ = _; rw [hD, List.length_map]
  have HKN0 : Hid (∀ (j : Nat) x, its[j]? = some x → (KS.take (j + 1)).map (Value.int .i64) = (KS.take j).map (Value.int .i64) ++ [.int .i64 x.k]) := fun j x hx => by rw [hKS, List.take_add_one, List.getElem?_map, hx, List.map_append]; rfl
  have HDG : Hid (∀ (j : Nat) x, its[j]? = some x → D[j]? = some x.own) := fun j x hx => by rw [hD, List.getElem?_map, hx]; rfl
  have HOK : Hid (∀ (j : Nat) x, D[j]? = some x → Bs w (ownB its bv j) x.b ∧ Kl w (ownL its lv j) x.l ∧ x.n < 18446744073709551616) := by rw [hD]; exact own_ok hI
  unfold maxLen at q2
  clear hE hL hKS hD q3 hI H32
  go_enter Try.func6, Try.ntmps6
  go_wp2_with fail
  refine (HA.out _).mono ?_
  intro e w1 hh
  obtain ⟨he, b1⟩ := hh
  subst he
  have B1 := Lib.hid b1
  clear b1 HA
  go_wp2_with fail
  refine (HS.out _ _ (HH.out.below B1.out)).mono ?_
  intro e w2 hh
  obtain ⟨⟨q, he, hq⟩, hw⟩ := hh
  subst he hw
  cases q with
  | false =>
    go_wp2
    go_ret
    exact ⟨rfl, B1.out⟩
  | true =>
    have hn20 : its.length ≤ 20 := hq rfl
    clear hq HS
    go_wp2_with fail
    refine (H1.out _ _ (by omega) (HH.out.below B1.out)).mono ?_
    intro e w3 hh
    obtain ⟨b3, u3, he, hu3⟩ := hh
    subst he
    have HB3 := Lib.hid (below_size B1.out b3)
    have U3 := Lib.hid hu3
    obtain ⟨A3, c3, rfl, k1, k2, _⟩ := hu3
    unfold maxLen at k2
    clear b3 B1 H1
    by_cases hE0 : E = 0
    · subst hE0
      obtain ⟨hy0, hi0, hy50, hy3⟩ := HBK.out rfl
      have HI0 := Lib.hid hi0
      have HY0 := Lib.hid hy0
      have HY50 := Lib.hid hy50
      have HY3 := Lib.hid hy3
      clear HBK HEN hi0 hy0 hy50 hy3
      go_wp2_with fail
      go_loopw [9, 10, 11] (fun a bq i wr => ∃ j : Nat, j ≤ its.length ∧ i = .int .i64 (j : Int) ∧ wr.ownsRow w3.heap.size 3 1 a j ((KS.take j).map (Value.int .i64)) ∧ wr.ownsRow w3.heap.size 61 4 bq j (itsC D (ownB its bv) (ownL its lv) j) ∧ Below w3.heap.size w3 wr) (fun _ _ i _ => its.length - (intOf i).toNat)
      case atStart => exact ⟨0, by omega, rfl, World.ownsRow_nil _ _ _ _, World.ownsRow_nil _ _ _ _, Below.refl _ _⟩
      case round =>
        obtain ⟨j, hj, rfl, hO, hO2, hB⟩ := hrel
        have HO := Lib.hid hO
        have HO2 := Lib.hid hO2
        have HB := Lib.hid hB
        obtain ⟨VA, vn, vc, rfl⟩ : ∃ VA vn vc, u9 = .slice VA vn vc := by
          rcases hO.2 with ⟨rfl, _⟩ | ⟨g, cap, cur, rfl, _⟩ <;> exact ⟨_, _, _, rfl⟩
        obtain ⟨WA, wn, wc, rfl⟩ : ∃ VA vn vc, u10 = .slice VA vn vc := by
          rcases hO2.2 with ⟨rfl, _⟩ | ⟨g, cap, cur, rfl, _⟩ <;> exact ⟨_, _, _, rfl⟩
        clear hO hO2 hB
        by_cases hlt : j < its.length
        · have hlt2 : (j : Int) < (its.length : Int) := by omega
          have hw1 : IntKind.i64.wrap ((j : Int) + 1) = (j : Int) + 1 := IntWalk.i64_in _ (by omega)
          have hq0 : ¬ ((j : Int) < 0) := by omega
          obtain ⟨x, hx⟩ : ∃ x, its[j]? = some x := ⟨_, List.getElem?_eq_getElem hlt⟩
          obtain ⟨hb0, hk0, _⟩ := HI.out j x hx
          obtain ⟨b0, off, rfl, hc⟩ := Its.cells (v := .slice A its.length c) (c := c) Q3.out j x hx
          have HKN := Lib.hid (HKN0.out j x hx)
          have hg : its.getD j default = x := by rw [List.getD_eq_getElem?_getD, hx]; rfl
          have HDN : Hid (itsC D (ownB its bv) (ownL its lv) (j + 1) = itsC D (ownB its bv) (ownL its lv) j ++ itC x.own (ownB its bv j) (ownL its lv j)) := by
            have hgd : D.getD j default = x.own := by rw [List.getD_eq_getElem?_getD, HDG.out j x hx]; rfl
            show _ = _; rw [itsC, hgd]
          have HON : Hid (∀ u ∈ itC x.own (ownB its bv j) (ownL its lv j), u.oneCell' = true) := by
            have h5 := HOK.out j x.own (HDG.out j x hx)
            exact itC_one w _ _ _ h5.1 h5.2.1
          obtain ⟨BV, hBV⟩ : ∃ BV, BV = bv j := ⟨_, rfl⟩
          obtain ⟨LV, hLV⟩ : ∃ LV, LV = lv j := ⟨_, rfl⟩
          have HOB : Hid (ownB its bv j = if x.k = 9 then BV else .slice none 0 0) := by show _ = _; unfold ownB; rw [hg, hBV]
          have HOL : Hid (ownL its lv j = if x.k = 32 then LV else .slice none 0 0) := by show _ = _; unfold ownL; rw [hg, hLV]
          rw [← hBV] at hb0 hc
          rw [← hLV] at hk0 hc
          have HC := Lib.hid hc
          obtain ⟨kk, nn, bb, ll⟩ := x
          simp only at hb0 hk0
          obtain ⟨BA, bc, rfl, _, _, _⟩ := hb0
          obtain ⟨LA, lc, rfl, _, _, _, _⟩ := hk0
          clear hc hx hg hBV hLV Q3
          by_cases h9 : kk = 9
          · subst h9
            have HCS : Hid (itC (It.own ⟨9, nn, bb, ll⟩) (ownB its bv j) (ownL its lv j) = [.int .i64 9, .int .u64 0, (.slice BA bb.length bc), (.slice none 0 0)]) := by show _ = _; rw [HOB.out, HOL.out]; simp only [It.own, if_true, show ¬ ((9 : Int) = 32) by decide, if_false]; rfl
            have HONE : Hid (∀ u ∈ ([.int .i64 9, .int .u64 0, (.slice BA bb.length bc), (.slice none 0 0)] : List Value), u.oneCell' = true) := by show ∀ u ∈ ([.int .i64 9, .int .u64 0, (.slice BA bb.length bc), (.slice none 0 0)] : List Value), _; rw [← HCS.out]; exact HON.out
            have c0 := HC.out wr (below_size HB3.out HB.out) 0 _ rfl
            simp only [Nat.add_zero] at c0
            go_wp2_with (first
              | ((with_reducible refine wpList_appIntO (w0 := w3) (o := ⟨some 52, _, _, _, _, _⟩) rfl (.tmp 45) (.tmp 51) rfl (.slice VA vn vc) ((KS.take j).map (Value.int .i64)) 9 j wr.heap.size (by with_unfolding_all rfl) (by with_unfolding_all rfl) (by with_unfolding_all exact RowAt.new _ _ _) (by omega) (owned_far (row := none) HO.out (grown_of_below (alloc_below _ _)) (fun r e => by cases e)) (Nat.le_trans HB.out.size (alloc_below _ _).size) ?_); intro v5 w5 o5 g5; have OA5 := Lib.hid o5; have hlo5 : ∀ k, (Value.slice VA vn vc).ownBlock = some k → w3.heap.size ≤ k := (fun k e => (World.ownsRow.lt HO.out k e).1); have OB5 := Lib.hid (owns_beside (owned_far (row := none) HO2.out (grown_of_below (alloc_below _ _)) (fun r e => by cases e)) (owned_far (row := none) HO.out (grown_of_below (alloc_below _ _)) (fun r e => by cases e)) (by decide) g5); have hb5 : Below w3.heap.size w3 w5 := (below_size HB.out (alloc_below _ _)).grown g5 (Nat.le_trans HB.out.size (alloc_below _ _).size) hlo5; have HB5 := Lib.hid hb5; have c05 := HC.out w5 (below_size HB3.out hb5) 0 _ rfl; simp only [Nat.add_zero] at c05; clear o5 g5 hlo5 hb5)
              | ((with_reducible refine wpList_alloc_row (o := ⟨some 12, _, _, _, _, _⟩) rfl 61 rfl zeroItR Try.zeroItRow ?_); intro g w6 n6)
              | ((with_reducible refine wpList_store_row (o := ⟨none, _, _, _, _, _⟩) rfl 61 (.tmp 12) (.tmp 58) rfl g 61 zeroItR #[.int .i64 9, .int .u64 0, .slice none 0 0, .slice none 0 0] (by with_unfolding_all rfl) (by with_unfolding_all rfl) n6.row (by with_unfolding_all rfl) (by with_unfolding_all exact Try.sizeItR) (fresh_one 9) ?_); intro w7 p7; have hb7 : Below w5.heap.size w5 w7 := p7.below n6.below n6.below.size (by rw [n6.spot]; exact Nat.le_refl _); have HGW := Lib.hid n6.spot; have B7 := Lib.hid (below_size HB5.out hb7); have OA7 := Lib.hid (owned_far (row := none) OA5.out (grown_of_below hb7) (fun r e => by cases e)); have OB7 := Lib.hid (owned_far (row := none) OB5.out (grown_of_below hb7) (fun r e => by cases e)); have c07 := HC.out w7 (below_size HB3.out B7.out) 0 _ rfl; simp only [Nat.add_zero] at c07; have cf7 := HC.out w7 (below_size HB3.out B7.out) 2 _ rfl; have z7 := p7.row.frozen 2; have cc7 := p7.row.cell 2; have R7 := Lib.hid (p7.row.put4c (.slice BA bb.length bc)))
              | (with_reducible refine wpList_load_row (o := ⟨some 87, _, _, _, _, _⟩) rfl 61 (.tmp 12) rfl g (by with_unfolding_all rfl) 61 #[.int .i64 9, .int .u64 0, (.slice BA bb.length bc), (.slice none 0 0)] (0, 0) _ (by with_unfolding_all exact R7.out) Try.underlying61 rfl (by with_unfolding_all exact Try.sizeItR) ?_)
              | ((with_reducible refine wpList_appItemO (w0 := w3) (o := ⟨some 89, _, _, _, _, _⟩) rfl (.tmp 86) (.tmp 88) rfl (.slice WA wn wc) (itsC D (ownB its bv) (ownL its lv) j) [.int .i64 9, .int .u64 0, (.slice BA bb.length bc), (.slice none 0 0)] j w7.heap.size (by with_unfolding_all rfl) (by with_unfolding_all rfl) (by with_unfolding_all exact row_new_set w7 g 2 (.slice BA bb.length bc) _ _) (by with_unfolding_all rfl) HONE.out (by omega) (own_set_alloc OB7.out (own_not_new OB5.out HGW.out)) (size_set_alloc B7.out.size) ?_); intro v8 w8 o8 g8; have BX := below_set_alloc (v := (.slice BA bb.length bc)) (F := 2) (cs := #[.int .i64 9, .int .u64 0, (.slice BA bb.length bc), (.slice none 0 0)]) (t := 61) B7.out (show w3.heap.size ≤ g by rw [HGW.out]; exact HB5.out.size); have B8 := Lib.hid (BX.grown g8 BX.size (fun k e => (World.ownsRow.lt OB7.out k e).1)); have OA8 := Lib.hid (owns_beside (own_set_alloc OA7.out (own_not_new OA5.out HGW.out)) (own_set_alloc OB7.out (own_not_new OB5.out HGW.out)) (by decide) g8); rw [← HCS.out] at o8; have OB8 := Lib.hid o8; clear o8 g8 BX))
            refine ⟨⟨j + 1, by omega, by congr 1, by rw [HKN.out]; exact OA8.out, by rw [HDN.out]; exact OB8.out, B8.out⟩, ?_⟩
            show its.length - ((j : Int) + 1).toNat < its.length - (j : Int).toNat
            omega
          · have hd9 : decide (kk = 9) = false := by simp [h9]
            by_cases h32 : kk = 32
            · subst h32
              have HCS : Hid (itC (It.own ⟨32, nn, bb, ll⟩) (ownB its bv j) (ownL its lv j) = [.int .i64 32, .int .u64 0, (.slice none 0 0), (.slice LA ll.length lc)]) := by show _ = _; rw [HOB.out, HOL.out]; simp only [It.own, if_true, show ¬ ((32 : Int) = 9) by decide, if_false]; rfl
              have HONE : Hid (∀ u ∈ ([.int .i64 32, .int .u64 0, (.slice none 0 0), (.slice LA ll.length lc)] : List Value), u.oneCell' = true) := by show ∀ u ∈ ([.int .i64 32, .int .u64 0, (.slice none 0 0), (.slice LA ll.length lc)] : List Value), _; rw [← HCS.out]; exact HON.out
              have c0 := HC.out wr (below_size HB3.out HB.out) 0 _ rfl
              simp only [Nat.add_zero] at c0
              go_wp2_with (first
                | ((with_reducible refine wpList_appIntO (w0 := w3) (o := ⟨some 52, _, _, _, _, _⟩) rfl (.tmp 45) (.tmp 51) rfl (.slice VA vn vc) ((KS.take j).map (Value.int .i64)) 32 j wr.heap.size (by with_unfolding_all rfl) (by with_unfolding_all rfl) (by with_unfolding_all exact RowAt.new _ _ _) (by omega) (owned_far (row := none) HO.out (grown_of_below (alloc_below _ _)) (fun r e => by cases e)) (Nat.le_trans HB.out.size (alloc_below _ _).size) ?_); intro v5 w5 o5 g5; have OA5 := Lib.hid o5; have hlo5 : ∀ k, (Value.slice VA vn vc).ownBlock = some k → w3.heap.size ≤ k := (fun k e => (World.ownsRow.lt HO.out k e).1); have OB5 := Lib.hid (owns_beside (owned_far (row := none) HO2.out (grown_of_below (alloc_below _ _)) (fun r e => by cases e)) (owned_far (row := none) HO.out (grown_of_below (alloc_below _ _)) (fun r e => by cases e)) (by decide) g5); have hb5 : Below w3.heap.size w3 w5 := (below_size HB.out (alloc_below _ _)).grown g5 (Nat.le_trans HB.out.size (alloc_below _ _).size) hlo5; have HB5 := Lib.hid hb5; have c05 := HC.out w5 (below_size HB3.out hb5) 0 _ rfl; simp only [Nat.add_zero] at c05; clear o5 g5 hlo5 hb5)
                | ((with_reducible refine wpList_alloc_row (o := ⟨some 12, _, _, _, _, _⟩) rfl 61 rfl zeroItR Try.zeroItRow ?_); intro g w6 n6)
                | ((with_reducible refine wpList_store_row (o := ⟨none, _, _, _, _, _⟩) rfl 61 (.tmp 12) (.tmp 58) rfl g 61 zeroItR #[.int .i64 32, .int .u64 0, .slice none 0 0, .slice none 0 0] (by with_unfolding_all rfl) (by with_unfolding_all rfl) n6.row (by with_unfolding_all rfl) (by with_unfolding_all exact Try.sizeItR) (fresh_one 32) ?_); intro w7 p7; have hb7 : Below w5.heap.size w5 w7 := p7.below n6.below n6.below.size (by rw [n6.spot]; exact Nat.le_refl _); have HGW := Lib.hid n6.spot; have B7 := Lib.hid (below_size HB5.out hb7); have OA7 := Lib.hid (owned_far (row := none) OA5.out (grown_of_below hb7) (fun r e => by cases e)); have OB7 := Lib.hid (owned_far (row := none) OB5.out (grown_of_below hb7) (fun r e => by cases e)); have c07 := HC.out w7 (below_size HB3.out B7.out) 0 _ rfl; simp only [Nat.add_zero] at c07; have cf7 := HC.out w7 (below_size HB3.out B7.out) 3 _ rfl; have z7 := p7.row.frozen 3; have cc7 := p7.row.cell 3; have R7 := Lib.hid (p7.row.put4d (.slice LA ll.length lc)))
                | (with_reducible refine wpList_load_row (o := ⟨some 87, _, _, _, _, _⟩) rfl 61 (.tmp 12) rfl g (by with_unfolding_all rfl) 61 #[.int .i64 32, .int .u64 0, (.slice none 0 0), (.slice LA ll.length lc)] (0, 0) _ (by with_unfolding_all exact R7.out) Try.underlying61 rfl (by with_unfolding_all exact Try.sizeItR) ?_)
                | ((with_reducible refine wpList_appItemO (w0 := w3) (o := ⟨some 89, _, _, _, _, _⟩) rfl (.tmp 86) (.tmp 88) rfl (.slice WA wn wc) (itsC D (ownB its bv) (ownL its lv) j) [.int .i64 32, .int .u64 0, (.slice none 0 0), (.slice LA ll.length lc)] j w7.heap.size (by with_unfolding_all rfl) (by with_unfolding_all rfl) (by with_unfolding_all exact row_new_set w7 g 3 (.slice LA ll.length lc) _ _) (by with_unfolding_all rfl) HONE.out (by omega) (own_set_alloc OB7.out (own_not_new OB5.out HGW.out)) (size_set_alloc B7.out.size) ?_); intro v8 w8 o8 g8; have BX := below_set_alloc (v := (.slice LA ll.length lc)) (F := 3) (cs := #[.int .i64 32, .int .u64 0, (.slice none 0 0), (.slice LA ll.length lc)]) (t := 61) B7.out (show w3.heap.size ≤ g by rw [HGW.out]; exact HB5.out.size); have B8 := Lib.hid (BX.grown g8 BX.size (fun k e => (World.ownsRow.lt OB7.out k e).1)); have OA8 := Lib.hid (owns_beside (own_set_alloc OA7.out (own_not_new OA5.out HGW.out)) (own_set_alloc OB7.out (own_not_new OB5.out HGW.out)) (by decide) g8); rw [← HCS.out] at o8; have OB8 := Lib.hid o8; clear o8 g8 BX))
              refine ⟨⟨j + 1, by omega, by congr 1, by rw [HKN.out]; exact OA8.out, by rw [HDN.out]; exact OB8.out, B8.out⟩, ?_⟩
              show its.length - ((j : Int) + 1).toNat < its.length - (j : Int).toNat
              omega
            · have hd32 : decide (kk = 32) = false := by simp [h32]
              have HCS : Hid (itC (It.own ⟨kk, nn, bb, ll⟩) (ownB its bv j) (ownL its lv j) = [.int .i64 kk, .int .u64 (nn : Int), (.slice none 0 0), (.slice none 0 0)]) := by show _ = _; rw [HOB.out, HOL.out]; simp only [It.own, if_neg h9, if_neg h32]; rfl
              have HONE : Hid (∀ u ∈ ([.int .i64 kk, .int .u64 (nn : Int), (.slice none 0 0), (.slice none 0 0)] : List Value), u.oneCell' = true) := by show ∀ u ∈ ([.int .i64 kk, .int .u64 (nn : Int), (.slice none 0 0), (.slice none 0 0)] : List Value), _; rw [← HCS.out]; exact HON.out
              have c0 := HC.out wr (below_size HB3.out HB.out) 0 _ rfl
              simp only [Nat.add_zero] at c0
              go_wp2_with (first
                | ((with_reducible refine wpList_appIntO (w0 := w3) (o := ⟨some 52, _, _, _, _, _⟩) rfl (.tmp 45) (.tmp 51) rfl (.slice VA vn vc) ((KS.take j).map (Value.int .i64)) kk j wr.heap.size (by with_unfolding_all rfl) (by with_unfolding_all rfl) (by with_unfolding_all exact RowAt.new _ _ _) (by omega) (owned_far (row := none) HO.out (grown_of_below (alloc_below _ _)) (fun r e => by cases e)) (Nat.le_trans HB.out.size (alloc_below _ _).size) ?_); intro v5 w5 o5 g5; have OA5 := Lib.hid o5; have hlo5 : ∀ k, (Value.slice VA vn vc).ownBlock = some k → w3.heap.size ≤ k := (fun k e => (World.ownsRow.lt HO.out k e).1); have OB5 := Lib.hid (owns_beside (owned_far (row := none) HO2.out (grown_of_below (alloc_below _ _)) (fun r e => by cases e)) (owned_far (row := none) HO.out (grown_of_below (alloc_below _ _)) (fun r e => by cases e)) (by decide) g5); have hb5 : Below w3.heap.size w3 w5 := (below_size HB.out (alloc_below _ _)).grown g5 (Nat.le_trans HB.out.size (alloc_below _ _).size) hlo5; have HB5 := Lib.hid hb5; have c05 := HC.out w5 (below_size HB3.out hb5) 0 _ rfl; simp only [Nat.add_zero] at c05; clear o5 g5 hlo5 hb5)
                | ((with_reducible refine wpList_alloc_row (o := ⟨some 12, _, _, _, _, _⟩) rfl 61 rfl zeroItR Try.zeroItRow ?_); intro g w6 n6)
                | ((with_reducible refine wpList_store_row (o := ⟨none, _, _, _, _, _⟩) rfl 61 (.tmp 12) (.tmp 58) rfl g 61 zeroItR #[.int .i64 kk, .int .u64 0, .slice none 0 0, .slice none 0 0] (by with_unfolding_all rfl) (by with_unfolding_all rfl) n6.row (by with_unfolding_all rfl) (by with_unfolding_all exact Try.sizeItR) (fresh_one kk) ?_); intro w7 p7; have hb7 : Below w5.heap.size w5 w7 := p7.below n6.below n6.below.size (by rw [n6.spot]; exact Nat.le_refl _); have HGW := Lib.hid n6.spot; have B7 := Lib.hid (below_size HB5.out hb7); have OA7 := Lib.hid (owned_far (row := none) OA5.out (grown_of_below hb7) (fun r e => by cases e)); have OB7 := Lib.hid (owned_far (row := none) OB5.out (grown_of_below hb7) (fun r e => by cases e)); have c07 := HC.out w7 (below_size HB3.out B7.out) 0 _ rfl; simp only [Nat.add_zero] at c07; have cf7 := HC.out w7 (below_size HB3.out B7.out) 1 _ rfl; have z7 := p7.row.frozen 1; have cc7 := p7.row.cell 1; have R7 := Lib.hid (p7.row.put4b (.int .u64 (nn : Int))))
                | (with_reducible refine wpList_load_row (o := ⟨some 87, _, _, _, _, _⟩) rfl 61 (.tmp 12) rfl g (by with_unfolding_all rfl) 61 #[.int .i64 kk, .int .u64 (nn : Int), (.slice none 0 0), (.slice none 0 0)] (0, 0) _ (by with_unfolding_all exact R7.out) Try.underlying61 rfl (by with_unfolding_all exact Try.sizeItR) ?_)
                | ((with_reducible refine wpList_appItemO (w0 := w3) (o := ⟨some 89, _, _, _, _, _⟩) rfl (.tmp 86) (.tmp 88) rfl (.slice WA wn wc) (itsC D (ownB its bv) (ownL its lv) j) [.int .i64 kk, .int .u64 (nn : Int), (.slice none 0 0), (.slice none 0 0)] j w7.heap.size (by with_unfolding_all rfl) (by with_unfolding_all rfl) (by with_unfolding_all exact row_new_set w7 g 1 (.int .u64 (nn : Int)) _ _) (by with_unfolding_all rfl) HONE.out (by omega) (own_set_alloc OB7.out (own_not_new OB5.out HGW.out)) (size_set_alloc B7.out.size) ?_); intro v8 w8 o8 g8; have BX := below_set_alloc (v := (.int .u64 (nn : Int))) (F := 1) (cs := #[.int .i64 kk, .int .u64 (nn : Int), (.slice none 0 0), (.slice none 0 0)]) (t := 61) B7.out (show w3.heap.size ≤ g by rw [HGW.out]; exact HB5.out.size); have B8 := Lib.hid (BX.grown g8 BX.size (fun k e => (World.ownsRow.lt OB7.out k e).1)); have OA8 := Lib.hid (owns_beside (own_set_alloc OA7.out (own_not_new OA5.out HGW.out)) (own_set_alloc OB7.out (own_not_new OB5.out HGW.out)) (by decide) g8); rw [← HCS.out] at o8; have OB8 := Lib.hid o8; clear o8 g8 BX))
              refine ⟨⟨j + 1, by omega, by congr 1, by rw [HKN.out]; exact OA8.out, by rw [HDN.out]; exact OB8.out, B8.out⟩, ?_⟩
              show its.length - ((j : Int) + 1).toNat < its.length - (j : Int).toNat
              omega
        · have hj2 : j = its.length := by omega
          subst hj2
          have ZS := Lib.hid (Zs.of_own (l := KS) (by have h5 := HO.out; rw [← HKL.out, List.take_length] at h5; exact h5))
          have IW : Hid (Its wr (.slice WA wn wc) D) := Its.of_own (bv := ownB its bv) (lv := ownL its lv) (by rw [HDL.out]; exact HO2.out) (fun k x hx => ⟨(HOK.out k x hx).1.below (below_size HB3.out HB.out), (HOK.out k x hx).2.1.below (below_size HB3.out HB.out), (HOK.out k x hx).2.2⟩)
          have U4 := Lib.hid (U3.out.below HB.out)
          have B4 := Lib.hid (below_size HB3.out HB.out)
          have hKL : KS.length ≤ 1000 := by have := HKL.out; omega
          have hLL : L.length ≤ 100000 := by have := HLN.out; omega
          have HDK : Hid (∀ x ∈ D, x.l.length ≤ 1000) := by show ∀ x ∈ D, _; rw [← HI0.out]; exact decI_keys KS L
          have hD1 : D.length ≤ 1000 := by have := HDL.out; omega
          have X1 : Hid (∀ w v u, Zs w v KS → Bs w u L → Calls Try.prog 15 #[v, u] w fun e w' => Below w.heap.size w w' ∧ ∃ v', e = .returned (.tuple #[v', .int .i64 0]) ∧ Its w' v' D) := fun w v u h1 h2 => by
            have h3 := HDE.out w v u L hKL h1 h2 (by omega)
            rwa [HY0.out, HI0.out] at h3
          have X2 : Hid (∀ w v u, Zs w v KS → Bs w u (L ++ [0]) → Calls Try.prog 15 #[v, u] w fun e w' => Below w.heap.size w w' ∧ ∃ v', e = .returned (.tuple #[v', .int .i64 50]) ∧ Its w' v' (decI KS (L ++ [0]))) := fun w v u h1 h2 => by
            have h3 := HDE.out w v u (L ++ [0]) hKL h1 h2 (by rw [List.length_append]; simp; omega)
            rwa [HY50.out] at h3
          have X3 : Hid (∀ n, n < L.length → ∀ w v u, Zs w v KS → Bs w u (L.take n) → Calls Try.prog 15 #[v, u] w fun e w' => Below w.heap.size w w' ∧ ∃ v', e = .returned (.tuple #[v', .int .i64 3]) ∧ Its w' v' (decI KS (L.take n))) := fun n hn w v u h1 h2 => by
            have h3 := HDE.out w v u (L.take n) hKL h1 h2 (by rw [List.length_take]; omega)
            rwa [HY3.out n hn] at h3
          clear HY0 HI0 HY50 HY3 HDE HLN HKL HDL HKN0 HDG HOK HI Q3 hlt
          go_wp2_with fail
          refine (X1.out _ _ _ ZS.out U4.out).mono ?_
          intro e w5 hh
          obtain ⟨b5, v5, he, hi⟩ := hh
          subst he
          have B5 := Lib.hid (below_size B4.out b5)
          have ZS5 := Lib.hid (ZS.out.below b5)
          have IW5 := Lib.hid (IW.out.below b5)
          have U5 := Lib.hid (U4.out.below b5)
          have I5 := Lib.hid hi
          obtain ⟨_, _, ⟨A5, c5, rfl, _, _, _⟩, _⟩ := hi
          clear b5 ZS IW U4 X1
          go_wp2_with (first
            | ((with_reducible refine wpList_appB _ (o := ⟨some 100, _, _, _, _, _⟩) rfl (.tmp 98) (.tmp 99) 25 rfl w5 5 (by kernel_rfl) Try.underlying25 (.slice (some ⟨w5.heap.size, 0, none⟩) 0 0) (.slice A3 L.length c3) [] L (by with_unfolding_all rfl) (by with_unfolding_all rfl) (by with_unfolding_all exact lit_own w5 [] #[] rfl (by simp [maxLen])) (U5.out.below (alloc_below _ _)) (by simp; omega) (alloc_below _ _) ?_); intro v6 w6 o6 b6; have O6 := Lib.hid o6; have B6 := Lib.hid b6; clear o6 b6)
            | ((with_reducible refine wpList_appB _ (o := ⟨some 102, _, _, _, _, _⟩) rfl (.tmp 100) (.tmp 101) 25 rfl w5 5 (by kernel_rfl) Try.underlying25 v6 (.slice (some ⟨w6.heap.size, 0, none⟩) 1 1) ([] ++ L) [0] (by with_unfolding_all rfl) (by with_unfolding_all rfl) (O6.out.alloc _) (by with_unfolding_all exact Bs.lit w6 5 [0] #[.int .u8 0] rfl (by simp [maxLen])) (by simp; omega) (below_size B6.out (alloc_below _ _)) ?_); intro v7 w7 o7 b7; rw [List.nil_append] at o7; have U7 := Lib.hid o7.bs; have B7 := Lib.hid b7; clear o7 b7))
          refine (X2.out _ _ _ (ZS5.out.below B7.out) U7.out).mono ?_
          intro e w8 hh
          obtain ⟨b8, v8, he, hi⟩ := hh
          subst he
          have b58 := below_size B7.out b8
          have B8 := Lib.hid (below_size B5.out b58)
          have ZS8 := Lib.hid (ZS5.out.below b58)
          have IW8 := Lib.hid (IW5.out.below b58)
          have U8 := Lib.hid (U5.out.below b58)
          have I8 := Lib.hid (I5.out.below b58)
          obtain ⟨_, _, ⟨A8, c8, rfl, _, _, _⟩, _⟩ := hi
          clear b8 b58 ZS5 IW5 U5 I5 O6 B6 U7 B7 B5 X2
          go_wp2_with fail
          refine (H3.out _ _ D I8.out hD1).mono ?_
          intro e w9 hh
          obtain ⟨v9, he, hi, b9⟩ := hh
          subst he
          have B9 := Lib.hid (below_size B8.out b9)
          have ZS9 := Lib.hid (ZS8.out.below b9)
          have IW9 := Lib.hid (IW8.out.below b9)
          have U9 := Lib.hid (U8.out.below b9)
          have I9 := Lib.hid hi
          obtain ⟨_, _, ⟨A9, c9, rfl, _, _, _⟩, _⟩ := hi
          clear b9 ZS8 IW8 U8 I8 B8 H3
          go_wp2_with fail
          refine (refAlike_same _ _ _ D I9.out IW9.out hD1 HDK.out).mono ?_
          intro e wA hh
          obtain ⟨he, bA⟩ := hh
          subst he
          have BA := Lib.hid (below_size B9.out bA)
          have ZSA := Lib.hid (ZS9.out.below bA)
          have UA := Lib.hid (U9.out.below bA)
          clear bA ZS9 IW9 U9 I9 B9 HDK
          by_cases hl0 : left < 0
          · go_wp2_with fail
            go_ret
            exact ⟨rfl, BA.out⟩
          · by_cases hl1 : left ≥ (L.length : Int)
            · go_wp2_with fail
              go_ret
              exact ⟨rfl, BA.out⟩
            · obtain ⟨k, rfl⟩ : ∃ k : Nat, left = k := ⟨left.toNat, by omega⟩
              have hkl : k < L.length := by omega
              have hb0 : (0 : Int) ≤ (k : Int) := by omega
              have hb2 : (k : Int) ≤ (c3 : Int) := by omega
              have XK := Lib.hid (X3.out k hkl)
              have UK := Lib.hid (UA.out.fore k (by omega))
              clear X3 UA
              go_wp2_with fail
              refine (XK.out _ _ _ ZSA.out UK.out).mono ?_
              intro e wB hh
              obtain ⟨bB, vB, he, hi⟩ := hh
              subst he
              have BB := Lib.hid (below_size BA.out bB)
              obtain ⟨_, _, ⟨AB, cB, rfl, _, _, _⟩, _⟩ := hi
              clear bB
              go_wp2_with fail
              go_ret
              exact ⟨rfl, BB.out⟩
    · have hL0 := HEN.out hE0
      subst hL0
      have hd : decide (E = 0) = false := by simp [hE0]
      go_wp2
      go_ret
      exact ⟨rfl, HB3.out⟩
end Go.Proofs.Ytjhhpakaemnemaa
end
section
namespace Go.Proofs.Ytjhhpakaemnemaa.codecBack
open Go.ChangeShapes Go.WideShapes Go.ChangeAt Go.RowKit
open Go.ChangeMaps (open_string shut_string)
set_option linter.unusedVariables false

theorem own : ownKnob Try.prog.godebug = none := by kernel_rfl
theorem laidOut : laidOutB Try.prog = true := by kernel_rfl

set_option maxRecDepth 100000 in
theorem lifted (os : Os) (started : os.Started) (H : Type) (enc : TypeId × Value → H) :
    ReturnsInHanded {} Try.checked os 6 .any (Rows.codecBackSpec.pre6 enc Try.prog Try.f6 Rows.codecBackRow.domain false) (Rows.codecBackSpec.post enc Try.prog Try.f6 false true false false) := by
  refine returnsInHanded_of_change (C := Try.checked) own started (by kernel_rfl) Try.func6
    (ChangeSpec.witness6 (enc := enc) (C := Try.checked) false ⟨#[], #[.slice none 0 0, .int .i64 0], []⟩ 8 (by kernel_rfl) (by kernel_rfl) (by kernel_rfl) (by kernel_rfl)) ?_
  intro W base args ds gs before hval0 hW hcnd _
  have hval : ∀ (j : Nat) t v, Try.f6.params[j]? = some t → args[j]? = some v → Value.okWide Try.prog W .any base t v := hval0
  have hW' := hW
  obtain ⟨p, q, hA0, hV, rfl, hfz, hnd⟩ := hW
  have hA : DataW.TrodAll enc Try.prog W 0 (fun _ => true) true Try.f6.params.toList args.toList ds p := hA0
  rw [Try.params6] at hA hval
  obtain ⟨v0, vs0, d0, ds0, p0, q0, hargs, rfl, rfl, h0, r0⟩ := trodAll_cons hA
  obtain ⟨v1, vs1, d1, ds1, p1, q1, rfl, rfl, rfl, h1, r1⟩ := trodAll_cons r0
  obtain ⟨rfl, rfl, rfl⟩ := trodAll_nil r1
  obtain rfl : args = #[v0, v1] := by cases args; simp_all
  obtain ⟨rfl, rfl⟩ := trodVars_none hV
  obtain ⟨a0, len0, cap0, rfl⟩ := okWide_slice Try.underlying22 (hval 0 22 v0 rfl rfl)
  have k0 := h0
  have lt0 : ∀ x ∈ p0, x.block < W.heap.size := by obtain ⟨m, hm⟩ := k0; exact DataW.trod_lt m _ _ _ hm
  obtain ⟨l0, w0⟩ : ∃ l : List It, Its W (.slice a0 len0 cap0) l := by
    obtain ⟨fuel, hf⟩ := h0
    obtain ⟨v, l, hcs, hl⟩ := open_items hf
    simp [Value.cells] at hcs
    exact ⟨l, hcs ▸ hl⟩
  obtain ⟨a1, rfl, rfl, rfl, w1⟩ := open_int Try.underlying3 (hval 1 3 v1 rfl rfl) h1
  clear hA0 hval0
  refine (codecBack_walk W _ l0 w0 a1).mono fun e W' ⟨he, bel⟩ => ?_
  subst he
  exact ⟨_, rfl, _, _, _, [], _, [], hW', trodAll_mk1 (shut_bool Try.underlying4 _), (trodAll_cons_mk (Below.trod laidOut (by kernel_rfl) (of_decide_eq_true (by kernel_rfl)) k0 bel lt0) (trodAll_cons_mk (shut_int Try.underlying3 w1) trodAll_mk0)), rfl, bel.frame _, fun h => by cases h⟩

theorem over : Rows.codecBackRow.holds Try.pinned (OpenSpec.ofChange Rows.codecBackSpec) :=
  OpenClaim.holds_of_wide 6 Try.f6 rfl rfl rfl rfl rfl rfl rfl ⟨rfl, rfl, rfl, rfl, rfl⟩ rfl rfl rfl rfl rfl (by kernel_rfl) Try.func6 (by kernel_rfl)
    (of_decide_eq_true (by kernel_rfl)) (by unfold Func.isWrapper; first | (rw [if_pos (by decide +kernel)]; kernel_rfl) | (rw [if_neg (by decide +kernel)]; exact ⟨rfl, rfl⟩))
    (fun os started H enc _ => lifted os started H enc)

theorem proved : Rows.CodecBackSaid := over
#print axioms proved
end Go.Proofs.Ytjhhpakaemnemaa.codecBack
end
