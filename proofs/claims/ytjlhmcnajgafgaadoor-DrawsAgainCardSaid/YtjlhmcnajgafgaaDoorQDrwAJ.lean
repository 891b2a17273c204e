/-
  Texts that belong together, merged: MacM, OtsA, OtsB, OtsRefA, MacL, KeyEx, DrwA. Conditions: as each theorem names them.
-/
import Derived.Test.YtjlhmcnajgafgaaDoorQDrwAI
import Derived.Test.YtjlhmcnajgafgaaDoorQDrwAE
import Derived.Test.YtjlhmcnajgafgaaDoorQDrwAC
import Derived.Test.YtjlhmcnajgafgaaDoorQDrwAD
import Derived.Test.YtjlhmcnajgafgaaDoorQDrwAG
import Derived.Test.YtjlhmcnajgafgaaDoorQDrwAH
import Derived.Test.YtjlhmcnajgafgaaDoorQDrwAB
import Derived.Lib.AppendStr
section
namespace Go.Proofs.YtjlhmcnajgafgaaDoor
open Go.RowKit Go.Shelf
attribute [local go_sem] Oper.semAt_some
set_option linter.unusedVariables false
set_option maxRecDepth 20000

def lastT (key info : List UInt8) (pre : List Nat) : List UInt8 := match pre.getLast? with | none => zeroKey | some x => tB key info (x + 1)
theorem lastT_length (key info : List UInt8) (pre : List Nat) : (lastT key info pre).length = 32 := by
  unfold lastT
  split
  · exact zeroKey_length
  · exact tB_length _ _ _
theorem lastT_snoc (key info : List UInt8) (pre : List Nat) (x : Nat) : lastT key info (pre ++ [x]) = tB key info (x + 1) := by simp [lastT]

set_option maxHeartbeats 4000000 in
theorem macDerive_any (w0 w : World) (g n : Nat) (hr : Run w0 w g n w) (hn : n ≤ 1000000) (key : List UInt8) (hk : key.length = 32) (lab : ByteArray) (hlab : lab.size ≤ 1000) (A : Option Addr) (c : Nat) (ls : List (List UInt8))
    (hb : Bss w (.slice A ls.length c) ls) (hls : ls.length ≤ 15) (hl : ∀ b ∈ ls, b.length ≤ 1000) :
    Calls Tryd.prog 15 #[.pointer (some ⟨g, 0, none⟩), keyV key, .string lab, .slice A ls.length c] w fun e w' => ∃ n', n' ≤ n + 3 ∧ e = .returned (.agg (keyC (macB key (infoB lab.data.toList ls ++ [1])))) ∧ Run w0 w g n' w' := by
  obtain ⟨info, hinfo⟩ : ∃ i, i = infoB lab.data.toList ls := ⟨_, rfl⟩
  have HP : Hid (∀ x, Below w.heap.size w x → Calls Tryd.prog 20 #[.string lab, .slice A ls.length c] x (RetBs x info)) := fun x hx => by rw [hinfo]; exact purpose_any x lab hlab A c ls (hb.keep hx) (by omega) hl
  have hil : info.length ≤ 20000 := by
    rw [hinfo, infoB]
    have := partsL_flat (lab.data.toList.take 255) ls hl
    rw [List.length_take] at this
    have : min 255 lab.data.toList.length ≤ 255 := Nat.min_le_left _ _
    omega
  have hT : macB key (info ++ [1]) = lastT key info [0] := by simp [lastT, tB]
  rw [← hinfo, hT]
  have HR := Lib.hid hr
  have HK := Lib.hid hk
  clear hinfo hb hl hr hk hT hlab hls
  refine (callsIn_wide (n := 3)).1 ?_
  refine callsIn_of_wp_marks Tryd.func15 rfl trivial ?_ rfl
  simp only [Tryd.ntmps15, List.size_toArray, List.length_cons, List.length_nil, Nat.reduceAdd, Nat.reduceSub, Array.replicate_succ, Array.replicate_zero, List.push_toArray, List.append_toArray, List.nil_append, List.cons_append]
  refine wpIn_wide.2 ?_
  go_wp2_with (first
    | ((with_reducible refine wpList_box_row (o := ⟨some 5, _, _, _, _, _⟩) rfl 23 (.tmp 1) rfl (keyC key) (by with_unfolding_all rfl) ?_); intro g5 w1 n5)
    | ((with_reducible refine wpList_alloc_row (o := ⟨some 8, _, _, _, _, _⟩) rfl 23 rfl (keyC zeroKey) Tryd.zeroK ?_); intro g8 w2 n8)
    | ((with_reducible refine wpList_alloc_row (o := ⟨some 9, _, _, _, _, _⟩) rfl 23 rfl (keyC zeroKey) Tryd.zeroK ?_); intro g9 w3 n9))
  have s5 := n5.spot
  have s8 := n8.spot
  have s9 := n9.spot
  have z5 := n5.size
  have z8 := n8.size
  have z9 := n9.size
  have B3 := Lib.hid (below_size (below_size n5.below n8.below) n9.below)
  have Q5 := Lib.hid ((n5.row.kept n8.below).kept n9.below)
  have Q8 := Lib.hid (n8.row.kept n9.below)
  have Q9 := Lib.hid n9.row
  have h89 : g8 ≠ g9 := by omega
  have hg8 : w.heap.size ≤ g8 := by omega
  have hg9 : w.heap.size ≤ g9 := by omega
  clear n5 n8 n9 s5 s8 s9 z5 z8 z9
  refine Code.wp_mono NoPanic.out ?_
  refine plain_region (S := fun W' => RowAt W' g5 23 (keyC key)) (fin := fun _ => false) (by kernel_rfl) ?_
  have hS : RowAt w3.drew g5 23 (keyC key) := Q5.out
  change walkS _ _ _ _ _ _ 6 _ _ _
  refine walkS_take (i := 0) (oi := ⟨some 11, _, _, _, _, _⟩) (v := .pointer (some ⟨g, 0, none⟩)) rfl (by kernel_rfl) (by kernel_rfl) (fun _ _ _ h => h) _ _ _ _ (by kernel_rfl) (by kernel_rfl) (Or.inl ⟨by rfl, fun w' hS' => (by clear hS hS'; go_simp)⟩) hS ?_
  simp only [Act.put, List.setIfInBounds_toArray, List.set_cons_zero, List.set_cons_succ]
  refine walkS_take (i := 1) (oi := ⟨some 12, _, _, _, _, _⟩) (v := .agg (keyC key)) rfl (by kernel_rfl) (by kernel_rfl) (fun _ _ _ h => h) _ _ _ _ (by kernel_rfl) (by kernel_rfl) (Or.inl ⟨by rfl, fun w' hS' => run_load_row _ (.tmp 5) rfl g5 rfl _ (keyC key) (0, 0) (.array 32 5) hS' Tryd.underlying23 rfl (Tryd.sizeKey key HK.out)⟩) hS ?_
  simp only [Act.put, List.setIfInBounds_toArray, List.set_cons_zero, List.set_cons_succ]
  refine walkS_take (i := 2) (oi := ⟨some 13, _, _, _, _, _⟩) (v := .string lab) rfl (by kernel_rfl) (by kernel_rfl) (fun _ _ _ h => h) _ _ _ _ (by kernel_rfl) (by kernel_rfl) (Or.inl ⟨by rfl, fun w' hS' => (by clear hS hS'; go_simp)⟩) hS ?_
  simp only [Act.put, List.setIfInBounds_toArray, List.set_cons_zero, List.set_cons_succ]
  refine walkS_take (i := 3) (oi := ⟨some 14, _, _, _, _, _⟩) (v := .slice A ls.length c) rfl (by kernel_rfl) (by kernel_rfl) (fun _ _ _ h => h) _ _ _ _ (by kernel_rfl) (by kernel_rfl) (Or.inl ⟨by rfl, fun w' hS' => (by clear hS hS'; go_simp)⟩) hS ?_
  simp only [Act.put, List.setIfInBounds_toArray, List.set_cons_zero, List.set_cons_succ]
  refine walkS_only (i := 4) (o := ⟨some 15, _, _, _, _, _⟩) (by kernel_rfl) rfl rfl fun K hK => ?_
  have HS := Lib.hid hS
  clear hS
  go_simp
  refine (HP.out _ B3.out.drew).mono ?_
  intro e w4 h
  obtain ⟨u, he, hu, b4⟩ := h
  subst he
  have B4 := Lib.hid (below_size B3.out.drew b4)
  have hS : RowAt w4 g5 23 (keyC key) := HS.out.kept b4
  have T8 := Lib.hid (Q8.out.drew.kept b4)
  have T9 := Lib.hid (Q9.out.drew.kept b4)
  have HU0 := Lib.hid hu
  obtain ⟨IA, ic, rfl, _, _, _⟩ := hu
  refine hK _ _ (.inr hS) ?_
  clear hK K b4 HS Q8 Q9 Q5 B3
  refine walkS_only (i := 5) (o := ⟨some 16, _, _, _, _, _⟩) (by kernel_rfl) rfl rfl fun K hK => ?_
  have R4 := Lib.hid (HR.out.beneath B4.out)
  have HS2 := Lib.hid hS
  clear hS
  go_simp
  refine (expanded_any w0 w w4 g n R4.out IA info.length ic key HK.out 1).mono ?_
  rintro e w5 ⟨gn, gm, gk, gi, rfl, env, ⟨hk1, hk2, hk3, hk4⟩, b5⟩
  have B5 := Lib.hid (below_size B4.out b5)
  have HU5 := Lib.hid (HU0.out.below b5)
  have S8 := Lib.hid (T8.out.kept b5)
  have S9 := Lib.hid (T9.out.kept b5)
  have l8 := T8.out.lt
  have l9 := T9.out.lt
  refine hK _ _ (.inr (HS2.out.kept b5)) (walkS_done (by kernel_rfl) ?_ _)
  simp only [NoPanic]
  have EV := Lib.hid env
  have hX4 : ¬ (gn = g9) ∧ ¬ (gm = g9) ∧ ¬ (gk = g9) ∧ ¬ (gi = g9) := ⟨by omega, by omega, by omega, by omega⟩
  have n89 : g8 ≠ g ∧ g9 ≠ g := ⟨meter_not_key (R4.out.self.kept b5).row S8.out, meter_not_key (R4.out.self.kept b5).row S9.out⟩
  clear hK K env b5 HS2 T8 T9 B4 HP
  go_wp2_with fail
  refine (wpIn_wide (n := 3)).1 ?_
  refine wpIn_rangeFunc_R (F := Fence.wide) rfl (by omega) (gf := 27) (lb := #[.pointer (some ⟨gn, 0, none⟩), .pointer (some ⟨gm, 0, none⟩), .pointer (some ⟨gk, 0, none⟩), .pointer (some ⟨gi, 0, none⟩)]) rfl trivial (enters_of Tryd.func27 (by kernel_rfl) rfl)
    (expanded1_tells 2 (by omega) w0 w w5 g n (n + 3 * 1) gn gm gk gi (.slice IA info.length ic) key info 1 (fun k => k = g9) (fun k hk => by rw [hk]; exact S9.out.lt) hX4 HK.out (fun W h => HU5.out.below h) (fun h => by omega) hil (by omega) (Nat.le_refl _) (by omega) EV.out)
    (fun A B h k o _ hk ho => h.keeps k o hk ho) bodyKeeps_t (bodyKeeps_b B5.out.size) (Below.refl _ _) (fun _ => rfl)
    (fun pre W => (RowAt W g8 23 (keyC zeroKey) ∧ RowAt W g9 23 (keyC (lastT key info pre))) ∧ (w5.heap.size ≤ W.heap.size ∧ XEnv w0 w W g (n + 3 * 1) gn gm gk gi (.slice IA info.length ic) key 1))
    (fun _ _ _ => False)
    (fun s X Y row hs hg hr => by
      obtain ⟨⟨h1, h2⟩, h3, h4⟩ := hs
      have cell : ∀ k cs, RowAt X k 23 cs → RowAt Y k 23 cs := fun k cs h => h.grown hg fun e => by
        obtain ⟨_, o, ho, hc⟩ := hr k e.symm
        rw [show X.heap[k]? = _ from h] at ho
        cases ho
        simp [Obj.isCells] at hc
      exact ⟨⟨cell _ _ h1, cell _ _ h2⟩, Nat.le_trans h3 hg.size, h4.own hg (fun r e => (hr r e).2) (fun r e => Nat.le_trans B5.out.size (hr r e).1)⟩)
    (fun _ _ _ _ _ hs _ _ => hs)
    (fun s A B hs h => by
      obtain ⟨⟨h1, h2⟩, h4, h5⟩ := hs
      exact ⟨⟨h1.grown h.1 (by intro e; injection e with e; exact n89.1 e), h2.grown h.1 (by intro e; injection e with e; exact n89.2 e)⟩, Nat.le_trans h4 h.1.size, h5.stepped h⟩)
    (fun _ _ _ _ hs _ => hs)
    ⟨⟨S8.out, S9.out⟩, Nat.le_refl _, EV.out.more (by omega)⟩
    (fun x a' W => ∃ Bx, w5.heap.size ≤ Bx ∧ RowAt W Bx 23 (keyC (tB key info (x + 1))) ∧ a' = { tmps := #[.pointer (some ⟨g, 0, none⟩), keyV key, .string lab, .slice A ls.length c, undef, .pointer (some ⟨g5, 0, none⟩), undef, undef, .pointer (some ⟨g8, 0, none⟩), .pointer (some ⟨g9, 0, none⟩), .pointer (some ⟨Bx, 0, none⟩), .pointer (some ⟨g, 0, none⟩), .agg (keyC key), .string lab, .slice A ls.length c, .slice IA info.length ic, .func (.func 27) #[] #[.pointer (some ⟨gn, 0, none⟩), .pointer (some ⟨gm, 0, none⟩), .pointer (some ⟨gk, 0, none⟩), .pointer (some ⟨gi, 0, none⟩)], keyV (tB key info (x + 1)), undef, undef], defers := [] })
    (fun x a' _ X Y row hs hg hr => by
      obtain ⟨Bx, h1, h2, h3⟩ := hs
      refine ⟨Bx, h1, h2.grown hg (fun e => ?_), h3⟩
      obtain ⟨_, o, ho, hc⟩ := hr Bx e.symm
      rw [show X.heap[Bx]? = _ from h2] at ho
      cases ho
      simp [Obj.isCells] at hc)
    ?assign ?body ?done ?stop
  case assign =>
    rintro l pre x W K ⟨⟨h8, h9⟩, hsz, hEnv⟩ hK
    gi_wp2_with (first
      | ((with_reducible refine roundL_alloc_row (o := ⟨some 10, _, _, _, _, _⟩) rfl 23 rfl (keyC zeroKey) Tryd.zeroK ?_); intro gx wx nx)
      | ((with_reducible refine roundL_store_row (o := ⟨none, _, _, _, _, _⟩) rfl 23 (.tmp 10) (.tmp 17) rfl gx 23 _ (keyC (tB key info (x + 1))) (by with_unfolding_all rfl) (by with_unfolding_all rfl) nx.row (keyC_same zeroKey_length (tB_length _ _ _)) (Tryd.sizeKey _ (tB_length _ _ _)) (keyC_one _) ?_); intro wy py))
    obtain ⟨hb, hko⟩ := laid_put nx py
    exact hK _ _ (hko.from _) (BodyKeeps.of_below (Nat.le_trans B5.out.size hsz) hb)
      ⟨⟨h8.kept hb, h9.kept hb⟩, Nat.le_trans hsz hb.size, hEnv.below hb⟩
      ⟨gx, by rw [nx.spot]; exact hsz, py.row, by simp [Act.put]⟩
  case body =>
    rintro l pre x a' W hl hrec ⟨⟨h8, h9⟩, hsz, hEnv⟩ ⟨Bx, hBx, hRow, rfl⟩ hlt
    have HL9 : Hid ((lastT key info pre).length = 32) := lastT_length _ _ _
    have LT : Hid ((tB key info (x + 1)).length = 32) := tB_length _ _ _
    have HSN : Hid (lastT key info (pre ++ [x]) = tB key info (x + 1)) := lastT_snoc _ _ _ _
    obtain ⟨tk, htk⟩ : ∃ t, t = tB key info (x + 1) := ⟨_, rfl⟩
    rw [← htk] at hRow LT HSN ⊢
    generalize lastT key info pre = lt at h9 HL9
    clear htk hrec
    gi_wp2_with (first
      | (with_reducible refine roundL_load_row (o := ⟨some 18, _, _, _, _, _⟩) rfl 23 (.tmp 10) rfl Bx (by with_unfolding_all rfl) 23 (keyC tk) (0, 0) (.array 32 5) (by with_unfolding_all exact hRow) Tryd.underlying23 rfl (Tryd.sizeKey tk LT.out) ?_)
      | ((with_reducible refine roundL_store_row (o := ⟨none, _, _, _, _, _⟩) rfl 23 (.tmp 9) (.tmp 18) rfl g9 23 _ (keyC tk) (by with_unfolding_all rfl) (by with_unfolding_all rfl) h9 (keyC_same HL9.out LT.out) (Tryd.sizeKey _ LT.out) (keyC_one _) ?_); intro wy py))
    have hbw : Below w.heap.size W wy := py.below (Below.refl _ _) (Nat.le_trans B5.out.size hsz) hg9
    have hcell : ∀ (j : Nat) (o : Obj), some g9 = some j → W.heap[j]? = some o → o.isCells = true := fun j o ej hj => by
      injection ej with ej
      subst ej
      rw [show W.heap[g9]? = _ from h9] at hj
      cases hj
      rfl
    have hbk : BodyKeeps w (fun k => k = g9) W wy := ⟨hbw, fun k o hk _ hne => (py.grown.block k (Array.getElem?_eq_some_iff.1 hk).1 (fun e => by injection e with e; exact hne e)).trans hk⟩
    refine ⟨(KeepsOthers.of_grownBy py.grown hcell).from _, hbk, ⟨h8.grown py.grown (by intro e; injection e with e; exact h89 e), by rw [HSN.out]; exact py.row⟩, Nat.le_trans hsz hbw.size, hEnv.body hX4 hbk⟩
  case done =>
    rintro D xs W hD rfl ⟨⟨h8, h9⟩, hsz, hEnv⟩ hK
    have HL9 : Hid ((lastT key info (List.range 1)).length = 32) := lastT_length _ _ _
    have HRG : Hid (lastT key info (List.range 1) = lastT key info [0]) := rfl
    have HEV := Lib.hid hEnv
    have hD8 : D ≠ g8 := by have := S8.out.lt; omega
    rw [HRG.out] at h9 HL9
    obtain ⟨lt, hlt⟩ : ∃ t, t = lastT key info [0] := ⟨_, rfl⟩
    rw [← hlt] at h9 HL9
    have HLT := Lib.hid hlt
    clear hlt
    clear hEnv
    go_wp2_with (first
      | (with_reducible refine wpList_load_row (o := ⟨some 19, _, _, _, _, _⟩) rfl 23 (.tmp 9) rfl g9 (by with_unfolding_all rfl) 23 (keyC lt) (0, 0) (.array 32 5) (by with_unfolding_all exact h9) Tryd.underlying23 rfl (Tryd.sizeKey lt HL9.out) ?_)
      | ((with_reducible refine wpList_store_row (o := ⟨none, _, _, _, _, _⟩) rfl 23 (.tmp 8) (.tmp 19) rfl g8 23 _ (keyC lt) (by with_unfolding_all rfl) (by with_unfolding_all rfl) h8 (keyC_same zeroKey_length HL9.out) (Tryd.sizeKey lt HL9.out) (keyC_one _) ?_); intro wy py))
    have hDW : D < W.heap.size := (Array.getElem?_eq_some_iff.1 hK).1
    have hK2 : wy.heap[D]? = some (.deferred (some [])) := (py.grown.block D hDW (fun e => by injection e with e; exact hD8 e)).trans hK
    refine ⟨by simp, .inl ⟨_, _, rfl, run_takeDeferred hK2, ?_⟩⟩
    obtain ⟨n', hn', hrun⟩ := HEV.out.run
    have r8 : RowAt (wy.putObj D (.deferred none)) g8 23 (keyC lt) := (World.putObj_heap_other (by omega)).trans py.row
    have hbw : Below w.heap.size W wy := py.below (Below.refl _ _) (Nat.le_trans B5.out.size hsz) hg8
    have hbd : Below w.heap.size wy (wy.putObj D (.deferred none)) := belowK_b (w := w) (Nat.le_refl _) wy D _ _ (by have := B5.out.size; omega) hK2 rfl rfl
    exact ⟨_, results_cell_row rfl _ _ g8 23 (keyC lt) (0, 0) (.array 32 5) rfl r8 Tryd.underlying23 rfl (Tryd.sizeKey lt HL9.out), n', hn', by rw [HLT.out], (hrun.beneath hbw).beneath hbd⟩
  case stop =>
    rintro D c pre W _ _ h _
    exact h.elim
end Go.Proofs.YtjlhmcnajgafgaaDoor
end
section
namespace Go.Proofs.YtjlhmcnajgafgaaDoor
open Go.RowKit
set_option linter.unusedVariables false
set_option maxRecDepth 20000

def mC (n : Nat) : Array Value := meterC false n (.slice none 0 0)
section
variable {w0 w w' : World} {rs : List (Nat × TypeId × Array Value)} {m g n n' : Nat}
theorem Env.toRun (hE : Env w0 rs w) (ht : Tabs w0) (hm : rs[m]? = some (g, 65, mC n)) : Run w0 w g n w :=
  ⟨hE.below, hE.row m hm, ht, hE.spot m hm, hE.below.size, ⟨n, hE.row m hm⟩, grown_refl _ _⟩
theorem Env.ofRun (hE : Env w0 rs w) (hm : rs[m]? = some (g, 65, mC n)) (h : Run w0 w g n' w') : Env w0 (rs.set m (g, 65, mC n')) w' := hE.turned m hm h.row h.grown
theorem Env.bs (hE : Env w0 rs w) {v : Value} {l : List UInt8} (h : Bs w0 v l) : Bs w v l := h.below hE.below
theorem Env.arr (hE : Env w0 rs w) (i : Nat) {b : Nat} {t : TypeId} {l : List UInt8} (hi : rs[i]? = some (b, t, keyC l)) (k : Nat) (hl : l.length = k) (hk : k ≤ 1000000) : Bs w (.slice (some ⟨b, 0, none⟩) k k) l := by
  subst hl
  exact row_bs (hE.row i hi) (by unfold maxLen; omega)
theorem Sum_env (hE : Env w0 rs w) (ht : Tabs w0) (hm : rs[m]? = some (g, 65, mC n)) (v : Value) (ls : List (List UInt8)) (d : List UInt8) (hn : n ≤ 1000000000) (hd : d = digestB ls.flatten) (hb : Bss w v ls) (hl : ls.flatten.length ≤ 1000000) (hlm : ls.length ≤ 1000000) :
    Calls Tryd.prog 32 #[.pointer (some ⟨g, 0, none⟩), v] w fun e w' => e = .returned (.agg (keyC d)) ∧ Env w0 (rs.set m (g, 65, mC (n + 1))) w' :=
  (Sum_run w0 w g n v ls d (hE.toRun ht hm) hn hd hb hl hlm).mono fun _ _ h => ⟨h.1, hE.ofRun hm h.2⟩
end
theorem Env.tl {w0 w : World} {r : Nat × TypeId × Array Value} {rs : List (Nat × TypeId × Array Value)} (h : Env w0 (r :: rs) w) : Env w0 rs w := h.less (List.sublist_cons_self _ _)
theorem Env.cellV {w0 w : World} {rs : List (Nat × TypeId × Array Value)} {g : Nat} {t : TypeId} {cs : Array Value} (h : Env w0 rs w) (i : Nat) (hi : rs[i]? = some (g, t, cs)) (j : Nat) (v : Value) (hv : cs[j]? = some v) : w.cell? ⟨g, j, none⟩ = some v := by
  rw [(h.row i hi).cell j, hv]
theorem Env.fzV {w0 w : World} {rs : List (Nat × TypeId × Array Value)} {g : Nat} {t : TypeId} {cs : Array Value} (h : Env w0 rs w) (i : Nat) (hi : rs[i]? = some (g, t, cs)) (j : Nat) : w.frozen? ⟨g, j, none⟩ = false := (h.row i hi).frozen j
theorem run_partK {P : Program} {w : World} {o : Oper} {a : Act} (ty : TypeId) (x : Operand) (ho : o.op = .load ty x) (g k : Nat) (hx : a.eval x = .pointer (some ⟨g, k, none⟩)) (t : TypeId) (cs : Array Value) (l : List UInt8) (d : TypeDesc) (hr : RowAt w g t cs) (hp : (cs.toList.drop k).take (cellsB l).length = cellsB l)
    (hu : P.underlying ty = some d) (hd : d.isRow = true) (hs : (P.info? ty).map (·.size) = some (cellsB l).length) : (execOp a.eval o).run P w = .ok (.value (.agg (keyC l))) w := by
  have hc : w.rangeAt g k (cellsB l) := by
    have h := rangeAt_row (k := k) (n := (cellsB l).length) hr
    rwa [hp] at h
  unfold execOp
  simp only [ho, hx, Instr.loadAt, Instr.sureAddr, Sem.run_bind, Sem.run_pure, Result.andThen_ok, run_loadVar_mid w g k ty (cellsB l) d hc hu hd hs]
  rfl
theorem set_at {rs : List (Nat × TypeId × Array Value)} {m : Nat} {x y : Nat × TypeId × Array Value} (h : rs[m]? = some x) : (rs.set m y)[m]? = some y := by
  have := (List.getElem?_eq_some_iff.1 h).1
  simp [this]
/-- Two values that calls hand back, one continuation. -/
theorem share2 {P : Program} {md : Region.Mode} {ops : Array Oper} {Q : Exit → Act → World → Prop} {fin : Nat → Bool} {SS : World → Prop} {w : World} {m m' : Nat} {listed L' : Array Bool} {a : Act} {A : Value → Value → Act} (Φ : Value → Value → World → Prop)
    (hgo : ∀ u v x, Φ u v x → walkS P md ops Q SS fin m' L' (A u v) x) (h : (∀ u v x, Φ u v x → walkS P md ops Q SS fin m' L' (A u v) x) → walkS P md ops Q SS fin m listed a w) : walkS P md ops Q SS fin m listed a w := h hgo
theorem walkS_listed {P : Program} {md : Region.Mode} {ops : Array Oper} {Q : Exit → Act → World → Prop} {fin : Nat → Bool} {SS : World → Prop} {w : World} {m : Nat} {l l' : Array Bool} {a : Act} (h : l = l') (hw : walkS P md ops Q SS fin m l' a w) : walkS P md ops Q SS fin m l a w := h ▸ hw
theorem Bss.lit4 (w : World) (u0 u1 u2 u3 : Value) (a b c d : List UInt8) (h0 : Bs w u0 a) (h1 : Bs w u1 b) (h2 : Bs w u2 c) (h3 : Bs w u3 d) :
    Bss (w.alloc (.cells #[u0, u1, u2, u3] 68)) (.slice (some ⟨w.heap.size, 0, none⟩) 4 4) [a, b, c, d] := by
  have hb := alloc_below w (.cells #[u0, u1, u2, u3] 68)
  refine ⟨_, _, rfl, Nat.le_refl _, by unfold maxLen; simp, fun _ => ⟨w.heap.size, 0, rfl, fun j hj => ?_⟩⟩
  have hr := (RowAt.new w 68 #[u0, u1, u2, u3]).cell
  match j, hj with
  | 0, _ => exact ⟨u0, by rw [Nat.zero_add, hr]; rfl, h0.below hb⟩
  | 1, _ => exact ⟨u1, by rw [Nat.zero_add, hr]; rfl, h1.below hb⟩
  | 2, _ => exact ⟨u2, by rw [Nat.zero_add, hr]; rfl, h2.below hb⟩
  | 3, _ => exact ⟨u3, by rw [Nat.zero_add, hr]; rfl, h3.below hb⟩

end Go.Proofs.YtjlhmcnajgafgaaDoor
end
section
namespace Go.Proofs.YtjlhmcnajgafgaaDoor
open Go.RowKit
set_option linter.unusedVariables false
set_option maxRecDepth 20000

theorem set_id {rs : List (Nat × TypeId × Array Value)} {m : Nat} {x : Nat × TypeId × Array Value} (h : rs[m]? = some x) : rs.set m x = rs := by
  refine List.ext_getElem? fun j => ?_
  rw [List.getElem?_set]
  split
  · rename_i e
    subst e
    rw [if_pos (List.getElem?_eq_some_iff.1 h).1, h]
  · rfl

end Go.Proofs.YtjlhmcnajgafgaaDoor
end
section
namespace Go.Proofs.YtjlhmcnajgafgaaDoor
open Go.RowKit
set_option linter.unusedVariables false
set_option maxRecDepth 20000

section
variable {w0 w w' : World} {rs : List (Nat × TypeId × Array Value)} {m g n n' : Nat}
theorem Env.toLog (hE : Env w0 rs w) (hm : rs[m]? = some (g, 32, logC n)) : LogR w0 w g n w := LogR.new hE.below (hE.row m hm) (hE.spot m hm)
theorem Env.ofLog (hE : Env w0 rs w) (hm : rs[m]? = some (g, 32, logC n)) (h : LogR w0 w g n' w') : Env w0 (rs.set m (g, 32, logC n')) w' := hE.turned m hm h.row h.grown
theorem LogSum_env (hE : Env w0 rs w) (hm : rs[m]? = some (g, 32, logC n)) (v : Value) (l d : List UInt8) (hn : n ≤ 1000000000) (hd : d = digestB l) (hb : Bs w v l) (hl : l.length ≤ 1000000) :
    Calls Tryd.prog 30 #[.pointer (some ⟨g, 0, none⟩), v] w fun e w' => e = .returned (.agg (keyC d)) ∧ Env w0 (rs.set m (g, 32, logC (n + 1))) w' :=
  (LogSum_run w0 w g n v l d (hE.toLog hm) hn hd hb (Nat.le_trans hl (by omega))).mono fun _ _ h => ⟨h.1, hE.ofLog hm h.2⟩
end
theorem refNum_any (w : World) (z : Int) (k : Nat) (hk : (k : Int) = z % 18446744073709551616) : Calls Tryd.prog 18 #[.int .u64 (k : Int), .int .i64 2] w (RetBs w (numB z)) := by
  have h := refHigh_any w k (by omega) 2 (by omega)
  have e : highI k 2 = numB z := by
    unfold highI numB
    rw [show (2 : Int) = ((2 : Nat) : Int) from rfl, lowI_in k 2 (by omega) (by omega), ← hk]
    rfl
  rw [e] at h
  exact h

end Go.Proofs.YtjlhmcnajgafgaaDoor
end
section
namespace Go.Proofs.YtjlhmcnajgafgaaDoor
open Go.RowKit
set_option linter.unusedVariables false
set_option maxRecDepth 20000

set_option maxHeartbeats 4000000 in
theorem refInfo_any (w : World) (lab : ByteArray) (hlab : lab.size ≤ 1000) (A : Option Addr) (c : Nat) (ls : List (List UInt8)) (hb : Bss w (.slice A ls.length c) ls) (hn : ls.length ≤ 100) (hl : ∀ b ∈ ls, b.length ≤ 1000) :
    Calls Tryd.prog 23 #[.string lab, .slice A ls.length c] w (RetOwn w 5 (infoB lab.data.toList ls)) := by
  obtain ⟨i0, hi, hz0, hz1, hz2⟩ := info_parts Tryd.infoB
  have HB := Lib.hid hb
  have HN := Lib.hid hn
  have HL := Lib.hid hl
  clear hb hl hn
  by_cases hs : lab.size ≤ 255
  · have d1 : decide ((255 : Int) < (lab.size : Int)) = false := by simp; omega
    have HSZ : Hid (lab.size ≤ 1000) := hlab
    go_enter Tryd.func23, Tryd.ntmps23
    go_wp2_with (at_builtin; go_must (refine Lib.wpList_append_own_string _ rfl (.tmp 15) (.tmp 16) 68 9 rfl w.heap.size 5 i0 Tryd.underlying68 Tryd.underlying9 hi hz0 hz1 hz2 (.slice (some ⟨w.heap.size, 0, none⟩) 1 1) 1 [.int .u8 (lab.size : Int)] rfl (World.ownsRow_lit w #[.int .u8 (lab.size : Int)] 1 (Nat.le_refl _) (by unfold maxLen; omega) rfl) lab rfl (by have := HSZ.out; unfold maxLen; omega) (by have := HSZ.out; omega) (by simp) ?_); intro v1 w1 own1 g1 nil1)
    obtain ⟨s2, hs2⟩ : ∃ s, s = lab := ⟨_, rfl⟩
    obtain ⟨labl, hlabl⟩ : ∃ l, l = s2.data.toList := ⟨_, rfl⟩
    have HLB : Hid (labl = s2.data.toList) := hlabl
    have hll : labl.length = lab.size := by rw [hlabl, hs2]; simp
    have hll2 : labl.length = s2.size := by rw [hll, hs2]
    have HLL : Hid (labl.length ≤ 255) := by show _ ≤ _; omega
    have HS2 := Lib.hid hs2
    rw [← hll, ← hs2] at own1
    clear hs2 hlabl
    have O1 : Hid (OwnB w1 w.heap.size 5 v1 (partsL labl (ls.take 0)).flatten) := by
      show OwnB _ _ _ _ _
      have e : (partsL labl (ls.take 0)).flatten = UInt8.ofNat labl.length :: labl := by simp [partsL]
      rw [e]
      unfold OwnB
      have e2 : cellsB (UInt8.ofNat labl.length :: labl) = [Value.int .u8 (labl.length : Int)] ++ Lib.strCells s2 := by
        rw [Lib.strCells, ← HLB.out]
        simp only [cellsB, List.map_cons, List.cons_append, List.nil_append]
        rw [UInt8.toNat_ofNat', Nat.mod_eq_of_lt (by omega)]
      rw [e2, List.length_cons, Nat.add_comm labl.length 1]
      exact own1
    have B1 := Lib.hid ((alloc_below w (.cells #[.int .u8 (lab.size : Int)] 5)).grown g1 (alloc_below w _).size (fun k hk => by have e2 : w.heap.size = k := (by simpa [Value.ownBlock] using hk); omega))
    have hres : infoB lab.data.toList ls = (partsL labl ls).flatten := by rw [HLB.out, HS2.out, infoB, List.take_of_length_le (by simp; omega)]
    have HRES := Lib.hid hres
    have hfl := partsL_flat labl ls HL.out
    have HFL : Hid ((partsL labl ls).flatten.length ≤ 1000000000) := by show _ ≤ _; have := HN.out; omega
    clear own1 g1 nil1 hres hfl hll2 hll
    obtain ⟨HN0, hHN0⟩ : ∃ n : Nat, n = ls.length := ⟨_, rfl⟩
    have HNN := Lib.hid hHN0
    go_loopw [5, 6] (fun v i wr => ∃ k : Nat, k ≤ ls.length ∧ i = .int .i64 k ∧ OwnB wr w.heap.size 5 v (partsL labl (ls.take k)).flatten ∧ Below w.heap.size w wr) (fun _ i _ => ls.length - (intOf i).toNat)
    case atStart => exact ⟨0, Nat.zero_le _, rfl, O1.out, B1.out⟩
    case round =>
      clear O1 B1 hHN0
      obtain ⟨k, hk, rfl, hO, hB⟩ := hrel
      have HO := Lib.hid hO
      have HBW := Lib.hid hB
      clear hO hB
      by_cases hlt : k < ls.length
      · obtain ⟨A', c', hv, hc1, hc2, hc3⟩ := HB.out
        injection hv with e1 e2 e3
        subst e1 e3
        obtain ⟨b, off, rfl, hcell⟩ := hc3 (by omega)
        obtain ⟨u, hcu, hbu⟩ := hcell k hlt
        have hcu2 := (HBW.out.cell (World.block_lt_of_cell? w _ hcu)).trans hcu
        have HU := Lib.hid hbu
        obtain ⟨UA2, uc2, rfl, q1, q2, _⟩ := hbu
        obtain ⟨bl, hbl⟩ : ∃ l, l = ls[k] := ⟨_, rfl⟩
        have hbn : bl.length ≤ 1000 := by rw [hbl]; exact HL.out _ (List.getElem_mem _)
        have hnx := partsL_next labl ls k hlt
        have hle : (partsL labl (ls.take k)).flatten.length ≤ 1000000 := by
          have h1 := partsL_flat labl (ls.take k) (fun b hb => HL.out b (List.mem_of_mem_take hb))
          have h2 : (ls.take k).length ≤ ls.length := by rw [List.length_take]; exact Nat.min_le_right _ _
          have := HN.out
          have := HLL.out
          omega
        rw [← hbl] at hnx HU hcu2 hcu q1
        have HNX := Lib.hid hnx
        obtain ⟨m, hm⟩ : ∃ m, m = bl.length := ⟨_, rfl⟩
        have HM := Lib.hid hm
        rw [← hm] at hcu2 hbn q1 HU
        have v1 : IntKind.u64.wrap (m : Int) = (m : Int) := by rw [IntKind.wrap_u64]; omega
        have HCU := Lib.hid hcu
        unfold maxLen at q2 hc2
        clear hcell hbl hnx hm hc3
        go_wp2_with fail
        refine (refHigh_any _ m (by omega) 4 (by omega)).mono ?_
        intro e w4 h
        obtain ⟨u4, he, hu4, b4⟩ := h
        subst he
        have e4 : highI m 4 = highB4 m := by rw [highI, show (4 : Int) = ((4 : Nat) : Int) from rfl, lowI_in m 4 (by omega) (by omega), highB4]
        rw [e4] at hu4
        have HU4 := Lib.hid hu4
        have HO4 := Lib.hid (HO.out.below b4)
        have B4 := Lib.hid (below_size HBW.out b4)
        have h4l : (highB4 m).length = 4 := by rw [highB4, List.length_reverse, lowB_length]
        clear hu4 b4 HO HBW e4
        go_wp2_with (first
          | (at_builtin; refine wpList_appB _ rfl (.tmp 24) (.tmp 31) 68 rfl w 5 Tryd.infoB Tryd.underlying68 _ _ (partsL labl (ls.take k)).flatten (highB4 m) rfl rfl HO4.out HU4.out (by omega) B4.out ?_; intro v6 w6 O6 B6; have HO6 := Lib.hid O6; have HB6 := Lib.hid B6; have hcu3 := (B6.cell (World.block_lt_of_cell? w _ HCU.out)).trans HCU.out; rw [← HM.out] at hcu3; clear O6 B6)
          | (at_builtin; refine wpList_appB _ rfl (.tmp 33) (.tmp 37) 68 rfl w 5 Tryd.infoB Tryd.underlying68 _ _ ((partsL labl (ls.take k)).flatten ++ highB4 m) bl rfl rfl HO6.out (HU.out.below HB6.out) (by rw [List.length_append]; have := HM.out; omega) HB6.out ?_; intro v7 w7 O7 B7; have HB7 := Lib.hid B7; clear B7))
        have HO7 : Hid (OwnB w7 w.heap.size 5 v7 (partsL labl (ls.take (k + 1))).flatten) := by
          show OwnB _ _ _ _ _
          rw [HNX.out, List.flatten_append, ← HM.out]
          have e : ([highB4 m, bl] : List (List UInt8)).flatten = highB4 m ++ bl := by simp
          rw [e, ← List.append_assoc]
          exact O7
        clear O7 hcu3
        go_roundw
        case rel => exact ⟨k + 1, by omega, by go_num, HO7.out, HB7.out⟩
        case measure => simp [intOf]; omega
      · have hkn : k = ls.length := by omega
        have HO2 := Lib.hid HO.out
        rw [hkn, List.take_of_length_le (Nat.le_refl _)] at HO2
        clear hkn HO
        go_wp2
        go_ret
        exact ⟨_, rfl, by rw [HRES.out]; exact HO2.out, HBW.out⟩
  · have d1 : decide ((255 : Int) < (lab.size : Int)) = true := by simp; omega
    have HSZ : Hid ((lab.extract 0 255).size ≤ 1000) := by show _ ≤ _; rw [ByteArray.size_extract]; omega
    have hmin : min 255 lab.size = 255 := by omega
    go_enter Tryd.func23, Tryd.ntmps23
    go_wp2_with (at_builtin; go_must (refine Lib.wpList_append_own_string _ rfl (.tmp 15) (.tmp 16) 68 9 rfl w.heap.size 5 i0 Tryd.underlying68 Tryd.underlying9 hi hz0 hz1 hz2 (.slice (some ⟨w.heap.size, 0, none⟩) 1 1) 1 [.int .u8 (255 : Int)] rfl (World.ownsRow_lit w #[.int .u8 (255 : Int)] 1 (Nat.le_refl _) (by unfold maxLen; omega) rfl) (lab.extract 0 255) rfl (by have := HSZ.out; unfold maxLen; omega) (by have := HSZ.out; omega) (by simp) ?_); intro v1 w1 own1 g1 nil1)
    obtain ⟨s2, hs2⟩ : ∃ s, s = lab.extract 0 255 := ⟨_, rfl⟩
    obtain ⟨labl, hlabl⟩ : ∃ l, l = s2.data.toList := ⟨_, rfl⟩
    have HLB : Hid (labl = s2.data.toList) := hlabl
    have hll2 : labl.length = s2.size := by rw [hlabl]; simp
    have hll : labl.length = 255 := by rw [hll2, hs2, ByteArray.size_extract]; omega
    have HLL : Hid (labl.length ≤ 255) := by show _ ≤ _; omega
    have HS2 : Hid (s2.data.toList = lab.data.toList.take 255) := by show _ = _; rw [hs2]; simp
    have h255 : (lab.extract 0 255).size = 255 := by rw [← hs2]; omega
    rw [h255, ← hs2] at own1
    have own1 : w1.ownsRow w.heap.size 5 1 v1 (1 + labl.length) ([.int .u8 (labl.length : Int)] ++ Lib.strCells s2) := by rw [hll]; exact own1
    clear hs2 hlabl
    have O1 : Hid (OwnB w1 w.heap.size 5 v1 (partsL labl (ls.take 0)).flatten) := by
      show OwnB _ _ _ _ _
      have e : (partsL labl (ls.take 0)).flatten = UInt8.ofNat labl.length :: labl := by simp [partsL]
      rw [e]
      unfold OwnB
      have e2 : cellsB (UInt8.ofNat labl.length :: labl) = [Value.int .u8 (labl.length : Int)] ++ Lib.strCells s2 := by
        rw [Lib.strCells, ← HLB.out]
        simp only [cellsB, List.map_cons, List.cons_append, List.nil_append]
        rw [UInt8.toNat_ofNat', Nat.mod_eq_of_lt (by omega)]
      rw [e2, List.length_cons, Nat.add_comm labl.length 1]
      exact own1
    have B1 := Lib.hid ((alloc_below w (.cells #[.int .u8 (255 : Int)] 5)).grown g1 (alloc_below w _).size (fun k hk => by have e2 : w.heap.size = k := (by simpa [Value.ownBlock] using hk); omega))
    have hres : infoB lab.data.toList ls = (partsL labl ls).flatten := by rw [HLB.out, HS2.out, infoB]
    have HRES := Lib.hid hres
    have hfl := partsL_flat labl ls HL.out
    have HFL : Hid ((partsL labl ls).flatten.length ≤ 1000000000) := by show _ ≤ _; have := HN.out; omega
    clear own1 g1 nil1 hres hfl hll2 hll
    obtain ⟨HN0, hHN0⟩ : ∃ n : Nat, n = ls.length := ⟨_, rfl⟩
    have HNN := Lib.hid hHN0
    go_loopw [5, 6] (fun v i wr => ∃ k : Nat, k ≤ ls.length ∧ i = .int .i64 k ∧ OwnB wr w.heap.size 5 v (partsL labl (ls.take k)).flatten ∧ Below w.heap.size w wr) (fun _ i _ => ls.length - (intOf i).toNat)
    case atStart => exact ⟨0, Nat.zero_le _, rfl, O1.out, B1.out⟩
    case round =>
      clear O1 B1 hHN0
      obtain ⟨k, hk, rfl, hO, hB⟩ := hrel
      have HO := Lib.hid hO
      have HBW := Lib.hid hB
      clear hO hB
      by_cases hlt : k < ls.length
      · obtain ⟨A', c', hv, hc1, hc2, hc3⟩ := HB.out
        injection hv with e1 e2 e3
        subst e1 e3
        obtain ⟨b, off, rfl, hcell⟩ := hc3 (by omega)
        obtain ⟨u, hcu, hbu⟩ := hcell k hlt
        have hcu2 := (HBW.out.cell (World.block_lt_of_cell? w _ hcu)).trans hcu
        have HU := Lib.hid hbu
        obtain ⟨UA2, uc2, rfl, q1, q2, _⟩ := hbu
        obtain ⟨bl, hbl⟩ : ∃ l, l = ls[k] := ⟨_, rfl⟩
        have hbn : bl.length ≤ 1000 := by rw [hbl]; exact HL.out _ (List.getElem_mem _)
        have hnx := partsL_next labl ls k hlt
        have hle : (partsL labl (ls.take k)).flatten.length ≤ 1000000 := by
          have h1 := partsL_flat labl (ls.take k) (fun b hb => HL.out b (List.mem_of_mem_take hb))
          have h2 : (ls.take k).length ≤ ls.length := by rw [List.length_take]; exact Nat.min_le_right _ _
          have := HN.out
          have := HLL.out
          omega
        rw [← hbl] at hnx HU hcu2 hcu q1
        have HNX := Lib.hid hnx
        obtain ⟨m, hm⟩ : ∃ m, m = bl.length := ⟨_, rfl⟩
        have HM := Lib.hid hm
        rw [← hm] at hcu2 hbn q1 HU
        have v1 : IntKind.u64.wrap (m : Int) = (m : Int) := by rw [IntKind.wrap_u64]; omega
        have HCU := Lib.hid hcu
        unfold maxLen at q2 hc2
        clear hcell hbl hnx hm hc3
        go_wp2_with fail
        refine (refHigh_any _ m (by omega) 4 (by omega)).mono ?_
        intro e w4 h
        obtain ⟨u4, he, hu4, b4⟩ := h
        subst he
        have e4 : highI m 4 = highB4 m := by rw [highI, show (4 : Int) = ((4 : Nat) : Int) from rfl, lowI_in m 4 (by omega) (by omega), highB4]
        rw [e4] at hu4
        have HU4 := Lib.hid hu4
        have HO4 := Lib.hid (HO.out.below b4)
        have B4 := Lib.hid (below_size HBW.out b4)
        have h4l : (highB4 m).length = 4 := by rw [highB4, List.length_reverse, lowB_length]
        clear hu4 b4 HO HBW e4
        go_wp2_with (first
          | (at_builtin; refine wpList_appB _ rfl (.tmp 24) (.tmp 31) 68 rfl w 5 Tryd.infoB Tryd.underlying68 _ _ (partsL labl (ls.take k)).flatten (highB4 m) rfl rfl HO4.out HU4.out (by omega) B4.out ?_; intro v6 w6 O6 B6; have HO6 := Lib.hid O6; have HB6 := Lib.hid B6; have hcu3 := (B6.cell (World.block_lt_of_cell? w _ HCU.out)).trans HCU.out; rw [← HM.out] at hcu3; clear O6 B6)
          | (at_builtin; refine wpList_appB _ rfl (.tmp 33) (.tmp 37) 68 rfl w 5 Tryd.infoB Tryd.underlying68 _ _ ((partsL labl (ls.take k)).flatten ++ highB4 m) bl rfl rfl HO6.out (HU.out.below HB6.out) (by rw [List.length_append]; have := HM.out; omega) HB6.out ?_; intro v7 w7 O7 B7; have HB7 := Lib.hid B7; clear B7))
        have HO7 : Hid (OwnB w7 w.heap.size 5 v7 (partsL labl (ls.take (k + 1))).flatten) := by
          show OwnB _ _ _ _ _
          rw [HNX.out, List.flatten_append, ← HM.out]
          have e : ([highB4 m, bl] : List (List UInt8)).flatten = highB4 m ++ bl := by simp
          rw [e, ← List.append_assoc]
          exact O7
        clear O7 hcu3
        go_roundw
        case rel => exact ⟨k + 1, by omega, by go_num, HO7.out, HB7.out⟩
        case measure => simp [intOf]; omega
      · have hkn : k = ls.length := by omega
        have HO2 := Lib.hid HO.out
        rw [hkn, List.take_of_length_le (Nat.le_refl _)] at HO2
        clear hkn HO
        go_wp2
        go_ret
        exact ⟨_, rfl, by rw [HRES.out]; exact HO2.out, HBW.out⟩
end Go.Proofs.YtjlhmcnajgafgaaDoor
end
section
namespace Go.Proofs.YtjlhmcnajgafgaaDoor
open Go.RowKit
set_option linter.unusedVariables false
set_option maxRecDepth 20000

/-- The row of a list of keys, if there is one yet. -/
def exRow (v : Value) (ls : List (List UInt8)) (base : Nat) (ex : List (Nat × TypeId × Array Value)) : Prop :=
  (ex = [] ∧ v = .slice none 0 0 ∧ ls = []) ∨ ∃ g cap cur, ex = [(g, 23, cur)] ∧ v = .slice (some ⟨g, 0, none⟩) ls.length cap ∧ base ≤ g ∧ ls.length ≤ cap ∧ cap ≤ maxLen ∧ cur.size = cap * 32 ∧ cur.toList.take (ls.length * 32) = cellsB ls.flatten
theorem ex_own {w0 x : World} {v : Value} {ls : List (List UInt8)} {base : Nat} {rs ex : List (Nat × TypeId × Array Value)} (h : exRow v ls base ex) (hl : ∀ l ∈ ls, l.length = 32) (hE : Env w0 (rs ++ ex) x) : x.ownsRow base 23 32 v ls.length (cellsB ls.flatten) := by
  refine ⟨by rw [cellsB_length, flat_length ls hl], ?_⟩
  rcases h with ⟨_, hv, hls⟩ | ⟨g, cap, cur, rfl, hv, h1, h2, h3, h4, h5⟩
  · exact .inl ⟨hv, by rw [hls]; rfl⟩
  · exact .inr ⟨g, cap, cur, hv, h1, (hE.rows (g, 23, cur) (List.mem_append_right _ (List.mem_singleton.2 rfl))).1, h2, h3, h4, h5⟩
theorem at_left {α : Type} {rs ex : List α} {m : Nat} {y : α} (h : rs[m]? = some y) : (rs ++ ex)[m]? = some y := by
  have := (List.getElem?_eq_some_iff.1 h).1
  rw [List.getElem?_append_left this, h]
theorem set_left {α : Type} {rs ex : List α} {m : Nat} {x y : α} (h : rs[m]? = some y) : (rs ++ ex).set m x = rs.set m x ++ ex := List.set_append_left _ _ (List.getElem?_eq_some_iff.1 h).1
/-- append of a key. -/
theorem wp_appKey {P : Program} {w0 w : World} {rs ex : List (Nat × TypeId × Array Value)} {o : Oper} {a : Act} {K : Act → World → Prop} {Q : Exit → Act → World → Prop} (s x : Operand) (t : TypeId)
    (ho : o.op = .call { callee := .builtin .append, args := #[s, x], argTypes := #[t, t] })
    (hinfo : (P.info? 23).map (fun i => (i.zero, i.size, i.bytes)) = some (some (.agg (keyC zeroKey)), 32, 32)) (ht : P.underlying t = some (.slice 23))
    (base : Nat) (v : Value) (ls : List (List UInt8)) (l : List UInt8) (b : Nat) (hs : a.eval s = v) (hx : a.eval x = .slice (some ⟨b, 0, none⟩) 1 1) (hb : RowAt w b 23 (keyC l)) (hll : l.length = 32) (hls : ∀ l ∈ ls, l.length = 32)
    (hex : exRow v ls base ex) (hE : Env w0 (rs ++ ex) w) (hB : ∀ r ∈ rs, r.1 < base) (h0 : w0.heap.size ≤ base) (hbw : base ≤ w.heap.size) (hn : ls.length ≤ 1000)
    (h : ∀ v' w' ex', exRow v' (ls ++ [l]) base ex' → Env w0 (rs ++ ex') w' → base ≤ w'.heap.size → K (a.put o.dst v') w') : o.wp P a w K Q := by
  obtain ⟨i0, hi, hz0, hz1, hz2⟩ := info_parts hinfo
  have hown := ex_own hex hls hE
  refine wp_append_own w s x t ho base 23 i0 (.agg (keyC zeroKey)) 32 32 ht hi hz0 hz1 hz2 rfl (by decide) v ls.length (cellsB ls.flatten) hs hown ⟨b, 0, none⟩ 1 1 (cellsB l) hx (by rw [cellsB_length, hll]) (fun j y hj => ?_) (cellsB_one l) (by unfold maxLen; omega) (by omega) hbw fun v' w' ho' hg' _ => ?_
  · have hadd : (⟨b, 0, none⟩ : Addr).add j = ⟨b, j, none⟩ := by unfold Addr.add; split <;> simp_all
    rw [hadd, hb.cell j]
    simpa [keyC] using hj
  · have hEr : Env w0 rs w' := (hE.less (List.sublist_append_left _ _)).grown hg' (fun r hm e => by
      have h1 := hB r hm
      have h2 := (World.ownsRow.lt hown r.1 e.symm).1
      omega) (fun k hk => Nat.le_trans h0 (World.ownsRow.lt hown k hk).1)
    have hsz := Nat.le_trans hbw hg'.size
    rcases ho'.2 with ⟨_, hc⟩ | ⟨g', cap', cur', rfl, hbg, hrow, q1, q2, q3, q4⟩
    · omega
    · refine h _ w' [(g', 23, cur')] (.inr ⟨g', cap', cur', rfl, by simp, hbg, by simpa using q1, q2, q3, by simpa [cellsB] using q4⟩) ?_ hsz
      have := hEr.add hrow (Nat.le_trans h0 hbg) fun r hm => by have := hB r hm; omega
      refine ⟨this.below, fun r hr => ?_, ?_⟩
      · rcases List.mem_append.1 hr with hr | hr
        · exact this.rows r (List.mem_cons_of_mem _ hr)
        · exact this.rows r (List.mem_cons.2 (.inl (List.mem_singleton.1 hr)))
      · rw [List.map_append]
        have h3 := this.apart
        rw [List.map_cons] at h3
        have h4 : ([g'] ++ rs.map fun r => r.1).Nodup := h3
        have hp : List.Perm ([g'] ++ rs.map fun r => r.1) ((rs.map fun r => r.1) ++ [g']) := List.perm_append_comm
        exact hp.nodup_iff.1 h4
/-- Behind all of these rows. -/
def topOf (rs : List (Nat × TypeId × Array Value)) : Nat := rs.foldr (fun r a => max (r.1 + 1) a) 0
theorem lt_topOf {rs : List (Nat × TypeId × Array Value)} : ∀ r ∈ rs, r.1 < topOf rs := by
  induction rs with
  | nil => intro r h; cases h
  | cons x rs ih =>
    intro r h
    have e : topOf (x :: rs) = max (x.1 + 1) (topOf rs) := rfl
    rcases List.mem_cons.1 h with rfl | h
    · rw [e]; exact Nat.lt_of_lt_of_le (Nat.lt_succ_self _) (Nat.le_max_left _ _)
    · rw [e]; exact Nat.lt_of_lt_of_le (ih r h) (Nat.le_max_right _ _)
theorem topOf_le {rs : List (Nat × TypeId × Array Value)} {B : Nat} (h : ∀ r ∈ rs, r.1 < B) : topOf rs ≤ B := by
  induction rs with
  | nil => exact Nat.zero_le _
  | cons x rs ih =>
    have e : topOf (x :: rs) = max (x.1 + 1) (topOf rs) := rfl
    rw [e]
    exact Nat.max_le.2 ⟨h x List.mem_cons_self, ih fun r hr => h r (List.mem_cons_of_mem _ hr)⟩
theorem topOf_set {rs : List (Nat × TypeId × Array Value)} {g : Nat} {t t' : TypeId} {o c : Array Value} : ∀ {m : Nat}, rs[m]? = some (g, t, o) → topOf (rs.set m (g, t', c)) = topOf rs := by
  induction rs with
  | nil => intro m h; rfl
  | cons x rs ih =>
    intro m h
    cases m with
    | zero =>
      have : x = (g, t, o) := by simpa using h
      subst this
      rfl
    | succ m =>
      have h2 := ih (m := m) (by simpa using h)
      show max (x.1 + 1) (topOf (rs.set m (g, t', c))) = max (x.1 + 1) (topOf rs)
      rw [h2]

end Go.Proofs.YtjlhmcnajgafgaaDoor
end
section
namespace Go.Proofs.YtjlhmcnajgafgaaDoor
open Go.RowKit
set_option linter.unusedVariables false
set_option maxRecDepth 20000

/-- A Source's cells: its seed, and how many were drawn of it. -/
def srcL (s : List UInt8) (k : Nat) : List Value := cellsB s ++ [.int .u64 (k : Int)]
def srcC (s : List UInt8) (k : Nat) : Array Value := (srcL s k).toArray
section
variable (s : List UInt8) (k : Nat)
theorem srcC_size (ls : s.length = 32) : (srcC s k).size = 33 := by simp [srcC, srcL, cellsB_length, ls]
theorem srcC_32 (ls : s.length = 32) : (srcC s k)[32]? = some (.int .u64 (k : Int)) := by
  rw [srcC, List.getElem?_toArray, srcL, List.getElem?_append_right (by simp [cellsB_length, ls])]
  simp [cellsB_length, ls]
theorem srcC_set (ls : s.length = 32) (x : Nat) : (srcC s k).setIfInBounds 32 (.int .u64 (x : Int)) = srcC s x := by
  rw [srcC, List.setIfInBounds_toArray, srcL, List.set_append_right _ _ (by simp [cellsB_length, ls])]
  simp [cellsB_length, ls, srcC, srcL]
theorem srcC_seed : ((srcC s k).toList.drop 0).take (cellsB s).length = cellsB s := by
  simp [srcC, srcL]
theorem srcC_one : ∀ u ∈ (srcC s k).toList, u.oneCell' = true := fun u hu => by
  simp only [srcC, srcL, List.mem_append] at hu
  rcases hu with hu | hu
  · exact cellsB_one s u hu
  · rw [List.mem_singleton.1 hu]; rfl
theorem srcC_inj {s t : List UInt8} {k j : Nat} (ls : s.length = 32) (lt : t.length = 32) (h : srcC s k = srcC t j) : k = j := by
  have h1 := srcC_32 s k ls
  rw [h, srcC_32 t j lt] at h1
  injection h1 with h1
  injection h1 with _ h1
  omega
end
/-- A draw's number, in eight bytes. -/
def hi8 (k : Nat) : List UInt8 := (lowB k 8).reverse
theorem hi8_length (k : Nat) : (hi8 k).length = 8 := by rw [hi8, List.length_reverse, lowB_length]
/-- The draw with number k. -/
def drawB (s : List UInt8) (k : Nat) (lab : ByteArray) : List UInt8 := macB s (infoB lab.data.toList [hi8 k] ++ [1])
theorem drawB_length (s : List UInt8) (k : Nat) (lab : ByteArray) : (drawB s k lab).length = 32 := macB_length _ _

theorem Bss.only (w : World) (u : Value) (a : List UInt8) (h : Bs w u a) : Bss (w.alloc (.cells #[u] 68)) (.slice (some ⟨w.heap.size, 0, none⟩) 1 1) [a] := by
  have hb := alloc_below w (.cells #[u] 68)
  refine ⟨_, _, rfl, Nat.le_refl _, by unfold maxLen; simp, fun _ => ⟨w.heap.size, 0, rfl, fun j hj => ?_⟩⟩
  have hr := (RowAt.new w 68 #[u]).cell
  match j, hj with
  | 0, _ => exact ⟨u, by rw [Nat.zero_add, hr]; rfl, h.below hb⟩
theorem hi8_any (w : World) (k : Nat) (hk : k < 18446744073709551616) : Calls Tryd.prog 16 #[.int .u64 (k : Int), .int .i64 8] w (RetBs w (hi8 k)) :=
  (High_own w k 8 hk (by omega) (by omega)).mono fun _ _ ⟨v, he, ho, hb⟩ => ⟨v, he, ho.bs, hb⟩
theorem refHi8_any (w : World) (k : Nat) (hk : k < 18446744073709551616) : Calls Tryd.prog 18 #[.int .u64 (k : Int), .int .i64 8] w (RetBs w (hi8 k)) := by
  have h := refHigh_any w k hk 8 (by omega)
  have e : highI k 8 = hi8 k := by
    unfold highI
    rw [show (8 : Int) = ((8 : Nat) : Int) from rfl, lowI_in k 8 (by omega) (by omega)]
    rfl
  rw [e] at h
  exact h
theorem macKey_env (w0 w : World) (ht : Tabs w0) (rs : List (Nat × TypeId × Array Value)) (m g n : Nat) (hE : Env w0 rs w) (hm : rs[m]? = some (g, 65, mC n)) (hn : n ≤ 900000) (s : List UInt8) (hs : s.length = 32) (lab : ByteArray) (hlab : lab.size ≤ 1000)
    (ls : List (List UInt8)) (hls : ls.length ≤ 15) (hl : ∀ b ∈ ls, b.length ≤ 1000) (A : Option Addr) (c : Nat) (hb : Bss w (.slice A ls.length c) ls) :
    Calls Tryd.prog 15 #[.pointer (some ⟨g, 0, none⟩), .agg (keyC s), .string lab, .slice A ls.length c] w fun e w' => ∃ n', n' ≤ n + 3 ∧ e = .returned (.agg (keyC (macB s (infoB lab.data.toList ls ++ [1])))) ∧ Env w0 (rs.set m (g, 65, mC n')) w' :=
  (macDerive_any w0 w g n (hE.toRun ht hm) (by omega) s hs lab hlab A c ls hb hls hl).mono fun _ _ ⟨n', h1, h2, h3⟩ => ⟨n', h1, h2, hE.ofRun hm h3⟩
theorem refKey_env (w0 w : World) (rs : List (Nat × TypeId × Array Value)) (m g n : Nat) (hE : Env w0 rs w) (hm : rs[m]? = some (g, 32, logC n)) (hn : n ≤ 900000) (s : List UInt8) (hs : s.length = 32) (lab : ByteArray) (hlab : lab.size ≤ 1000)
    (ls : List (List UInt8)) (hls : ls.length ≤ 15) (hl : ∀ b ∈ ls, b.length ≤ 1000) (A : Option Addr) (c : Nat) (hb : Bss w (.slice A ls.length c) ls) :
    Calls Tryd.prog 17 #[.pointer (some ⟨g, 0, none⟩), .agg (keyC s), .string lab, .slice A ls.length c] w fun e w' => ∃ n', n' ≤ n + 3 ∧ e = .returned (.agg (keyC (macB s (infoB lab.data.toList ls ++ [1])))) ∧ Env w0 (rs.set m (g, 32, logC n')) w' :=
  (refDerive_of w0 w g n lab A ls.length c s (infoB lab.data.toList ls) _ rfl (hE.toLog hm) (by omega) hs (by
    have h := partsL_flat (lab.data.toList.take 255) ls hl
    unfold infoB
    have h2 : (lab.data.toList.take 255).length ≤ 255 := by rw [List.length_take]; omega
    omega) fun x hx => refInfo_any x lab hlab A c ls (hb.keep hx) (by omega) hl).mono fun _ _ ⟨n', h1, h2, h3⟩ => ⟨n', h1, h2, hE.ofLog hm h3⟩
/-- Three things that come about, one continuation. -/
theorem shared3 {P : Program} {md : Region.Mode} {ops : Array Oper} {Q : Exit → Act → World → Prop} {fin : Nat → Bool} {SS : World → Prop} {w : World} {m m' : Nat} {listed L' : Array Bool} {a : Act} {A : Value → Value → Nat → Act} (Φ : Value → Value → Nat → World → Prop)
    (hgo : ∀ u v g x, Φ u v g x → walkS P md ops Q SS fin m' L' (A u v g) x) (h : (∀ u v g x, Φ u v g x → walkS P md ops Q SS fin m' L' (A u v g) x) → walkS P md ops Q SS fin m listed a w) : walkS P md ops Q SS fin m listed a w := h hgo
end Go.Proofs.YtjlhmcnajgafgaaDoor
end
