/-
  Texts that belong together, merged: MacM, OtsA, EnvS, OtsB, OtsC, OtsD. Conditions: as each theorem names them.
-/
import Derived.Test.YtfnmglicfgkmjaaDoorQOtsAI
import Derived.Test.YtfnmglicfgkmjaaDoorQOtsAE
import Derived.Test.YtfnmglicfgkmjaaDoorQOtsAC
import Derived.Test.YtfnmglicfgkmjaaDoorQOtsAD
import Derived.Test.YtfnmglicfgkmjaaDoorQOtsAH
import Derived.Test.YtfnmglicfgkmjaaDoorQOtsAG
import Derived.Laws.OwnMore
section
namespace Go.Proofs.YtfnmglicfgkmjaaDoor
open Go.RowKit Go.Shelf
attribute [local go_sem] Oper.semAt_some
set_option linter.unusedVariables false
set_option maxRecDepth 20000

def lastT (key info : List UInt8) (pre : List Nat) : List UInt8 := match pre.getLast? with | none => zeroKey | some x => tB key info (x + 1)
theorem lastT_length (key info : List UInt8) (pre : List Nat) : (lastT key info pre).length = 32 := by
  unfold lastT
  split
  · exact zeroKey_length
  · exact tB_length _ _ _
theorem lastT_snoc (key info : List UInt8) (pre : List Nat) (x : Nat) : lastT key info (pre ++ [x]) = tB key info (x + 1) := by simp [lastT]

set_option maxHeartbeats 4000000 in
theorem macDerive_any (w0 w : World) (g n : Nat) (hr : Run w0 w g n w) (hn : n ≤ 1000000) (key : List UInt8) (hk : key.length = 32) (lab : ByteArray) (hlab : lab.size ≤ 1000) (A : Option Addr) (c : Nat) (ls : List (List UInt8))
    (hb : Bss w (.slice A ls.length c) ls) (hls : ls.length ≤ 15) (hl : ∀ b ∈ ls, b.length ≤ 1000) :
    Calls Tryd.prog 42 #[.pointer (some ⟨g, 0, none⟩), keyV key, .string lab, .slice A ls.length c] w fun e w' => ∃ n', n' ≤ n + 3 ∧ e = .returned (.agg (keyC (macB key (infoB lab.data.toList ls ++ [1])))) ∧ Run w0 w g n' w' := by
  obtain ⟨info, hinfo⟩ : ∃ i, i = infoB lab.data.toList ls := ⟨_, rfl⟩
  have HP : Hid (∀ x, Below w.heap.size w x → Calls Tryd.prog 58 #[.string lab, .slice A ls.length c] x (RetBs x info)) := fun x hx => by rw [hinfo]; exact purpose_any x lab hlab A c ls (hb.keep hx) (by omega) hl
  have hil : info.length ≤ 20000 := by
    rw [hinfo, infoB]
    have := partsL_flat (lab.data.toList.take 255) ls hl
    rw [List.length_take] at this
    have : min 255 lab.data.toList.length ≤ 255 := Nat.min_le_left _ _
    omega
  have hT : macB key (info ++ [1]) = lastT key info [0] := by simp [lastT, tB]
  rw [← hinfo, hT]
  have HR := Lib.hid hr
  have HK := Lib.hid hk
  clear hinfo hb hl hr hk hT hlab hls
  refine (callsIn_wide (n := 3)).1 ?_
  refine callsIn_of_wp_marks Tryd.func42 rfl trivial ?_ rfl
  simp only [Tryd.ntmps42, List.size_toArray, List.length_cons, List.length_nil, Nat.reduceAdd, Nat.reduceSub, Array.replicate_succ, Array.replicate_zero, List.push_toArray, List.append_toArray, List.nil_append, List.cons_append]
  refine wpIn_wide.2 ?_
  go_wp2_with (first
    | ((with_reducible refine wpList_box_row (o := ⟨some 5, _, _, _, _, _⟩) rfl 23 (.tmp 1) rfl (keyC key) (by with_unfolding_all rfl) ?_); intro g5 w1 n5)
    | ((with_reducible refine wpList_alloc_row (o := ⟨some 8, _, _, _, _, _⟩) rfl 23 rfl (keyC zeroKey) Tryd.zeroK ?_); intro g8 w2 n8)
    | ((with_reducible refine wpList_alloc_row (o := ⟨some 9, _, _, _, _, _⟩) rfl 23 rfl (keyC zeroKey) Tryd.zeroK ?_); intro g9 w3 n9))
  have s5 := n5.spot
  have s8 := n8.spot
  have s9 := n9.spot
  have z5 := n5.size
  have z8 := n8.size
  have z9 := n9.size
  have B3 := Lib.hid (below_size (below_size n5.below n8.below) n9.below)
  have Q5 := Lib.hid ((n5.row.kept n8.below).kept n9.below)
  have Q8 := Lib.hid (n8.row.kept n9.below)
  have Q9 := Lib.hid n9.row
  have h89 : g8 ≠ g9 := by omega
  have hg8 : w.heap.size ≤ g8 := by omega
  have hg9 : w.heap.size ≤ g9 := by omega
  clear n5 n8 n9 s5 s8 s9 z5 z8 z9
  refine Code.wp_mono NoPanic.out ?_
  refine plain_region (S := fun W' => RowAt W' g5 23 (keyC key)) (fin := fun _ => false) (by kernel_rfl) ?_
  have hS : RowAt w3.drew g5 23 (keyC key) := Q5.out
  change walkS _ _ _ _ _ _ 6 _ _ _
  refine walkS_take (i := 0) (oi := ⟨some 11, _, _, _, _, _⟩) (v := .pointer (some ⟨g, 0, none⟩)) rfl (by kernel_rfl) (by kernel_rfl) (fun _ _ _ h => h) _ _ _ _ (by kernel_rfl) (by kernel_rfl) (Or.inl ⟨by rfl, fun w' hS' => (by clear hS hS'; go_simp)⟩) hS ?_
  simp only [Act.put, List.setIfInBounds_toArray, List.set_cons_zero, List.set_cons_succ]
  refine walkS_take (i := 1) (oi := ⟨some 12, _, _, _, _, _⟩) (v := .agg (keyC key)) rfl (by kernel_rfl) (by kernel_rfl) (fun _ _ _ h => h) _ _ _ _ (by kernel_rfl) (by kernel_rfl) (Or.inl ⟨by rfl, fun w' hS' => run_load_row _ (.tmp 5) rfl g5 rfl _ (keyC key) (0, 0) (.array 32 5) hS' Tryd.underlying23 rfl (Tryd.sizeKey key HK.out)⟩) hS ?_
  simp only [Act.put, List.setIfInBounds_toArray, List.set_cons_zero, List.set_cons_succ]
  refine walkS_take (i := 2) (oi := ⟨some 13, _, _, _, _, _⟩) (v := .string lab) rfl (by kernel_rfl) (by kernel_rfl) (fun _ _ _ h => h) _ _ _ _ (by kernel_rfl) (by kernel_rfl) (Or.inl ⟨by rfl, fun w' hS' => (by clear hS hS'; go_simp)⟩) hS ?_
  simp only [Act.put, List.setIfInBounds_toArray, List.set_cons_zero, List.set_cons_succ]
  refine walkS_take (i := 3) (oi := ⟨some 14, _, _, _, _, _⟩) (v := .slice A ls.length c) rfl (by kernel_rfl) (by kernel_rfl) (fun _ _ _ h => h) _ _ _ _ (by kernel_rfl) (by kernel_rfl) (Or.inl ⟨by rfl, fun w' hS' => (by clear hS hS'; go_simp)⟩) hS ?_
  simp only [Act.put, List.setIfInBounds_toArray, List.set_cons_zero, List.set_cons_succ]
  refine walkS_only (i := 4) (o := ⟨some 15, _, _, _, _, _⟩) (by kernel_rfl) rfl rfl fun K hK => ?_
  have HS := Lib.hid hS
  clear hS
  go_simp
  refine (HP.out _ B3.out.drew).mono ?_
  intro e w4 h
  obtain ⟨u, he, hu, b4⟩ := h
  subst he
  have B4 := Lib.hid (below_size B3.out.drew b4)
  have hS : RowAt w4 g5 23 (keyC key) := HS.out.kept b4
  have T8 := Lib.hid (Q8.out.drew.kept b4)
  have T9 := Lib.hid (Q9.out.drew.kept b4)
  have HU0 := Lib.hid hu
  obtain ⟨IA, ic, rfl, _, _, _⟩ := hu
  refine hK _ _ (.inr hS) ?_
  clear hK K b4 HS Q8 Q9 Q5 B3
  refine walkS_only (i := 5) (o := ⟨some 16, _, _, _, _, _⟩) (by kernel_rfl) rfl rfl fun K hK => ?_
  have R4 := Lib.hid (HR.out.beneath B4.out)
  have HS2 := Lib.hid hS
  clear hS
  go_simp
  refine (expanded_any w0 w w4 g n R4.out IA info.length ic key HK.out 1).mono ?_
  rintro e w5 ⟨gn, gm, gk, gi, rfl, env, ⟨hk1, hk2, hk3, hk4⟩, b5⟩
  have B5 := Lib.hid (below_size B4.out b5)
  have HU5 := Lib.hid (HU0.out.below b5)
  have S8 := Lib.hid (T8.out.kept b5)
  have S9 := Lib.hid (T9.out.kept b5)
  have l8 := T8.out.lt
  have l9 := T9.out.lt
  refine hK _ _ (.inr (HS2.out.kept b5)) (walkS_done (by kernel_rfl) ?_ _)
  simp only [NoPanic]
  have EV := Lib.hid env
  have hX4 : ¬ (gn = g9) ∧ ¬ (gm = g9) ∧ ¬ (gk = g9) ∧ ¬ (gi = g9) := ⟨by omega, by omega, by omega, by omega⟩
  have n89 : g8 ≠ g ∧ g9 ≠ g := ⟨meter_not_key (R4.out.self.kept b5).row S8.out, meter_not_key (R4.out.self.kept b5).row S9.out⟩
  clear hK K env b5 HS2 T8 T9 B4 HP
  go_wp2_with fail
  refine (wpIn_wide (n := 3)).1 ?_
  refine wpIn_rangeFunc_R (F := Fence.wide) rfl (by omega) (gf := 70) (lb := #[.pointer (some ⟨gn, 0, none⟩), .pointer (some ⟨gm, 0, none⟩), .pointer (some ⟨gk, 0, none⟩), .pointer (some ⟨gi, 0, none⟩)]) rfl trivial (enters_of Tryd.func70 (by kernel_rfl) rfl)
    (expanded1_tells 2 (by omega) w0 w w5 g n (n + 3 * 1) gn gm gk gi (.slice IA info.length ic) key info 1 (fun k => k = g9) (fun k hk => by rw [hk]; exact S9.out.lt) hX4 HK.out (fun W h => HU5.out.below h) (fun h => by omega) hil (by omega) (Nat.le_refl _) (by omega) EV.out)
    (fun A B h k o _ hk ho => h.keeps k o hk ho) bodyKeeps_t (bodyKeeps_b B5.out.size) (Below.refl _ _) (fun _ => rfl)
    (fun pre W => (RowAt W g8 23 (keyC zeroKey) ∧ RowAt W g9 23 (keyC (lastT key info pre))) ∧ (w5.heap.size ≤ W.heap.size ∧ XEnv w0 w W g (n + 3 * 1) gn gm gk gi (.slice IA info.length ic) key 1))
    (fun _ _ _ => False)
    (fun s X Y row hs hg hr => by
      obtain ⟨⟨h1, h2⟩, h3, h4⟩ := hs
      have cell : ∀ k cs, RowAt X k 23 cs → RowAt Y k 23 cs := fun k cs h => h.grown hg fun e => by
        obtain ⟨_, o, ho, hc⟩ := hr k e.symm
        rw [show X.heap[k]? = _ from h] at ho
        cases ho
        simp [Obj.isCells] at hc
      exact ⟨⟨cell _ _ h1, cell _ _ h2⟩, Nat.le_trans h3 hg.size, h4.own hg (fun r e => (hr r e).2) (fun r e => Nat.le_trans B5.out.size (hr r e).1)⟩)
    (fun _ _ _ _ _ hs _ _ => hs)
    (fun s A B hs h => by
      obtain ⟨⟨h1, h2⟩, h4, h5⟩ := hs
      exact ⟨⟨h1.grown h.1 (by intro e; injection e with e; exact n89.1 e), h2.grown h.1 (by intro e; injection e with e; exact n89.2 e)⟩, Nat.le_trans h4 h.1.size, h5.stepped h⟩)
    (fun _ _ _ _ hs _ => hs)
    ⟨⟨S8.out, S9.out⟩, Nat.le_refl _, EV.out.more (by omega)⟩
    (fun x a' W => ∃ Bx, w5.heap.size ≤ Bx ∧ RowAt W Bx 23 (keyC (tB key info (x + 1))) ∧ a' = { tmps := #[.pointer (some ⟨g, 0, none⟩), keyV key, .string lab, .slice A ls.length c, undef, .pointer (some ⟨g5, 0, none⟩), undef, undef, .pointer (some ⟨g8, 0, none⟩), .pointer (some ⟨g9, 0, none⟩), .pointer (some ⟨Bx, 0, none⟩), .pointer (some ⟨g, 0, none⟩), .agg (keyC key), .string lab, .slice A ls.length c, .slice IA info.length ic, .func (.func 70) #[] #[.pointer (some ⟨gn, 0, none⟩), .pointer (some ⟨gm, 0, none⟩), .pointer (some ⟨gk, 0, none⟩), .pointer (some ⟨gi, 0, none⟩)], keyV (tB key info (x + 1)), undef, undef], defers := [] })
    (fun x a' _ X Y row hs hg hr => by
      obtain ⟨Bx, h1, h2, h3⟩ := hs
      refine ⟨Bx, h1, h2.grown hg (fun e => ?_), h3⟩
      obtain ⟨_, o, ho, hc⟩ := hr Bx e.symm
      rw [show X.heap[Bx]? = _ from h2] at ho
      cases ho
      simp [Obj.isCells] at hc)
    ?assign ?body ?done ?stop
  case assign =>
    rintro l pre x W K ⟨⟨h8, h9⟩, hsz, hEnv⟩ hK
    gi_wp2_with (first
      | ((with_reducible refine roundL_alloc_row (o := ⟨some 10, _, _, _, _, _⟩) rfl 23 rfl (keyC zeroKey) Tryd.zeroK ?_); intro gx wx nx)
      | ((with_reducible refine roundL_store_row (o := ⟨none, _, _, _, _, _⟩) rfl 23 (.tmp 10) (.tmp 17) rfl gx 23 _ (keyC (tB key info (x + 1))) (by with_unfolding_all rfl) (by with_unfolding_all rfl) nx.row (keyC_same zeroKey_length (tB_length _ _ _)) (Tryd.sizeKey _ (tB_length _ _ _)) (keyC_one _) ?_); intro wy py))
    obtain ⟨hb, hko⟩ := laid_put nx py
    exact hK _ _ (hko.from _) (BodyKeeps.of_below (Nat.le_trans B5.out.size hsz) hb)
      ⟨⟨h8.kept hb, h9.kept hb⟩, Nat.le_trans hsz hb.size, hEnv.below hb⟩
      ⟨gx, by rw [nx.spot]; exact hsz, py.row, by simp [Act.put]⟩
  case body =>
    rintro l pre x a' W hl hrec ⟨⟨h8, h9⟩, hsz, hEnv⟩ ⟨Bx, hBx, hRow, rfl⟩ hlt
    have HL9 : Hid ((lastT key info pre).length = 32) := lastT_length _ _ _
    have LT : Hid ((tB key info (x + 1)).length = 32) := tB_length _ _ _
    have HSN : Hid (lastT key info (pre ++ [x]) = tB key info (x + 1)) := lastT_snoc _ _ _ _
    obtain ⟨tk, htk⟩ : ∃ t, t = tB key info (x + 1) := ⟨_, rfl⟩
    rw [← htk] at hRow LT HSN ⊢
    generalize lastT key info pre = lt at h9 HL9
    clear htk hrec
    gi_wp2_with (first
      | (with_reducible refine roundL_load_row (o := ⟨some 18, _, _, _, _, _⟩) rfl 23 (.tmp 10) rfl Bx (by with_unfolding_all rfl) 23 (keyC tk) (0, 0) (.array 32 5) (by with_unfolding_all exact hRow) Tryd.underlying23 rfl (Tryd.sizeKey tk LT.out) ?_)
      | ((with_reducible refine roundL_store_row (o := ⟨none, _, _, _, _, _⟩) rfl 23 (.tmp 9) (.tmp 18) rfl g9 23 _ (keyC tk) (by with_unfolding_all rfl) (by with_unfolding_all rfl) h9 (keyC_same HL9.out LT.out) (Tryd.sizeKey _ LT.out) (keyC_one _) ?_); intro wy py))
    have hbw : Below w.heap.size W wy := py.below (Below.refl _ _) (Nat.le_trans B5.out.size hsz) hg9
    have hcell : ∀ (j : Nat) (o : Obj), some g9 = some j → W.heap[j]? = some o → o.isCells = true := fun j o ej hj => by
      injection ej with ej
      subst ej
      rw [show W.heap[g9]? = _ from h9] at hj
      cases hj
      rfl
    have hbk : BodyKeeps w (fun k => k = g9) W wy := ⟨hbw, fun k o hk _ hne => (py.grown.block k (Array.getElem?_eq_some_iff.1 hk).1 (fun e => by injection e with e; exact hne e)).trans hk⟩
    refine ⟨(KeepsOthers.of_grownBy py.grown hcell).from _, hbk, ⟨h8.grown py.grown (by intro e; injection e with e; exact h89 e), by rw [HSN.out]; exact py.row⟩, Nat.le_trans hsz hbw.size, hEnv.body hX4 hbk⟩
  case done =>
    rintro D xs W hD rfl ⟨⟨h8, h9⟩, hsz, hEnv⟩ hK
    have HL9 : Hid ((lastT key info (List.range 1)).length = 32) := lastT_length _ _ _
    have HRG : Hid (lastT key info (List.range 1) = lastT key info [0]) := rfl
    have HEV := Lib.hid hEnv
    have hD8 : D ≠ g8 := by have := S8.out.lt; omega
    rw [HRG.out] at h9 HL9
    obtain ⟨lt, hlt⟩ : ∃ t, t = lastT key info [0] := ⟨_, rfl⟩
    rw [← hlt] at h9 HL9
    have HLT := Lib.hid hlt
    clear hlt
    clear hEnv
    go_wp2_with (first
      | (with_reducible refine wpList_load_row (o := ⟨some 19, _, _, _, _, _⟩) rfl 23 (.tmp 9) rfl g9 (by with_unfolding_all rfl) 23 (keyC lt) (0, 0) (.array 32 5) (by with_unfolding_all exact h9) Tryd.underlying23 rfl (Tryd.sizeKey lt HL9.out) ?_)
      | ((with_reducible refine wpList_store_row (o := ⟨none, _, _, _, _, _⟩) rfl 23 (.tmp 8) (.tmp 19) rfl g8 23 _ (keyC lt) (by with_unfolding_all rfl) (by with_unfolding_all rfl) h8 (keyC_same zeroKey_length HL9.out) (Tryd.sizeKey lt HL9.out) (keyC_one _) ?_); intro wy py))
    have hDW : D < W.heap.size := (Array.getElem?_eq_some_iff.1 hK).1
    have hK2 : wy.heap[D]? = some (.deferred (some [])) := (py.grown.block D hDW (fun e => by injection e with e; exact hD8 e)).trans hK
    refine ⟨by simp, .inl ⟨_, _, rfl, run_takeDeferred hK2, ?_⟩⟩
    obtain ⟨n', hn', hrun⟩ := HEV.out.run
    have r8 : RowAt (wy.putObj D (.deferred none)) g8 23 (keyC lt) := (World.putObj_heap_other (by omega)).trans py.row
    have hbw : Below w.heap.size W wy := py.below (Below.refl _ _) (Nat.le_trans B5.out.size hsz) hg8
    have hbd : Below w.heap.size wy (wy.putObj D (.deferred none)) := belowK_b (w := w) (Nat.le_refl _) wy D _ _ (by have := B5.out.size; omega) hK2 rfl rfl
    exact ⟨_, results_cell_row rfl _ _ g8 23 (keyC lt) (0, 0) (.array 32 5) rfl r8 Tryd.underlying23 rfl (Tryd.sizeKey lt HL9.out), n', hn', by rw [HLT.out], (hrun.beneath hbw).beneath hbd⟩
  case stop =>
    rintro D c pre W _ _ h _
    exact h.elim
end Go.Proofs.YtfnmglicfgkmjaaDoor
end
section
namespace Go.Proofs.YtfnmglicfgkmjaaDoor
open Go.RowKit
set_option linter.unusedVariables false
set_option maxRecDepth 20000

def mC (n : Nat) : Array Value := meterC false n (.slice none 0 0)
section
variable {w0 w w' : World} {rs : List (Nat × TypeId × Array Value)} {m g n n' : Nat}
theorem Env.toRun (hE : Env w0 rs w) (ht : Tabs w0) (hm : rs[m]? = some (g, 66, mC n)) : Run w0 w g n w :=
  ⟨hE.below, hE.row m hm, ht, hE.spot m hm, hE.below.size, ⟨n, hE.row m hm⟩, grown_refl _ _⟩
theorem Env.ofRun (hE : Env w0 rs w) (hm : rs[m]? = some (g, 66, mC n)) (h : Run w0 w g n' w') : Env w0 (rs.set m (g, 66, mC n')) w' := hE.turned m hm h.row h.grown
theorem Env.bs (hE : Env w0 rs w) {v : Value} {l : List UInt8} (h : Bs w0 v l) : Bs w v l := h.below hE.below
theorem Env.arr (hE : Env w0 rs w) (i : Nat) {b : Nat} {t : TypeId} {l : List UInt8} (hi : rs[i]? = some (b, t, keyC l)) (k : Nat) (hl : l.length = k) (hk : k ≤ 1000000) : Bs w (.slice (some ⟨b, 0, none⟩) k k) l := by
  subst hl
  exact row_bs (hE.row i hi) (by unfold maxLen; omega)
theorem Sum_env (hE : Env w0 rs w) (ht : Tabs w0) (hm : rs[m]? = some (g, 66, mC n)) (v : Value) (ls : List (List UInt8)) (d : List UInt8) (hn : n ≤ 1000000000) (hd : d = digestB ls.flatten) (hb : Bss w v ls) (hl : ls.flatten.length ≤ 1000000) (hlm : ls.length ≤ 1000000) :
    Calls Tryd.prog 23 #[.pointer (some ⟨g, 0, none⟩), v] w fun e w' => e = .returned (.agg (keyC d)) ∧ Env w0 (rs.set m (g, 66, mC (n + 1))) w' :=
  (Sum_run w0 w g n v ls d (hE.toRun ht hm) hn hd hb hl hlm).mono fun _ _ h => ⟨h.1, hE.ofRun hm h.2⟩
end
theorem Env.tl {w0 w : World} {r : Nat × TypeId × Array Value} {rs : List (Nat × TypeId × Array Value)} (h : Env w0 (r :: rs) w) : Env w0 rs w := h.less (List.sublist_cons_self _ _)
theorem Env.cellV {w0 w : World} {rs : List (Nat × TypeId × Array Value)} {g : Nat} {t : TypeId} {cs : Array Value} (h : Env w0 rs w) (i : Nat) (hi : rs[i]? = some (g, t, cs)) (j : Nat) (v : Value) (hv : cs[j]? = some v) : w.cell? ⟨g, j, none⟩ = some v := by
  rw [(h.row i hi).cell j, hv]
theorem Env.fzV {w0 w : World} {rs : List (Nat × TypeId × Array Value)} {g : Nat} {t : TypeId} {cs : Array Value} (h : Env w0 rs w) (i : Nat) (hi : rs[i]? = some (g, t, cs)) (j : Nat) : w.frozen? ⟨g, j, none⟩ = false := (h.row i hi).frozen j
theorem Tryd.sizeKeyM (l : List UInt8) (h : l.length = 32) : (Tryd.prog.info? 23).map (·.size) = some (cellsB l).length := by
  have := Tryd.sizeKey l h
  rw [keyC_size] at this
  rw [cellsB_length]
  exact this
theorem run_partK {P : Program} {w : World} {o : Oper} {a : Act} (ty : TypeId) (x : Operand) (ho : o.op = .load ty x) (g k : Nat) (hx : a.eval x = .pointer (some ⟨g, k, none⟩)) (t : TypeId) (cs : Array Value) (l : List UInt8) (d : TypeDesc) (hr : RowAt w g t cs) (hp : (cs.toList.drop k).take (cellsB l).length = cellsB l)
    (hu : P.underlying ty = some d) (hd : d.isRow = true) (hs : (P.info? ty).map (·.size) = some (cellsB l).length) : (execOp a.eval o).run P w = .ok (.value (.agg (keyC l))) w := by
  have hc : w.rangeAt g k (cellsB l) := by
    have h := rangeAt_row (k := k) (n := (cellsB l).length) hr
    rwa [hp] at h
  unfold execOp
  simp only [ho, hx, Instr.loadAt, Instr.sureAddr, Sem.run_bind, Sem.run_pure, Result.andThen_ok, run_loadVar_mid w g k ty (cellsB l) d hc hu hd hs]
  rfl
theorem set_at {rs : List (Nat × TypeId × Array Value)} {m : Nat} {x y : Nat × TypeId × Array Value} (h : rs[m]? = some x) : (rs.set m y)[m]? = some y := by
  have := (List.getElem?_eq_some_iff.1 h).1
  simp [this]
/-- Two values that calls hand back, one continuation. -/
theorem share2 {P : Program} {md : Region.Mode} {ops : Array Oper} {Q : Exit → Act → World → Prop} {fin : Nat → Bool} {SS : World → Prop} {w : World} {m m' : Nat} {listed L' : Array Bool} {a : Act} {A : Value → Value → Act} (Φ : Value → Value → World → Prop)
    (hgo : ∀ u v x, Φ u v x → walkS P md ops Q SS fin m' L' (A u v) x) (h : (∀ u v x, Φ u v x → walkS P md ops Q SS fin m' L' (A u v) x) → walkS P md ops Q SS fin m listed a w) : walkS P md ops Q SS fin m listed a w := h hgo
theorem walkS_listed {P : Program} {md : Region.Mode} {ops : Array Oper} {Q : Exit → Act → World → Prop} {fin : Nat → Bool} {SS : World → Prop} {w : World} {m : Nat} {l l' : Array Bool} {a : Act} (h : l = l') (hw : walkS P md ops Q SS fin m l' a w) : walkS P md ops Q SS fin m l a w := h ▸ hw
theorem Bss.lit4 (w : World) (u0 u1 u2 u3 : Value) (a b c d : List UInt8) (h0 : Bs w u0 a) (h1 : Bs w u1 b) (h2 : Bs w u2 c) (h3 : Bs w u3 d) :
    Bss (w.alloc (.cells #[u0, u1, u2, u3] 68)) (.slice (some ⟨w.heap.size, 0, none⟩) 4 4) [a, b, c, d] := by
  have hb := alloc_below w (.cells #[u0, u1, u2, u3] 68)
  refine ⟨_, _, rfl, Nat.le_refl _, by unfold maxLen; simp, fun _ => ⟨w.heap.size, 0, rfl, fun j hj => ?_⟩⟩
  have hr := (RowAt.new w 68 #[u0, u1, u2, u3]).cell
  match j, hj with
  | 0, _ => exact ⟨u0, by rw [Nat.zero_add, hr]; rfl, h0.below hb⟩
  | 1, _ => exact ⟨u1, by rw [Nat.zero_add, hr]; rfl, h1.below hb⟩
  | 2, _ => exact ⟨u2, by rw [Nat.zero_add, hr]; rfl, h2.below hb⟩
  | 3, _ => exact ⟨u3, by rw [Nat.zero_add, hr]; rfl, h3.below hb⟩

theorem number_any (w : World) (z : Int) (hz : -9223372036854775808 ≤ z ∧ z ≤ 9223372036854775807) : Calls Tryd.prog 24 #[.int .i64 z] w (RetBs w (numB z)) := by
  have C : ∀ w, Calls Tryd.prog 37 #[.int .u64 (((z % 18446744073709551616).toNat : Nat) : Int), .int .i64 2] w (fun e w' => ∃ v, e = .returned v ∧ OwnB w' w.heap.size 5 v (lowB (z % 18446744073709551616).toNat 2).reverse ∧ Below w.heap.size w w') := fun w => High_own w (z % 18446744073709551616).toNat 2 (by omega) (by omega) (by omega)
  have e : IntKind.u64.wrap z = (((z % 18446744073709551616).toNat : Nat) : Int) := by rw [IntKind.wrap_u64]; omega
  have HN : Hid ((lowB (z % 18446744073709551616).toNat 2).reverse = numB z) := rfl
  generalize (z % 18446744073709551616).toNat = k at C e HN
  go_enter Tryd.func24, Tryd.ntmps24
  go_wp2_with fail
  refine (C w).mono ?_
  intro e w1 h
  obtain ⟨v, he, ho, hb⟩ := h
  subst he
  go_wp2
  go_ret
  exact ⟨_, rfl, HN.out ▸ ho.bs, hb⟩
end Go.Proofs.YtfnmglicfgkmjaaDoor
end
section
namespace Go.Proofs.YtfnmglicfgkmjaaDoor
open Go.RowKit
set_option linter.unusedVariables false

/-- However a region's operations came about, one continuation serves. -/
theorem loose_share {P : Program} {md : Region.Mode} {ops : Array Oper} {Q : Exit → Act → World → Prop} {fin : Nat → Bool} {w0 w : World} {rs : List (Nat × TypeId × Array Value)} {m : Nat} {listed : Array Bool} {a : Act} {A : Nat → Act} (ty : TypeId) (cs : Array Value)
    (hgo : ∀ g w', Env w0 ((g, ty, cs) :: rs) w' → Q .normal (A g) w') (h : (∀ g w', Env w0 ((g, ty, cs) :: rs) w' → Q .normal (A g) w') → walkS P md ops Q (Env w0 rs) fin m listed a w) : walkS P md ops Q (Env w0 rs) fin m listed a w := h hgo

section
variable {P : Program} {md : Region.Mode} {ops : Array Oper} {Q : Exit → Act → World → Prop} {S : World → Prop} {fin : Nat → Bool}
theorem walkS_two {i j m : Nat} {oi oj : Oper} {listed : Array Bool} {a : Act} {w : World} (hr : Region.ready md ops listed = [i, j]) (hi : ops[i]? = some oi) (hj : ops[j]? = some oj) (hgi : oi.guard = none) (hgj : oj.guard = none)
    (h1 : ∀ K : Act → World → Prop, (∀ a' w', (fin i = true ∨ S w') → walkS P md ops Q S fin m (listed.setIfInBounds i true) a' w' → K a' w') → oi.wp P a w K Q)
    (h2 : ∀ K : Act → World → Prop, (∀ a' w', (fin j = true ∨ S w') → walkS P md ops Q S fin m (listed.setIfInBounds j true) a' w' → K a' w') → oj.wp P a w K Q) : walkS P md ops Q S fin (m + 1) listed a w := by
  refine ⟨fun h0 => (by rw [hr] at h0; cases h0), fun k hk => ?_⟩
  rw [hr] at hk
  rcases List.mem_cons.1 hk with rfl | hk
  · unfold wpOp
    rw [hi]
    have hw : Region.wanted oi (yielded ops a.tmps) = true := by simp [Region.wanted, hgi]
    simp only [hw, if_true]
    exact .inl (h1 _ (fun a' w' h1 h2 => ⟨h1, h2⟩))
  · obtain rfl : k = j := by simpa using hk
    unfold wpOp
    rw [hj]
    have hw : Region.wanted oj (yielded ops a.tmps) = true := by simp [Region.wanted, hgj]
    simp only [hw, if_true]
    exact .inl (h2 _ (fun a' w' h1 h2 => ⟨h1, h2⟩))
/-- Into the walk, with the rows of the call as what abides. -/
theorem region_rows {id : Nat} {w0 w : World} {rs : List (Nat × TypeId × Array Value)} {a : Act} (_ : Env w0 rs w) (hm : P.follows .mixedOrders = true) (h : walkS P .any ops Q (Env w0 rs) fin ops.size (Array.replicate ops.size false) a w.drew) : (Code.region id ops true).wp P Q a w := plain_region hm h
theorem takeE_load {w0 : World} {rs : List (Nat × TypeId × Array Value)} {k : Nat} {oi : Oper} (hi : ops[k]? = some oi) (hs : Region.noSelect ops = true)
    (hw : ((List.range ops.size).all fun j => !fin j || (match ops[j]? with | some oj => oj.after.any (fun e => Region.binds md e && e.on == k) | none => true)) = true)
    (hQ : ∀ v c a w, Q (.panic c) (a.put oi.dst v) w → Q (.panic c) a w) (m : Nat) (listed : Array Bool) (a : Act) (w : World) (hf : Region.free md ops listed k = true) (hr : (Region.ready md ops listed).contains k = true)
    (hgw : Region.wanted oi (yielded ops a.tmps) = true) (ty : TypeId) (x : Operand) (ho : oi.op = .load ty x) (i g : Nat) (t : TypeId) (cs : Array Value) (d : TypeDesc) (hi2 : rs[i]? = some (g, t, cs)) (hx : a.eval x = .pointer (some ⟨g, 0, none⟩))
    (hu : P.underlying ty = some d) (hd : (match d with | .struct _ | .array _ _ => true | _ => false) = true) (hsz : (P.info? ty).map (·.size) = some cs.size) (hE : Env w0 rs w)
    (h : walkS P md ops Q (Env w0 rs) fin m (listed.setIfInBounds k true) (a.put oi.dst (.agg cs)) w) : walkS P md ops Q (Env w0 rs) fin (m + 1) listed a w :=
  walkS_take hi hs hw (hQ _) m listed a w hf hr (.inl ⟨hgw, fun w' hS => run_load_row ty x ho g hx t cs (0, 0) d (hS.row i hi2) hu hd hsz⟩) hE h
end
end Go.Proofs.YtfnmglicfgkmjaaDoor
end
section
namespace Go.Proofs.YtfnmglicfgkmjaaDoor
open Go.RowKit
set_option linter.unusedVariables false
set_option maxRecDepth 20000

theorem set_id {rs : List (Nat × TypeId × Array Value)} {m : Nat} {x : Nat × TypeId × Array Value} (h : rs[m]? = some x) : rs.set m x = rs := by
  refine List.ext_getElem? fun j => ?_
  rw [List.getElem?_set]
  split
  · rename_i e
    subst e
    rw [if_pos (List.getElem?_eq_some_iff.1 h).1, h]
  · rfl

set_option maxHeartbeats 4000000 in
theorem along_env (w0 w : World) (ht : Tabs w0) (rs : List (Nat × TypeId × Array Value)) (m g n : Nat) (hE : Env w0 rs w) (hm : rs[m]? = some (g, 66, mC n)) (tag v : List UInt8) (ltag : tag.length = 32) (lv : v.length = 32)
    (c i0 i1 : Int) (hc : -9223372036854775808 ≤ c ∧ c ≤ 9223372036854775807) (hi0 : -9223372036854775808 ≤ i0 ∧ i0 ≤ 9223372036854775807) (hi1 : -9223372036854775808 ≤ i1 ∧ i1 ≤ 9223372036854775807) (k : Nat) (hk : k = (i1 - i0).toNat) (hk2 : k ≤ 1000) (hn : n ≤ 900000000) :
    Calls Tryd.prog 12 #[.pointer (some ⟨g, 0, none⟩), .agg (keyC tag), .int .i64 c, .int .i64 i0, .int .i64 i1, .agg (keyC v)] w fun e w' => e = .returned (.agg (keyC (alongB tag c i0 v k))) ∧ Env w0 (rs.set m (g, 66, mC (n + k))) w' := by
  have HT := Lib.hid ht
  have HM := Lib.hid hm
  have E0 := Lib.hid hE
  have LT := Lib.hid ltag
  have LA : Hid (∀ j, (alongB tag c i0 v j).length = 32) := fun j => alongB_length tag c i0 v lv j
  have CC : Hid (∀ w, Calls Tryd.prog 24 #[.int .i64 c] w (RetBs w (numB c))) := fun w => number_any w c hc
  have CI : Hid (∀ (j : Nat) w, i0 + (j : Int) < i1 → Calls Tryd.prog 24 #[.int .i64 (i0 + (j : Int))] w (RetBs w (numB (i0 + (j : Int))))) := fun j w h => number_any w _ (by omega)
  clear ht hm hE ltag
  go_enter Tryd.func12, Tryd.ntmps12
  go_wp2_with (first
    | ((with_reducible refine wpE_box (o := ⟨some 7, _, _, _, _, _⟩) rfl 23 (.tmp 1) rfl (keyC tag) (by with_unfolding_all rfl) E0.out ?_); intro g7 w1 T1; have E1 := Lib.hid T1; clear T1)
    | ((with_reducible refine wpE_box (o := ⟨some 11, _, _, _, _, _⟩) rfl 23 (.tmp 5) rfl (keyC v) (by with_unfolding_all rfl) E1.out ?_); intro g11 w2 T2; have E2 := Lib.hid T2; clear T2)
    | ((with_reducible refine wpE_alloc (o := ⟨some 12, _, _, _, _, _⟩) rfl 23 rfl (keyC zeroKey) Tryd.zeroK E2.out ?_); intro g12 w3 T3; have E3 := Lib.hid T3; clear T3))
  clear E0 E1 E2
  go_loopw [13] (fun i wr => ∃ j : Nat, j ≤ k ∧ i = .int .i64 (i0 + (j : Int)) ∧ Env w0 ((g12, 23, keyC zeroKey) :: (g11, 23, keyC (alongB tag c i0 v j)) :: (g7, 23, keyC tag) :: rs.set m (g, 66, mC (n + j))) wr) (fun i _ => (i1 - intOf i).toNat)
  case atStart => exact ⟨0, by omega, by simp, by rw [Nat.add_zero, set_id HM.out]; exact E3.out⟩
  case round =>
    clear E3
    obtain ⟨j, hj, rfl, hE⟩ := hrel
    have E := Lib.hid hE
    clear hE
    by_cases hlt : j < k
    · have hlt2 : i0 + (j : Int) < i1 := by omega
      have hw1 : IntKind.i64.wrap (i0 + (j : Int) + 1) = i0 + (j : Int) + 1 := IntWalk.i64_in _ (by omega)
      obtain ⟨z, hz⟩ : ∃ z, z = i0 + (j : Int) := ⟨_, rfl⟩
      have CZ : Hid (∀ w, Calls Tryd.prog 24 #[.int .i64 z] w (RetBs w (numB z))) := fun w => by rw [hz]; exact CI.out j w hlt2
      obtain ⟨a, ha⟩ : ∃ a, a = alongB tag c i0 v j := ⟨_, rfl⟩
      have LAJ : Hid (a.length = 32) := by show _ = _; rw [ha]; exact LA.out j
      obtain ⟨d, hd⟩ : ∃ d, d = digestB ([tag, numB c, numB z, a].flatten) := ⟨_, rfl⟩
      have LD : Hid (d.length = 32) := by show _ = _; rw [hd]; exact digestB_length _
      have HD := Lib.hid hd
      have HA : Hid (alongB tag c i0 v (j + 1) = d) := by
        show _ = _
        rw [alongB, hd, ← ha, ← hz]
        simp
      have HLF : Hid ([tag, numB c, numB z, a].flatten.length = 100 ∨ [tag, numB c, numB z, a].flatten.length ≤ 100) := .inr (by simp [numB_length, LT.out, LAJ.out])
      rw [← ha] at E
      rw [← hz] at hw1 hlt2 ⊢
      have HZ := Lib.hid hz
      clear hz ha hd
      go_wp2
      refine plain_region (S := fun _ => True) (fin := fun _ => false) (by kernel_rfl) ?_
      change walkS _ _ _ _ _ _ 10 _ _ _
      refine walkS_take (i := 0) (oi := ⟨some 20, _, _, _, _, _⟩) (v := .pointer (some ⟨g, 0, none⟩)) rfl (by kernel_rfl) (by kernel_rfl) (fun _ _ _ h => h) _ _ _ _ (by kernel_rfl) (by kernel_rfl) (Or.inl ⟨by rfl, fun w' _ => (by go_simp)⟩) trivial ?_
      simp only [Act.put, List.setIfInBounds_toArray, List.set_cons_zero, List.set_cons_succ]
      refine walkS_take (i := 1) (oi := ⟨some 21, _, _, _, _, _⟩) (v := .slice (some ⟨g7, 0, none⟩) 32 32) rfl (by kernel_rfl) (by kernel_rfl) (fun _ _ _ h => h) _ _ _ _ (by kernel_rfl) (by kernel_rfl) (Or.inl ⟨by rfl, fun w' _ => (by go_simp)⟩) trivial ?_
      simp only [Act.put, List.setIfInBounds_toArray, List.set_cons_zero, List.set_cons_succ]
      refine walkS_take (i := 2) (oi := ⟨some 22, _, _, _, _, _⟩) (v := .int .i64 c) rfl (by kernel_rfl) (by kernel_rfl) (fun _ _ _ h => h) _ _ _ _ (by kernel_rfl) (by kernel_rfl) (Or.inl ⟨by rfl, fun w' _ => (by go_simp)⟩) trivial ?_
      simp only [Act.put, List.setIfInBounds_toArray, List.set_cons_zero, List.set_cons_succ]
      refine walkS_take (i := 4) (oi := ⟨some 24, _, _, _, _, _⟩) (v := .int .i64 z) rfl (by kernel_rfl) (by kernel_rfl) (fun _ _ _ h => h) _ _ _ _ (by kernel_rfl) (by kernel_rfl) (Or.inl ⟨by rfl, fun w' _ => (by go_simp)⟩) trivial ?_
      simp only [Act.put, List.setIfInBounds_toArray, List.set_cons_zero, List.set_cons_succ]
      refine walkS_take (i := 6) (oi := ⟨some 26, _, _, _, _, _⟩) (v := .slice (some ⟨g11, 0, none⟩) 32 32) rfl (by kernel_rfl) (by kernel_rfl) (fun _ _ _ h => h) _ _ _ _ (by kernel_rfl) (by kernel_rfl) (Or.inl ⟨by rfl, fun w' _ => (by go_simp)⟩) trivial ?_
      simp only [Act.put, List.setIfInBounds_toArray, List.set_cons_zero, List.set_cons_succ]
      refine walkS_only (i := 3) (o := ⟨some 23, _, _, _, _, _⟩) (by kernel_rfl) rfl rfl fun KK hKK => ?_
      go_simp
      refine (CC.out _).mono ?_
      intro e w4 h
      obtain ⟨u1, he, hu1, b4⟩ := h
      subst he
      refine hKK _ _ (.inr trivial) ?_
      clear hKK KK
      try simp only [Act.put, List.setIfInBounds_toArray, List.set_cons_zero, List.set_cons_succ]
      refine walkS_only (i := 5) (o := ⟨some 25, _, _, _, _, _⟩) (by kernel_rfl) rfl rfl fun KK hKK => ?_
      go_simp
      refine (CZ.out _).mono ?_
      intro e w5 h
      obtain ⟨u2, he, hu2, b5⟩ := h
      subst he
      refine hKK _ _ (.inr trivial) ?_
      clear hKK KK
      try simp only [Act.put, List.setIfInBounds_toArray, List.set_cons_zero, List.set_cons_succ]
      have E4 := Lib.hid ((E.out.drew.call b4).call b5)
      have H1 := Lib.hid (hu1.below b5)
      have H2 := Lib.hid hu2
      obtain ⟨A1, c1, rfl, _, _, _⟩ := hu1
      obtain ⟨A2, c2, rfl, _, _, _⟩ := hu2
      clear b4 b5 E
      refine walkS_only (i := 7) (o := ⟨some 27, _, _, _, _, _⟩) (by kernel_rfl) rfl rfl fun KK hKK => ?_
      go_simp
      refine hKK _ _ (.inr trivial) ?_
      clear hKK KK
      try simp only [Act.put, List.setIfInBounds_toArray, List.set_cons_zero, List.set_cons_succ]
      have HS := Lib.hid (Bss.lit4 w5 _ _ _ _ tag (numB c) (numB z) a (E4.out.arr 2 rfl 32 LT.out (by omega)) H1.out H2.out (E4.out.arr 1 rfl 32 LAJ.out (by omega)))
      have E5 := Lib.hid (E4.out.call (alloc_below w5 (.cells #[.slice (some ⟨g7, 0, none⟩) 32 32, .slice A1 (numB c).length c1, .slice A2 (numB z).length c2, .slice (some ⟨g11, 0, none⟩) 32 32] 68)))
      clear H1 H2 E4
      refine walkS_only (i := 8) (o := ⟨some 28, _, _, _, _, _⟩) (by kernel_rfl) rfl rfl fun KK hKK => ?_
      go_simp
      refine (Sum_env (m := m + 3) (n := n + j) E5.out HT.out (set_at HM.out) _ [tag, numB c, numB z, a] d (by omega) HD.out HS.out (by rcases HLF.out with h | h <;> omega) (by simp)).mono ?_
      intro e w6 h
      obtain ⟨he, h6⟩ := h
      subst he
      simp only [List.set_cons_succ, List.set_set] at h6
      have E6 := Lib.hid h6
      refine hKK _ _ (.inr trivial) ?_
      clear hKK KK h6 E5 HS
      try simp only [Act.put, List.setIfInBounds_toArray, List.set_cons_zero, List.set_cons_succ]
      refine walkS_only (i := 9) (o := ⟨none, _, _, _, _, _⟩) (by kernel_rfl) rfl rfl fun KK hKK => ?_
      refine wp_store_row 23 (.tmp 11) (.tmp 28) rfl g11 23 (keyC a) (keyC d) rfl rfl (E6.out.row 1 rfl) (keyC_same LAJ.out LD.out) (Tryd.sizeKey d LD.out) (keyC_one d) fun w7 p7 => ?_
      have E7 := Lib.hid (E6.out.put 1 rfl p7)
      refine hKK _ _ (.inr trivial) (walkS_done (by kernel_rfl) ?_ _)
      clear hKK KK p7 E6
      rw [← HA.out] at E7
      clear HA HD LD
      go_wp2
      go_roundw
      · exact ⟨j + 1, by omega, by rw [HZ.out]; congr 1; omega, by rw [← Nat.add_assoc]; exact E7.out⟩
      · show (i1 - (z + 1)).toNat < (i1 - z).toNat
        omega
    · have hlt2 : ¬ i0 + (j : Int) < i1 := by omega
      have hjk : j = k := by omega
      clear hk
      subst hjk
      have LD : Hid ((alongB tag c i0 v j).length = 32) := by show _ = _; exact LA.out j
      clear LA CC CI
      go_wp2_with (first
        | (with_reducible refine wpE_load (o := ⟨some 29, _, _, _, _, _⟩) rfl 23 (.tmp 11) rfl 1 g11 23 (keyC (alongB tag c i0 v j)) _ (by with_unfolding_all rfl) (by with_unfolding_all rfl) Tryd.underlying23 rfl (Tryd.sizeKey _ LD.out) E.out ?_)
        | ((with_reducible refine wpE_store (o := ⟨none, _, _, _, _, _⟩) rfl 23 (.tmp 12) (.tmp 29) rfl 0 g12 23 (keyC zeroKey) (keyC (alongB tag c i0 v j)) (by with_unfolding_all rfl) (by with_unfolding_all rfl) (by with_unfolding_all rfl) (keyC_same zeroKey_length LD.out) (Tryd.sizeKey _ LD.out) (keyC_one _) E.out ?_); intro w5 T5; simp only [List.set_cons_zero] at T5; have E5 := Lib.hid T5; clear T5))
      exact bodyPost_ret (results_cell_row rfl _ _ g12 23 (keyC (alongB tag c i0 v j)) (0, 0) (.array 32 5) rfl (E5.out.row 0 rfl) Tryd.underlying23 rfl (Tryd.sizeKey _ LD.out)) rfl ⟨rfl, E5.out.tl.tl.tl⟩
end Go.Proofs.YtfnmglicfgkmjaaDoor
end
section
namespace Go.Proofs.YtfnmglicfgkmjaaDoor
open Go.RowKit
set_option linter.unusedVariables false
set_option maxRecDepth 20000

def cellsI (l : List Nat) : List Value := l.map fun x => Value.int .i64 ((x : Nat) : Int)
def intC (l : List Nat) : Array Value := (cellsI l).toArray
theorem cellsI_length (l : List Nat) : (cellsI l).length = l.length := by simp [cellsI]
theorem intC_get (l : List Nat) (j : Nat) (h : j < l.length) : (intC l)[j]? = some (.int .i64 ((l.getD j 0 : Nat) : Int)) := by
  simp [intC, cellsI, h]
theorem cellsI_append (a b : List Nat) : cellsI (a ++ b) = cellsI a ++ cellsI b := by simp [cellsI]
section
variable {P : Program} {w0 w : World} {rs : List (Nat × TypeId × Array Value)} {ops : Array Oper} {rest : List Oper} {o : Oper} {a : Act} {Q : Exit → Act → World → Prop}
/-- append, where there is room, onto one of the call's own rows. -/
theorem wpE_appRoom (hgd : o.guard = none) (s x : Operand) (t : TypeId) (ho : o.op = .call { callee := .builtin .append, args := #[s, x], argTypes := #[t, t] }) (e : TypeId) (he : (P.info? e).map (·.size) = some 1) (ht : P.underlying t = some (.slice e))
    (i g : Nat) (cur cs : Array Value) (hi : rs[i]? = some (g, e, cur)) (n cap : Nat) (hs : a.eval s = .slice (some ⟨g, 0, none⟩) n cap) (b m c : Nat) (hx : a.eval x = .slice (some ⟨b, 0, none⟩) m c) (u : TypeId) (news : List Value) (hm : news.length = m) (hb : RowAt w b u news.toArray)
    (h1 : ∀ v ∈ news, v.oneCell' = true) (hroom : n + m ≤ cap) (hfit : n + m ≤ cur.size) (hcs : (cur.toList.take n ++ news ++ cur.toList.drop (n + m)).toArray = cs) (hE : Env w0 rs w)
    (h : ∀ w', Env w0 (rs.set i (g, e, cs)) w' → wpList P ops Q rest (a.put o.dst (.slice (some ⟨g, 0, none⟩) (n + m) cap)) w') : wpList P ops Q (o :: rest) a w := by
  obtain ⟨f, hf, hz⟩ := Option.map_eq_some_iff.1 he
  have hr := run_append_room (P := P) w t o.type e f ht hf g n cap cur (hE.row i hi) ⟨b, 0, none⟩ m c news (by rw [hz, hm, Nat.mul_one]) (fun j y hj => by
    have hadd : (⟨b, 0, none⟩ : Addr).add j = ⟨b, j, none⟩ := by unfold Addr.add; split <;> simp_all
    rw [hadd, hb.cell j]
    simpa using hj) h1 hroom (by rw [hz, hm, Nat.mul_one]; exact hfit)
  rw [hz, hm, Nat.mul_one, hcs] at hr
  exact Go.Lib.wpList_append_run w hgd s x t t ho _ _ hs hx _ _ hr (h _ (hE.put i hi (setRow_put (hE.row i hi))))
/-- make([]T, n, c): a row of zeros of the call's own. -/
theorem wpE_make (hgd : o.guard = none) (t e : TypeId) (x y : Operand) (ho : o.op = .makeSlice t x y) (n c : Nat) (hx : a.eval x = .int .i64 (n : Int)) (hy : a.eval y = .int .i64 (c : Int)) (ht : P.underlying t = some (.slice e)) (z : Value) (size bytes : Nat)
    (hinfo : (P.info? e).map (fun i => (i.zero, i.size, i.bytes)) = some (some z, size, bytes)) (cs : Array Value) (hcs : madeCells z.cells (c * size) = cs) (hnc : n ≤ c) (hc : c ≤ 100000) (hb : bytes ≤ 100000) (hE : Env w0 rs w)
    (h : ∀ g w', Env w0 ((g, e, cs) :: rs) w' → (∀ r ∈ rs, r.1 < g) → wpList P ops Q rest (a.put o.dst (.slice (some ⟨g, 0, none⟩) n c)) w') : wpList P ops Q (o :: rest) a w := by
  obtain ⟨i, hi, hz0, hz1, hz2⟩ := info_parts hinfo
  have hbb : i.bytes * c ≤ 281474976710656 := by
    rw [hz2]
    exact Nat.le_trans (Nat.mul_le_mul hb hc) (by decide)
  have hr := run_make (P := P) w t e i z ht hi hz0 .i64 .i64 n c (by omega) (by omega) (by rw [← Int.natCast_mul]; omega) (by omega)
  simp only [Int.toNat_natCast] at hr
  rw [hz1, hcs] at hr
  refine wpList_plain hgd fun _ hK => ?_
  unfold Oper.wp execOp
  simp only [ho, hx, hy, Sem.run_bind]
  rw [hr]
  exact hK _ _ (h _ _ (hE.new (NewRow.mk_ w e cs)) fun r hr => (hE.rows r hr).1.lt)
theorem made_all (z : Array Value) (v : Value) (h0 : 0 < z.size) (hz : ∀ j, j < z.size → z[j]! = v) (n : Nat) : madeCells z n = (List.replicate n v).toArray := by
  unfold madeCells
  apply Array.ext
  · simp
  · intro i h1 h2
    simp only [Array.size_map, Array.size_range] at h1
    simp [hz _ (Nat.mod_lt i h0)]
end
theorem and15i (a : Int) : bits .and .i64 a 15 = a % 16 := by
  show IntKind.i64.wrap ((BitVec.ofInt 64 a &&& BitVec.ofInt 64 15).toNat : Int) = _
  rw [BitVec.toNat_and, show (BitVec.ofInt 64 15).toNat = 15 from rfl, nat_mask4, BitVec.toNat_ofInt, IntWalk.i64_in _ (by omega)]
  omega
theorem ints_one (l : List Nat) : ∀ v ∈ cellsI l, v.oneCell' = true := by
  intro v hv
  obtain ⟨x, _, rfl⟩ := List.mem_map.1 hv
  rfl
theorem Tryd.int1 : (Tryd.prog.info? 3).map (·.size) = some 1 := by kernel_rfl
theorem Tryd.u8size1 : (Tryd.prog.info? 5).map (·.size) = some 1 := by kernel_rfl
theorem keyC_at (l : List UInt8) (j : Nat) (h : j < l.length) : (keyC l)[j]? = some (.int .u8 ((l.getD j 0).toNat : Int)) := by
  simp [keyC, cellsB, h]
/-- The row behind j bytes. -/
def someI (d : List UInt8) (j : Nat) : List Nat := halvesL (d.take j) ++ List.replicate (67 - 2 * j) 0
theorem someI_size (d : List UInt8) (j : Nat) (h : j ≤ 32) (hd : d.length = 32) : (intC (someI d j)).size = 67 := by
  simp only [intC, List.size_toArray, cellsI_length, someI, List.length_append, halvesL_length, List.length_take, List.length_replicate]
  omega
theorem someI_next (d : List UInt8) (j : Nat) (h : j < d.length) (hd : d.length = 32) :
    ((intC (someI d j)).toList.take (2 * j) ++ [Value.int .i64 (((d.getD j 0).toNat / 16 : Nat) : Int), Value.int .i64 (((d.getD j 0).toNat % 16 : Nat) : Int)] ++ (intC (someI d j)).toList.drop (2 * j + 2)).toArray = intC (someI d (j + 1)) := by
  have hl : (cellsI (halvesL (d.take j))).length = 2 * j := by rw [cellsI_length, halvesL_length, List.length_take]; omega
  have e : d.take (j + 1) = d.take j ++ [d.getD j 0] := by
    rw [List.take_succ_eq_append_getElem h, List.getD_eq_getElem?_getD, List.getElem?_eq_getElem h]
    rfl
  unfold intC someI
  rw [e, halvesL_snoc]
  simp only [cellsI_append]
  rw [List.take_left' hl, List.drop_append, List.drop_eq_nil_of_le (by omega), hl, show 2 * j + 2 - 2 * j = 2 by omega]
  simp [cellsI, show 67 - 2 * (j + 1) = 67 - 2 * j - 2 by omega]
theorem someI_last (d : List UInt8) (hd : d.length = 32) (x y z : Nat) : ((intC (someI d 32)).toList.take 64 ++ [Value.int .i64 (x : Int), Value.int .i64 (y : Int), Value.int .i64 (z : Int)] ++ (intC (someI d 32)).toList.drop 67).toArray = intC (halvesL d ++ [x, y, z]) := by
  have hl : (cellsI (halvesL d)).length = 64 := by rw [cellsI_length, halvesL_length]; omega
  have e : d.take 32 = d := List.take_of_length_le (by omega)
  unfold intC someI
  rw [e]
  simp only [cellsI_append]
  rw [List.take_left' hl, List.drop_append, List.drop_eq_nil_of_le (by omega), hl]
  simp [cellsI]

set_option maxHeartbeats 4000000 in
theorem digits_env (w0 w : World) (rs : List (Nat × TypeId × Array Value)) (hE : Env w0 rs w) (d : List UInt8) (ld : d.length = 32) :
    Calls Tryd.prog 9 #[.agg (keyC d)] w fun e w' => ∃ b, e = .returned (.slice (some ⟨b, 0, none⟩) 67 67) ∧ Env w0 ((b, 3, intC (digitsL d)) :: rs) w' := by
  have E0 := Lib.hid hE
  have LD := Lib.hid ld
  have HL := Lib.hid (fun j => lackL_le (d.take j))
  clear hE ld
  obtain ⟨i0, hi, hz0, hz1, hz2⟩ := info_parts (by kernel_rfl : (Tryd.prog.info? 3).map (fun i => (i.zero, i.size, i.bytes)) = some (some (.int .i64 0), 1, 8))
  go_enter Tryd.func9, Tryd.ntmps9
  have hm : madeCells (Value.cells (.int .i64 0)) (67 * 1) = intC (someI d 0) := by
    rw [made_all _ (.int .i64 0) (by decide) (fun j hj => by obtain rfl : j = 0 := Nat.lt_one_iff.1 hj; rfl)]
    rfl
  go_wp2_with (first
    | ((with_reducible refine wpE_box (o := ⟨some 1, _, _, _, _, _⟩) rfl 23 (.tmp 0) rfl (keyC d) (by with_unfolding_all rfl) E0.out ?_); intro g1 w1 T1; have E1 := Lib.hid T1; clear T1)
    | ((with_reducible refine wpE_make (o := ⟨some 9, _, _, _, _, _⟩) rfl 25 3 (.const (.int .i64 0)) (.const (.int .i64 67)) rfl 0 67 (by with_unfolding_all rfl) (by with_unfolding_all rfl) Tryd.underlying25 (.int .i64 0) 1 8 (by kernel_rfl) (intC (someI d 0)) hm (by omega) (by omega) (by omega) E1.out ?_); intro g3 w2 T2 _; have E2 := Lib.hid T2; clear T2)
    | (with_reducible refine wpE_load (o := ⟨some 10, _, _, _, _, _⟩) rfl 23 (.tmp 1) rfl 1 g1 23 (keyC d) _ (by with_unfolding_all rfl) (by with_unfolding_all rfl) Tryd.underlying23 rfl (Tryd.sizeKey _ LD.out) E2.out ?_))
  clear E0 E1
  go_loopw [3, 4, 11] (fun o l i wr => ∃ j : Nat, j ≤ 32 ∧ i = .int .i64 (j : Int) ∧ o = .slice (some ⟨g3, 0, none⟩) (2 * j) 67 ∧ l = .int .i64 ((lackL (d.take j) : Nat) : Int) ∧ Env w0 ((g3, 3, intC (someI d j)) :: (g1, 23, keyC d) :: rs) wr) (fun _ _ i _ => 32 - (intOf i).toNat)
  case atStart => exact ⟨0, by omega, rfl, rfl, rfl, E2.out⟩
  case round =>
    clear E2 hm
    obtain ⟨j, hj, rfl, rfl, rfl, hE⟩ := hrel
    have E := Lib.hid hE
    clear hE
    by_cases hlt : j < 32
    · have hlt2 : (j : Int) < 32 := by omega
      have hw1 : IntKind.i64.wrap ((j : Int) + 1) = (j : Int) + 1 := IntWalk.i64_in _ (by omega)
      obtain ⟨b, hb⟩ : ∃ b, b = d.getD j 0 := ⟨_, rfl⟩
      have hix := fun x : World => run_index_arr (P := Tryd.prog) x 23 5 32 (keyC d) .i64 .u8 j Tryd.underlying23 Tryd.underlying5 Tryd.u8size1 hlt _ (keyC_at d j (by rw [LD.out]; omega))
      rw [← hb] at hix
      have hb0 := b.toNat_lt
      have HB := Lib.hid hb
      obtain ⟨hx, hh⟩ : ∃ hx, hx = b.toNat / 16 := ⟨_, rfl⟩
      obtain ⟨lx, hl⟩ : ∃ lx, lx = b.toNat % 16 := ⟨_, rfl⟩
      have q0 : (b.toNat : Int) / 16 = (hx : Int) := by omega
      have q1 : RowKit.wrap64 (hx : Int) = (hx : Int) := by
        unfold RowKit.wrap64
        omega
      have q2 : (b.toNat : Int) % 16 = (lx : Int) := by omega
      have h15 : hx ≤ 15 := by omega
      have l15 : lx ≤ 15 := by omega
      have hs0 := HL.out j
      rw [List.length_take] at hs0
      have hsn : lackL (d.take (j + 1)) = lackL (d.take j) + (15 - hx + (15 - lx)) := by
        rw [show d.take (j + 1) = d.take j ++ [b] by
          rw [List.take_succ_eq_append_getElem (by rw [LD.out]; omega), HB.out, List.getD_eq_getElem?_getD, List.getElem?_eq_getElem (by rw [LD.out]; omega)]
          rfl]
        rw [lackL_snoc, lackB, hh, hl]
      have HSN := Lib.hid hsn
      have hnx := someI_next d j (by rw [LD.out]; omega) LD.out
      rw [← HB.out, ← hh, ← hl] at hnx
      have HNX := Lib.hid hnx
      obtain ⟨s0, hs⟩ : ∃ s, s = lackL (d.take j) := ⟨_, rfl⟩
      rw [← hs] at hs0 ⊢
      have HS := Lib.hid hs
      have hsb : s0 ≤ 960 := by omega
      clear hs0 hsn hnx hs
      have HH := Lib.hid hh
      have HLL := Lib.hid hl
      clear hb hh hl
      obtain ⟨s1, hs1⟩ : ∃ s, s = s0 + (15 - hx + (15 - lx)) := ⟨_, rfl⟩
      have w1 : IntKind.i64.wrap (15 - (hx : Int)) = 15 - (hx : Int) := IntWalk.i64_in _ (by omega)
      have w2 : IntKind.i64.wrap (15 - (hx : Int) + 15) = 15 - (hx : Int) + 15 := IntWalk.i64_in _ (by omega)
      have w3 : IntKind.i64.wrap (15 - (hx : Int) + 15 - (lx : Int)) = 15 - (hx : Int) + 15 - (lx : Int) := IntWalk.i64_in _ (by omega)
      have w4 : IntKind.i64.wrap ((s0 : Int) + (15 - (hx : Int) + 15 - (lx : Int))) = (s1 : Int) := by rw [IntWalk.i64_in _ (by omega)]; omega
      have w5 : IntKind.i64.wrap (s1 : Int) = (s1 : Int) := IntWalk.i64_in _ (by omega)
      have hs2 : (s0 : Int) + (15 - (hx : Int) + 15 - (lx : Int)) = (s1 : Int) := by omega
      have HS1 : Hid (s1 = lackL (d.take (j + 1))) := by show _ = _; rw [HSN.out, ← HS.out, hs1]
      clear hs1
      go_wp2_with (at_builtin; refine wpE_appRoom (o := ⟨some 24, _, _, _, _, _⟩) rfl (.tmp 20) (.tmp 23) 25 rfl 3 Tryd.int1 Tryd.underlying25 0 g3 (intC (someI d j)) (intC (someI d (j + 1))) rfl (2 * j) 67 (by with_unfolding_all rfl) wr.heap.size 2 2 (by with_unfolding_all rfl) 3 [.int .i64 (hx : Int), .int .i64 (lx : Int)] rfl (by exact RowAt.new wr _ _) (ints_one [hx, lx]) (by omega) (by rw [someI_size d j hj LD.out]; omega) HNX.out (E.out.call (alloc_below wr _)) ?_; intro w4 T4; simp only [List.set_cons_zero] at T4; have E4 := Lib.hid T4; clear T4)
      refine ⟨⟨j + 1, by omega, by congr 1, by congr 1, by rw [HS1.out], E4.out⟩, ?_⟩
      show 32 - ((j : Int) + 1).toNat < 32 - (j : Int).toNat
      omega
    · have hj2 : j = 32 := by omega
      clear hlt
      subst hj2
      have hs0 := HL.out 32
      rw [List.length_take] at hs0
      have HDG : Hid (digitsL d = halvesL d ++ [lackL (d.take 32) / 256, lackL (d.take 32) / 16 % 16, lackL (d.take 32) % 16]) := by
        show _ = _
        rw [List.take_of_length_le (by rw [LD.out]; omega)]
        rfl
      obtain ⟨s, hs⟩ : ∃ s, s = lackL (d.take 32) := ⟨_, rfl⟩
      rw [← hs] at hs0 HDG ⊢
      have hsb : s ≤ 960 := by omega
      clear hs hs0
      obtain ⟨x, hx⟩ : ∃ x, x = s / 256 := ⟨_, rfl⟩
      obtain ⟨y, hy⟩ : ∃ y, y = s / 16 % 16 := ⟨_, rfl⟩
      obtain ⟨z, hz⟩ : ∃ z, z = s % 16 := ⟨_, rfl⟩
      rw [← hx, ← hy, ← hz] at HDG
      have HLAST := Lib.hid (someI_last d LD.out x y z)
      rw [← HDG.out] at HLAST
      have q0 : (s : Int) / 256 = (x : Int) := by omega
      have q1 : bits .and .i64 ((s : Int) / 16) 15 = (y : Int) := by rw [and15i]; omega
      have q2 : bits .and .i64 (s : Int) 15 = (z : Int) := by rw [and15i]; omega
      clear hx hy hz
      go_wp2_with (at_builtin; refine wpE_appRoom (o := ⟨some 42, _, _, _, _, _⟩) rfl (.tmp 33) (.tmp 41) 25 rfl 3 Tryd.int1 Tryd.underlying25 0 g3 (intC (someI d 32)) (intC (digitsL d)) rfl 64 67 (by with_unfolding_all rfl) wr.heap.size 3 3 (by with_unfolding_all rfl) 3 [.int .i64 (x : Int), .int .i64 (y : Int), .int .i64 (z : Int)] rfl (by exact RowAt.new wr _ _) (ints_one [x, y, z]) (by omega) (by rw [someI_size d 32 hj LD.out]; omega) HLAST.out (E.out.call (alloc_below wr _)) ?_; intro w4 T4; simp only [List.set_cons_zero] at T4; have E4 := Lib.hid T4; clear T4)
      go_ret
      exact ⟨g3, rfl, E4.out.less (List.Sublist.cons_cons _ (List.sublist_cons_self _ _))⟩
end Go.Proofs.YtfnmglicfgkmjaaDoor
end
section
namespace Go.Proofs.YtfnmglicfgkmjaaDoor
open Go.RowKit
set_option linter.unusedVariables false
set_option maxRecDepth 20000

/-- A signer's cells: its Meter; its seed; its tag; its Once; its public key. -/
def sgL (g : Nat) (s t : List UInt8) (d m : Int) (q : List UInt8) : List Value := .pointer (some ⟨g, 0, none⟩) :: (cellsB s ++ (cellsB t ++ ([.int .u32 d, .int .i32 m, .int .u32 0] ++ cellsB q)))
def sgC (g : Nat) (s t : List UInt8) (d m : Int) (q : List UInt8) : Array Value := (sgL g s t d m q).toArray
section
variable (g : Nat) (s t q : List UInt8) (d m : Int)
theorem sgL_length (ls : s.length = 32) (lt : t.length = 32) (lq : q.length = 32) : (sgL g s t d m q).length = 100 := by simp [sgL, cellsB_length, ls, lt, lq]
theorem sgC_size (ls : s.length = 32) (lt : t.length = 32) (lq : q.length = 32) : (sgC g s t d m q).size = 100 := by simp [sgC, sgL_length, ls, lt, lq]
theorem sgL_mid : sgL g s t d m q = (.pointer (some ⟨g, 0, none⟩) :: (cellsB s ++ cellsB t)) ++ (.int .u32 d :: .int .i32 m :: .int .u32 0 :: cellsB q) := by simp [sgL]
theorem sgC_0 : (sgC g s t d m q)[0]? = some (.pointer (some ⟨g, 0, none⟩)) := rfl
theorem sgC_65 (ls : s.length = 32) (lt : t.length = 32) : (sgC g s t d m q)[65]? = some (.int .u32 d) := by
  rw [sgC, List.getElem?_toArray, sgL_mid, List.getElem?_append_right (by simp [cellsB_length, ls, lt])]
  simp [cellsB_length, ls, lt]
theorem sgC_66 (ls : s.length = 32) (lt : t.length = 32) : (sgC g s t d m q)[66]? = some (.int .i32 m) := by
  rw [sgC, List.getElem?_toArray, sgL_mid, List.getElem?_append_right (by simp [cellsB_length, ls, lt])]
  simp [cellsB_length, ls, lt]
theorem sgC_set65 (ls : s.length = 32) (lt : t.length = 32) (x : Int) : (sgC g s t d m q).setIfInBounds 65 (.int .u32 x) = sgC g s t x m q := by
  rw [sgC, List.setIfInBounds_toArray, sgL_mid, List.set_append_right _ _ (by simp [cellsB_length, ls, lt])]
  simp [cellsB_length, ls, lt, sgC, sgL_mid]
theorem sgC_set66 (ls : s.length = 32) (lt : t.length = 32) (x : Int) : (sgC g s t d m q).setIfInBounds 66 (.int .i32 x) = sgC g s t d x q := by
  rw [sgC, List.setIfInBounds_toArray, sgL_mid, List.set_append_right _ _ (by simp [cellsB_length, ls, lt])]
  simp [cellsB_length, ls, lt, sgC, sgL_mid]
theorem sgC_seed (ls : s.length = 32) : ((sgC g s t d m q).toList.drop 1).take (cellsB s).length = cellsB s := by
  simp [sgC, sgL]
theorem sgC_tag (ls : s.length = 32) (lt : t.length = 32) : ((sgC g s t d m q).toList.drop 33).take (cellsB t).length = cellsB t := by
  have e : sgL g s t d m q = (.pointer (some ⟨g, 0, none⟩) :: cellsB s) ++ (cellsB t ++ (.int .u32 d :: .int .i32 m :: .int .u32 0 :: cellsB q)) := by simp [sgL]
  simp only [sgC]
  rw [e, List.drop_left' (by simp [cellsB_length, ls]), List.take_left' rfl]
theorem sgL_last : sgL g s t d m q = (.pointer (some ⟨g, 0, none⟩) :: (cellsB s ++ cellsB t ++ [.int .u32 d, .int .i32 m, .int .u32 0])) ++ cellsB q := by simp [sgL]
theorem sgC_public (ls : s.length = 32) (lt : t.length = 32) : ((sgC g s t d m q).toList.drop 68).take (cellsB q).length = cellsB q := by
  simp only [sgC]
  rw [sgL_last, List.drop_left' (by simp [cellsB_length, ls, lt]), List.take_length]
theorem sgC_put (ls : s.length = 32) (lt : t.length = 32) (lq : q.length = 32) (x : List UInt8) (lx : x.length = 32) : ((sgC g s t d m q).toList.take 68 ++ (keyC x).toList ++ (sgC g s t d m q).toList.drop (68 + (keyC x).size)).toArray = sgC g s t d m x := by
  rw [keyC_size, lx]
  simp only [sgC, keyC]
  rw [sgL_last, List.take_left' (by simp [cellsB_length, ls, lt]), List.drop_eq_nil_of_le (by simp [cellsB_length, ls, lt, lq]), sgL_last]
  simp
end
def sgZ : List Value := .pointer none :: (cellsB zeroKey ++ (cellsB zeroKey ++ ([.int .u32 0, .int .i32 0, .int .u32 0] ++ cellsB zeroKey)))
theorem Tryd.signerZero : (Tryd.prog.info? 79).map (·.zero) = some (some (.agg sgZ.toArray)) := by kernel_rfl
theorem fill_part (z : List Value) (off : Nat) (l : List Value) (h : off + l.length ≤ z.length) : l.toArray.zipIdx.foldl (fun acc x => acc.setIfInBounds (off + x.2) x.1) z.toArray = (z.take off ++ l ++ z.drop (off + l.length)).toArray := by
  have key : ∀ (l : List Value) (k : Nat) (acc : List Value), off + k + l.length ≤ acc.length → (l.zipIdx k).foldl (fun (acc : Array Value) x => acc.setIfInBounds (off + x.2) x.1) acc.toArray = (acc.take (off + k) ++ l ++ acc.drop (off + k + l.length)).toArray := by
    intro l
    induction l with
    | nil => intro k acc h; simp
    | cons v l ih =>
      intro k acc h
      rw [List.length_cons] at h
      rw [List.zipIdx_cons, List.foldl_cons]
      have e : (acc.toArray.setIfInBounds (off + k) v) = (acc.set (off + k) v).toArray := by simp
      rw [e, ih (k + 1) (acc.set (off + k) v) (by rw [List.length_set]; omega)]
      congr 1
      rw [List.take_set, List.drop_set_of_lt (by omega), List.length_cons, show off + (k + 1) = off + k + 1 by omega, List.take_succ_eq_append_getElem (by omega), List.set_append_right _ _ (by rw [List.length_take]; omega), List.length_take, Nat.min_eq_left (by omega), Nat.sub_self, List.set_cons_zero]
      simp only [List.append_assoc, List.cons_append, List.nil_append]
      rw [show off + k + 1 + l.length = off + k + (l.length + 1) by omega]
  have := key l 0 z (by simpa using h)
  simpa using this
theorem sg_fill1 (g : Nat) (s : List UInt8) (hs : s.length = 32) : ((sgZ.set 0 (.pointer (some ⟨g, 0, none⟩))).take 1 ++ cellsB s ++ (sgZ.set 0 (.pointer (some ⟨g, 0, none⟩))).drop (1 + (cellsB s).length)) = sgL g s zeroKey 0 0 zeroKey := by
  rw [cellsB_length, hs]
  have e : sgZ.set 0 (.pointer (some ⟨g, 0, none⟩)) = (.pointer (some ⟨g, 0, none⟩) :: cellsB zeroKey) ++ (cellsB zeroKey ++ ([.int .u32 0, .int .i32 0, .int .u32 0] ++ cellsB zeroKey)) := by simp [sgZ]
  rw [e, List.drop_left' (by simp [cellsB_length, zeroKey_length])]
  simp [sgL]
theorem sg_fill2 (g : Nat) (s t : List UInt8) (hs : s.length = 32) (ht : t.length = 32) : ((sgL g s zeroKey 0 0 zeroKey).take 33 ++ cellsB t ++ (sgL g s zeroKey 0 0 zeroKey).drop (33 + (cellsB t).length)) = sgL g s t 0 0 zeroKey := by
  rw [cellsB_length, ht]
  have e : sgL g s zeroKey 0 0 zeroKey = (.pointer (some ⟨g, 0, none⟩) :: cellsB s) ++ (cellsB zeroKey ++ ([.int .u32 0, .int .i32 0, .int .u32 0] ++ cellsB zeroKey)) := by simp [sgL]
  have e2 : sgL g s zeroKey 0 0 zeroKey = (.pointer (some ⟨g, 0, none⟩) :: (cellsB s ++ cellsB zeroKey)) ++ ([.int .u32 0, .int .i32 0, .int .u32 0] ++ cellsB zeroKey) := by simp [sgL]
  rw [show (sgL g s zeroKey 0 0 zeroKey).drop (33 + 32) = [.int .u32 0, .int .i32 0, .int .u32 0] ++ cellsB zeroKey by rw [e2, List.drop_left' (by simp [cellsB_length, zeroKey_length, hs])]]
  rw [e, List.take_left' (by simp [cellsB_length, hs])]
  simp [sgL]
theorem build_signer (w : World) (g : Nat) (s t : List UInt8) (hs : s.length = 32) (ht : t.length = 32) :
    (Instr.build 79 #[(0, .pointer (some ⟨g, 0, none⟩)), (1, .agg (keyC s)), (2, .agg (keyC t))]).run Tryd.prog w = .ok (.agg (sgC g s t 0 0 zeroKey)) w := by
  obtain ⟨j, hj, hj2⟩ := Option.map_eq_some_iff.1 Tryd.signerZero
  obtain ⟨i, hi, hi2⟩ := Option.map_eq_some_iff.1 (Tryd.sizeKey s hs)
  have hf := fill_part (sgZ.set 0 (.pointer (some ⟨g, 0, none⟩))) 1 (cellsB s) (by rw [cellsB_length, hs]; simp [sgZ, cellsB_length, zeroKey_length])
  rw [sg_fill1 g s hs] at hf
  have hg := fill_part (sgL g s zeroKey 0 0 zeroKey) 33 (cellsB t) (by rw [cellsB_length, ht, sgL_length _ _ _ _ _ _ hs zeroKey_length zeroKey_length]; omega)
  rw [sg_fill2 g s t hs ht] at hg
  have hu := Tryd.underlying79
  obtain ⟨ip, hip, hip2⟩ := Option.map_eq_some_iff.1 (by kernel_rfl : (Tryd.prog.info? 27).map (·.size) = some 1)
  obtain ⟨io, hio, _⟩ := Option.map_eq_some_iff.1 (by kernel_rfl : (Tryd.prog.info? 77).map (·.size) = some 3)
  have hz1 : ¬ sgZ = [] := by simp [sgZ]
  have hz2 : ¬ sgZ.length < 1 + (keyC s).size := by rw [keyC_size, hs]; simp [sgZ, cellsB_length, zeroKey_length]
  have hss : (keyC s).size = ((keyC s).zipIdx).size := by simp
  have hst : (keyC t).size = ((keyC t).zipIdx).size := by simp
  have kf : Array.foldl (fun (acc : Array Value) x => acc.setIfInBounds (1 + x.2) x.1) (sgZ.set 0 (.pointer (some ⟨g, 0, none⟩))).toArray (keyC s).zipIdx 0 (keyC s).size = (sgL g s zeroKey 0 0 zeroKey).toArray := by rw [hss]; exact hf
  have kg : Array.foldl (fun (acc : Array Value) x => acc.setIfInBounds (33 + x.2) x.1) (sgL g s zeroKey 0 0 zeroKey).toArray (keyC t).zipIdx 0 (keyC t).size = (sgL g s t 0 0 zeroKey).toArray := by rw [hst]; exact hg
  have hz3 : ¬ (¬ (keyC t).size = (keyC s).size ∨ (sgL g s zeroKey 0 0 zeroKey).toArray.size < 33 + (keyC t).size) := by
    rw [keyC_size, keyC_size, hs, ht, List.size_toArray, sgL_length _ _ _ _ _ _ hs zeroKey_length zeroKey_length]
    omega
  simp [Instr.build, zeroValue, typeInfo, hj, hj2, run_underlying hu, sizeOf, hi, hi2, Instr.fill, Value.cells, go_sem, hip, hip2, hio, hz1, hz2]
  rw [kf, kg, if_neg hz3]
  rfl
end Go.Proofs.YtfnmglicfgkmjaaDoor
end
