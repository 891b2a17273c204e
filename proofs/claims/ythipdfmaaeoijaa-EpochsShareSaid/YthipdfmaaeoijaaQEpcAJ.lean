/-
  Texts that belong together, merged: EpcB, EpcS, EpcD, RngV, SrtA, SrtB, SrtC. Conditions: as each theorem names them.
-/
import Derived.Test.YthipdfmaaeoijaaQEpcAI
import Derived.Carry
import Derived.Test.YthipdfmaaeoijaaQEpcAA
import Derived.RangeFuncSeq
import Derived.Test.YthipdfmaaeoijaaChecked
import Derived.Sort.Row
import Derived.Sort.LotA
import Derived.BigGuard
import Derived.BigCall
import Derived.CellFam
import Derived.Deep.Draws
import Derived.Deep.QuietTactic
import Derived.BigQuiet
import Derived.RegionTactic
import Derived.LoopN
section
namespace Go.Proofs.Ythipdfmaaeoijaa
open Go.RowKit
set_option linter.unusedVariables false
set_option maxRecDepth 20000

def pubAt (id : Nat) (l : List Ep) : List UInt8 := match epAt id l with | some e => rawK e.key nineK | none => zeroKey
def shKey (id : Nat) (l : List Ep) (p : List UInt8) : List UInt8 := match epAt id l with | some e => multK e.key p | none => zeroKey
def shCode (id : Nat) (l : List Ep) (p : List UInt8) : Int := match epAt id l with | some e => multE e.key p | none => 80
theorem keyAt_length {w : World} {b k last id : Nat} {mb : Option Nat} {l : List Ep} (h : TabW w b k mb l last) : (keyAt_ id l).length = 32 := by
  unfold keyAt_
  rcases hf : epAt id l with _ | e
  · exact zeroKey_length
  · exact (h.keys e (epAt_mem hf).1).2
set_option maxHeartbeats 2000000 in
theorem public_any (w : World) (b k : Nat) (mb : Option Nat) (l : List Ep) (last id : Nat) (hT : TabW w b k mb l last) :
    Calls Try.prog 10 #[.pointer (some ⟨b, k, none⟩), .int .u32 (id : Int)] w (RetV w (.tuple #[.agg (keyC (pubAt id l)), .int .i64 (codeAt id l)])) := by
  have CS := Lib.hid (fun w' hb => secret_any w' b k mb l last id (TabW.kept (w' := w') hT hb))
  have hlen := keyAt_length (id := id) hT
  unfold pubAt codeAt
  unfold keyAt_ codeAt at CS
  unfold keyAt_ at hlen
  clear hT
  have E0 := Lib.hid (Env.start w)
  rcases hf : epAt id l with _ | e
  · simp only [hf] at CS ⊢
    clear hf hlen
    go_enter Try.func10, Try.ntmps10
    go_wp2_with (first
      | ((with_reducible refine wpE_alloc (o := ⟨some 4, _, _, _, _, _⟩) rfl 32 rfl (keyC zeroKey) Try.zeroK E0.out ?_); intro g1 w1 T1; have E1 := Lib.hid T1; clear T1))
    refine (CS.out _ E1.out.below).mono ?_
    rintro e wc ⟨rfl, bc⟩
    have Ec := Lib.hid (E1.out.call bc)
    clear bc E1
    go_wp2_with (first
      | ((with_reducible refine wpE_alloc (o := ⟨some 6, _, _, _, _, _⟩) rfl 32 rfl (keyC zeroKey) Try.zeroK Ec.out ?_); intro gk wk Tk; have Ek := Lib.hid Tk; clear Tk)
      | ((with_reducible refine wpE_store (o := ⟨none, _, _, _, _, _⟩) rfl 32 (.tmp 6) (.tmp 12) rfl 0 gk 32 (keyC zeroKey) (keyC zeroKey) (by with_unfolding_all rfl) (by with_unfolding_all rfl) (by with_unfolding_all rfl) (keyC_same zeroKey_length zeroKey_length) (Try.sizeKey _ zeroKey_length) (keyC_one _) Ek.out ?_); intro wl Tl; simp only [List.set_cons_zero] at Tl; have El := Lib.hid Tl; clear Tl)
      | (with_reducible refine wpList_build0 (o := ⟨some 16, _, _, _, _, _⟩) rfl 32 rfl (keyC zeroKey) Try.builtK0 ?_)
      | ((with_reducible refine wpE_store (o := ⟨none, _, _, _, _, _⟩) rfl 32 (.tmp 4) (.tmp 16) rfl 1 g1 32 (keyC zeroKey) (keyC zeroKey) (by with_unfolding_all rfl) (by with_unfolding_all rfl) (by with_unfolding_all rfl) (keyC_same zeroKey_length zeroKey_length) (Try.sizeKey _ zeroKey_length) (keyC_one _) El.out ?_); intro wm Tm; simp only [List.set_cons_zero, List.set_cons_succ] at Tm; have Em := Lib.hid Tm; clear Tm))
    refine bodyPost_ret (ret_row_tmp rfl _ g1 32 (keyC zeroKey) _ rfl (Em.out.row 1 rfl) Try.underlying32 rfl (Try.sizeKey _ zeroKey_length)) rfl ⟨?_, Em.out.below⟩
    rfl
  · simp only [hf] at CS hlen ⊢
    obtain ⟨key, hkey⟩ : ∃ p, p = e.key := ⟨_, rfl⟩
    simp only [← hkey] at CS hlen ⊢
    have LK := Lib.hid hlen
    clear hkey hf hlen
    obtain ⟨q, hq⟩ : ∃ q, q = rawK key nineK := ⟨_, rfl⟩
    have LQ : Hid (q.length = 32) := by show _ = _; rw [hq]; exact rawK_length _ _
    have CM := Lib.hid (fun w' => Public_any key LK.out w')
    rw [← hq] at CM ⊢
    clear hq
    go_enter Try.func10, Try.ntmps10
    go_wp2_with (first
      | ((with_reducible refine wpE_alloc (o := ⟨some 4, _, _, _, _, _⟩) rfl 32 rfl (keyC zeroKey) Try.zeroK E0.out ?_); intro g1 w1 T1; have E1 := Lib.hid T1; clear T1))
    refine (CS.out _ E1.out.below).mono ?_
    rintro e wc ⟨rfl, bc⟩
    have Ec := Lib.hid (E1.out.call bc)
    clear bc E1
    go_wp2_with (first
      | ((with_reducible refine wpE_alloc (o := ⟨some 6, _, _, _, _, _⟩) rfl 32 rfl (keyC zeroKey) Try.zeroK Ec.out ?_); intro gk wk Tk; have Ek := Lib.hid Tk; clear Tk)
      | ((with_reducible refine wpE_store (o := ⟨none, _, _, _, _, _⟩) rfl 32 (.tmp 6) (.tmp 12) rfl 0 gk 32 (keyC zeroKey) (keyC key) (by with_unfolding_all rfl) (by with_unfolding_all rfl) (by with_unfolding_all rfl) (keyC_same zeroKey_length LK.out) (Try.sizeKey _ LK.out) (keyC_one _) Ek.out ?_); intro wl Tl; simp only [List.set_cons_zero] at Tl; have El := Lib.hid Tl; clear Tl)
      | (with_reducible refine wpE_load (o := ⟨some 18, _, _, _, _, _⟩) rfl 32 (.tmp 6) rfl 0 gk 32 (keyC key) _ (by with_unfolding_all rfl) (by with_unfolding_all rfl) Try.underlying32 rfl (Try.sizeKey _ LK.out) El.out ?_))
    refine (CM.out _).mono ?_
    rintro e wd ⟨rfl, bd⟩
    have Ed := Lib.hid (El.out.call bd)
    clear bd El
    go_wp2_with (first
      | ((with_reducible refine wpE_store (o := ⟨none, _, _, _, _, _⟩) rfl 32 (.tmp 4) (.tmp 19) rfl 1 g1 32 (keyC zeroKey) (keyC q) (by with_unfolding_all rfl) (by with_unfolding_all rfl) (by with_unfolding_all rfl) (keyC_same zeroKey_length LQ.out) (Try.sizeKey _ LQ.out) (keyC_one _) Ed.out ?_); intro wm Tm; simp only [List.set_cons_zero, List.set_cons_succ] at Tm; have Em := Lib.hid Tm; clear Tm))
    refine bodyPost_ret (ret_row_tmp rfl _ g1 32 (keyC q) _ rfl (Em.out.row 1 rfl) Try.underlying32 rfl (Try.sizeKey _ LQ.out)) rfl ⟨?_, Em.out.below⟩
    rfl

set_option maxHeartbeats 2000000 in
theorem shared_any (w : World) (b k : Nat) (mb : Option Nat) (l : List Ep) (last id : Nat) (pt : List UInt8) (lp : pt.length = 32) (hT : TabW w b k mb l last) :
    Calls Try.prog 11 #[.pointer (some ⟨b, k, none⟩), .int .u32 (id : Int), .agg (keyC pt)] w (RetV w (.tuple #[.agg (keyC (shKey id l pt)), .int .i64 (shCode id l pt)])) := by
  have CS := Lib.hid (fun w' hb => secret_any w' b k mb l last id (TabW.kept (w' := w') hT hb))
  have hlen := keyAt_length (id := id) hT
  unfold shKey shCode
  unfold keyAt_ codeAt at CS
  unfold keyAt_ at hlen
  clear hT
  have E0 := Lib.hid (Env.start w)
  have LP := Lib.hid lp
  clear lp
  rcases hf : epAt id l with _ | e
  · simp only [hf] at CS ⊢
    clear hf hlen
    go_enter Try.func11, Try.ntmps11
    go_wp2_with (first
      | ((with_reducible refine wpE_box (o := ⟨some 5, _, _, _, _, _⟩) rfl 32 (.tmp 2) rfl (keyC pt) (by with_unfolding_all rfl) E0.out ?_); intro g1 w1 T1; have E1 := Lib.hid T1; clear T1)
      | ((with_reducible refine wpE_alloc (o := ⟨some 6, _, _, _, _, _⟩) rfl 32 rfl (keyC zeroKey) Try.zeroK E1.out ?_); intro g2 w2 T2; have E2 := Lib.hid T2; clear T2))
    refine (CS.out _ E2.out.below).mono ?_
    rintro e wc ⟨rfl, bc⟩
    have Ec := Lib.hid (E2.out.call bc)
    clear bc E2
    go_wp2_with (first
      | ((with_reducible refine wpE_alloc (o := ⟨some 8, _, _, _, _, _⟩) rfl 32 rfl (keyC zeroKey) Try.zeroK Ec.out ?_); intro gk wk Tk; have Ek := Lib.hid Tk; clear Tk)
      | ((with_reducible refine wpE_store (o := ⟨none, _, _, _, _, _⟩) rfl 32 (.tmp 8) (.tmp 14) rfl 0 gk 32 (keyC zeroKey) (keyC zeroKey) (by with_unfolding_all rfl) (by with_unfolding_all rfl) (by with_unfolding_all rfl) (keyC_same zeroKey_length zeroKey_length) (Try.sizeKey _ zeroKey_length) (keyC_one _) Ek.out ?_); intro wl Tl; simp only [List.set_cons_zero] at Tl; have El := Lib.hid Tl; clear Tl)
      | (with_reducible refine wpList_build0 (o := ⟨some 18, _, _, _, _, _⟩) rfl 32 rfl (keyC zeroKey) Try.builtK0 ?_)
      | ((with_reducible refine wpE_store (o := ⟨none, _, _, _, _, _⟩) rfl 32 (.tmp 6) (.tmp 18) rfl 1 g2 32 (keyC zeroKey) (keyC zeroKey) (by with_unfolding_all rfl) (by with_unfolding_all rfl) (by with_unfolding_all rfl) (keyC_same zeroKey_length zeroKey_length) (Try.sizeKey _ zeroKey_length) (keyC_one _) El.out ?_); intro wm Tm; simp only [List.set_cons_zero, List.set_cons_succ] at Tm; have Em := Lib.hid Tm; clear Tm))
    refine bodyPost_ret (ret_row_tmp rfl _ g2 32 (keyC zeroKey) _ rfl (Em.out.row 1 rfl) Try.underlying32 rfl (Try.sizeKey _ zeroKey_length)) rfl ⟨?_, Em.out.below⟩
    rfl
  · simp only [hf] at CS hlen ⊢
    obtain ⟨key, hkey⟩ : ∃ p, p = e.key := ⟨_, rfl⟩
    simp only [← hkey] at CS hlen ⊢
    have LK := Lib.hid hlen
    clear hkey hf hlen
    obtain ⟨q, hq⟩ : ∃ q, q = multK key pt := ⟨_, rfl⟩
    have LQ : Hid (q.length = 32) := by show _ = _; rw [hq]; exact multK_length _ _
    obtain ⟨c, hc⟩ : ∃ c, c = multE key pt := ⟨_, rfl⟩
    have CM := Lib.hid (fun w' => Mult_any key pt LK.out LP.out w')
    rw [← hq, ← hc] at CM ⊢
    clear hq hc
    go_enter Try.func11, Try.ntmps11
    go_wp2_with (first
      | ((with_reducible refine wpE_box (o := ⟨some 5, _, _, _, _, _⟩) rfl 32 (.tmp 2) rfl (keyC pt) (by with_unfolding_all rfl) E0.out ?_); intro g1 w1 T1; have E1 := Lib.hid T1; clear T1)
      | ((with_reducible refine wpE_alloc (o := ⟨some 6, _, _, _, _, _⟩) rfl 32 rfl (keyC zeroKey) Try.zeroK E1.out ?_); intro g2 w2 T2; have E2 := Lib.hid T2; clear T2))
    refine (CS.out _ E2.out.below).mono ?_
    rintro e wc ⟨rfl, bc⟩
    have Ec := Lib.hid (E2.out.call bc)
    clear bc E2
    go_wp2_with (first
      | ((with_reducible refine wpE_alloc (o := ⟨some 8, _, _, _, _, _⟩) rfl 32 rfl (keyC zeroKey) Try.zeroK Ec.out ?_); intro gk wk Tk; have Ek := Lib.hid Tk; clear Tk)
      | ((with_reducible refine wpE_store (o := ⟨none, _, _, _, _, _⟩) rfl 32 (.tmp 8) (.tmp 14) rfl 0 gk 32 (keyC zeroKey) (keyC key) (by with_unfolding_all rfl) (by with_unfolding_all rfl) (by with_unfolding_all rfl) (keyC_same zeroKey_length LK.out) (Try.sizeKey _ LK.out) (keyC_one _) Ek.out ?_); intro wl Tl; simp only [List.set_cons_zero] at Tl; have El := Lib.hid Tl; clear Tl)
      | (with_reducible refine wpE_load (o := ⟨some 20, _, _, _, _, _⟩) rfl 32 (.tmp 8) rfl 0 gk 32 (keyC key) _ (by with_unfolding_all rfl) (by with_unfolding_all rfl) Try.underlying32 rfl (Try.sizeKey _ LK.out) El.out ?_)
      | (with_reducible refine wpE_load (o := ⟨some 21, _, _, _, _, _⟩) rfl 32 (.tmp 5) rfl 2 g1 32 (keyC pt) _ (by with_unfolding_all rfl) (by with_unfolding_all rfl) Try.underlying32 rfl (Try.sizeKey _ LP.out) El.out ?_))
    refine (CM.out _).mono ?_
    rintro e wd ⟨rfl, bd⟩
    have Ed := Lib.hid (El.out.call bd)
    clear bd El
    go_wp2_with (first
      | ((with_reducible refine wpE_store (o := ⟨none, _, _, _, _, _⟩) rfl 32 (.tmp 6) (.tmp 23) rfl 1 g2 32 (keyC zeroKey) (keyC q) (by with_unfolding_all rfl) (by with_unfolding_all rfl) (by with_unfolding_all rfl) (keyC_same zeroKey_length LQ.out) (Try.sizeKey _ LQ.out) (keyC_one _) Ed.out ?_); intro wm Tm; simp only [List.set_cons_zero, List.set_cons_succ] at Tm; have Em := Lib.hid Tm; clear Tm))
    refine bodyPost_ret (ret_row_tmp rfl _ g2 32 (keyC q) _ rfl (Em.out.row 1 rfl) Try.underlying32 rfl (Try.sizeKey _ LQ.out)) rfl ⟨?_, Em.out.below⟩
    rfl
end Go.Proofs.Ythipdfmaaeoijaa
end
section
namespace Go.Proofs.Ythipdfmaaeoijaa
open Go.RowKit
set_option linter.unusedVariables false
set_option maxRecDepth 20000

section
variable {α : Type}
theorem mid_get (xs : List α) (y : α) (ys : List α) : (xs ++ y :: ys)[xs.length]? = some y := by simp
theorem mid_set (xs : List α) (y z : α) (ys : List α) : (xs ++ y :: ys).set xs.length z = xs ++ z :: ys := by simp
end
theorem wpM_makeMap {P : Program} {w0 w : World} {ms : List (Nat × IntKind × List (Nat × Value))} {rs : List (Nat × TypeId × Array Value)} {ops : Array Oper} {rest : List Oper} {o : Oper} {a : Act} {Q : Exit → Act → World → Prop} (hgd : o.guard = none) (t : TypeId) (ho : o.op = .makeMap t none) (kd : IntKind) (hE : EnvM w0 ms rs w)
    (h : ∀ g w', EnvM w0 ((g, kd, []) :: ms) rs w' → wpList P ops Q rest (a.put o.dst (.map (some g))) w') : wpList P ops Q (o :: rest) a w := by
  refine wpList_plain hgd fun _ hK => ?_
  unfold Oper.wp execOp
  simp [ho, run_makeMap]
  exact hK _ _ (h _ _ (hE.newM kd))

def tabM (mb : Option Nat) (l : List Ep) : List (Nat × IntKind × List (Nat × Value)) := match mb with
  | none => []
  | some g => [(g, .u32, epsM l)]
/-- The table's two cells lie at k in the row cs of block b, which stands behind the rows rs. -/
structure TabS (w0 : World) (ms : List (Nat × IntKind × List (Nat × Value))) (rs : List (Nat × TypeId × Array Value)) (b : Nat) (t : TypeId) (cs : Array Value) (k : Nat) (mb : Option Nat) (l : List Ep) (last : Nat) (w : World) : Prop where
  env : EnvM w0 (tabM mb l ++ ms) (rs ++ (b, t, cs) :: epsR l) w
  cM : cs[k]? = some (.map mb)
  cL : cs[k + 1]? = some (.int .u32 (last : Int))
  empty : mb = none → l = []
  len : ∀ e ∈ l, e.key.length = 32
section
variable {w0 w w' : World} {ms : List (Nat × IntKind × List (Nat × Value))} {rs rs' : List (Nat × TypeId × Array Value)} {b k last : Nat} {t : TypeId} {cs : Array Value} {mb : Option Nat} {l : List Ep}
theorem TabS.tabW (h : TabS w0 ms rs b t cs k mb l last w) : TabW w b k mb l last := by
  refine ⟨h.env.cellAt rs.length (mid_get _ _ _) k h.cM, h.env.cellAt rs.length (mid_get _ _ _) (k + 1) h.cL, ?_, fun e he => ⟨h.env.rowOf ?_, h.len e he⟩⟩
  · cases mb with
    | none =>
      have : l = [] := h.empty rfl
      subst this
      exact (rfl : epsM [] = [])
    | some g => exact h.env.mapIn 0 rfl
  · exact List.mem_append_right _ (List.mem_cons_of_mem _ (List.mem_map.2 ⟨e, he, rfl⟩))
theorem TabS.call (h : TabS w0 ms rs b t cs k mb l last w) (hb : Below w.heap.size w w') : TabS w0 ms rs b t cs k mb l last w' := ⟨h.env.call hb, h.cM, h.cL, h.empty, h.len⟩
theorem TabS.drew (h : TabS w0 ms rs b t cs k mb l last w) : TabS w0 ms rs b t cs k mb l last w.drew := ⟨h.env.drew, h.cM, h.cL, h.empty, h.len⟩
theorem TabS.below (h : TabS w0 ms rs b t cs k mb l last w) : Below w0.heap.size w0 w := h.env.env.below
theorem TabS.new {g : Nat} {t' : TypeId} {cs' : Array Value} (h : TabS w0 ms rs b t cs k mb l last w) (n : NewRow w g t' cs' w') : TabS w0 ms ((g, t', cs') :: rs) b t cs k mb l last w' := ⟨h.env.new n, h.cM, h.cL, h.empty, h.len⟩
theorem TabS.put {g i : Nat} {t' : TypeId} {cs' old : Array Value} (h : TabS w0 ms rs b t cs k mb l last w) (hi : rs[i]? = some (g, t', old)) (p : PutRow w g t' cs' w') : TabS w0 ms (rs.set i (g, t', cs')) b t cs k mb l last w' := by
  have hil := (List.getElem?_eq_some_iff.1 hi).1
  have := h.env.put i (by rw [List.getElem?_append_left hil, hi]) p
  rw [List.set_append_left _ _ hil] at this
  exact ⟨this, h.cM, h.cL, h.empty, h.len⟩
theorem TabS.less (h : TabS w0 ms rs b t cs k mb l last w) (hs : rs'.Sublist rs) : TabS w0 ms rs' b t cs k mb l last w := ⟨h.env.less (hs.append (List.Sublist.refl _)), h.cM, h.cL, h.empty, h.len⟩
theorem TabS.row {g i : Nat} {t' : TypeId} {cs' : Array Value} (h : TabS w0 ms rs b t cs k mb l last w) (hi : rs[i]? = some (g, t', cs')) : RowAt w g t' cs' :=
  h.env.row i (by rw [List.getElem?_append_left (List.getElem?_eq_some_iff.1 hi).1, hi])
/-- A table that is new. -/
theorem TabS.made (h : EnvM w0 ms (rs ++ [(b, t, cs)]) w) (cM : cs[k]? = some (.map none)) (cL : cs[k + 1]? = some (.int .u32 ((0 : Nat) : Int))) : TabS w0 ms rs b t cs k none [] 0 w := ⟨h, cM, cL, fun _ => rfl, by simp⟩
end
section
variable {P : Program} {w0 w : World} {ms : List (Nat × IntKind × List (Nat × Value))} {rs : List (Nat × TypeId × Array Value)} {b k last : Nat} {t : TypeId} {cs : Array Value} {mb : Option Nat} {l : List Ep} {ops : Array Oper} {rest : List Oper} {o : Oper} {a : Act} {Q : Exit → Act → World → Prop}
theorem wpT_alloc (hgd : o.guard = none) (ty : TypeId) (ho : o.op = .alloc ty) (z : Array Value) (hz : (P.info? ty).map (·.zero) = some (some (.agg z))) (hE : TabS w0 ms rs b t cs k mb l last w)
    (h : ∀ g w', TabS w0 ms ((g, ty, z) :: rs) b t cs k mb l last w' → wpList P ops Q rest (a.put o.dst (.pointer (some ⟨g, 0, none⟩))) w') : wpList P ops Q (o :: rest) a w :=
  wpList_alloc_row hgd ty ho z hz fun g w' n => h g w' (hE.new n)
theorem wpT_box (hgd : o.guard = none) (ty : TypeId) (x : Operand) (ho : o.op = .box ty x) (c : Array Value) (hx : a.eval x = .agg c) (hE : TabS w0 ms rs b t cs k mb l last w)
    (h : ∀ g w', TabS w0 ms ((g, ty, c) :: rs) b t cs k mb l last w' → wpList P ops Q rest (a.put o.dst (.pointer (some ⟨g, 0, none⟩))) w') : wpList P ops Q (o :: rest) a w :=
  wpList_box_row hgd ty x ho c hx fun g w' n => h g w' (hE.new n)
theorem wpT_store (hgd : o.guard = none) (ty : TypeId) (x y : Operand) (ho : o.op = .store ty x y) (i g : Nat) (t' : TypeId) (old c : Array Value) (hi : rs[i]? = some (g, t', old)) (hx : a.eval x = .pointer (some ⟨g, 0, none⟩)) (hy : a.eval y = .agg c)
    (hso : old.size = c.size) (hs : (P.info? ty).map (·.size) = some c.size) (h1 : ∀ u ∈ c.toList, u.oneCell' = true) (hE : TabS w0 ms rs b t cs k mb l last w)
    (h : ∀ w', TabS w0 ms (rs.set i (g, t', c)) b t cs k mb l last w' → wpList P ops Q rest (a.put o.dst undef) w') : wpList P ops Q (o :: rest) a w :=
  wpList_store_row hgd ty x y ho g t' old c hx hy (hE.row hi) hso hs h1 fun w' p => h w' (hE.put hi p)
theorem wpT_load (hgd : o.guard = none) (ty : TypeId) (x : Operand) (ho : o.op = .load ty x) (i g : Nat) (t' : TypeId) (c : Array Value) (d : TypeDesc) (hi : rs[i]? = some (g, t', c)) (hx : a.eval x = .pointer (some ⟨g, 0, none⟩))
    (hu : P.underlying ty = some d) (hd : (match d with | .struct _ | .array _ _ => true | _ => false) = true) (hs : (P.info? ty).map (·.size) = some c.size) (hE : TabS w0 ms rs b t cs k mb l last w)
    (h : wpList P ops Q rest (a.put o.dst (.agg c)) w) : wpList P ops Q (o :: rest) a w :=
  wpList_load_row hgd ty x ho g hx t' c (0, 0) d (hE.row hi) hu hd hs h
end
end Go.Proofs.Ythipdfmaaeoijaa
end
section
namespace Go.Proofs.Ythipdfmaaeoijaa
open Go.RowKit
set_option linter.unusedVariables false
set_option maxRecDepth 20000

theorem epsM_one (l : List Ep) (e : Ep) : epsM (l ++ [e]) = epsM l ++ [(e.id, .pointer (some ⟨e.blk, 0, none⟩))] := by simp [epsM]
theorem epsR_one (l : List Ep) (e : Ep) : epsR (l ++ [e]) = epsR l ++ [(e.blk, 32, keyC e.key)] := by simp [epsR]
/-- The two cells behind Born. -/
def bornC (cs : Array Value) (k g id : Nat) : Array Value := (cs.setIfInBounds k (.map (some g))).setIfInBounds (k + 1) (.int .u32 (id : Int))
theorem set_self {cs : Array Value} {k : Nat} {v : Value} (h : cs[k]? = some v) : cs.setIfInBounds k v = cs := by
  apply Array.ext_getElem?
  intro j
  rw [Array.getElem?_setIfInBounds]
  split
  · rename_i e
    subst e
    split
    · exact h.symm
    · rename_i hlt
      rw [Array.getElem?_eq_none (by omega)]
  · rfl
section
variable {w0 w : World} {ms : List (Nat × IntKind × List (Nat × Value))} {rs : List (Nat × TypeId × Array Value)} {b k last : Nat} {t : TypeId} {cs : Array Value} {mb : Option Nat} {l : List Ep}
set_option maxHeartbeats 2000000 in
theorem born_full (hT : TabS w0 ms rs b t cs k mb l last w) (id : Nat) (key : List UInt8) (lk : key.length = 32) (hl : l.length = 6) :
    Calls Try.prog 7 #[.pointer (some ⟨b, k, none⟩), .int .u32 (id : Int), .agg (keyC key)] w fun e w' => e = .returned (.int .i64 63) ∧ TabS w0 ms rs b t cs k mb l last w' := by
  obtain ⟨N, hN⟩ : ∃ N, N = l.length := ⟨_, rfl⟩
  have HN : Hid ((epsM l).length = N) := by show _ = _; rw [epsM_length, hN]
  have h6 : N = 6 := by omega
  have h6b : ((N : Int) == 6) = true := by rw [beq_iff_eq]; omega
  clear hl h6
  have HT := Lib.hid hT
  have LK := Lib.hid lk
  clear hT lk hN
  go_enter Try.func7, Try.ntmps7
  go_wp2_with (first
    | ((with_reducible refine wpT_box (o := ⟨some 5, _, _, _, _, _⟩) rfl 32 (.tmp 2) rfl (keyC key) (by with_unfolding_all rfl) HT.out ?_); intro p w1 T1; have E1 := Lib.hid T1; have c0 := T1.tabW.cellM; have c1 := T1.tabW.cellL; clear T1)
    | (with_reducible refine wpListG_val (o := ⟨some 15, _, _, _, _, _⟩) (by with_unfolding_all rfl) (.int .i64 (N : Int)) (HN.out ▸ run_lenV (P := Try.prog) (mt := 26) (.tmp 14) rfl mb (epsM l) (by with_unfolding_all rfl) E1.out.tabW.map Try.underlying26) ?_))
  go_ret
  exact ⟨rfl, E1.out.less (List.sublist_cons_self _ _)⟩
set_option maxHeartbeats 2000000 in
theorem born_arg (hT : TabS w0 ms rs b t cs k mb l last w) (id : Nat) (key : List UInt8) (lk : key.length = 32) (hl : l.length ≠ 6) (h0 : l ≠ []) (hid : ¬ (id : Int) = ((last : Int) + 1) % 4294967296) :
    Calls Try.prog 7 #[.pointer (some ⟨b, k, none⟩), .int .u32 (id : Int), .agg (keyC key)] w fun e w' => e = .returned (.int .i64 1) ∧ TabS w0 ms rs b t cs k mb l last w' := by
  obtain ⟨N, hN⟩ : ∃ N, N = l.length := ⟨_, rfl⟩
  have HN : Hid ((epsM l).length = N) := by show _ = _; rw [epsM_length, hN]
  have h6 : ¬ N = 6 := by omega
  have h6b : ((N : Int) == 6) = false := by rw [beq_eq_false_iff_ne]; omega
  have hpos : 0 < N := by rw [hN]; exact List.length_pos_iff.2 h0
  have hid2 : ((id : Int) != ((last : Int) + 1) % 4294967296) = true := by rw [bne_iff_ne]; exact hid
  clear hl h0
  have HT := Lib.hid hT
  have LK := Lib.hid lk
  clear hT lk hN
  go_enter Try.func7, Try.ntmps7
  go_wp2_with (first
    | ((with_reducible refine wpT_box (o := ⟨some 5, _, _, _, _, _⟩) rfl 32 (.tmp 2) rfl (keyC key) (by with_unfolding_all rfl) HT.out ?_); intro p w1 T1; have E1 := Lib.hid T1; have c0 := T1.tabW.cellM; have c1 := T1.tabW.cellL; clear T1)
    | (with_reducible refine wpListG_val (o := ⟨some 15, _, _, _, _, _⟩) (by with_unfolding_all rfl) (.int .i64 (N : Int)) (HN.out ▸ run_lenV (P := Try.prog) (mt := 26) (.tmp 14) rfl mb (epsM l) (by with_unfolding_all rfl) E1.out.tabW.map Try.underlying26) ?_)
    | (with_reducible refine wpList_val (o := ⟨some 23, _, _, _, _, _⟩) rfl (.int .i64 (N : Int)) (HN.out ▸ run_lenV (P := Try.prog) (mt := 26) (.tmp 22) rfl mb (epsM l) (by with_unfolding_all rfl) E1.out.tabW.map Try.underlying26) ?_))
  go_ret
  exact ⟨rfl, E1.out.less (List.sublist_cons_self _ _)⟩
set_option maxHeartbeats 2000000 in
theorem born_next_ (hT : TabS w0 ms rs b t cs k mb l last w) (id : Nat) (key : List UInt8) (lk : key.length = 32) (g : Nat) (hmb : mb = some g) (hl : l.length ≠ 6) (h0 : l ≠ []) (hid : ((last : Int) + 1) % 4294967296 = (id : Int)) (hne : ∀ e ∈ l, e.id ≠ id) :
    Calls Try.prog 7 #[.pointer (some ⟨b, k, none⟩), .int .u32 (id : Int), .agg (keyC key)] w fun e w' => e = .returned (.int .i64 0) ∧ ∃ g p, TabS w0 ms rs b t (bornC cs k g id) k (some g) (l ++ [⟨id, p, key⟩]) id w' := by
  obtain ⟨N, hN⟩ : ∃ N, N = l.length := ⟨_, rfl⟩
  have HN : Hid ((epsM l).length = N) := by show _ = _; rw [epsM_length, hN]
  have h6 : ¬ N = 6 := by omega
  have h6b : ((N : Int) == 6) = false := by rw [beq_eq_false_iff_ne]; omega
  have hpos : 0 < N := by rw [hN]; exact List.length_pos_iff.2 h0
  have HF : Hid (findV id (epsM l) = none) := by show _ = _; rw [find_eps, epAt_none hne]; rfl
  subst hmb
  have hq : ∀ w : World, (binOp .eql 26 (.map (some g)) (.map none)).run Try.prog w = .ok (.bool false) w := fun w => run_eqlV w _ _ _ (some g) Try.underlying26
  clear hl h0 hne
  have HT := Lib.hid hT
  have LK := Lib.hid lk
  clear hT lk hN
  go_enter Try.func7, Try.ntmps7
  go_wp2_with (first
    | ((with_reducible refine wpT_box (o := ⟨some 5, _, _, _, _, _⟩) rfl 32 (.tmp 2) rfl (keyC key) (by with_unfolding_all rfl) HT.out ?_); intro p w1 T1; have E1 := Lib.hid T1; have c0 := T1.tabW.cellM; have c1 := T1.tabW.cellL; have f1 := T1.env.fzAt (rs.length + 1) (mid_get (_ :: rs) _ _) (k + 1); obtain ⟨ob, ho, hmo⟩ := T1.env.mapAt 0 rfl; have HO := Lib.hid ho; have HMO := Lib.hid hmo; have EE := Lib.hid T1.env; clear T1 ho hmo)
    | (with_reducible refine wpListG_val (o := ⟨some 15, _, _, _, _, _⟩) (by with_unfolding_all rfl) (.int .i64 (N : Int)) (HN.out ▸ run_lenV (P := Try.prog) (mt := 26) (.tmp 14) rfl (some g) (epsM l) (by with_unfolding_all rfl) E1.out.tabW.map Try.underlying26) ?_)
    | (with_reducible refine wpList_val (o := ⟨some 23, _, _, _, _, _⟩) rfl (.int .i64 (N : Int)) (HN.out ▸ run_lenV (P := Try.prog) (mt := 26) (.tmp 22) rfl (some g) (epsM l) (by with_unfolding_all rfl) E1.out.tabW.map Try.underlying26) ?_)
    | ((with_reducible refine wpList_newV (o := ⟨none, _, _, _, _, _⟩) rfl (.tmp 46) (.tmp 47) (.tmp 5) rfl g id (.pointer (some ⟨p, 0, none⟩)) (epsM l) ob (by with_unfolding_all rfl) (by with_unfolding_all rfl) (by with_unfolding_all rfl) HO.out HMO.out HF.out Try.underlying26 Try.underlying22 ?_); intro w2 ob2 q1 q2 q3; have T2 := EE.out.turnM q3 q1 q2; have f2 := T2.fzAt (rs.length + 1) (mid_get (_ :: rs) _ _) (k + 1); have c2 := T2.cellAt (rs.length + 1) (mid_get (_ :: rs) _ _) (k + 1) E1.out.cL; have E2 := Lib.hid T2; clear T2 q1 q2 q3))
  go_ret
  refine ⟨rfl, g, p, ?_⟩
  have T3 := E2.out.cell (rs.length + 1) (mid_get (_ :: rs) _ _) (k + 1) (.int .u32 (id : Int))
  rw [show rs.length + 1 = ((p, 32, keyC key) :: rs).length from rfl, mid_set] at T3
  have hcs : bornC cs k g id = cs.setIfInBounds (k + 1) (.int .u32 (id : Int)) := by unfold bornC; rw [set_self E1.out.cM]
  have hlt : k + 1 < cs.size := (Array.getElem?_eq_some_iff.1 E1.out.cL).1
  refine ⟨?_, ?_, ?_, fun e => (by cases e), fun e he => ?_⟩
  · rw [hcs]
    show EnvM w0 ((g, .u32, epsM (l ++ [_])) :: ms) _ _
    rw [epsM_one, epsR_one]
    refine T3.perm ?_
    rw [← List.cons_append, ← List.append_assoc]
    exact List.perm_append_singleton _ _
  · rw [hcs, Array.getElem?_setIfInBounds_ne (by omega)]; exact E1.out.cM
  · rw [hcs, Array.getElem?_setIfInBounds_self_of_lt hlt]
  · rcases List.mem_append.1 he with he | he
    · exact E1.out.len e he
    · have : e = ⟨id, p, key⟩ := by simpa using he
      rw [this]
      exact LK.out
set_option maxHeartbeats 2000000 in
theorem born_first (hT : TabS w0 ms rs b t cs k mb l last w) (id : Nat) (key : List UInt8) (lk : key.length = 32) (hmb : mb = none) :
    Calls Try.prog 7 #[.pointer (some ⟨b, k, none⟩), .int .u32 (id : Int), .agg (keyC key)] w fun e w' => e = .returned (.int .i64 0) ∧ ∃ g p, TabS w0 ms rs b t (bornC cs k g id) k (some g) (l ++ [⟨id, p, key⟩]) id w' := by
  obtain ⟨N, hN⟩ : ∃ N, N = l.length := ⟨_, rfl⟩
  have HN : Hid ((epsM l).length = N) := by show _ = _; rw [epsM_length, hN]
  have hl0 : l = [] := hT.empty hmb
  subst hl0 hmb
  have h0 : N = 0 := hN
  have hq : ∀ w : World, (binOp .eql 26 (.map none) (.map none)).run Try.prog w = .ok (.bool true) w := fun w => run_eqlV w _ _ _ none Try.underlying26
  have h6b : ((N : Int) == 6) = false := by rw [beq_eq_false_iff_ne]; omega
  have h0b : ¬ 0 < N := by omega
  have h0c : decide (0 < N) = false := by simp [h0]
  clear h0
  have HF : Hid (findV id [] = none) := rfl
  have HT := Lib.hid hT
  have LK := Lib.hid lk
  clear hT lk hN
  go_enter Try.func7, Try.ntmps7
  go_wp2_with (first
    | ((with_reducible refine wpT_box (o := ⟨some 5, _, _, _, _, _⟩) rfl 32 (.tmp 2) rfl (keyC key) (by with_unfolding_all rfl) HT.out ?_); intro p w1 T1; have E1 := Lib.hid T1; have c0 := T1.tabW.cellM; have c1 := T1.tabW.cellL; have f1 := T1.env.fzAt (rs.length + 1) (mid_get (_ :: rs) _ _) k; have EE := Lib.hid T1.env; clear T1)
    | (with_reducible refine wpListG_val (o := ⟨some 15, _, _, _, _, _⟩) (by with_unfolding_all rfl) (.int .i64 (N : Int)) (HN.out ▸ run_lenV (P := Try.prog) (mt := 26) (.tmp 14) rfl none (epsM []) (by with_unfolding_all rfl) E1.out.tabW.map Try.underlying26) ?_)
    | (with_reducible refine wpList_val (o := ⟨some 23, _, _, _, _, _⟩) rfl (.int .i64 (N : Int)) (HN.out ▸ run_lenV (P := Try.prog) (mt := 26) (.tmp 22) rfl none (epsM []) (by with_unfolding_all rfl) E1.out.tabW.map Try.underlying26) ?_)
    | ((with_reducible refine wpM_makeMap (o := ⟨some 40, _, _, _, _, _⟩) rfl 26 rfl .u32 EE.out ?_); intro g w2 T2; have c2 := T2.cellAt (rs.length + 1) (mid_get (_ :: rs) _ _) k E1.out.cM; have f2 := T2.fzAt (rs.length + 1) (mid_get (_ :: rs) _ _) k; have T3 := T2.cell (rs.length + 1) (mid_get (_ :: rs) _ _) k (.map (some g)); rw [show rs.length + 1 = ((p, 32, keyC key) :: rs).length from rfl, mid_set] at T3; have hk0 := (Array.getElem?_eq_some_iff.1 E1.out.cM).1; have c3 := T3.cellAt (rs.length + 1) (mid_get (_ :: rs) _ _) k (Array.getElem?_setIfInBounds_self_of_lt hk0); obtain ⟨ob, ho, hmo⟩ := T3.mapAt 0 rfl; have HO := Lib.hid ho; have HMO := Lib.hid hmo; have E3 := Lib.hid T3; clear T2 T3 ho hmo hk0)
    | ((with_reducible refine wpList_newV (o := ⟨none, _, _, _, _, _⟩) rfl (.tmp 46) (.tmp 47) (.tmp 5) rfl g id (.pointer (some ⟨p, 0, none⟩)) [] ob (by with_unfolding_all rfl) (by with_unfolding_all rfl) (by with_unfolding_all rfl) HO.out HMO.out HF.out Try.underlying26 Try.underlying22 ?_); intro w4 ob2 q1 q2 q3; have T4 := E3.out.turnM q3 q1 q2; have f4 := T4.fzAt (rs.length + 1) (mid_get (_ :: rs) _ _) (k + 1); have c4 := T4.cellAt (rs.length + 1) (mid_get (_ :: rs) _ _) (k + 1) ((Array.getElem?_setIfInBounds_ne (by omega)).trans E1.out.cL); have E4 := Lib.hid T4; clear T4 q1 q2 q3))
  go_ret
  refine ⟨rfl, g, p, ?_⟩
  have T5 := E4.out.cell (rs.length + 1) (mid_get (_ :: rs) _ _) (k + 1) (.int .u32 (id : Int))
  rw [show rs.length + 1 = ((p, 32, keyC key) :: rs).length from rfl, mid_set] at T5
  have hlt0 : k < cs.size := (Array.getElem?_eq_some_iff.1 E1.out.cM).1
  have hlt : k + 1 < cs.size := (Array.getElem?_eq_some_iff.1 E1.out.cL).1
  refine ⟨?_, ?_, ?_, fun e => (by cases e), fun e he => ?_⟩
  · show EnvM w0 ((g, .u32, epsM [_]) :: ms) _ _
    refine T5.perm ?_
    rw [show (rs ++ (b, t, bornC cs k g id) :: epsR [⟨id, p, key⟩]) = (rs ++ [(b, t, bornC cs k g id)]) ++ [(p, 32, keyC key)] by simp [epsR]]
    exact List.perm_append_singleton _ _
  · unfold bornC; rw [Array.getElem?_setIfInBounds_ne (by omega), Array.getElem?_setIfInBounds_self_of_lt hlt0]
  · unfold bornC; rw [Array.getElem?_setIfInBounds_self_of_lt (by simpa using hlt)]
  · have : e = ⟨id, p, key⟩ := by simpa using he
    rw [this]
    exact LK.out
end
end Go.Proofs.Ythipdfmaaeoijaa
end
section
namespace Go.Proofs.Ythipdfmaaeoijaa
open Go.RowKit
set_option linter.unusedVariables false
set_option maxRecDepth 20000

def keyN (e : MapEntry) : Nat := match e.key with | .int _ x => x.toNat | _ => 0
def clockOf : Obj → Nat
  | .map _ c => c
  | _ => 0
/-- How many an iterator has handed out. -/
def doneAt (w : World) (r : Nat) : Nat := match w.heap[r]? with | some (.mapIter _ _ seen _) => seen.size | _ => 0
/-- Block r ranges over the map at g; xs: the keys that it has handed out. -/
def RangeAt (kd : IntKind) (w : World) (r g : Nat) (m : List (Nat × Value)) (xs : List Nat) : Prop :=
  ∃ (es : Array MapEntry) (c : Nat) (seen : Array Nat), w.heap[g]? = some (.map es c) ∧ es.toList.map (fun e => (e.key, e.val)) = m.map (entV kd) ∧ (es.toList.map (·.born)).Nodup ∧ (∀ e ∈ es.toList, e.born < c) ∧
    w.heap[r]? = some (.mapIter (some g) c seen c) ∧ seen.size = xs.length ∧ xs.Perm ((es.toList.filter fun e => seen.contains e.born).map keyN)
section
variable {P : Program} {kd : IntKind} {w w' : World} {r g : Nat} {m : List (Nat × Value)} {xs : List Nat}
theorem RangeAt.done (h : RangeAt kd w r g m xs) : doneAt w r = xs.length := by
  obtain ⟨es, c, seen, _, _, _, _, hr, hs, _⟩ := h
  unfold doneAt
  rw [hr]
  exact hs
theorem RangeAt.walks (h : RangeAt kd w r g m xs) (hk : KeepsWalks w w') : RangeAt kd w' r g m xs := by
  obtain ⟨es, c, seen, hg, h2, h3, h4, hr, h6⟩ := h
  exact ⟨es, c, seen, hk.same _ _ hg rfl, h2, h3, h4, hk.same _ _ hr rfl, h6⟩
theorem RangeAt.iter (h : RangeAt kd w r g m xs) : ∃ o : Obj, w.heap[r]? = some o ∧ o.isWalk = true := by
  obtain ⟨es, c, seen, _, _, _, _, hr, _⟩ := h
  exact ⟨_, hr, rfl⟩
theorem RangeAt.start {t kt et : TypeId} {o : Obj} (hg : w.heap[g]? = some o) (hM : MapO kd m o) (ht : P.underlying t = some (.map kt et)) :
    (Instr.range t (.map (some g))).run P w = .ok (.pointer (some ⟨w.heap.size, 0, none⟩)) (w.alloc (.mapIter (some g) (clockOf o) #[] (clockOf o))) ∧ RangeAt kd (w.alloc (.mapIter (some g) (clockOf o) #[] (clockOf o))) w.heap.size g m [] := by
  obtain ⟨es, c, rfl, h2, h3, h4⟩ := hM
  refine ⟨run_range_map w t kt et g es c ht hg, es, c, #[], ?_, h2, h3, h4, heap_alloc_new w _, rfl, ?_⟩
  · rw [heap_alloc_old w _ (Array.getElem?_eq_some_iff.1 hg).1]
    exact hg
  · have : (es.toList.filter fun e => (#[] : Array Nat).contains e.born) = [] := List.filter_eq_nil_iff.2 fun e _ => by simp
    rw [this]
    exact List.Perm.refl _
theorem filter_push (s : Array Nat) (e : MapEntry) (hs : s.contains e.born = false) : ∀ l : List MapEntry, (l.map (·.born)).Nodup → e ∈ l →
    (l.filter fun x => (s.push e.born).contains x.born).Perm (e :: l.filter fun x => s.contains x.born)
  | x :: l, hn, he => by
    obtain ⟨hx, hn'⟩ := List.nodup_cons.1 hn
    have hpush : ∀ y : MapEntry, (s.push e.born).contains y.born = (s.contains y.born || y.born == e.born) := fun y => by
      rw [Array.contains_push]
    by_cases hb : x.born = e.born
    · have hxe : x = e := by
        rcases List.mem_cons.1 he with rfl | he
        · rfl
        · exact absurd (List.mem_map.2 ⟨e, he, hb.symm⟩) hx
      subst hxe
      have hrest : (l.filter fun y => (s.push x.born).contains y.born) = l.filter fun y => s.contains y.born := List.filter_congr fun y hy => by
        have : (y.born == x.born) = false := by
          rw [beq_eq_false_iff_ne]
          intro e1
          exact hx (List.mem_map.2 ⟨y, hy, e1⟩)
        rw [hpush, this, Bool.or_false]
      rw [List.filter_cons_of_pos (by rw [hpush]; simp), hrest, List.filter_cons_of_neg (by rw [hs]; simp)]
    · have he' : e ∈ l := by
        rcases List.mem_cons.1 he with rfl | he
        · exact absurd rfl hb
        · exact he
      have ih := filter_push s e hs l hn' he'
      have hbb : (x.born == e.born) = false := by rw [beq_eq_false_iff_ne]; exact hb
      by_cases hc : s.contains x.born = true
      · rw [List.filter_cons_of_pos (by rw [hpush, hc]; rfl), List.filter_cons_of_pos (p := fun y : MapEntry => s.contains y.born) hc]
        exact (ih.cons x).trans (List.Perm.swap e x _)
      · rw [List.filter_cons_of_neg (by rw [hpush, hbb, Bool.or_false]; exact hc), List.filter_cons_of_neg (p := fun y : MapEntry => s.contains y.born) hc]
        exact ih
theorem RangeAt.next (h : RangeAt kd w r g m xs) (hrg : r ≠ g) :
    (xs.Perm (m.map (·.1)) ∧ ∀ ty, (Instr.next (.pointer (some ⟨r, 0, none⟩)) false ty).run P w = .ok (.tuple #[.bool false]) w) ∨
    ∃ (x : Nat) (v : Value) (w' : World), (∀ ty, (Instr.next (.pointer (some ⟨r, 0, none⟩)) false ty).run P w = .ok (.tuple #[.bool true, .int kd (x : Int), v]) w') ∧ (Instr.entry (.pointer (some ⟨r, 0, none⟩))).run P w' = .ok (.tuple #[.int kd (x : Int), v]) w' ∧
      RangeAt kd w' r g m (xs ++ [x]) ∧ w.grownBy w' (some r) ∧ xs.length < m.length := by
  obtain ⟨es, c, seen, hg, h2, h3, h4, hr, h6, h7⟩ := h
  have hkeys : es.toList.map keyN = m.map (·.1) := by
    have := congrArg (List.map (fun p : Value × Value => match p.1 with | .int _ x => x.toNat | _ => 0)) h2
    rw [List.map_map, List.map_map] at this
    exact this.trans (List.map_congr_left fun p _ => by simp [entV])
  rcases run_next_at (P := P) w 0 r g c c seen es c hr hg h4 (Nat.le_refl _) with ⟨h0, hrun⟩ | ⟨e, he, w1, hw1, hrun⟩
  · refine .inl ⟨?_, fun ty => hrun⟩
    have hall : (es.toList.filter fun e => seen.contains e.born) = es.toList := List.filter_eq_self.2 fun e he => by
      have hem : leftOf es seen = #[] := Array.eq_empty_of_size_eq_zero h0
      unfold leftOf at hem
      rw [Array.filter_eq_empty_iff] at hem
      have := hem e (by simpa using he)
      simpa using this
    rw [hall, hkeys] at h7
    exact h7
  · have hel : e ∈ es.toList ∧ seen.contains e.born = false := by
      unfold leftOf at he
      simp only [Array.toList_filter, List.mem_filter] at he
      exact ⟨he.1, by simpa using he.2⟩
    have hek : ∃ p ∈ m, (e.key, e.val) = entV kd p := by
      have : (e.key, e.val) ∈ es.toList.map (fun e => (e.key, e.val)) := List.mem_map.2 ⟨e, hel.1, rfl⟩
      rw [h2] at this
      obtain ⟨p, hp, hpe⟩ := List.mem_map.1 this
      exact ⟨p, hp, hpe.symm⟩
    obtain ⟨p, hp, hpe⟩ := hek
    have hk : e.key = .int kd (p.1 : Int) := congrArg (·.1) hpe
    have hkn : keyN e = p.1 := by unfold keyN; rw [hk]; simp
    have hperm := filter_push seen e hel.2 es.toList h3 hel.1
    have hlen : xs.length < m.length := by
      have e1 : m.length = es.toList.length := by simpa using (congrArg List.length h2).symm
      have e2 := hperm.length_eq
      have e3 := h7.length_eq
      have e4 := List.length_filter_le (fun x : MapEntry => (seen.push e.born).contains x.born) es.toList
      rw [List.length_map] at e3
      rw [List.length_cons] at e2
      omega
    have hr1 : w1.heap[r]? = some (.mapIter (some g) c seen c) := by rcases hw1 with rfl | rfl <;> exact hr
    have hs1 := fun o' => turned_map (o' := o') hr1
    have hsb : ∀ o', (ChangeMaps.setBlock w1 r o').heap[r]? = some o' := fun o' => (hs1 o').1
    have hg1 : w1.heap[g]? = some (.map es c) := by rcases hw1 with rfl | rfl <;> exact hg
    have hgb : ∀ o', (ChangeMaps.setBlock w1 r o').heap[g]? = some (.map es c) := fun o' => ((hs1 o').2.block g (Array.getElem?_eq_some_iff.1 hg1).1 (fun e => hrg (by injection e with e; exact e.symm))).trans hg1
    refine .inr ⟨p.1, e.val, ChangeMaps.setBlock w1 r (.mapIter (some g) c (seen.push e.born) c), fun ty => ?_, ?_, ?_, ?_, hlen⟩
    · rw [← hk]; exact hrun
    · have := run_entry_at (P := P) (ChangeMaps.setBlock w1 r (.mapIter (some g) c (seen.push e.born) c)) r g c seen es c e (hsb _) (hgb _) hel.1 h3
      rw [hk] at this
      exact this
    · refine ⟨es, c, seen.push e.born, hgb _, h2, h3, h4, hsb _, by simp [h6], ?_⟩
      refine (List.perm_append_comm.trans ?_ : (xs ++ [p.1]).Perm _)
      refine ((h7.cons p.1).trans ?_)
      rw [← hkn]
      exact (hperm.map keyN).symm
    · refine ⟨?_, ?_, ?_, ?_, fun i hi hne => ?_⟩
      · rcases hw1 with rfl | rfl <;> rfl
      · rcases hw1 with rfl | rfl <;> rfl
      · rcases hw1 with rfl | rfl <;> rfl
      · rcases hw1 with rfl | rfl <;> simp [ChangeMaps.setBlock]
      · have h9 : i < w1.heap.size := by rcases hw1 with rfl | rfl <;> exact hi
        exact ((hs1 _).2.block i h9 hne).trans (by rcases hw1 with rfl | rfl <;> rfl)
end
end Go.Proofs.Ythipdfmaaeoijaa
end
section
namespace Go.Proofs.Ythipdfmaaeoijaa
open Go.RowKit
set_option linter.unusedVariables false
set_option maxRecDepth 20000

theorem isNaN_u32 (x : Int) (w : World) : Calls Try.prog 70 #[.int .u32 x] w fun e w' => e = .returned (.bool false) ∧ w' = w := by
  go_enter Try.func70, Try.ntmps70
  go_wp2
  go_ret
  exact ⟨by simp, rfl⟩
theorem less_u32 (x y : Int) (w : World) : Calls Try.prog 49 #[.int .u32 x, .int .u32 y] w fun e w' => e = .returned (.bool (Sort.ltInt x y)) ∧ w' = w := by
  go_enter Try.func49, Try.ntmps49
  go_wp2_with (go_at_call 70; refine (isNaN_u32 _ _).mono ?_; rintro e w' ⟨rfl, rfl⟩)
  go_ret
  exact ⟨rfl, rfl⟩

section
variable {α : Type} [Inhabited α] (lt : α → α → Bool)
theorem inner_on (a j : Nat) (d : Array α) (hj : a < j) (hl : lt d[j]! d[j - 1]! = true) : Sort.insInner lt a j d = Sort.insInner lt a (j - 1) (Sort.swp d j (j - 1)) := by
  cases j with
  | zero => omega
  | succ k =>
    rw [Sort.insInner]
    rw [Nat.add_sub_cancel] at hl
    simp [hj, hl]
theorem inner_end (a j : Nat) (d : Array α) (h : j ≤ a ∨ lt d[j]! d[j - 1]! = false) : Sort.insInner lt a j d = d := by
  cases j with
  | zero => rw [Sort.insInner]
  | succ k =>
    rw [Sort.insInner]
    rw [Nat.add_sub_cancel] at h
    rcases h with h | h
    · simp [show ¬ a < k + 1 by omega]
    · simp [h]
theorem outer_on (a b i : Nat) (d : Array α) (h : i < b) : Sort.insOuter lt a b i d = Sort.insOuter lt a b (i + 1) (Sort.insInner lt a i d) := by rw [Sort.insOuter, if_pos h]
theorem outer_end (a b i : Nat) (d : Array α) (h : ¬ i < b) : Sort.insOuter lt a b i d = d := by rw [Sort.insOuter, if_neg h]
variable (enc : α → Value)
theorem row_drewN (w : World) (m q blk off : Nat) (d : Array α) : (Sort.putRow enc (Sort.ahead w m) blk off d).drewN q = Sort.putRow enc (Sort.ahead w (m + q)) blk off d := by
  show Sort.ahead (Sort.putRow enc (Sort.ahead w m) blk off d) q = _
  rw [Sort.putRow_ahead enc w m, Sort.ahead_ahead, ← Sort.putRow_ahead]
theorem row_swap (w : World) (m q blk off : Nat) (d : Array α) (j k : Nat) (hj : j < d.size) (hk : k < d.size) :
    (((Sort.putRow enc (Sort.ahead w m) blk off d).drewN q).setCell ⟨blk, off + j, none⟩ (enc d[k]!)).setCell ⟨blk, off + k, none⟩ (enc d[j]!) = Sort.putRow enc (Sort.ahead w (m + q)) blk off (Sort.swp d j k) := by
  rw [row_drewN]
  exact Sort.putRow_swp enc _ blk off d j k hj hk
end

set_option maxHeartbeats 2000000 in
theorem insertion_u32 (blk off cap a b : Nat) (d : Array Int) (w : World) (hH : Sort.Holds (Value.int .u32) w blk off d) (hab : a ≤ b) (hb : b ≤ d.size) (hsz : d.size ≤ 12) :
    Calls Try.prog 43 #[.slice (some ⟨blk, off, none⟩) d.size cap, .int .i64 (a : Int), .int .i64 (b : Int)] w fun e w' =>
      e = .returned (.tuple #[]) ∧ ∃ n, w' = Sort.putRow (Value.int .u32) (Sort.ahead w n) blk off (Sort.insertionSort Sort.ltInt d a b) := by
  go_enter Try.func43, Try.ntmps43
  go_wp2
  go_loopw [6] (fun vi wr => ∃ (i n : Nat) (dk : Array Int), vi = .int .i64 i ∧ a < i ∧ i ≤ b + 1 ∧ dk.size = d.size ∧ wr = Sort.putRow (Value.int .u32) (Sort.ahead w n) blk off dk ∧
      Sort.insOuter Sort.ltInt a b i dk = Sort.insOuter Sort.ltInt a b (a + 1) d) (fun vi _ => b + 1 - (intOf vi).toNat)
  case atStart => exact ⟨a + 1, 0, d, by go_num, by omega, by omega, rfl, (Sort.putRow_self _ _ _ _ _ hH).symm, rfl⟩
  case round =>
    obtain ⟨i, n, dk, rfl, hai, hib, hsk, hwr, hO⟩ := hrel
    have HO : Hid (Sort.insOuter Sort.ltInt a b i dk = Sort.insOuter Sort.ltInt a b (a + 1) d) := hO
    clear hO
    go_wp2
    · go_loopw [7] (fun vj wr2 => ∃ (j m : Nat) (dj : Array Int), vj = .int .i64 j ∧ a ≤ j ∧ j ≤ i ∧ dj.size = d.size ∧ wr2 = Sort.putRow (Value.int .u32) (Sort.ahead w m) blk off dj ∧
          Sort.insInner Sort.ltInt a j dj = Sort.insInner Sort.ltInt a i dk) (fun vj _ => (intOf vj).toNat)
      case atStart => exact ⟨i, n, dk, rfl, by omega, Nat.le_refl _, hsk, rfl, rfl⟩
      case round =>
        obtain ⟨j, m, dj, rfl, haj, hji, hsj, hw2, hI⟩ := hrel
        have hlt : i < b := by assumption
        obtain ⟨G, hG⟩ : ∃ G : Nat → Int, ∀ t, G t = dj[t]! := ⟨fun t => dj[t]!, fun _ => rfl⟩
        have hcw : ∀ t, t < d.size → wr.cell? ⟨blk, off + t, none⟩ = some (.int .u32 (G t)) := fun t ht => by
          rw [hw2, hG]; exact Sort.cell?_putRow (Value.int .u32) (Sort.ahead w m) blk off d dj (Sort.holds_ahead _ _ m _ _ _ hH) hsj t (by omega)
        have hfw : ∀ t, t < d.size → wr.frozen? ⟨blk, off + t, none⟩ = false := fun t ht => by
          rw [hw2, Sort.putRow, Sort.frozen?_mapBlock]; exact ((Sort.holds_ahead _ _ m _ _ _ hH) t ht).2
        have HW : Hid (wr = Sort.putRow (Value.int .u32) (Sort.ahead w m) blk off dj) := hw2
        have HG : Hid (∀ t, G t = dj[t]!) := hG
        have HI : Hid (Sort.insInner Sort.ltInt a j dj = Sort.insInner Sort.ltInt a i dk) := hI
        clear hw2 hG hI hH
        have out : (j ≤ a ∨ Sort.ltInt dj[j]! dj[j - 1]! = false) → ∀ q, ∃ i' n' dk', Value.int .i64 ((i : Int) + 1) = .int .i64 (i' : Nat) ∧ a < i' ∧ i' ≤ b + 1 ∧ dk'.size = d.size ∧
            wr.drewN q = Sort.putRow (Value.int .u32) (Sort.ahead w n') blk off dk' ∧ Sort.insOuter Sort.ltInt a b i' dk' = Sort.insOuter Sort.ltInt a b (a + 1) d := fun hs q =>
          ⟨i + 1, m + q, dj, by go_num, by omega, by omega, hsj, by rw [HW.out]; exact row_drewN _ _ _ _ _ _ _,
            by rw [← HO.out, outer_on _ _ _ _ _ hlt, ← HI.out, inner_end _ _ _ _ hs]⟩
        have OUT : Hid _ := out
        clear out
        go_wp2
        by_cases hja : a < j
        · have hj1 : (j : Int) < (d.size : Int) := by omega
          have hj2 : (j : Int) - 1 < (d.size : Int) := by omega
          have hj3 : 0 ≤ (j : Int) - 1 := by omega
          have hj4 : ((j : Int) - 1).toNat = j - 1 := by omega
          go_quiet (first | (go_at_call 49; refine Calls.quiet_of_same (less_u32 _ _ _)))
          go_wp2
          · have hl : Sort.ltInt (G j) (G (j - 1)) = true := by assumption
            go_region
            all_goals go_wp2
            go_roundw
            case rel =>
              refine ⟨j - 1, m + (nq + 1), Sort.swp dj j (j - 1), by congr 1; omega, by omega, by omega, by rw [Sort.size_swp]; exact hsj, ?_, ?_⟩
              · rw [HW.out, HG.out, HG.out]
                exact row_swap (Value.int .u32) w m (nq + 1) blk off dj j (j - 1) (by omega) (by omega)
              · rw [← HI.out, inner_on Sort.ltInt a j dj hja (by rw [← HG.out, ← HG.out]; exact hl)]
            case measure => simp [intOf]; omega
          · have hl : Sort.ltInt (G j) (G (j - 1)) = false := by assumption
            go_roundw
            case rel => exact OUT.out (Or.inr (by rw [← HG.out, ← HG.out]; exact hl)) nq
            case measure => simp [intOf]; omega
        · go_quiet (first | (go_at_call 49; refine Calls.quiet_of_same (less_u32 _ _ _)))
          go_wp2
          go_roundw
          case rel => exact OUT.out (Or.inl (by omega)) nq
          case measure => simp [intOf]; omega
    · have hge : ¬ i < b := by assumption
      go_end0
      exact ⟨rfl, n, by unfold Sort.insertionSort; rw [← HO.out, outer_end _ _ _ _ _ hge]⟩
end Go.Proofs.Ythipdfmaaeoijaa
end
section
namespace Go.Proofs.Ythipdfmaaeoijaa
open Go.RowKit
set_option linter.unusedVariables false
set_option maxRecDepth 20000

set_option maxHeartbeats 2000000 in
theorem len64_few (n : Nat) (hn : n ≤ 12) (w : World) : Calls Try.prog 53 #[.int .u64 (n : Int)] w fun e w' => (∃ r : Int, e = .returned (.int .i64 r)) ∧ w' = w := by
  have h : n = 0 ∨ n = 1 ∨ n = 2 ∨ n = 3 ∨ n = 4 ∨ n = 5 ∨ n = 6 ∨ n = 7 ∨ n = 8 ∨ n = 9 ∨ n = 10 ∨ n = 11 ∨ n = 12 := by omega
  rcases h with rfl | rfl | rfl | rfl | rfl | rfl | rfl | rfl | rfl | rfl | rfl | rfl | rfl
  all_goals
    go_enter Try.func53, Try.ntmps53
    go_wp2
    go_ret
    exact ⟨⟨_, rfl⟩, rfl⟩
theorem len_few (n : Nat) (hn : n ≤ 12) (w : World) : Calls Try.prog 32 #[.int .u64 (n : Int)] w fun e w' => (∃ r : Int, e = .returned (.int .i64 r)) ∧ w' = w := by
  go_enter Try.func32, Try.ntmps32
  go_wp2_with fail
  refine (len64_few n hn _).mono ?_
  rintro e w' ⟨⟨r, rfl⟩, rfl⟩
  go_wp2
  go_ret
  exact ⟨⟨_, rfl⟩, rfl⟩
set_option maxHeartbeats 2000000 in
theorem pdq_few (blk off cap : Nat) (d : Array Int) (r : Int) (w : World) (hH : Sort.Holds (Value.int .u32) w blk off d) (hsz : d.size ≤ 12) :
    Calls Try.prog 31 #[.slice (some ⟨blk, off, none⟩) d.size cap, .int .i64 0, .int .i64 (d.size : Int), .int .i64 r] w fun e w' =>
      e = .returned (.tuple #[]) ∧ ∃ n, w' = Sort.putRow (Value.int .u32) (Sort.ahead w n) blk off (Sort.insertionSort Sort.ltInt d 0 d.size) := by
  have h := insertion_u32 blk off cap 0 d.size d w hH (Nat.zero_le _) (Nat.le_refl _) hsz
  rw [Int.natCast_zero] at h
  have h12 : (d.size : Int) ≤ 12 := by omega
  generalize Sort.insertionSort Sort.ltInt d 0 d.size = ds at h ⊢
  clear hH
  go_enter Try.func31, Try.ntmps31
  go_wp2
  refine wp_loop_rounds 1 ?_
  rw [rounds_succ]
  go_wp2_with fail
  refine h.mono ?_
  rintro e w' ⟨rfl, n, rfl⟩
  go_wp2
  refine bodyPost_ret (results_none rfl _ _ _) rfl ?_
  exact ⟨rfl, n, rfl⟩

set_option maxHeartbeats 2000000 in
theorem sort_few (blk off cap : Nat) (d : Array Int) (w : World) (hH : Sort.Holds (Value.int .u32) w blk off d) (hsz : d.size ≤ 12) :
    Calls Try.prog 22 #[.slice (some ⟨blk, off, none⟩) d.size cap] w fun e w' =>
      e = .returned (.tuple #[]) ∧ ∃ n, w' = Sort.putRow (Value.int .u32) (Sort.ahead w n) blk off (Sort.insertionSort Sort.ltInt d 0 d.size) := by
  have H := Lib.hid (fun r => pdq_few blk off cap d r w hH hsz)
  generalize Sort.insertionSort Sort.ltInt d 0 d.size = ds at H ⊢
  generalize d.size = N at H hsz ⊢
  clear hH
  go_enter Try.func22, Try.ntmps22
  go_wp2_with fail
  refine (len_few N hsz _).mono ?_
  rintro e w' ⟨⟨r, rfl⟩, rfl⟩
  go_wp2_with fail
  refine (H.out r).mono ?_
  rintro e w' ⟨rfl, n, rfl⟩
  go_wp2
  go_end0
  exact ⟨rfl, n, rfl⟩
/-! The same of nothing. -/
set_option maxHeartbeats 2000000 in
theorem insertion_none (A : Option Addr) (cap : Nat) (w : World) :
    Calls Try.prog 43 #[.slice A 0 cap, .int .i64 0, .int .i64 0] w fun e w' => e = .returned (.tuple #[]) ∧ w' = w := by
  go_enter Try.func43, Try.ntmps43
  go_wp2
  refine wp_loop_rounds 1 ?_
  rw [rounds_succ]
  go_wp2
  go_end0
  exact ⟨rfl, rfl⟩
theorem sort_none (A : Option Addr) (cap : Nat) (w : World) :
    Calls Try.prog 22 #[.slice A 0 cap] w fun e w' => e = .returned (.tuple #[]) ∧ w' = w := by
  have hp : ∀ r, Calls Try.prog 31 #[.slice A 0 cap, .int .i64 0, .int .i64 0, .int .i64 r] w fun e w' => e = .returned (.tuple #[]) ∧ w' = w := fun r => by
    go_enter Try.func31, Try.ntmps31
    go_wp2
    refine wp_loop_rounds 1 ?_
    rw [rounds_succ]
    go_wp2_with fail
    refine (insertion_none A cap w).mono ?_
    rintro e w' ⟨rfl, rfl⟩
    go_wp2
    refine bodyPost_ret (results_none rfl _ _ _) rfl ?_
    exact ⟨rfl, rfl⟩
  have HP := Lib.hid hp
  have h0 := len_few 0 (by omega) w
  rw [Int.natCast_zero] at h0
  have H0 := Lib.hid h0
  clear hp h0
  go_enter Try.func22, Try.ntmps22
  go_wp2_with fail
  refine H0.out.mono ?_
  rintro e w' ⟨⟨r, rfl⟩, rfl⟩
  go_wp2_with fail
  refine (HP.out r).mono ?_
  rintro e w' ⟨rfl, rfl⟩
  go_wp2
  go_end0
  exact ⟨rfl, rfl⟩
end Go.Proofs.Ythipdfmaaeoijaa
end
section
namespace Go.Proofs.Ythipdfmaaeoijaa
open Go.RowKit
set_option linter.unusedVariables false
set_option maxRecDepth 20000

def cellsU (l : List Nat) : List Value := l.map fun x : Nat => Value.int .u32 (x : Int)
theorem cellsU_length (l : List Nat) : (cellsU l).length = l.length := by simp [cellsU]
theorem cellsU_append (a b : List Nat) : cellsU (a ++ b) = cellsU a ++ cellsU b := by simp [cellsU]
theorem cellsU_get (l : List Nat) (j : Nat) (h : j < l.length) : (cellsU l)[j]? = some (.int .u32 ((l[j] : Nat) : Int)) := by simp [cellsU, List.getElem?_eq_getElem h]
/-- A slice of the call's own. -/
def OwnU (w : World) (base : Nat) (v : Value) (l : List Nat) : Prop := w.ownsRow base 22 1 v l.length (cellsU l)
/-- A slice reads as l. -/
def Us (w : World) (v : Value) (l : List Nat) : Prop :=
  ∃ (A : Option Addr) (c : Nat), v = .slice A l.length c ∧ l.length ≤ maxLen ∧ (0 < l.length → ∃ g, A = some ⟨g, 0, none⟩ ∧ ∀ j, j < l.length → w.cell? ⟨g, j, none⟩ = (cellsU l)[j]?)
theorem Us.keep {w w' : World} {v : Value} {l : List Nat} (h : Us w v l) (hk : ∀ p : Addr, p.block < w.heap.size → w'.cell? p = w.cell? p) : Us w' v l := by
  obtain ⟨A, c, hv, hm, h0⟩ := h
  refine ⟨A, c, hv, hm, fun hp => ?_⟩
  obtain ⟨g, hA, hc⟩ := h0 hp
  refine ⟨g, hA, fun j hj => ?_⟩
  rw [hk ⟨g, j, none⟩ ?_, hc j hj]
  have h1 := hc j hj
  rw [cellsU_get l j hj] at h1
  exact World.block_lt_of_cell? w _ h1
theorem Us.below {w w' : World} {v : Value} {l : List Nat} (h : Us w v l) (hb : Below w.heap.size w w') : Us w' v l := h.keep fun _ hp => hb.cell hp
theorem OwnU.us {w : World} {base : Nat} {v : Value} {l : List Nat} (h : OwnU w base v l) : Us w v l := by
  obtain ⟨h1, h2⟩ := h
  rcases h2 with ⟨rfl, h0⟩ | ⟨g, cap, cur, rfl, hb, hc, h3, h4, h5, h6⟩
  · exact ⟨none, 0, by rw [h0], by rw [h0]; exact Nat.zero_le _, fun hp => by omega⟩
  · refine ⟨some ⟨g, 0, none⟩, cap, rfl, Nat.le_trans h3 h4, fun hp => ⟨g, rfl, fun j hj => ?_⟩⟩
    rw [RowAt.cell (cs := cur) hc j, ← h6, List.getElem?_take, if_pos (by omega)]
    simp
theorem OwnU.below {w w' : World} {base : Nat} {v : Value} {l : List Nat} (h : OwnU w base v l) (hb : Below w.heap.size w w') : OwnU w' base v l := by
  obtain ⟨h1, h2⟩ := h
  refine ⟨h1, h2.imp id fun ⟨g, cap, cur, hv, hb1, hc, h3⟩ => ⟨g, cap, cur, hv, hb1, (hb.block g (Array.getElem?_eq_some_iff.1 hc).1).trans hc, h3⟩⟩

theorem sorted_list (d : Array Int) (l : List Nat) (hd : d.toList = l.map fun x : Nat => (x : Int)) : ∃ s : List Nat, s.Perm l ∧ s.Pairwise (· ≤ ·) ∧ (Sort.insertionSort Sort.ltInt d 0 d.size).toList = s.map fun x : Nat => (x : Int) := by
  obtain ⟨⟨h1, _, h3⟩, h4⟩ := Sort.insertionSort_holds Sort.swo_ltInt d 0 d.size (Nat.zero_le _) (Nat.le_refl _)
  generalize Sort.insertionSort Sort.ltInt d 0 d.size = d' at h1 h3 h4 ⊢
  rw [show d'.extract 0 d.size = d' by rw [← h1]; simp, show d.extract 0 d.size = d by simp] at h3
  refine ⟨d'.toList.map Int.toNat, ?_, ?_, ?_⟩
  · have := h3.map Int.toNat
    rw [hd] at this
    simpa [List.map_map, Function.comp_def] using this
  · rw [List.pairwise_map, List.pairwise_iff_getElem]
    intro i j hi hj hij
    have hi' : i < d'.size := by simpa using hi
    have hj' : j < d'.size := by simpa using hj
    have h5 := h4 i j (Nat.zero_le _) hij (by omega)
    simp only [Sort.ltInt, decide_eq_false_iff_not, getElem!_pos d' j hj', getElem!_pos d' i hi'] at h5
    simp only [Array.getElem_toList]
    omega
  · rw [List.map_map]
    refine ((List.map_congr_left (g := id) fun x hx => ?_).trans (List.map_id _)).symm
    have hm := h3.subset hx
    rw [hd] at hm
    obtain ⟨y, _, rfl⟩ := List.mem_map.1 hm
    simp
theorem put_row {w : World} {g n : Nat} {d' : Array Int} {cur : Array Value} {t : TypeId} (hc : w.heap[g]? = some (.cells cur t (0, 0))) :
    (Sort.putRow (Value.int .u32) (Sort.ahead w n) g 0 d').heap[g]? = some (.cells (Sort.putCells (Value.int .u32) 0 d' cur) t (0, 0)) ∧ w.grownBy (Sort.putRow (Value.int .u32) (Sort.ahead w n) g 0 d') (some g) := by
  refine ⟨?_, rfl, rfl, rfl, ?_, fun k hk hne => ?_⟩
  · show (w.heap.modify g _)[g]? = _
    rw [Array.getElem?_modify, if_pos rfl, hc]
    rfl
  · show w.heap.size ≤ (w.heap.modify g _).size
    rw [Array.size_modify]
    exact Nat.le_refl _
  · show (w.heap.modify g _)[k]? = _
    rw [Array.getElem?_modify, if_neg (fun e => hne (by rw [e]))]

theorem sort_any (w : World) (base : Nat) (v : Value) (l : List Nat) (h : OwnU w base v l) (hl : l.length ≤ 12) :
    Calls Try.prog 22 #[v] w fun e w' => e = .returned (.tuple #[]) ∧ ∃ s : List Nat, s.Perm l ∧ s.Pairwise (· ≤ ·) ∧ OwnU w' base v s ∧ w.grownBy w' v.ownBlock := by
  obtain ⟨h1, h2⟩ := h
  rcases h2 with ⟨rfl, h0⟩ | ⟨g, cap, cur, rfl, hb, hc, h3, h4, h5, h6⟩
  · refine (sort_none none 0 w).mono ?_
    rintro e w' ⟨rfl, rfl⟩
    have : l = [] := List.eq_nil_of_length_eq_zero h0
    subst this
    exact ⟨rfl, [], List.Perm.refl _, List.Pairwise.nil, World.ownsRow_nil _ _ _ _, World.grownBy.refl _ _⟩
  · obtain ⟨d, hd⟩ : ∃ d : Array Int, d = (l.map fun x : Nat => (x : Int)).toArray := ⟨_, rfl⟩
    have hdl : d.toList = l.map fun x : Nat => (x : Int) := by rw [hd]
    have hds : d.size = l.length := by rw [hd]; simp
    obtain ⟨s, p1, p2, p3⟩ := sorted_list d l hdl
    have hsl : s.length = l.length := p1.length_eq
    have hH : Sort.Holds (Value.int .u32) w g 0 d := fun j hj => by
      refine ⟨?_, ?_⟩
      · rw [Nat.zero_add, RowAt.cell (cs := cur) hc j]
        have e1 : cur[j]? = (cellsU l)[j]? := by
          rw [← h6, List.getElem?_take, if_pos (by omega)]
          simp
        rw [e1, cellsU_get l j (by omega), getElem!_pos d j hj]
        simp [hd]
      · exact RowAt.frozen (cs := cur) hc _
    have hS := sort_few g 0 cap d w hH (by omega)
    rw [hds] at hS p3
    refine hS.mono ?_
    rintro e w' ⟨rfl, n, rfl⟩
    generalize Sort.insertionSort Sort.ltInt d 0 l.length = d' at p3 ⊢
    obtain ⟨q1, q2⟩ := put_row (n := n) (d' := d') hc
    refine ⟨rfl, s, p1, p2, ?_, q2⟩
    have hds' : d'.size = l.length := by rw [← hsl, ← Array.length_toList, p3, List.length_map]
    refine ⟨by rw [cellsU_length]; omega, .inr ⟨g, cap, _, by rw [hsl], hb, q1, by omega, h4, ?_, ?_⟩⟩
    · rw [Sort.putCells, Array.size_mapIdx]; exact h5
    · apply List.ext_getElem?
      intro j
      rw [List.getElem?_take]
      by_cases hj : j < s.length
      · rw [if_pos (by omega), cellsU_get s j hj]
        have hjc : j < cur.size := by omega
        have hj2 : j < d'.size := by omega
        rw [Array.getElem?_toList, Sort.putCells, Array.getElem?_mapIdx, Array.getElem?_eq_getElem hjc]
        simp only [Option.map_some, Nat.zero_le, Nat.zero_add, hj2, and_self, if_true, Nat.sub_zero]
        rw [getElem!_pos d' j hj2]
        have e2 : d'.toList[j]? = (s.map fun x : Nat => (x : Int))[j]? := by rw [p3]
        rw [Array.getElem?_toList, Array.getElem?_eq_getElem hj2, List.getElem?_map, List.getElem?_eq_getElem hj] at e2
        injection e2 with e2
        rw [e2]
      · rw [if_neg (by omega), List.getElem?_eq_none (by rw [cellsU_length]; omega)]
end Go.Proofs.Ythipdfmaaeoijaa
end
