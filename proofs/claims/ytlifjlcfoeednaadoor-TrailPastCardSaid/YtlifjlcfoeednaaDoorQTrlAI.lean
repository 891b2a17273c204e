/-
  Texts that belong together, merged: TrlD, TrlE, TrlF, Only, TrlG. Conditions: as each theorem names them.
-/
import Derived.Test.YtlifjlcfoeednaaDoorQTrlAH
import Derived.StillTailTactics
import Derived.Test.YtlifjlcfoeednaaDoorQTrlAD
section
namespace Go.Proofs.YtlifjlcfoeednaaDoor
open Go.RowKit
set_option linter.unusedVariables false
set_option maxRecDepth 20000

/-- Lists that stay, whatever comes of the call's rows: what is in them. -/
theorem Bss.at1 {w : World} {A : Option Addr} {n c : Nat} {l : List (List UInt8)} (h : Bss w (.slice A n c) l) (j : Nat) (hj : j < l.length) : ∃ b off, A = some ⟨b, off, none⟩ ∧ ∃ u, w.cell? ⟨b, off + j, none⟩ = some u ∧ Bs w u l[j] := by
  obtain ⟨A', c', e, h1, h2, h3⟩ := h
  injection e with e1 e2 e3
  subst e1 e2 e3
  obtain ⟨b, off, hA, hc⟩ := h3 (by omega)
  exact ⟨b, off, hA, hc j hj⟩
set_option maxHeartbeats 4000000 in
theorem fold_env (w0 w : World) (ht : Tabs w0) (rs : List (Nat × TypeId × Array Value)) (m g n : Nat) (hE : Env w0 rs w) (hm : rs[m]? = some (g, 76, mC n)) (hn : n ≤ 800000) (t : List UInt8 × Nat) (hh : t.1.length = 32) (hk : t.2 < 4294967296) (v : Value) (l : List (List UInt8)) (hl : l.length ≤ 1000) (hb : ∀ b ∈ l, b.length ≤ 140737488351232)
    (hv : ∀ x n', Env w0 (rs.set m (g, 76, mC n')) x → Bss x v l) :
    Calls Tryd.prog 27 #[.agg (trC t.1 t.2), .pointer (some ⟨g, 0, none⟩), v, .func (.func 11) #[] #[]] w fun e w' => e = .returned (.agg (trC (allT t l).1 (allT t l).2)) ∧ Env w0 (rs.set m (g, 76, mC (n + l.length))) w' := by
  have HT := Lib.hid ht
  have HM := Lib.hid hm
  have E0 := Lib.hid hE
  obtain ⟨A, c, rfl, _, _, _⟩ := hv w n (by rw [set_id hm]; exact hE)
  obtain ⟨N, hN⟩ : ∃ N, N = l.length := ⟨_, rfl⟩
  have HN := Lib.hid hN
  have hN2 := hN
  rw [← hN] at hl ⊢
  have HV : Hid (∀ x n', Env w0 (rs.set m (g, 76, mC n')) x → Bss x (.slice A N c) l) := by rw [hN]; exact hv
  obtain ⟨f, hf⟩ : ∃ f : Nat → List UInt8 × Nat, f = fun j => allT t (l.take j) := ⟨_, rfl⟩
  have LF : Hid (∀ j, (f j).1.length = 32) := fun j => by rw [hf]; exact allT_length t hh _
  have NF : Hid (∀ j, (f j).2 < 4294967296) := fun j => by rw [hf]; exact (allT_num t hk _).1
  have SF : Hid (∀ j b, l[j]? = some b → f (j + 1) = stepT (f j) b) := fun j b h => by
    have hlt := (List.getElem?_eq_some_iff.1 h).1
    rw [hf]
    show allT t (l.take (j + 1)) = stepT (allT t (l.take j)) b
    rw [← allT_snoc, List.take_add_one, h]
    rfl
  have F0 : Hid (f 0 = t) := by show _ = _; rw [hf]; rfl
  have FN : Hid (f N = allT t l) := by show _ = _; rw [hf, hN]; show allT t (l.take l.length) = _; rw [List.take_length]
  have CN : Hid (∀ x rs' m' n' (s : List UInt8 × Nat) u b, Env w0 rs' x → rs'[m']? = some (g, 76, mC n') → n' ≤ 900000 → s.1.length = 32 → s.2 < 4294967296 → Bs x u b → b.length ≤ 140737488351232 → Calls Tryd.prog 11 #[.agg (trC s.1 s.2), .pointer (some ⟨g, 0, none⟩), u] x fun e w' => e = .returned (.agg (trC (stepT s b).1 (stepT s b).2)) ∧ Env w0 (rs'.set m' (g, 76, mC (n' + 1))) w') := fun x rs' m' n' s u b h1 h2 h3 h4 h5 h6 h7 => nextT_env w0 x HT.out rs' m' g n' h1 h2 h3 s.1 s.2 h4 h5 u b h6 h7
  have HB := Lib.hid hb
  rw [← FN.out]
  clear ht hm hE hN hv hf hb hh hk
  go_enter Tryd.func27, Tryd.ntmps27
  go_wp2_with (first
    | ((with_reducible refine wpE_box (o := ⟨some 4, _, _, _, _, _⟩) rfl 27 (.tmp 0) rfl (trC (f 0).1 (f 0).2) (by rw [F0.out]; with_unfolding_all rfl) E0.out ?_); intro g3 w1 T1; have E1 := Lib.hid T1; clear T1)
    | ((with_reducible refine wpE_alloc (o := ⟨some 8, _, _, _, _, _⟩) rfl 27 rfl (trC zeroKey 0) Tryd.zeroT E1.out ?_); intro g6 w2 T2; have E2 := Lib.hid T2; clear T2))
  clear E0 E1
  go_loopw [13] (fun q wr => ∃ j : Nat, j ≤ N ∧ q = .int .i64 (j : Int) ∧ Env w0 ((g6, 27, trC zeroKey 0) :: (g3, 27, trC (f j).1 (f j).2) :: rs.set m (g, 76, mC (n + j))) wr) (fun q _ => N - (intOf q).toNat)
  case atStart => exact ⟨0, by omega, rfl, by rw [Nat.add_zero, set_id HM.out]; exact E2.out⟩
  case round =>
    clear E2
    obtain ⟨j, hj, rfl, hE⟩ := hrel
    have E := Lib.hid hE
    clear hE
    by_cases hlt : j < N
    · have hlt2 : (j : Int) < (N : Int) := by omega
      have hw1 : IntKind.i64.wrap ((j : Int) + 1) = (j : Int) + 1 := IntWalk.i64_in _ (by omega)
      have hq0 : ¬ ((j : Int) < 0) := by omega
      obtain ⟨b0, off, hA, u, hc, hu⟩ := (HV.out wr _ E.out.tl.tl).at1 j (by omega)
      obtain ⟨b, hbj⟩ : ∃ b, l[j]? = some b := ⟨_, List.getElem?_eq_getElem (by omega)⟩
      have hbe : l[j]'(by omega) = b := (List.getElem?_eq_some_iff.1 hbj).2
      rw [hbe] at hu
      have U := Lib.hid hu
      have LB : Hid (b.length ≤ 140737488351232) := HB.out b (List.mem_of_getElem? hbj)
      have SJ := Lib.hid (SF.out j b hbj)
      obtain ⟨s, hs⟩ : ∃ s, s = f j := ⟨_, rfl⟩
      obtain ⟨s1, hs1⟩ : ∃ s1, s1 = stepT s b := ⟨_, rfl⟩
      have LS : Hid (s.1.length = 32) := by show _ = _; rw [hs]; exact LF.out j
      have NS : Hid (s.2 < 4294967296) := by show _ < _; rw [hs]; exact NF.out j
      have LS1 : Hid (s1.1.length = 32) := by show _ = _; rw [hs1]; exact nextB_length _ _ _
      have SJ1 : Hid (f (j + 1) = s1) := by show _ = _; rw [hs1, hs]; exact SJ.out
      rw [← hs] at E
      have CJ := Lib.hid (CN.out wr _ (m + 2) (n + j) s u b E.out (set_at HM.out) (by omega) LS.out NS.out U.out LB.out)
      rw [← hs1] at CJ
      subst hA
      clear hbj hbe hu SJ hs hs1
      go_wp2_with (with_reducible refine wpE_load (o := ⟨some 18, _, _, _, _, _⟩) rfl 27 (.tmp 4) rfl 1 g3 27 (trC s.1 s.2) _ (by with_unfolding_all rfl) (by with_unfolding_all rfl) Tryd.underlying27 rfl (Tryd.sizeT _ _ LS.out) E.out ?_)
      refine CJ.out.mono ?_
      intro e w3 h
      obtain ⟨he, h3⟩ := h
      subst he
      simp only [List.set_cons_succ, List.set_set] at h3
      have E3 := Lib.hid h3
      clear h3 E CJ U
      go_wp2_with ((with_reducible refine wpE_store (o := ⟨none, _, _, _, _, _⟩) rfl 27 (.tmp 4) (.tmp 21) rfl 1 g3 27 (trC s.1 s.2) (trC s1.1 s1.2) (by with_unfolding_all rfl) (by with_unfolding_all rfl) (by with_unfolding_all rfl) (trC_same LS.out LS1.out) (Tryd.sizeT _ _ LS1.out) (trC_one _ _) E3.out ?_); intro w4 T4; simp only [List.set_cons_zero, List.set_cons_succ] at T4; have E4 := Lib.hid T4; clear T4)
      try go_roundw
      · exact ⟨j + 1, by omega, by congr 1, by rw [SJ1.out, ← Nat.add_assoc]; exact E4.out⟩
      · show N - ((j : Int) + 1).toNat < N - (j : Int).toNat
        omega
    · have hjk : j = N := by omega
      clear hlt
      subst hjk
      have LS : Hid ((f j).1.length = 32) := LF.out j
      go_wp2_with (first
        | (with_reducible refine wpE_load (o := ⟨some 23, _, _, _, _, _⟩) rfl 27 (.tmp 4) rfl 1 g3 27 (trC (f j).1 (f j).2) _ (by with_unfolding_all rfl) (by with_unfolding_all rfl) Tryd.underlying27 rfl (Tryd.sizeT _ _ LS.out) E.out ?_)
        | ((with_reducible refine wpE_store (o := ⟨none, _, _, _, _, _⟩) rfl 27 (.tmp 8) (.tmp 23) rfl 0 g6 27 (trC zeroKey 0) (trC (f j).1 (f j).2) (by with_unfolding_all rfl) (by with_unfolding_all rfl) (by with_unfolding_all rfl) (trC_same zeroKey_length LS.out) (Tryd.sizeT _ _ LS.out) (trC_one _ _) E.out ?_); intro w5 T5; simp only [List.set_cons_zero] at T5; have E5 := Lib.hid T5; clear T5))
      exact bodyPost_ret (results_cell_row rfl _ _ g6 27 (trC (f j).1 (f j).2) (0, 0) _ rfl (E5.out.row 0 rfl) Tryd.underlying27 rfl (Tryd.sizeT _ _ LS.out)) rfl ⟨rfl, E5.out.tl.tl⟩
set_option maxHeartbeats 4000000 in
theorem all_env (w0 w : World) (ht : Tabs w0) (rs : List (Nat × TypeId × Array Value)) (m g n : Nat) (hE : Env w0 rs w) (hm : rs[m]? = some (g, 76, mC n)) (hn : n ≤ 800000) (t : List UInt8 × Nat) (hh : t.1.length = 32) (hk : t.2 < 4294967296) (v : Value) (l : List (List UInt8)) (hl : l.length ≤ 1000) (hb : ∀ b ∈ l, b.length ≤ 140737488351232)
    (hv : ∀ x n', Env w0 (rs.set m (g, 76, mC n')) x → Bss x v l) :
    Calls Tryd.prog 10 #[.agg (trC t.1 t.2), .pointer (some ⟨g, 0, none⟩), v] w fun e w' => e = .returned (.agg (trC (allT t l).1 (allT t l).2)) ∧ Env w0 (rs.set m (g, 76, mC (n + l.length))) w' := by
  have E0 := Lib.hid hE
  have LH := Lib.hid hh
  go_enter Tryd.func10, Tryd.ntmps10
  go_wp2_with (first
    | ((with_reducible refine wpE_box (o := ⟨some 3, _, _, _, _, _⟩) rfl 27 (.tmp 0) rfl (trC t.1 t.2) (by with_unfolding_all rfl) E0.out ?_); intro g3 w1 T1; have E1 := Lib.hid T1; clear T1)
    | ((with_reducible refine wpE_alloc (o := ⟨some 6, _, _, _, _, _⟩) rfl 27 rfl (trC zeroKey 0) Tryd.zeroT E1.out ?_); intro g6 w2 T2; have E2 := Lib.hid T2; clear T2)
    | (with_reducible refine wpE_load (o := ⟨some 7, _, _, _, _, _⟩) rfl 27 (.tmp 3) rfl 1 g3 27 (trC t.1 t.2) _ (by with_unfolding_all rfl) (by with_unfolding_all rfl) Tryd.underlying27 rfl (Tryd.sizeT _ _ LH.out) E2.out ?_))
  refine (fold_env w0 w2 ht _ (m + 2) g n E2.out hm hn t hh hk v l hl hb (fun x n' hx => hv x n' (by simp only [List.set_cons_succ] at hx; exact hx.tl.tl))).mono ?_
  intro e w3 h
  obtain ⟨he, h3⟩ := h
  subst he
  simp only [List.set_cons_succ] at h3
  obtain ⟨s, hs⟩ : ∃ s, s = allT t l := ⟨_, rfl⟩
  have LS : Hid (s.1.length = 32) := by show _ = _; rw [hs]; exact allT_length t hh l
  rw [← hs]
  have HS := Lib.hid hs
  have E3 := Lib.hid h3
  clear h3 hs E2 E1 E0 hE ht hm hv hb
  go_wp2_with ((with_reducible refine wpE_store (o := ⟨none, _, _, _, _, _⟩) rfl 27 (.tmp 6) (.tmp 10) rfl 0 g6 27 (trC zeroKey 0) (trC s.1 s.2) (by with_unfolding_all rfl) (by with_unfolding_all rfl) (by with_unfolding_all rfl) (trC_same zeroKey_length LS.out) (Tryd.sizeT _ _ LS.out) (trC_one _ _) E3.out ?_); intro w5 T5; simp only [List.set_cons_zero] at T5; have E5 := Lib.hid T5; clear T5)
  exact bodyPost_ret (results_cell_row rfl _ _ g6 27 (trC s.1 s.2) (0, 0) _ rfl (E5.out.row 0 rfl) Tryd.underlying27 rfl (Tryd.sizeT _ _ LS.out)) rfl ⟨by rw [HS.out], E5.out.tl.tl⟩
end Go.Proofs.YtlifjlcfoeednaaDoor
end
section
namespace Go.Proofs.YtlifjlcfoeednaaDoor
open Go.RowKit
set_option linter.unusedVariables false
set_option maxRecDepth 20000

/-- Numbers one behind the other. -/
def Chain (L : List (List UInt8 × Nat)) : Prop := ∃ f, f < 4294967296 ∧ ∀ (j : Nat) (t : List UInt8 × Nat), L[j]? = some t → t.2 = (f + j) % 4294967296
structure TOk (L : List (List UInt8 × Nat)) : Prop where
  few : L.length ≤ 64
  heads : HeadsOk L
  chain : Chain L
def firstN (L : List (List UInt8 × Nat)) : Nat := match L with | [] => 0 | t :: _ => t.2
theorem TOk.nil : TOk [] := ⟨by simp, fun t h => by simp at h, 0, by omega, fun j t h => by simp at h⟩
section
variable {L : List (List UInt8 × Nat)}
theorem TOk.num (h : TOk L) {j : Nat} {t : List UInt8 × Nat} (hj : L[j]? = some t) : t.2 < 4294967296 ∧ t.2 = (firstN L + j) % 4294967296 := by
  obtain ⟨f, hf, hc⟩ := h.chain
  have h1 := hc j t hj
  have h0 : firstN L = f := by
    cases L with
    | nil => simp at hj
    | cons x r =>
      have := hc 0 x rfl
      show x.2 = f
      omega
  rw [h0, h1]
  exact ⟨Nat.mod_lt _ (by omega), rfl⟩
theorem TOk.first (h : TOk L) : firstN L < 4294967296 := by
  cases L with
  | nil => show 0 < _; omega
  | cons x r => exact (h.num (j := 0) rfl).1
theorem TOk.drop (h : TOk L) (i : Nat) : TOk (L.drop i) := by
  obtain ⟨f, hf, hc⟩ := h.chain
  refine ⟨by rw [List.length_drop]; have := h.few; omega, h.heads.drop i, (f + i) % 4294967296, Nat.mod_lt _ (by omega), fun j t hj => ?_⟩
  rw [List.getElem?_drop] at hj
  rw [hc _ t hj]
  omega
theorem TOk.snoc (h : TOk L) (h64 : L.length < 64) (t : List UInt8 × Nat) (ht : t.1.length = 32) (hn : t.2 < 4294967296) (hl : ∀ x, L.getLast? = some x → t.2 = (x.2 + 1) % 4294967296) : TOk (L ++ [t]) := by
  refine ⟨by simp; omega, h.heads.append fun x hx => by rw [List.mem_singleton.1 hx]; exact ht, ?_⟩
  rcases List.eq_nil_or_concat L with rfl | ⟨r, x, rfl⟩
  · refine ⟨t.2, hn, fun j y hj => ?_⟩
    cases j with
    | zero => 
      have : t = y := by simpa using hj
      rw [this, Nat.add_zero, Nat.mod_eq_of_lt (by rw [← this]; exact hn)]
    | succ j => simp at hj
  · obtain ⟨f, hf, hc⟩ := h.chain
    refine ⟨f, hf, fun j y hj => ?_⟩
    rw [List.concat_eq_append] at hj hc hl
    by_cases h1 : j < (r ++ [x]).length
    · rw [List.getElem?_append_left h1] at hj
      exact hc j y hj
    · rw [List.getElem?_append_right (by omega)] at hj
      have h2 : j - (r ++ [x]).length = 0 := by
        have := (List.getElem?_eq_some_iff.1 hj).1
        simp at this
        simp
        omega
      rw [h2] at hj
      have h3 : t = y := by simpa using hj
      have h4 := hl x (by simp)
      have h5 := hc r.length x (by simp)
      rw [← h3, h4, h5]
      have h6 : j = r.length + 1 := by simp at h1 h2; omega
      rw [h6]
      omega
theorem past_first (h : TOk L) : (pastC L)[32]? = some (.int .u32 (firstN L : Int)) := by
  have h0 : (fillT L)[0]? = some (match L with | [] => zeroT | t :: _ => t) := fillT_first
  have h1 := pastX_num (c := L.length) (fillT_ok h.heads) (fillT_length h.few) h0
  rw [Nat.zero_mul, Nat.zero_add] at h1
  rw [pastC, h1]
  cases L <;> rfl
theorem past_count (h : TOk L) : (pastC L)[2112]? = some (.int .i64 (L.length : Int)) := pastX_count (fillT_ok h.heads) (fillT_length h.few)
end
set_option maxHeartbeats 400000 in
theorem pastLen_any (w0 w : World) (rs : List (Nat × TypeId × Array Value)) (i b : Nat) (hE : Env w0 rs w) (L : List (List UInt8 × Nat)) (hL : TOk L) (hi : rs[i]? = some (b, 46, pastC L)) :
    Calls Tryd.prog 19 #[.pointer (some ⟨b, 0, none⟩)] w (RetV w (.int .i64 (L.length : Int))) := by
  have c := hE.cellV i hi 2112 _ (past_count hL)
  clear hE hi hL
  go_enter Tryd.func19, Tryd.ntmps19
  go_wp2
  go_ret
  exact ⟨rfl, Below.refl _ _⟩
set_option maxHeartbeats 400000 in
theorem pastFirst_any (w0 w : World) (rs : List (Nat × TypeId × Array Value)) (i b : Nat) (hE : Env w0 rs w) (L : List (List UInt8 × Nat)) (hL : TOk L) (hi : rs[i]? = some (b, 46, pastC L)) :
    Calls Tryd.prog 20 #[.pointer (some ⟨b, 0, none⟩)] w (RetV w (.int .u32 (firstN L : Int))) := by
  have c := hE.cellV i hi 32 _ (past_first hL)
  clear hE hi hL
  go_enter Tryd.func20, Tryd.ntmps20
  go_wp2
  go_ret
  exact ⟨rfl, Below.refl _ _⟩
/-- What Find tells. -/
def atN (L : List (List UInt8 × Nat)) (n : Nat) : Nat := (n + 4294967296 - firstN L) % 4294967296
def findT (L : List (List UInt8 × Nat)) (n : Nat) : List UInt8 × Int := match L[atN L n]? with | some t => (t.1, 0) | none => (zeroKey, 62)
theorem findT_length {L : List (List UInt8 × Nat)} (h : HeadsOk L) (n : Nat) : (findT L n).1.length = 32 := by
  rw [findT]
  split
  · rename_i t ht
    exact h t (List.mem_of_getElem? ht)
  · rfl
set_option maxHeartbeats 2000000 in
theorem pastFind_any (w0 w : World) (rs : List (Nat × TypeId × Array Value)) (i b : Nat) (hE : Env w0 rs w) (L : List (List UInt8 × Nat)) (hL : TOk L) (hi : rs[i]? = some (b, 46, pastC L)) (n : Nat) (hn : n < 4294967296) :
    Calls Tryd.prog 15 #[.pointer (some ⟨b, 0, none⟩), .int .u32 (n : Int)] w (RetV w (.tuple #[.agg (keyC (findT L n).1), .int .i64 (findT L n).2])) := by
  have E0 := Lib.hid (Env.start w)
  obtain ⟨f, hf⟩ : ∃ f, f = firstN L := ⟨_, rfl⟩
  obtain ⟨N, hN⟩ : ∃ N, N = L.length := ⟨_, rfl⟩
  obtain ⟨j, hj⟩ : ∃ j, j = atN L n := ⟨_, rfl⟩
  have hf2 : f < 4294967296 := by rw [hf]; exact hL.first
  have hN64 : N ≤ 64 := by rw [hN]; exact hL.few
  have hj1 : j = (n + 4294967296 - f) % 4294967296 := by rw [hj, atN, hf]
  have hw1 : IntKind.u32.wrap ((n : Int) - (f : Int)) = (j : Int) := by rw [IntKind.wrap_u32]; omega
  have hw2 : IntKind.u64.wrap (N : Int) = (N : Int) := by rw [IntKind.wrap_u64]; omega
  have hw3 : IntKind.u64.wrap (j : Int) = (j : Int) := by rw [IntKind.wrap_u64]; omega
  have CL : Hid (∀ x, Below w.heap.size w x → Calls Tryd.prog 19 #[.pointer (some ⟨b, 0, none⟩)] x (RetV x (.int .i64 (N : Int)))) := fun x hx => by rw [hN]; exact pastLen_any w0 x rs i b (hE.call hx) L hL hi
  have CF : Hid (∀ x, Below w.heap.size w x → Calls Tryd.prog 20 #[.pointer (some ⟨b, 0, none⟩)] x (RetV x (.int .u32 (f : Int)))) := fun x hx => by rw [hf]; exact pastFirst_any w0 x rs i b (hE.call hx) L hL hi
  by_cases hlt : j < N
  · obtain ⟨t, ht⟩ : ∃ t, L[j]? = some t := ⟨_, List.getElem?_eq_getElem (by omega)⟩
    have hft : findT L n = (t.1, 0) := by rw [findT, ← hj, ht]
    have LT : Hid (t.1.length = 32) := hL.heads t (List.mem_of_getElem? ht)
    have PR : Hid (∀ x, Below w.heap.size w x → x.rangeAt b (j * 33) (cellsB t.1)) := fun x hx => by
      have hr := rangeAt_row (k := j * 33) (n := (cellsB t.1).length) ((hE.call hx).row i hi)
      rwa [pastC, pastX_head (fillT_ok hL.heads) (fillT_length hL.few) (fillT_get ht)] at hr
    rw [hft]
    have hlt2 : ¬ ((N : Int) ≤ (j : Int)) := by omega
    have hj64 : j < 64 := by omega
    have hj0 : ¬ ((j : Int) < 0) := by omega
    clear hE hi hf hN hj hj1 ht hft hL
    go_enter Tryd.func15, Tryd.ntmps15
    go_wp2_with ((with_reducible refine wpE_alloc (o := ⟨some 4, _, _, _, _, _⟩) rfl 24 rfl (keyC zeroKey) Tryd.zeroK E0.out ?_); intro g4 w1 T1; have E1 := Lib.hid T1; clear T1)
    refine (CF.out _ E1.out.below).mono ?_
    intro e w2 h
    obtain ⟨he, b2⟩ := h
    subst he
    have E2 := Lib.hid (E1.out.call b2)
    clear b2 E1 E0
    go_wp2_with fail
    refine (CL.out _ E2.out.below).mono ?_
    intro e w3 h
    obtain ⟨he, b3⟩ := h
    subst he
    have E3 := Lib.hid (E2.out.call b3)
    clear b3 E2
    go_wp2_with (first
      | (with_reducible refine wpList_loadK (o := ⟨some 24, _, _, _, _, _⟩) rfl 24 (.tmp 23) rfl b (j * 33) (by with_unfolding_all rfl) t.1 _ (PR.out _ E3.out.below) Tryd.underlying24 rfl (Tryd.sizeKeyM _ LT.out) ?_)
      | ((with_reducible refine wpE_store (o := ⟨none, _, _, _, _, _⟩) rfl 24 (.tmp 4) (.tmp 24) rfl 0 g4 24 (keyC zeroKey) (keyC t.1) (by with_unfolding_all rfl) (by with_unfolding_all rfl) (by with_unfolding_all rfl) (keyC_same zeroKey_length LT.out) (Tryd.sizeKey _ LT.out) (keyC_one _) E3.out ?_); intro w5 T5; simp only [List.set_cons_zero] at T5; have E5 := Lib.hid T5; clear T5))
    exact bodyPost_ret (ret_row_tmp rfl _ g4 24 (keyC t.1) (.array 32 5) rfl (E5.out.row 0 rfl) Tryd.underlying24 rfl (Tryd.sizeKey _ LT.out)) rfl ⟨rfl, E5.out.below⟩
  · have hft : findT L n = (zeroKey, 62) := by rw [findT, ← hj, List.getElem?_eq_none (by omega)]
    rw [hft]
    have hlt2 : (N : Int) ≤ (j : Int) := by omega
    clear hE hi hf hN hj hj1 hft hL
    go_enter Tryd.func15, Tryd.ntmps15
    go_wp2_with ((with_reducible refine wpE_alloc (o := ⟨some 4, _, _, _, _, _⟩) rfl 24 rfl (keyC zeroKey) Tryd.zeroK E0.out ?_); intro g4 w1 T1; have E1 := Lib.hid T1; clear T1)
    refine (CF.out _ E1.out.below).mono ?_
    intro e w2 h
    obtain ⟨he, b2⟩ := h
    subst he
    have E2 := Lib.hid (E1.out.call b2)
    clear b2 E1 E0
    go_wp2_with fail
    refine (CL.out _ E2.out.below).mono ?_
    intro e w3 h
    obtain ⟨he, b3⟩ := h
    subst he
    have E3 := Lib.hid (E2.out.call b3)
    clear b3 E2
    go_wp2_with ((with_reducible refine wpE_store (o := ⟨none, _, _, _, _, _⟩) rfl 24 (.tmp 4) (.tmp 17) rfl 0 g4 24 (keyC zeroKey) (keyC zeroKey) (by with_unfolding_all rfl) (by with_unfolding_all rfl) (by with_unfolding_all rfl) (keyC_same zeroKey_length zeroKey_length) (Tryd.sizeKey _ zeroKey_length) (keyC_one _) E3.out ?_); intro w5 T5; simp only [List.set_cons_zero] at T5; have E5 := Lib.hid T5; clear T5)
    exact bodyPost_ret (ret_row_tmp rfl _ g4 24 (keyC zeroKey) (.array 32 5) rfl (E5.out.row 0 rfl) Tryd.underlying24 rfl (Tryd.sizeKey _ zeroKey_length)) rfl ⟨rfl, E5.out.below⟩
end Go.Proofs.YtlifjlcfoeednaaDoor
end
section
namespace Go.Proofs.YtlifjlcfoeednaaDoor
open Go.RowKit
set_option linter.unusedVariables false
set_option maxRecDepth 20000

/-- What Add tells, and what there is behind it. -/
def lastN (L : List (List UInt8 × Nat)) : Nat := match L.getLast? with | some t => t.2 | none => 0
def addX (L : List (List UInt8 × Nat)) (t : List UInt8 × Nat) : Int := if L.length = 64 then 63 else if 0 < L.length ∧ t.2 ≠ (lastN L + 1) % 4294967296 then 1 else 0
def addL (L : List (List UInt8 × Nat)) (t : List UInt8 × Nat) : List (List UInt8 × Nat) := if addX L t = 0 then L ++ [t] else L
theorem TOk.added {L : List (List UInt8 × Nat)} (h : TOk L) (t : List UInt8 × Nat) (ht : t.1.length = 32) (hn : t.2 < 4294967296) : TOk (addL L t) := by
  rw [addL]
  split
  · rename_i hx
    rw [addX] at hx
    have h1 := h.few
    split at hx
    · cases hx
    · split at hx
      · cases hx
      · rename_i h2 h3
        refine h.snoc (by omega) t ht hn fun x hl => ?_
        have hpos : 0 < L.length := by
          cases L with
          | nil => simp at hl
          | cons => simp
        have h4 : t.2 = (lastN L + 1) % 4294967296 := Decidable.byContradiction fun h5 => h3 ⟨hpos, h5⟩
        rw [h4, lastN, hl]
  · exact h
theorem last_get {L : List (List UInt8 × Nat)} (h : 0 < L.length) : ∃ t, L[L.length - 1]? = some t ∧ lastN L = t.2 := by
  refine ⟨L[L.length - 1]'(by omega), List.getElem?_eq_getElem _, ?_⟩
  rw [lastN, List.getLast?_eq_getElem?, List.getElem?_eq_getElem (by omega)]
set_option maxHeartbeats 2000000 in
theorem pastAdd_env (w0 w : World) (rs : List (Nat × TypeId × Array Value)) (i b : Nat) (hE : Env w0 rs w) (L : List (List UInt8 × Nat)) (hL : TOk L) (hi : rs[i]? = some (b, 46, pastC L)) (t : List UInt8 × Nat) (ht : t.1.length = 32) (hn : t.2 < 4294967296) :
    Calls Tryd.prog 13 #[.pointer (some ⟨b, 0, none⟩), .agg (trC t.1 t.2)] w fun e w' => e = .returned (.int .i64 (addX L t)) ∧ Env w0 (rs.set i (b, 46, pastC (addL L t))) w' := by
  have E0 := Lib.hid hE
  have HI := Lib.hid hi
  have LT := Lib.hid ht
  obtain ⟨N, hN⟩ : ∃ N, N = L.length := ⟨_, rfl⟩
  have hfew := hL.few
  have c0 := fun x rs' i' (h1 : Env w0 rs' x) (h2 : rs'[i']? = some (b, 46, pastC L)) => h1.cellV i' h2 2112 _ (past_count hL)
  rw [← hN] at c0 hfew
  have C0 := Lib.hid c0
  clear c0
  by_cases hA : N = 64
  · have hx : addX L t = 63 := by rw [addX, if_pos (by omega)]
    have hl : addL L t = L := by rw [addL, hx]; rfl
    have hA1 : ((N : Int) == 64) = true := by rw [hA]; rfl
    have hA2 : (N : Int) = 64 := by rw [hA]; rfl
    rw [hx, hl, set_id hi]
    clear hE hi ht hL hx hl
    go_enter Tryd.func13, Tryd.ntmps13
    go_wp2_with ((with_reducible refine wpE_box (o := ⟨some 3, _, _, _, _, _⟩) rfl 27 (.tmp 1) rfl (trC t.1 t.2) (by with_unfolding_all rfl) E0.out ?_); intro g3 w1 T1; have E1 := Lib.hid T1; clear T1; have c1 := C0.out _ _ (i + 1) E1.out HI.out)
    go_ret
    exact ⟨rfl, E1.out.tl⟩
  · have hA1 : ((N : Int) == 64) = false := by
      have : ¬ ((N : Int) = 64) := by omega
      simpa using this
    have hA2 : ¬ ((N : Int) = 64) := by omega
    have PUT : Hid (((pastC L).toList.take (N * 33) ++ tr1 t ++ (pastC L).toList.drop (N * 33 + (tr1 t).length)).toArray = pastX (fillT (L ++ [t])) N) := by
      show _ = _
      rw [pastC, hN, pastX_put (fillT_ok hL.heads) (fillT_length hL.few) (by omega) t ht, fillT_snoc (by omega)]
    have hok2 : HeadsOk (fillT (L ++ [t])) := fillT_ok (hL.heads.append fun x hx => by rw [List.mem_singleton.1 hx]; exact ht)
    have hl64 : (fillT (L ++ [t])).length = 64 := fillT_length (by simp; omega)
    have PUT2 : Hid ((pastX (fillT (L ++ [t])) N).setIfInBounds 2112 (.int .i64 ((N + 1 : Nat) : Int)) = pastC (L ++ [t])) := by
      show _ = _
      rw [pastX_setCount hok2 hl64, pastC, hN]
      simp
    have CNT : Hid ((pastX (fillT (L ++ [t])) N)[2112]? = some (.int .i64 (N : Int))) := pastX_count hok2 hl64
    have SZ : Hid ((pastC L).size = 2113) := pastX_size (fillT_ok hL.heads) (fillT_length hL.few)
    by_cases hB : 0 < N
    · obtain ⟨z, hz, hlz⟩ := last_get (L := L) (by omega)
      have cz := fun x rs' i' (h1 : Env w0 rs' x) (h2 : rs'[i']? = some (b, 46, pastC L)) => h1.cellV i' h2 _ _ (pastX_num (fillT_ok hL.heads) (fillT_length hL.few) (fillT_get hz))
      rw [← hN] at cz
      obtain ⟨M, hM⟩ : ∃ M, M = N - 1 := ⟨_, rfl⟩
      rw [← hM] at cz
      have CZ := Lib.hid cz
      have hz2 := (hL.num hz).1
      have hw1 : IntKind.i64.wrap ((N : Int) - 1) = (M : Int) := by rw [IntWalk.i64_in _ (by omega)]; omega
      obtain ⟨k, hk⟩ : ∃ k, k = (z.2 + 1) % 4294967296 := ⟨_, rfl⟩
      have hw2 : IntKind.u32.wrap ((z.2 : Int) + 1) = (k : Int) := by rw [IntKind.wrap_u32]; omega
      have hB2 : (0 : Int) < (N : Int) := by omega
      have hM0 : ¬ ((M : Int) < 0) := by omega
      have hM64 : M < 64 := by omega
      clear cz
      by_cases hC : t.2 = k
      · have hx : addX L t = 0 := by rw [addX, if_neg (by omega), if_neg]; rintro ⟨_, h⟩; rw [hlz, ← hk] at h; exact h hC
        have hl : addL L t = L ++ [t] := by rw [addL, if_pos hx]
        rw [hx, hl]
        subst hC
        have hw3 : IntKind.i64.wrap ((N : Int) + 1) = ((N + 1 : Nat) : Int) := by rw [IntWalk.i64_in _ (by omega)]; omega
        have hN64 : N < 64 := by omega
        have hN0 : ¬ ((N : Int) < 0) := by omega
        clear hE hi ht hL hx hl hz hlz hk hM hok2 hl64 hn hz2 hN
        go_enter Tryd.func13, Tryd.ntmps13
        go_wp2_with ((with_reducible refine wpE_box (o := ⟨some 3, _, _, _, _, _⟩) rfl 27 (.tmp 1) rfl (trC t.1 t.2) (by with_unfolding_all rfl) E0.out ?_); intro g3 w1 T1; have E1 := Lib.hid T1; clear T1; have c1 := C0.out _ _ (i + 1) E1.out HI.out; have c2 := CZ.out _ _ (i + 1) E1.out HI.out; have c3 := E1.out.cellV 0 rfl 32 _ (trC_32 _ _ LT.out))
        go_still_tail 22, (by kernel_rfl)
        refine wpStill_valG (o := ⟨some 32, _, _, _, _, _⟩) (by rfl) (by exact run_idxArr0 33 44 27 64 (.tmp 31) (.tmp 29) rfl b M .i64 (by with_unfolding_all rfl) (by with_unfolding_all rfl) hM64 Tryd.underlying44 Tryd.sizeT33) ?_
        repeat still_step
        refine wpStill_nil ?_
        change wpList _ _ _ _ _ w1.drew
        have E2 := Lib.hid E1.out.drew
        have c4 := C0.out _ _ (i + 1) E2.out HI.out
        clear E1 E0 c1 c2 c3
        generalize w1.drew = w2 at E2 c4 ⊢
        go_wp2_with fail
        go_still_tail 9, (by kernel_rfl)
        refine wpStill_val (o := ⟨some 43, _, _, _, _, _⟩) rfl (by exact run_load_row 27 (.tmp 3) rfl g3 (by with_unfolding_all rfl) 27 (trC t.1 t.2) (0, 0) _ (E2.out.drew.row 0 rfl) Tryd.underlying27 rfl (Tryd.sizeT _ _ LT.out)) ?_
        simp only [Act.put, List.setIfInBounds_toArray, List.set_cons_zero, List.set_cons_succ]
        repeat still_step
        refine wpStill_val (o := ⟨some 46, _, _, _, _, _⟩) rfl (by exact run_idxArr0 33 44 27 64 (.tmp 45) (.tmp 42) rfl b N .i64 (by with_unfolding_all rfl) (by with_unfolding_all rfl) hN64 Tryd.underlying44 Tryd.sizeT33) ?_
        refine wpStill_nil ?_
        simp only [Act.put, List.setIfInBounds_toArray, List.set_cons_zero, List.set_cons_succ]
        change wpList _ _ _ _ _ w2.drew
        have E3 := Lib.hid E2.out.drew
        clear E2 c4
        generalize w2.drew = w3 at E3 ⊢
        refine wpList_storeRP rfl 27 (.tmp 46) (.tmp 43) rfl b (N * 33) 46 (pastC L) (pastX (fillT (L ++ [t])) N) (tr1 t) (by with_unfolding_all rfl) (by with_unfolding_all rfl) (E3.out.row (i + 1) HI.out) (by rw [SZ.out, tr1, trL_length _ _ LT.out]; omega) PUT.out (by rw [tr1, trL_length _ _ LT.out]; exact Tryd.sizeT33) (trL_one _ _) fun w4 p4 => ?_
        have E4 := Lib.hid (E3.out.put (i + 1) HI.out p4)
        have hr4 := set_at (y := (b, 46, pastX (fillT (L ++ [t])) N)) HI.out
        have c4 := E4.out.cellV (i + 1) hr4 2112 _ CNT.out
        have f4 := E4.out.fzV (i + 1) hr4 2112
        have E5 := Lib.hid (E4.out.cellTo (i + 1) hr4 2112 (.int .i64 ((N + 1 : Nat) : Int)) PUT2.out)
        simp only [List.set_cons_succ, List.set_set] at E5
        clear p4 E3 E4 hr4
        go_wp2
        go_ret
        exact ⟨rfl, E5.out.tl⟩
      · have hx : addX L t = 1 := by rw [addX, if_neg (by omega), if_pos]; exact ⟨by omega, by rw [hlz, ← hk]; exact hC⟩
        have hl : addL L t = L := by rw [addL, hx]; rfl
        rw [hx, hl, set_id hi]
        have hC1 : ((t.2 : Int) == (k : Int)) = false := by
          have : ¬ ((t.2 : Int) = (k : Int)) := by omega
          simpa using this
        have hC2 : ¬ ((t.2 : Int) = (k : Int)) := by omega
        clear hE hi ht hL hx hl hz hlz hk hM hok2 hl64 hn hz2 hN
        go_enter Tryd.func13, Tryd.ntmps13
        go_wp2_with ((with_reducible refine wpE_box (o := ⟨some 3, _, _, _, _, _⟩) rfl 27 (.tmp 1) rfl (trC t.1 t.2) (by with_unfolding_all rfl) E0.out ?_); intro g3 w1 T1; have E1 := Lib.hid T1; clear T1; have c1 := C0.out _ _ (i + 1) E1.out HI.out; have c2 := CZ.out _ _ (i + 1) E1.out HI.out; have c3 := E1.out.cellV 0 rfl 32 _ (trC_32 _ _ LT.out))
        go_still_tail 22, (by kernel_rfl)
        refine wpStill_valG (o := ⟨some 32, _, _, _, _, _⟩) (by rfl) (by exact run_idxArr0 33 44 27 64 (.tmp 31) (.tmp 29) rfl b M .i64 (by with_unfolding_all rfl) (by with_unfolding_all rfl) hM64 Tryd.underlying44 Tryd.sizeT33) ?_
        repeat still_step
        refine wpStill_nil ?_
        change wpList _ _ _ _ _ w1.drew
        have E2 := Lib.hid E1.out.drew
        clear E1 E0 c1 c2 c3
        generalize w1.drew = w2 at E2 ⊢
        go_wp2_with fail
        go_ret
        exact ⟨rfl, E2.out.tl⟩
    · have hN0 : N = 0 := by omega
      have hx : addX L t = 0 := by rw [addX, if_neg (by omega), if_neg]; rintro ⟨h, _⟩; omega
      have hl : addL L t = L ++ [t] := by rw [addL, if_pos hx]
      rw [hx, hl]
      subst hN0
      clear hE hi ht hL hx hl hok2 hl64 hn hN hA hA1 hA2 hB hfew
      go_enter Tryd.func13, Tryd.ntmps13
      go_wp2_with ((with_reducible refine wpE_box (o := ⟨some 3, _, _, _, _, _⟩) rfl 27 (.tmp 1) rfl (trC t.1 t.2) (by with_unfolding_all rfl) E0.out ?_); intro g3 w1 T1; have E1 := Lib.hid T1; clear T1; have c1 : w1.cell? ⟨b, 2112, none⟩ = some (.int .i64 0) := C0.out _ _ (i + 1) E1.out HI.out)
      refine plain_region (S := fun x => Env w0 ((g3, 27, trC t.1 t.2) :: rs) x) (fin := fun _ => false) (by kernel_rfl) ?_
      have hS := E1.out.drew
      change walkS _ _ _ _ _ _ 23 _ _ _
      refine walkS_take (i := 0) (oi := ⟨some 16, _, _, _, _, _⟩) (v := .pointer (some ⟨b, 0, none⟩)) rfl (by kernel_rfl) (by kernel_rfl) (fun _ _ _ h => h) _ _ _ _ (by kernel_rfl) (by kernel_rfl) (Or.inl ⟨by rfl, fun w' hS' => (by first | rfl | (clear hS hS'; go_simp))⟩) hS ?_
      try simp only [Act.put, List.setIfInBounds_toArray, List.set_cons_zero, List.set_cons_succ]
      refine walkS_take (i := 1) (oi := ⟨some 17, _, _, _, _, _⟩) (v := .pointer (some ⟨b, 0, none⟩)) rfl (by kernel_rfl) (by kernel_rfl) (fun _ _ _ h => h) _ _ _ _ (by kernel_rfl) (by kernel_rfl) (Or.inl ⟨by rfl, fun w' hS' => (by first | rfl | (clear hS hS'; go_simp))⟩) hS ?_
      try simp only [Act.put, List.setIfInBounds_toArray, List.set_cons_zero, List.set_cons_succ]
      refine walkS_take (i := 2) (oi := ⟨some 18, _, _, _, _, _⟩) (v := .pointer (some ⟨b, 2112, none⟩)) rfl (by kernel_rfl) (by kernel_rfl) (fun _ _ _ h => h) _ _ _ _ (by kernel_rfl) (by kernel_rfl) (Or.inl ⟨by rfl, fun w' hS' => (by first | rfl | (clear hS hS'; go_simp))⟩) hS ?_
      try simp only [Act.put, List.setIfInBounds_toArray, List.set_cons_zero, List.set_cons_succ]
      refine walkS_take (i := 3) (oi := ⟨some 19, _, _, _, _, _⟩) (v := .int .i64 0) rfl (by kernel_rfl) (by kernel_rfl) (fun _ _ _ h => h) _ _ _ _ (by kernel_rfl) (by kernel_rfl) (Or.inl ⟨by rfl, fun w' hS' => (by have c : w'.cell? ⟨b, 2112, none⟩ = some (.int .i64 0) := C0.out _ _ (i + 1) hS' HI.out; clear hS hS'; go_simp)⟩) hS ?_
      try simp only [Act.put, List.setIfInBounds_toArray, List.set_cons_zero, List.set_cons_succ]
      refine walkS_take (i := 4) (oi := ⟨some 20, _, _, _, _, _⟩) (v := .bool false) rfl (by kernel_rfl) (by kernel_rfl) (fun _ _ _ h => h) _ _ _ _ (by kernel_rfl) (by kernel_rfl) (Or.inl ⟨by rfl, fun w' hS' => (by first | rfl | (clear hS hS'; go_simp))⟩) hS ?_
      try simp only [Act.put, List.setIfInBounds_toArray, List.set_cons_zero, List.set_cons_succ]
      refine walkS_take (i := 5) (oi := ⟨some 21, _, _, _, _, _⟩) (v := .bool false) rfl (by kernel_rfl) (by kernel_rfl) (fun _ _ _ h => h) _ _ _ _ (by kernel_rfl) (by kernel_rfl) (Or.inl ⟨by rfl, fun w' hS' => (by first | rfl | (clear hS hS'; go_simp))⟩) hS ?_
      try simp only [Act.put, List.setIfInBounds_toArray, List.set_cons_zero, List.set_cons_succ]
      refine walkS_take (i := 6) (oi := ⟨some 22, _, _, _, _, _⟩) (v := undef) rfl (by kernel_rfl) (by kernel_rfl) (fun _ _ _ h => h) _ _ _ _ (by kernel_rfl) (by kernel_rfl) (Or.inr ⟨by rfl, rfl⟩) hS ?_
      try simp only [Act.put, List.setIfInBounds_toArray, List.set_cons_zero, List.set_cons_succ]
      refine walkS_take (i := 7) (oi := ⟨some 23, _, _, _, _, _⟩) (v := undef) rfl (by kernel_rfl) (by kernel_rfl) (fun _ _ _ h => h) _ _ _ _ (by kernel_rfl) (by kernel_rfl) (Or.inr ⟨by rfl, rfl⟩) hS ?_
      try simp only [Act.put, List.setIfInBounds_toArray, List.set_cons_zero, List.set_cons_succ]
      refine walkS_take (i := 8) (oi := ⟨some 24, _, _, _, _, _⟩) (v := undef) rfl (by kernel_rfl) (by kernel_rfl) (fun _ _ _ h => h) _ _ _ _ (by kernel_rfl) (by kernel_rfl) (Or.inr ⟨by rfl, rfl⟩) hS ?_
      try simp only [Act.put, List.setIfInBounds_toArray, List.set_cons_zero, List.set_cons_succ]
      refine walkS_take (i := 9) (oi := ⟨some 25, _, _, _, _, _⟩) (v := undef) rfl (by kernel_rfl) (by kernel_rfl) (fun _ _ _ h => h) _ _ _ _ (by kernel_rfl) (by kernel_rfl) (Or.inr ⟨by rfl, rfl⟩) hS ?_
      try simp only [Act.put, List.setIfInBounds_toArray, List.set_cons_zero, List.set_cons_succ]
      refine walkS_take (i := 10) (oi := ⟨some 26, _, _, _, _, _⟩) (v := undef) rfl (by kernel_rfl) (by kernel_rfl) (fun _ _ _ h => h) _ _ _ _ (by kernel_rfl) (by kernel_rfl) (Or.inr ⟨by rfl, rfl⟩) hS ?_
      try simp only [Act.put, List.setIfInBounds_toArray, List.set_cons_zero, List.set_cons_succ]
      refine walkS_take (i := 11) (oi := ⟨some 27, _, _, _, _, _⟩) (v := undef) rfl (by kernel_rfl) (by kernel_rfl) (fun _ _ _ h => h) _ _ _ _ (by kernel_rfl) (by kernel_rfl) (Or.inr ⟨by rfl, rfl⟩) hS ?_
      try simp only [Act.put, List.setIfInBounds_toArray, List.set_cons_zero, List.set_cons_succ]
      refine walkS_take (i := 12) (oi := ⟨some 28, _, _, _, _, _⟩) (v := undef) rfl (by kernel_rfl) (by kernel_rfl) (fun _ _ _ h => h) _ _ _ _ (by kernel_rfl) (by kernel_rfl) (Or.inr ⟨by rfl, rfl⟩) hS ?_
      try simp only [Act.put, List.setIfInBounds_toArray, List.set_cons_zero, List.set_cons_succ]
      refine walkS_take (i := 13) (oi := ⟨some 29, _, _, _, _, _⟩) (v := undef) rfl (by kernel_rfl) (by kernel_rfl) (fun _ _ _ h => h) _ _ _ _ (by kernel_rfl) (by kernel_rfl) (Or.inr ⟨by rfl, rfl⟩) hS ?_
      try simp only [Act.put, List.setIfInBounds_toArray, List.set_cons_zero, List.set_cons_succ]
      refine walkS_take (i := 14) (oi := ⟨some 30, _, _, _, _, _⟩) (v := undef) rfl (by kernel_rfl) (by kernel_rfl) (fun _ _ _ h => h) _ _ _ _ (by kernel_rfl) (by kernel_rfl) (Or.inr ⟨by rfl, rfl⟩) hS ?_
      try simp only [Act.put, List.setIfInBounds_toArray, List.set_cons_zero, List.set_cons_succ]
      refine walkS_take (i := 15) (oi := ⟨some 31, _, _, _, _, _⟩) (v := undef) rfl (by kernel_rfl) (by kernel_rfl) (fun _ _ _ h => h) _ _ _ _ (by kernel_rfl) (by kernel_rfl) (Or.inr ⟨by rfl, rfl⟩) hS ?_
      try simp only [Act.put, List.setIfInBounds_toArray, List.set_cons_zero, List.set_cons_succ]
      refine walkS_take (i := 16) (oi := ⟨some 32, _, _, _, _, _⟩) (v := undef) rfl (by kernel_rfl) (by kernel_rfl) (fun _ _ _ h => h) _ _ _ _ (by kernel_rfl) (by kernel_rfl) (Or.inr ⟨by rfl, rfl⟩) hS ?_
      try simp only [Act.put, List.setIfInBounds_toArray, List.set_cons_zero, List.set_cons_succ]
      refine walkS_take (i := 17) (oi := ⟨some 33, _, _, _, _, _⟩) (v := undef) rfl (by kernel_rfl) (by kernel_rfl) (fun _ _ _ h => h) _ _ _ _ (by kernel_rfl) (by kernel_rfl) (Or.inr ⟨by rfl, rfl⟩) hS ?_
      try simp only [Act.put, List.setIfInBounds_toArray, List.set_cons_zero, List.set_cons_succ]
      refine walkS_take (i := 18) (oi := ⟨some 34, _, _, _, _, _⟩) (v := undef) rfl (by kernel_rfl) (by kernel_rfl) (fun _ _ _ h => h) _ _ _ _ (by kernel_rfl) (by kernel_rfl) (Or.inr ⟨by rfl, rfl⟩) hS ?_
      try simp only [Act.put, List.setIfInBounds_toArray, List.set_cons_zero, List.set_cons_succ]
      refine walkS_take (i := 19) (oi := ⟨some 35, _, _, _, _, _⟩) (v := undef) rfl (by kernel_rfl) (by kernel_rfl) (fun _ _ _ h => h) _ _ _ _ (by kernel_rfl) (by kernel_rfl) (Or.inr ⟨by rfl, rfl⟩) hS ?_
      try simp only [Act.put, List.setIfInBounds_toArray, List.set_cons_zero, List.set_cons_succ]
      refine walkS_take (i := 20) (oi := ⟨some 36, _, _, _, _, _⟩) (v := undef) rfl (by kernel_rfl) (by kernel_rfl) (fun _ _ _ h => h) _ _ _ _ (by kernel_rfl) (by kernel_rfl) (Or.inr ⟨by rfl, rfl⟩) hS ?_
      try simp only [Act.put, List.setIfInBounds_toArray, List.set_cons_zero, List.set_cons_succ]
      refine walkS_take (i := 21) (oi := ⟨some 37, _, _, _, _, _⟩) (v := .bool false) rfl (by kernel_rfl) (by kernel_rfl) (fun _ _ _ h => h) _ _ _ _ (by kernel_rfl) (by kernel_rfl) (Or.inl ⟨by rfl, fun w' hS' => (by first | rfl | (clear hS hS'; go_simp))⟩) hS ?_
      try simp only [Act.put, List.setIfInBounds_toArray, List.set_cons_zero, List.set_cons_succ]
      refine walkS_only (i := 22) (o := ⟨some 15, _, _, _, _, _⟩) (by kernel_rfl) rfl rfl fun KK hKK => ?_
      refine wp_assignE (.tmp 37) rfl ?_
      refine hKK _ _ (.inr hS) (walkS_done (by kernel_rfl) ?_ _)
      clear hKK KK c1
      have E2 := Lib.hid hS
      have c4 : w1.drew.cell? ⟨b, 2112, none⟩ = some (.int .i64 0) := C0.out _ _ (i + 1) E2.out HI.out
      clear E1 E0 hS
      generalize w1.drew = w2 at E2 c4 ⊢
      go_wp2_with fail
      go_still_tail 9, (by kernel_rfl)
      refine wpStill_val (o := ⟨some 43, _, _, _, _, _⟩) rfl (by exact run_load_row 27 (.tmp 3) rfl g3 (by with_unfolding_all rfl) 27 (trC t.1 t.2) (0, 0) _ (E2.out.drew.row 0 rfl) Tryd.underlying27 rfl (Tryd.sizeT _ _ LT.out)) ?_
      simp only [Act.put, List.setIfInBounds_toArray, List.set_cons_zero, List.set_cons_succ]
      repeat still_step
      refine wpStill_nil ?_
      change wpList _ _ _ _ _ w2.drew
      have E3 := Lib.hid E2.out.drew
      clear E2 c4
      generalize w2.drew = w3 at E3 ⊢
      refine wpList_storeRP rfl 27 (.tmp 46) (.tmp 43) rfl b (0 * 33) 46 (pastC L) (pastX (fillT (L ++ [t])) 0) (tr1 t) (by with_unfolding_all rfl) (by with_unfolding_all rfl) (E3.out.row (i + 1) HI.out) (by rw [SZ.out, tr1, trL_length _ _ LT.out]; omega) PUT.out (by rw [tr1, trL_length _ _ LT.out]; exact Tryd.sizeT33) (trL_one _ _) fun w4 p4 => ?_
      have E4 := Lib.hid (E3.out.put (i + 1) HI.out p4)
      have hr4 := set_at (y := (b, 46, pastX (fillT (L ++ [t])) 0)) HI.out
      have c4 : w4.cell? ⟨b, 2112, none⟩ = some (.int .i64 0) := E4.out.cellV (i + 1) hr4 2112 _ CNT.out
      have f4 := E4.out.fzV (i + 1) hr4 2112
      have E5 : Hid (Env w0 _ (w4.setCell ⟨b, 2112, none⟩ (.int .i64 1))) := Lib.hid (E4.out.cellTo (i + 1) hr4 2112 (.int .i64 1) PUT2.out)
      simp only [List.set_cons_succ, List.set_set] at E5
      clear p4 E3 E4 hr4
      go_wp2
      go_ret
      exact ⟨rfl, E5.out.tl⟩
end Go.Proofs.YtlifjlcfoeednaaDoor
end
section
namespace Go.Proofs.YtlifjlcfoeednaaDoor
open Go.RowKit
set_option linter.unusedVariables false
theorem walkS_onlyH {P : Program} {md : Region.Mode} {ops : Array Oper} {Q : Exit → Act → World → Prop} {S : World → Prop} {fin : Nat → Bool} {i : Nat} {o : Oper} {m : Nat} {listed : Array Bool} {a : Act} {w : World} (hr : Region.ready md ops listed = [i]) (ho : ops[i]? = some o) (hw : Region.wanted o (yielded ops a.tmps) = true)
    (h : ∀ K : Act → World → Prop, (∀ a' w', (fin i = true ∨ S w') → walkS P md ops Q S fin m (listed.setIfInBounds i true) a' w' → K a' w') → o.wp P a w K Q) : walkS P md ops Q S fin (m + 1) listed a w := by
  refine ⟨fun h0 => by simp [hr] at h0, fun j hj => ?_⟩
  rw [hr] at hj
  obtain rfl : j = i := by simpa using hj
  unfold wpOp
  rw [ho]
  simp only [hw, if_true]
  exact .inl (h _ (fun a' w' h1 h2 => ⟨h1, h2⟩))
end Go.Proofs.YtlifjlcfoeednaaDoor
end
section
namespace Go.Proofs.YtlifjlcfoeednaaDoor
open Go.RowKit
set_option linter.unusedVariables false
set_option maxRecDepth 20000

theorem zeroCells_flat (z : Array Value) (h0 : 0 < z.size) (n : Nat) : (Builtin.zeroCells z n).toList = (List.replicate n z.toList).flatten := by
  unfold Builtin.zeroCells
  rw [Array.toList_map, Array.toList_range]
  induction n with
  | zero => simp
  | succ n ih =>
    rw [Nat.add_mul, Nat.one_mul, List.range_add, List.map_append, ih, List.replicate_succ', List.flatten_append, List.map_map]
    congr 1
    rw [List.flatten_cons, List.flatten_nil, List.append_nil]
    apply List.ext_getElem
    · simp
    · intro j h1 h2
      simp only [List.length_map, List.length_range] at h1
      simp [Nat.mul_add_mod_self_right, Nat.mod_eq_of_lt h1, h1]
theorem zeroT_cells (n : Nat) : (Builtin.zeroCells (Value.agg (trC zeroKey 0)).cells n).toList = trF (List.replicate n zeroT) := by
  rw [zeroCells_flat _ (by show 0 < (trC zeroKey 0).size; rw [trC_size _ _ zeroKey_length]; omega), trF, List.map_replicate]
  rfl
/-- What the steps of drop leave. -/
def shiftT (L : List (List UInt8 × Nat)) (G : Nat) : List (List UInt8 × Nat) := L.drop G ++ (fillT L).drop (L.length - G)
section
variable {L : List (List UInt8 × Nat)} {G : Nat}
theorem shiftT_ok (h : HeadsOk L) : HeadsOk (shiftT L G) := (h.drop G).append ((fillT_ok h).drop _)
theorem shiftT_length (h : L.length ≤ 64) (hG : G ≤ L.length) : (shiftT L G).length = 64 := by
  rw [shiftT, List.length_append, List.length_drop, List.length_drop, fillT_length h]
  omega
theorem fill_part_drop (hG : G ≤ L.length) : ((fillT L).drop G).take (L.length - G) = L.drop G := by
  rw [fillT, List.drop_append_of_le_length hG, List.take_left' (by rw [List.length_drop])]
theorem shiftT_clear (h : L.length ≤ 64) (hG : G ≤ L.length) : (shiftT L G).take (L.length - G) ++ List.replicate G zeroT ++ (shiftT L G).drop (L.length - G + (List.replicate G zeroT).length) = fillT (L.drop G) := by
  have hd : (L.drop G).length = L.length - G := by rw [List.length_drop]
  rw [shiftT, List.take_left' hd, List.length_replicate, ← List.drop_drop, List.drop_left' hd, List.drop_drop, show L.length - G + G = L.length by omega, fillT, List.drop_left' rfl, List.append_assoc, List.replicate_append_replicate, fillT, hd, show G + (64 - L.length) = 64 - (L.length - G) by omega]
end
set_option maxHeartbeats 4000000 in
theorem pastDrop_env (w0 w : World) (rs : List (Nat × TypeId × Array Value)) (i b : Nat) (hE : Env w0 rs w) (L : List (List UInt8 × Nat)) (hL : TOk L) (hi : rs[i]? = some (b, 46, pastC L)) (G : Nat) (hG0 : 0 < G) (hG : G < L.length) :
    Calls Tryd.prog 29 #[.pointer (some ⟨b, 0, none⟩), .int .i64 (G : Int)] w fun e w' => e = .returned (.tuple #[]) ∧ Env w0 (rs.set i (b, 46, pastC (L.drop G))) w' := by
  have E0 := Lib.hid hE
  have HI := Lib.hid hi
  obtain ⟨N, hN⟩ : ∃ N, N = L.length := ⟨_, rfl⟩
  obtain ⟨D, hD⟩ : ∃ D, D = N - G := ⟨_, rfl⟩
  have hfew := hL.few
  have hok := fillT_ok hL.heads
  have hln := fillT_length hL.few
  have P0 : Hid ((pastC L).size = 2113) := pastX_size hok hln
  have PS : Hid (((pastC L).toList.drop (G * 33)).take (D * 33) = trF (L.drop G)) := by
    show _ = _
    rw [pastC, pastX_range hok hln _ _ (by omega), hD, hN, fill_part_drop (by omega)]
  have PL : Hid ((trF (L.drop G)).length = D * 33) := by show _ = _; rw [trF_length (hL.heads.drop G), List.length_drop, hD, hN]
  have P1 : Hid (((pastC L).toList.take 0 ++ trF (L.drop G) ++ (pastC L).toList.drop (0 + (trF (L.drop G)).length)).toArray = pastX (shiftT L G) N) := by
    show _ = _
    have h := pastX_puts (c := L.length) hok hln 0 (L.drop G) (hL.heads.drop G) (by rw [List.length_drop]; omega)
    rw [Nat.zero_mul] at h
    rw [pastC, h, shiftT, List.take_zero, List.nil_append, Nat.zero_add, List.length_drop, hN]
  have hok1 := shiftT_ok (L := L) (G := G) hL.heads
  have hln1 := shiftT_length (G := G) hL.few (by omega)
  have S1 : Hid ((pastX (shiftT L G) N).size = 2113) := pastX_size hok1 hln1
  have C1 : Hid ((pastX (shiftT L G) N)[2112]? = some (.int .i64 (N : Int))) := pastX_count hok1 hln1
  have P2 : Hid (((pastX (shiftT L G) N).toList.take (D * 33) ++ trF (List.replicate G zeroT) ++ (pastX (shiftT L G) N).toList.drop (D * 33 + (trF (List.replicate G zeroT)).length)).toArray = pastX (fillT (L.drop G)) N) := by
    show _ = _
    rw [pastX_puts hok1 hln1 D _ (HeadsOk.zeros G) (by rw [List.length_replicate]; omega), hD, hN, shiftT_clear hL.few (by omega)]
  have ZL : Hid ((trF (List.replicate G zeroT)).length = G * 33) := by show _ = _; rw [trF_length (HeadsOk.zeros G), List.length_replicate]
  have hok2 := fillT_ok (hL.heads.drop G)
  have hln2 : (fillT (L.drop G)).length = 64 := fillT_length (by rw [List.length_drop]; omega)
  have C2 : Hid ((pastX (fillT (L.drop G)) N)[2112]? = some (.int .i64 (N : Int))) := pastX_count hok2 hln2
  have P3 : Hid ((pastX (fillT (L.drop G)) N).setIfInBounds 2112 (.int .i64 (D : Int)) = pastC (L.drop G)) := by
    show _ = _
    rw [pastX_setCount hok2 hln2, pastC, List.length_drop, hD, hN]
  have C0 : Hid ((pastC L)[2112]? = some (.int .i64 (N : Int))) := by rw [hN]; exact past_count hL
  have hGN : G < N := by omega
  have hN64 : N ≤ 64 := by omega
  clear hE hi hL hN hfew hok hln hok1 hln1 hok2 hln2 hG
  go_enter Tryd.func29, Tryd.ntmps29
  go_wp2_with fail
  refine plain_region (S := fun x => x.cell? ⟨b, 2112, none⟩ = some (.int .i64 (N : Int))) (fin := fun _ => false) (by kernel_rfl) ?_
  have E0d := Lib.hid E0.out.drew
  have hS := E0d.out.cellV i HI.out 2112 _ C0.out
  change walkS _ _ _ _ _ _ 15 _ _ _
  refine walkS_take (i := 0) (oi := ⟨some 5, _, _, _, _, _⟩) (v := .pointer (some ⟨b, 0, none⟩)) rfl (by kernel_rfl) (by kernel_rfl) (fun _ _ _ h => h) _ _ _ _ (by kernel_rfl) (by kernel_rfl) (Or.inl ⟨by rfl, fun w' hS' => (by first | rfl | (clear hS hS'; go_simp))⟩) hS ?_
  try simp only [Act.put, List.setIfInBounds_toArray, List.set_cons_zero, List.set_cons_succ]
  refine walkS_take (i := 1) (oi := ⟨some 6, _, _, _, _, _⟩) (v := .pointer (some ⟨b, 0, none⟩)) rfl (by kernel_rfl) (by kernel_rfl) (fun _ _ _ h => h) _ _ _ _ (by kernel_rfl) (by kernel_rfl) (Or.inl ⟨by rfl, fun w' hS' => (by first | rfl | (clear hS hS'; go_simp))⟩) hS ?_
  try simp only [Act.put, List.setIfInBounds_toArray, List.set_cons_zero, List.set_cons_succ]
  refine walkS_take (i := 2) (oi := ⟨some 7, _, _, _, _, _⟩) (v := .pointer (some ⟨b, 0, none⟩)) rfl (by kernel_rfl) (by kernel_rfl) (fun _ _ _ h => h) _ _ _ _ (by kernel_rfl) (by kernel_rfl) (Or.inl ⟨by rfl, fun w' hS' => (by first | rfl | (clear hS hS'; go_simp))⟩) hS ?_
  try simp only [Act.put, List.setIfInBounds_toArray, List.set_cons_zero, List.set_cons_succ]
  refine walkS_take (i := 3) (oi := ⟨some 8, _, _, _, _, _⟩) (v := .slice (some ⟨b, 0, none⟩) 64 64) rfl (by kernel_rfl) (by kernel_rfl) (fun _ _ _ h => h) _ _ _ _ (by kernel_rfl) (by kernel_rfl) (Or.inl ⟨by rfl, fun w' hS' => (run_slAll 33 44 27 64 (.tmp 7) rfl b rfl (by omega) Tryd.underlying44 Tryd.sizeT33)⟩) hS ?_
  try simp only [Act.put, List.setIfInBounds_toArray, List.set_cons_zero, List.set_cons_succ]
  refine walkS_take (i := 4) (oi := ⟨some 9, _, _, _, _, _⟩) (v := .pointer (some ⟨b, 0, none⟩)) rfl (by kernel_rfl) (by kernel_rfl) (fun _ _ _ h => h) _ _ _ _ (by kernel_rfl) (by kernel_rfl) (Or.inl ⟨by rfl, fun w' hS' => (by first | rfl | (clear hS hS'; go_simp))⟩) hS ?_
  try simp only [Act.put, List.setIfInBounds_toArray, List.set_cons_zero, List.set_cons_succ]
  refine walkS_take (i := 5) (oi := ⟨some 10, _, _, _, _, _⟩) (v := .pointer (some ⟨b, 0, none⟩)) rfl (by kernel_rfl) (by kernel_rfl) (fun _ _ _ h => h) _ _ _ _ (by kernel_rfl) (by kernel_rfl) (Or.inl ⟨by rfl, fun w' hS' => (by first | rfl | (clear hS hS'; go_simp))⟩) hS ?_
  try simp only [Act.put, List.setIfInBounds_toArray, List.set_cons_zero, List.set_cons_succ]
  refine walkS_take (i := 6) (oi := ⟨some 11, _, _, _, _, _⟩) (v := .pointer (some ⟨b, 0, none⟩)) rfl (by kernel_rfl) (by kernel_rfl) (fun _ _ _ h => h) _ _ _ _ (by kernel_rfl) (by kernel_rfl) (Or.inl ⟨by rfl, fun w' hS' => (by first | rfl | (clear hS hS'; go_simp))⟩) hS ?_
  try simp only [Act.put, List.setIfInBounds_toArray, List.set_cons_zero, List.set_cons_succ]
  refine walkS_take (i := 7) (oi := ⟨some 12, _, _, _, _, _⟩) (v := .int .i64 (G : Int)) rfl (by kernel_rfl) (by kernel_rfl) (fun _ _ _ h => h) _ _ _ _ (by kernel_rfl) (by kernel_rfl) (Or.inl ⟨by rfl, fun w' hS' => (by first | rfl | (clear hS hS'; go_simp))⟩) hS ?_
  try simp only [Act.put, List.setIfInBounds_toArray, List.set_cons_zero, List.set_cons_succ]
  refine walkS_take (i := 8) (oi := ⟨some 13, _, _, _, _, _⟩) (v := .pointer (some ⟨b, 0, none⟩)) rfl (by kernel_rfl) (by kernel_rfl) (fun _ _ _ h => h) _ _ _ _ (by kernel_rfl) (by kernel_rfl) (Or.inl ⟨by rfl, fun w' hS' => (by first | rfl | (clear hS hS'; go_simp))⟩) hS ?_
  try simp only [Act.put, List.setIfInBounds_toArray, List.set_cons_zero, List.set_cons_succ]
  refine walkS_take (i := 9) (oi := ⟨some 14, _, _, _, _, _⟩) (v := .pointer (some ⟨b, 0, none⟩)) rfl (by kernel_rfl) (by kernel_rfl) (fun _ _ _ h => h) _ _ _ _ (by kernel_rfl) (by kernel_rfl) (Or.inl ⟨by rfl, fun w' hS' => (by first | rfl | (clear hS hS'; go_simp))⟩) hS ?_
  try simp only [Act.put, List.setIfInBounds_toArray, List.set_cons_zero, List.set_cons_succ]
  refine walkS_take (i := 10) (oi := ⟨some 15, _, _, _, _, _⟩) (v := .pointer (some ⟨b, 2112, none⟩)) rfl (by kernel_rfl) (by kernel_rfl) (fun _ _ _ h => h) _ _ _ _ (by kernel_rfl) (by kernel_rfl) (Or.inl ⟨by rfl, fun w' hS' => (by first | rfl | (clear hS hS'; go_simp))⟩) hS ?_
  try simp only [Act.put, List.setIfInBounds_toArray, List.set_cons_zero, List.set_cons_succ]
  refine walkS_take (i := 11) (oi := ⟨some 16, _, _, _, _, _⟩) (v := .int .i64 (N : Int)) rfl (by kernel_rfl) (by kernel_rfl) (fun _ _ _ h => h) _ _ _ _ (by kernel_rfl) (by kernel_rfl) (Or.inl ⟨by rfl, fun w' hS' => (by have c := hS'; clear hS hS'; go_simp)⟩) hS ?_
  try simp only [Act.put, List.setIfInBounds_toArray, List.set_cons_zero, List.set_cons_succ]
  refine walkS_take (i := 12) (oi := ⟨some 17, _, _, _, _, _⟩) (v := .slice (some ⟨b, G * 33, none⟩) (N - G) (64 - G)) rfl (by kernel_rfl) (by kernel_rfl) (fun _ _ _ h => h) _ _ _ _ (by kernel_rfl) (by kernel_rfl) (Or.inl ⟨by rfl, fun w' hS' => (run_slLH 33 44 27 64 (.tmp 11) (.tmp 12) (.tmp 16) rfl b G N .i64 .i64 rfl rfl rfl (by omega) (by omega) (by omega) Tryd.underlying44 Tryd.sizeT33)⟩) hS ?_
  try simp only [Act.put, List.setIfInBounds_toArray, List.set_cons_zero, List.set_cons_succ]
  refine walkS_only (i := 13) (o := ⟨some 18, _, _, _, _, _⟩) (by kernel_rfl) rfl rfl fun KK hKK => ?_
  refine wp_copyRow (.tmp 8) (.tmp 17) 61 61 rfl 27 33 Tryd.underlying61 Tryd.sizeT33 b 46 (pastC L) (E0d.out.row i HI.out) 0 64 64 (G * 33) (N - G) (64 - G) D rfl rfl (by rw [hD]; exact Nat.min_eq_left (by omega)) (trF (L.drop G)) PS.out PL.out trF_one (by rw [P0.out, PL.out]; omega) _ P1.out fun w1 p1 => ?_
  have E1 := Lib.hid (E0d.out.put i HI.out p1)
  have hr1 := set_at (y := (b, 46, pastX (shiftT L G) N)) HI.out
  clear p1 hS E0 E0d
  have hS := E1.out.cellV i hr1 2112 _ C1.out
  refine hKK _ _ (.inr hS) ?_
  clear hKK KK
  try simp only [Act.put, List.setIfInBounds_toArray, List.set_cons_zero, List.set_cons_succ]
  refine walkS_only (i := 14) (o := ⟨some 4, _, _, _, _, _⟩) (by kernel_rfl) rfl rfl fun KK hKK => ?_
  refine wp_assignE (.tmp 18) rfl ?_
  refine hKK _ _ (.inr hS) (walkS_done (by kernel_rfl) ?_ _)
  clear hKK KK hS
  try simp only [Act.put, Act.eval, List.setIfInBounds_toArray, List.set_cons_zero, List.set_cons_succ]

  go_wp2_with fail
  refine plain_region (S := fun x => x.cell? ⟨b, 2112, none⟩ = some (.int .i64 (N : Int))) (fin := fun _ => false) (by kernel_rfl) ?_
  have E1d := Lib.hid E1.out.drew
  have hS := E1d.out.cellV i hr1 2112 _ C1.out
  change walkS _ _ _ _ _ _ 10 _ _ _
  refine walkS_take (i := 0) (oi := ⟨some 19, _, _, _, _, _⟩) (v := .pointer (some ⟨b, 0, none⟩)) rfl (by kernel_rfl) (by kernel_rfl) (fun _ _ _ h => h) _ _ _ _ (by kernel_rfl) (by kernel_rfl) (Or.inl ⟨by rfl, fun w' hS' => (by first | rfl | (clear hS hS'; go_simp))⟩) hS ?_
  try simp only [Act.put, List.setIfInBounds_toArray, List.set_cons_zero, List.set_cons_succ]
  refine walkS_take (i := 1) (oi := ⟨some 20, _, _, _, _, _⟩) (v := .pointer (some ⟨b, 0, none⟩)) rfl (by kernel_rfl) (by kernel_rfl) (fun _ _ _ h => h) _ _ _ _ (by kernel_rfl) (by kernel_rfl) (Or.inl ⟨by rfl, fun w' hS' => (by first | rfl | (clear hS hS'; go_simp))⟩) hS ?_
  try simp only [Act.put, List.setIfInBounds_toArray, List.set_cons_zero, List.set_cons_succ]
  refine walkS_take (i := 2) (oi := ⟨some 21, _, _, _, _, _⟩) (v := .pointer (some ⟨b, 0, none⟩)) rfl (by kernel_rfl) (by kernel_rfl) (fun _ _ _ h => h) _ _ _ _ (by kernel_rfl) (by kernel_rfl) (Or.inl ⟨by rfl, fun w' hS' => (by first | rfl | (clear hS hS'; go_simp))⟩) hS ?_
  try simp only [Act.put, List.setIfInBounds_toArray, List.set_cons_zero, List.set_cons_succ]
  refine walkS_take (i := 3) (oi := ⟨some 22, _, _, _, _, _⟩) (v := .int .i64 (D : Int)) rfl (by kernel_rfl) (by kernel_rfl) (fun _ _ _ h => h) _ _ _ _ (by kernel_rfl) (by kernel_rfl) (Or.inl ⟨by rfl, fun w' hS' => (by first | rfl | (clear hS hS'; go_simp))⟩) hS ?_
  try simp only [Act.put, List.setIfInBounds_toArray, List.set_cons_zero, List.set_cons_succ]
  refine walkS_take (i := 4) (oi := ⟨some 23, _, _, _, _, _⟩) (v := .pointer (some ⟨b, 0, none⟩)) rfl (by kernel_rfl) (by kernel_rfl) (fun _ _ _ h => h) _ _ _ _ (by kernel_rfl) (by kernel_rfl) (Or.inl ⟨by rfl, fun w' hS' => (by first | rfl | (clear hS hS'; go_simp))⟩) hS ?_
  try simp only [Act.put, List.setIfInBounds_toArray, List.set_cons_zero, List.set_cons_succ]
  refine walkS_take (i := 5) (oi := ⟨some 24, _, _, _, _, _⟩) (v := .pointer (some ⟨b, 0, none⟩)) rfl (by kernel_rfl) (by kernel_rfl) (fun _ _ _ h => h) _ _ _ _ (by kernel_rfl) (by kernel_rfl) (Or.inl ⟨by rfl, fun w' hS' => (by first | rfl | (clear hS hS'; go_simp))⟩) hS ?_
  try simp only [Act.put, List.setIfInBounds_toArray, List.set_cons_zero, List.set_cons_succ]
  refine walkS_take (i := 6) (oi := ⟨some 25, _, _, _, _, _⟩) (v := .pointer (some ⟨b, 2112, none⟩)) rfl (by kernel_rfl) (by kernel_rfl) (fun _ _ _ h => h) _ _ _ _ (by kernel_rfl) (by kernel_rfl) (Or.inl ⟨by rfl, fun w' hS' => (by first | rfl | (clear hS hS'; go_simp))⟩) hS ?_
  try simp only [Act.put, List.setIfInBounds_toArray, List.set_cons_zero, List.set_cons_succ]
  refine walkS_take (i := 7) (oi := ⟨some 26, _, _, _, _, _⟩) (v := .int .i64 (N : Int)) rfl (by kernel_rfl) (by kernel_rfl) (fun _ _ _ h => h) _ _ _ _ (by kernel_rfl) (by kernel_rfl) (Or.inl ⟨by rfl, fun w' hS' => (by have c := hS'; clear hS hS'; go_simp)⟩) hS ?_
  try simp only [Act.put, List.setIfInBounds_toArray, List.set_cons_zero, List.set_cons_succ]
  refine walkS_take (i := 8) (oi := ⟨some 27, _, _, _, _, _⟩) (v := .slice (some ⟨b, D * 33, none⟩) (N - D) (64 - D)) rfl (by kernel_rfl) (by kernel_rfl) (fun _ _ _ h => h) _ _ _ _ (by kernel_rfl) (by kernel_rfl) (Or.inl ⟨by rfl, fun w' hS' => (run_slLH 33 44 27 64 (.tmp 21) (.tmp 22) (.tmp 26) rfl b D N .i64 .i64 rfl rfl rfl (by omega) (by omega) (by omega) Tryd.underlying44 Tryd.sizeT33)⟩) hS ?_
  try simp only [Act.put, List.setIfInBounds_toArray, List.set_cons_zero, List.set_cons_succ]
  refine walkS_only (i := 9) (o := ⟨none, _, _, _, _, _⟩) (by kernel_rfl) rfl rfl fun KK hKK => ?_
  refine wp_clearRow (.tmp 27) 61 rfl 27 (.agg (trC zeroKey 0)) Tryd.underlying61 Tryd.zeroT b 46 (pastX (shiftT L G) N) (E1d.out.row i hr1) (D * 33) (N - D) (64 - D) rfl (by omega) (trF (List.replicate G zeroT)) (by rw [show N - D = G by omega]; exact zeroT_cells G) trF_one (by rw [S1.out, ZL.out]; omega) _ P2.out fun w2 p2 => ?_
  have E2 := Lib.hid (E1d.out.put i hr1 p2)
  simp only [List.set_set] at E2
  clear p2 hS E1 E1d hr1
  have hr2 := set_at (y := (b, 46, pastX (fillT (L.drop G)) N)) HI.out
  have f2 := E2.out.fzV i hr2 2112
  have c2 := E2.out.row i hr2
  have E3 := Lib.hid (E2.out.cellTo i hr2 2112 (.int .i64 (D : Int)) P3.out)
  simp only [List.set_set] at E3
  have c3 : w2.cell? ⟨b, 2112, none⟩ = some (.int .i64 (N : Int)) := by rw [c2.cell 2112]; exact C2.out
  refine hKK _ _ (.inr c3) (walkS_done (by kernel_rfl) ?_ _)
  clear hKK KK E2 c2
  go_wp2
  rw [hD] at E3
  exact bodyPost_end (results_none rfl _ _ _) rfl ⟨rfl, E3.out⟩
end Go.Proofs.YtlifjlcfoeednaaDoor
end
