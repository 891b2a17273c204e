/-
  Texts that belong together, merged: OtsRefE, OtsRefF, OtsRefG, OtsRefH. Conditions: as each theorem names them.
-/
import Derived.Test.YtfnmglicfgkmjaaDoorQOtsAN
import Derived.Test.YtfnmglicfgkmjaaDoorQOtsAL
import Derived.Test.YtfnmglicfgkmjaaDoorQOtsAI
section
namespace Go.Proofs.YtfnmglicfgkmjaaDoor
open Go.RowKit
set_option linter.unusedVariables false
set_option maxRecDepth 20000

theorem flat_next (f : Nat → List UInt8) (c : Nat) : ((List.range (c + 1)).map f).flatten = ((List.range c).map f).flatten ++ f c := by
  rw [List.range_succ, List.map_append, List.flatten_append]
  simp
theorem flat_len (f : Nat → List UInt8) (hf : ∀ c, (f c).length = 32) (c : Nat) : ((List.range c).map f).flatten.length = 32 * c := by
  induction c with
  | zero => rfl
  | succ c ih => rw [flat_next, List.length_append, ih, hf]; omega

set_option maxHeartbeats 8000000 in
theorem refPublic_env (w0 W : World) (rs : List (Nat × TypeId × Array Value)) (m g n : Nat) (s t : List UInt8) (ls : s.length = 32) (lt : t.length = 32) (hE : Env w0 rs W) (hm : rs[m]? = some (g, 32, logC n)) (hn : n ≤ 500000) :
    Calls Tryd.prog 17 #[.pointer (some ⟨g, 0, none⟩), .agg (keyC s), .agg (keyC t)] W fun e x => ∃ n', n' ≤ n + 1300 ∧ e = .returned (.agg (keyC (pubB s t))) ∧ Env w0 (rs.set m (g, 32, logC n')) x := by
  have HM := Lib.hid hm
  have E0 := Lib.hid hE
  have LS := Lib.hid ls
  have LT := Lib.hid lt
  obtain ⟨f, hf⟩ : ∃ f : Nat → List UInt8, f = fun (c : Nat) => alongB t (c : Int) 0 (beginB s c) 15 := ⟨_, rfl⟩
  have LF : Hid (∀ c, (f c).length = 32) := fun c => by rw [hf]; exact alongB_length _ _ _ _ (beginB_length _ _) _
  obtain ⟨h0, hh0⟩ : ∃ h : Nat → List UInt8, h = fun (c : Nat) => beginB s c := ⟨_, rfl⟩
  have LH : Hid (∀ c, (h0 c).length = 32) := fun c => by rw [hh0]; exact beginB_length _ _
  obtain ⟨k, hk⟩ : ∃ k, k = pubB s t := ⟨_, rfl⟩
  have HK : Hid (k = digestB (t ++ ((List.range 67).map f).flatten)) := by show _ = _; rw [hk, hf]; rfl
  have LK : Hid (k.length = 32) := by show _ = _; rw [hk]; exact digestB_length _
  have CB : Hid (∀ (c : Nat) x rs' m' n', c < 67 → n' ≤ 800000 → Env w0 rs' x → rs'[m']? = some (g, 32, logC n') → Calls Tryd.prog 32 #[.pointer (some ⟨g, 0, none⟩), .agg (keyC s), .int .i64 (c : Int)] x fun e w' => ∃ n'', n'' ≤ n' + 3 ∧ e = .returned (.agg (keyC (h0 c))) ∧ Env w0 (rs'.set m' (g, 32, logC n'')) w') := fun c x rs' m' n' h1 h2 h3 h4 => by
    rw [hh0]
    exact refBegin_env w0 x rs' m' g n' h3 h4 (by omega) s LS.out c (by omega)
  have CA : Hid (∀ (c : Nat) x rs' m' n', c < 67 → n' ≤ 900000 → Env w0 rs' x → rs'[m']? = some (g, 32, logC n') → Calls Tryd.prog 13 #[.pointer (some ⟨g, 0, none⟩), .agg (keyC t), .int .i64 (c : Int), .int .i64 0, .int .i64 15, .agg (keyC (h0 c))] x fun e w' => e = .returned (.agg (keyC (f c))) ∧ Env w0 (rs'.set m' (g, 32, logC (n' + 15))) w') := fun c x rs' m' n' h1 h2 h3 h4 => by
    rw [hf, hh0]
    exact refAlong_env w0 x rs' m' g n' h3 h4 t _ LT.out (beginB_length _ _) c 0 15 (by omega) (by omega) (by omega) 15 (by omega) (by omega) (by omega)
  have HT : Hid (∀ x, Calls Tryd.prog 25 #[.agg (keyC t)] x (RetOwn x 5 t)) := fun x => refBytes_own x t LT.out
  have HBY : Hid (∀ c x, Calls Tryd.prog 25 #[.agg (keyC (f c))] x (RetOwn x 5 (f c))) := fun c x => refBytes_own x _ (LF.out c)
  rw [← hk]
  clear hm hE ls lt hf hh0 hk
  go_enter Tryd.func17, Tryd.ntmps17
  go_wp2_with (first
    | ((with_reducible refine wpE_box (o := ⟨some 4, _, _, _, _, _⟩) rfl 23 (.tmp 1) rfl (keyC s) (by with_unfolding_all rfl) E0.out ?_); intro g4 w1 T1; have E1 := Lib.hid T1; clear T1)
    | ((with_reducible refine wpE_box (o := ⟨some 5, _, _, _, _, _⟩) rfl 23 (.tmp 2) rfl (keyC t) (by with_unfolding_all rfl) E1.out ?_); intro g5 w2 T2; have E2 := Lib.hid T2; clear T2)
    | ((with_reducible refine wpE_alloc (o := ⟨some 6, _, _, _, _, _⟩) rfl 23 rfl (keyC zeroKey) Tryd.zeroK E2.out ?_); intro g6 w3 T3; have E3 := Lib.hid T3; clear T3)
    | (with_reducible refine wpE_load (o := ⟨some 9, _, _, _, _, _⟩) rfl 23 (.tmp 5) rfl 1 g5 23 (keyC t) _ (by with_unfolding_all rfl) (by with_unfolding_all rfl) Tryd.underlying23 rfl (Tryd.sizeKey _ LT.out) E3.out ?_))
  refine (HT.out _).mono ?_
  intro e w4 h
  obtain ⟨u0, he, o4, b4⟩ := h
  subst he
  have R4 : Hid (ByRow w0 ((g6, 23, keyC zeroKey) :: (g5, 23, keyC t) :: (g4, 23, keyC s) :: rs) u0 (t ++ ((List.range 0).map f).flatten) w4) := by
    show ByRow _ _ _ _ _
    rw [show ((List.range 0).map f).flatten = [] from rfl, List.append_nil]
    exact ByRow.of E3.out b4 o4 (by rw [LT.out]; omega)
  clear o4 b4 E3 E2 E1 E0
  go_wp2_with fail
  go_loopw [7, 8] (fun u v wr => ∃ c n' : Nat, c ≤ 67 ∧ n' ≤ n + 18 * c ∧ v = .int .i64 (c : Int) ∧ ByRow w0 ((g6, 23, keyC zeroKey) :: (g5, 23, keyC t) :: (g4, 23, keyC s) :: rs.set m (g, 32, logC n')) u (t ++ ((List.range c).map f).flatten) wr) (fun _ v _ => 67 - (intOf v).toNat)
  case atStart => exact ⟨0, n, by omega, by omega, rfl, by rw [set_id HM.out]; exact R4.out⟩
  case round =>
    clear R4
    obtain ⟨c, n', hc, hn', rfl, hR⟩ := hrel
    have R := Lib.hid hR
    clear hR
    by_cases hlt : c < 67
    · have hlt2 : (c : Int) < 67 := by omega
      have hw1 : IntKind.i64.wrap ((c : Int) + 1) = (c : Int) + 1 := IntWalk.i64_in _ (by omega)
      have LFC := Lib.hid (LF.out c)
      have LEN : Hid ((t ++ ((List.range c).map f).flatten).length = 32 + 32 * c) := by show _ = _; rw [List.length_append, LT.out, flat_len f LF.out]
      go_wp2_with fail
      have sub : ∀ x nn u l, ByRow w0 ((g6, 23, keyC zeroKey) :: (g5, 23, keyC t) :: (g4, 23, keyC s) :: rs.set m (g, 32, logC nn)) u l x → Env w0 [(g5, 23, keyC t), (g4, 23, keyC s)] x := fun x nn u l h => h.env.less (.cons _ (.cons_cons _ (.cons_cons _ (List.nil_sublist _))))
      have SUB := Lib.hid sub
      clear sub
      refine plain_region (S := fun x => Env w0 [(g5, 23, keyC t), (g4, 23, keyC s)] x) (fin := fun _ => false) (by kernel_rfl) ?_
      have RD : Hid (ByRow w0 ((g6, 23, keyC zeroKey) :: (g5, 23, keyC t) :: (g4, 23, keyC s) :: rs.set m (g, 32, logC n')) u7 (t ++ ((List.range c).map f).flatten) wr.drew) := R.out.call (Below.refl _ _).drew
      have hS := SUB.out _ _ _ _ RD.out
      change walkS _ _ _ _ _ _ 12 _ _ _
      refine walkS_take (i := 0) (oi := ⟨some 15, _, _, _, _, _⟩) (v := u7) rfl (by kernel_rfl) (by kernel_rfl) (fun _ _ _ h => h) _ _ _ _ (by kernel_rfl) (by kernel_rfl) (Or.inl ⟨by rfl, fun w' hS' => (by first | rfl | (clear hS hS'; go_simp))⟩) hS ?_
      try simp only [Act.put, List.setIfInBounds_toArray, List.set_cons_zero, List.set_cons_succ]
      refine walkS_take (i := 1) (oi := ⟨some 16, _, _, _, _, _⟩) (v := .pointer (some ⟨g, 0, none⟩)) rfl (by kernel_rfl) (by kernel_rfl) (fun _ _ _ h => h) _ _ _ _ (by kernel_rfl) (by kernel_rfl) (Or.inl ⟨by rfl, fun w' hS' => (by first | rfl | (clear hS hS'; go_simp))⟩) hS ?_
      try simp only [Act.put, List.setIfInBounds_toArray, List.set_cons_zero, List.set_cons_succ]
      refine walkS_take (i := 2) (oi := ⟨some 17, _, _, _, _, _⟩) (v := .agg (keyC t)) rfl (by kernel_rfl) (by kernel_rfl) (fun _ _ _ h => h) _ _ _ _ (by kernel_rfl) (by kernel_rfl) (Or.inl ⟨by rfl, fun w' hS' => (run_load_row 23 (.tmp 5) rfl g5 rfl 23 (keyC t) (0, 0) _ (hS'.row 0 rfl) Tryd.underlying23 rfl (Tryd.sizeKey t LT.out))⟩) hS ?_
      try simp only [Act.put, List.setIfInBounds_toArray, List.set_cons_zero, List.set_cons_succ]
      refine walkS_take (i := 3) (oi := ⟨some 18, _, _, _, _, _⟩) (v := .int .i64 (c : Int)) rfl (by kernel_rfl) (by kernel_rfl) (fun _ _ _ h => h) _ _ _ _ (by kernel_rfl) (by kernel_rfl) (Or.inl ⟨by rfl, fun w' hS' => (by first | rfl | (clear hS hS'; go_simp))⟩) hS ?_
      try simp only [Act.put, List.setIfInBounds_toArray, List.set_cons_zero, List.set_cons_succ]
      refine walkS_take (i := 4) (oi := ⟨some 19, _, _, _, _, _⟩) (v := .pointer (some ⟨g, 0, none⟩)) rfl (by kernel_rfl) (by kernel_rfl) (fun _ _ _ h => h) _ _ _ _ (by kernel_rfl) (by kernel_rfl) (Or.inl ⟨by rfl, fun w' hS' => (by first | rfl | (clear hS hS'; go_simp))⟩) hS ?_
      try simp only [Act.put, List.setIfInBounds_toArray, List.set_cons_zero, List.set_cons_succ]
      refine walkS_take (i := 5) (oi := ⟨some 20, _, _, _, _, _⟩) (v := .agg (keyC s)) rfl (by kernel_rfl) (by kernel_rfl) (fun _ _ _ h => h) _ _ _ _ (by kernel_rfl) (by kernel_rfl) (Or.inl ⟨by rfl, fun w' hS' => (run_load_row 23 (.tmp 4) rfl g4 rfl 23 (keyC s) (0, 0) _ (hS'.row 1 rfl) Tryd.underlying23 rfl (Tryd.sizeKey s LS.out))⟩) hS ?_
      try simp only [Act.put, List.setIfInBounds_toArray, List.set_cons_zero, List.set_cons_succ]
      refine walkS_take (i := 6) (oi := ⟨some 21, _, _, _, _, _⟩) (v := .int .i64 (c : Int)) rfl (by kernel_rfl) (by kernel_rfl) (fun _ _ _ h => h) _ _ _ _ (by kernel_rfl) (by kernel_rfl) (Or.inl ⟨by rfl, fun w' hS' => (by first | rfl | (clear hS hS'; go_simp))⟩) hS ?_
      try simp only [Act.put, List.setIfInBounds_toArray, List.set_cons_zero, List.set_cons_succ]
      clear hS R
      refine walkS_only (i := 7) (o := ⟨some 22, _, _, _, _, _⟩) (by kernel_rfl) rfl rfl fun KK hKK => ?_
      go_simp
      obtain ⟨gu, cap, cr, hu, q1, q2, q3, q4, hE⟩ := RD.out
      refine (CB.out c _ _ (m + 4) n' hlt (by omega) hE (by simp only [List.getElem?_cons_succ]; exact set_at HM.out)).mono ?_
      intro e w5 h
      obtain ⟨n5, hn5, he, h5⟩ := h
      subst he
      simp only [List.set_cons_succ, List.set_set] at h5
      have R5 : Hid (ByRow w0 ((g6, 23, keyC zeroKey) :: (g5, 23, keyC t) :: (g4, 23, keyC s) :: rs.set m (g, 32, logC n5)) u7 (t ++ ((List.range c).map f).flatten) w5) := ⟨gu, cap, cr, hu, q1, q2, q3, q4, h5⟩
      clear h5 hE RD hu q1 q2 q3 q4
      refine hKK _ _ (.inr (SUB.out _ _ _ _ R5.out)) ?_
      clear hKK KK
      try simp only [Act.put, List.setIfInBounds_toArray, List.set_cons_zero, List.set_cons_succ]
      refine walkS_only (i := 8) (o := ⟨some 23, _, _, _, _, _⟩) (by kernel_rfl) rfl rfl fun KK hKK => ?_
      go_simp
      obtain ⟨gu, cap, cr, hu, q1, q2, q3, q4, hE⟩ := R5.out
      refine (CA.out c _ _ (m + 4) n5 hlt (by omega) hE (by simp only [List.getElem?_cons_succ]; exact set_at HM.out)).mono ?_
      intro e w6 h
      obtain ⟨he, h6⟩ := h
      subst he
      simp only [List.set_cons_succ, List.set_set] at h6
      have R6 : Hid (ByRow w0 ((g6, 23, keyC zeroKey) :: (g5, 23, keyC t) :: (g4, 23, keyC s) :: rs.set m (g, 32, logC (n5 + 15))) u7 (t ++ ((List.range c).map f).flatten) w6) := ⟨gu, cap, cr, hu, q1, q2, q3, q4, h6⟩
      clear h6 hE R5 hu q1 q2 q3 q4
      refine hKK _ _ (.inr (SUB.out _ _ _ _ R6.out)) ?_
      clear hKK KK
      try simp only [Act.put, List.setIfInBounds_toArray, List.set_cons_zero, List.set_cons_succ]
      refine walkS_only (i := 9) (o := ⟨some 24, _, _, _, _, _⟩) (by kernel_rfl) rfl rfl fun KK hKK => ?_
      go_simp
      refine (HBY.out c _).mono ?_
      intro e w7 h
      obtain ⟨u9, he, o7, b7⟩ := h
      subst he
      have R7 := Lib.hid (R6.out.call b7)
      have U9 := Lib.hid o7.bs
      clear o7 b7 R6
      refine hKK _ _ (.inr (SUB.out _ _ _ _ R7.out)) ?_
      clear hKK KK
      try simp only [Act.put, List.setIfInBounds_toArray, List.set_cons_zero, List.set_cons_succ]
      refine walkS_only (i := 10) (o := ⟨some 25, _, _, _, _, _⟩) (by kernel_rfl) rfl rfl fun KK hKK => ?_
      refine wp_appRow (.tmp 15) (.tmp 24) 68 rfl Tryd.infoB Tryd.underlying68 u7 u9 _ (f c) rfl rfl R7.out U9.out (by rw [LEN.out, LFC.out]; omega) (by rw [LEN.out]; omega) fun v8 w8 r8 => ?_
      have R8 : Hid (ByRow w0 ((g6, 23, keyC zeroKey) :: (g5, 23, keyC t) :: (g4, 23, keyC s) :: rs.set m (g, 32, logC (n5 + 15))) v8 (t ++ ((List.range (c + 1)).map f).flatten) w8) := by
        show ByRow _ _ _ _ _
        rw [flat_next, ← List.append_assoc]
        exact r8
      clear r8 R7 U9
      refine hKK _ _ (.inr (SUB.out _ _ _ _ R8.out)) ?_
      clear hKK KK
      try simp only [Act.put, List.setIfInBounds_toArray, List.set_cons_zero, List.set_cons_succ]
      refine walkS_only (i := 11) (o := ⟨some 7, _, _, _, _, _⟩) (by kernel_rfl) rfl rfl fun KK hKK => ?_
      refine wp_assignE (.tmp 25) rfl ?_
      refine hKK _ _ (.inr (SUB.out _ _ _ _ R8.out)) (walkS_done (by kernel_rfl) ?_ _)
      clear hKK KK
      try simp only [Act.put, List.setIfInBounds_toArray, List.set_cons_zero, List.set_cons_succ]
      go_wp2_with fail
      go_roundw
      · exact ⟨c + 1, n5 + 15, by omega, by omega, by congr 1, R8.out⟩
      · show 67 - ((c : Int) + 1).toNat < 67 - (c : Int).toNat
        omega
    · have hc2 : c = 67 := by omega
      clear hlt
      subst hc2
      have HLN : Hid ((t ++ ((List.range 67).map f).flatten).length ≤ 1000000) := by show _ ≤ _; rw [List.length_append, LT.out, flat_len f LF.out]; omega
      have BU := Lib.hid R.out.bs
      go_wp2_with fail
      refine (LogSum_env (m := m + 3) (n := n') R.out.env (by simp only [List.getElem?_cons_succ]; exact set_at HM.out) _ _ k (by omega) HK.out BU.out HLN.out).mono ?_
      intro e w9 h
      obtain ⟨he, h9⟩ := h
      subst he
      simp only [List.set_cons_succ, List.set_set] at h9
      have E9 := Lib.hid h9
      clear h9 R BU
      go_wp2_with ((with_reducible refine wpE_store (o := ⟨none, _, _, _, _, _⟩) rfl 23 (.tmp 6) (.tmp 28) rfl 0 g6 23 (keyC zeroKey) (keyC k) (by with_unfolding_all rfl) (by with_unfolding_all rfl) (by with_unfolding_all rfl) (keyC_same zeroKey_length LK.out) (Tryd.sizeKey _ LK.out) (keyC_one _) E9.out ?_); intro w10 T10; simp only [List.set_cons_zero] at T10; have E10 := Lib.hid T10; clear T10)
      exact bodyPost_ret (results_cell_row rfl _ _ g6 23 (keyC k) (0, 0) (.array 32 5) rfl (E10.out.row 0 rfl) Tryd.underlying23 rfl (Tryd.sizeKey _ LK.out)) rfl ⟨n' + 1, by omega, rfl, E10.out.tl.tl.tl⟩
end Go.Proofs.YtfnmglicfgkmjaaDoor
end
section
namespace Go.Proofs.YtfnmglicfgkmjaaDoor
open Go.RowKit
set_option linter.unusedVariables false
set_option maxRecDepth 20000

/-- The row of a list of keys, if there is one yet. -/
def exRow (v : Value) (ls : List (List UInt8)) (base : Nat) (ex : List (Nat × TypeId × Array Value)) : Prop :=
  (ex = [] ∧ v = .slice none 0 0 ∧ ls = []) ∨ ∃ g cap cur, ex = [(g, 23, cur)] ∧ v = .slice (some ⟨g, 0, none⟩) ls.length cap ∧ base ≤ g ∧ ls.length ≤ cap ∧ cap ≤ maxLen ∧ cur.size = cap * 32 ∧ cur.toList.take (ls.length * 32) = cellsB ls.flatten
theorem ex_own {w0 x : World} {v : Value} {ls : List (List UInt8)} {base : Nat} {rs ex : List (Nat × TypeId × Array Value)} (h : exRow v ls base ex) (hl : ∀ l ∈ ls, l.length = 32) (hE : Env w0 (rs ++ ex) x) : x.ownsRow base 23 32 v ls.length (cellsB ls.flatten) := by
  refine ⟨by rw [cellsB_length, flat_length ls hl], ?_⟩
  rcases h with ⟨_, hv, hls⟩ | ⟨g, cap, cur, rfl, hv, h1, h2, h3, h4, h5⟩
  · exact .inl ⟨hv, by rw [hls]; rfl⟩
  · exact .inr ⟨g, cap, cur, hv, h1, (hE.rows (g, 23, cur) (List.mem_append_right _ (List.mem_singleton.2 rfl))).1, h2, h3, h4, h5⟩
theorem at_left {α : Type} {rs ex : List α} {m : Nat} {y : α} (h : rs[m]? = some y) : (rs ++ ex)[m]? = some y := by
  have := (List.getElem?_eq_some_iff.1 h).1
  rw [List.getElem?_append_left this, h]
theorem set_left {α : Type} {rs ex : List α} {m : Nat} {x y : α} (h : rs[m]? = some y) : (rs ++ ex).set m x = rs.set m x ++ ex := List.set_append_left _ _ (List.getElem?_eq_some_iff.1 h).1
/-- append of a key. -/
theorem wp_appKey {P : Program} {w0 w : World} {rs ex : List (Nat × TypeId × Array Value)} {o : Oper} {a : Act} {K : Act → World → Prop} {Q : Exit → Act → World → Prop} (s x : Operand) (t : TypeId)
    (ho : o.op = .call { callee := .builtin .append, args := #[s, x], argTypes := #[t, t] })
    (hinfo : (P.info? 23).map (fun i => (i.zero, i.size, i.bytes)) = some (some (.agg (keyC zeroKey)), 32, 32)) (ht : P.underlying t = some (.slice 23))
    (base : Nat) (v : Value) (ls : List (List UInt8)) (l : List UInt8) (b : Nat) (hs : a.eval s = v) (hx : a.eval x = .slice (some ⟨b, 0, none⟩) 1 1) (hb : RowAt w b 23 (keyC l)) (hll : l.length = 32) (hls : ∀ l ∈ ls, l.length = 32)
    (hex : exRow v ls base ex) (hE : Env w0 (rs ++ ex) w) (hB : ∀ r ∈ rs, r.1 < base) (h0 : w0.heap.size ≤ base) (hbw : base ≤ w.heap.size) (hn : ls.length ≤ 1000)
    (h : ∀ v' w' ex', exRow v' (ls ++ [l]) base ex' → Env w0 (rs ++ ex') w' → base ≤ w'.heap.size → K (a.put o.dst v') w') : o.wp P a w K Q := by
  obtain ⟨i0, hi, hz0, hz1, hz2⟩ := info_parts hinfo
  have hown := ex_own hex hls hE
  refine wp_append_own w s x t ho base 23 i0 (.agg (keyC zeroKey)) 32 32 ht hi hz0 hz1 hz2 rfl (by decide) v ls.length (cellsB ls.flatten) hs hown ⟨b, 0, none⟩ 1 1 (cellsB l) hx (by rw [cellsB_length, hll]) (fun j y hj => ?_) (cellsB_one l) (by unfold maxLen; omega) (by omega) hbw fun v' w' ho' hg' _ => ?_
  · have hadd : (⟨b, 0, none⟩ : Addr).add j = ⟨b, j, none⟩ := by unfold Addr.add; split <;> simp_all
    rw [hadd, hb.cell j]
    simpa [keyC] using hj
  · have hEr : Env w0 rs w' := (hE.less (List.sublist_append_left _ _)).grown hg' (fun r hm e => by
      have h1 := hB r hm
      have h2 := (World.ownsRow.lt hown r.1 e.symm).1
      omega) (fun k hk => Nat.le_trans h0 (World.ownsRow.lt hown k hk).1)
    have hsz := Nat.le_trans hbw hg'.size
    rcases ho'.2 with ⟨_, hc⟩ | ⟨g', cap', cur', rfl, hbg, hrow, q1, q2, q3, q4⟩
    · omega
    · refine h _ w' [(g', 23, cur')] (.inr ⟨g', cap', cur', rfl, by simp, hbg, by simpa using q1, q2, q3, by simpa [cellsB] using q4⟩) ?_ hsz
      have := hEr.add hrow (Nat.le_trans h0 hbg) fun r hm => by have := hB r hm; omega
      refine ⟨this.below, fun r hr => ?_, ?_⟩
      · rcases List.mem_append.1 hr with hr | hr
        · exact this.rows r (List.mem_cons_of_mem _ hr)
        · exact this.rows r (List.mem_cons.2 (.inl (List.mem_singleton.1 hr)))
      · rw [List.map_append]
        have h3 := this.apart
        rw [List.map_cons] at h3
        have h4 : ([g'] ++ rs.map fun r => r.1).Nodup := h3
        have hp : List.Perm ([g'] ++ rs.map fun r => r.1) ((rs.map fun r => r.1) ++ [g']) := List.perm_append_comm
        exact hp.nodup_iff.1 h4
end Go.Proofs.YtfnmglicfgkmjaaDoor
end
section
namespace Go.Proofs.YtfnmglicfgkmjaaDoor
open Go.RowKit
set_option linter.unusedVariables false
set_option maxRecDepth 20000

theorem take_cellI {w : World} {b : Nat} {t : TypeId} {cur : Array Value} {D : List Nat} (hr : RowAt w b t cur) (ht : cur.toList.take 67 = cellsI D) (j : Nat) (hj : j < D.length) : w.cell? ⟨b, j, none⟩ = some (.int .i64 ((D.getD j 0 : Nat) : Int)) := by
  rw [hr.cell]
  have h1 : (cellsI D)[j]? = some (.int .i64 ((D.getD j 0 : Nat) : Int)) := by
    have := intC_get D j hj
    simpa [intC] using this
  rw [← ht, List.getElem?_take] at h1
  split at h1
  · simpa using h1
  · cases h1
theorem wp_oneKey {w : World} {o : Oper} {a : Act} {K : Act → World → Prop} {Q : Exit → Act → World → Prop} (x : Operand) (ho : o.op = .buildSlice 39 1 #[(0, x)]) (l : List UInt8) (hl : l.length = 32) (hx : a.eval x = .agg (keyC l))
    (h : K (a.put o.dst (.slice (some ⟨w.heap.size, 0, none⟩) 1 1)) (w.alloc (.cells (keyC l) 23))) : o.wp Tryd.prog a w K Q := by
  obtain ⟨ie, hie, hs⟩ := Option.map_eq_some_iff.1 Tryd.key32
  obtain ⟨ie2, hie2, hz2⟩ := Option.map_eq_some_iff.1 Tryd.zeroK
  obtain rfl : ie = ie2 := by rw [hie] at hie2; exact Option.some.inj hie2
  refine wp_buildSlice 39 23 1 _ ho (keyC l) ie (.agg (keyC zeroKey)) Tryd.underlying39 hie hz2 (by rw [hs]; omega) (by rw [hs]; omega) ?_ h
  have hp : (#[((0 : Nat), x)].map fun (i, x) => (i, a.eval x)).toList = (([l].map fun l => Value.agg (keyC l)).zipIdx 0).map fun x => (x.2, x.1) := by simp [hx]
  rw [hp, hs, show keyC l = ((([l].map fun l => Value.agg (keyC l)).flatMap fun v => v.cells.toList).toArray) by rw [keys_flat]; simp]
  refine Great.fill_whole (by omega) _ _ (fun v hv => ?_) (by simp)
  obtain ⟨l', hm, rfl⟩ := List.mem_map.1 hv
  obtain rfl : l' = l := by simpa using hm
  simp [Value.cells, keyC_size, hl]

/-- Behind all of these rows. -/
def topOf (rs : List (Nat × TypeId × Array Value)) : Nat := rs.foldr (fun r a => max (r.1 + 1) a) 0
theorem lt_topOf {rs : List (Nat × TypeId × Array Value)} : ∀ r ∈ rs, r.1 < topOf rs := by
  induction rs with
  | nil => intro r h; cases h
  | cons x rs ih =>
    intro r h
    have e : topOf (x :: rs) = max (x.1 + 1) (topOf rs) := rfl
    rcases List.mem_cons.1 h with rfl | h
    · rw [e]; exact Nat.lt_of_lt_of_le (Nat.lt_succ_self _) (Nat.le_max_left _ _)
    · rw [e]; exact Nat.lt_of_lt_of_le (ih r h) (Nat.le_max_right _ _)
theorem topOf_le {rs : List (Nat × TypeId × Array Value)} {B : Nat} (h : ∀ r ∈ rs, r.1 < B) : topOf rs ≤ B := by
  induction rs with
  | nil => exact Nat.zero_le _
  | cons x rs ih =>
    have e : topOf (x :: rs) = max (x.1 + 1) (topOf rs) := rfl
    rw [e]
    exact Nat.max_le.2 ⟨h x List.mem_cons_self, ih fun r hr => h r (List.mem_cons_of_mem _ hr)⟩
theorem topOf_set {rs : List (Nat × TypeId × Array Value)} {g : Nat} {t t' : TypeId} {o c : Array Value} : ∀ {m : Nat}, rs[m]? = some (g, t, o) → topOf (rs.set m (g, t', c)) = topOf rs := by
  induction rs with
  | nil => intro m h; rfl
  | cons x rs ih =>
    intro m h
    cases m with
    | zero =>
      have : x = (g, t, o) := by simpa using h
      subst this
      rfl
    | succ m =>
      have h2 := ih (m := m) (by simpa using h)
      show max (x.1 + 1) (topOf (rs.set m (g, t', c))) = max (x.1 + 1) (topOf rs)
      rw [h2]

set_option maxHeartbeats 8000000 in
theorem refSign_env (w0 W : World) (rs : List (Nat × TypeId × Array Value)) (m g n : Nat) (s t d : List UInt8) (ls : s.length = 32) (lt : t.length = 32) (ld : d.length = 32) (hE : Env w0 rs W) (hm : rs[m]? = some (g, 32, logC n)) (hn : n ≤ 500000) :
    Calls Tryd.prog 19 #[.pointer (some ⟨g, 0, none⟩), .agg (keyC s), .agg (keyC t), .agg (keyC d)] W fun e x => ∃ n' ge cap cur, n' ≤ n + 1300 ∧ e = .returned (.slice (some ⟨ge, 0, none⟩) 67 cap) ∧ Env w0 ((ge, 23, cur) :: rs.set m (g, 32, logC n')) x ∧ cur.toList.take (67 * 32) = cellsB (signL s t d).flatten := by
  have HM := Lib.hid hm
  have E0 := Lib.hid hE
  have LS := Lib.hid ls
  have LT := Lib.hid lt
  have LDG := Lib.hid ld
  obtain ⟨D, hD⟩ : ∃ D, D = digitsL d := ⟨_, rfl⟩
  have DL : Hid (D.length = 67) := by show _ = _; rw [hD]; exact digitsL_length d ld
  have DB : Hid (∀ c, D.getD c 0 ≤ 15) := fun c => by rw [hD]; exact digitsL_getD d ld c
  have CD : Hid (∀ x rs', Env w0 rs' x → Calls Tryd.prog 10 #[.agg (keyC d)] x fun e w' => ∃ b c cur, e = .returned (.slice (some ⟨b, 0, none⟩) 67 c) ∧ Env w0 ((b, 3, cur) :: rs') w' ∧ cur.toList.take 67 = cellsI D) := fun x rs' h => by rw [hD]; exact refDigits_env w0 x rs' h _ LDG.out
  obtain ⟨f, hf⟩ : ∃ f : Nat → List UInt8, f = fun (c : Nat) => alongB t (c : Int) 0 (beginB s c) (D.getD c 0) := ⟨_, rfl⟩
  have LF : Hid (∀ c, (f c).length = 32) := fun c => by rw [hf]; exact alongB_length _ _ _ _ (beginB_length _ _) _
  have HFIN : Hid ((List.range 67).map f = signL s t d) := by show _ = _; rw [hf, hD]; rfl
  obtain ⟨h0, hh0⟩ : ∃ h : Nat → List UInt8, h = fun (c : Nat) => beginB s c := ⟨_, rfl⟩
  have CB : Hid (∀ (c : Nat) x rs' m' n', c < 67 → n' ≤ 800000 → Env w0 rs' x → rs'[m']? = some (g, 32, logC n') → Calls Tryd.prog 32 #[.pointer (some ⟨g, 0, none⟩), .agg (keyC s), .int .i64 (c : Int)] x fun e w' => ∃ n'', n'' ≤ n' + 3 ∧ e = .returned (.agg (keyC (h0 c))) ∧ Env w0 (rs'.set m' (g, 32, logC n'')) w') := fun c x rs' m' n' h1 h2 h3 h4 => by
    rw [hh0]
    exact refBegin_env w0 x rs' m' g n' h3 h4 (by omega) s LS.out c (by omega)
  have CA : Hid (∀ (c : Nat) x rs' m' n', c < 67 → n' ≤ 900000 → Env w0 rs' x → rs'[m']? = some (g, 32, logC n') → Calls Tryd.prog 13 #[.pointer (some ⟨g, 0, none⟩), .agg (keyC t), .int .i64 (c : Int), .int .i64 0, .int .i64 ((D.getD c 0 : Nat) : Int), .agg (keyC (h0 c))] x fun e w' => ∃ n'', n'' ≤ n' + 15 ∧ e = .returned (.agg (keyC (f c))) ∧ Env w0 (rs'.set m' (g, 32, logC n'')) w') := fun c x rs' m' n' h1 h2 h3 h4 => by
    have hb := DB.out c
    rw [hf, hh0]
    exact (refAlong_env w0 x rs' m' g n' h3 h4 t _ LT.out (beginB_length _ _) c 0 _ (by omega) (by omega) (by omega) (D.getD c 0) (by omega) (by omega) (by omega)).mono fun _ _ ⟨a1, a2⟩ => ⟨_, by omega, a1, a2⟩
  clear hm hE ls lt ld hf hh0 hD
  go_enter Tryd.func19, Tryd.ntmps19
  go_wp2_with (first
    | ((with_reducible refine wpE_box (o := ⟨some 5, _, _, _, _, _⟩) rfl 23 (.tmp 1) rfl (keyC s) (by with_unfolding_all rfl) E0.out ?_); intro g5 w1 T1; have E1 := Lib.hid T1; clear T1)
    | ((with_reducible refine wpE_box (o := ⟨some 6, _, _, _, _, _⟩) rfl 23 (.tmp 2) rfl (keyC t) (by with_unfolding_all rfl) E1.out ?_); intro g6 w2 T2; have E2 := Lib.hid T2; clear T2)
    | ((with_reducible refine wpE_box (o := ⟨some 7, _, _, _, _, _⟩) rfl 23 (.tmp 3) rfl (keyC d) (by with_unfolding_all rfl) E2.out ?_); intro g7 w3 T3; have E3 := Lib.hid T3; clear T3)
    | (with_reducible refine wpE_load (o := ⟨some 12, _, _, _, _, _⟩) rfl 23 (.tmp 7) rfl 0 g7 23 (keyC d) _ (by with_unfolding_all rfl) (by with_unfolding_all rfl) Tryd.underlying23 rfl (Tryd.sizeKey _ LDG.out) E3.out ?_))
  refine (CD.out _ _ E3.out).mono ?_
  intro e w4 h
  obtain ⟨gd, dc, cur, he, h4, htake⟩ := h
  subst he
  have E4 := Lib.hid h4
  have HTAKE := Lib.hid htake
  obtain ⟨base, hbase⟩ : ∃ z, z = topOf ((gd, 3, cur) :: (g7, 23, keyC d) :: (g6, 23, keyC t) :: (g5, 23, keyC s) :: rs) := ⟨_, rfl⟩
  have hbs : ∀ nn, topOf ((gd, 3, cur) :: (g7, 23, keyC d) :: (g6, 23, keyC t) :: (g5, 23, keyC s) :: rs.set m (g, 32, logC nn)) = base := fun nn => by
    rw [hbase]
    have h := topOf_set (t' := 32) (c := logC nn) HM.out
    simp only [topOf, List.foldr_cons] at h ⊢
    rw [h]
  have HB : Hid (∀ nn, ∀ r ∈ ((gd, 3, cur) :: (g7, 23, keyC d) :: (g6, 23, keyC t) :: (g5, 23, keyC s) :: rs.set m (g, 32, logC nn)), r.1 < base) := fun nn r hr => by rw [← hbs nn]; exact lt_topOf r hr
  have HBL : Hid (∀ nn ex x, Env w0 (((gd, 3, cur) :: (g7, 23, keyC d) :: (g6, 23, keyC t) :: (g5, 23, keyC s) :: rs.set m (g, 32, logC nn)) ++ ex) x → base ≤ x.heap.size) := fun nn ex x h => by
    rw [← hbs nn]
    exact topOf_le fun r hr => (h.rows r (List.mem_append_left _ hr)).1.lt
  have HW : Hid (w0.heap.size ≤ base) := by
    show _ ≤ _
    rw [hbase]
    exact Nat.le_trans (h4.rows _ List.mem_cons_self).2 (Nat.le_of_lt (lt_topOf (gd, 3, cur) List.mem_cons_self))
  clear hbase hbs
  clear h4 htake E0 E1 E2 E3 CD
  go_wp2_with fail
  go_loopw [9, 11] (fun u v wr => ∃ (c n' : Nat) (ex : List (Nat × TypeId × Array Value)), c ≤ 67 ∧ n' ≤ n + 18 * c ∧ v = .int .i64 (c : Int) ∧ exRow u ((List.range c).map f) base ex ∧ Env w0 (((gd, 3, cur) :: (g7, 23, keyC d) :: (g6, 23, keyC t) :: (g5, 23, keyC s) :: rs.set m (g, 32, logC n')) ++ ex) wr) (fun _ v _ => 67 - (intOf v).toNat)
  case atStart => exact ⟨0, n, [], by omega, by omega, rfl, .inl ⟨rfl, rfl, rfl⟩, by rw [set_id HM.out, List.append_nil]; exact E4.out⟩
  case round =>
    clear E4
    obtain ⟨c, n', ex, hc, hn', rfl, hX, hE⟩ := hrel
    have X := Lib.hid hX
    have E := Lib.hid hE
    clear hX hE
    by_cases hlt : c < 67
    · have hlt2 : (c : Int) < 67 := by omega
      have hw1 : IntKind.i64.wrap ((c : Int) + 1) = (c : Int) + 1 := IntWalk.i64_in _ (by omega)
      have hq0 : ¬ ((c : Int) < 0) := by omega
      have LFC := Lib.hid (LF.out c)
      have CAC := Lib.hid (CA.out c)
      have LLS : Hid (∀ l ∈ (List.range c).map f, l.length = 32) := fun l hl => by
        obtain ⟨k, _, rfl⟩ := List.mem_map.1 hl
        exact LF.out k
      have LLN : Hid (((List.range c).map f).length ≤ 1000) := by show _ ≤ _; simp; omega
      have HDC : Hid (∀ W', Env w0 [(gd, 3, cur), (g6, 23, keyC t), (g5, 23, keyC s)] W' → W'.cell? ⟨gd, c, none⟩ = some (.int .i64 ((D.getD c 0 : Nat) : Int))) := fun W' h => take_cellI (h.row 0 rfl) HTAKE.out c (by rw [DL.out]; exact hlt)
      obtain ⟨dg, hdg⟩ : ∃ z, z = D.getD c 0 := ⟨_, rfl⟩
      rw [← hdg] at HDC CAC
      clear hdg
      go_wp2_with fail
      have sub : ∀ x nn ex, Env w0 (((gd, 3, cur) :: (g7, 23, keyC d) :: (g6, 23, keyC t) :: (g5, 23, keyC s) :: rs.set m (g, 32, logC nn)) ++ ex) x → Env w0 [(gd, 3, cur), (g6, 23, keyC t), (g5, 23, keyC s)] x := fun x nn ex h => h.less (.cons_cons _ (.cons _ (.cons_cons _ (.cons_cons _ (List.nil_sublist _)))))
      have SUB := Lib.hid sub
      clear sub
      refine plain_region (S := fun x => Env w0 [(gd, 3, cur), (g6, 23, keyC t), (g5, 23, keyC s)] x) (fin := fun _ => false) (by kernel_rfl) ?_
      have hS := SUB.out _ _ _ E.out.drew
      change walkS _ _ _ _ _ _ 16 _ _ _
      refine walkS_take (i := 0) (oi := ⟨some 18, _, _, _, _, _⟩) (v := u9) rfl (by kernel_rfl) (by kernel_rfl) (fun _ _ _ h => h) _ _ _ _ (by kernel_rfl) (by kernel_rfl) (Or.inl ⟨by rfl, fun w' hS' => (by first | rfl | (clear hS hS'; go_simp))⟩) hS ?_
      try simp only [Act.put, List.setIfInBounds_toArray, List.set_cons_zero, List.set_cons_succ]
      refine walkS_take (i := 1) (oi := ⟨some 19, _, _, _, _, _⟩) (v := .pointer (some ⟨g, 0, none⟩)) rfl (by kernel_rfl) (by kernel_rfl) (fun _ _ _ h => h) _ _ _ _ (by kernel_rfl) (by kernel_rfl) (Or.inl ⟨by rfl, fun w' hS' => (by first | rfl | (clear hS hS'; go_simp))⟩) hS ?_
      try simp only [Act.put, List.setIfInBounds_toArray, List.set_cons_zero, List.set_cons_succ]
      refine walkS_take (i := 2) (oi := ⟨some 20, _, _, _, _, _⟩) (v := .agg (keyC t)) rfl (by kernel_rfl) (by kernel_rfl) (fun _ _ _ h => h) _ _ _ _ (by kernel_rfl) (by kernel_rfl) (Or.inl ⟨by rfl, fun w' hS' => (run_load_row 23 (.tmp 6) rfl g6 rfl 23 (keyC t) (0, 0) _ (hS'.row 1 rfl) Tryd.underlying23 rfl (Tryd.sizeKey t LT.out))⟩) hS ?_
      try simp only [Act.put, List.setIfInBounds_toArray, List.set_cons_zero, List.set_cons_succ]
      refine walkS_take (i := 3) (oi := ⟨some 21, _, _, _, _, _⟩) (v := .int .i64 (c : Int)) rfl (by kernel_rfl) (by kernel_rfl) (fun _ _ _ h => h) _ _ _ _ (by kernel_rfl) (by kernel_rfl) (Or.inl ⟨by rfl, fun w' hS' => (by first | rfl | (clear hS hS'; go_simp))⟩) hS ?_
      try simp only [Act.put, List.setIfInBounds_toArray, List.set_cons_zero, List.set_cons_succ]
      refine walkS_take (i := 4) (oi := ⟨some 22, _, _, _, _, _⟩) (v := .slice (some ⟨gd, 0, none⟩) 67 dc) rfl (by kernel_rfl) (by kernel_rfl) (fun _ _ _ h => h) _ _ _ _ (by kernel_rfl) (by kernel_rfl) (Or.inl ⟨by rfl, fun w' hS' => (by first | rfl | (clear hS hS'; go_simp))⟩) hS ?_
      try simp only [Act.put, List.setIfInBounds_toArray, List.set_cons_zero, List.set_cons_succ]
      refine walkS_take (i := 5) (oi := ⟨some 23, _, _, _, _, _⟩) (v := .int .i64 (c : Int)) rfl (by kernel_rfl) (by kernel_rfl) (fun _ _ _ h => h) _ _ _ _ (by kernel_rfl) (by kernel_rfl) (Or.inl ⟨by rfl, fun w' hS' => (by first | rfl | (clear hS hS'; go_simp))⟩) hS ?_
      try simp only [Act.put, List.setIfInBounds_toArray, List.set_cons_zero, List.set_cons_succ]
      refine walkS_take (i := 6) (oi := ⟨some 24, _, _, _, _, _⟩) (v := .pointer (some ⟨gd, c, none⟩)) rfl (by kernel_rfl) (by kernel_rfl) (fun _ _ _ h => h) _ _ _ _ (by kernel_rfl) (by kernel_rfl) (Or.inl ⟨by rfl, fun w' hS' => (by first | rfl | (clear hS hS'; go_simp))⟩) hS ?_
      try simp only [Act.put, List.setIfInBounds_toArray, List.set_cons_zero, List.set_cons_succ]
      refine walkS_take (i := 7) (oi := ⟨some 25, _, _, _, _, _⟩) (v := .int .i64 (dg : Int)) rfl (by kernel_rfl) (by kernel_rfl) (fun _ _ _ h => h) _ _ _ _ (by kernel_rfl) (by kernel_rfl) (Or.inl ⟨by rfl, fun w' hS' => (by have cc := HDC.out w' hS'; clear hS hS'; go_simp)⟩) hS ?_
      try simp only [Act.put, List.setIfInBounds_toArray, List.set_cons_zero, List.set_cons_succ]
      refine walkS_take (i := 8) (oi := ⟨some 26, _, _, _, _, _⟩) (v := .pointer (some ⟨g, 0, none⟩)) rfl (by kernel_rfl) (by kernel_rfl) (fun _ _ _ h => h) _ _ _ _ (by kernel_rfl) (by kernel_rfl) (Or.inl ⟨by rfl, fun w' hS' => (by first | rfl | (clear hS hS'; go_simp))⟩) hS ?_
      try simp only [Act.put, List.setIfInBounds_toArray, List.set_cons_zero, List.set_cons_succ]
      refine walkS_take (i := 9) (oi := ⟨some 27, _, _, _, _, _⟩) (v := .agg (keyC s)) rfl (by kernel_rfl) (by kernel_rfl) (fun _ _ _ h => h) _ _ _ _ (by kernel_rfl) (by kernel_rfl) (Or.inl ⟨by rfl, fun w' hS' => (run_load_row 23 (.tmp 5) rfl g5 rfl 23 (keyC s) (0, 0) _ (hS'.row 2 rfl) Tryd.underlying23 rfl (Tryd.sizeKey s LS.out))⟩) hS ?_
      try simp only [Act.put, List.setIfInBounds_toArray, List.set_cons_zero, List.set_cons_succ]
      refine walkS_take (i := 10) (oi := ⟨some 28, _, _, _, _, _⟩) (v := .int .i64 (c : Int)) rfl (by kernel_rfl) (by kernel_rfl) (fun _ _ _ h => h) _ _ _ _ (by kernel_rfl) (by kernel_rfl) (Or.inl ⟨by rfl, fun w' hS' => (by first | rfl | (clear hS hS'; go_simp))⟩) hS ?_
      try simp only [Act.put, List.setIfInBounds_toArray, List.set_cons_zero, List.set_cons_succ]
      clear hS
      refine walkS_only (i := 11) (o := ⟨some 29, _, _, _, _, _⟩) (by kernel_rfl) rfl rfl fun KK hKK => ?_
      go_simp
      refine (CB.out c _ _ (m + 4) n' hlt (by omega) E.out.drew (at_left (by simp only [List.getElem?_cons_succ]; exact set_at HM.out))).mono ?_
      intro e w5 h
      obtain ⟨n5, hn5, he, h5⟩ := h
      subst he
      rw [set_left (y := (g, 32, logC n')) (by simp only [List.getElem?_cons_succ]; exact set_at HM.out)] at h5
      simp only [List.set_cons_succ, List.set_set] at h5
      have E5 := Lib.hid h5
      clear h5
      refine hKK _ _ (.inr (SUB.out _ _ _ E5.out)) ?_
      clear hKK KK
      try simp only [Act.put, List.setIfInBounds_toArray, List.set_cons_zero, List.set_cons_succ]
      refine walkS_only (i := 12) (o := ⟨some 30, _, _, _, _, _⟩) (by kernel_rfl) rfl rfl fun KK hKK => ?_
      go_simp
      refine (CAC.out _ _ (m + 4) n5 hlt (by omega) E5.out (at_left (by simp only [List.getElem?_cons_succ]; exact set_at HM.out))).mono ?_
      intro e w6 h
      obtain ⟨n6, hn6, he, h6⟩ := h
      subst he
      rw [set_left (y := (g, 32, logC n5)) (by simp only [List.getElem?_cons_succ]; exact set_at HM.out)] at h6
      simp only [List.set_cons_succ, List.set_set] at h6
      have E6 := Lib.hid h6
      clear h6 E5
      refine hKK _ _ (.inr (SUB.out _ _ _ E6.out)) ?_
      clear hKK KK
      try simp only [Act.put, List.setIfInBounds_toArray, List.set_cons_zero, List.set_cons_succ]
      refine walkS_only (i := 13) (o := ⟨some 31, _, _, _, _, _⟩) (by kernel_rfl) rfl rfl fun KK hKK => ?_
      refine wp_oneKey (.tmp 30) rfl (f c) LFC.out rfl ?_
      have E7 := Lib.hid (E6.out.call (alloc_below w6 (.cells (keyC (f c)) 23)))
      refine hKK _ _ (.inr (SUB.out _ _ _ E7.out)) ?_
      clear hKK KK
      try simp only [Act.put, List.setIfInBounds_toArray, List.set_cons_zero, List.set_cons_succ]
      refine walkS_only (i := 14) (o := ⟨some 32, _, _, _, _, _⟩) (by kernel_rfl) rfl rfl fun KK hKK => ?_
      refine wp_appKey (.tmp 18) (.tmp 31) 39 rfl (by kernel_rfl) Tryd.underlying39 base u9 ((List.range c).map f) (f c) w6.heap.size rfl rfl (RowAt.new w6 23 (keyC (f c))) LFC.out LLS.out X.out E7.out (HB.out n6) HW.out (HBL.out n6 _ _ E7.out) LLN.out fun v8 w8 ex8 X8 E8 _ => ?_
      have XX := Lib.hid X8
      have EE := Lib.hid E8
      clear X8 E8 E6 E7
      refine hKK _ _ (.inr (SUB.out _ _ _ EE.out)) ?_
      clear hKK KK
      try simp only [Act.put, List.setIfInBounds_toArray, List.set_cons_zero, List.set_cons_succ]
      refine walkS_only (i := 15) (o := ⟨some 9, _, _, _, _, _⟩) (by kernel_rfl) rfl rfl fun KK hKK => ?_
      refine wp_assignE (.tmp 32) rfl ?_
      refine hKK _ _ (.inr (SUB.out _ _ _ EE.out)) (walkS_done (by kernel_rfl) ?_ _)
      clear hKK KK
      try simp only [Act.put, List.setIfInBounds_toArray, List.set_cons_zero, List.set_cons_succ]
      go_wp2_with fail
      go_roundw
      · exact ⟨c + 1, n6, ex8, by omega, by omega, by congr 1, by rw [List.range_succ, List.map_append]; exact XX.out, EE.out⟩
      · show 67 - ((c : Int) + 1).toNat < 67 - (c : Int).toNat
        omega
    · have hc2 : c = 67 := by omega
      clear hlt
      subst hc2
      go_wp2_with fail
      go_ret
      have hl : ((List.range 67).map f).length = 67 := by simp
      rcases X.out with ⟨_, _, h⟩ | ⟨gg, cap, cr, rfl, hv, h1, h2, h3, h4, h5⟩
      · rw [h] at hl; cases hl
      · rw [hl] at hv h5
        rw [HFIN.out] at h5
        refine ⟨n', gg, cap, cr, by omega, by rw [hv]; rfl, ?_, h5⟩
        have hE := E.out
        refine ⟨hE.below, fun r hr => ?_, ?_⟩
        · rcases List.mem_cons.1 hr with h | h
          · exact hE.rows r (by rw [h]; simp)
          · exact hE.rows r (by simp [h])
        · have ha := hE.apart
          rw [List.map_append] at ha
          have hp : List.Perm (((gg, 23, cr) :: rs.set m (g, 32, logC n')).map fun r => r.1) (((rs.set m (g, 32, logC n')).map fun r => r.1) ++ [gg]) := List.perm_append_comm (l₁ := [gg])
          refine hp.nodup_iff.2 (List.Nodup.sublist ?_ ha)
          exact List.Sublist.append (.cons _ (.cons _ (.cons _ (.cons _ (List.Sublist.refl _))))) (List.Sublist.refl _)
end Go.Proofs.YtfnmglicfgkmjaaDoor
end
section
namespace Go.Proofs.YtfnmglicfgkmjaaDoor
open Go.RowKit
set_option linter.unusedVariables false
set_option maxRecDepth 20000

theorem part_take {cur : Array Value} {L : List (List UInt8)} (h : cur.toList.take (67 * 32) = cellsB L.flatten) (hL : ∀ l ∈ L, l.length = 32) (hl : L.length = 67) (k : Nat) (l : List UInt8) (hk : L[k]? = some l) : (cur.toList.drop (k * 32)).take (cellsB l).length = cellsB l := by
  have hlt : k < 67 := by rw [← hl]; exact (List.getElem?_eq_some_iff.1 hk).1
  have h32 : (cellsB l).length = 32 := by rw [cellsB_length, hL l (List.mem_of_getElem? hk)]
  have hp := keys_part L hL k l hk
  have e : (keyC L.flatten).toList = cellsB L.flatten := by simp [keyC]
  rw [e, ← h, h32, List.drop_take, List.take_take, Nat.min_eq_left (by omega)] at hp
  rw [h32]
  exact hp

set_option maxHeartbeats 4000000 in
theorem refKeys_env (w0 w : World) (rs : List (Nat × TypeId × Array Value)) (i j ga gb cap : Nat) (cur : Array Value) (L : List (List UInt8)) (hL : ∀ l ∈ L, l.length = 32) (hlen : L.length = 67) (hE : Env w0 rs w) (hi : rs[i]? = some (ga, 23, keyC L.flatten)) (hj : rs[j]? = some (gb, 23, cur)) (htake : cur.toList.take (67 * 32) = cellsB L.flatten) :
    Calls Tryd.prog 18 #[.slice (some ⟨ga, 0, none⟩) 67 67, .slice (some ⟨gb, 0, none⟩) 67 cap] w fun e w' => e = .returned (.bool true) ∧ Env w0 rs w' := by
  have E0 := Lib.hid hE
  have RA0 : Hid (∀ (k : Nat) (l : List UInt8), L[k]? = some l → ∀ W, Env w0 rs W → W.rangeAt ga (k * 32) (cellsB l)) := fun k l hk W hW => by
    have h1 := rangeAt_row (k := k * 32) (n := (cellsB l).length) (hW.row i hi)
    rwa [keys_part L hL k l hk] at h1
  have RB0 : Hid (∀ (k : Nat) (l : List UInt8), L[k]? = some l → ∀ W, Env w0 rs W → W.rangeAt gb (k * 32) (cellsB l)) := fun k l hk W hW => by
    have h1 := rangeAt_row (k := k * 32) (n := (cellsB l).length) (hW.row j hj)
    rwa [part_take htake hL hlen k l hk] at h1
  have HL := Lib.hid hL
  have HLN := Lib.hid hlen
  clear hE hi hj htake hL hlen
  go_enter Tryd.func18, Tryd.ntmps18
  go_wp2_with fail
  go_loopw [5] (fun v wr => ∃ k : Nat, k ≤ 67 ∧ v = .int .i64 (k : Int) ∧ Env w0 rs wr) (fun v _ => 67 - (intOf v).toNat)
  case atStart => exact ⟨0, by omega, rfl, E0.out⟩
  case round =>
    clear E0
    obtain ⟨k, hk, rfl, hE⟩ := hrel
    have E := Lib.hid hE
    clear hE
    by_cases hlt : k < 67
    · have hlt2 : (k : Int) < 67 := by omega
      have hw1 : IntKind.i64.wrap ((k : Int) + 1) = (k : Int) + 1 := IntWalk.i64_in _ (by omega)
      have hq0 : ¬ ((k : Int) < 0) := by omega
      obtain ⟨l, hl⟩ : ∃ l, L[k]? = some l := ⟨_, List.getElem?_eq_getElem (by rw [HLN.out]; exact hlt)⟩
      have LL : Hid (l.length = 32) := HL.out l (List.mem_of_getElem? hl)
      have RA := Lib.hid (RA0.out k l hl)
      have RB := Lib.hid (RB0.out k l hl)
      have heq := fun W => Tryd.eqKeyIn l l LL.out LL.out W
      rw [beq_self_eq_true] at heq
      have HEQ := Lib.hid heq
      clear hl RA0 RB0 HL heq
      go_wp2_with fail
      refine region_class (Env w0 rs) E.out.drew (by kernel_rfl) (by kernel_rfl) ?_
      clear E
      refine q_run (by rfl) (v := .slice (some ⟨ga, 0, none⟩) 67 67) (fun W hW => by first | rfl | (clear hW; go_simp)) ?_
      try simp only [Act.put, List.setIfInBounds_toArray, List.set_cons_zero, List.set_cons_succ]
      refine q_run (by rfl) (v := .int .i64 (k : Int)) (fun W hW => by first | rfl | (clear hW; go_simp)) ?_
      try simp only [Act.put, List.setIfInBounds_toArray, List.set_cons_zero, List.set_cons_succ]
      refine q_run (by rfl) (v := .pointer (some ⟨ga, k * 32, none⟩)) (fun W hW => by first | rfl | (clear hW; go_simp)) ?_
      try simp only [Act.put, List.setIfInBounds_toArray, List.set_cons_zero, List.set_cons_succ]
      refine q_run (by rfl) (v := .agg (keyC l)) (fun W hW => run_keyR 23 (.tmp 19) rfl ga (k * 32) rfl l _ (RA.out W hW) Tryd.underlying23 rfl (Tryd.sizeKeyM l LL.out)) ?_
      try simp only [Act.put, List.setIfInBounds_toArray, List.set_cons_zero, List.set_cons_succ]
      refine q_run (by rfl) (v := .slice (some ⟨gb, 0, none⟩) 67 cap) (fun W hW => by first | rfl | (clear hW; go_simp)) ?_
      try simp only [Act.put, List.setIfInBounds_toArray, List.set_cons_zero, List.set_cons_succ]
      refine q_run (by rfl) (v := .int .i64 (k : Int)) (fun W hW => by first | rfl | (clear hW; go_simp)) ?_
      try simp only [Act.put, List.setIfInBounds_toArray, List.set_cons_zero, List.set_cons_succ]
      refine q_run (by rfl) (v := .pointer (some ⟨gb, k * 32, none⟩)) (fun W hW => by first | rfl | (clear hW; go_simp)) ?_
      try simp only [Act.put, List.setIfInBounds_toArray, List.set_cons_zero, List.set_cons_succ]
      refine q_run (by rfl) (v := .agg (keyC l)) (fun W hW => run_keyR 23 (.tmp 23) rfl gb (k * 32) rfl l _ (RB.out W hW) Tryd.underlying23 rfl (Tryd.sizeKeyM l LL.out)) ?_
      try simp only [Act.put, List.setIfInBounds_toArray, List.set_cons_zero, List.set_cons_succ]
      refine q_run (by rfl) (v := .bool false) (fun W hW => by have he := HEQ.out; have hgd := Tryd.eqGuardKey; clear hW; go_simp) ?_
      try simp only [Act.put, List.setIfInBounds_toArray, List.set_cons_zero, List.set_cons_succ]
      refine wpQuiet_nil ?_
      intro w7 hw7
      have E7 := Lib.hid hw7
      clear hw7
      go_wp2_with fail
      refine ⟨⟨k + 1, by omega, by congr 1, E7.out⟩, ?_⟩
      show 67 - ((k : Int) + 1).toNat < 67 - (k : Int).toNat
      omega
    · have hk2 : k = 67 := by omega
      clear hlt
      subst hk2
      go_wp2_with fail
      go_ret
      exact ⟨rfl, E.out⟩
end Go.Proofs.YtfnmglicfgkmjaaDoor
end
