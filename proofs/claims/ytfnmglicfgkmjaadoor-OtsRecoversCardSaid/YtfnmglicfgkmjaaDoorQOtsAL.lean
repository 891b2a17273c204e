/-
  Texts that belong together, merged: OtsG, OtsH, OtsI, OtsJ. Conditions: as each theorem names them.
-/
import Derived.Test.YtfnmglicfgkmjaaDoorQOtsAK
import Derived.Test.YtfnmglicfgkmjaaDoorQOtsAJ
section
namespace Go.Proofs.YtfnmglicfgkmjaaDoor
open Go.RowKit
set_option linter.unusedVariables false
set_option maxRecDepth 20000

/-- Of sixty-seven keys the first j are there. -/
def partK (f : Nat → List UInt8) (j : Nat) : List (List UInt8) := (List.range 67).map fun c => if c < j then f c else zeroKey
theorem partK_length (f : Nat → List UInt8) (j : Nat) : (partK f j).length = 67 := by simp [partK]
theorem partK_len (f : Nat → List UInt8) (hf : ∀ c, (f c).length = 32) (j : Nat) : ∀ l ∈ partK f j, l.length = 32 := by
  intro l hl
  obtain ⟨c, _, rfl⟩ := List.mem_map.1 hl
  split
  · exact hf c
  · exact zeroKey_length
theorem partK_all (f : Nat → List UInt8) : partK f 67 = (List.range 67).map f := by
  refine List.map_congr_left fun c hc => ?_
  rw [if_pos (List.mem_range.1 hc)]
theorem partK_zero (f : Nat → List UInt8) : keyC (partK f 0).flatten = (List.replicate (67 * 32) (Value.int .u8 0)).toArray := by
  have : partK f 0 = List.replicate 67 zeroKey := by simp [partK, List.map_const']
  have h2 : (List.replicate 67 zeroKey).flatten = List.replicate (67 * 32) (0 : UInt8) := by decide +kernel
  rw [this, h2]
  unfold keyC cellsB
  rw [List.map_replicate]
  rfl
theorem partK_set (f : Nat → List UInt8) (j : Nat) (h : j < 67) : (partK f j).set j (f j) = partK f (j + 1) := by
  refine List.ext_getElem (by simp [partK]) fun i h1 h2 => ?_
  simp only [partK, List.getElem_set, List.getElem_map, List.getElem_range]
  by_cases e : j = i
  · subst e; simp
  · rw [if_neg e]
    by_cases h3 : i < j
    · rw [if_pos h3, if_pos (by omega)]
    · rw [if_neg h3, if_neg (by omega)]
theorem flat_put (l : List UInt8) : ∀ (ls : List (List UInt8)) (k : Nat), (∀ x ∈ ls, x.length = 32) → l.length = 32 → k < ls.length → ls.flatten.take (k * 32) ++ l ++ ls.flatten.drop (k * 32 + 32) = (ls.set k l).flatten := by
  intro ls
  induction ls with
  | nil => intro k _ _ h; simp at h
  | cons x ls ih =>
    intro k hx hl hk
    have h0 := hx x List.mem_cons_self
    cases k with
    | zero =>
      rw [List.flatten_cons, List.set_cons_zero, List.flatten_cons, Nat.zero_mul, List.take_zero, List.nil_append, Nat.zero_add, List.drop_left' h0]
    | succ k =>
      have := ih k (fun y hy => hx y (List.mem_cons_of_mem _ hy)) hl (by simpa using hk)
      rw [List.set_cons_succ, List.flatten_cons, List.flatten_cons, ← this, List.take_append, List.drop_append, List.take_of_length_le (by omega), List.drop_eq_nil_of_le (by omega), h0, show (k + 1) * 32 - 32 = k * 32 by omega, show (k + 1) * 32 + 32 - 32 = k * 32 + 32 by omega]
      simp
theorem keysC_put (ls : List (List UInt8)) (l : List UInt8) (k : Nat) (hx : ∀ x ∈ ls, x.length = 32) (hl : l.length = 32) (hk : k < ls.length) :
    ((keyC ls.flatten).toList.take (k * 32) ++ (keyC l).toList ++ (keyC ls.flatten).toList.drop (k * 32 + (keyC l).size)).toArray = keyC (ls.set k l).flatten := by
  rw [← flat_put l ls k hx hl hk, keyC_size, hl]
  simp [keyC, cellsB, List.map_take, List.map_drop]
theorem Env.pick {w0 w : World} {rs : List (Nat × TypeId × Array Value)} {x y : Nat × TypeId × Array Value} {i j : Nat} (h : Env w0 rs w) (hi : rs[i]? = some x) (hj : rs[j]? = some y) (hne : x.2.1 ≠ y.2.1) : Env w0 [x, y] w := by
  refine ⟨h.below, fun r hr => ?_, ?_⟩
  · rcases List.mem_cons.1 hr with rfl | hr
    · exact h.rows _ (List.mem_of_getElem? hi)
    · rw [List.mem_singleton] at hr
      subst hr
      exact h.rows _ (List.mem_of_getElem? hj)
  · simp only [List.map_cons, List.map_nil, List.nodup_cons, List.mem_singleton, List.not_mem_nil, not_false_eq_true, List.nodup_nil, and_true]
    intro e
    have h1 := (h.rows _ (List.mem_of_getElem? hi)).1
    have h2 := (h.rows _ (List.mem_of_getElem? hj)).1
    unfold RowAt at h1 h2
    rw [e, h2] at h1
    injection h1 with h1
    injection h1 with _ h1 _
    exact hne h1.symm
section
variable {P : Program} {w0 w : World} {rs : List (Nat × TypeId × Array Value)} {o : Oper} {a : Act} {K : Act → World → Prop} {Q : Exit → Act → World → Prop}
theorem wp_storeP (ty : TypeId) (x y : Operand) (ho : o.op = .store ty x y) (i g k : Nat) (t : TypeId) (old cs ps : Array Value) (hi : rs[i]? = some (g, t, old)) (hx : a.eval x = .pointer (some ⟨g, k, none⟩)) (hy : a.eval y = .agg ps)
    (hk : k + ps.size ≤ old.size) (hc : (old.toList.take k ++ ps.toList ++ old.toList.drop (k + ps.size)).toArray = cs) (hs : (P.info? ty).map (·.size) = some ps.size) (h1 : ∀ u ∈ ps.toList, u.oneCell' = true) (hE : Env w0 rs w)
    (h : ∀ w', Env w0 (rs.set i (g, t, cs)) w' → K (a.put o.dst undef) w') : o.wp P a w K Q := by
  obtain ⟨f, hf, hz⟩ := Option.map_eq_some_iff.1 hs
  have hrun := run_storeCells_at (P := P) g k t ps.toList 0 old w (hE.row i hi) (by simpa using hk) h1
  have e : (old.toList.take (k + 0) ++ ps.toList ++ old.toList.drop (k + 0 + ps.toList.length)).toArray = cs := by rw [← hc, Nat.add_zero, Array.length_toList]
  rw [e] at hrun
  unfold Oper.wp execOp
  simp [ho, Instr.storeAt, Instr.sureAddr, storeVar, hx, hy, sizeOf, typeInfo, hf, hz, Value.cells, hrun]
  exact h _ (hE.put i hi (setRow_put (hE.row i hi)))
end
theorem replicate_get (n : Nat) (v : Value) (j : Nat) (h : j < n) : (List.replicate n v).toArray[j]! = v := by simp [h]
theorem key_made : madeCells (Value.cells (.agg (keyC zeroKey))) (67 * 32) = (List.replicate (67 * 32) (Value.int .u8 0)).toArray :=
  made_all _ _ (by decide) (fun j hj => by
    have e : Value.cells (.agg (keyC zeroKey)) = (List.replicate 32 (Value.int .u8 0)).toArray := rfl
    rw [e] at hj ⊢
    exact replicate_get 32 _ j (by rw [List.size_toArray, List.length_replicate] at hj; exact hj)) _

set_option maxHeartbeats 8000000 in
theorem pub1_env (w0 W : World) (ht : Tabs w0) (rs : List (Nat × TypeId × Array Value)) (m g n i b j p : Nat) (s t q : List UInt8) (ls : s.length = 32) (lt : t.length = 32) (lq : q.length = 32) (hE : Env w0 rs W) (hm : rs[m]? = some (g, 66, mC n)) (hn : n ≤ 500000)
    (hi : rs[i]? = some (b, 79, sgC g s t 0 1 q)) (hj : rs[j]? = some (p, 36, #[.pointer (some ⟨b, 0, none⟩)])) :
    Calls Tryd.prog 29 #[.pointer (some ⟨p, 0, none⟩)] W fun e x => ∃ n', n' ≤ n + 1300 ∧ e = .returned (.tuple #[]) ∧ Env w0 ((rs.set m (g, 66, mC n')).set i (b, 79, sgC g s t 0 1 (pubB s t))) x := by
  have HT := Lib.hid ht
  have HM := Lib.hid hm
  have HI := Lib.hid hi
  have HJ := Lib.hid hj
  have E0 := Lib.hid hE
  have LS := Lib.hid ls
  have LT := Lib.hid lt
  have LQ := Lib.hid lq
  obtain ⟨f, hf⟩ : ∃ f : Nat → List UInt8, f = fun (c : Nat) => alongB t (c : Int) 0 (beginB s c) 15 := ⟨_, rfl⟩
  have LF : Hid (∀ c, (f c).length = 32) := fun c => by rw [hf]; exact alongB_length _ _ _ _ (beginB_length _ _) _
  obtain ⟨k, hk⟩ : ∃ k, k = pubB s t := ⟨_, rfl⟩
  have HK : Hid (digestB (t ++ (partK f 67).flatten) = k) := by show _ = _; rw [hk, partK_all, hf]; rfl
  have LK : Hid (k.length = 32) := by show _ = _; rw [hk]; exact digestB_length _
  have CR : Hid (∀ (c : Nat) x rs' m' n' i', c < 67 → n' ≤ 800000 → Env w0 rs' x → rs'[m']? = some (g, 66, mC n') → rs'[i']? = some (b, 79, sgC g s t 0 1 q) → Calls Tryd.prog 30 #[.pointer (some ⟨b, 0, none⟩), .int .i64 (c : Int), .int .i64 15] x fun e w' => ∃ n'', n'' ≤ n' + 18 ∧ e = .returned (.agg (keyC (f c))) ∧ Env w0 (rs'.set m' (g, 66, mC n'')) w') := fun c x rs' m' n' i' h1 h2 h3 h4 h5 => by
    rw [hf]
    exact (reached_env w0 x HT.out rs' m' g n' i' b h3 h4 h2 s t q 0 1 LS.out LT.out h5 c 15 (by omega) (by omega)).mono fun _ _ ⟨n'', a1, a2, a3⟩ => ⟨n'', by omega, a2, a3⟩
  have CJ : Hid (∀ x rs' m' n' e ge, n' ≤ 800000 → Env w0 rs' x → rs'[m']? = some (g, 66, mC n') → rs'[e]? = some (ge, 23, keyC (partK f 67).flatten) → Calls Tryd.prog 31 #[.pointer (some ⟨g, 0, none⟩), .agg (keyC t), .slice (some ⟨ge, 0, none⟩) 67 67] x fun e w' => e = .returned (.agg (keyC k)) ∧ Env w0 (rs'.set m' (g, 66, mC (n' + 1))) w') := fun x rs' m' n' e ge h1 h2 h3 h4 => by
    have h := joined_env w0 x HT.out rs' m' g n' h2 h3 (by omega) t LT.out e ge 67 (partK f 67) (partK_len f LF.out 67) (by rw [partK_length]; omega) h4
    rw [partK_length, HK.out] at h
    exact h
  have hmi : m ≠ i := fun e => by
    rw [← e, hm] at hi
    injection hi with hi
    injection hi with _ hi
    injection hi with hi
    exact absurd hi (by decide)
  have hmj : m ≠ j := fun e => by
    rw [← e, hm] at hj
    injection hj with hj
    injection hj with _ hj
    injection hj with hj
    exact absurd hj (by decide)
  rw [← hk]
  clear ht hm hi hj hE ls lt lq hk hf
  have hmade : madeCells (Value.cells (.agg (keyC zeroKey))) (67 * 32) = keyC (partK f 0).flatten := by rw [key_made, partK_zero]
  have hlz : Hid (∀ (c : Nat) (x : Nat × TypeId × Array Value), (rs.set m x)[i]? = some (b, 79, sgC g s t 0 1 q) ∧ (rs.set m x)[j]? = some (p, 36, #[.pointer (some ⟨b, 0, none⟩)])) := fun _ x => ⟨by rw [List.getElem?_set, if_neg hmi]; exact HI.out, by rw [List.getElem?_set, if_neg hmj]; exact HJ.out⟩
  go_enter Tryd.func29, Tryd.ntmps29
  go_wp2_with ((with_reducible refine wpE_make (o := ⟨some 3, _, _, _, _, _⟩) rfl 39 23 (.const (.int .i64 67)) (.const (.int .i64 67)) rfl 67 67 (by with_unfolding_all rfl) (by with_unfolding_all rfl) Tryd.underlying39 (.agg (keyC zeroKey)) 32 32 (by kernel_rfl) (keyC (partK f 0).flatten) hmade (by omega) (by omega) (by omega) E0.out ?_); intro ge w1 T1 _; have E1 := Lib.hid T1; clear T1)
  clear E0 hmade
  go_loopw [6] (fun v wr => ∃ c n' : Nat, c ≤ 67 ∧ n' ≤ n + 18 * c ∧ v = .int .i64 (c : Int) ∧ Env w0 ((ge, 23, keyC (partK f c).flatten) :: rs.set m (g, 66, mC n')) wr) (fun v _ => 67 - (intOf v).toNat)
  case atStart => exact ⟨0, n, by omega, by omega, rfl, by rw [set_id HM.out]; exact E1.out⟩
  case round =>
    clear E1
    obtain ⟨c, n', hc, hn', rfl, hE⟩ := hrel
    have E := Lib.hid hE
    clear hE
    by_cases hlt : c < 67
    · have hlt2 : (c : Int) < 67 := by omega
      have hw1 : IntKind.i64.wrap ((c : Int) + 1) = (c : Int) + 1 := IntWalk.i64_in _ (by omega)
      have hq0 : ¬ ((c : Int) < 0) := by omega
      have hcell := E.out.cellV (j + 1) (hlz.out c _).2 0 _ rfl
      go_wp2_with fail
      refine (CR.out c _ _ (m + 1) n' (i + 1) hlt (by omega) E.out (set_at HM.out) (hlz.out c _).1).mono ?_
      intro e w6 h
      obtain ⟨n6, hn6, he, h6⟩ := h
      subst he
      simp only [List.set_cons_succ, List.set_set] at h6
      have E6 := Lib.hid h6
      have HST := Lib.hid (keysC_put (partK f c) (f c) c (partK_len f LF.out c) (LF.out c) (by rw [partK_length]; omega))
      have HFT : Hid (c * 32 + (keyC (f c)).size ≤ (keyC (partK f c).flatten).size) := by
        show _ ≤ _
        rw [keyC_size, keyC_size, LF.out, flat_length _ (partK_len f LF.out c), partK_length]
        omega
      rw [partK_set f c hlt] at HST
      clear h6 E hcell
      go_wp2_with ((with_reducible refine wpE_storeP (o := ⟨none, _, _, _, _, _⟩) rfl 23 (.tmp 14) (.tmp 13) rfl 0 ge (c * 32) 23 (keyC (partK f c).flatten) (keyC (partK f (c + 1)).flatten) (keyC (f c)) (by with_unfolding_all rfl) (by with_unfolding_all rfl) (by with_unfolding_all rfl) HFT.out HST.out (Tryd.sizeKey _ (LF.out c)) (keyC_one _) E6.out ?_); intro w7 T7; simp only [List.set_cons_zero] at T7; have E7 := Lib.hid T7; clear T7)
      refine ⟨⟨c + 1, n6, by omega, by omega, by congr 1, E7.out⟩, ?_⟩
      show 67 - ((c : Int) + 1).toNat < 67 - (c : Int).toNat
      omega
    · have hc2 : c = 67 := by omega
      clear hlt
      subst hc2
      go_wp2_with fail
      refine plain_region (S := fun x => Env w0 [(b, 79, sgC g s t 0 1 q), (p, 36, #[Value.pointer (some ⟨b, 0, none⟩)])] x) (fin := fun n => n == 13) (by kernel_rfl) ?_
      have sub : ∀ (l : List (Nat × TypeId × Array Value)) x, (∃ c : Nat, l[c]? = some (b, 79, sgC g s t 0 1 q)) → (∃ c : Nat, l[c]? = some (p, 36, #[Value.pointer (some ⟨b, 0, none⟩)])) → Env w0 l x → Env w0 [(b, 79, sgC g s t 0 1 q), (p, 36, #[Value.pointer (some ⟨b, 0, none⟩)])] x := fun l x ⟨c, hc⟩ ⟨c', hc'⟩ h => h.pick hc hc' (show (79 : Nat) ≠ 36 from by decide)
      have SUB := Lib.hid sub
      clear sub
      have hS : Env w0 [(b, 79, sgC g s t 0 1 q), (p, 36, #[Value.pointer (some ⟨b, 0, none⟩)])] wr.drew := SUB.out _ _ ⟨i + 1, (hlz.out 0 _).1⟩ ⟨j + 1, (hlz.out 0 _).2⟩ E.out.drew
      change walkS _ _ _ _ _ _ 14 _ _ _
      refine walkS_take (i := 0) (oi := ⟨some 16, _, _, _, _, _⟩) (v := .pointer (some ⟨b, 0, none⟩)) rfl (by kernel_rfl) (by kernel_rfl) (fun _ _ _ h => h) _ _ _ _ (by kernel_rfl) (by kernel_rfl) (Or.inl ⟨by rfl, fun w' hS' => (by have c := hS'.cellV 1 rfl 0 _ rfl; clear hS hS'; go_simp)⟩) hS ?_
      try simp only [Act.put, List.setIfInBounds_toArray, List.set_cons_zero, List.set_cons_succ]
      refine walkS_take (i := 1) (oi := ⟨some 17, _, _, _, _, _⟩) (v := .pointer (some ⟨b, 0, none⟩)) rfl (by kernel_rfl) (by kernel_rfl) (fun _ _ _ h => h) _ _ _ _ (by kernel_rfl) (by kernel_rfl) (Or.inl ⟨by rfl, fun w' hS' => (by have c := hS'.cellV 1 rfl 0 _ rfl; clear hS hS'; go_simp)⟩) hS ?_
      try simp only [Act.put, List.setIfInBounds_toArray, List.set_cons_zero, List.set_cons_succ]
      refine walkS_take (i := 2) (oi := ⟨some 18, _, _, _, _, _⟩) (v := .pointer (some ⟨b, 0, none⟩)) rfl (by kernel_rfl) (by kernel_rfl) (fun _ _ _ h => h) _ _ _ _ (by kernel_rfl) (by kernel_rfl) (Or.inl ⟨by rfl, fun w' hS' => (by clear hS hS'; go_simp)⟩) hS ?_
      try simp only [Act.put, List.setIfInBounds_toArray, List.set_cons_zero, List.set_cons_succ]
      refine walkS_take (i := 3) (oi := ⟨some 19, _, _, _, _, _⟩) (v := .pointer (some ⟨b, 0, none⟩)) rfl (by kernel_rfl) (by kernel_rfl) (fun _ _ _ h => h) _ _ _ _ (by kernel_rfl) (by kernel_rfl) (Or.inl ⟨by rfl, fun w' hS' => (by clear hS hS'; go_simp)⟩) hS ?_
      try simp only [Act.put, List.setIfInBounds_toArray, List.set_cons_zero, List.set_cons_succ]
      refine walkS_take (i := 4) (oi := ⟨some 20, _, _, _, _, _⟩) (v := .pointer (some ⟨g, 0, none⟩)) rfl (by kernel_rfl) (by kernel_rfl) (fun _ _ _ h => h) _ _ _ _ (by kernel_rfl) (by kernel_rfl) (Or.inl ⟨by rfl, fun w' hS' => (by have c := hS'.cellV 0 rfl 0 _ (sgC_0 g s t q 0 1); clear hS hS'; go_simp)⟩) hS ?_
      try simp only [Act.put, List.setIfInBounds_toArray, List.set_cons_zero, List.set_cons_succ]
      refine walkS_take (i := 5) (oi := ⟨some 21, _, _, _, _, _⟩) (v := .pointer (some ⟨b, 0, none⟩)) rfl (by kernel_rfl) (by kernel_rfl) (fun _ _ _ h => h) _ _ _ _ (by kernel_rfl) (by kernel_rfl) (Or.inl ⟨by rfl, fun w' hS' => (by have c := hS'.cellV 1 rfl 0 _ rfl; clear hS hS'; go_simp)⟩) hS ?_
      try simp only [Act.put, List.setIfInBounds_toArray, List.set_cons_zero, List.set_cons_succ]
      refine walkS_take (i := 6) (oi := ⟨some 22, _, _, _, _, _⟩) (v := .pointer (some ⟨b, 0, none⟩)) rfl (by kernel_rfl) (by kernel_rfl) (fun _ _ _ h => h) _ _ _ _ (by kernel_rfl) (by kernel_rfl) (Or.inl ⟨by rfl, fun w' hS' => (by clear hS hS'; go_simp)⟩) hS ?_
      try simp only [Act.put, List.setIfInBounds_toArray, List.set_cons_zero, List.set_cons_succ]
      refine walkS_take (i := 7) (oi := ⟨some 23, _, _, _, _, _⟩) (v := .pointer (some ⟨b, 33, none⟩)) rfl (by kernel_rfl) (by kernel_rfl) (fun _ _ _ h => h) _ _ _ _ (by kernel_rfl) (by kernel_rfl) (Or.inl ⟨by rfl, fun w' hS' => (by clear hS hS'; go_simp)⟩) hS ?_
      try simp only [Act.put, List.setIfInBounds_toArray, List.set_cons_zero, List.set_cons_succ]
      refine walkS_take (i := 8) (oi := ⟨some 24, _, _, _, _, _⟩) (v := .agg (keyC t)) rfl (by kernel_rfl) (by kernel_rfl) (fun _ _ _ h => h) _ _ _ _ (by kernel_rfl) (by kernel_rfl) (Or.inl ⟨by rfl, fun w' hS' => (run_partK 23 (.tmp 23) rfl b 33 rfl 79 _ t _ (hS'.row 0 rfl) (sgC_tag g s t q 0 1 LS.out LT.out) Tryd.underlying23 rfl (Tryd.sizeKeyM t LT.out))⟩) hS ?_
      try simp only [Act.put, List.setIfInBounds_toArray, List.set_cons_zero, List.set_cons_succ]
      refine walkS_take (i := 9) (oi := ⟨some 25, _, _, _, _, _⟩) (v := .slice (some ⟨ge, 0, none⟩) 67 67) rfl (by kernel_rfl) (by kernel_rfl) (fun _ _ _ h => h) _ _ _ _ (by kernel_rfl) (by kernel_rfl) (Or.inl ⟨by rfl, fun w' hS' => (by clear hS hS'; go_simp)⟩) hS ?_
      try simp only [Act.put, List.setIfInBounds_toArray, List.set_cons_zero, List.set_cons_succ]
      clear hS
      refine walkS_only (i := 10) (o := ⟨some 26, _, _, _, _, _⟩) (by kernel_rfl) rfl rfl fun KK hKK => ?_
      go_simp
      refine (CJ.out _ _ (m + 1) n' 0 ge (by omega) E.out.drew (set_at HM.out) rfl).mono ?_
      intro e w9 h
      obtain ⟨he, h9⟩ := h
      subst he
      simp only [List.set_cons_succ, List.set_set] at h9
      have E9 := Lib.hid h9
      clear h9 E
      have hS : Env w0 [(b, 79, sgC g s t 0 1 q), (p, 36, #[Value.pointer (some ⟨b, 0, none⟩)])] w9 := SUB.out _ _ ⟨i + 1, (hlz.out 0 _).1⟩ ⟨j + 1, (hlz.out 0 _).2⟩ E9.out
      refine hKK _ _ (.inr hS) ?_
      clear hKK KK
      try simp only [Act.put, List.setIfInBounds_toArray, List.set_cons_zero, List.set_cons_succ]
      refine walkS_only (i := 11) (o := ⟨some 27, _, _, _, _, _⟩) (by kernel_rfl) rfl rfl fun KK hKK => ?_
      go_simp
      refine hKK _ _ (.inr hS) ?_
      clear hKK KK
      try simp only [Act.put, List.setIfInBounds_toArray, List.set_cons_zero, List.set_cons_succ]
      refine walkS_only (i := 12) (o := ⟨some 28, _, _, _, _, _⟩) (by kernel_rfl) rfl rfl fun KK hKK => ?_
      go_simp
      refine hKK _ _ (.inr hS) ?_
      clear hKK KK
      try simp only [Act.put, List.setIfInBounds_toArray, List.set_cons_zero, List.set_cons_succ]
      have HFT : Hid (68 + (keyC k).size ≤ (sgC g s t 0 1 q).size) := by
        show _ ≤ _
        rw [keyC_size, LK.out, sgC_size _ _ _ _ _ _ LS.out LT.out LQ.out]
        omega
      refine walkS_only (i := 13) (o := ⟨none, _, _, _, _, _⟩) (by kernel_rfl) rfl rfl fun KK hKK => ?_
      refine wp_storeP 23 (.tmp 28) (.tmp 26) rfl (i + 1) b 68 79 (sgC g s t 0 1 q) (sgC g s t 0 1 k) (keyC k) (hlz.out 0 _).1 rfl rfl HFT.out (sgC_put g s t q 0 1 LS.out LT.out LQ.out k LK.out) (Tryd.sizeKey _ LK.out) (keyC_one _) E9.out fun w10 T10 => ?_
      simp only [List.set_cons_succ] at T10
      have E10 := Lib.hid T10
      clear T10 hS
      refine hKK _ _ (.inl rfl) (walkS_done (by kernel_rfl) ?_ _)
      clear hKK KK
      go_end0
      exact ⟨n' + 1, by omega, rfl, E10.out.tl⟩
end Go.Proofs.YtfnmglicfgkmjaaDoor
end
section
namespace Go.Proofs.YtfnmglicfgkmjaaDoor
open Go.RowKit
set_option linter.unusedVariables false
set_option maxRecDepth 20000

theorem set_far {α : Type} {l : List α} {i j : Nat} {x y : α} (h : l[j]? = some y) (hne : i ≠ j) : (l.set i x)[j]? = some y := by
  rw [List.getElem?_set, if_neg hne, h]

set_option maxHeartbeats 4000000 in
theorem public_first (w0 W : World) (ht : Tabs w0) (rs : List (Nat × TypeId × Array Value)) (m g n i b : Nat) (s t q : List UInt8) (ls : s.length = 32) (lt : t.length = 32) (lq : q.length = 32) (hE : Env w0 rs W) (hm : rs[m]? = some (g, 66, mC n)) (hn : n ≤ 500000)
    (hi : rs[i]? = some (b, 79, sgC g s t 0 0 q)) :
    Calls Tryd.prog 15 #[.pointer (some ⟨b, 0, none⟩)] W fun e x => ∃ n', n' ≤ n + 1300 ∧ e = .returned (.agg (keyC (pubB s t))) ∧ Env w0 ((rs.set m (g, 66, mC n')).set i (b, 79, sgC g s t 1 0 (pubB s t))) x := by
  have hmi : m ≠ i := fun e => by
    rw [← e, hm] at hi
    injection hi with hi
    injection hi with _ hi
    injection hi with hi
    exact absurd hi (by decide)
  have HF := Lib.hid (fun W rs m n i j p hE hm hn hi hj => pub1_env w0 W ht rs m g n i b j p s t q ls lt lq hE hm hn hi hj)
  obtain ⟨k, hk⟩ : ∃ k, k = pubB s t := ⟨_, rfl⟩
  have Lk : Hid (k.length = 32) := by show _ = _; rw [hk]; exact digestB_length _
  have Ls := Lib.hid ls
  have Lt := Lib.hid lt
  have HI := Lib.hid hi
  have HM := Lib.hid hm
  have hil : i < rs.length := (List.getElem?_eq_some_iff.1 hi).1
  have E1 := Lib.hid (hE.new (NewRow.mk_ W 36 #[.pointer (some ⟨b, 0, none⟩)]))
  rw [← hk] at HF ⊢
  have hmf : ∀ (fn : Fn) (first cap : Array Value) (w : World), (Instr.makeFunc fn first cap).run Tryd.prog w = .ok (.func fn first cap) w := fun _ _ _ _ => rfl
  clear hk ls lt lq hE hi hm ht
  go_enter Tryd.func15, Tryd.ntmps15
  go_wp2_with ((with_reducible refine wpE_alloc (o := ⟨some 2, _, _, _, _, _⟩) rfl 23 rfl (keyC zeroKey) Tryd.zeroK E1.out ?_); intro g2 w2 T2; have hc := T2.cellV 1 rfl 0 _ rfl; have E2 := Lib.hid T2; clear T2)
  obtain ⟨p, hpp⟩ : ∃ p, p = W.heap.size := ⟨_, rfl⟩
  rw [← hpp] at E2 hc ⊢
  clear hpp E1
  -- the lock is taken, the key is laid, the lock is given back
  have hI2 : ((g2, 23, keyC zeroKey) :: (p, 36, #[Value.pointer (some ⟨b, 0, none⟩)]) :: rs)[i + 2]? = some (b, 79, sgC g s t 0 0 q) := HI.out
  have hL := E2.out.cellTo (i + 2) hI2 66 (.int .i32 1) (sgC_set66 g s t q 0 0 Ls.out Lt.out 1)
  have hIL : (((g2, 23, keyC zeroKey) :: (p, 36, #[Value.pointer (some ⟨b, 0, none⟩)]) :: rs).set (i + 2) (b, 79, sgC g s t 0 1 q))[i + 2]? = some (b, 79, sgC g s t 0 1 q) := by simp [hil]
  have hJL : (((g2, 23, keyC zeroKey) :: (p, 36, #[Value.pointer (some ⟨b, 0, none⟩)]) :: rs).set (i + 2) (b, 79, sgC g s t 0 1 q))[1]? = some (p, 36, #[Value.pointer (some ⟨b, 0, none⟩)]) := rfl
  have hML : (((g2, 23, keyC zeroKey) :: (p, 36, #[Value.pointer (some ⟨b, 0, none⟩)]) :: rs).set (i + 2) (b, 79, sgC g s t 0 1 q))[m + 2]? = some (g, 66, mC n) := by
    simp only [List.set_cons_succ, List.getElem?_cons_succ]
    exact set_far HM.out (Ne.symm hmi)
  have hR : ∀ n' (v : Array Value), ((((g2, 23, keyC zeroKey) :: (p, 36, #[Value.pointer (some ⟨b, 0, none⟩)]) :: rs).set (i + 2) (b, 79, sgC g s t 0 1 q)).set (m + 2) (g, 66, mC n')).set (i + 2) (b, 79, v) = (g2, 23, keyC zeroKey) :: (p, 36, #[Value.pointer (some ⟨b, 0, none⟩)]) :: (rs.set m (g, 66, mC n')).set i (b, 79, v) := fun n' v => by
    simp only [List.set_cons_succ]
    rw [List.set_comm _ _ hmi, List.set_set, List.set_comm _ _ (Ne.symm hmi)]
  have hone := once_first b 65 29 #[.pointer (some ⟨p, 0, none⟩)] (enters_of Tryd.func29 (by kernel_rfl) rfl) w2
    (E2.out.cellV (i + 2) hI2 65 _ (sgC_65 g s t q 0 0 Ls.out Lt.out)) (E2.out.cellV (i + 2) hI2 66 _ (sgC_66 g s t q 0 0 Ls.out Lt.out)) (E2.out.fzV (i + 2) hI2 65) (E2.out.fzV (i + 2) hI2 66)
    (fun x => ∃ n', n' ≤ n + 1300 ∧ Env w0 ((g2, 23, keyC zeroKey) :: (p, 36, #[Value.pointer (some ⟨b, 0, none⟩)]) :: (rs.set m (g, 66, mC n')).set i (b, 79, sgC g s t 0 1 k)) x)
    ((HF.out _ _ (m + 2) n (i + 2) 1 p hL hML hn hIL hJL).mono fun e x ⟨n', h1, h2, h3⟩ => ⟨h2, n', h1, by rw [hR] at h3; exact h3⟩)
    (fun x ⟨n', _, hx⟩ => by
      have hIx : ((g2, 23, keyC zeroKey) :: (p, 36, #[Value.pointer (some ⟨b, 0, none⟩)]) :: (rs.set m (g, 66, mC n')).set i (b, 79, sgC g s t 0 1 k))[i + 2]? = some (b, 79, sgC g s t 0 1 k) := by simp [hil]
      exact ⟨hx.cellV (i + 2) hIx 65 _ (sgC_65 g s t k 0 1 Ls.out Lt.out), hx.fzV (i + 2) hIx 65, hx.cellV (i + 2) hIx 66 _ (sgC_66 g s t k 0 1 Ls.out Lt.out), hx.fzV (i + 2) hIx 66⟩)
  clear hI2 hL hIL hJL HF E2 hR hML
  refine hone.mono ?_
  clear hone
  intro e x' h
  obtain ⟨he, x, ⟨n', hn', hx⟩, hx'⟩ := h
  subst he
  have hIx : ((g2, 23, keyC zeroKey) :: (p, 36, #[Value.pointer (some ⟨b, 0, none⟩)]) :: (rs.set m (g, 66, mC n')).set i (b, 79, sgC g s t 0 1 k))[i + 2]? = some (b, 79, sgC g s t 0 1 k) := by simp [hil]
  have h1 := hx.drew.cellTo (i + 2) hIx 65 (.int .u32 1) (sgC_set65 g s t k 0 1 Ls.out Lt.out 1)
  simp only [List.set_cons_succ, List.set_set] at h1
  have hIy : ((g2, 23, keyC zeroKey) :: (p, 36, #[Value.pointer (some ⟨b, 0, none⟩)]) :: (rs.set m (g, 66, mC n')).set i (b, 79, sgC g s t 1 1 k))[i + 2]? = some (b, 79, sgC g s t 1 1 k) := by simp [hil]
  have h2 := h1.cellTo (i + 2) hIy 66 (.int .i32 0) (sgC_set66 g s t k 1 1 Ls.out Lt.out 0)
  simp only [List.set_cons_succ, List.set_set] at h2
  rw [← hx'] at h2
  have E3 := Lib.hid h2
  have hcp := h2.cellV 1 rfl 0 _ rfl
  have hIz : Hid (((g2, 23, keyC zeroKey) :: (p, 36, #[Value.pointer (some ⟨b, 0, none⟩)]) :: (rs.set m (g, 66, mC n')).set i (b, 79, sgC g s t 1 0 k))[i + 2]? = some (b, 79, sgC g s t 1 0 k)) := by show _ = _; simp [hil]
  clear hx hx' hIx h1 hIy h2 hil HI hc HM
  go_wp2_with (first
    | (with_reducible refine wpE_loadP (o := ⟨some 14, _, _, _, _, _⟩) rfl 23 (.tmp 13) rfl (i + 2) b 68 79 (sgC g s t 1 0 k) (cellsB k) (.array 32 5) hIz.out (by with_unfolding_all rfl) (sgC_public g s t k 1 0 Ls.out Lt.out) Tryd.underlying23 rfl (Tryd.sizeKeyM k Lk.out) E3.out ?_)
    | ((with_reducible refine wpE_store (o := ⟨none, _, _, _, _, _⟩) rfl 23 (.tmp 2) (.tmp 14) rfl 0 g2 23 (keyC zeroKey) (keyC k) (by with_unfolding_all rfl) (by with_unfolding_all rfl) (by with_unfolding_all rfl) (keyC_same zeroKey_length Lk.out) (Tryd.sizeKey _ Lk.out) (keyC_one _) E3.out ?_); intro w5 T5; simp only [List.set_cons_zero] at T5; have E5 := Lib.hid T5; clear T5))
  exact bodyPost_ret (results_cell_row rfl _ _ g2 23 (keyC k) (0, 0) (.array 32 5) rfl (E5.out.row 0 rfl) Tryd.underlying23 rfl (Tryd.sizeKey _ Lk.out)) rfl ⟨n', hn', rfl, E5.out.tl.tl⟩
set_option maxHeartbeats 4000000 in
theorem public_again (w0 W : World) (rs : List (Nat × TypeId × Array Value)) (i b g : Nat) (s t k : List UInt8) (ls : s.length = 32) (lt : t.length = 32) (lk : k.length = 32) (hE : Env w0 rs W) (hi : rs[i]? = some (b, 79, sgC g s t 1 0 k)) :
    Calls Tryd.prog 15 #[.pointer (some ⟨b, 0, none⟩)] W fun e x => e = .returned (.agg (keyC k)) ∧ Env w0 rs x := by
  have Lk := Lib.hid lk
  have Ls := Lib.hid ls
  have Lt := Lib.hid lt
  have HI := Lib.hid hi
  have E1 := Lib.hid (hE.new (NewRow.mk_ W 36 #[.pointer (some ⟨b, 0, none⟩)]))
  have hmf : ∀ (fn : Fn) (first cap : Array Value) (w : World), (Instr.makeFunc fn first cap).run Tryd.prog w = .ok (.func fn first cap) w := fun _ _ _ _ => rfl
  clear ls lk lt hE hi
  go_enter Tryd.func15, Tryd.ntmps15
  go_wp2_with ((with_reducible refine wpE_alloc (o := ⟨some 2, _, _, _, _, _⟩) rfl 23 rfl (keyC zeroKey) Tryd.zeroK E1.out ?_); intro g2 w2 T2; have hc := T2.cellV 1 rfl 0 _ rfl; have E2 := Lib.hid T2; clear T2)
  obtain ⟨p, hpp⟩ : ∃ p, p = W.heap.size := ⟨_, rfl⟩
  rw [← hpp] at E2 hc ⊢
  clear hpp E1
  have hI2 : ((g2, 23, keyC zeroKey) :: (p, 36, #[Value.pointer (some ⟨b, 0, none⟩)]) :: rs)[i + 2]? = some (b, 79, sgC g s t 1 0 k) := HI.out
  refine (once_done ⟨b, 65, none⟩ _ w2 (E2.out.cellV (i + 2) hI2 65 _ (sgC_65 g s t k 1 0 Ls.out Lt.out))).mono ?_
  rintro e w3 ⟨rfl, rfl⟩
  have HI2 := Lib.hid hI2
  clear hI2
  go_wp2_with (first
    | (with_reducible refine wpE_loadP (o := ⟨some 14, _, _, _, _, _⟩) rfl 23 (.tmp 13) rfl (i + 2) b 68 79 (sgC g s t 1 0 k) (cellsB k) (.array 32 5) HI2.out (by with_unfolding_all rfl) (sgC_public g s t k 1 0 Ls.out Lt.out) Tryd.underlying23 rfl (Tryd.sizeKeyM k Lk.out) E2.out ?_)
    | ((with_reducible refine wpE_store (o := ⟨none, _, _, _, _, _⟩) rfl 23 (.tmp 2) (.tmp 14) rfl 0 g2 23 (keyC zeroKey) (keyC k) (by with_unfolding_all rfl) (by with_unfolding_all rfl) (by with_unfolding_all rfl) (keyC_same zeroKey_length Lk.out) (Tryd.sizeKey _ Lk.out) (keyC_one _) E2.out ?_); intro w5 T5; simp only [List.set_cons_zero] at T5; have E5 := Lib.hid T5; clear T5))
  exact bodyPost_ret (results_cell_row rfl _ _ g2 23 (keyC k) (0, 0) (.array 32 5) rfl (E5.out.row 0 rfl) Tryd.underlying23 rfl (Tryd.sizeKey _ Lk.out)) rfl ⟨rfl, E5.out.tl.tl⟩
end Go.Proofs.YtfnmglicfgkmjaaDoor
end
section
namespace Go.Proofs.YtfnmglicfgkmjaaDoor
open Go.RowKit
set_option linter.unusedVariables false
set_option maxRecDepth 20000

set_option maxHeartbeats 4000000 in
theorem sign_env (w0 W : World) (ht : Tabs w0) (rs : List (Nat × TypeId × Array Value)) (m g n i b : Nat) (s t q d : List UInt8) (d0 e0 : Int) (ls : s.length = 32) (lt : t.length = 32) (ld : d.length = 32) (hE : Env w0 rs W) (hm : rs[m]? = some (g, 66, mC n)) (hn : n ≤ 500000)
    (hi : rs[i]? = some (b, 79, sgC g s t d0 e0 q)) :
    Calls Tryd.prog 16 #[.pointer (some ⟨b, 0, none⟩), .agg (keyC d)] W fun e x => ∃ n' ge, n' ≤ n + 1300 ∧ e = .returned (.slice (some ⟨ge, 0, none⟩) 67 67) ∧ Env w0 ((ge, 23, keyC (signL s t d).flatten) :: rs.set m (g, 66, mC n')) x := by
  have hmi : m ≠ i := fun e => by
    rw [← e, hm] at hi
    injection hi with hi
    injection hi with _ hi
    injection hi with hi
    exact absurd hi (by decide)
  have HT := Lib.hid ht
  have HM := Lib.hid hm
  have E0 := Lib.hid hE
  have LD := Lib.hid ld
  obtain ⟨D, hD⟩ : ∃ D, D = digitsL d := ⟨_, rfl⟩
  have DL : Hid (D.length = 67) := by show _ = _; rw [hD]; exact digitsL_length d ld
  have DB : Hid (∀ c, D.getD c 0 ≤ 15) := fun c => by rw [hD]; exact digitsL_getD d ld c
  have CD : Hid (∀ x rs', Env w0 rs' x → Calls Tryd.prog 9 #[.agg (keyC d)] x fun e w' => ∃ b, e = .returned (.slice (some ⟨b, 0, none⟩) 67 67) ∧ Env w0 ((b, 3, intC D) :: rs') w') := fun x rs' h => by rw [hD]; exact digits_env w0 x rs' h d ld
  obtain ⟨f, hf⟩ : ∃ f : Nat → List UInt8, f = fun (c : Nat) => alongB t (c : Int) 0 (beginB s c) (D.getD c 0) := ⟨_, rfl⟩
  have LF : Hid (∀ c, (f c).length = 32) := fun c => by rw [hf]; exact alongB_length _ _ _ _ (beginB_length _ _) _
  have CR : Hid (∀ (c : Nat) x rs' m' n' i', c < 67 → n' ≤ 800000 → Env w0 rs' x → rs'[m']? = some (g, 66, mC n') → rs'[i']? = some (b, 79, sgC g s t d0 e0 q) → Calls Tryd.prog 30 #[.pointer (some ⟨b, 0, none⟩), .int .i64 (c : Int), .int .i64 ((D.getD c 0 : Nat) : Int)] x fun e w' => ∃ n'', n'' ≤ n' + 18 ∧ e = .returned (.agg (keyC (f c))) ∧ Env w0 (rs'.set m' (g, 66, mC n'')) w') := fun c x rs' m' n' i' h1 h2 h3 h4 h5 => by
    have hb := DB.out c
    rw [hf]
    exact (reached_env w0 x HT.out rs' m' g n' i' b h3 h4 h2 s t q d0 e0 ls lt h5 c (D.getD c 0) (by omega) (by omega)).mono fun _ _ ⟨n'', a1, a2, a3⟩ => ⟨n'', by omega, a2, a3⟩
  have HFIN : Hid (partK f 67 = signL s t d) := by show _ = _; rw [partK_all, hf, hD]; rfl
  have hmade : madeCells (Value.cells (.agg (keyC zeroKey))) (67 * 32) = keyC (partK f 0).flatten := by rw [key_made, partK_zero]
  have hlz : Hid (∀ (x : Nat × TypeId × Array Value), (rs.set m x)[i]? = some (b, 79, sgC g s t d0 e0 q)) := fun x => by rw [List.getElem?_set, if_neg hmi]; exact hi
  clear hm hi hE ls lt ld hf hD ht
  go_enter Tryd.func16, Tryd.ntmps16
  go_wp2_with (first
    | ((with_reducible refine wpE_box (o := ⟨some 3, _, _, _, _, _⟩) rfl 23 (.tmp 1) rfl (keyC d) (by with_unfolding_all rfl) E0.out ?_); intro g3 w1 T1; have E1 := Lib.hid T1; clear T1)
    | ((with_reducible refine wpE_make (o := ⟨some 10, _, _, _, _, _⟩) rfl 39 23 (.const (.int .i64 67)) (.const (.int .i64 67)) rfl 67 67 (by with_unfolding_all rfl) (by with_unfolding_all rfl) Tryd.underlying39 (.agg (keyC zeroKey)) 32 32 (by kernel_rfl) (keyC (partK f 0).flatten) hmade (by omega) (by omega) (by omega) E1.out ?_); intro ge w2 T2 _; have E2 := Lib.hid T2; clear T2)
    | (with_reducible refine wpE_load (o := ⟨some 11, _, _, _, _, _⟩) rfl 23 (.tmp 3) rfl 1 g3 23 (keyC d) _ (by with_unfolding_all rfl) (by with_unfolding_all rfl) Tryd.underlying23 rfl (Tryd.sizeKey _ LD.out) E2.out ?_))
  refine (CD.out _ _ E2.out).mono ?_
  intro e w3 h
  obtain ⟨gd, he, h3⟩ := h
  subst he
  have E3 := Lib.hid h3
  clear h3 E0 E1 E2 hmade
  go_wp2_with fail
  go_loopw [14] (fun v wr => ∃ c n' : Nat, c ≤ 67 ∧ n' ≤ n + 18 * c ∧ v = .int .i64 (c : Int) ∧ Env w0 ((gd, 3, intC D) :: (ge, 23, keyC (partK f c).flatten) :: (g3, 23, keyC d) :: rs.set m (g, 66, mC n')) wr) (fun v _ => 67 - (intOf v).toNat)
  case atStart => exact ⟨0, n, by omega, by omega, rfl, by rw [set_id HM.out]; exact E3.out⟩
  case round =>
    clear E3
    obtain ⟨c, n', hc, hn', rfl, hE⟩ := hrel
    have E := Lib.hid hE
    clear hE
    by_cases hlt : c < 67
    · have hlt2 : (c : Int) < 67 := by omega
      have hw1 : IntKind.i64.wrap ((c : Int) + 1) = (c : Int) + 1 := IntWalk.i64_in _ (by omega)
      have hq0 : ¬ ((c : Int) < 0) := by omega
      have CRC := Lib.hid (CR.out c)
      have hcell := E.out.cellV 0 rfl c _ (intC_get D c (by rw [DL.out]; exact hlt))
      obtain ⟨dg, hdg⟩ : ∃ z, z = D.getD c 0 := ⟨_, rfl⟩
      rw [← hdg] at hcell CRC
      clear hdg
      go_wp2_with fail
      refine (CRC.out _ _ (m + 3) n' (i + 3) hlt (by omega) E.out (set_at HM.out) (hlz.out _)).mono ?_
      intro e w6 h
      obtain ⟨n6, hn6, he, h6⟩ := h
      subst he
      simp only [List.set_cons_succ, List.set_set] at h6
      have E6 := Lib.hid h6
      have HST := Lib.hid (keysC_put (partK f c) (f c) c (partK_len f LF.out c) (LF.out c) (by rw [partK_length]; omega))
      have HFT : Hid (c * 32 + (keyC (f c)).size ≤ (keyC (partK f c).flatten).size) := by
        show _ ≤ _
        rw [keyC_size, keyC_size, LF.out, flat_length _ (partK_len f LF.out c), partK_length]
        omega
      rw [partK_set f c hlt] at HST
      clear h6 E hcell
      go_wp2_with ((with_reducible refine wpE_storeP (o := ⟨none, _, _, _, _, _⟩) rfl 23 (.tmp 25) (.tmp 24) rfl 1 ge (c * 32) 23 (keyC (partK f c).flatten) (keyC (partK f (c + 1)).flatten) (keyC (f c)) (by with_unfolding_all rfl) (by with_unfolding_all rfl) (by with_unfolding_all rfl) HFT.out HST.out (Tryd.sizeKey _ (LF.out c)) (keyC_one _) E6.out ?_); intro w7 T7; simp only [List.set_cons_zero, List.set_cons_succ] at T7; have E7 := Lib.hid T7; clear T7)
      refine ⟨⟨c + 1, n6, by omega, by omega, by congr 1, E7.out⟩, ?_⟩
      show 67 - ((c : Int) + 1).toNat < 67 - (c : Int).toNat
      omega
    · have hc2 : c = 67 := by omega
      clear hlt
      subst hc2
      go_wp2_with fail
      go_ret
      refine ⟨n', ge, by omega, rfl, ?_⟩
      rw [← HFIN.out]
      exact E.out.tl.less (List.Sublist.cons_cons _ (List.sublist_cons_self _ _))
end Go.Proofs.YtfnmglicfgkmjaaDoor
end
section
namespace Go.Proofs.YtfnmglicfgkmjaaDoor
open Go.RowKit
set_option linter.unusedVariables false
set_option maxRecDepth 20000

/-- A slice of keys reads as ls. -/
def Ks (w : World) (v : Value) (ls : List (List UInt8)) : Prop :=
  ∃ A c, v = .slice A ls.length c ∧ ls.length ≤ c ∧ c ≤ maxLen ∧ (0 < ls.length → ∃ b o, A = some ⟨b, o, none⟩ ∧ ∀ (k : Nat) (l : List UInt8), ls[k]? = some l → w.rangeAt b (o + k * 32) (cellsB l))
theorem Ks.row {w : World} {g : Nat} {t : TypeId} {ls : List (List UInt8)} (h : RowAt w g t (keyC ls.flatten)) (hls : ∀ l ∈ ls, l.length = 32) (hlen : ls.length ≤ 1000000) : Ks w (.slice (some ⟨g, 0, none⟩) ls.length ls.length) ls := by
  refine ⟨_, _, rfl, Nat.le_refl _, by unfold maxLen; omega, fun _ => ⟨g, 0, rfl, fun k l hk => ?_⟩⟩
  have h1 := rangeAt_row (k := k * 32) (n := (cellsB l).length) h
  rw [keys_part ls hls k l hk] at h1
  rwa [Nat.zero_add]
theorem Ks.below {w w' : World} {v : Value} {ls : List (List UInt8)} (h : Ks w v ls) (hls : ∀ l ∈ ls, l.length = 32) (hb : Below w.heap.size w w') : Ks w' v ls := by
  obtain ⟨A, c, hv, h1, h2, h3⟩ := h
  refine ⟨A, c, hv, h1, h2, fun h0 => ?_⟩
  obtain ⟨b, o, hA, hk⟩ := h3 h0
  refine ⟨b, o, hA, fun k l hl j u hj => ?_⟩
  have hc := hk k l hl j u hj
  exact (World.cell?_of_block (a := ⟨b, o + k * 32 + j, none⟩) (hb.block b (World.block_lt_of_cell? w _ hc))).trans hc
/-- The address of a slice's key. -/
theorem run_keyAddrO {P : Program} {w : World} {o : Oper} {a : Act} (ty e : TypeId) (x y : Operand) (ho : o.op = .indexAddr ty x y) (g off n c k : Nat) (hx : a.eval x = .slice (some ⟨g, off, none⟩) n c) (hy : a.eval y = .int .i64 (k : Int)) (hk : k < n)
    (hu : P.underlying ty = some (.slice e)) (hs : (P.info? e).map (·.size) = some 32) : (execOp a.eval o).run P w = .ok (.value (.pointer (some ⟨g, off + k * 32, none⟩))) w := by
  obtain ⟨f, hf, hz⟩ := Option.map_eq_some_iff.1 hs
  unfold execOp
  simp only [ho, hx, hy]
  simp [Instr.indexAt, asIntOf, run_underlying hu, sizeOf, typeInfo, hf, hz, hk, go_sem]
theorem run_keyR {P : Program} {w : World} {o : Oper} {a : Act} (ty : TypeId) (x : Operand) (ho : o.op = .load ty x) (g k : Nat) (hx : a.eval x = .pointer (some ⟨g, k, none⟩)) (l : List UInt8) (d : TypeDesc) (hc : w.rangeAt g k (cellsB l))
    (hu : P.underlying ty = some d) (hd : d.isRow = true) (hs : (P.info? ty).map (·.size) = some (cellsB l).length) : (execOp a.eval o).run P w = .ok (.value (.agg (keyC l))) w := by
  unfold execOp
  simp only [ho, hx, Instr.loadAt, Instr.sureAddr, Sem.run_bind, Sem.run_pure, Result.andThen_ok, run_loadVar_mid w g k ty (cellsB l) d hc hu hd hs]
  rfl

set_option maxHeartbeats 4000000 in
theorem recover_env (w0 W : World) (ht : Tabs w0) (rs : List (Nat × TypeId × Array Value)) (m g n : Nat) (t d : List UInt8) (lt : t.length = 32) (ld : d.length = 32) (hE : Env w0 rs W) (hm : rs[m]? = some (g, 66, mC n)) (hn : n ≤ 500000)
    (v : Value) (ls : List (List UInt8)) (hls : ∀ l ∈ ls, l.length = 32) (hlen : ls.length = 67) (hk : ∀ x n', Env w0 (rs.set m (g, 66, mC n')) x → Ks x v ls) :
    Calls Tryd.prog 20 #[.pointer (some ⟨g, 0, none⟩), .agg (keyC t), .agg (keyC d), v] W fun e x => ∃ n', n' ≤ n + 1300 ∧ e = .returned (.tuple #[.agg (keyC (recB t d ls)), .int .i64 0]) ∧ Env w0 (rs.set m (g, 66, mC n')) x := by
  have HT := Lib.hid ht
  have HM := Lib.hid hm
  have E0 := Lib.hid hE
  have LD := Lib.hid ld
  have LT := Lib.hid lt
  have HLN := Lib.hid hlen
  obtain ⟨D, hD⟩ : ∃ D, D = digitsL d := ⟨_, rfl⟩
  have DL : Hid (D.length = 67) := by show _ = _; rw [hD]; exact digitsL_length d ld
  have DB : Hid (∀ c, D.getD c 0 ≤ 15) := fun c => by rw [hD]; exact digitsL_getD d ld c
  have CD : Hid (∀ x rs', Env w0 rs' x → Calls Tryd.prog 9 #[.agg (keyC d)] x fun e w' => ∃ b, e = .returned (.slice (some ⟨b, 0, none⟩) 67 67) ∧ Env w0 ((b, 3, intC D) :: rs') w') := fun x rs' h => by rw [hD]; exact digits_env w0 x rs' h d ld
  obtain ⟨f, hf⟩ : ∃ f : Nat → List UInt8, f = fun (c : Nat) => alongB t (c : Int) ((D.getD c 0 : Nat) : Int) (ls.getD c zeroKey) (15 - D.getD c 0) := ⟨_, rfl⟩
  have LG : Hid (∀ c, (ls.getD c zeroKey).length = 32) := fun c => by
    rw [List.getD_eq_getElem?_getD]
    cases e : ls[c]? with
    | none => exact zeroKey_length
    | some x => exact hls x (List.mem_of_getElem? e)
  have LF : Hid (∀ c, (f c).length = 32) := fun c => by rw [hf]; exact alongB_length _ _ _ _ (LG.out c) _
  have CA : Hid (∀ (c : Nat) x rs' m' n', c < 67 → n' ≤ 800000 → Env w0 rs' x → rs'[m']? = some (g, 66, mC n') → Calls Tryd.prog 12 #[.pointer (some ⟨g, 0, none⟩), .agg (keyC t), .int .i64 (c : Int), .int .i64 ((D.getD c 0 : Nat) : Int), .int .i64 15, .agg (keyC (ls.getD c zeroKey))] x fun e w' => ∃ n'', n'' ≤ n' + 18 ∧ e = .returned (.agg (keyC (f c))) ∧ Env w0 (rs'.set m' (g, 66, mC n'')) w') := fun c x rs' m' n' h1 h2 h3 h4 => by
    have hb := DB.out c
    rw [hf]
    exact (along_env w0 x HT.out rs' m' g n' h3 h4 t _ LT.out (LG.out c) c _ 15 (by omega) (by omega) (by omega) (15 - D.getD c 0) (by omega) (by omega) (by omega)).mono fun _ _ ⟨a1, a2⟩ => ⟨_, by omega, a1, a2⟩
  obtain ⟨k, hkk⟩ : ∃ k, k = recB t d ls := ⟨_, rfl⟩
  have HK : Hid (digestB (t ++ (partK f 67).flatten) = k) := by show _ = _; rw [hkk, partK_all, hf, hD]; rfl
  have LK : Hid (k.length = 32) := by show _ = _; rw [hkk]; exact digestB_length _
  have CJ : Hid (∀ x rs' m' n' e ge, n' ≤ 800000 → Env w0 rs' x → rs'[m']? = some (g, 66, mC n') → rs'[e]? = some (ge, 23, keyC (partK f 67).flatten) → Calls Tryd.prog 31 #[.pointer (some ⟨g, 0, none⟩), .agg (keyC t), .slice (some ⟨ge, 0, none⟩) 67 67] x fun e w' => e = .returned (.agg (keyC k)) ∧ Env w0 (rs'.set m' (g, 66, mC (n' + 1))) w') := fun x rs' m' n' e ge h1 h2 h3 h4 => by
    have h := joined_env w0 x HT.out rs' m' g n' h2 h3 (by omega) t LT.out e ge 67 (partK f 67) (partK_len f LF.out 67) (by rw [partK_length]; omega) h4
    rw [partK_length, HK.out] at h
    exact h
  have hmade : madeCells (Value.cells (.agg (keyC zeroKey))) (67 * 32) = keyC (partK f 0).flatten := by rw [key_made, partK_zero]
  obtain ⟨VA, vc, rfl, hv1, hv2, hv0⟩ := hk W n (by rw [set_id hm]; exact hE)
  obtain ⟨vb, vo, rfl, _⟩ := hv0 (by omega)
  have HKR : Hid (∀ x n', Env w0 (rs.set m (g, 66, mC n')) x → ∀ (k : Nat) (l : List UInt8), ls[k]? = some l → x.rangeAt vb (vo + k * 32) (cellsB l)) := fun x n' h => by
    obtain ⟨A', c', he, _, _, h0⟩ := hk x n' h
    obtain ⟨b', o', hA, hh⟩ := h0 (by omega)
    injection he with e1 _ _
    rw [hA] at e1
    injection e1 with e1
    injection e1 with e1 e2 _
    subst e1 e2
    exact hh
  rw [hlen]
  clear hv0
  have HG : Hid (∀ c, c < 67 → ls[c]? = some (ls.getD c zeroKey)) := fun c hc => by rw [List.getD_eq_getElem?_getD, List.getElem?_eq_getElem (by omega)]; rfl
  rw [← hkk]
  have hv3 : (67 : Nat) ≤ vc := by omega
  clear hm hE lt ld hf hD ht hk hls hlen hkk hv1
  go_enter Tryd.func20, Tryd.ntmps20
  go_wp2_with (first
    | ((with_reducible refine wpE_box (o := ⟨some 5, _, _, _, _, _⟩) rfl 23 (.tmp 1) rfl (keyC t) (by with_unfolding_all rfl) E0.out ?_); intro g5 w1 T1; have E1 := Lib.hid T1; clear T1)
    | ((with_reducible refine wpE_box (o := ⟨some 6, _, _, _, _, _⟩) rfl 23 (.tmp 2) rfl (keyC d) (by with_unfolding_all rfl) E1.out ?_); intro g6 w2 T2; have E2 := Lib.hid T2; clear T2)
    | ((with_reducible refine wpE_alloc (o := ⟨some 8, _, _, _, _, _⟩) rfl 23 rfl (keyC zeroKey) Tryd.zeroK E2.out ?_); intro g8 w3 T3; have E3 := Lib.hid T3; clear T3)
    | ((with_reducible refine wpE_make (o := ⟨some 19, _, _, _, _, _⟩) rfl 39 23 (.tmp 18) (.tmp 18) rfl 67 67 (by with_unfolding_all rfl) (by with_unfolding_all rfl) Tryd.underlying39 (.agg (keyC zeroKey)) 32 32 (by kernel_rfl) (keyC (partK f 0).flatten) hmade (by omega) (by omega) (by omega) E3.out ?_); intro ge w4 T4 _; have E4 := Lib.hid T4; clear T4)
    | (with_reducible refine wpE_load (o := ⟨some 20, _, _, _, _, _⟩) rfl 23 (.tmp 6) rfl 2 g6 23 (keyC d) _ (by with_unfolding_all rfl) (by with_unfolding_all rfl) Tryd.underlying23 rfl (Tryd.sizeKey _ LD.out) E4.out ?_))
  refine (CD.out _ _ E4.out).mono ?_
  intro e w5 h
  obtain ⟨gd, he, h5⟩ := h
  subst he
  have E5 := Lib.hid h5
  clear h5 E0 E1 E2 E3 E4 hmade
  go_wp2_with fail
  go_loopw [23] (fun v wr => ∃ c n' : Nat, c ≤ 67 ∧ n' ≤ n + 18 * c ∧ v = .int .i64 (c : Int) ∧ Env w0 ((gd, 3, intC D) :: (ge, 23, keyC (partK f c).flatten) :: (g8, 23, keyC zeroKey) :: (g6, 23, keyC d) :: (g5, 23, keyC t) :: rs.set m (g, 66, mC n')) wr) (fun v _ => 67 - (intOf v).toNat)
  case atStart => exact ⟨0, n, by omega, by omega, rfl, by rw [set_id HM.out]; exact E5.out⟩
  case round =>
    clear E5
    obtain ⟨c, n', hc, hn', rfl, hE⟩ := hrel
    have E := Lib.hid hE
    clear hE
    by_cases hlt : c < 67
    · have hlt2 : (c : Int) < 67 := by omega
      have hw1 : IntKind.i64.wrap ((c : Int) + 1) = (c : Int) + 1 := IntWalk.i64_in _ (by omega)
      have hq0 : ¬ ((c : Int) < 0) := by omega
      have CAC := Lib.hid (CA.out c)
      have hcell := E.out.cellV 0 rfl c _ (intC_get D c (by rw [DL.out]; exact hlt))
      obtain ⟨dg, hdg⟩ : ∃ z, z = D.getD c 0 := ⟨_, rfl⟩
      obtain ⟨lc, hlc⟩ : ∃ z, z = ls.getD c zeroKey := ⟨_, rfl⟩
      have HGC := Lib.hid (HG.out c hlt)
      have LC := Lib.hid (LG.out c)
      rw [← hdg] at hcell CAC
      rw [← hlc] at CAC HGC LC
      clear hdg hlc
      go_wp2_with fail
      have sub : ∀ x n', Env w0 ((gd, 3, intC D) :: (ge, 23, keyC (partK f c).flatten) :: (g8, 23, keyC zeroKey) :: (g6, 23, keyC d) :: (g5, 23, keyC t) :: rs.set m (g, 66, mC n')) x → Env w0 [(g5, 23, keyC t)] x ∧ x.rangeAt vb (vo + c * 32) (cellsB lc) := fun x n' h => ⟨h.less (List.singleton_sublist.2 (List.mem_of_getElem? (i := 4) rfl)), HKR.out x n' h.tl.tl.tl.tl.tl c lc HGC.out⟩
      have SUB := Lib.hid sub
      clear sub
      refine plain_region (S := fun x => Env w0 [(g5, 23, keyC t)] x ∧ x.rangeAt vb (vo + c * 32) (cellsB lc)) (fin := fun _ => false) (by kernel_rfl) ?_
      have hS := SUB.out _ _ E.out.drew
      change walkS _ _ _ _ _ _ 13 _ _ _
      refine walkS_take (i := 0) (oi := ⟨some 28, _, _, _, _, _⟩) (v := .slice (some ⟨ge, 0, none⟩) 67 67) rfl (by kernel_rfl) (by kernel_rfl) (fun _ _ _ h => h) _ _ _ _ (by kernel_rfl) (by kernel_rfl) (Or.inl ⟨by rfl, fun w' hS' => (by clear hS hS'; go_simp)⟩) hS ?_
      try simp only [Act.put, List.setIfInBounds_toArray, List.set_cons_zero, List.set_cons_succ]
      refine walkS_take (i := 1) (oi := ⟨some 29, _, _, _, _, _⟩) (v := .int .i64 (c : Int)) rfl (by kernel_rfl) (by kernel_rfl) (fun _ _ _ h => h) _ _ _ _ (by kernel_rfl) (by kernel_rfl) (Or.inl ⟨by rfl, fun w' hS' => (by clear hS hS'; go_simp)⟩) hS ?_
      try simp only [Act.put, List.setIfInBounds_toArray, List.set_cons_zero, List.set_cons_succ]
      refine walkS_take (i := 2) (oi := ⟨some 30, _, _, _, _, _⟩) (v := .pointer (some ⟨g, 0, none⟩)) rfl (by kernel_rfl) (by kernel_rfl) (fun _ _ _ h => h) _ _ _ _ (by kernel_rfl) (by kernel_rfl) (Or.inl ⟨by rfl, fun w' hS' => (by clear hS hS'; go_simp)⟩) hS ?_
      try simp only [Act.put, List.setIfInBounds_toArray, List.set_cons_zero, List.set_cons_succ]
      refine walkS_take (i := 3) (oi := ⟨some 31, _, _, _, _, _⟩) (v := .agg (keyC t)) rfl (by kernel_rfl) (by kernel_rfl) (fun _ _ _ h => h) _ _ _ _ (by kernel_rfl) (by kernel_rfl) (Or.inl ⟨by rfl, fun w' hS' => (run_load_row 23 (.tmp 5) rfl g5 rfl 23 (keyC t) (0, 0) _ (hS'.1.row 0 rfl) Tryd.underlying23 rfl (Tryd.sizeKey t LT.out))⟩) hS ?_
      try simp only [Act.put, List.setIfInBounds_toArray, List.set_cons_zero, List.set_cons_succ]
      refine walkS_take (i := 4) (oi := ⟨some 32, _, _, _, _, _⟩) (v := .int .i64 (c : Int)) rfl (by kernel_rfl) (by kernel_rfl) (fun _ _ _ h => h) _ _ _ _ (by kernel_rfl) (by kernel_rfl) (Or.inl ⟨by rfl, fun w' hS' => (by clear hS hS'; go_simp)⟩) hS ?_
      try simp only [Act.put, List.setIfInBounds_toArray, List.set_cons_zero, List.set_cons_succ]
      refine walkS_take (i := 5) (oi := ⟨some 33, _, _, _, _, _⟩) (v := .int .i64 (dg : Int)) rfl (by kernel_rfl) (by kernel_rfl) (fun _ _ _ h => h) _ _ _ _ (by kernel_rfl) (by kernel_rfl) (Or.inl ⟨by rfl, fun w' hS' => (by clear hS hS'; go_simp)⟩) hS ?_
      try simp only [Act.put, List.setIfInBounds_toArray, List.set_cons_zero, List.set_cons_succ]
      refine walkS_take (i := 6) (oi := ⟨some 34, _, _, _, _, _⟩) (v := .slice (some ⟨vb, vo, none⟩) 67 vc) rfl (by kernel_rfl) (by kernel_rfl) (fun _ _ _ h => h) _ _ _ _ (by kernel_rfl) (by kernel_rfl) (Or.inl ⟨by rfl, fun w' hS' => (by clear hS hS'; go_simp)⟩) hS ?_
      try simp only [Act.put, List.setIfInBounds_toArray, List.set_cons_zero, List.set_cons_succ]
      refine walkS_take (i := 7) (oi := ⟨some 35, _, _, _, _, _⟩) (v := .int .i64 (c : Int)) rfl (by kernel_rfl) (by kernel_rfl) (fun _ _ _ h => h) _ _ _ _ (by kernel_rfl) (by kernel_rfl) (Or.inl ⟨by rfl, fun w' hS' => (by clear hS hS'; go_simp)⟩) hS ?_
      try simp only [Act.put, List.setIfInBounds_toArray, List.set_cons_zero, List.set_cons_succ]
      refine walkS_take (i := 8) (oi := ⟨some 36, _, _, _, _, _⟩) (v := .pointer (some ⟨vb, vo + c * 32, none⟩)) rfl (by kernel_rfl) (by kernel_rfl) (fun _ _ _ h => h) _ _ _ _ (by kernel_rfl) (by kernel_rfl) (Or.inl ⟨by rfl, fun w' hS' => (run_keyAddrO 39 23 (.tmp 34) (.tmp 35) rfl vb vo 67 vc c rfl rfl hlt Tryd.underlying39 (by rw [← show (cellsB zeroKey).length = 32 by rw [cellsB_length, zeroKey_length]]; exact Tryd.sizeKeyM zeroKey zeroKey_length))⟩) hS ?_
      try simp only [Act.put, List.setIfInBounds_toArray, List.set_cons_zero, List.set_cons_succ]
      refine walkS_take (i := 9) (oi := ⟨some 37, _, _, _, _, _⟩) (v := .agg (keyC lc)) rfl (by kernel_rfl) (by kernel_rfl) (fun _ _ _ h => h) _ _ _ _ (by kernel_rfl) (by kernel_rfl) (Or.inl ⟨by rfl, fun w' hS' => (run_keyR 23 (.tmp 36) rfl vb (vo + c * 32) rfl lc _ hS'.2 Tryd.underlying23 rfl (Tryd.sizeKeyM lc LC.out))⟩) hS ?_
      try simp only [Act.put, List.setIfInBounds_toArray, List.set_cons_zero, List.set_cons_succ]
      clear hS
      refine walkS_only (i := 10) (o := ⟨some 38, _, _, _, _, _⟩) (by kernel_rfl) rfl rfl fun KK hKK => ?_
      go_simp
      refine (CAC.out _ _ (m + 5) n' hlt (by omega) E.out.drew (set_at HM.out)).mono ?_
      intro e w6 h
      obtain ⟨n6, hn6, he, h6⟩ := h
      subst he
      simp only [List.set_cons_succ, List.set_set] at h6
      have E6 := Lib.hid h6
      clear h6 E hcell
      refine hKK _ _ (.inr (SUB.out _ _ E6.out)) ?_
      clear hKK KK
      try simp only [Act.put, List.setIfInBounds_toArray, List.set_cons_zero, List.set_cons_succ]
      refine walkS_only (i := 11) (o := ⟨some 39, _, _, _, _, _⟩) (by kernel_rfl) rfl rfl fun KK hKK => ?_
      go_simp
      refine hKK _ _ (.inr (SUB.out _ _ E6.out)) ?_
      clear hKK KK
      try simp only [Act.put, List.setIfInBounds_toArray, List.set_cons_zero, List.set_cons_succ]
      have HST := Lib.hid (keysC_put (partK f c) (f c) c (partK_len f LF.out c) (LF.out c) (by rw [partK_length]; omega))
      have HFT : Hid (c * 32 + (keyC (f c)).size ≤ (keyC (partK f c).flatten).size) := by
        show _ ≤ _
        rw [keyC_size, keyC_size, LF.out, flat_length _ (partK_len f LF.out c), partK_length]
        omega
      rw [partK_set f c hlt] at HST
      refine walkS_only (i := 12) (o := ⟨none, _, _, _, _, _⟩) (by kernel_rfl) rfl rfl fun KK hKK => ?_
      refine wp_storeP 23 (.tmp 39) (.tmp 38) rfl 1 ge (c * 32) 23 (keyC (partK f c).flatten) (keyC (partK f (c + 1)).flatten) (keyC (f c)) rfl rfl rfl HFT.out HST.out (Tryd.sizeKey _ (LF.out c)) (keyC_one _) E6.out fun w7 T7 => ?_
      simp only [List.set_cons_zero, List.set_cons_succ] at T7
      have E7 := Lib.hid T7
      clear T7
      refine hKK _ _ (.inr ⟨E7.out.less (List.singleton_sublist.2 (List.mem_of_getElem? (i := 4) rfl)), HKR.out _ _ E7.out.tl.tl.tl.tl.tl c lc HGC.out⟩) (walkS_done (by kernel_rfl) ?_ _)
      clear hKK KK SUB E6
      go_wp2_with fail
      go_roundw
      · exact ⟨c + 1, n6, by omega, by omega, by congr 1, E7.out⟩
      · show 67 - ((c : Int) + 1).toNat < 67 - (c : Int).toNat
        omega
    · have hc2 : c = 67 := by omega
      clear hlt
      subst hc2
      go_wp2_with (with_reducible refine wpE_load (o := ⟨some 42, _, _, _, _, _⟩) rfl 23 (.tmp 5) rfl 4 g5 23 (keyC t) _ (by with_unfolding_all rfl) (by with_unfolding_all rfl) Tryd.underlying23 rfl (Tryd.sizeKey _ LT.out) E.out ?_)
      refine (CJ.out _ _ (m + 5) n' 1 ge (by omega) E.out (set_at HM.out) rfl).mono ?_
      intro e w9 h
      obtain ⟨he, h9⟩ := h
      subst he
      simp only [List.set_cons_succ, List.set_set] at h9
      have E9 := Lib.hid h9
      clear h9 E
      go_wp2_with ((with_reducible refine wpE_store (o := ⟨none, _, _, _, _, _⟩) rfl 23 (.tmp 8) (.tmp 44) rfl 2 g8 23 (keyC zeroKey) (keyC k) (by with_unfolding_all rfl) (by with_unfolding_all rfl) (by with_unfolding_all rfl) (keyC_same zeroKey_length LK.out) (Tryd.sizeKey _ LK.out) (keyC_one _) E9.out ?_); intro w10 T10; simp only [List.set_cons_zero, List.set_cons_succ] at T10; have E10 := Lib.hid T10; clear T10)
      exact bodyPost_ret (ret_row_tmp rfl _ g8 23 (keyC k) _ rfl (E10.out.row 2 rfl) Tryd.underlying23 rfl (Tryd.sizeKey _ LK.out)) rfl ⟨n' + 1, by omega, rfl, E10.out.tl.tl.tl.tl.tl⟩
theorem zeroKeyV : Value.agg #[.int .u8 0, .int .u8 0, .int .u8 0, .int .u8 0, .int .u8 0, .int .u8 0, .int .u8 0, .int .u8 0, .int .u8 0, .int .u8 0, .int .u8 0, .int .u8 0, .int .u8 0, .int .u8 0, .int .u8 0, .int .u8 0, .int .u8 0, .int .u8 0, .int .u8 0, .int .u8 0, .int .u8 0, .int .u8 0, .int .u8 0, .int .u8 0, .int .u8 0, .int .u8 0, .int .u8 0, .int .u8 0, .int .u8 0, .int .u8 0, .int .u8 0, .int .u8 0] = .agg (keyC zeroKey) := rfl
set_option maxHeartbeats 4000000 in
theorem recover_not (w0 W : World) (rs : List (Nat × TypeId × Array Value)) (M : Value) (t d : List UInt8) (hE : Env w0 rs W) (A : Option Addr) (len c : Nat) (hlen : len ≠ 67) (hb : len ≤ maxLen) :
    Calls Tryd.prog 20 #[M, .agg (keyC t), .agg (keyC d), .slice A len c] W fun e x => e = .returned (.tuple #[.agg (keyC zeroKey), .int .i64 40]) ∧ Env w0 rs x := by
  have E0 := Lib.hid hE
  have hd : decide ((len : Int) = 67) = false := by simp; omega
  have HZV := Lib.hid zeroKeyV
  unfold maxLen at hb
  clear hE
  go_enter Tryd.func20, Tryd.ntmps20
  go_wp2_with (first
    | ((with_reducible refine wpE_box (o := ⟨some 5, _, _, _, _, _⟩) rfl 23 (.tmp 1) rfl (keyC t) (by with_unfolding_all rfl) E0.out ?_); intro g5 w1 T1; have E1 := Lib.hid T1; clear T1)
    | ((with_reducible refine wpE_box (o := ⟨some 6, _, _, _, _, _⟩) rfl 23 (.tmp 2) rfl (keyC d) (by with_unfolding_all rfl) E1.out ?_); intro g6 w2 T2; have E2 := Lib.hid T2; clear T2)
    | ((with_reducible refine wpE_alloc (o := ⟨some 8, _, _, _, _, _⟩) rfl 23 rfl (keyC zeroKey) Tryd.zeroK E2.out ?_); intro g8 w3 T3; have E3 := Lib.hid T3; clear T3)
    | ((with_reducible refine wpE_store (o := ⟨none, _, _, _, _, _⟩) rfl 23 (.tmp 8) (.tmp 16) rfl 0 g8 23 (keyC zeroKey) (keyC zeroKey) (by with_unfolding_all rfl) (by with_unfolding_all rfl) (by with_unfolding_all exact HZV.out) rfl (Tryd.sizeKey _ zeroKey_length) (keyC_one _) E3.out ?_); intro w5 T5; simp only [List.set_cons_zero] at T5; have E5 := Lib.hid T5; clear T5))
  exact bodyPost_ret (ret_row_tmp rfl _ g8 23 (keyC zeroKey) _ rfl (E5.out.row 0 rfl) Tryd.underlying23 rfl (Tryd.sizeKey _ zeroKey_length)) rfl ⟨rfl, E5.out.tl.tl.tl⟩
end Go.Proofs.YtfnmglicfgkmjaaDoor
end
