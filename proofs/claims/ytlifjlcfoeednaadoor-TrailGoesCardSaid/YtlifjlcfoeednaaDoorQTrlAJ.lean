/-
  Texts that belong together, merged: TrlX, TrlH, LitOwn, TrlM, TrlI. Conditions: as each theorem names them.
-/
import Derived.Test.YtlifjlcfoeednaaDoorQTrlAH
import Derived.Test.YtlifjlcfoeednaaDoorQTrlAI
import Derived.Test.YtlifjlcfoeednaaDoorQTrlAA
section
namespace Go.Proofs.YtlifjlcfoeednaaDoor
open Go.RowKit
set_option linter.unusedVariables false
set_option maxRecDepth 20000

theorem Env.snoc {w0 w : World} {rs : List (Nat × TypeId × Array Value)} {g : Nat} {t : TypeId} {cs : Array Value} (h : Env w0 rs w) (hr : RowAt w g t cs) (hs : w0.heap.size ≤ g) (hne : ∀ r ∈ rs, r.1 ≠ g) : Env w0 (rs ++ [(g, t, cs)]) w := by
  have h1 := h.add hr hs hne
  refine ⟨h1.below, fun r hm => ?_, ?_⟩
  · rcases List.mem_append.1 hm with hm | hm
    · exact h1.rows r (List.mem_cons_of_mem _ hm)
    · exact h1.rows r (List.mem_cons.2 (.inl (List.mem_singleton.1 hm)))
  · rw [List.map_append]
    have h3 := h1.apart
    rw [List.map_cons] at h3
    have h4 : ([g] ++ rs.map fun r => r.1).Nodup := h3
    have hp : List.Perm ([g] ++ rs.map fun r => r.1) ((rs.map fun r => r.1) ++ [g]) := List.perm_append_comm
    exact hp.nodup_iff.1 h4
theorem Env.newTail {w0 w w' : World} {rs : List (Nat × TypeId × Array Value)} {g : Nat} {t : TypeId} {cs : Array Value} (h : Env w0 (rs ++ []) w) (n : NewRow w g t cs w') : Env w0 (rs ++ [(g, t, cs)]) w' := by
  rw [List.append_nil] at h
  refine (h.call n.below).snoc n.row ?_ fun r hr => ?_
  · rw [n.spot]; exact h.below.size
  · rw [n.spot]
    have := (h.rows r hr).1.lt
    omega
/-- The row of a list of trails, if there is one yet. -/
def tlEx (T : TypeId) (v : Value) (L : List (List UInt8 × Nat)) (ex : List (Nat × TypeId × Array Value)) : Prop :=
  (ex = [] ∧ v = .slice none 0 0 ∧ L = []) ∨ ∃ g cap cur, ex = [(g, T, cur)] ∧ v = .slice (some ⟨g, 0, none⟩) L.length cap ∧ L.length ≤ cap ∧ cap ≤ maxLen ∧ cur.size = cap * 33 ∧ cur.toList.take (L.length * 33) = trF L
theorem tlEx.empty (T : TypeId) (g : Nat) : tlEx T (.slice (some ⟨g, 0, none⟩) 0 0) [] [(g, T, #[])] := .inr ⟨g, 0, #[], rfl, rfl, Nat.le_refl _, by simp [maxLen], rfl, rfl⟩
section
variable {w0 x : World} {T : TypeId} {v : Value} {L : List (List UInt8 × Nat)} {rs ex : List (Nat × TypeId × Array Value)}
theorem tlEx.nil (T : TypeId) : tlEx T (.slice none 0 0) [] [] := .inl ⟨rfl, rfl, rfl⟩
theorem tl_own (h : tlEx T v L ex) (hL : HeadsOk L) (hE : Env w0 (rs ++ ex) x) : x.ownsRow 0 T 33 v L.length (trF L) := by
  refine ⟨trF_length hL, ?_⟩
  rcases h with ⟨_, hv, hl⟩ | ⟨g, cap, cur, rfl, hv, h2, h3, h4, h5⟩
  · exact .inl ⟨hv, by rw [hl]; rfl⟩
  · exact .inr ⟨g, cap, cur, hv, Nat.zero_le _, (hE.rows (g, T, cur) (List.mem_append_right _ (List.mem_singleton.2 rfl))).1, h2, h3, h4, h5⟩
theorem tl_read (h : tlEx T v L ex) (hL : HeadsOk L) (hE : Env w0 (rs ++ ex) x) : Row_ x (fun _ => True) v L.length (trF L) := by
  rcases h with ⟨_, rfl, rfl⟩ | ⟨g, cap, cur, rfl, rfl, h2, h3, h4, h5⟩
  · exact ⟨none, 0, rfl, Nat.le_refl _, by simp [maxLen], fun h => absurd h (by simp)⟩
  · have hr := rangeAt_row (k := 0) (n := L.length * 33) (hE.rows (g, T, cur) (List.mem_append_right _ (List.mem_singleton.2 rfl))).1
    rw [List.drop_zero, h5] at hr
    exact ⟨_, cap, rfl, h2, h3, fun _ => ⟨g, 0, rfl, trivial, hr⟩⟩
theorem tl_shape (h : tlEx T v L ex) : ∃ A c, v = .slice A L.length c ∧ (0 < L.length → ∃ g cap cur, A = some ⟨g, 0, none⟩ ∧ ex = [(g, T, cur)] ∧ L.length ≤ cap ∧ cur.size = cap * 33 ∧ cur.toList.take (L.length * 33) = trF L) := by
  rcases h with ⟨_, rfl, rfl⟩ | ⟨g, cap, cur, rfl, rfl, h2, h3, h4, h5⟩
  · exact ⟨none, 0, rfl, fun h => absurd h (by simp)⟩
  · exact ⟨_, cap, rfl, fun _ => ⟨g, cap, cur, rfl, rfl, h2, h4, h5⟩⟩
/-- What is in the list's row. -/
theorem tl_num {cur : Array Value} (hL : HeadsOk L) (h5 : cur.toList.take (L.length * 33) = trF L) {j : Nat} {t : List UInt8 × Nat} (hj : L[j]? = some t) : cur[j * 33 + 32]? = some (.int .u32 (t.2 : Int)) := by
  have hlt := (List.getElem?_eq_some_iff.1 hj).1
  have h1 := trF_num hL hj
  rw [← h5, List.getElem?_take, if_pos (by omega)] at h1
  rw [← Array.getElem?_toList]
  exact h1
theorem tl_head {cur : Array Value} (hL : HeadsOk L) (h5 : cur.toList.take (L.length * 33) = trF L) {j : Nat} {t : List UInt8 × Nat} (hj : L[j]? = some t) : (cur.toList.drop (j * 33)).take (cellsB t.1).length = cellsB t.1 := by
  have hlt := (List.getElem?_eq_some_iff.1 hj).1
  have h1 := trF_head hL hj
  have h32 : (cellsB t.1).length = 32 := by rw [cellsB_length]; exact hL t (List.mem_of_getElem? hj)
  rw [← h5, List.drop_take, List.take_take, show min 32 (L.length * 33 - j * 33) = 32 by omega] at h1
  rw [h32]
  exact h1
theorem tl_part {cur : Array Value} (hL : HeadsOk L) (h5 : cur.toList.take (L.length * 33) = trF L) {j : Nat} {t : List UInt8 × Nat} (hj : L[j]? = some t) : (cur.toList.drop (j * 33)).take (tr1 t).length = tr1 t := by
  have hlt := (List.getElem?_eq_some_iff.1 hj).1
  have h1 := trF_part hL hj
  have h32 : (tr1 t).length = 33 := trL_length _ _ (hL t (List.mem_of_getElem? hj))
  rw [← h5, List.drop_take, List.take_take, show min 33 (L.length * 33 - j * 33) = 33 by omega] at h1
  rw [h32]
  exact h1
end
/-- append of trails that are read. -/
theorem wp_appTl {P : Program} {w0 w : World} {rs ex : List (Nat × TypeId × Array Value)} {o : Oper} {a : Act} {K : Act → World → Prop} {Q : Exit → Act → World → Prop} (s x : Operand) (t : TypeId)
    (ho : o.op = .call { callee := .builtin .append, args := #[s, x], argTypes := #[t, t] }) (T : TypeId)
    (hinfo : (P.info? T).map (fun i => (i.zero, i.size, i.bytes)) = some (some (.agg (trC zeroKey 0)), 33, 36)) (ht : P.underlying t = some (.slice T))
    (v u : Value) (L M : List (List UInt8 × Nat)) (hs : a.eval s = v) (hx : a.eval x = u) (hL : HeadsOk L) (hM : HeadsOk M) (hu : Row_ w (fun _ => True) u M.length (trF M))
    (hex : tlEx T v L ex) (hE : Env w0 (rs ++ ex) w) (hn : L.length + M.length ≤ 1000)
    (h : ∀ v' w' ex', tlEx T v' (L ++ M) ex' → Env w0 (rs ++ ex') w' → K (a.put o.dst v') w') : o.wp P a w K Q := by
  have hown := tl_own hex hL hE
  obtain ⟨v', w', hr, h2, h3, h5⟩ := run_appRow (P := P) (w := w) (R := fun _ => True) 0 t o.type T (.agg (trC zeroKey 0)) 33 36 ht hinfo (trC_size _ _ zeroKey_length) (by omega) v L.length (trF L) hown u M.length (trF M) hu (trF_length hM) trF_one (by unfold maxLen; omega) (by omega) (Nat.zero_le _)
  have hEr : Env w0 rs w := hE.less (List.sublist_append_left _ _)
  have hob : ∀ k, v.ownBlock = some k → w0.heap.size ≤ k ∧ ∀ r ∈ rs, r.1 ≠ k := fun k hk => by
    rcases hex with ⟨_, rfl, _⟩ | ⟨g, cap, cur, rfl, rfl, _⟩
    · cases hk
    · obtain rfl : g = k := Option.some.inj hk
      refine ⟨(hE.rows (g, T, cur) (List.mem_append_right _ (List.mem_singleton.2 rfl))).2, fun r hr e => ?_⟩
      have hap := hE.apart
      rw [List.map_append] at hap
      exact (List.nodup_append.1 hap).2.2 r.1 (List.mem_map_of_mem hr) g (by simp) e
  have hEg : Env w0 rs w' := hEr.grown h3 (fun r hr e => (hob _ e.symm).2 r hr rfl) fun k hk => (hob k hk).1
  have hK : ∀ ex', tlEx T v' (L ++ M) ex' → Env w0 (rs ++ ex') w' → o.wp P a w K Q := fun ex' q1 q2 => by
    unfold Oper.wp execOp
    simp only [ho, resolve, invoke, builtin, Sem.run_bind, Sem.run_pure, Result.andThen_ok, List.map_toArray, List.map_cons, List.map_nil, hs, hx, hr]
    exact h v' w' ex' q1 q2
  have hl2 := h2.1
  rcases h2.2 with ⟨rfl, hc⟩ | ⟨g', cap', cur', rfl, _, hrow, q1, q2, q3, q4⟩
  · have h0 : L.length + M.length = 0 := by rw [hc] at hl2; simp at hl2; omega
    have hnil : L ++ M = [] := List.eq_nil_of_length_eq_zero (by rw [List.length_append]; exact h0)
    exact hK [] (.inl ⟨rfl, rfl, hnil⟩) (by rw [List.append_nil]; exact hEg)
  · refine hK [(g', T, cur')] (.inr ⟨g', cap', cur', rfl, by rw [List.length_append], by rw [List.length_append]; exact q1, q2, q3, by rw [List.length_append, trF_append]; exact q4⟩) (hEg.snoc hrow ?_ ?_)
    · rcases h5 with h5 | h5
      · exact (hob g' h5.symm).1
      · obtain rfl : g' = w.heap.size := Option.some.inj h5
        exact hEr.below.size
    · intro r hrr
      rcases h5 with h5 | h5
      · exact (hob g' h5.symm).2 r hrr
      · obtain rfl : g' = w.heap.size := Option.some.inj h5
        have := (hEr.rows r hrr).1.lt
        omega
theorem wpList_appTl {P : Program} {w0 w : World} {rs ex : List (Nat × TypeId × Array Value)} {ops : Array Oper} {rest : List Oper} {o : Oper} {a : Act} {Q : Exit → Act → World → Prop} (hgd : o.guard = none) (s x : Operand) (t : TypeId)
    (ho : o.op = .call { callee := .builtin .append, args := #[s, x], argTypes := #[t, t] }) (T : TypeId)
    (hinfo : (P.info? T).map (fun i => (i.zero, i.size, i.bytes)) = some (some (.agg (trC zeroKey 0)), 33, 36)) (ht : P.underlying t = some (.slice T))
    (v u : Value) (L M : List (List UInt8 × Nat)) (hs : a.eval s = v) (hx : a.eval x = u) (hL : HeadsOk L) (hM : HeadsOk M) (hu : Row_ w (fun _ => True) u M.length (trF M))
    (hex : tlEx T v L ex) (hE : Env w0 (rs ++ ex) w) (hn : L.length + M.length ≤ 1000)
    (h : ∀ v' w' ex', tlEx T v' (L ++ M) ex' → Env w0 (rs ++ ex') w' → wpList P ops Q rest (a.put o.dst v') w') : wpList P ops Q (o :: rest) a w :=
  wpList_plain hgd fun _ hK => wp_appTl s x t ho T hinfo ht v u L M hs hx hL hM hu hex hE hn fun v' w' ex' h1 h2 => hK _ _ (h v' w' ex' h1 h2)
end Go.Proofs.YtlifjlcfoeednaaDoor
end
section
namespace Go.Proofs.YtlifjlcfoeednaaDoor
open Go.RowKit
set_option linter.unusedVariables false
set_option maxRecDepth 20000

/-- How many go. -/
def goneT : List (List UInt8 × Nat) → Nat → Nat
  | x :: y :: r, n => if x.2 < n then goneT (y :: r) n + 1 else 0
  | _, _ => 0
theorem gone_spec (n : Nat) : ∀ L : List (List UInt8 × Nat), goneT L n ≤ L.length - 1 ∧ (∀ (j : Nat) (t : List UInt8 × Nat), j < goneT L n → L[j]? = some t → t.2 < n) ∧ (goneT L n = L.length - 1 ∨ ∃ t, L[goneT L n]? = some t ∧ n ≤ t.2)
  | [] => ⟨Nat.zero_le _, fun j t h => absurd h (Nat.not_lt_zero j), .inl rfl⟩
  | [x] => ⟨Nat.zero_le _, fun j t h => absurd h (Nat.not_lt_zero j), .inl rfl⟩
  | x :: y :: r => by
    obtain ⟨h1, h2, h3⟩ := gone_spec n (y :: r)
    by_cases h : x.2 < n
    · have e : goneT (x :: y :: r) n = goneT (y :: r) n + 1 := by rw [goneT, if_pos h]
      rw [e]
      refine ⟨by simp only [List.length_cons] at h1 ⊢; omega, fun j t hj ht => ?_, ?_⟩
      · cases j with
        | zero =>
          have : x = t := by simpa using ht
          rw [← this]; exact h
        | succ j => exact h2 j t (by omega) (by simpa using ht)
      · rcases h3 with h3 | ⟨t, h3, h4⟩
        · exact .inl (by simp only [List.length_cons] at h3 ⊢; omega)
        · exact .inr ⟨t, by simpa using h3, h4⟩
    · have e : goneT (x :: y :: r) n = 0 := by rw [goneT, if_neg h]
      rw [e]
      exact ⟨Nat.zero_le _, fun j t h => absurd h (Nat.not_lt_zero j), .inr ⟨x, rfl, by omega⟩⟩
set_option maxHeartbeats 4000000 in
theorem pastForget_env (w0 w : World) (rs : List (Nat × TypeId × Array Value)) (i b : Nat) (hE : Env w0 rs w) (L : List (List UInt8 × Nat)) (hL : TOk L) (hi : rs[i]? = some (b, 46, pastC L)) (n : Nat) (hn : n < 4294967296) :
    Calls Tryd.prog 17 #[.pointer (some ⟨b, 0, none⟩), .int .u32 (n : Int)] w fun e w' => e = .returned (.tuple #[]) ∧ Env w0 (rs.set i (b, 46, pastC (L.drop (goneT L n)))) w' := by
  have E0 := Lib.hid hE
  have HI := Lib.hid hi
  obtain ⟨hG1, hG2, hG3⟩ := gone_spec n L
  obtain ⟨G, hG⟩ : ∃ G, G = goneT L n := ⟨_, rfl⟩
  rw [← hG] at hG1 hG2 hG3 ⊢
  obtain ⟨N, hN⟩ : ∃ N, N = L.length := ⟨_, rfl⟩
  have hfew := hL.few
  have CL : Hid (∀ x, Env w0 rs x → Calls Tryd.prog 19 #[.pointer (some ⟨b, 0, none⟩)] x (RetV x (.int .i64 (N : Int)))) := fun x hx => by rw [hN]; exact pastLen_any w0 x rs i b hx L hL hi
  have CD : Hid (0 < G → ∀ x, Env w0 rs x → Calls Tryd.prog 29 #[.pointer (some ⟨b, 0, none⟩), .int .i64 (G : Int)] x fun e w' => e = .returned (.tuple #[]) ∧ Env w0 (rs.set i (b, 46, pastC (L.drop G))) w') := fun h x hx => pastDrop_env w0 x rs i b hx L hL hi G h (by omega)
  have CN : Hid (∀ x j (t : List UInt8 × Nat), Env w0 rs x → L[j]? = some t → x.cell? ⟨b, j * 33 + 32, none⟩ = some (.int .u32 (t.2 : Int))) := fun x j t hx hj => hx.cellV i hi _ _ (pastX_num (fillT_ok hL.heads) (fillT_length hL.few) (fillT_get hj))
  have GET : Hid (∀ j, j < N → ∃ t, L[j]? = some t) := fun j hj => ⟨_, List.getElem?_eq_getElem (by omega)⟩
  have D0 : Hid (G = 0 → rs.set i (b, 46, pastC (L.drop G)) = rs) := fun h => by rw [h, List.drop_zero, set_id hi]
  have H2 := Lib.hid hG2
  have H3 := Lib.hid hG3
  rw [← hN] at hG1 H3 hfew
  have hwN : IntKind.i64.wrap ((N : Int) - 1) = (N : Int) - 1 := IntWalk.i64_in _ (by omega)
  clear hE hi hL hN hG hG2 hG3
  go_enter Tryd.func17, Tryd.ntmps17
  go_wp2_with fail
  go_loopw [4] (fun q wr => ∃ j : Nat, j ≤ G ∧ q = .int .i64 (j : Int) ∧ Env w0 rs wr) (fun q _ => G - (intOf q).toNat)
  case atStart => exact ⟨0, by omega, rfl, E0.out⟩
  case round =>
    clear E0
    obtain ⟨j, hj, rfl, hE⟩ := hrel
    have E := Lib.hid hE
    clear hE
    go_wp2_with fail
    refine (CL.out _ E.out).mono ?_
    intro e w1 h
    obtain ⟨he, b1⟩ := h
    subst he
    have E1 := Lib.hid (E.out.call b1)
    clear b1 E
    by_cases hlt : j < G
    · have hlt2 : (j : Int) < (N : Int) - 1 := by omega
      have hw1 : IntKind.i64.wrap ((j : Int) + 1) = (j : Int) + 1 := IntWalk.i64_in _ (by omega)
      have hj64 : j < 64 := by omega
      obtain ⟨t, ht⟩ := GET.out j (by omega)
      have ht2 : t.2 < n := H2.out j t hlt ht
      have c1 := CN.out w1 j t E1.out ht
      clear ht
      go_wp2_with (with_reducible refine wpListG_val (o := ⟨some 15, _, _, _, _, _⟩) (by with_unfolding_all rfl) _ (run_idxArr0 33 44 27 64 (.tmp 14) (.tmp 12) rfl b j .i64 (by with_unfolding_all rfl) (by with_unfolding_all rfl) hj64 Tryd.underlying44 Tryd.sizeT33) ?_)
      try go_roundw
      · exact ⟨j + 1, by omega, by congr 1, E1.out⟩
      · show G - ((j : Int) + 1).toNat < G - (j : Int).toNat
        omega
    · have hjG : j = G := by omega
      clear hlt hj
      subst hjG
      by_cases hend : (j : Int) < (N : Int) - 1
      · obtain ⟨t, ht, hnt⟩ : ∃ t, L[j]? = some t ∧ n ≤ t.2 := H3.out.resolve_left (by omega)
        have hj64 : j < 64 := by omega
        have c1 := CN.out w1 j t E1.out ht
        have hnt2 : ¬ (t.2 < n) := by omega
        clear ht hnt
        by_cases h0 : 0 < j
        · have h01 : (0 : Int) < (j : Int) := by omega
          go_wp2_with (with_reducible refine wpListG_val (o := ⟨some 15, _, _, _, _, _⟩) (by with_unfolding_all rfl) _ (run_idxArr0 33 44 27 64 (.tmp 14) (.tmp 12) rfl b j .i64 (by with_unfolding_all rfl) (by with_unfolding_all rfl) hj64 Tryd.underlying44 Tryd.sizeT33) ?_)
          refine (CD.out h0 _ E1.out).mono ?_
          intro e w2 h
          obtain ⟨he, h2⟩ := h
          subst he
          have E2 := Lib.hid h2
          clear h2
          go_wp2_with fail
          exact bodyPost_end (results_none rfl _ _ _) rfl ⟨rfl, E2.out⟩
        · have h00 : j = 0 := by omega
          have E2 : Hid (Env w0 (rs.set i (b, 46, pastC (L.drop j))) w1) := by show Env _ _ _; rw [D0.out h00]; exact E1.out
          clear D0 CD
          subst h00
          go_wp2_with (with_reducible refine wpListG_val (o := ⟨some 15, _, _, _, _, _⟩) (by with_unfolding_all rfl) _ (run_idxArr0 33 44 27 64 (.tmp 14) (.tmp 12) rfl b j .i64 (by with_unfolding_all rfl) (by with_unfolding_all rfl) hj64 Tryd.underlying44 Tryd.sizeT33) ?_)
          exact bodyPost_end (results_none rfl _ _ _) rfl ⟨rfl, E2.out⟩
      · by_cases h0 : 0 < j
        · have h01 : (0 : Int) < (j : Int) := by omega
          go_wp2_with fail
          refine (CD.out h0 _ E1.out).mono ?_
          intro e w2 h
          obtain ⟨he, h2⟩ := h
          subst he
          have E2 := Lib.hid h2
          clear h2
          go_wp2_with fail
          exact bodyPost_end (results_none rfl _ _ _) rfl ⟨rfl, E2.out⟩
        · have h00 : j = 0 := by omega
          have E2 : Hid (Env w0 (rs.set i (b, 46, pastC (L.drop j))) w1) := by show Env _ _ _; rw [D0.out h00]; exact E1.out
          clear D0 CD
          subst h00
          go_wp2_with fail
          exact bodyPost_end (results_none rfl _ _ _) rfl ⟨rfl, E2.out⟩
set_option maxHeartbeats 2000000 in
theorem pastTrails_env (w0 w : World) (rs : List (Nat × TypeId × Array Value)) (i b : Nat) (hE : Env w0 rs w) (L : List (List UInt8 × Nat)) (hL : TOk L) (hi : rs[i]? = some (b, 46, pastC L)) :
    Calls Tryd.prog 21 #[.pointer (some ⟨b, 0, none⟩)] w fun e w' => ∃ v ex, e = .returned v ∧ tlEx 27 v L ex ∧ Env w0 (rs ++ ex) w' := by
  have E0 := Lib.hid hE
  have HI := Lib.hid hi
  obtain ⟨N, hN⟩ : ∃ N, N = L.length := ⟨_, rfl⟩
  have hN64 : N ≤ 64 := by rw [hN]; exact hL.few
  have HN : Hid (L.length = N) := hN.symm
  have HH : Hid (HeadsOk L) := hL.heads
  have C0 : Hid ((pastC L)[2112]? = some (.int .i64 (N : Int))) := by rw [hN]; exact past_count hL
  have RD : Hid (∀ x, Env w0 rs x → Row_ x (fun _ => True) (.slice (some ⟨b, 0, none⟩) N 64) L.length (trF L)) := fun x hx => by
    have hr := rangeAt_row (k := 0 * 33) (n := L.length * 33) (hx.row i hi)
    rw [pastC, pastX_range (fillT_ok hL.heads) (fillT_length hL.few) _ _ (by rw [Nat.zero_add]; exact hL.few), List.drop_zero, fillT, List.take_left' rfl, Nat.zero_mul] at hr
    rw [hN]
    exact ⟨_, 64, rfl, hL.few, by simp [maxLen], fun _ => ⟨b, 0, rfl, trivial, hr⟩⟩
  clear hE hi hL hN
  go_enter Tryd.func21, Tryd.ntmps21
  go_wp2_with fail
  refine plain_region (S := fun x => Env w0 rs x) (fin := fun _ => false) (by kernel_rfl) ?_
  have hS := E0.out.drew
  change walkS _ _ _ _ _ _ 10 _ _ _
  refine walkS_take (i := 0) (oi := ⟨some 5, _, _, _, _, _⟩) (v := .pointer (some ⟨b, 0, none⟩)) rfl (by kernel_rfl) (by kernel_rfl) (fun _ _ _ h => h) _ _ _ _ (by kernel_rfl) (by kernel_rfl) (Or.inl ⟨by rfl, fun w' hS' => (by first | rfl | (clear hS hS'; go_simp))⟩) hS ?_
  try simp only [Act.put, List.setIfInBounds_toArray, List.set_cons_zero, List.set_cons_succ]
  refine walkS_take (i := 1) (oi := ⟨some 6, _, _, _, _, _⟩) (v := .pointer (some ⟨b, 0, none⟩)) rfl (by kernel_rfl) (by kernel_rfl) (fun _ _ _ h => h) _ _ _ _ (by kernel_rfl) (by kernel_rfl) (Or.inl ⟨by rfl, fun w' hS' => (by first | rfl | (clear hS hS'; go_simp))⟩) hS ?_
  try simp only [Act.put, List.setIfInBounds_toArray, List.set_cons_zero, List.set_cons_succ]
  refine walkS_take (i := 2) (oi := ⟨some 7, _, _, _, _, _⟩) (v := .pointer (some ⟨b, 0, none⟩)) rfl (by kernel_rfl) (by kernel_rfl) (fun _ _ _ h => h) _ _ _ _ (by kernel_rfl) (by kernel_rfl) (Or.inl ⟨by rfl, fun w' hS' => (by first | rfl | (clear hS hS'; go_simp))⟩) hS ?_
  try simp only [Act.put, List.setIfInBounds_toArray, List.set_cons_zero, List.set_cons_succ]
  refine walkS_take (i := 3) (oi := ⟨some 8, _, _, _, _, _⟩) (v := .pointer (some ⟨b, 0, none⟩)) rfl (by kernel_rfl) (by kernel_rfl) (fun _ _ _ h => h) _ _ _ _ (by kernel_rfl) (by kernel_rfl) (Or.inl ⟨by rfl, fun w' hS' => (by first | rfl | (clear hS hS'; go_simp))⟩) hS ?_
  try simp only [Act.put, List.setIfInBounds_toArray, List.set_cons_zero, List.set_cons_succ]
  refine walkS_take (i := 4) (oi := ⟨some 9, _, _, _, _, _⟩) (v := .pointer (some ⟨b, 0, none⟩)) rfl (by kernel_rfl) (by kernel_rfl) (fun _ _ _ h => h) _ _ _ _ (by kernel_rfl) (by kernel_rfl) (Or.inl ⟨by rfl, fun w' hS' => (by first | rfl | (clear hS hS'; go_simp))⟩) hS ?_
  try simp only [Act.put, List.setIfInBounds_toArray, List.set_cons_zero, List.set_cons_succ]
  refine walkS_take (i := 5) (oi := ⟨some 10, _, _, _, _, _⟩) (v := .pointer (some ⟨b, 2112, none⟩)) rfl (by kernel_rfl) (by kernel_rfl) (fun _ _ _ h => h) _ _ _ _ (by kernel_rfl) (by kernel_rfl) (Or.inl ⟨by rfl, fun w' hS' => (by first | rfl | (clear hS hS'; go_simp))⟩) hS ?_
  try simp only [Act.put, List.setIfInBounds_toArray, List.set_cons_zero, List.set_cons_succ]
  refine walkS_take (i := 6) (oi := ⟨some 11, _, _, _, _, _⟩) (v := .int .i64 (N : Int)) rfl (by kernel_rfl) (by kernel_rfl) (fun _ _ _ h => h) _ _ _ _ (by kernel_rfl) (by kernel_rfl) (Or.inl ⟨by rfl, fun w' hS' => (by have c := hS'.cellV i HI.out 2112 _ C0.out; clear hS hS'; go_simp)⟩) hS ?_
  try simp only [Act.put, List.setIfInBounds_toArray, List.set_cons_zero, List.set_cons_succ]
  refine walkS_take (i := 7) (oi := ⟨some 12, _, _, _, _, _⟩) (v := .slice (some ⟨b, 0, none⟩) N 64) rfl (by kernel_rfl) (by kernel_rfl) (fun _ _ _ h => h) _ _ _ _ (by kernel_rfl) (by kernel_rfl) (Or.inl ⟨by rfl, fun w' hS' => (run_slH 33 44 27 64 (.tmp 7) (.tmp 11) rfl b N .i64 rfl rfl (by omega) (by omega) Tryd.underlying44 Tryd.sizeT33)⟩) hS ?_
  try simp only [Act.put, List.setIfInBounds_toArray, List.set_cons_zero, List.set_cons_succ]
  refine walkS_only (i := 8) (o := ⟨some 13, _, _, _, _, _⟩) (by kernel_rfl) rfl rfl fun KK hKK => ?_
  refine wp_appTl (ex := []) (.const (.slice none 0 0)) (.tmp 12) 61 rfl 27 Tryd.infoT Tryd.underlying61 _ _ [] L rfl rfl (HeadsOk.zeros 0) HH.out (RD.out _ hS) (tlEx.nil _) (by rw [List.append_nil]; exact hS) (by rw [HN.out]; simp; omega) fun v w1 ex hx h1 => ?_
  rw [List.nil_append] at hx
  have X1 := Lib.hid hx
  have E1 := Lib.hid h1
  clear h1 hx hS E0
  have hS : Env w0 rs w1 := E1.out.less (List.sublist_append_left _ _)
  refine hKK _ _ (.inr hS) ?_
  clear hKK KK 
  try simp only [Act.put, List.setIfInBounds_toArray, List.set_cons_zero, List.set_cons_succ]
  refine walkS_only (i := 9) (o := ⟨some 2, _, _, _, _, _⟩) (by kernel_rfl) rfl rfl fun KK hKK => ?_
  refine wp_assignE (.tmp 13) rfl ?_
  refine hKK _ _ (.inr hS) (walkS_done (by kernel_rfl) ?_ _)
  clear hKK KK 
  clear hS
  go_wp2_with fail
  go_ret
  exact ⟨_, ex, rfl, X1.out, E1.out⟩
end Go.Proofs.YtlifjlcfoeednaaDoor
end
section
namespace Go.Proofs.YtlifjlcfoeednaaDoor
open Go.RowKit
set_option linter.unusedVariables false
set_option maxRecDepth 20000
theorem lit_ownF (w : World) (l : List UInt8) (c : Array Value) (hc : c.toList = cellsB l) (hm : l.length ≤ maxLen) : OwnB (w.alloc (.cells c 5)) w.heap.size 5 (.slice (some ⟨w.heap.size, 0, none⟩) l.length l.length) l := by
  have h := World.ownsRow_lit (base := w.heap.size) (e := 5) (size := 1) w c l.length (Nat.le_refl _) hm (by rw [← Array.length_toList, hc, cellsB_length]; omega)
  rw [hc] at h
  exact h
end Go.Proofs.YtlifjlcfoeednaaDoor
end
section
namespace Go.Proofs.YtlifjlcfoeednaaDoor
open Go.RowKit
set_option linter.unusedVariables false
set_option maxRecDepth 20000

set_option maxHeartbeats 4000000 in
theorem refStartT_env (w0 w : World) (rs : List (Nat × TypeId × Array Value)) (m g n : Nat) (hE : Env w0 rs w) (hm : rs[m]? = some (g, 34, logC n)) (hn : n ≤ 900000) (u v : Value) (one two : List UInt8) (hu : Bs w u one) (hv : Bs w v two) (l1 : one.length ≤ 100000) (l2 : two.length ≤ 100000) :
    Calls Tryd.prog 9 #[.pointer (some ⟨g, 0, none⟩), u, v] w fun e w' => e = .returned (.agg (trC (startB one two) 0)) ∧ Env w0 (rs.set m (g, 34, logC (n + 1))) w' := by
  have HM := Lib.hid hm
  have E0 := Lib.hid hE
  have U0 := Lib.hid hu
  have V0 := Lib.hid hv
  have L1 := Lib.hid l1
  have L2 := Lib.hid l2
  obtain ⟨Au, cu, rfl, _, _, _⟩ := hu
  obtain ⟨nb, hnb⟩ : ∃ z, z = hi8 one.length := ⟨_, rfl⟩
  have LN : Hid (nb.length = 8) := by show _ = _; rw [hnb]; exact hi8_length _
  have CN : Hid (∀ w, Calls Tryd.prog 25 #[.int .u64 (one.length : Int), .int .i64 8] w (RetBs w nb)) := fun w => by rw [hnb]; exact refHi8_any w _ (by omega)
  obtain ⟨d, hd⟩ : ∃ d, d = startB one two := ⟨_, rfl⟩
  have LD : Hid (d.length = 32) := by show _ = _; rw [hd]; exact startB_length _ _
  have HD : Hid (d = digestB ([115, 116, 97, 114, 116] ++ nb ++ one ++ two)) := by
    show _ = _
    rw [hd, startB, hnb]
  have hw1 : IntKind.u64.wrap (one.length : Int) = (one.length : Int) := by rw [IntKind.wrap_u64]; omega
  have h1 : Hid (([115, 116, 97, 114, 116] : List UInt8).length + nb.length ≤ 140737488355328) := by show _ ≤ _; rw [LN.out]; simp
  have h2 : Hid (([115, 116, 97, 114, 116] ++ nb).length + one.length ≤ 140737488355328) := by show _ ≤ _; rw [List.length_append, LN.out]; simp; omega
  have h3 : Hid (([115, 116, 97, 114, 116] ++ nb ++ one).length + two.length ≤ 140737488355328) := by show _ ≤ _; rw [List.length_append, List.length_append, LN.out]; simp; omega
  have h4 : Hid (([115, 116, 97, 114, 116] ++ nb ++ one ++ two).length ≤ 1000000) := by show _ ≤ _; rw [List.length_append, List.length_append, List.length_append, LN.out]; simp; omega
  rw [← hd]
  clear hm hE hnb hd l1 l2 hv
  go_enter Tryd.func9, Tryd.ntmps9
  go_wp2_with ((with_reducible refine wpList_alloc_row (o := ⟨some 6, _, _, _, _, _⟩) rfl 36 rfl (trC zeroKey 0) Tryd.zeroR ?_); intro g6 wq n1; have U1 := Lib.hid (U0.out.below n1.below); have V1 := Lib.hid (V0.out.below n1.below); have E1 := Lib.hid (E0.out.new n1); clear n1)
  have bq := alloc_below wq (.cells #[.int .u8 115, .int .u8 116, .int .u8 97, .int .u8 114, .int .u8 116] 5)
  have O1 := Lib.hid (lit_ownF wq [115, 116, 97, 114, 116] #[.int .u8 115, .int .u8 116, .int .u8 97, .int .u8 114, .int .u8 116] rfl (by simp [maxLen]))
  have B1 := Lib.hid bq
  clear bq
  generalize wq.alloc (.cells #[.int .u8 115, .int .u8 116, .int .u8 97, .int .u8 114, .int .u8 116] 5) = w1 at O1 B1 ⊢
  refine (CN.out _).mono ?_
  intro e w2 h
  obtain ⟨u2, he, hu2, b2⟩ := h
  subst he
  have N2 := Lib.hid hu2
  have O2 := Lib.hid (O1.out.below b2)
  have B2 := Lib.hid (below_size B1.out b2)
  have U2 := Lib.hid (U1.out.below B2.out)
  have V2 := Lib.hid (V1.out.below B2.out)
  clear b2 hu2 U0 V0 E0 O1 B1
  go_wp2_with (first
    | (at_builtin; refine wpList_appB _ rfl (.tmp 8) (.tmp 12) 22 rfl wq 5 Tryd.infoB Tryd.underlying22 _ _ [115, 116, 97, 114, 116] nb rfl rfl O2.out N2.out h1.out B2.out ?_; intro v3 w3 o3 b3; have O3 := Lib.hid o3; have B3 := Lib.hid b3; clear o3 b3)
    | (at_builtin; refine wpList_appB _ rfl (.tmp 14) (.tmp 15) 22 rfl wq 5 Tryd.infoB Tryd.underlying22 _ _ ([115, 116, 97, 114, 116] ++ nb) one rfl rfl O3.out (U1.out.below B3.out) h2.out B3.out ?_; intro v4 w4 o4 b4; have O4 := Lib.hid o4; have B4 := Lib.hid b4; clear o4 b4)
    | (at_builtin; refine wpList_appB _ rfl (.tmp 18) (.tmp 19) 22 rfl wq 5 Tryd.infoB Tryd.underlying22 _ _ ([115, 116, 97, 114, 116] ++ nb ++ one) two rfl rfl O4.out (V1.out.below B4.out) h3.out B4.out ?_; intro v5 w5 o5 b5; have O5 := Lib.hid o5.bs; have E5 := Lib.hid (E1.out.call b5); clear o5 b5))
  refine (LogSum_env (m := m + 1) (n := n) E5.out HM.out _ ([115, 116, 97, 114, 116] ++ nb ++ one ++ two) d (by omega) HD.out O5.out h4.out).mono ?_
  intro e w6 h
  obtain ⟨he, h6⟩ := h
  subst he
  simp only [List.set_cons_succ] at h6
  have E6 := Lib.hid h6
  clear h6 E5 O5
  go_wp2_with (first
    | (with_reducible refine wpList_val (o := ⟨some 22, _, _, _, _, _⟩) rfl _ (run_bzR (.tmp 21) rfl d (by with_unfolding_all rfl) LD.out) ?_)
    | ((with_reducible refine wpE_store (o := ⟨none, _, _, _, _, _⟩) rfl 36 (.tmp 6) (.tmp 22) rfl 0 g6 36 (trC zeroKey 0) (trC d 0) (by with_unfolding_all rfl) (by with_unfolding_all rfl) (by with_unfolding_all rfl) (trC_same zeroKey_length LD.out) (Tryd.sizeR _ _ LD.out) (trC_one _ _) E6.out ?_); intro w7 T7; simp only [List.set_cons_zero] at T7; have E7 := Lib.hid T7; clear T7))
  exact bodyPost_ret (results_cell_row rfl _ _ g6 36 (trC d 0) (0, 0) _ rfl (E7.out.row 0 rfl) Tryd.underlying36 rfl (Tryd.sizeR _ _ LD.out)) rfl ⟨rfl, E7.out.tl⟩
set_option maxHeartbeats 8000000 in
theorem refNextT_env (w0 w : World) (rs : List (Nat × TypeId × Array Value)) (m g n : Nat) (hE : Env w0 rs w) (hm : rs[m]? = some (g, 34, logC n)) (hn : n ≤ 900000) (h : List UInt8) (k : Nat) (hh : h.length = 32) (hk : k < 4294967296) (v : Value) (b : List UInt8) (hv : Bs w v b) (lb : b.length ≤ 100000) :
    Calls Tryd.prog 12 #[.agg (trC h k), .pointer (some ⟨g, 0, none⟩), v] w fun e w' => e = .returned (.agg (trC (stepT (h, k) b).1 (stepT (h, k) b).2)) ∧ Env w0 (rs.set m (g, 34, logC (n + 1))) w' := by
  have HM := Lib.hid hm
  have E0 := Lib.hid hE
  have V0 := Lib.hid hv
  have LH := Lib.hid hh
  have LB := Lib.hid lb
  obtain ⟨Av, cv, rfl, _, _, _⟩ := hv
  obtain ⟨nb, hnb⟩ : ∃ z, z = hi8 k := ⟨_, rfl⟩
  have LN : Hid (nb.length = 8) := by show _ = _; rw [hnb]; exact hi8_length _
  have CN : Hid (∀ w, Calls Tryd.prog 25 #[.int .u64 (k : Int), .int .i64 8] w (RetBs w nb)) := fun w => by rw [hnb]; exact refHi8_any w _ (by omega)
  obtain ⟨d, hd⟩ : ∃ d, d = nextB h k b := ⟨_, rfl⟩
  have LD : Hid (d.length = 32) := by show _ = _; rw [hd]; exact nextB_length _ _ _
  have HD : Hid (d = digestB ([110, 101, 120, 116] ++ nb ++ h ++ b)) := by
    show _ = _
    rw [hd, nextB, hnb]
    
  have hw1 : IntKind.u64.wrap (k : Int) = (k : Int) := by rw [IntKind.wrap_u64]; omega
  obtain ⟨k1, hk1⟩ : ∃ k1, k1 = (k + 1) % 4294967296 := ⟨_, rfl⟩
  have hw2 : IntKind.u32.wrap ((k : Int) + 1) = (k1 : Int) := by rw [IntKind.wrap_u32]; omega
  rw [show (stepT (h, k) b).1 = d from hd.symm, show (stepT (h, k) b).2 = k1 from hk1.symm]
  have h1 : Hid (([110, 101, 120, 116] : List UInt8).length + nb.length ≤ 140737488355328) := by show _ ≤ _; rw [LN.out]; simp
  have h2 : Hid (([110, 101, 120, 116] ++ nb).length + h.length ≤ 140737488355328) := by show _ ≤ _; rw [List.length_append, LN.out, LH.out]; simp
  have h3 : Hid (([110, 101, 120, 116] ++ nb ++ h).length + b.length ≤ 140737488355328) := by show _ ≤ _; rw [List.length_append, List.length_append, LN.out, LH.out]; simp; omega
  have h4 : Hid (([110, 101, 120, 116] ++ nb ++ h ++ b).length ≤ 1000000) := by show _ ≤ _; rw [List.length_append, List.length_append, List.length_append, LN.out, LH.out]; simp; omega
  have HBY : Hid (∀ x, Calls Tryd.prog 28 #[.agg (keyC h)] x (RetOwn x 5 h)) := fun x => refBytes_own x h LH.out
  clear hm hE hh hnb hd lb hk hk1
  go_enter Tryd.func12, Tryd.ntmps12
  go_wp2_with (first
    | ((with_reducible refine wpList_box_row (o := ⟨some 3, _, _, _, _, _⟩) rfl 36 (.tmp 0) rfl (trC h k) (by with_unfolding_all rfl) ?_); intro g3 w1 n1; have V1 := Lib.hid (V0.out.below n1.below); have E1 := Lib.hid (E0.out.new n1); clear n1)
    | ((with_reducible refine wpList_alloc_row (o := ⟨some 6, _, _, _, _, _⟩) rfl 36 rfl (trC zeroKey 0) Tryd.zeroR ?_); intro g6 w2 n2; have V2 := Lib.hid (V1.out.below n2.below); have E2 := Lib.hid (E1.out.new n2); have c2 := (E2.out.call (alloc_below _ (.cells #[.int .u8 110, .int .u8 101, .int .u8 120, .int .u8 116] 5))).cellV 1 rfl 32 _ (trC_32 h k LH.out); clear n2))
  have bq := alloc_below w2 (.cells #[.int .u8 110, .int .u8 101, .int .u8 120, .int .u8 116] 5)
  have O1 := Lib.hid (lit_ownF w2 [110, 101, 120, 116] #[.int .u8 110, .int .u8 101, .int .u8 120, .int .u8 116] rfl (by simp [maxLen]))
  have B1 := Lib.hid bq
  clear bq c2
  generalize w2.alloc (.cells #[.int .u8 110, .int .u8 101, .int .u8 120, .int .u8 116] 5) = w3 at O1 B1 ⊢
  refine (CN.out _).mono ?_
  intro e w4 h4'
  obtain ⟨u4, he, hu4, b4⟩ := h4'
  subst he
  have N4 := Lib.hid hu4
  have O4 := Lib.hid (O1.out.below b4)
  have B4 := Lib.hid (below_size B1.out b4)
  clear b4 hu4 O1 B1 E0 E1 V0 V1
  go_wp2_with (first
    | (at_builtin; refine wpList_appB _ rfl (.tmp 8) (.tmp 12) 22 rfl w2 5 Tryd.infoB Tryd.underlying22 _ _ [110, 101, 120, 116] nb rfl rfl O4.out N4.out h1.out B4.out ?_; intro v5 w5 o5 b5; have O5 := Lib.hid o5; have B5 := Lib.hid b5; clear o5 b5)
    | (with_reducible refine wpList_loadK (o := ⟨some 16, _, _, _, _, _⟩) rfl 24 (.tmp 15) rfl g3 0 (by with_unfolding_all rfl) h _ (by have hr := rangeAt_row (k := 0) (n := (cellsB h).length) ((E2.out.call B5.out).row 1 rfl); rwa [trC_seed] at hr) Tryd.underlying24 rfl (Tryd.sizeKeyM _ LH.out) ?_))
  refine (HBY.out _).mono ?_
  intro e w6 h6
  obtain ⟨u6, he, o6, b6⟩ := h6
  subst he
  have O6 := Lib.hid (O5.out.below b6)
  have B6 := Lib.hid (below_size B5.out b6)
  have N6 := Lib.hid o6.bs
  clear b6 o6 O5 B5 N4 O4 B4
  go_wp2_with (at_builtin; refine wpList_appB _ rfl (.tmp 14) (.tmp 17) 22 rfl w2 5 Tryd.infoB Tryd.underlying22 _ _ ([110, 101, 120, 116] ++ nb) h rfl rfl O6.out N6.out h2.out B6.out ?_; intro v7 w7 o7 b7; have O7 := Lib.hid o7; have B7 := Lib.hid b7; clear o7 b7)
  refine plain_region (S := fun x => Env w0 [(g3, 36, trC h k)] x) (fin := fun _ => false) (by kernel_rfl) ?_
  have sub : ∀ (l : List (Nat × TypeId × Array Value)) x, (∃ j, l[j]? = some (g3, 36, trC h k)) → Env w0 l x → Env w0 [(g3, 36, trC h k)] x := fun l x ⟨j, hj⟩ h => h.less (List.singleton_sublist.2 (List.mem_of_getElem? hj))
  have SUB := Lib.hid sub
  clear sub
  have O8 := Lib.hid O7.out.drew
  have B8 := Lib.hid B7.out.drew
  generalize w7.drew = x4 at O8 B8 ⊢
  clear O7 B7 O6 B6 N6
  have E4 := Lib.hid (E2.out.call B8.out)
  have hS := SUB.out _ _ ⟨1, rfl⟩ E4.out
  change walkS _ _ _ _ _ _ 10 _ _ _
  refine walkS_take (i := 0) (oi := ⟨some 19, _, _, _, _, _⟩) (v := .pointer (some ⟨g, 0, none⟩)) rfl (by kernel_rfl) (by kernel_rfl) (fun _ _ _ h => h) _ _ _ _ (by kernel_rfl) (by kernel_rfl) (Or.inl ⟨by rfl, fun w' hS' => (by first | rfl | (clear hS hS'; go_simp))⟩) hS ?_
  try simp only [Act.put, List.setIfInBounds_toArray, List.set_cons_zero, List.set_cons_succ]
  refine walkS_take (i := 1) (oi := ⟨some 20, _, _, _, _, _⟩) (v := v7) rfl (by kernel_rfl) (by kernel_rfl) (fun _ _ _ h => h) _ _ _ _ (by kernel_rfl) (by kernel_rfl) (Or.inl ⟨by rfl, fun w' hS' => (by first | rfl | (clear hS hS'; go_simp))⟩) hS ?_
  try simp only [Act.put, List.setIfInBounds_toArray, List.set_cons_zero, List.set_cons_succ]
  refine walkS_take (i := 2) (oi := ⟨some 21, _, _, _, _, _⟩) (v := .slice Av b.length cv) rfl (by kernel_rfl) (by kernel_rfl) (fun _ _ _ h => h) _ _ _ _ (by kernel_rfl) (by kernel_rfl) (Or.inl ⟨by rfl, fun w' hS' => (by first | rfl | (clear hS hS'; go_simp))⟩) hS ?_
  try simp only [Act.put, List.setIfInBounds_toArray, List.set_cons_zero, List.set_cons_succ]
  refine walkS_take (i := 5) (oi := ⟨some 24, _, _, _, _, _⟩) (v := .pointer (some ⟨g3, 32, none⟩)) rfl (by kernel_rfl) (by kernel_rfl) (fun _ _ _ h => h) _ _ _ _ (by kernel_rfl) (by kernel_rfl) (Or.inl ⟨by rfl, fun w' hS' => (by first | rfl | (clear hS hS'; go_simp))⟩) hS ?_
  try simp only [Act.put, List.setIfInBounds_toArray, List.set_cons_zero, List.set_cons_succ]
  refine walkS_take (i := 6) (oi := ⟨some 25, _, _, _, _, _⟩) (v := .int .u32 (k : Int)) rfl (by kernel_rfl) (by kernel_rfl) (fun _ _ _ h => h) _ _ _ _ (by kernel_rfl) (by kernel_rfl) (Or.inl ⟨by rfl, fun w' hS' => (by have c := hS'.cellV 0 rfl 32 _ (trC_32 h k LH.out); clear hS hS'; go_simp)⟩) hS ?_
  try simp only [Act.put, List.setIfInBounds_toArray, List.set_cons_zero, List.set_cons_succ]
  refine walkS_take (i := 7) (oi := ⟨some 26, _, _, _, _, _⟩) (v := .int .u32 (k1 : Int)) rfl (by kernel_rfl) (by kernel_rfl) (fun _ _ _ h => h) _ _ _ _ (by kernel_rfl) (by kernel_rfl) (Or.inl ⟨by rfl, fun w' hS' => (by first | rfl | (clear hS hS'; go_simp))⟩) hS ?_
  try simp only [Act.put, List.setIfInBounds_toArray, List.set_cons_zero, List.set_cons_succ]
  clear hS
  refine walkS_only (i := 3) (o := ⟨some 22, _, _, _, _, _⟩) (by kernel_rfl) rfl rfl fun KK hKK => ?_
  refine wp_appB _ (.tmp 20) (.tmp 21) 22 rfl w2 5 Tryd.infoB Tryd.underlying22 _ _ ([110, 101, 120, 116] ++ nb ++ h) b rfl rfl O8.out (V2.out.below B8.out) h3.out B8.out fun v9 w9 o9 b9 => ?_
  have O9 := Lib.hid o9.bs
  have E9 := Lib.hid (E2.out.call b9)
  clear o9 b9 O8 B8 E4
  have hS := SUB.out _ _ ⟨1, rfl⟩ E9.out
  refine hKK _ _ (.inr hS) ?_
  clear hKK KK
  try simp only [Act.put, List.setIfInBounds_toArray, List.set_cons_zero, List.set_cons_succ]
  clear hS
  refine walkS_only (i := 4) (o := ⟨some 23, _, _, _, _, _⟩) (by kernel_rfl) rfl rfl fun KK hKK => ?_
  go_simp
  refine (LogSum_env (m := m + 2) (n := n) E9.out HM.out _ ([110, 101, 120, 116] ++ nb ++ h ++ b) d (by omega) HD.out O9.out h4.out).mono ?_
  intro e w10 h10
  obtain ⟨he, h10⟩ := h10
  subst he
  simp only [List.set_cons_succ] at h10
  have E7 := Lib.hid h10
  clear h10 E9 O9
  have hS := SUB.out _ _ ⟨1, rfl⟩ E7.out
  refine hKK _ _ (.inr hS) ?_
  clear hKK KK
  try simp only [Act.put, List.setIfInBounds_toArray, List.set_cons_zero, List.set_cons_succ]
  clear hS
  refine walkS_only (i := 8) (o := ⟨some 27, _, _, _, _, _⟩) (by kernel_rfl) rfl rfl fun KK hKK => ?_
  refine wp_val _ (run_bR (.tmp 23) (.tmp 26) rfl d k1 rfl rfl LD.out) ?_
  have hS := SUB.out _ _ ⟨1, rfl⟩ E7.out
  refine hKK _ _ (.inr hS) ?_
  clear hKK KK
  try simp only [Act.put, List.setIfInBounds_toArray, List.set_cons_zero, List.set_cons_succ]
  clear hS
  refine walkS_only (i := 9) (o := ⟨none, _, _, _, _, _⟩) (by kernel_rfl) rfl rfl fun KK hKK => ?_
  refine wp_store_row 36 (.tmp 6) (.tmp 27) rfl g6 36 (trC zeroKey 0) (trC d k1) rfl rfl (E7.out.row 0 rfl) (trC_same zeroKey_length LD.out) (Tryd.sizeR _ _ LD.out) (trC_one _ _) fun w8 p8 => ?_
  have E8 := Lib.hid (E7.out.put 0 rfl p8)
  have hS := SUB.out _ _ ⟨1, rfl⟩ E8.out
  refine hKK _ _ (.inr hS) (walkS_done (by kernel_rfl) ?_ _)
  clear hKK KK hS p8 E7 SUB
  go_wp2_with fail
  exact bodyPost_ret (results_cell_row rfl _ _ g6 36 (trC d k1) (0, 0) _ rfl (E8.out.row 0 rfl) Tryd.underlying36 rfl (Tryd.sizeR _ _ LD.out)) rfl ⟨rfl, E8.out.tl.tl⟩
end Go.Proofs.YtlifjlcfoeednaaDoor
end
section
namespace Go.Proofs.YtlifjlcfoeednaaDoor
open Go.RowKit
set_option linter.unusedVariables false
set_option maxRecDepth 20000

theorem find_iff {L : List (List UInt8 × Nat)} (hL : TOk L) (n : Nat) (hn : n < 4294967296) {j : Nat} {t : List UInt8 × Nat} (hj : L[j]? = some t) : t.2 = n ↔ j = atN L n := by
  have h1 := (hL.num hj).2
  have h2 := hL.first
  have h3 := (List.getElem?_eq_some_iff.1 hj).1
  have h4 := hL.few
  unfold atN
  constructor
  · intro h; omega
  · intro h; omega
/-- The document's past in memory: its cell, its list. -/
structure Doc (w0 : World) (rs : List (Nat × TypeId × Array Value)) (i gd : Nat) (v : Value) (L : List (List UInt8 × Nat)) (ex : List (Nat × TypeId × Array Value)) (x : World) : Prop where
  env : Env w0 (rs ++ ex) x
  ok : TOk L
  at_ : rs[i]? = some (gd, 50, #[v])
  list : tlEx 36 v L ex
section
variable {w0 x y : World} {rs ex : List (Nat × TypeId × Array Value)} {i gd : Nat} {v : Value} {L : List (List UInt8 × Nat)}
theorem Doc.call (h : Doc w0 rs i gd v L ex x) (b : Below x.heap.size x y) : Doc w0 rs i gd v L ex y := ⟨h.env.call b, h.ok, h.at_, h.list⟩
theorem Doc.cell (h : Doc w0 rs i gd v L ex x) : x.cell? ⟨gd, 0, none⟩ = some v := h.env.cellV i (at_left h.at_) 0 v rfl
theorem Doc.row (h : Doc w0 rs i gd v L ex x) (hpos : 0 < L.length) : ∃ g c cur, v = .slice (some ⟨g, 0, none⟩) L.length c ∧ RowAt x g 36 cur ∧ cur.toList.take (L.length * 33) = trF L := by
  rcases h.list with ⟨_, _, rfl⟩ | ⟨g, cap, cur, he, rfl, h2, h3, h4, h5⟩
  · simp at hpos
  · refine ⟨g, cap, cur, rfl, (h.env.rows (g, 36, cur) (List.mem_append_right _ (by rw [he]; exact List.mem_singleton.2 rfl))).1, h5⟩
theorem Doc.shape (h : Doc w0 rs i gd v L ex x) : ∃ A c, v = .slice A L.length c := by
  obtain ⟨A, c, hv, _⟩ := tl_shape h.list
  exact ⟨A, c, hv⟩
end
set_option maxHeartbeats 2000000 in
theorem refPastFirst_any (w0 w : World) (rs ex : List (Nat × TypeId × Array Value)) (i gd : Nat) (v : Value) (L : List (List UInt8 × Nat)) (hD : Doc w0 rs i gd v L ex w) :
    Calls Tryd.prog 22 #[.pointer (some ⟨gd, 0, none⟩)] w (RetV w (.int .u32 (firstN L : Int))) := by
  have c := hD.cell
  rcases L with _ | ⟨t, r⟩
  · obtain ⟨A, c1, rfl⟩ := hD.shape
    clear hD
    go_enter Tryd.func22, Tryd.ntmps22
    go_wp2
    go_ret
    exact ⟨rfl, Below.refl _ _⟩
  · obtain ⟨g, cc, cur, rfl, hr, h5⟩ := hD.row (by simp)
    have h1 := tl_num hD.ok.heads h5 (j := 0) rfl
    have c2 : w.cell? ⟨g, 32, none⟩ = some (.int .u32 (t.2 : Int)) := by rw [hr.cell]; exact h1
    obtain ⟨N, hN⟩ : ∃ N, N = (t :: r).length := ⟨_, rfl⟩
    have hN0 : 0 < N := by rw [hN]; simp
    have hN1 : ¬ ((N : Int) = 0) := by omega
    have hN2 : ((N : Int) == 0) = false := by simpa using hN1
    rw [← hN] at c
    clear hD h1 h5 hr hN
    go_enter Tryd.func22, Tryd.ntmps22
    go_wp2_with (with_reducible refine wpList_val (o := ⟨some 13, _, _, _, _, _⟩) rfl _ (run_idxAt0 33 48 36 (.tmp 12) (.const (.int .i64 0)) rfl g N cc 0 (by with_unfolding_all rfl) (by with_unfolding_all rfl) hN0 Tryd.underlying48 Tryd.sizeR33) ?_)
    go_ret
    exact ⟨rfl, Below.refl _ _⟩
set_option maxHeartbeats 2000000 in
theorem refPastFind_any (w0 w : World) (rs ex : List (Nat × TypeId × Array Value)) (i gd : Nat) (v : Value) (L : List (List UInt8 × Nat)) (hD : Doc w0 rs i gd v L ex w) (n : Nat) (hn : n < 4294967296) :
    Calls Tryd.prog 16 #[.pointer (some ⟨gd, 0, none⟩), .int .u32 (n : Int)] w (RetV w (.tuple #[.agg (keyC (findT L n).1), .int .i64 (findT L n).2])) := by
  have E0 := Lib.hid (Env.start w)
  obtain ⟨A, c0, hv⟩ := hD.shape
  have D0 := Lib.hid hD
  obtain ⟨N, hN⟩ : ∃ N, N = L.length := ⟨_, rfl⟩
  rw [← hN] at hv
  obtain ⟨q, hq⟩ : ∃ q, q = atN L n := ⟨_, rfl⟩
  have FI : Hid (∀ j t, L[j]? = some t → (t.2 = n ↔ j = q)) := fun j t h => by rw [hq]; exact find_iff hD.ok n hn h
  have GET : Hid (∀ j, j < N → ∃ t, L[j]? = some t) := fun j hj => ⟨_, List.getElem?_eq_getElem (by omega)⟩
  have HIT : Hid (∀ t, L[q]? = some t → findT L n = (t.1, 0)) := fun t h => by rw [findT, ← hq, h]
  have MISS : Hid (N ≤ q → findT L n = (zeroKey, 62)) := fun h => by rw [findT, ← hq, List.getElem?_eq_none (by omega)]
  have CV : Hid (∀ x, Below w.heap.size w x → x.cell? ⟨gd, 0, none⟩ = some (.slice A N c0)) := fun x hx => by rw [← hv]; exact (hD.call hx).cell
  have HH := Lib.hid hD.ok.heads
  have ROW : Hid (0 < N → ∃ g cur, A = some ⟨g, 0, none⟩ ∧ RowAt w g 36 cur ∧ cur.toList.take (L.length * 33) = trF L) := fun h => by
    obtain ⟨g, c, cur, h1, h2, h3⟩ := hD.row (by omega)
    rw [hv] at h1
    injection h1 with h4 h5 h6
    exact ⟨g, cur, h4, h2, h3⟩
  have hN64 : N ≤ 64 := by rw [hN]; exact hD.ok.few
  clear hD hv hN hq D0
  go_enter Tryd.func16, Tryd.ntmps16
  go_wp2_with ((with_reducible refine wpE_alloc (o := ⟨some 4, _, _, _, _, _⟩) rfl 24 rfl (keyC zeroKey) Tryd.zeroK E0.out ?_); intro g4 w1 T1; have E1 := Lib.hid T1; clear T1)
  go_loopw [6] (fun p wr => ∃ j : Nat, j ≤ N ∧ j ≤ q ∧ p = .int .i64 (j : Int) ∧ Env w [(g4, 24, keyC zeroKey)] wr) (fun p _ => N - (intOf p).toNat)
  case atStart => exact ⟨0, by omega, by omega, rfl, E1.out⟩
  case round =>
    clear E0 E1
    obtain ⟨j, hj, hjq, rfl, hE⟩ := hrel
    have E := Lib.hid hE
    clear hE
    have cv := CV.out wr E.out.below
    by_cases hlt : j < N
    · have hlt2 : (j : Int) < (N : Int) := by omega
      have hw1 : IntKind.i64.wrap ((j : Int) + 1) = (j : Int) + 1 := IntWalk.i64_in _ (by omega)
      obtain ⟨t, ht⟩ := GET.out j hlt
      obtain ⟨g, cur, rfl, hr, h5⟩ := ROW.out (by omega)
      have hrr := hr.kept E.out.below
      have c2 : wr.cell? ⟨g, j * 33 + 32, none⟩ = some (.int .u32 (t.2 : Int)) := by rw [hrr.cell]; exact tl_num HH.out h5 ht
      have LT : Hid (t.1.length = 32) := HH.out t (List.mem_of_getElem? ht)
      have RG : Hid (wr.rangeAt g (j * 33) (cellsB t.1)) := by
        have h := rangeAt_row (k := j * 33) (n := (cellsB t.1).length) hrr
        rw [tl_head HH.out h5 ht] at h
        exact h
      have fi := FI.out j t ht
      by_cases hjn : j = q
      · have h2 : t.2 = n := fi.2 hjn
        have hfd := HIT.out t (by rw [← hjn]; exact ht)
        have HF := Lib.hid hfd
        subst hjn
        subst h2
        clear ht hr h5 hrr fi hfd FI HIT MISS
        go_wp2_with (first
          | (with_reducible refine wpList_val (o := ⟨some 21, _, _, _, _, _⟩) rfl _ (run_idxAt0 33 48 36 (.tmp 19) (.tmp 20) rfl g N c0 j (by with_unfolding_all rfl) (by with_unfolding_all rfl) hlt Tryd.underlying48 Tryd.sizeR33) ?_)
          | (with_reducible refine wpList_val (o := ⟨some 31, _, _, _, _, _⟩) rfl _ (run_idxAt0 33 48 36 (.tmp 29) (.tmp 30) rfl g N c0 j (by with_unfolding_all rfl) (by with_unfolding_all rfl) hlt Tryd.underlying48 Tryd.sizeR33) ?_)
          | (with_reducible refine wpList_loadK (o := ⟨some 33, _, _, _, _, _⟩) rfl 24 (.tmp 32) rfl g (j * 33) (by with_unfolding_all rfl) t.1 _ RG.out Tryd.underlying24 rfl (Tryd.sizeKeyM _ LT.out) ?_)
          | ((with_reducible refine wpE_store (o := ⟨none, _, _, _, _, _⟩) rfl 24 (.tmp 4) (.tmp 33) rfl 0 g4 24 (keyC zeroKey) (keyC t.1) (by with_unfolding_all rfl) (by with_unfolding_all rfl) (by with_unfolding_all rfl) (keyC_same zeroKey_length LT.out) (Tryd.sizeKey _ LT.out) (keyC_one _) E.out ?_); intro w5 T5; simp only [List.set_cons_zero] at T5; have E5 := Lib.hid T5; clear T5))
        exact bodyPost_ret (ret_row_tmp rfl _ g4 24 (keyC t.1) (.array 32 5) rfl (E5.out.row 0 rfl) Tryd.underlying24 rfl (Tryd.sizeKey _ LT.out)) rfl ⟨by rw [HF.out]; rfl, E5.out.below⟩
      · have h2 : ¬ (t.2 = n) := fun h => hjn (fi.1 h)
        have h21 : ¬ ((t.2 : Int) = (n : Int)) := by omega
        have h22 : ((t.2 : Int) == (n : Int)) = false := beq_eq_false_iff_ne.2 h21
        clear ht hr h5 hrr fi FI HIT
        go_wp2_with (with_reducible refine wpList_val (o := ⟨some 21, _, _, _, _, _⟩) rfl _ (run_idxAt0 33 48 36 (.tmp 19) (.tmp 20) rfl g N c0 j (by with_unfolding_all rfl) (by with_unfolding_all rfl) hlt Tryd.underlying48 Tryd.sizeR33) ?_)
        try go_roundw
        · exact ⟨j + 1, by omega, by omega, by congr 1, E.out⟩
        · show N - ((j : Int) + 1).toNat < N - (j : Int).toNat
          omega
    · have hjN : j = N := by omega
      have HF := Lib.hid (MISS.out (by omega))
      clear FI HIT MISS hlt hj
      subst hjN
      go_wp2_with ((with_reducible refine wpE_store (o := ⟨none, _, _, _, _, _⟩) rfl 24 (.tmp 4) (.tmp 34) rfl 0 g4 24 (keyC zeroKey) (keyC zeroKey) (by with_unfolding_all rfl) (by with_unfolding_all rfl) (by with_unfolding_all rfl) (keyC_same zeroKey_length zeroKey_length) (Tryd.sizeKey _ zeroKey_length) (keyC_one _) E.out ?_); intro w5 T5; simp only [List.set_cons_zero] at T5; have E5 := Lib.hid T5; clear T5)
      exact bodyPost_ret (ret_row_tmp rfl _ g4 24 (keyC zeroKey) (.array 32 5) rfl (E5.out.row 0 rfl) Tryd.underlying24 rfl (Tryd.sizeKey _ zeroKey_length)) rfl ⟨by rw [HF.out]; rfl, E5.out.below⟩
end Go.Proofs.YtlifjlcfoeednaaDoor
end
