/-
  Texts that belong together, merged: LadderI. Conditions: as each theorem names them.
-/
import Derived.Test.YtpgjcmccfpjmoaaQLadAO
section
namespace Go.Proofs.Ytpgjcmccfpjmoaa
open Go.RowKit
set_option linter.unusedVariables false
set_option maxRecDepth 20000

theorem fill_from (z : List Value) (l : List Value) (h : l.length ≤ z.length) : l.toArray.zipIdx.foldl (fun acc x => acc.setIfInBounds (0 + x.2) x.1) z.toArray = (l ++ z.drop l.length).toArray := by
  have key : ∀ (l : List Value) (k : Nat) (acc : List Value), k + l.length ≤ acc.length → (l.zipIdx k).foldl (fun (acc : Array Value) x => acc.setIfInBounds (0 + x.2) x.1) acc.toArray = (acc.take k ++ l ++ acc.drop (k + l.length)).toArray := by
    intro l
    induction l with
    | nil => intro k acc h; simp
    | cons v l ih =>
      intro k acc h
      rw [List.length_cons] at h
      rw [List.zipIdx_cons, List.foldl_cons]
      have e : (acc.toArray.setIfInBounds (0 + k) v) = (acc.set k v).toArray := by simp
      rw [e, ih (k + 1) (acc.set k v) (by rw [List.length_set]; omega)]
      congr 1
      rw [List.take_set, List.drop_set_of_lt (by omega), List.length_cons, List.take_succ_eq_append_getElem (by omega), List.set_append_right _ _ (by rw [List.length_take]; omega), List.length_take, Nat.min_eq_left (by omega), Nat.sub_self, List.set_cons_zero]
      simp only [List.append_assoc, List.cons_append, List.nil_append]
      rw [show k + 1 + l.length = k + (l.length + 1) by omega]
  have := key l 0 z (by simpa using h)
  simpa using this
theorem Try.pairZero : (Try.prog.info? 71).map (·.zero) = some (some (.agg (pairC zeroKey 0 0 zeroKey))) := by kernel_rfl
theorem build_pair (w : World) (s : List UInt8) (hs : s.length = 32) :
    (Instr.build 71 #[(0, .agg (keyC s))]).run Try.prog w = .ok (.agg (pairC s 0 0 zeroKey)) w := by
  obtain ⟨j, hj, hj2⟩ := Option.map_eq_some_iff.1 Try.pairZero
  obtain ⟨i, hi, hi2⟩ := Option.map_eq_some_iff.1 (Try.sizeKey s hs)
  have hf := fill_from (pairL zeroKey 0 0 zeroKey) (cellsB s) (by rw [cellsB_length, hs, pairL_length zeroKey zeroKey 0 0 zeroKey_length zeroKey_length]; omega)
  have e : cellsB s ++ (pairL zeroKey 0 0 zeroKey).drop (cellsB s).length = pairL s 0 0 zeroKey := by
    rw [cellsB_length, hs]
    unfold pairL
    rw [List.drop_left' (by rw [cellsB_length, zeroKey_length])]
  rw [e] at hf
  have hu := Try.underlying71
  obtain ⟨io, hio, _⟩ := Option.map_eq_some_iff.1 (by kernel_rfl : (Try.prog.info? 69).map (·.size) = some 3)
  have hz2 : ¬ (pairC zeroKey 0 0 zeroKey).size < (keyC s).size := by rw [keyC_size, hs, pairC_size zeroKey zeroKey 0 0 zeroKey_length zeroKey_length]; omega
  simp [Instr.build, zeroValue, typeInfo, hj, hj2, run_underlying hu, sizeOf, hi, hi2, Instr.fill, Value.cells, go_sem, hio, hz2]
  have hsz : (keyC s).size = ((keyC s).zipIdx).size := by simp
  rw [hsz]
  simpa [pairC, keyC] using hf
theorem wpList_build_pair {w : World} {ops : Array Oper} {rest : List Oper} {o : Oper} {a : Act} {Q : Exit → Act → World → Prop} (hgd : o.guard = none) (x : Operand) (ho : o.op = .build 71 #[(0, x)]) (s : List UInt8) (hx : a.eval x = .agg (keyC s)) (hs : s.length = 32)
    (h : wpList Try.prog ops Q rest (a.put o.dst (.agg (pairC s 0 0 zeroKey))) w) : wpList Try.prog ops Q (o :: rest) a w := by
  refine wpList_plain hgd fun _ hK => ?_
  unfold Oper.wp execOp
  simp [ho, hx, build_pair w s hs]
  exact hK _ _ h
set_option maxHeartbeats 2000000 in
theorem newPair_env (w0 W : World) (rs : List (Nat × TypeId × Array Value)) (s : List UInt8) (hs : s.length = 32) (hE : Env w0 rs W) :
    Calls Try.prog 16 #[.agg (keyC s)] W fun e x => ∃ b, e = .returned (.pointer (some ⟨b, 0, none⟩)) ∧ Env w0 ((b, 71, pairC s 0 0 zeroKey) :: rs) x := by
  have Ls := Lib.hid hs
  have E0 := Lib.hid hE
  clear hs hE
  go_enter Try.func16, Try.ntmps16
  go_wp2_with (first
    | ((with_reducible refine wpE_box (o := ⟨some 1, _, _, _, _, _⟩) rfl 23 (.tmp 0) rfl (keyC s) (by with_unfolding_all rfl) E0.out ?_); intro g1 w1 T1; have E1 := Lib.hid T1; clear T1)
    | (with_reducible refine wpE_load (o := ⟨some 3, _, _, _, _, _⟩) rfl 23 (.tmp 1) rfl 0 g1 23 (keyC s) _ (by with_unfolding_all rfl) (by with_unfolding_all rfl) Try.underlying23 rfl (Try.sizeKey _ Ls.out) E1.out ?_)
    | (with_reducible refine wpList_build_pair (o := ⟨some 4, _, _, _, _, _⟩) rfl (.tmp 3) rfl s (by with_unfolding_all rfl) Ls.out ?_)
    | ((with_reducible refine wpE_box (o := ⟨some 5, _, _, _, _, _⟩) rfl 71 (.tmp 4) rfl (pairC s 0 0 zeroKey) (by with_unfolding_all rfl) E1.out ?_); intro b w2 T2; have E2 := Lib.hid T2; clear T2))
  go_ret
  exact ⟨b, rfl, E2.out.less (List.Sublist.cons_cons _ (List.sublist_cons_self _ _))⟩
set_option maxHeartbeats 2000000 in
theorem pairShared_env (w0 W : World) (rs : List (Nat × TypeId × Array Value)) (i b : Nat) (s k p : List UInt8) (d m : Int) (ls : s.length = 32) (lp : p.length = 32) (hE : Env w0 rs W) (hi : rs[i]? = some (b, 71, pairC s d m k)) :
    Calls Try.prog 17 #[.pointer (some ⟨b, 0, none⟩), .agg (keyC p)] W fun e x => e = .returned (.tuple #[.agg (keyC (multK s p)), .int .i64 (multE s p)]) ∧ Env w0 rs x := by
  obtain ⟨r, hr⟩ : ∃ r, r = multK s p := ⟨_, rfl⟩
  obtain ⟨er, her⟩ : ∃ r, r = multE s p := ⟨_, rfl⟩
  have Lr : Hid (r.length = 32) := by show _ = _; rw [hr]; exact multK_length _ _
  have C14 : Hid (∀ w, Calls Try.prog 12 #[.agg (keyC s), .agg (keyC p)] w (RetV w (.tuple #[.agg (keyC r), .int .i64 er]))) := by rw [hr, her]; exact fun w => Mult_any s p ls lp w
  rw [← hr, ← her]
  have Ls := Lib.hid ls
  have Lp := Lib.hid lp
  have HI := Lib.hid hi
  have E0 := Lib.hid hE
  clear ls lp hE hi hr her
  go_enter Try.func17, Try.ntmps17
  go_wp2_with (first
    | ((with_reducible refine wpE_box (o := ⟨some 3, _, _, _, _, _⟩) rfl 23 (.tmp 1) rfl (keyC p) (by with_unfolding_all rfl) E0.out ?_); intro g1 w1 T1; have E1 := Lib.hid T1; clear T1)
    | ((with_reducible refine wpE_alloc (o := ⟨some 4, _, _, _, _, _⟩) rfl 23 rfl (keyC zeroKey) Try.zeroK E1.out ?_); intro g2 w2 T2; have E2 := Lib.hid T2; clear T2))
  have HI2 : Hid (((g2, 23, keyC zeroKey) :: (g1, 23, keyC p) :: rs)[i + 2]? = some (b, 71, pairC s d m k)) := HI.out
  refine region_class_tail 8 (Env w0 ((g2, 23, keyC zeroKey) :: (g1, 23, keyC p) :: rs)) E2.out.drew (by kernel_rfl) (by kernel_rfl) ?_
  simp only [List.take_succ_cons, List.take_zero, List.drop_succ_cons, List.drop_zero]
  refine q_run (by rfl) (v := .pointer (some ⟨b, 0, none⟩)) (fun W _ => by go_simp) ?_
  simp only [Act.put, List.setIfInBounds_toArray, List.set_cons_zero, List.set_cons_succ]
  refine q_run (by rfl) (v := .pointer (some ⟨b, 0, none⟩)) (fun W _ => by go_simp) ?_
  simp only [Act.put, List.setIfInBounds_toArray, List.set_cons_zero, List.set_cons_succ]
  refine q_run (by rfl) (v := .pointer (some ⟨b, 0, none⟩)) (fun W _ => by go_simp) ?_
  simp only [Act.put, List.setIfInBounds_toArray, List.set_cons_zero, List.set_cons_succ]
  refine q_run (by rfl) (v := .agg (keyC s)) (fun W hW => run_part_key 23 (.tmp 11) rfl b 0 rfl 71 _ s _ (hW.row (i + 2) HI2.out) (pairC_secret s k d m Ls.out) Try.underlying23 rfl (Try.sizeKeyL s Ls.out)) ?_
  simp only [Act.put, List.setIfInBounds_toArray, List.set_cons_zero, List.set_cons_succ]
  refine qE_load (by rfl) _ (.tmp 3) rfl 1 g1 23 (keyC p) _ rfl rfl Try.underlying23 rfl (Try.sizeKey _ Lp.out) ?_
  simp only [Act.put, List.setIfInBounds_toArray, List.set_cons_zero, List.set_cons_succ]
  refine q_call (by rfl) 12 _ (fun W => by go_simp) (fun W hW => hW.calls (C14.out W)) ?_
  simp only [Act.put, List.setIfInBounds_toArray, List.set_cons_zero, List.set_cons_succ]
  refine q_run (by rfl) (v := .agg (keyC r)) (fun W _ => by go_simp) ?_
  simp only [Act.put, List.setIfInBounds_toArray, List.set_cons_zero, List.set_cons_succ]
  refine q_run (by rfl) (v := .int .i64 er) (fun W _ => by go_simp) ?_
  simp only [Act.put, List.setIfInBounds_toArray, List.set_cons_zero, List.set_cons_succ]
  refine wpQuiet_nil ?_
  intro w3 T3
  have E3 := Lib.hid T3
  clear T3 E2
  go_wp2_with ((with_reducible refine wpE_store (o := ⟨none, _, _, _, _, _⟩) rfl 23 (.tmp 4) (.tmp 15) rfl 0 g2 23 (keyC zeroKey) (keyC r) (by with_unfolding_all rfl) (by with_unfolding_all rfl) (by with_unfolding_all rfl) (keyC_same zeroKey_length Lr.out) (Try.sizeKey _ Lr.out) (keyC_one _) E3.out ?_); intro w5 T5; simp only [List.set_cons_zero] at T5; have E5 := Lib.hid T5; clear T5)
  exact bodyPost_ret (ret_row_tmp rfl _ g2 23 (keyC r) _ rfl (E5.out.row 0 rfl) Try.underlying23 rfl (Try.sizeKey _ Lr.out)) rfl ⟨rfl, E5.out.rest.rest⟩
end Go.Proofs.Ytpgjcmccfpjmoaa
end
