/-
  The ladder's pair: NewPair, Secret, Public, Shared. Conditions: the pair is one of the call's own rows; keys have thirty-two bytes.
-/
import Derived.Test.YtpgjcmccfpjmoaaLadderF
import Derived.Test.YtpgjcmccfpjmoaaOnce
namespace Go.Proofs.Ytpgjcmccfpjmoaa
open Go.RowKit
set_option linter.unusedVariables false
set_option maxRecDepth 20000

/-- A pair's cells: its secret; its Once; its public key. -/
def pairL (s : List UInt8) (d m : Int) (q : List UInt8) : List Value := cellsB s ++ ([.int .u32 d, .int .i32 m, .int .u32 0] ++ cellsB q)
def pairC (s : List UInt8) (d m : Int) (q : List UInt8) : Array Value := (pairL s d m q).toArray
section
variable (s q : List UInt8) (d m : Int) (ls : s.length = 32) (lq : q.length = 32)
theorem pairL_length (ls : s.length = 32) (lq : q.length = 32) : (pairL s d m q).length = 67 := by simp [pairL, cellsB_length, ls, lq]
theorem pairC_size (ls : s.length = 32) (lq : q.length = 32) : (pairC s d m q).size = 67 := by simp [pairC, pairL_length, ls, lq]
theorem pairC_32 (ls : s.length = 32) : (pairC s d m q)[32]? = some (.int .u32 d) := by
  simp only [pairC, pairL, List.getElem?_toArray]
  rw [List.getElem?_append_right (by rw [cellsB_length, ls]; omega), cellsB_length, ls]
  rfl
theorem pairC_33 (ls : s.length = 32) : (pairC s d m q)[33]? = some (.int .i32 m) := by
  simp only [pairC, pairL, List.getElem?_toArray]
  rw [List.getElem?_append_right (by rw [cellsB_length, ls]; omega), cellsB_length, ls]
  rfl
theorem pairC_set32 (ls : s.length = 32) (x : Int) : (pairC s d m q).setIfInBounds 32 (.int .u32 x) = pairC s x m q := by
  simp only [pairC, pairL, List.setIfInBounds_toArray]
  rw [List.set_append_right _ _ (by rw [cellsB_length, ls]; omega), cellsB_length, ls]
  rfl
theorem pairC_set33 (ls : s.length = 32) (x : Int) : (pairC s d m q).setIfInBounds 33 (.int .i32 x) = pairC s d x q := by
  simp only [pairC, pairL, List.setIfInBounds_toArray]
  rw [List.set_append_right _ _ (by rw [cellsB_length, ls]; omega), cellsB_length, ls]
  rfl
theorem pairC_secret (ls : s.length = 32) : ((pairC s d m q).toList.drop 0).take (cellsB s).length = cellsB s := by
  simp [pairC, pairL]
theorem pairC_public (ls : s.length = 32) : ((pairC s d m q).toList.drop 35).take (cellsB q).length = cellsB q := by
  have e : pairL s d m q = (cellsB s ++ [.int .u32 d, .int .i32 m, .int .u32 0]) ++ cellsB q := by simp [pairL]
  simp only [pairC]
  rw [e, List.drop_left' (by simp [cellsB_length, ls]), List.take_length]
theorem pairC_put (ls : s.length = 32) (lq : q.length = 32) (x : List UInt8) (lx : x.length = 32) : ((pairC s d m q).toList.take 35 ++ (keyC x).toList ++ (pairC s d m q).toList.drop (35 + (keyC x).size)).toArray = pairC s d m x := by
  have e : pairL s d m q = (cellsB s ++ [.int .u32 d, .int .i32 m, .int .u32 0]) ++ cellsB q := by simp [pairL]
  rw [keyC_size, lx]
  simp only [pairC, keyC]
  rw [e, List.take_left' (by simp [cellsB_length, ls]), List.drop_eq_nil_of_le (by simp [cellsB_length, ls, lq])]
  simp [pairL]
end
theorem Try.sizeKeyL (l : List UInt8) (h : l.length = 32) : (Try.prog.info? 23).map (·.size) = some (cellsB l).length := by
  have := Try.sizeKey l h
  rw [keyC_size] at this
  rw [cellsB_length]
  exact this
theorem run_part_key {P : Program} {w : World} {o : Oper} {a : Act} (ty : TypeId) (x : Operand) (ho : o.op = .load ty x) (g k : Nat) (hx : a.eval x = .pointer (some ⟨g, k, none⟩)) (t : TypeId) (cs : Array Value) (l : List UInt8) (d : TypeDesc) (hr : RowAt w g t cs) (hp : (cs.toList.drop k).take (cellsB l).length = cellsB l)
    (hu : P.underlying ty = some d) (hd : d.isRow = true) (hs : (P.info? ty).map (·.size) = some (cellsB l).length) : (execOp a.eval o).run P w = .ok (.value (.agg (keyC l))) w := by
  have hc : w.rangeAt g k (cellsB l) := by
    have h := rangeAt_row (k := k) (n := (cellsB l).length) hr
    rwa [hp] at h
  unfold execOp
  simp only [ho, hx, Instr.loadAt, Instr.sureAddr, Sem.run_bind, Sem.run_pure, Result.andThen_ok, run_loadVar_mid w g k ty (cellsB l) d hc hu hd hs]
  rfl
theorem Env.cellAt {w0 w : World} {rs : List (Nat × TypeId × Array Value)} {g : Nat} {t : TypeId} {cs : Array Value} (h : Env w0 rs w) (i : Nat) (hi : rs[i]? = some (g, t, cs)) (j : Nat) (v : Value) (hv : cs[j]? = some v) : w.cell? ⟨g, j, none⟩ = some v := by
  rw [(h.row i hi).cell j, hv]
theorem Env.fzAt {w0 w : World} {rs : List (Nat × TypeId × Array Value)} {g : Nat} {t : TypeId} {cs : Array Value} (h : Env w0 rs w) (i : Nat) (hi : rs[i]? = some (g, t, cs)) (j : Nat) : w.frozen? ⟨g, j, none⟩ = false := (h.row i hi).frozen j

set_option maxHeartbeats 2000000 in
theorem public1_env (w0 W : World) (rs : List (Nat × TypeId × Array Value)) (i j b p : Nat) (s q : List UInt8) (ls : s.length = 32) (lq : q.length = 32) (hE : Env w0 rs W) (hi : rs[i]? = some (b, 71, pairC s 0 1 q)) (hj : rs[j]? = some (p, 31, #[.pointer (some ⟨b, 0, none⟩)])) :
    Calls Try.prog 35 #[.pointer (some ⟨p, 0, none⟩)] W fun e x => e = .returned (.tuple #[]) ∧ Env w0 (rs.set i (b, 71, pairC s 0 1 (rawK s nineK))) x := by
  obtain ⟨k, hk⟩ : ∃ k, k = rawK s nineK := ⟨_, rfl⟩
  have Lk : Hid (k.length = 32) := by show _ = _; rw [hk]; exact rawK_length _ _
  have C5 : Hid (∀ w, Calls Try.prog 21 #[.agg (keyC s)] w (RetV w (.agg (keyC k)))) := by rw [hk]; exact fun w => Public_any s ls w
  rw [← hk]
  have HE := Lib.hid hE
  have Ls := Lib.hid ls
  have Lq := Lib.hid lq
  have HI := Lib.hid hi
  have HJ := Lib.hid hj
  have HP : Hid (∀ W, Env w0 rs W → W.cell? ⟨p, 0, none⟩ = some (.pointer (some ⟨b, 0, none⟩))) := fun W h => h.cellAt j HJ.out 0 _ rfl
  clear hk hE hi hj ls lq
  go_enter Try.func35, Try.ntmps35
  refine region_class_tail 8 (Env w0 rs) HE.out.drew (by kernel_rfl) (by kernel_rfl) ?_
  simp only [List.take_succ_cons, List.take_zero, List.drop_succ_cons, List.drop_zero]
  refine q_run (by rfl) (v := .pointer (some ⟨b, 0, none⟩)) (fun W hW => by have c := HP.out W hW; clear hW; go_simp) ?_
  simp only [Act.put, List.setIfInBounds_toArray, List.set_cons_zero, List.set_cons_succ]
  refine q_run (by rfl) (v := .pointer (some ⟨b, 0, none⟩)) (fun W hW => by have c := HP.out W hW; clear hW; go_simp) ?_
  simp only [Act.put, List.setIfInBounds_toArray, List.set_cons_zero, List.set_cons_succ]
  refine q_run (by rfl) (v := .pointer (some ⟨b, 0, none⟩)) (fun W _ => by go_simp) ?_
  simp only [Act.put, List.setIfInBounds_toArray, List.set_cons_zero, List.set_cons_succ]
  refine q_run (by rfl) (v := .pointer (some ⟨b, 0, none⟩)) (fun W _ => by go_simp) ?_
  simp only [Act.put, List.setIfInBounds_toArray, List.set_cons_zero, List.set_cons_succ]
  refine q_run (by rfl) (v := .agg (keyC s)) (fun W hW => run_part_key 23 (.tmp 4) rfl b 0 rfl 71 _ s _ (hW.row i HI.out) (pairC_secret s q 0 1 Ls.out) Try.underlying23 rfl (Try.sizeKeyL s Ls.out)) ?_
  simp only [Act.put, List.setIfInBounds_toArray, List.set_cons_zero, List.set_cons_succ]
  refine q_call (by rfl) 21 _ (fun W => by go_simp) (fun W hW => hW.calls (C5.out W)) ?_
  simp only [Act.put, List.setIfInBounds_toArray, List.set_cons_zero, List.set_cons_succ]
  refine q_run (by rfl) (v := .pointer (some ⟨b, 0, none⟩)) (fun W _ => by go_simp) ?_
  simp only [Act.put, List.setIfInBounds_toArray, List.set_cons_zero, List.set_cons_succ]
  refine q_run (by rfl) (v := .pointer (some ⟨b, 35, none⟩)) (fun W _ => by go_simp) ?_
  simp only [Act.put, List.setIfInBounds_toArray, List.set_cons_zero, List.set_cons_succ]
  refine wpQuiet_nil ?_
  intro w2 T2
  refine wpE_storeP rfl 23 (.tmp 8) (.tmp 6) rfl i b 35 71 (pairC s 0 1 q) (pairC s 0 1 k) (keyC k) HI.out rfl rfl (by rw [keyC_size, Lk.out, pairC_size s q 0 1 Ls.out Lq.out]; omega) (pairC_put s q 0 1 Ls.out Lq.out k Lk.out) (Try.sizeKey k Lk.out) (keyC_one k) T2 ?_
  intro w3 T3
  go_end0
  exact ⟨rfl, T3⟩
end Go.Proofs.Ytpgjcmccfpjmoaa
