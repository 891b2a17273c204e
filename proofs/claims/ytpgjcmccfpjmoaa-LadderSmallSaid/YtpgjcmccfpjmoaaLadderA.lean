/-
  The rungs as a row of twenty words: made, and read in part; calls and loads of a region that draws its order. Conditions: as each theorem names them.
-/
import Derived.Test.YtpgjcmccfpjmoaaFieldN
import Derived.Test.YtpgjcmccfpjmoaaLoose
namespace Go.Proofs.Ytpgjcmccfpjmoaa
open Go.RowKit
set_option linter.unusedVariables false

section
variable {P : Program} {w : World} {o : Oper} {a : Act}
theorem run_call_func (f : FuncId) (xs : Array Operand) (ts : Array TypeId) (ho : o.op = .call ⟨.value (.func f), xs, ts⟩) (args : Array Value) (hx : xs.map a.eval = args) (hf : (callFunc f args).run P w = .ok (.enter f args) w) : (execOp a.eval o).run P w = .ok (.enter f args) w := by
  have e : execOp a.eval o = callFunc f (#[] ++ xs.map a.eval ++ #[]) := by
    obtain ⟨dst, op, ty, pos, after, guard⟩ := o
    simp only at ho
    subst ho
    rfl
  rw [e, hx]
  simpa using hf
theorem run_part (ty : TypeId) (x : Operand) (ho : o.op = .load ty x) (g k : Nat) (hx : a.eval x = .pointer (some ⟨g, k, none⟩)) (t : TypeId) (l m : List Nat) (d : TypeDesc) (hr : RowAt w g t (natsC l)) (hp : (l.drop k).take m.length = m)
    (hu : P.underlying ty = some d) (hd : d.isRow = true) (hs : (P.info? ty).map (·.size) = some m.length) : (execOp a.eval o).run P w = .ok (.value (.agg (natsC m))) w := by
  have hc : w.rangeAt g k (cellsN m) := by
    have h := rangeAt_row (k := k) (n := m.length) hr
    rw [natsC_list] at h
    unfold cellsN at h
    rwa [← List.map_drop, ← List.map_take, hp] at h
  unfold execOp
  simp only [ho, hx, Instr.loadAt, Instr.sureAddr, Sem.run_bind, Sem.run_pure, Result.andThen_ok, run_loadVar_mid w g k ty (cellsN m) d hc hu hd (by rw [cellsN_length, hs])]
  rfl
theorem qE_part {ops : Array Oper} {rest : List Oper} {K : Act → Prop} {w0 : World} {rs : List (Nat × TypeId × Array Value)} (hw : Region.wanted o (yielded ops a.tmps) = true) (ty : TypeId) (x : Operand) (ho : o.op = .load ty x) (i g k : Nat) (t : TypeId) (l m : List Nat) (d : TypeDesc) (hi : rs[i]? = some (g, t, natsC l)) (hx : a.eval x = .pointer (some ⟨g, k, none⟩)) (hp : (l.drop k).take m.length = m)
    (hu : P.underlying ty = some d) (hd : d.isRow = true) (hs : (P.info? ty).map (·.size) = some m.length)
    (h : wpQuiet P ops (Env w0 rs) K rest (a.put o.dst (.agg (natsC m)))) : wpQuiet P ops (Env w0 rs) K (o :: rest) a :=
  q_run hw (fun w hE => run_part ty x ho g k hx t l m d (hE.row i hi) hp hu hd hs) h
end

/-- Four numbers, one behind the other. -/
def rungL (a b c d : Nat) : List Nat := elemL a ++ elemL b ++ elemL c ++ elemL d
theorem rungL_length (a b c d : Nat) : (rungL a b c d).length = 20 := by simp [rungL, elemL_length]
theorem five (x : Nat) : ∃ p q r s t, elemL x = [p, q, r, s, t] := by
  unfold elemL
  rw [digL5]
  exact ⟨_, _, _, _, _, rfl⟩
theorem rungL_0 (a b c d : Nat) : ((rungL a b c d).drop 0).take (elemL a).length = elemL a := by
  unfold rungL
  obtain ⟨p, q, r, s, t, h⟩ := five a
  rw [h]
  simp
theorem rungL_1 (a b c d : Nat) : ((rungL a b c d).drop 5).take (elemL b).length = elemL b := by
  unfold rungL
  obtain ⟨p, q, r, s, t, h⟩ := five a
  obtain ⟨p', q', r', s', t', h'⟩ := five b
  rw [h, h']
  simp
theorem rungL_2 (a b c d : Nat) : ((rungL a b c d).drop 10).take (elemL c).length = elemL c := by
  unfold rungL
  obtain ⟨p, q, r, s, t, h⟩ := five a
  obtain ⟨p', q', r', s', t', h'⟩ := five b
  obtain ⟨p'', q'', r'', s'', t'', h''⟩ := five c
  rw [h, h', h'']
  simp
theorem rungL_3 (a b c d : Nat) : ((rungL a b c d).drop 15).take (elemL d).length = elemL d := by
  unfold rungL
  obtain ⟨p, q, r, s, t, h⟩ := five a
  obtain ⟨p', q', r', s', t', h'⟩ := five b
  obtain ⟨p'', q'', r'', s'', t'', h''⟩ := five c
  obtain ⟨p3, q3, r3, s3, t3, h3⟩ := five d
  rw [h, h', h'', h3]
  simp
theorem Try.szR : (Try.prog.info? 77).map (·.size) = some 20 := by kernel_rfl
theorem Try.zeroR : (Try.prog.info? 77).map (·.zero) = some (some (.agg (natsC (rungL 0 0 0 0)))) := by kernel_rfl
theorem build_rungs (w : World) (a b c d : Nat) :
    (Instr.build 77 #[(0, .agg (natsC (elemL a))), (1, .agg (natsC (elemL b))), (2, .agg (natsC (elemL c))), (3, .agg (natsC (elemL d)))]).run Try.prog w = .ok (.agg (natsC (rungL a b c d))) w := by
  obtain ⟨j, hj, hj2⟩ := Option.map_eq_some_iff.1 Try.zeroR
  obtain ⟨i, hi, hi2⟩ := Option.map_eq_some_iff.1 Try.sz5e
  obtain ⟨p, q, r, s, t, h⟩ := five a
  obtain ⟨p', q', r', s', t', h'⟩ := five b
  obtain ⟨p'', q'', r'', s'', t'', h''⟩ := five c
  obtain ⟨p3, q3, r3, s3, t3, h3⟩ := five d
  have hu := Try.underlying77
  unfold rungL
  rw [h, h', h'', h3]
  have hz : natsC (rungL 0 0 0 0) = #[.int .u64 0, .int .u64 0, .int .u64 0, .int .u64 0, .int .u64 0, .int .u64 0, .int .u64 0, .int .u64 0, .int .u64 0, .int .u64 0, .int .u64 0, .int .u64 0, .int .u64 0, .int .u64 0, .int .u64 0, .int .u64 0, .int .u64 0, .int .u64 0, .int .u64 0, .int .u64 0] := rfl
  rw [hz] at hj2
  simp [Instr.build, zeroValue, typeInfo, hj, hj2, run_underlying hu, sizeOf, hi, hi2, Instr.fill, Value.cells, go_sem, natsC, cellsN]
theorem run_buildR {w : World} {o : Oper} {a : Act} (x y z u : Operand) (ho : o.op = .build 77 #[(0, x), (1, y), (2, z), (3, u)]) (p q r s : Nat) (hx : a.eval x = .agg (natsC (elemL p))) (hy : a.eval y = .agg (natsC (elemL q))) (hz : a.eval z = .agg (natsC (elemL r))) (hu : a.eval u = .agg (natsC (elemL s))) :
    (execOp a.eval o).run Try.prog w = .ok (.value (.agg (natsC (rungL p q r s)))) w := by
  unfold execOp
  simp [ho, hx, hy, hz, hu, build_rungs w p q r s]
theorem build_rungs3 (w : World) (a c d : Nat) :
    (Instr.build 77 #[(0, .agg (natsC (elemL a))), (2, .agg (natsC (elemL c))), (3, .agg (natsC (elemL d)))]).run Try.prog w = .ok (.agg (natsC (rungL a 0 c d))) w := by
  obtain ⟨j, hj, hj2⟩ := Option.map_eq_some_iff.1 Try.zeroR
  obtain ⟨i, hi, hi2⟩ := Option.map_eq_some_iff.1 Try.sz5e
  obtain ⟨p, q, r, s, t, h⟩ := five a
  obtain ⟨p'', q'', r'', s'', t'', h''⟩ := five c
  obtain ⟨p3, q3, r3, s3, t3, h3⟩ := five d
  have hu := Try.underlying77
  unfold rungL
  rw [h, h'', h3]
  have hz : natsC (rungL 0 0 0 0) = #[.int .u64 0, .int .u64 0, .int .u64 0, .int .u64 0, .int .u64 0, .int .u64 0, .int .u64 0, .int .u64 0, .int .u64 0, .int .u64 0, .int .u64 0, .int .u64 0, .int .u64 0, .int .u64 0, .int .u64 0, .int .u64 0, .int .u64 0, .int .u64 0, .int .u64 0, .int .u64 0] := rfl
  rw [hz] at hj2
  have h0 : elemL 0 = [0, 0, 0, 0, 0] := rfl
  rw [h0]
  simp [Instr.build, zeroValue, typeInfo, hj, hj2, run_underlying hu, sizeOf, hi, hi2, Instr.fill, Value.cells, go_sem, natsC, cellsN]
theorem run_buildR3 {w : World} {o : Oper} {a : Act} (x z u : Operand) (ho : o.op = .build 77 #[(0, x), (2, z), (3, u)]) (p r s : Nat) (hx : a.eval x = .agg (natsC (elemL p))) (hz : a.eval z = .agg (natsC (elemL r))) (hu : a.eval u = .agg (natsC (elemL s))) :
    (execOp a.eval o).run Try.prog w = .ok (.value (.agg (natsC (rungL p 0 r s)))) w := by
  unfold execOp
  simp [ho, hx, hz, hu, build_rungs3 w p r s]
theorem cf_choose (args : Array Value) (w : World) : (callFunc 53 args).run Try.prog w = .ok (.enter 53 args) w := by go_simp
end Go.Proofs.Ytpgjcmccfpjmoaa
