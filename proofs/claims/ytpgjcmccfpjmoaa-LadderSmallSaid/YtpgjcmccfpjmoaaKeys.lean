/-
  Lists of keys: a slice's row holds their bytes, one behind the other. Conditions: each key has thirty-two bytes.
-/
import Derived.Test.YtpgjcmccfpjmoaaEnv
import Derived.Test.YtpgjcmccfpjmoaaKeyEq
import Derived.Great.BuildSlice
namespace Go.Proofs.Ytpgjcmccfpjmoaa
open Go.RowKit
set_option linter.unusedVariables false

theorem flat_length (ls : List (List UInt8)) (h : ∀ l ∈ ls, l.length = 32) : ls.flatten.length = ls.length * 32 := by
  induction ls with
  | nil => rfl
  | cons l ls ih =>
    rw [List.flatten_cons, List.length_append, h l List.mem_cons_self, ih fun m hm => h m (List.mem_cons_of_mem _ hm), List.length_cons, Nat.add_mul]
    omega
theorem flat_part (ls : List (List UInt8)) (h : ∀ l ∈ ls, l.length = 32) : ∀ (k : Nat) (l : List UInt8), ls[k]? = some l → (ls.flatten.drop (k * 32)).take 32 = l := by
  induction ls with
  | nil => intro k l hk; cases hk
  | cons m ls ih =>
    intro k l hk
    have hm := h m List.mem_cons_self
    cases k with
    | zero =>
      obtain rfl : m = l := by simpa using hk
      rw [List.flatten_cons, Nat.zero_mul, List.drop_zero, List.take_left' hm]
    | succ k =>
      rw [List.flatten_cons, List.drop_append, List.drop_of_length_le (by omega), List.nil_append, show (k + 1) * 32 - m.length = k * 32 by omega]
      exact ih (fun x hx => h x (List.mem_cons_of_mem _ hx)) k l (by simpa using hk)
theorem keys_part (ls : List (List UInt8)) (h : ∀ l ∈ ls, l.length = 32) (k : Nat) (l : List UInt8) (hk : ls[k]? = some l) : ((keyC ls.flatten).toList.drop (k * 32)).take (cellsB l).length = cellsB l := by
  have hl : l.length = 32 := h l (List.mem_of_getElem? hk)
  have e : (keyC ls.flatten).toList = cellsB ls.flatten := by simp [keyC]
  rw [e, cellsB_length, hl]
  unfold cellsB
  rw [← List.map_drop, ← List.map_take, flat_part ls h k l hk]
theorem keys_flat : ∀ ls : List (List UInt8), ((ls.map fun l => Value.agg (keyC l)).flatMap fun v => v.cells.toList).toArray = keyC ls.flatten := by
  intro ls
  have key : ((ls.map fun l => Value.agg (keyC l)).flatMap fun v => v.cells.toList) = cellsB ls.flatten := by
    induction ls with
    | nil => rfl
    | cons l ls ih =>
      rw [List.map_cons, List.flatMap_cons, ih, List.flatten_cons]
      simp [Value.cells, keyC, cellsB]
  rw [key]
  rfl

section
variable {P : Program} {w0 w : World} {rs : List (Nat × TypeId × Array Value)} {ops : Array Oper} {rest : List Oper} {o : Oper} {a : Act} {Q : Exit → Act → World → Prop}
/-- A slice of keys is built. -/
theorem wpE_buildKeys (hgd : o.guard = none) (ty e : TypeId) (len : Nat) (parts : Array (Nat × Operand)) (ho : o.op = .buildSlice ty len parts) (ls : List (List UInt8)) (hl : ∀ l ∈ ls, l.length = 32) (hlen : ls.length = len) (hpos : 0 < len) (hsm : len * 32 ≤ 2 ^ 24)
    (hp : (parts.map fun (i, x) => (i, a.eval x)).toList = ((ls.map fun l => Value.agg (keyC l)).zipIdx 0).map fun x => (x.2, x.1))
    (hu : P.underlying ty = some (.slice e)) (hsz : (P.info? e).map (·.size) = some 32) (z : Array Value) (hz : (P.info? e).map (·.zero) = some (some (.agg z)))
    (hE : Env w0 rs w) (h : ∀ g w', Env w0 ((g, e, keyC ls.flatten) :: rs) w' → wpList P ops Q rest (a.put o.dst (.slice (some ⟨g, 0, none⟩) len len)) w') : wpList P ops Q (o :: rest) a w := by
  obtain ⟨ie, hie, hs⟩ := Option.map_eq_some_iff.1 hsz
  obtain ⟨ie2, hie2, hz2⟩ := Option.map_eq_some_iff.1 hz
  obtain rfl : ie = ie2 := by rw [hie] at hie2; exact Option.some.inj hie2
  refine wpList_buildSlice hgd ty e len parts ho (keyC ls.flatten) ie (.agg z) hu hie hz2 (by rw [hs]; omega) (by rw [hs]; omega) ?_ (h _ _ (hE.new (NewRow.mk_ w e _)))
  rw [hp, hs, ← keys_flat ls]
  refine Great.fill_whole (by omega) _ _ (fun v hv => ?_) (by simp [hlen])
  obtain ⟨l, hm, rfl⟩ := List.mem_map.1 hv
  simp [Value.cells, keyC_size, hl l hm]
/-- The address of a slice's key. -/
theorem run_keyAddr (ty e : TypeId) (x y : Operand) (ho : o.op = .indexAddr ty x y) (g n c k : Nat) (hx : a.eval x = .slice (some ⟨g, 0, none⟩) n c) (hy : a.eval y = .int .i64 (k : Int)) (hk : k < n)
    (hu : P.underlying ty = some (.slice e)) (hs : (P.info? e).map (·.size) = some 32) : (execOp a.eval o).run P w = .ok (.value (.pointer (some ⟨g, k * 32, none⟩))) w := by
  obtain ⟨f, hf, hz⟩ := Option.map_eq_some_iff.1 hs
  unfold execOp
  simp only [ho, hx, hy]
  simp [Instr.indexAt, asIntOf, run_underlying hu, sizeOf, typeInfo, hf, hz, hk, Addr.add, go_sem]
  exact fun h0 => h0.symm
/-- A slice's key is read. -/
theorem run_keyOf (ty : TypeId) (x : Operand) (ho : o.op = .load ty x) (g k : Nat) (hx : a.eval x = .pointer (some ⟨g, k * 32, none⟩)) (t : TypeId) (ls : List (List UInt8)) (h : ∀ l ∈ ls, l.length = 32) (l : List UInt8) (hk : ls[k]? = some l) (d : TypeDesc) (hr : RowAt w g t (keyC ls.flatten))
    (hu : P.underlying ty = some d) (hd : d.isRow = true) (hs : (P.info? ty).map (·.size) = some (cellsB l).length) : (execOp a.eval o).run P w = .ok (.value (.agg (keyC l))) w := by
  have hc : w.rangeAt g (k * 32) (cellsB l) := by
    have h1 := rangeAt_row (k := k * 32) (n := (cellsB l).length) hr
    rwa [keys_part ls h k l hk] at h1
  unfold execOp
  simp only [ho, hx, Instr.loadAt, Instr.sureAddr, Sem.run_bind, Sem.run_pure, Result.andThen_ok, run_loadVar_mid w g (k * 32) ty (cellsB l) d hc hu hd hs]
  rfl
end
theorem Env.off {w0 w : World} {r : Nat × TypeId × Array Value} {rs : List (Nat × TypeId × Array Value)} (h : Env w0 (r :: rs) w) : Env w0 rs w := h.less (List.sublist_cons_self _ _)
theorem Try.keyCells (l : List UInt8) (h : l.length = 32) : (Try.prog.info? 23).map (·.size) = some (cellsB l).length := by
  have := Try.sizeKey l h
  rwa [show (keyC l).size = (cellsB l).length by simp [keyC]] at this
theorem Try.key32 : (Try.prog.info? 23).map (·.size) = some 32 := by
  have := Try.keyCells zeroKey zeroKey_length
  rwa [cellsB_length, zeroKey_length] at this
end Go.Proofs.Ytpgjcmccfpjmoaa
