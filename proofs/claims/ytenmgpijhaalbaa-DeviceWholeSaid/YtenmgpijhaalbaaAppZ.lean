/-
  'append(b, make([]byte, k)...)' onto the call's own row: the zeros stand behind what was there. Conditions: as each theorem names them.
-/
import Derived.Test.YtenmgpijhaalbaaMem
import Derived.Lib.AppendZerosOnto
import Derived.Laws.AppendOwn
namespace Go.Proofs.Ytenmgpijhaalbaa
open Go.RowKit
set_option linter.unusedVariables false

theorem zeroCells_bytes (k : Nat) : (Builtin.zeroCells (Value.int .u8 0).cells k).toList = cellsB (List.replicate k 0) := by
  apply List.ext_getElem
  · simp [Builtin.zeroCells, cellsB, Value.cells]
  · intro i h1 h2
    simp [Builtin.zeroCells, cellsB, Value.cells, Nat.mod_one]

section
variable {P : Program} (w : World)
theorem run_appZ (base : Nat) (t tn ty e : TypeId) (kn : IntKind) (hinfo : (P.info? e).map (fun i => (i.zero, i.size, i.bytes)) = some (some (.int .u8 0), 1, 1)) (ht : P.underlying t = some (.slice e)) (htn : P.underlying tn = some (.int kn))
    (g n cap : Nat) (l : List UInt8) (hown : OwnB w base e (.slice (some ⟨g, 0, none⟩) n cap) l) (k : Nat) (hlen : l.length + k ≤ 1000000000) (hbase : base ≤ w.heap.size) :
    ∃ v' w', (Builtin.append_ #[t, tn] ty #[.slice (some ⟨g, 0, none⟩) n cap, .int .i64 (k : Int)]).run P w = .ok v' w' ∧ OwnB w' base e v' (l ++ List.replicate k 0) ∧ w.grownBy w' (some g) := by
  obtain ⟨i, hi, hz, hs, hby⟩ := info_parts hinfo
  have hnl : n = l.length := by
    rcases hown.2 with ⟨h, _⟩ | ⟨g', cap', cur, h, _⟩
    · cases h
    · injection h
  subst hnl
  obtain ⟨hl, h⟩ := hown
  rcases h with ⟨h, _⟩ | ⟨g', cap', cur, h, hbg, hg, hnc, hcm, hcs, htake⟩
  · cases h
  injection h with h1 h2 h3
  injection h1 with h1
  injection h1 with h1
  subst h1 h3
  simp only [Nat.mul_one] at hl hcs htake
  have hw : IntKind.i64.wrap (k : Int) = k := by rw [IntKind.wrap_i64]; omega
  have hneg : ¬ ((k : Int) < 0) := by omega
  have h48 : ¬ (281474976710656 < (k : Int)) := by omega
  rcases Nat.eq_zero_or_pos k with hk | hk
  · subst hk
    refine ⟨.slice (some ⟨g, 0, none⟩) l.length cap, w, ?_, ?_, ⟨rfl, rfl, rfl, Nat.le_refl _, fun _ _ _ => rfl⟩⟩
    · simp [Builtin.append_, run_underlying ht, run_underlying htn, sizeOf, typeInfo, zeroValue, hi, hz, hby, asInt, asIntOf, hnc, storeCells, show IntKind.i64.wrap 0 = 0 from rfl]
    · simp only [List.replicate_zero, List.append_nil]
      exact ⟨by simpa using hl, .inr ⟨g, cap, cur, rfl, hbg, hg, hnc, hcm, by simpa using hcs, by simpa using htake⟩⟩
  · have hk0 : ¬ k = 0 := by omega
    by_cases hroom : l.length + k ≤ cap
    · have hz2 := zeroCells_bytes k
      have hfit : l.length + (cellsB (List.replicate k 0)).length ≤ cur.size := by rw [cellsB_length, List.length_replicate, hcs]; exact hroom
      have hst := run_storeCells_at P g l.length e (cellsB (List.replicate k 0)) 0 cur w hg (by simpa using hfit) (cellsB_one _)
      simp only [Nat.add_zero] at hst
      refine ⟨.slice (some ⟨g, 0, none⟩) (l.length + k) cap, w.setRow g (cur.toList.take l.length ++ cellsB (List.replicate k 0) ++ cur.toList.drop (l.length + (cellsB (List.replicate k 0)).length)).toArray, ?_, ?_, ⟨rfl, rfl, rfl, by simp, fun j _ hj => setRow_other w g j _ (fun e => hj (by rw [e]))⟩⟩
      · simp [Builtin.append_, run_underlying ht, run_underlying htn, sizeOf, typeInfo, zeroValue, hi, hz, hs, hby, asInt, asIntOf, hw, hneg, h48, hk0, hroom, hz2, Addr.add_lit, hst]
      · refine ⟨by rw [cellsB_length, Nat.mul_one], .inr ⟨g, cap, _, by simp, hbg, setRow_heap w g cur _ e _ hg, by simpa using hroom, hcm, ?_, ?_⟩⟩
        · rw [cellsB_length, List.length_replicate] at hfit ⊢
          simp only [List.size_toArray, List.length_append, List.length_take, List.length_drop, Array.length_toList, cellsB_length, List.length_replicate, Nat.mul_one]
          omega
        · rw [htake, cellsB_append, Nat.mul_one]
          have e1 : (l ++ List.replicate k 0).length = (cellsB l ++ cellsB (List.replicate k 0)).length := by simp [cellsB_length]
          rw [e1]
          exact List.take_left
    · have hn2 : cap < l.length + k := by omega
      have hold : (Builtin.firstCells i.size l.length (.slice (some ⟨g, 0, none⟩) l.length cap)).run P w.drew = .ok (cellsB l).toArray w.drew := by
        rw [hs]
        have hown2 : w.drew.ownsRow base e 1 (.slice (some ⟨g, 0, none⟩) l.length cap) l.length (cellsB l) := ⟨by simpa using hl, .inr ⟨g, cap, cur, rfl, hbg, hg, hnc, hcm, by simpa using hcs, by simpa using htake⟩⟩
        have hf := run_firstCells_some (P := P) w.drew 1 l.length ⟨g, 0, none⟩ l.length cap (cellsB l) (by rw [cellsB_length, Nat.mul_one]) (hown2.cells (g := g) rfl)
        exact hf
      have hgc := grownCap_le_maxLen w (l.length + k) cap e (by unfold maxLen; omega)
      have hge := grownCap_ge w (l.length + k) cap e
      have hr := Go.Lib.run_append_grow_zeros w t tn ty e i (.int .u8 0) .i64 kn ht htn hi hz (some ⟨g, 0, none⟩) l.length cap (cellsB l) hold k hk (by omega) hn2 (by omega) (by rw [hby]; omega) (growslice_fits (by omega) (by rw [hby]; omega))
      refine ⟨_, _, hr, ?_, ⟨rfl, rfl, rfl, by simp, fun j hj _ => heap_alloc_old w.drew _ hj⟩⟩
      refine ⟨by rw [cellsB_length, Nat.mul_one], .inr ⟨w.heap.size, _, _, by simp, hbase, heap_alloc_new w.drew _, by simpa using hge, hgc, ?_, ?_⟩⟩
      · simp only [Array.size_append, List.size_toArray, size_zeroCells, cellsB_length, Value.cells]
        simp
        omega
      · rw [cellsB_append, Nat.mul_one]
        simp only [Array.toList_append, List.append_assoc, zeroCells_bytes]
        rw [← List.append_assoc]
        have e1 : (l ++ List.replicate k 0).length = (cellsB l ++ cellsB (List.replicate k 0)).length := by simp [cellsB_length]
        rw [e1]
        exact List.take_left
/-- .. whatever the row is, nil too. -/
theorem run_appZV (base : Nat) (t tn ty e : TypeId) (kn : IntKind) (hinfo : (P.info? e).map (fun i => (i.zero, i.size, i.bytes)) = some (some (.int .u8 0), 1, 1)) (ht : P.underlying t = some (.slice e)) (htn : P.underlying tn = some (.int kn))
    (v : Value) (l : List UInt8) (hown : OwnB w base e v l) (k : Nat) (hlen : l.length + k ≤ 1000000000) (hbase : base ≤ w.heap.size) :
    ∃ v' w', (Builtin.append_ #[t, tn] ty #[v, .int .i64 (k : Int)]).run P w = .ok v' w' ∧ OwnB w' base e v' (l ++ List.replicate k 0) ∧ w.grownBy w' v.ownBlock := by
  have hown0 := hown
  obtain ⟨hl, h⟩ := hown
  rcases h with ⟨rfl, h0⟩ | ⟨g, cap, cur, rfl, _⟩
  · obtain rfl : l = [] := List.eq_nil_of_length_eq_zero h0
    obtain ⟨i, hi, hz, hs, hby⟩ := info_parts hinfo
    rcases Nat.eq_zero_or_pos k with hk | hk
    · subst hk
      refine ⟨.slice none 0 0, w, ?_, by simpa using OwnB.nil w base e, ⟨rfl, rfl, rfl, Nat.le_refl _, fun _ _ _ => rfl⟩⟩
      simp [Builtin.append_, run_underlying ht, run_underlying htn, sizeOf, typeInfo, zeroValue, hi, hz, hby, asInt, asIntOf, show IntKind.i64.wrap 0 = 0 from rfl]
    · simp only [List.length_nil, Nat.zero_add] at hlen
      have hr := Go.Lib.run_append_nil_zeros w t tn ty e i (.int .u8 0) .i64 kn ht htn hi hz k hk (by omega) (by omega) (by rw [hby]; omega)
      have hgc := grownCap_le_maxLen w k 0 e (by unfold maxLen; omega)
      have hge := grownCap_ge w k 0 e
      refine ⟨_, _, hr, ?_, ⟨rfl, rfl, rfl, by simp, fun j hj _ => heap_alloc_old w.drew _ hj⟩⟩
      refine ⟨by rw [cellsB_length, Nat.mul_one], .inr ⟨w.heap.size, _, _, by simp, hbase, heap_alloc_new w.drew _, by simpa using hge, hgc, ?_, ?_⟩⟩
      · simp only [Array.size_append, size_zeroCells, Value.cells]
        simp
        omega
      · simp only [Array.toList_append, zeroCells_bytes, List.nil_append, List.length_replicate, Nat.mul_one]
        have e1 : k = (cellsB (List.replicate k 0)).length := by simp [cellsB_length]
        conv => lhs; arg 1; rw [e1]
        exact List.take_left
  · exact run_appZ w base t tn ty e kn hinfo ht htn g _ cap l hown0 k hlen hbase
theorem wpList_appZ {ops : Array Oper} {rest : List Oper} {o : Oper} {a : Act} {Q : Exit → Act → World → Prop} (hgd : o.guard = none) (s x : Operand) (t tn : TypeId)
    (ho : o.op = .call { callee := .builtin .append, args := #[s, x], argTypes := #[t, tn] })
    (w0 : World) (e : TypeId) (kn : IntKind) (hinfo : (P.info? e).map (fun i => (i.zero, i.size, i.bytes)) = some (some (.int .u8 0), 1, 1)) (ht : P.underlying t = some (.slice e)) (htn : P.underlying tn = some (.int kn))
    (v : Value) (l : List UInt8) (k : Nat) (hs : a.eval s = v) (hx : a.eval x = .int .i64 (k : Int)) (hown : OwnB w w0.heap.size e v l) (hlen : l.length + k ≤ 1000000000) (hb : Below w0.heap.size w0 w)
    (h : ∀ v' w', OwnB w' w0.heap.size e v' (l ++ List.replicate k 0) → Below w0.heap.size w0 w' → wpList P ops Q rest (a.put o.dst v') w') : wpList P ops Q (o :: rest) a w := by
  obtain ⟨v', w', hr, h2, h3⟩ := run_appZV (P := P) w w0.heap.size t tn o.type e kn hinfo ht htn v l hown k hlen hb.size
  exact Go.Lib.wpList_append_run w hgd s x t tn ho _ _ hs hx v' w' hr (h v' w' h2 (hb.grown h3 hb.size hown.rows))
end
end Go.Proofs.Ytenmgpijhaalbaa
