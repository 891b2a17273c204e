/-
  append of bytes onto the call's own row: where the new row lies: where the old one lay, or behind all that was there. Two rows of the call's own thus stay apart. Conditions: as each theorem names them.
-/
import Derived.Test.YtdojaighchgghaaDoorRound
import Derived.Lib.AppendZerosOnto
namespace Go.Proofs.YtdojaighchgghaaDoor
open Go.RowKit
set_option linter.unusedVariables false
set_option maxRecDepth 20000

section
variable {P : Program} (w : World)
theorem run_appD (base : Nat) (t ty e : TypeId) (hinfo : (P.info? e).map (fun i => (i.zero, i.size, i.bytes)) = some (some (.int .u8 0), 1, 1)) (ht : P.underlying t = some (.slice e))
    (v u : Value) (l m : List UInt8) (hown : OwnB w base e v l) (hu : Bs w u m) (hlen : l.length + m.length ≤ 140737488355328) (hbase : base ≤ w.heap.size) :
    ∃ v' w', (Builtin.append_ #[t, t] ty #[v, u]).run P w = .ok v' w' ∧ OwnB w' base e v' (l ++ m) ∧ w.grownBy w' v.ownBlock ∧ (v'.ownBlock = v.ownBlock ∨ ∀ k, v'.ownBlock = some k → w.heap.size ≤ k) := by
  obtain ⟨v', w', hr, ho, hg⟩ := run_appB (P := P) w base t ty e hinfo ht v u l m hown hu hlen hbase
  refine ⟨v', w', hr, ho, hg, ?_⟩
  obtain ⟨i, hi, hz0, hz1, hz2⟩ := info_parts hinfo
  rcases hown.2 with ⟨rfl, h0⟩ | ⟨g, cap, cur, rfl, hbg, hgr, hnc, hcm, hcs, htake⟩
  · obtain ⟨v2, w2, hr2, ho2, _⟩ := run_appB (P := P) w w.heap.size t ty e hinfo ht (.slice none 0 0) u l m ⟨hown.1, .inl ⟨rfl, h0⟩⟩ hu hlen (Nat.le_refl _)
    rw [hr] at hr2
    injection hr2 with e1 e2
    subst e1 e2
    exact .inr ho2.rows
  · obtain ⟨A, c, rfl, h1, h2, h3⟩ := hu
    rcases A with _ | ad
    · have hm : m = [] := by
        rcases m with _ | ⟨b, m⟩
        · rfl
        · obtain ⟨_, _, h, _⟩ := h3 (by simp)
          cases h
      subst hm
      left
      have hr2 : (Builtin.append_ #[t, t] ty #[.slice (some ⟨g, 0, none⟩) l.length cap, .slice none ([] : List UInt8).length c]).run P w = .ok (.slice (some ⟨g, 0, none⟩) l.length cap) w := by
        simp [Builtin.append_, run_underlying ht, sizeOf, typeInfo, hi, Builtin.lenOf, Builtin.firstCells, hnc, storeCells]
      rw [hr] at hr2
      injection hr2 with e1 e2
      rw [e1]
    · have hcells : ∀ j x, (cellsB m)[j]? = some x → w.cell? (ad.add j) = some x := by
        intro j x hx
        have hj : j < m.length := by
          have := (List.getElem?_eq_some_iff.1 hx).1
          rwa [cellsB_length] at this
        obtain ⟨b, off, h, hc⟩ := h3 (by omega)
        injection h with h
        subst h
        rw [cellsB_get m j hj] at hx
        have hadd : (⟨b, off, none⟩ : Addr).add j = ⟨b, off + j, none⟩ := by unfold Addr.add; split <;> simp_all
        rw [hadd, hc j hj, hx]
      by_cases hroom : l.length + m.length ≤ cap
      · left
        have hr2 := run_append_room (P := P) w t ty e i ht hi g l.length cap cur hgr ad m.length c (cellsB m) (by rw [cellsB_length, hz1, Nat.mul_one]) hcells (cellsB_one m) hroom (by rw [cellsB_length, hcs, hz1]; omega)
        rw [hr] at hr2
        injection hr2 with e1 e2
        rw [e1]
        rfl
      · right
        have holds : ∀ j x, (cellsB l)[j]? = some x → w.cell? ((⟨g, 0, none⟩ : Addr).add j) = some x := World.ownsRow.cells hown (g := g) rfl
        have hr2 := run_append_grow (P := P) w t ty e i (.int .u8 0) ht hi hz0 ⟨g, 0, none⟩ l.length cap (cellsB l) (by rw [cellsB_length, hz1, Nat.mul_one]) holds ad m.length c (cellsB m) (by rw [cellsB_length, hz1, Nat.mul_one]) hcells (by omega) (by omega) (growslice_fits (by omega) (by rw [hz2]; omega))
        rw [hr] at hr2
        injection hr2 with e1 e2
        intro k hk
        rw [e1] at hk
        have : w.heap.size = k := by simpa [Value.ownBlock] using hk
        omega
end
section
variable {P : Program} {w : World}
theorem step_appD {ops : Array Oper} {o : Oper} {a : Act} {K : Act → World → Prop} {Q : Exit → Act → World → Prop} {E : Prop} (hgd : o.guard = none) (s x : Operand) (t : TypeId)
    (ho : o.op = .call { callee := .builtin .append, args := #[s, x], argTypes := #[t, t] })
    (base : Nat) (e : TypeId) (hinfo : (P.info? e).map (fun i => (i.zero, i.size, i.bytes)) = some (some (.int .u8 0), 1, 1)) (ht : P.underlying t = some (.slice e))
    (v u : Value) (l m : List UInt8) (hs : a.eval s = v) (hx : a.eval x = u) (hown : OwnB w base e v l) (hu : Bs w u m) (hlen : l.length + m.length ≤ 140737488355328) (hb : base ≤ w.heap.size)
    (h : ∀ v' w', OwnB w' base e v' (l ++ m) → w.grownBy w' v.ownBlock → (v'.ownBlock = v.ownBlock ∨ ∀ k, v'.ownBlock = some k → w.heap.size ≤ k) → K (a.put o.dst v') w') :
    if Region.wanted o (yielded ops a.tmps) = true then Oper.wp P o a w K Q else E := by
  have hw : Region.wanted o (yielded ops a.tmps) = true := by simp [Region.wanted, hgd]
  rw [if_pos hw]
  obtain ⟨v', w', hr, h2, h3, h4⟩ := run_appD (P := P) w base t o.type e hinfo ht v u l m hown hu hlen hb
  unfold Oper.wp execOp
  simp only [ho, resolve, invoke, builtin, Sem.run_bind, Sem.run_pure, Result.andThen_ok, List.map_toArray, List.map_cons, List.map_nil, hs, hx, hr]
  exact h v' w' h2 h3 h4
theorem wpList_appD {ops : Array Oper} {rest : List Oper} {o : Oper} {a : Act} {Q : Exit → Act → World → Prop} (hgd : o.guard = none) (s x : Operand) (t : TypeId)
    (ho : o.op = .call { callee := .builtin .append, args := #[s, x], argTypes := #[t, t] })
    (base : Nat) (e : TypeId) (hinfo : (P.info? e).map (fun i => (i.zero, i.size, i.bytes)) = some (some (.int .u8 0), 1, 1)) (ht : P.underlying t = some (.slice e))
    (v u : Value) (l m : List UInt8) (hs : a.eval s = v) (hx : a.eval x = u) (hown : OwnB w base e v l) (hu : Bs w u m) (hlen : l.length + m.length ≤ 140737488355328) (hb : base ≤ w.heap.size)
    (h : ∀ v' w', OwnB w' base e v' (l ++ m) → w.grownBy w' v.ownBlock → (v'.ownBlock = v.ownBlock ∨ ∀ k, v'.ownBlock = some k → w.heap.size ≤ k) → wpList P ops Q rest (a.put o.dst v') w') : wpList P ops Q (o :: rest) a w := by
  obtain ⟨v', w', hr, h2, h3, h4⟩ := run_appD (P := P) w base t o.type e hinfo ht v u l m hown hu hlen hb
  exact Go.Lib.wpList_append_run w hgd s x t t ho _ _ hs hx v' w' hr (h v' w' h2 h3 h4)
/-- Two of the call's own rows that lie apart. -/
def Apart (v s : Value) : Prop := ∀ k, v.ownBlock = some k → s.ownBlock ≠ some k
theorem Apart.symm {v s : Value} (h : Apart v s) : Apart s v := fun k hk h2 => h k h2 hk
theorem Apart.nil (s : Value) : Apart (.slice none 0 0) s := fun k hk => by simp [Value.ownBlock] at hk
/-- .. and stay so where one grows. -/
theorem Apart.grown {base : Nat} {e : TypeId} {v v' s : Value} {l : List UInt8} (h : Apart v s) (hs : OwnB w base e s l) (hd : v'.ownBlock = v.ownBlock ∨ ∀ k, v'.ownBlock = some k → w.heap.size ≤ k) : Apart v' s := by
  intro k hk
  rcases hd with hd | hd
  · exact h k (by rw [← hd]; exact hk)
  · intro h2
    have := (World.ownsRow.lt hs k h2).2
    have := hd k hk
    omega
theorem OwnB.apart {w' : World} {base : Nat} {e : TypeId} {v s : Value} {l : List UInt8} (h : OwnB w base e s l) (ha : Apart v s) (hg : w.grownBy w' v.ownBlock) : OwnB w' base e s l := by
  refine World.ownsRow.kept h hg ?_
  rcases hv : s.ownBlock with _ | k
  · exact .inl rfl
  · refine .inr fun hk => ?_
    exact ha k (by rw [← hk]) hv
end
end Go.Proofs.YtdojaighchgghaaDoor
