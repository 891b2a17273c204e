/-
  Arguments as a row hands them over: what is to be done, and what is to be kept. Conditions: none.
-/
import Derived.Test.YtenmgpijhaalbaaDevK
import Derived.Test.YtenmgpijhaalbaaFrame
import Derived.OpenShut
import Derived.ChangeArms
namespace Go.Proofs.Ytenmgpijhaalbaa
open Go.RowKit
set_option linter.unusedVariables false
set_option maxRecDepth 20000

/-- A slice of elements of sz cells each: element j has the cells f j. -/
def Rx (w : World) (v : Value) (sz n : Nat) (f : Nat → List Value) : Prop :=
  ∃ A c, v = .slice A n c ∧ n ≤ c ∧ c ≤ maxLen ∧ (0 < n → ∃ b off, A = some ⟨b, off, none⟩ ∧ ∀ j, j < n → w.rangeAt b (off + j * sz) (f j))
section
variable {H : Type} {enc : TypeId × Value → H} {P : Program} {W : World} {base : Nat} {sp : Nat → Bool} {held : Bool}
theorem addr_add3 (g off : Nat) (i j : Nat) : ((⟨g, off, none⟩ : Addr).add i).add j = ⟨g, off + i + j, none⟩ := by
  have e1 : (⟨g, off, none⟩ : Addr).add i = ⟨g, off + i, none⟩ := by unfold Addr.add; split <;> simp_all
  rw [e1]
  unfold Addr.add
  split <;> simp_all
/-- A list of elements of sz cells: each element's cells, and that they are read. -/
theorem open_rx {t e : TypeId} {fuel : Nat} {cs : List Value} {x : DataW H × List MemPlace} {sz : Nat} (hs0 : 0 < sz)
    (ht : P.underlying t = some (.slice e)) (hce : P.cellsOf e = sz) (hone : ∀ n (c : List Value) y, c.length = sz → DataW.trod enc P W base sp held n e c = some y → c.length = sz) (h : DataW.trod enc P W base sp held fuel t cs = some x) :
    ∃ (v : Value) (n : Nat) (f : Nat → List Value), cs = [v] ∧ Rx W v sz n f ∧ ∀ j, j < n → (f j).length = sz ∧ ∃ m y, DataW.trod enc P W base sp held m e (f j) = some y := by
  rcases DataW.trod_slice ht h with ⟨rfl, _⟩ | ⟨a, len, cap, elems, rest, n, _, rfl, _, hba, hl, hm, hlen, hel, _, _⟩
  · exact ⟨_, 0, fun _ => [], rfl, ⟨none, 0, rfl, Nat.le_refl _, by simp [maxLen], fun h => by omega⟩, fun j hj => by omega⟩
  · have each : ∀ i, i < len → ∃ c : List Value, c.length = sz ∧ (∀ j, j < sz → W.cell? ((a.add (i * sz)).add j) = c[j]?) ∧ ∃ m y, DataW.trod enc P W base sp held m e c = some y := by
      intro i hi
      have h1 := hel i hi
      rw [hce, List.getElem?_eq_getElem (by omega), Option.bind_eq_some_iff] at h1
      obtain ⟨c, hc, ht2⟩ := h1
      obtain ⟨_, hcl, hcell⟩ := World.cells?_some hc
      exact ⟨c, hcl, hcell, n, _, ht2⟩
    refine ⟨_, len, fun j => if hj : j < len then (each j hj).choose else [], rfl, ⟨some a, cap, rfl, hl, hm, fun h0 => ?_⟩, fun j hj => ?_⟩
    · obtain ⟨g, off, spot⟩ := a
      have h1 := (each 0 h0).choose_spec
      have hc := h1.2.1 0 hs0
      rw [List.getElem?_eq_getElem (by rw [h1.1]; exact hs0)] at hc
      have hspot : spot = none := by simpa [Addr.add] using World.cell?_spot hc
      subst hspot
      refine ⟨g, off, rfl, fun k hk j u hj => ?_⟩
      simp only [dif_pos hk] at hj
      have hs := (each k hk).choose_spec
      have hj2 : j < sz := by
        have := (List.getElem?_eq_some_iff.1 hj).1
        rwa [hs.1] at this
      have h3 := hs.2.1 j hj2
      rw [addr_add3] at h3
      rw [h3, hj]
    · simp only [dif_pos hj]
      have hs := (each j hj).choose_spec
      exact ⟨hs.1, hs.2.2⟩
theorem open_bx {t e : TypeId} {fuel : Nat} {cs : List Value} {x : DataW H × List MemPlace} (ht : P.underlying t = some (.slice e)) (he : P.underlying e = some (.int .u8)) (hce : P.cellsOf e = 1) (h : DataW.trod enc P W base sp held fuel t cs = some x) :
    ∃ (v : Value) (l : List UInt8), cs = [v] ∧ Bs W v l := by
  obtain ⟨v, n, f, hcs, ⟨A, c, rfl, h1, h2, h3⟩, hf⟩ := open_rx (by omega) ht hce (fun _ _ _ h _ => h) h
  have each : ∀ j, j < n → ∃ b : UInt8, f j = [.int .u8 (b.toNat : Int)] := fun j hj => by
    obtain ⟨_, m, y, hy⟩ := hf j hj
    obtain ⟨z, hz, _, hwf⟩ := DataW.trod_int he hy
    exact ⟨UInt8.ofNat z.toNat, by rw [hz, u8_of_wf hwf]⟩
  refine ⟨_, List.ofFn fun i : Fin n => (each i.1 i.2).choose, hcs, A, c, by rw [List.length_ofFn], by rw [List.length_ofFn]; exact h1, h2, fun hl => ?_⟩
  rw [List.length_ofFn] at hl
  obtain ⟨b, off, hA, hc⟩ := h3 hl
  refine ⟨b, off, hA, fun j hj => ?_⟩
  rw [List.length_ofFn] at hj
  rw [List.getElem_ofFn]
  have hs := (each j hj).choose_spec
  have h4 := hc j hj 0 (.int .u8 ((each j hj).choose.toNat : Int)) (by have := congrArg (·[0]?) hs; simpa using this)
  rw [Nat.mul_one, Nat.add_zero] at h4
  exact h4
theorem open_bls {t e : TypeId} {fuel : Nat} {cs : List Value} {x : DataW H × List MemPlace} (ht : P.underlying t = some (.slice e)) (he : P.underlying e = some .bool) (hce : P.cellsOf e = 1) (h : DataW.trod enc P W base sp held fuel t cs = some x) :
    ∃ (v : Value) (l : List Bool), cs = [v] ∧ Bls W v l := by
  obtain ⟨v, n, f, hcs, ⟨A, c, rfl, h1, h2, h3⟩, hf⟩ := open_rx (by omega) ht hce (fun _ _ _ h _ => h) h
  have each : ∀ j, j < n → ∃ b : Bool, f j = [.bool b] := fun j hj => by
    obtain ⟨_, m, y, hy⟩ := hf j hj
    obtain ⟨z, hz, _⟩ := DataW.trod_bool he hy
    exact ⟨z, hz⟩
  refine ⟨_, List.ofFn fun i : Fin n => (each i.1 i.2).choose, hcs, A, c, by rw [List.length_ofFn], by rw [List.length_ofFn]; exact h1, h2, fun hl => ?_⟩
  rw [List.length_ofFn] at hl
  obtain ⟨b, off, hA, hc⟩ := h3 hl
  refine ⟨b, off, hA, fun j hj => ?_⟩
  rw [List.length_ofFn] at hj
  rw [List.getElem_ofFn]
  have hs := (each j hj).choose_spec
  have h4 := hc j hj 0 (.bool (each j hj).choose) (by have := congrArg (·[0]?) hs; simpa using this)
  rw [Nat.mul_one, Nat.add_zero] at h4
  exact h4
end
theorem four_cells2 {c : List Value} (h : c.length = 4) {a b d e : Value} (h0 : (c.drop 0).take 1 = [a]) (h1 : (c.drop 1).take 1 = [b]) (h2 : (c.drop 2).take 1 = [d]) (h3 : (c.drop 3).take 1 = [e]) : c = [a, b, d, e] := by
  match c, h with
  | [x0, x1, x2, x3], _ =>
    simp at h0 h1 h2 h3
    rw [h0, h1, h2, h3]
theorem open_ops {H : Type} {enc : TypeId × Value → H} {W : World} {base : Nat} {sp : Nat → Bool} {held : Bool} {fuel : Nat} {cs : List Value} {x : DataW H × List MemPlace} (h : DataW.trod enc Try.prog W base sp held fuel 22 cs = some x) :
    ∃ (v : Value) (l : List OpD), cs = [v] ∧ Ops W v l := by
  obtain ⟨v, n, f, hcs, ⟨A, c, rfl, h1, h2, h3⟩, hf⟩ := open_rx (sz := 4) (by omega) Try.underlying22 (by kernel_rfl) (fun _ _ _ h _ => h) h
  have each : ∀ j, j < n → ∃ (o : OpD) (vb vk : Value), f j = opC o vb vk ∧ Bs W vb o.b ∧ Bls W vk o.keep ∧ (-9223372036854775808 ≤ o.i ∧ o.i ≤ 9223372036854775807) := fun j hj => by
    obtain ⟨hfl, m, y, hy⟩ := hf j hj
    obtain ⟨xs, m', _, _, _, hxl, hxe⟩ := DataW.trod_struct Try.underlying34 hy
    have f0 := hxe 0 _ rfl
    have f1 := hxe 1 _ rfl
    have f2 := hxe 2 _ rfl
    have f3 := hxe 3 _ rfl
    have hl4 : xs.length = 4 := hxl
    rw [List.getElem?_eq_getElem (by omega)] at f0 f1 f2 f3
    obtain ⟨k, c0, _, w0⟩ := DataW.trod_int (k := .i64) Try.underlying3 f0
    obtain ⟨u, c1, _, w1⟩ := DataW.trod_int (k := .i64) Try.underlying3 f1
    obtain ⟨bv, b, c2, hb⟩ := open_bx Try.underlying31 Try.underlying5 (by kernel_rfl) f2
    obtain ⟨lv, l, c3, hl⟩ := open_bls Try.underlying32 Try.underlying4 (by kernel_rfl) f3
    exact ⟨⟨k, u, b, l⟩, bv, lv, four_cells2 hfl c0 c1 c2 c3, hb, hl, i64_of_wf w1⟩
  refine ⟨_, List.ofFn fun i : Fin n => (each i.1 i.2).choose, hcs, A, c, by rw [List.length_ofFn], by rw [List.length_ofFn]; exact h1, h2, fun hl => ?_⟩
  rw [List.length_ofFn] at hl
  obtain ⟨b, off, hA, hc⟩ := h3 hl
  refine ⟨b, off, hA, fun j hj => ?_⟩
  rw [List.length_ofFn] at hj
  rw [List.getElem_ofFn]
  have hs := (each j hj).choose_spec.choose_spec.choose_spec
  refine ⟨_, _, ⟨?_, hs.2.1, hs.2.2.1, hs.2.2.2⟩⟩
  have h4 := hc j hj
  rw [hs.1] at h4
  exact h4
end Go.Proofs.Ytenmgpijhaalbaa
