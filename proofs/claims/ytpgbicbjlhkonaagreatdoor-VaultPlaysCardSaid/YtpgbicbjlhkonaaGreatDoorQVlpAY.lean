/-
  Texts that belong together, merged: VltOpW. Conditions: as each theorem names them.
-/
import Derived.Test.YtpgbicbjlhkonaaGreatDoorQVlpAX
import Derived.SizedLaws
section
namespace Go.Proofs.YtpgbicbjlhkonaaGreatDoor
open Go.RowKit
set_option linter.unusedVariables false
set_option maxRecDepth 20000

section
variable {H : Type} {enc : TypeId × Value → H} {P : Program} {W : World} {base : Nat} {sp : Nat → Bool} {held : Bool}
theorem weights_mem_all {e : TypeId} {d : DataW H} : ∀ {l : List (DataW H)}, d ∈ l → ∀ k ∈ d.weights P e, k ∈ DataW.weightsAll P e l
  | x :: r, h, k, hk => by
    simp only [DataW.weightsAll, List.mem_append]
    rcases List.mem_cons.1 h with rfl | h
    · exact .inl hk
    · exact .inr (weights_mem_all h k hk)
/-- Bytes are no longer than what weighs them. -/
theorem open_bxW {t e : TypeId} {fuel M : Nat} {cs : List Value} {x : DataW H × List MemPlace} (ht : P.underlying t = some (.slice e)) (he : P.underlying e = some (.int .u8)) (hce : P.cellsOf e = 1) (hbe : P.bytesOf e = 1) (h : DataW.trod enc P W base sp held fuel t cs = some x) (hM : ∀ k ∈ x.1.weights P t, k ≤ M) :
    ∃ (v : Value) (l : List UInt8), cs = [v] ∧ Bs W v l ∧ l.length ≤ M := by
  obtain ⟨v, l, hcs, hb⟩ := open_bx ht he hce h
  refine ⟨v, l, hcs, hb, ?_⟩
  obtain ⟨A, c, hv, _⟩ := hb
  rcases DataW.trod_slice ht h with ⟨hc, _⟩ | ⟨a, len, cap, elems, rest, n, _, hc, rfl, _, _, _, hlen, _⟩
  · rw [hcs, hv] at hc
    simp at hc
    rw [hc.2.1]
    exact Nat.zero_le _
  · rw [hcs, hv] at hc
    simp at hc
    have := hM ((elems.length + rest.length) * 1) (by simp [DataW.weights, ht, hbe])
    omega
theorem open_rxW {t e : TypeId} {fuel M : Nat} {cs : List Value} {x : DataW H × List MemPlace} {sz : Nat} (hs0 : 0 < sz)
    (ht : P.underlying t = some (.slice e)) (hce : P.cellsOf e = sz) (h : DataW.trod enc P W base sp held fuel t cs = some x) (hM : ∀ k ∈ x.1.weights P t, k ≤ M) :
    ∃ (v : Value) (n : Nat) (f : Nat → List Value), cs = [v] ∧ Rx W v sz n f ∧ ∀ j, j < n → (f j).length = sz ∧ ∃ m y, DataW.trod enc P W base sp held m e (f j) = some y ∧ ∀ k ∈ y.1.weights P e, k ≤ M := by
  rcases DataW.trod_slice ht h with ⟨rfl, _⟩ | ⟨a, len, cap, elems, rest, n, _, rfl, hx, hba, hl, hm, hlen, hel, _, _⟩
  · exact ⟨_, 0, fun _ => [], rfl, ⟨none, 0, rfl, Nat.le_refl _, by simp [maxLen], fun h => by omega⟩, fun j hj => by omega⟩
  · have hME : ∀ d ∈ elems.map (·.1), ∀ k ∈ d.weights P e, k ≤ M := fun d hd k hk => hM k (by
      rw [hx]
      simp only [DataW.weights, ht, List.mem_cons, List.mem_append]
      exact .inr (.inl (weights_mem_all hd k hk)))
    have each : ∀ i, i < len → ∃ c : List Value, c.length = sz ∧ (∀ j, j < sz → W.cell? ((a.add (i * sz)).add j) = c[j]?) ∧ ∃ m y, DataW.trod enc P W base sp held m e c = some y ∧ ∀ k ∈ y.1.weights P e, k ≤ M := by
      intro i hi
      have h1 := hel i hi
      rw [hce, List.getElem?_eq_getElem (by omega), Option.bind_eq_some_iff] at h1
      obtain ⟨c, hc, ht2⟩ := h1
      obtain ⟨_, hcl, hcell⟩ := World.cells?_some hc
      exact ⟨c, hcl, hcell, n, _, ht2, hME _ (List.mem_map_of_mem (List.getElem_mem _))⟩
    refine ⟨_, len, fun j => if hj : j < len then (each j hj).choose else [], rfl, ⟨some a, cap, rfl, hl, hm, fun h0 => ?_⟩, fun j hj => ?_⟩
    · obtain ⟨g, off, spot⟩ := a
      have h1 := (each 0 h0).choose_spec
      have hc := h1.2.1 0 hs0
      rw [List.getElem?_eq_getElem (by rw [h1.1]; exact hs0)] at hc
      have hspot : spot = none := by simpa [Addr.add] using World.cell?_spot hc
      subst hspot
      refine ⟨g, off, rfl, fun k hk j u hj => ?_⟩
      simp only [dif_pos hk] at hj
      have hs := (each k hk).choose_spec
      have hj2 : j < sz := by
        have := (List.getElem?_eq_some_iff.1 hj).1
        rwa [hs.1] at this
      have h3 := hs.2.1 j hj2
      rw [addr_add3] at h3
      rw [h3, hj]
    · simp only [dif_pos hj]
      have hs := (each j hj).choose_spec
      exact ⟨hs.1, hs.2.2⟩
end
theorem open_opvsW {H : Type} {enc : TypeId × Value → H} {W : World} {base M : Nat} {sp : Nat → Bool} {held : Bool} {fuel : Nat} {cs : List Value} {x : DataW H × List MemPlace} (h : DataW.trod enc Tryz.prog W base sp held fuel 22 cs = some x) (hM : ∀ k ∈ x.1.weights Tryz.prog 22, k ≤ M) :
    ∃ (v : Value) (l : List OpV), cs = [v] ∧ Opvs W v l ∧ ∀ j (hj : j < l.length), l[j].b.length ≤ M := by
  obtain ⟨v, n, f, hcs, ⟨A, c, rfl, h1, h2, h3⟩, hf⟩ := open_rxW (sz := 5) (by omega) Tryz.underlying22 (by kernel_rfl) h hM
  have each : ∀ j, j < n → ∃ (o : OpV) (vb vk : Value), f j = opvC o vb vk ∧ Bs W vb o.b ∧ Bls W vk o.keep ∧ (-9223372036854775808 ≤ o.n ∧ o.n ≤ 9223372036854775807) ∧ o.seq < 18446744073709551616 ∧ o.b.length ≤ M := fun j hj => by
    obtain ⟨hfl, m, y, hy, hyM⟩ := hf j hj
    obtain ⟨xs, m', _, hyx, _, hxl, hxe⟩ := DataW.trod_struct Tryz.underlying42 hy
    have f0 := hxe 0 _ rfl
    have f1 := hxe 1 _ rfl
    have f2 := hxe 2 _ rfl
    have f3 := hxe 3 _ rfl
    have f4 := hxe 4 _ rfl
    have hl5 : xs.length = 5 := hxl
    have hM2 : ∀ k ∈ (xs[2]'(by omega)).1.weights Tryz.prog 38, k ≤ M := fun k hk => hyM k (by
      rw [hyx]
      simp only [DataW.weights, Tryz.underlying42]
      exact DataW.weights_mem_each (j := 2) (t := 38) (d := (xs[2]'(by omega)).1) (by rfl) (by rw [List.getElem?_map, List.getElem?_eq_getElem (by omega)]; rfl) k hk)
    rw [List.getElem?_eq_getElem (by omega)] at f0 f1 f2 f3 f4
    obtain ⟨k, c0, _, w0⟩ := DataW.trod_int (k := .i64) Tryz.underlying3 f0
    obtain ⟨u, c1, _, w1⟩ := DataW.trod_int (k := .i64) Tryz.underlying3 f1
    obtain ⟨bv, b, c2, hb, hbM⟩ := open_bxW Tryz.underlying38 Tryz.underlying5 (by kernel_rfl) (by kernel_rfl) f2 hM2
    obtain ⟨lv, l, c3, hl⟩ := open_bls Tryz.underlying39 Tryz.underlying4 (by kernel_rfl) f3
    obtain ⟨q, c4, _, w4⟩ := DataW.trod_int (k := .u64) Tryz.underlying40 f4
    obtain ⟨sq, rfl, hsq⟩ := u64_of_wf w4
    exact ⟨⟨k, u, b, l, sq⟩, bv, lv, five_cells hfl c0 c1 c2 c3 c4, hb, hl, i64_of_wf w1, hsq, hbM⟩
  refine ⟨_, List.ofFn fun i : Fin n => (each i.1 i.2).choose, hcs, ⟨A, c, by rw [List.length_ofFn], by rw [List.length_ofFn]; exact h1, h2, fun hl => ?_⟩, fun j hj => ?_⟩
  · rw [List.length_ofFn] at hl
    obtain ⟨b, off, hA, hc⟩ := h3 hl
    refine ⟨b, off, hA, fun j hj => ?_⟩
    rw [List.length_ofFn] at hj
    rw [List.getElem_ofFn]
    have hs := (each j hj).choose_spec.choose_spec.choose_spec
    refine ⟨_, _, ⟨?_, hs.2.1, hs.2.2.1, hs.2.2.2.1, hs.2.2.2.2.1⟩⟩
    have h4 := hc j hj
    rw [hs.1] at h4
    exact h4
  · rw [List.length_ofFn] at hj
    rw [List.getElem_ofFn]
    exact (each j hj).choose_spec.choose_spec.choose_spec.2.2.2.2.2
end Go.Proofs.YtpgbicbjlhkonaaGreatDoor
end
