/-
  Texts that belong together, merged: Open, CodO, CodP, CodR, CodS. Conditions: as each theorem names them.
-/
import Derived.Test.YtjhhpakaemnemaaQCorAH
import Derived.Test.YtjhhpakaemnemaaQCorAE
import Derived.Lib.LaidTab
import Derived.Deep.DeepHandedRow
section
namespace Go.Proofs.Ytjhhpakaemnemaa
open Go.RowKit
set_option linter.unusedVariables false

theorem open_cells {H : Type} {enc : TypeId × Value → H} {P : Program} {W : World} {base b0 : Nat} {sp : Nat → Bool} {held : Bool} {t e : TypeId} {n : Nat} {k : IntKind} {v : Value} {d : DataW H} {ps : List MemPlace}
    (ht : P.underlying t = some (.array n e)) (he : P.underlying e = some (.int k)) (hce : P.cellsOf e = 1) (hval : Value.okWide P W .any b0 t v) (h : DataW.Trod enc P W base sp held t v d ps) :
    ∃ cs : Array Value, v = .agg cs ∧ cs.size = P.cellsOf t ∧ ∀ i, i < n → ∃ a, cs[i]? = some (.int k a) ∧ (Lit.int k a).wf = true := by
  obtain ⟨cs, rfl, hsz, _⟩ : ∃ cs, v = .agg cs ∧ cs.size = P.cellsOf t ∧ Row.okWide P W .any b0 t cs := by simpa [Value.okWide, ht] using hval
  obtain ⟨fuel, hf⟩ := h
  obtain ⟨xs, m, _, _, _, hl, hel⟩ := DataW.trod_array ht hf
  refine ⟨cs, rfl, hsz, fun i hi => ?_⟩
  have h1 := hel i hi
  rw [hce, List.getElem?_eq_getElem (by omega)] at h1
  obtain ⟨a, hc, _, hwf⟩ := DataW.trod_int he h1
  refine ⟨a, ?_, hwf⟩
  have := congrArg (·[0]?) hc
  simpa [List.getElem?_take, List.getElem?_drop, Value.cells] using this

theorem open_words {H : Type} {enc : TypeId × Value → H} {P : Program} {W : World} {base b0 : Nat} {sp : Nat → Bool} {held : Bool} {t e : TypeId} {n : Nat} {v : Value} {d : DataW H} {ps : List MemPlace}
    (ht : P.underlying t = some (.array n e)) (he : P.underlying e = some (.int .u32)) (hce : P.cellsOf e = 1) (hct : P.cellsOf t = n) (hval : Value.okWide P W .any b0 t v) (h : DataW.Trod enc P W base sp held t v d ps) :
    ∃ l : List UInt32, v = .agg (wordsC l) ∧ l.length = n := by
  obtain ⟨cs, rfl, hsz, hel⟩ := open_cells ht he hce hval h
  rw [hct] at hsz
  refine ⟨cs.toList.map fun v => match v with | .int _ a => UInt32.ofNat a.toNat | _ => 0, ?_, by simpa using hsz⟩
  congr 1
  apply Array.toList_inj.1
  simp only [wordsC, cellsW, List.map_map]
  apply List.ext_getElem (by simp)
  intro i h1 h2
  obtain ⟨a, hc, hwf⟩ := hel i (by simpa [hsz] using h1)
  have hb := bounds_u32 hwf
  have hci : cs.toList[i] = .int .u32 a := by
    have : cs[i]? = some cs.toList[i] := by simp [Array.getElem?_eq_getElem (show i < cs.size by simpa using h1)]
    rw [hc] at this
    injection this with this
    exact this.symm
  simp only [List.getElem_map, Function.comp_apply, hci]
  rw [UInt32.toNat_ofNat_of_lt' (by simp [UInt32.size]; omega)]
  congr 1
  omega
theorem open_key {H : Type} {enc : TypeId × Value → H} {P : Program} {W : World} {base b0 : Nat} {sp : Nat → Bool} {held : Bool} {t e : TypeId} {n : Nat} {v : Value} {d : DataW H} {ps : List MemPlace}
    (ht : P.underlying t = some (.array n e)) (he : P.underlying e = some (.int .u8)) (hce : P.cellsOf e = 1) (hct : P.cellsOf t = n) (hval : Value.okWide P W .any b0 t v) (h : DataW.Trod enc P W base sp held t v d ps) :
    ∃ l : List UInt8, v = keyV l ∧ l.length = n := by
  obtain ⟨cs, rfl, hsz, hel⟩ := open_cells ht he hce hval h
  rw [hct] at hsz
  refine ⟨cs.toList.map fun v => match v with | .int _ a => UInt8.ofNat a.toNat | _ => 0, ?_, by simpa using hsz⟩
  unfold keyV
  congr 1
  apply Array.toList_inj.1
  simp only [keyC, cellsB, List.map_map]
  apply List.ext_getElem (by simp)
  intro i h1 h2
  obtain ⟨a, hc, hwf⟩ := hel i (by simpa [hsz] using h1)
  have hb := bounds_u8 hwf
  have hci : cs.toList[i] = .int .u8 a := by
    have : cs[i]? = some cs.toList[i] := by simp [Array.getElem?_eq_getElem (show i < cs.size by simpa using h1)]
    rw [hc] at this
    injection this with this
    exact this.symm
  simp only [List.getElem_map, Function.comp_apply, hci]
  rw [UInt8.toNat_ofNat_of_lt' (by simp [UInt8.size]; omega)]
  congr 1
  omega
theorem u32_of_wf {n : Int} (h : (Lit.int .u32 n).wf = true) : ∃ c : UInt32, n = (c.toNat : Int) := by
  have hb := bounds_u32 h
  exact ⟨UInt32.ofNat n.toNat, by rw [UInt32.toNat_ofNat_of_lt' (by simp [UInt32.size]; omega)]; omega⟩

/-- Cut in pieces of m. -/
theorem chunked {α : Type} (m : Nat) : ∀ (rows : List (List α)) (cs : List α), cs.length = rows.length * m → (∀ i (h : i < rows.length), (cs.drop (i * m)).take m = rows[i]) → cs = rows.flatten := by
  intro rows
  induction rows with
  | nil =>
    intro cs hl _
    exact List.eq_nil_of_length_eq_zero (by simpa using hl)
  | cons r rows ih =>
    intro cs hl h
    have h0 := h 0 (by simp)
    simp only [Nat.zero_mul, List.drop_zero, List.getElem_cons_zero] at h0
    have hrest := ih (cs.drop m) (by rw [List.length_drop, hl, List.length_cons, Nat.succ_mul]; omega) (fun i hi => by
      have := h (i + 1) (by simpa using hi)
      rw [List.getElem_cons_succ] at this
      rw [← this, List.drop_drop, Nat.succ_mul, Nat.add_comm])
    rw [List.flatten_cons, ← h0, ← hrest, List.take_append_drop]
/-- A table of arrays reads as its rows. -/
theorem cells_of_rows {H : Type} {enc : TypeId × Value → H} {P : Program} {w : World} {base : Nat} {sp : Nat → Bool} {held : Bool} {fuel : Nat} {t e b : TypeId} {n m : Nat} {k : IntKind} {cs : List Value} {rows : List (List Int)} {p : List MemPlace}
    (ht : P.underlying t = some (.array n e)) (he : P.underlying e = some (.array m b)) (hb : P.underlying b = some (.int k)) (hcb : P.cellsOf b = 1) (hce : P.cellsOf e = m) (hct : P.cellsOf t = n * m) (hn : rows.length = n)
    (h : DataW.trod enc P w base sp held fuel t cs = some (.agg (rows.map fun zs => Lib.tabData k zs), p)) : cs = rows.flatten.map fun z => Value.int k z := by
  obtain ⟨xs, f, _, hx, hlen, hl, hel⟩ := DataW.trod_array ht h
  have hxs : xs.map (·.1) = rows.map fun zs => (Lib.tabData k zs : DataW H) := by
    have := congrArg Prod.fst hx
    simpa using this.symm
  have hflat := chunked m (rows.map fun zs => zs.map fun z => Value.int k z) cs (by simp [hlen, hct, hn]) (fun i hi => by
    have hi2 : i < rows.length := by simpa using hi
    have hi3 : i < xs.length := by omega
    have h1 := hel i (by omega)
    rw [hce, List.getElem?_eq_getElem hi3] at h1
    have h2 : xs[i].1 = Lib.tabData k rows[i] := by
      have := congrArg (·[i]?) hxs
      simpa [hi2, hi3] using this
    have h3 := Lib.cells_of_tab (zs := rows[i]) (p := xs[i].2) he hb hcb hce (by rw [h1, ← h2])
    rw [List.getElem_map, h3])
  rw [hflat]
  simp [List.map_flatten]
end Go.Proofs.Ytjhhpakaemnemaa
end
section
namespace Go.Proofs.Ytjhhpakaemnemaa
open Go.RowKit
set_option linter.unusedVariables false
set_option maxRecDepth 20000

section
variable {H : Type} {enc : TypeId × Value → H} {P : Program} {W : World} {base : Nat} {sp : Nat → Bool} {held : Bool}
theorem addr_add2 (g off : Nat) (i j : Nat) : ((⟨g, off, none⟩ : Addr).add i).add j = ⟨g, off + i + j, none⟩ := by
  have e1 : (⟨g, off, none⟩ : Addr).add i = ⟨g, off + i, none⟩ := by unfold Addr.add; split <;> simp_all
  rw [e1]
  unfold Addr.add
  split <;> simp_all
/-- A list of elements of sz cells: each element's cells, and that they are read. -/
theorem open_rows {t e : TypeId} {fuel : Nat} {cs : List Value} {x : DataW H × List MemPlace} {sz : Nat} (hs0 : 0 < sz)
    (ht : P.underlying t = some (.slice e)) (hce : P.cellsOf e = sz) (hone : ∀ n (c : List Value) y, c.length = sz → DataW.trod enc P W base sp held n e c = some y → c.length = sz) (h : DataW.trod enc P W base sp held fuel t cs = some x) :
    ∃ (v : Value) (n : Nat) (f : Nat → List Value), cs = [v] ∧ Rw W v sz n f ∧ ∀ j, j < n → (f j).length = sz ∧ ∃ m y, DataW.trod enc P W base sp held m e (f j) = some y := by
  rcases DataW.trod_slice ht h with ⟨rfl, _⟩ | ⟨a, len, cap, elems, rest, n, _, rfl, _, hba, hl, hm, hlen, hel, _, _⟩
  · exact ⟨_, 0, fun _ => [], rfl, ⟨none, 0, rfl, Nat.le_refl _, by simp [maxLen], fun h => by omega⟩, fun j hj => by omega⟩
  · have each : ∀ i, i < len → ∃ c : List Value, c.length = sz ∧ (∀ j, j < sz → W.cell? ((a.add (i * sz)).add j) = c[j]?) ∧ ∃ m y, DataW.trod enc P W base sp held m e c = some y := by
      intro i hi
      have h1 := hel i hi
      rw [hce, List.getElem?_eq_getElem (by omega), Option.bind_eq_some_iff] at h1
      obtain ⟨c, hc, ht2⟩ := h1
      obtain ⟨_, hcl, hcell⟩ := World.cells?_some hc
      exact ⟨c, hcl, hcell, n, _, ht2⟩
    refine ⟨_, len, fun j => if hj : j < len then (each j hj).choose else [], rfl, ⟨some a, cap, rfl, hl, hm, fun h0 => ?_⟩, fun j hj => ?_⟩
    · obtain ⟨g, off, spot⟩ := a
      have h1 := (each 0 h0).choose_spec
      have hc := h1.2.1 0 hs0
      rw [List.getElem?_eq_getElem (by rw [h1.1]; exact hs0)] at hc
      have hspot : spot = none := by simpa [Addr.add] using World.cell?_spot hc
      subst hspot
      refine ⟨g, off, rfl, fun k hk j u hj => ?_⟩
      simp only [dif_pos hk] at hj
      have hs := (each k hk).choose_spec
      have hj2 : j < sz := by
        have := (List.getElem?_eq_some_iff.1 hj).1
        rwa [hs.1] at this
      have h3 := hs.2.1 j hj2
      rw [addr_add2] at h3
      rw [h3, hj]
    · simp only [dif_pos hj]
      have hs := (each j hj).choose_spec
      exact ⟨hs.1, hs.2.2⟩
theorem open_bs {t e : TypeId} {fuel : Nat} {cs : List Value} {x : DataW H × List MemPlace} (ht : P.underlying t = some (.slice e)) (he : P.underlying e = some (.int .u8)) (hce : P.cellsOf e = 1) (h : DataW.trod enc P W base sp held fuel t cs = some x) :
    ∃ (v : Value) (l : List UInt8), cs = [v] ∧ Bs W v l := by
  obtain ⟨v, n, f, hcs, ⟨A, c, rfl, h1, h2, h3⟩, hf⟩ := open_rows (by omega) ht hce (fun _ _ _ h _ => h) h
  have each : ∀ j, j < n → ∃ b : UInt8, f j = [.int .u8 (b.toNat : Int)] := fun j hj => by
    obtain ⟨_, m, y, hy⟩ := hf j hj
    obtain ⟨z, hz, _, hwf⟩ := DataW.trod_int he hy
    exact ⟨UInt8.ofNat z.toNat, by rw [hz, u8_of_wf hwf]⟩
  refine ⟨_, List.ofFn fun i : Fin n => (each i.1 i.2).choose, hcs, A, c, by rw [List.length_ofFn], by rw [List.length_ofFn]; exact h1, h2, fun hl => ?_⟩
  rw [List.length_ofFn] at hl
  obtain ⟨b, off, hA, hc⟩ := h3 hl
  refine ⟨b, off, hA, fun j hj => ?_⟩
  rw [List.length_ofFn] at hj
  rw [List.getElem_ofFn]
  have hs := (each j hj).choose_spec
  have h4 := hc j hj 0 (.int .u8 ((each j hj).choose.toNat : Int)) (by have := congrArg (·[0]?) hs; simpa using this)
  rw [Nat.mul_one, Nat.add_zero] at h4
  exact h4
theorem open_zs {t e : TypeId} {fuel : Nat} {cs : List Value} {x : DataW H × List MemPlace} (ht : P.underlying t = some (.slice e)) (he : P.underlying e = some (.int .i64)) (hce : P.cellsOf e = 1) (h : DataW.trod enc P W base sp held fuel t cs = some x) :
    ∃ (v : Value) (l : List Int), cs = [v] ∧ Zs W v l := by
  obtain ⟨v, n, f, hcs, ⟨A, c, rfl, h1, h2, h3⟩, hf⟩ := open_rows (by omega) ht hce (fun _ _ _ h _ => h) h
  have each : ∀ j, j < n → ∃ b : Int, f j = [.int .i64 b] := fun j hj => by
    obtain ⟨_, m, y, hy⟩ := hf j hj
    obtain ⟨z, hz, _, hwf⟩ := DataW.trod_int he hy
    exact ⟨z, hz⟩
  refine ⟨_, List.ofFn fun i : Fin n => (each i.1 i.2).choose, hcs, A, c, by rw [List.length_ofFn], by rw [List.length_ofFn]; exact h1, h2, fun hl => ?_⟩
  rw [List.length_ofFn] at hl
  obtain ⟨b, off, hA, hc⟩ := h3 hl
  refine ⟨b, off, hA, fun j hj => ?_⟩
  rw [List.length_ofFn] at hj
  rw [List.getElem_ofFn]
  have hs := (each j hj).choose_spec
  have h4 := hc j hj 0 (.int .i64 (each j hj).choose) (by have := congrArg (·[0]?) hs; simpa using this)
  rw [Nat.mul_one, Nat.add_zero] at h4
  exact h4
theorem open_kl {t e b : TypeId} {fuel : Nat} {cs : List Value} {x : DataW H × List MemPlace}
    (ht : P.underlying t = some (.slice e)) (he : P.underlying e = some (.array 32 b)) (hb : P.underlying b = some (.int .u8)) (hcb : P.cellsOf b = 1) (hce : P.cellsOf e = 32) (h : DataW.trod enc P W base sp held fuel t cs = some x) :
    ∃ (v : Value) (L : List (List UInt8)), cs = [v] ∧ Kl W v L := by
  obtain ⟨v, n, f, hcs, ⟨A, c, rfl, h1, h2, h3⟩, hf⟩ := open_rows (by omega) ht hce (fun _ _ _ h _ => h) h
  have each : ∀ j, j < n → ∃ l : List UInt8, l.length = 32 ∧ f j = cellsB l := fun j hj => by
    obtain ⟨hfl, m, y, hy⟩ := hf j hj
    obtain ⟨xs, m', _, _, _, hxl, hxe⟩ := DataW.trod_array he hy
    refine ⟨(f j).map fun v => match v with | .int _ z => UInt8.ofNat z.toNat | _ => 0, by simpa using hfl, ?_⟩
    apply List.ext_getElem (by simp [cellsB])
    intro i hi1 hi2
    rw [hfl] at hi1
    have h2 := hxe i hi1
    rw [hcb, List.getElem?_eq_getElem (by omega)] at h2
    obtain ⟨z, hz, _, hwf⟩ := DataW.trod_int hb h2
    have hcj : (f j)[i]? = some (.int .u8 z) := by
      have := congrArg (·[0]?) hz
      simpa [List.getElem?_take, List.getElem?_drop] using this
    have hcj2 : (f j)[i] = .int .u8 z := by
      rw [List.getElem?_eq_getElem (by omega)] at hcj
      exact Option.some.inj hcj
    simp only [cellsB, List.getElem_map, hcj2]
    rw [u8_of_wf hwf]
  refine ⟨_, List.ofFn fun i : Fin n => (each i.1 i.2).choose, hcs, A, c, by rw [List.length_ofFn], by rw [List.length_ofFn]; exact h1, h2, fun l hl => ?_, fun hl => ?_⟩
  · obtain ⟨i, rfl⟩ := List.mem_ofFn.1 hl
    exact (each i.1 i.2).choose_spec.1
  · rw [List.length_ofFn] at hl
    obtain ⟨g, off, hA, hc⟩ := h3 hl
    refine ⟨g, off, hA, fun k l hk => ?_⟩
    obtain ⟨hk1, hk2⟩ := List.getElem?_eq_some_iff.1 hk
    rw [List.getElem_ofFn] at hk2
    rw [List.length_ofFn] at hk1
    have hs := (each k hk1).choose_spec
    simp only at hk2
    rw [hk2] at hs
    rw [← hs.2]
    exact hc k hk1
end
theorem four_cells {c : List Value} (h : c.length = 4) {a b d e : Value} (h0 : (c.drop 0).take 1 = [a]) (h1 : (c.drop 1).take 1 = [b]) (h2 : (c.drop 2).take 1 = [d]) (h3 : (c.drop 3).take 1 = [e]) : c = [a, b, d, e] := by
  match c, h with
  | [x0, x1, x2, x3], _ =>
    simp at h0 h1 h2 h3
    rw [h0, h1, h2, h3]
theorem open_items {H : Type} {enc : TypeId × Value → H} {W : World} {base : Nat} {sp : Nat → Bool} {held : Bool} {fuel : Nat} {cs : List Value} {x : DataW H × List MemPlace} (h : DataW.trod enc Try.prog W base sp held fuel 22 cs = some x) :
    ∃ (v : Value) (its : List It), cs = [v] ∧ Its W v its := by
  obtain ⟨v, n, f, hcs, hR, hf⟩ := open_rows (sz := 4) (by omega) Try.underlying22 (by kernel_rfl) (fun _ _ _ h _ => h) h
  have each : ∀ j, j < n → ∃ (it : It) (bv lv : Value), f j = itC it bv lv ∧ Bs W bv it.b ∧ Kl W lv it.l ∧ it.n < 18446744073709551616 := fun j hj => by
    obtain ⟨hfl, m, y, hy⟩ := hf j hj
    obtain ⟨xs, m', _, _, _, hxl, hxe⟩ := DataW.trod_struct Try.underlying60 hy
    have f0 := hxe 0 _ rfl
    have f1 := hxe 1 _ rfl
    have f2 := hxe 2 _ rfl
    have f3 := hxe 3 _ rfl
    have hl4 : xs.length = 4 := hxl
    rw [List.getElem?_eq_getElem (by omega)] at f0 f1 f2 f3
    obtain ⟨k, c0, _, w0⟩ := DataW.trod_int (k := .i64) Try.underlying3 f0
    obtain ⟨u, c1, _, w1⟩ := DataW.trod_int (k := .u64) Try.underlying48 f1
    obtain ⟨bv, b, c2, hb⟩ := open_bs Try.underlying25 Try.underlying5 (by kernel_rfl) f2
    obtain ⟨lv, l, c3, hl⟩ := open_kl Try.underlying55 Try.underlying52 Try.underlying5 (by kernel_rfl) (by kernel_rfl) f3
    obtain ⟨nn, rfl, hn⟩ := u64_of_wf w1
    exact ⟨⟨k, nn, b, l⟩, bv, lv, four_cells hfl c0 c1 c2 c3, hb, hl, hn⟩
  refine ⟨v, List.ofFn fun i : Fin n => (each i.1 i.2).choose, hcs, fun j => if hj : j < n then (each j hj).choose_spec.choose else undef, fun j => if hj : j < n then (each j hj).choose_spec.choose_spec.choose else undef, ?_, fun j y hy => ?_⟩
  · rw [List.length_ofFn]
    obtain ⟨A, c, hv, h1, h2, h3⟩ := hR
    refine ⟨A, c, hv, h1, h2, fun hl => ?_⟩
    obtain ⟨b, off, hA, hc⟩ := h3 hl
    refine ⟨b, off, hA, fun j hj => ?_⟩
    have hs := (each j hj).choose_spec.choose_spec.choose_spec
    have e1 : (List.ofFn fun i : Fin n => (each i.1 i.2).choose).getD j default = (each j hj).choose := by
      rw [List.getD_eq_getElem?_getD, List.getElem?_eq_getElem (by rw [List.length_ofFn]; exact hj), List.getElem_ofFn]
      rfl
    simp only [e1, dif_pos hj]
    rw [← hs.1]
    exact hc j hj
  · obtain ⟨hj1, hj2⟩ := List.getElem?_eq_some_iff.1 hy
    rw [List.getElem_ofFn] at hj2
    rw [List.length_ofFn] at hj1
    have hs := (each j hj1).choose_spec.choose_spec.choose_spec
    simp only at hj2
    simp only [dif_pos hj1]
    have h1 : (each j hj1).choose = y := hj2
    exact ⟨h1 ▸ hs.2.1, h1 ▸ hs.2.2.1, h1 ▸ hs.2.2.2⟩
end Go.Proofs.Ytjhhpakaemnemaa
end
section
namespace Go.Proofs.Ytjhhpakaemnemaa
open Go.RowKit
set_option linter.unusedVariables false
set_option maxRecDepth 20000

theorem ofLow_cons (b : UInt8) (l : List UInt8) : ofLowB (b :: l) = b.toNat + 256 * ofLowB l := by
  rfl
theorem low_of (l : List UInt8) : lowB (ofLowB l) l.length = l := by
  induction l with
  | nil => rfl
  | cons b l ih =>
    rw [List.length_cons, lowB_cons, ofLow_cons]
    have hb := b.toNat_lt
    congr 1
    · apply UInt8.toNat_inj.1
      rw [byteN_toNat]
      omega
    · rw [show (b.toNat + 256 * ofLowB l) / 256 = ofLowB l by omega]
      exact ih
theorem high_of (l : List UInt8) : (lowB (ofHighB l) l.length).reverse = l := by
  have h := low_of l.reverse
  rw [List.length_reverse] at h
  have e : ofHighB l = ofLowB l.reverse := rfl
  rw [e, h, List.reverse_reverse]
theorem of_high (n s : Nat) (h : n < 256 ^ s) : ofHighB (lowB n s).reverse = n := by
  have e : ofHighB (lowB n s).reverse = ofLowB (lowB n s).reverse.reverse := rfl
  rw [e, List.reverse_reverse, ofLowB_lowB, Nat.mod_eq_of_lt h]
theorem high_length (n s : Nat) : (lowB n s).reverse.length = s := by rw [List.length_reverse, lowB_length]

theorem St.eta0 (s : St) (h : s.e = 0) : s = ⟨s.l, 0⟩ := by cases s; simp only at h; subst h; rfl
theorem take_ok (l r : List UInt8) (n : Nat) (h : n = l.length) : St.take ⟨l ++ r, 0⟩ n = l ∧ St.rest ⟨l ++ r, 0⟩ n = ⟨r, 0⟩ := by
  subst h
  have e : St.taken ⟨l ++ r, 0⟩ l.length = ⟨l ++ r, 0⟩ := by unfold St.taken; rw [if_neg (by rw [List.length_append]; omega)]
  unfold St.take St.rest
  rw [e]
  simp
theorem take_no (s : St) (n : Nat) (h : s.e = 0) (hn : s.l.length < n) : St.take s n = [] ∧ St.rest s n = ⟨[], 3⟩ := by
  unfold St.take St.rest St.taken St.fail
  rw [if_pos hn, if_pos h]
  simp
theorem take_err (s : St) (n : Nat) (h : s.e ≠ 0) : St.take s n = [] ∧ St.rest s n = s := by
  have e : s.taken n = s := by
    unfold St.taken St.fail
    split <;> first | rfl | exact if_neg h
  unfold St.take St.rest
  rw [e, if_neg h, if_neg h]
  exact ⟨rfl, rfl⟩
/-- Either all that was asked is there, or an error stays. -/
theorem rest_cases (s : St) (n : Nat) : (s.e = 0 ∧ n ≤ s.l.length ∧ s.take n = s.l.take n ∧ s.rest n = ⟨s.l.drop n, 0⟩) ∨ ((s.rest n).e ≠ 0 ∧ s.take n = []) := by
  by_cases h : s.e = 0
  · by_cases hn : s.l.length < n
    · obtain ⟨h1, h2⟩ := take_no s n h hn
      exact .inr ⟨by rw [h2]; simp, h1⟩
    · left
      refine ⟨h, by omega, ?_, ?_⟩
      · unfold St.take St.taken; rw [if_neg hn, if_pos h]
      · unfold St.rest St.taken; rw [if_neg hn, if_pos h]
  · obtain ⟨h1, h2⟩ := take_err s n h
    exact .inr ⟨by rw [h2]; exact h, h1⟩
theorem fail_ne (s : St) (x : Int) (hx : x ≠ 0) : (s.fail x).e ≠ 0 := by
  unfold St.fail
  split
  · exact hx
  · assumption
theorem numS_ne (s : St) (z : Int) (h : s.e ≠ 0) : (s.numS z).e ≠ 0 := by
  unfold St.numS
  split
  · rw [(take_err s _ h).2]; exact h
  · exact fail_ne s 51 (by decide)
theorem cntS_ne (s : St) (m : Int) (h : s.e ≠ 0) : (s.cntS m).e ≠ 0 := by
  unfold St.cntS
  split
  · exact fail_ne _ 2 (by decide)
  · exact numS_ne s 2 h
theorem rest_ne (s : St) (n : Nat) (h : s.e ≠ 0) : (s.rest n).e ≠ 0 := by rw [(take_err s n h).2]; exact h
theorem rdS_ne (s : St) (z : Int) (h : s.e ≠ 0) : (s.rdS z).e ≠ 0 := by
  unfold St.rdS
  split
  · exact rest_ne _ _ (cntS_ne s _ h)
  · split
    · exact rest_ne _ _ (cntS_ne s _ h)
    · exact numS_ne s z h
theorem decE_ne (l : List Int) : ∀ s : St, s.e ≠ 0 → (decE l s).e ≠ 0 := by
  induction l with
  | nil => intro s h; exact h
  | cons z r ih => intro s h; exact ih _ (rdS_ne s z h)

/-- A number that is read: its bytes were there. -/
theorem num_read (s : St) (k : Nat) (hk : isNum k = true) (h : (s.numS k).e = 0) : s.e = 0 ∧ k ≤ s.l.length ∧ s.num k = ofHighB (s.l.take k) ∧ s.numS k = ⟨s.l.drop k, 0⟩ := by
  unfold St.numS at h ⊢
  unfold St.num
  rw [if_pos hk] at h ⊢
  rw [if_pos hk]
  have e : ((k : Int)).toNat = k := by simp
  rw [e] at h ⊢
  rcases rest_cases s k with ⟨h1, h2, h3, h4⟩ | ⟨h1, _⟩
  · refine ⟨h1, h2, ?_, h4⟩
    rw [h3]
    have := inNum_shape k hk
    rw [List.take_of_length_le (l := s.l.take k) (by rw [List.length_take]; omega)]
  · exact absurd h h1
theorem two_read (s : St) (h : (s.numS 2).e = 0) : s.e = 0 ∧ 2 ≤ s.l.length ∧ s.num 2 = ofHighB (s.l.take 2) ∧ s.numS 2 = ⟨s.l.drop 2, 0⟩ := num_read s 2 rfl h
theorem cnt_read (s : St) (m : Int) (h : (s.cntS m).e = 0) : s.e = 0 ∧ 2 ≤ s.l.length ∧ (s.num 2 : Int) ≤ m ∧ s.cnt m = s.num 2 ∧ s.num 2 = ofHighB (s.l.take 2) ∧ s.cntS m = ⟨s.l.drop 2, 0⟩ := by
  unfold St.cntS St.cnt at *
  by_cases hm : (s.num 2 : Int) > m
  · rw [if_pos hm] at h
    exact absurd h (fail_ne _ 2 (by decide))
  · rw [if_neg hm] at h
    rw [if_neg hm, if_neg hm]
    obtain ⟨h1, h2, h3, h4⟩ := two_read s h
    exact ⟨h1, h2, by omega, rfl, h3, h4⟩
theorem put_ok (t : St) (h : t.e = 0) (b : List UInt8) : t.put b = ⟨t.l ++ b, 0⟩ := by unfold St.put; rw [if_pos h]
theorem flat_cut (n : Nat) : ∀ l : List UInt8, l.length = 32 * n → (cut32 n l).flatten = l ∧ (cut32 n l).length = n ∧ ∀ x ∈ cut32 n l, x.length = 32 := by
  induction n with
  | zero => intro l h; have : l = [] := List.eq_nil_of_length_eq_zero (by omega); subst this; simp [cut32]
  | succ n ih =>
    intro l h
    obtain ⟨h1, h2, h3⟩ := ih (l.drop 32) (by rw [List.length_drop]; omega)
    refine ⟨by rw [cut32, List.flatten_cons, h1, List.take_append_drop], by rw [cut32, List.length_cons, h2], fun x hx => ?_⟩
    rw [cut32] at hx
    rcases List.mem_cons.1 hx with rfl | hx
    · rw [List.length_take]; omega
    · exact h3 x hx
theorem cut_flat (ls : List (List UInt8)) (h : ∀ l ∈ ls, l.length = 32) : cut32 ls.length ls.flatten = ls := by
  induction ls with
  | nil => rfl
  | cons l ls ih =>
    have hl := h l List.mem_cons_self
    rw [List.length_cons, cut32, List.flatten_cons, List.take_left' hl, List.drop_left' hl, ih fun m hm => h m (List.mem_cons_of_mem _ hm)]
theorem head_two (s : St) (h : 2 ≤ s.l.length) : (lowB (ofHighB (s.l.take 2)) 2).reverse = s.l.take 2 := by
  have h1 := high_of (s.l.take 2)
  rwa [List.length_take, Nat.min_eq_left h] at h1
/-- What is read well is written to just the bytes that were read. -/
theorem rd_item (s : St) (z : Int) (hz : badK z = false) (h : (s.rdS z).e = 0) : s.e = 0 ∧ ∃ c, s.l = c ++ (s.rdS z).l ∧ ∀ t : St, t.e = 0 → t.item (s.rd z) = ⟨t.l ++ c, 0⟩ := by
  obtain ⟨p, hp1, hp2, hp3⟩ := pos_cases z hz
  unfold St.rdS at h ⊢
  unfold St.rd St.item
  by_cases h9 : z = 9
  · rw [if_pos h9] at h ⊢
    rw [if_pos h9]
    simp only [if_true]
    unfold St.bytS at h ⊢
    unfold St.byt
    have em : (min 4000 4000 : Int) = 4000 := by omega
    rw [em] at h ⊢
    rcases rest_cases (s.cntS 4000) (s.cnt 4000) with ⟨h1, h2, h3, h4⟩ | ⟨h1, _⟩
    · obtain ⟨q1, q2, q3, q4, q5, q6⟩ := cnt_read s 4000 h1
      rw [h3, h4, q4]
      rw [q6, q4] at h2
      rw [q6]
      simp only at h2 ⊢
      refine ⟨q1, s.l.take 2 ++ (s.l.drop 2).take (s.num 2), by rw [List.append_assoc, List.take_append_drop, List.take_append_drop], fun t ht => ?_⟩
      have hl : ((s.l.drop 2).take (s.num 2)).length = s.num 2 := List.length_take_of_le h2
      unfold St.wByt
      rw [hl, if_neg (by omega), put_ok t ht, put_ok _ rfl, q5, head_two s q2, List.append_assoc]
    · exact absurd h h1
  · rw [if_neg h9] at h ⊢
    rw [if_neg h9]
    by_cases h32 : z = 32
    · rw [if_pos h32] at h ⊢
      rw [if_pos h32]
      simp only [show ¬ ((32 : Int) = 9) by decide, if_false, if_true]
      unfold St.keyS at h ⊢
      unfold St.keys St.keyB
      have em : (min 100 100 : Int) = 100 := by omega
      rw [em] at h ⊢
      rcases rest_cases (s.cntS 100) (32 * s.cnt 100) with ⟨h1, h2, h3, h4⟩ | ⟨h1, _⟩
      · obtain ⟨q1, q2, q3, q4, q5, q6⟩ := cnt_read s 100 h1
        rw [h3, h4, q4]
        rw [q6, q4] at h2
        rw [q6]
        simp only at h2 ⊢
        refine ⟨q1, s.l.take 2 ++ (s.l.drop 2).take (32 * s.num 2), by rw [List.append_assoc, List.take_append_drop, List.take_append_drop], fun t ht => ?_⟩
        have hl : ((s.l.drop 2).take (32 * s.num 2)).length = 32 * s.num 2 := List.length_take_of_le h2
        obtain ⟨f1, f2, _⟩ := flat_cut (s.num 2) _ hl
        unfold St.wKey
        rw [hl, Nat.mul_div_cancel_left _ (by omega), f2, if_neg (by omega), put_ok t ht, put_ok _ rfl, f1, q5, head_two s q2, List.append_assoc]
      · exact absurd h h1
    · rw [if_neg h32] at h ⊢
      rw [if_neg h32]
      simp only [if_neg h9, if_neg h32]
      have hn : isNum z = true := by
        rw [hp3] at h9 h32 ⊢
        match p, hp2 with
        | 0, _ => exact absurd rfl h9
        | 1, _ => exact absurd rfl h32
        | 2, _ => rfl
        | 3, _ => rfl
        | 4, _ => rfl
        | 5, _ => rfl
      obtain ⟨k, rfl⟩ : ∃ k : Nat, z = k := ⟨z.toNat, by have := inNum_shape z hn; omega⟩
      obtain ⟨q1, q2, q3, q4⟩ := num_read s k hn h
      refine ⟨q1, s.l.take k, by rw [q4]; exact (List.take_append_drop _ _).symm, fun t ht => ?_⟩
      have hl : (s.l.take k).length = k := List.length_take_of_le q2
      have h1 := ofHighB_lt (s.l.take k)
      rw [hl] at h1
      have h2 := high_of (s.l.take k)
      rw [hl] at h2
      unfold St.wNum
      have e : ((k : Int)).toNat = k := by simp
      rw [e, q3, if_pos ⟨hn, h1⟩, put_ok t ht, h2]
theorem again (l : List Int) : ∀ (s t : St), l.any badK = false → (decE l s).e = 0 → t.e = 0 → s.e = 0 ∧ ∃ c, s.l = c ++ (decE l s).l ∧ (decL l s).foldl St.item t = ⟨t.l ++ c, 0⟩ := by
  induction l with
  | nil => intro s t _ h ht; exact ⟨h, [], rfl, by rw [List.append_nil]; exact St.eta0 t ht⟩
  | cons z r ih =>
    intro s t hb h ht
    rw [List.any_cons, Bool.or_eq_false_iff] at hb
    have hs : (s.rdS z).e = 0 := by
      by_cases hs : (s.rdS z).e = 0
      · exact hs
      · exact absurd h (decE_ne r _ hs)
    obtain ⟨h1, c, hc, hi⟩ := rd_item s z hb.1 hs
    obtain ⟨_, c2, hc2, hi2⟩ := ih (s.rdS z) (t.item (s.rd z)) hb.2 h (by rw [hi t ht])
    refine ⟨h1, c ++ c2, by rw [List.append_assoc, hc]; exact congrArg (c ++ ·) hc2, ?_⟩
    rw [decL, List.foldl_cons, hi2, hi t ht, List.append_assoc]
theorem rd_k (s : St) (z : Int) : (s.rd z).k = z := by
  unfold St.rd
  split
  · rename_i h; exact h.symm
  · split
    · rename_i h; exact h.symm
    · rfl
theorem decL_bad (l : List Int) : ∀ s : St, (decL l s).any (fun x => badK x.k) = l.any badK := by
  induction l with
  | nil => intro s; rfl
  | cons z r ih => intro s; rw [decL, List.any_cons, List.any_cons, ih, rd_k]
theorem fin_zero (s : St) : s.fin = 0 ↔ s.e = 0 ∧ s.l = [] := by
  unfold St.fin
  by_cases h : s.e = 0
  · rw [if_pos h]
    by_cases hl : s.l = []
    · simp [h, hl]
    · simp [hl]
  · rw [if_neg h]
    simp [h]
/-- What is decoded is encoded. -/
theorem dec_enc (l : List Int) (b : List UInt8) (hb : l.any badK = false) (h : (decE l ⟨b, 0⟩).fin = 0) : encS (decL l ⟨b, 0⟩) = ⟨b, 0⟩ := by
  obtain ⟨h1, h2⟩ := (fin_zero _).1 h
  obtain ⟨_, c, hc, hf⟩ := again l ⟨b, 0⟩ ⟨[], 0⟩ hb h1 rfl
  rw [h2, List.append_nil] at hc
  unfold encS
  rw [hf, ← hc]
  rfl
end Go.Proofs.Ytjhhpakaemnemaa
end
section
namespace Go.Proofs.Ytjhhpakaemnemaa
open Go.RowKit
set_option linter.unusedVariables false
set_option maxRecDepth 20000

set_option maxHeartbeats 400000 in
theorem refHigh_own (w : World) (n : Nat) (hn : n < 18446744073709551616) (s : Int) (hs : -9223372036854775808 ≤ s ∧ s ≤ 9223372036854775807) :
    Calls Try.prog 60 #[.int .u64 (n : Int), .int .i64 s] w fun e w' => ∃ v, e = .returned v ∧ OwnB w' w.heap.size 5 v (highI n s) ∧ Below w.heap.size w w' := by
  unfold highI
  have hlen := lowI_length n s
  have hc := fun w => refLow_any w n hn s hs
  generalize lowI n s = l at hlen hc ⊢
  have HC := Lib.hid hc
  clear hc
  go_enter Try.func60, Try.ntmps60
  go_wp2_with (go_at_call 78; refine (HC.out _).mono ?_; rintro e w1 ⟨_, rfl, ⟨A, c, rfl, h1, h2, h3⟩, hb0⟩)
  have HB0 := Lib.hid hb0
  unfold maxLen at h2
  clear hb0
  go_loopw [6, 7] (fun v i wr => ∃ k : Nat, k ≤ l.length ∧ i = .int .i64 ((l.length : Int) - 1 - k) ∧ OwnB wr w1.heap.size 5 v (l.reverse.take k) ∧ Below w1.heap.size w1 wr) (fun _ i _ => (intOf i + 1).toNat)
  case atStart => exact ⟨0, Nat.zero_le _, by simp, OwnB.nil _ _ _, Below.refl _ _⟩
  case round =>
    obtain ⟨k, hk, rfl, hown, hb⟩ := hrel
    have HO := Lib.hid hown
    have HB := Lib.hid hb
    have hsz := hb.size
    clear hown hb
    by_cases hlt : k < l.length
    · obtain ⟨b0, o0, rfl, hc⟩ := h3 (by omega)
      have hcell : wr.cell? ⟨b0, o0 + (l.length - 1 - k), none⟩ = some (.int .u8 ((l[l.length - 1 - k]'(by omega)).toNat : Int)) :=
        (HB.out.cell (p := ⟨b0, o0 + (l.length - 1 - k), none⟩) (World.block_lt_of_cell? w1 _ (hc (l.length - 1 - k) (by omega)))).trans (hc (l.length - 1 - k) (by omega))
      have htk : l.reverse.take (k + 1) = l.reverse.take k ++ [l[l.length - 1 - k]'(by omega)] := by
        rw [List.take_succ_eq_append_getElem (by simpa using hlt), List.getElem_reverse]
      have HT := Lib.hid htk
      clear htk hc h3
      go_wp2_with (at_builtin; refine wpList_appB _ rfl (.tmp 18) (.tmp 23) 25 rfl w1 5 Try.infoB Try.underlying25 _ _ _ [l[l.length - 1 - k]'(by omega)] rfl rfl (HO.out.alloc _) (Bs.lit1 _ _ _ _ rfl) (by simp; omega) (HB.out.alloc hsz _) ?_; intro v2 w2 hown2 hb2)
      go_roundw
      case rel => exact ⟨k + 1, by omega, by go_num, by rw [HT.out]; exact hown2, hb2⟩
      case measure => simp [intOf]; omega
    · have hks : k = l.length := by omega
      subst hks
      have HO2 : Hid (OwnB wr w1.heap.size 5 u6 l.reverse) := by
        have := HO.out; rwa [List.take_of_length_le (by simp)] at this
      go_wp2
      go_ret
      exact ⟨_, rfl, World.ownsRow.mono HO2.out HB0.out.size, below_size HB0.out HB.out⟩

/-- The document's Out at r. -/
def RoAt (w : World) (r : Nat) (s : St) (S : Nat → Prop) : Prop := ∃ v B, RowAt w r 69 #[v, .int .i64 s.e] ∧ Bs w v B ∧ (s.e = 0 → B = s.l) ∧ U8At w v ∧ ∀ k, v.ownBlock = some k → ¬ S k
theorem RoAt.kept {w w' : World} {r : Nat} {s : St} {S : Nat → Prop} (h : RoAt w r s S) (hb : Below w.heap.size w w') : RoAt w' r s S := by
  obtain ⟨v, B, h1, h2, h3, h4, h5⟩ := h
  exact ⟨v, B, h1.kept hb, h2.below hb, h3, h4.below hb, h5⟩
theorem RoAt.lt {w : World} {r : Nat} {s : St} {S : Nat → Prop} (h : RoAt w r s S) : r < w.heap.size := by obtain ⟨v, B, h1, _⟩ := h; exact h1.lt
theorem RoAt.bs {w w' : World} {r : Nat} {s : St} {S : Nat → Prop} (h : RoAt w r s S) {u : Value} {l : List UInt8} (hb : Bs w u l) (hg : w.grownBy w' (some r)) : Bs w' u l := by
  obtain ⟨v, B, h1, h2, _⟩ := h
  exact hb.turn h1 (no_u8 h2 _) hg

set_option maxHeartbeats 1000000 in
theorem refSize_any (w : World) (z : Int) : Calls Try.prog 50 #[.int .i64 z] w fun e w' => e = .returned (.bool (isNum z)) ∧ w = w' := by
  have E : Hid (isNum z = (decide (z = 1) || (decide (z = 2) || (decide (z = 4) || decide (z = 8))))) := by show _ = _; simp [isNum, Bool.or_assoc]; rfl
  rw [E.out]
  clear E
  by_cases h1 : z = 1
  · subst h1
    go_enter Try.func50, Try.ntmps50
    go_wp2
    go_ret
    exact ⟨rfl, rfl⟩
  · by_cases h2 : z = 2
    · subst h2
      go_enter Try.func50, Try.ntmps50
      go_wp2
      go_ret
      exact ⟨rfl, rfl⟩
    · by_cases h4 : z = 4
      · subst h4
        go_enter Try.func50, Try.ntmps50
        go_wp2
        go_ret
        exact ⟨rfl, rfl⟩
      · have d1 : decide (z = 1) = false := by simp [h1]
        have d2 : decide (z = 2) = false := by simp [h2]
        have d4 : decide (z = 4) = false := by simp [h4]
        by_cases h8 : z = 8
        · subst h8
          go_enter Try.func50, Try.ntmps50
          go_wp2
          go_ret
          exact ⟨rfl, rfl⟩
        · have d8 : decide (z = 8) = false := by simp [h8]
          go_enter Try.func50, Try.ntmps50
          go_wp2
          go_ret
          exact ⟨by simp [h1, h2, h4, h8], rfl⟩

set_option maxHeartbeats 1000000 in
theorem roAdd_err (w : World) (S : Nat → Prop) (r : Nat) (s : St) (x : Int) (hx : x ≠ 0) (h : RoAt w r s S) :
    Calls Try.prog 61 #[.pointer (some ⟨r, 0, none⟩), .int .i64 x, .slice none 0 0] w fun e w' => e = .returned (.tuple #[]) ∧ RoAt w' r (s.fail x) S ∧ w.grownBy w' (some r) := by
  obtain ⟨l, y⟩ := s
  obtain ⟨v, B, hr, hv, hB, hu8, hS5⟩ := h
  have HU8 := Lib.hid hu8
  have HS5 := Lib.hid hS5
  clear hu8 hS5
  have c0 : w.cell? ⟨r, 0, none⟩ = some v := hr.cell 0
  have c1 : w.cell? ⟨r, 1, none⟩ = some (.int .i64 y) := hr.cell 1
  have z1 : w.frozen? ⟨r, 1, none⟩ = false := hr.frozen 1
  have HR := Lib.hid hr
  have HV := Lib.hid hv
  have HB := Lib.hid hB
  obtain ⟨A, c, rfl, _, _, _⟩ := hv
  have hdx : decide (x = 0) = false := by simp [hx]
  clear hr hB
  by_cases hy : y = 0
  · subst hy
    go_enter Try.func61, Try.ntmps61
    go_wp2
    refine bodyPost_ret (results_none rfl _ _ _) rfl ?_
    refine ⟨rfl, ?_, grown_setCell _ _ _ _⟩
    exact ⟨_, B, HR.out.put 1 (.int .i64 x), HV.out.turn HR.out (no_u8 HV.out 0) (grown_setCell _ _ _ _), fun e => absurd e hx, HU8.out.turn HR.out (by decide) (grown_setCell _ _ _ _), HS5.out⟩
  · have hd : decide (y = 0) = false := by simp [hy]
    go_enter Try.func61, Try.ntmps61
    go_wp2
    refine bodyPost_ret (results_none rfl _ _ _) rfl ?_
    refine ⟨rfl, ?_, World.grownBy.refl _ _⟩
    unfold St.fail
    rw [if_neg hy]
    exact ⟨_, B, HR.out, HV.out, HB.out, HU8.out, HS5.out⟩

set_option maxHeartbeats 1000000 in
theorem roAdd_ok (w : World) (S : Nat → Prop) (r : Nat) (s : St) (u : Value) (b : List UInt8) (h : RoAt w r s S) (hu : Bs w u b) (hl : s.l.length + b.length ≤ 1000000000) (hS : ∀ k, S k → k < w.heap.size) :
   
    Calls Try.prog 61 #[.pointer (some ⟨r, 0, none⟩), .int .i64 0, u] w fun e w' => e = .returned (.tuple #[]) ∧ RoAt w' r (s.put b) S ∧ w.grownBy w' (some r) := by
  have hrl := h.lt
  have HS := Lib.hid hS
  clear hS
  obtain ⟨l, y⟩ := s
  obtain ⟨v, B, hr, hv, hB, hu8, hS5⟩ := h
  have HU8 := Lib.hid hu8
  have HS5 := Lib.hid hS5
  clear hu8 hS5
  have c0 : w.cell? ⟨r, 0, none⟩ = some v := hr.cell 0
  have c1 : w.cell? ⟨r, 1, none⟩ = some (.int .i64 y) := hr.cell 1
  have HR := Lib.hid hr
  have HV := Lib.hid hv
  have HB := Lib.hid hB
  have HU := Lib.hid hu
  obtain ⟨A, c, rfl, _, _, _⟩ := hv
  obtain ⟨A2, c2, rfl, _, _, _⟩ := hu
  simp only at hl hB HR HB
  clear hr
  by_cases hy : y = 0
  · subst hy
    have hBl : B = l := hB rfl
    subst hBl
    clear hB
    have E : Hid (St.put ⟨B, 0⟩ b = ⟨B ++ b, 0⟩) := by show _ = _; unfold St.put; rw [if_pos rfl]
    obtain ⟨m, hm⟩ : ∃ m, m = B ++ b := ⟨_, rfl⟩
    have HM := Lib.hid hm
    rw [← hm] at E
    have AL := alloc_below w (.cells #[] 5)
    have HAL := Lib.hid AL
    have O1 : Hid (OwnB (w.alloc (.cells #[] 5)) w.heap.size 5 (.slice (some ⟨w.heap.size, 0, none⟩) 0 0) []) := World.ownsRow_lit (base := w.heap.size) (e := 5) (size := 1) w #[] 0 (Nat.le_refl _) (by simp [maxLen]) rfl
    clear hm AL
    go_enter Try.func61, Try.ntmps61
    go_wp2_with (first
      | (at_builtin; refine wpList_appB _ (o := ⟨some 23, _, _, _, _, _⟩) rfl (.tmp 18) (.tmp 22) 25 rfl w 5 Try.infoBy Try.underlying25 _ _ [] B rfl rfl O1.out (HV.out.below HAL.out) (by simp; omega) HAL.out ?_; intro v6 w6 own6 b6; have O6 : Hid (OwnB w6 w.heap.size 5 v6 B) := own6; have B6 := Lib.hid b6; obtain ⟨A6, c6, rfl, _, _⟩ := O6.out.shape; clear own6 b6)
      | (at_builtin; refine wpList_appB _ (o := ⟨some 25, _, _, _, _, _⟩) rfl (.tmp 23) (.tmp 24) 25 rfl w 5 Try.infoBy Try.underlying25 _ _ B b rfl rfl O6.out (HU.out.below B6.out) (by omega) B6.out ?_; intro v7 w7 own7 b7; have O7 : Hid (OwnB w7 w.heap.size 5 v7 m) := HM.out ▸ own7; have B7 := Lib.hid b7; have R7 := Lib.hid (HR.out.kept b7); have z0 := R7.out.frozen 0; have d0 : w7.cell? ⟨r, 0, none⟩ = some (.slice A B.length c) := R7.out.cell 0; obtain ⟨A7, c7, rfl, _, _⟩ := O7.out.shape; clear own7 b7))
    go_end0
    rw [E.out]
    have hg := grown_setCell w7 r 0 (.slice A7 m.length c7)
    exact ⟨rfl, ⟨_, m, R7.out.fst _, O7.out.bs.turn R7.out (no_u8 (HV.out.below B7.out) 0) hg, fun _ => rfl, (U8At.of O7.out).turn R7.out (by decide) hg, fun k hk hs => by have := (World.ownsRow.lt O7.out k hk).1; have := HS.out k hs; omega⟩, (grown_any B7.out (some r)).trans hg⟩
  · have hd : decide (y = 0) = false := by simp [hy]
    go_enter Try.func61, Try.ntmps61
    go_wp2
    refine bodyPost_ret (results_none rfl _ _ _) rfl ?_
    refine ⟨rfl, ?_, World.grownBy.refl _ _⟩
    unfold St.put
    rw [if_neg hy]
    exact ⟨_, B, HR.out, HV.out, HB.out, HU8.out, HS5.out⟩

theorem highI_num (n : Nat) (z : Int) (hz : isNum z = true) : highI n z = (lowB n z.toNat).reverse ∧ ofHighB ((highI n z).take 8) = n % 256 ^ z.toNat ∧ (highI n z).length ≤ 8 := by
  have h8 := inNum_shape z hz
  have e : highI n z = (lowB n z.toNat).reverse := by unfold highI lowI; rw [if_pos (by omega)]
  have hl : (lowB n z.toNat).reverse.length = z.toNat := high_length n _
  refine ⟨e, ?_, by rw [e, hl]; omega⟩
  rw [e, List.take_of_length_le (by rw [hl]; omega)]
  have e2 : ofHighB (lowB n z.toNat).reverse = ofLowB (lowB n z.toNat).reverse.reverse := rfl
  rw [e2, List.reverse_reverse, ofLowB_lowB]

set_option maxHeartbeats 1000000 in
theorem roNumber_any (w : World) (S : Nat → Prop) (r : Nat) (s : St) (n : Nat) (z : Int) (hn : n < 18446744073709551616) (h : RoAt w r s S) (hl : s.l.length ≤ 900000000) (hS : ∀ k, S k → k < w.heap.size) :
   
    Calls Try.prog 31 #[.pointer (some ⟨r, 0, none⟩), .int .u64 (n : Int), .int .i64 z] w fun e w' => e = .returned (.tuple #[]) ∧ RoAt w' r (s.wNum n z) S ∧ w.grownBy w' (some r) := by
  have HH := Lib.hid h
  have HS := Lib.hid hS
  clear hS
  have HZ : Hid (∀ w, Calls Try.prog 50 #[.int .i64 z] w fun e w' => e = .returned (.bool (isNum z)) ∧ w = w') := fun w => refSize_any w z
  have HX := Lib.hid (fun w h => roAdd_err w S r s 51 (by decide) h)
  clear h
  by_cases hz : isNum z = true
  · obtain ⟨e1, e2, e3⟩ := highI_num n z hz
    have h8 := inNum_shape z hz
    have HN : Hid (∀ w, Calls Try.prog 60 #[.int .u64 (n : Int), .int .i64 z] w (RetBs w (highI n z))) := fun w => refHigh_any w n hn z (by omega)
    obtain ⟨hd, hhd⟩ : ∃ hd, hd = highI n z := ⟨_, rfl⟩
    rw [← hhd] at HN e1 e2 e3
    have HP := Lib.hid (fun w u h hu hs => roAdd_ok w S r s u hd h hu (by omega) hs)
    obtain ⟨M, hM⟩ : ∃ M, M = ofHighB (hd.take 8) := ⟨_, rfl⟩
    have HO : Hid (∀ w v, Bs w v hd → Calls Try.prog 52 #[v] w fun e w' => e = .returned (.int .u64 (M : Int)) ∧ w = w') := fun w v h => by rw [hM]; exact refOfHigh_any w v hd h
    rw [← hM] at e2
    by_cases hlt : n < 256 ^ z.toNat
    · have E : Hid (s.wNum n z = s.put hd) := by show _ = _; unfold St.wNum; rw [if_pos ⟨hz, hlt⟩, e1]
      rw [Nat.mod_eq_of_lt hlt] at e2
      have hdq : decide ((M : Int) = (n : Int)) = true := by simp [e2]
      rw [hz] at HZ
      subst e2
      clear hM hhd e1 hz hlt h8
      go_enter Try.func31, Try.ntmps31
      go_wp2_with fail
      refine (HZ.out _).mono ?_
      intro e w1 hh
      obtain ⟨he, hw⟩ := hh
      subst he hw
      go_wp2_with fail
      refine (HN.out _).mono ?_
      intro e w1 hh
      obtain ⟨u1, he, hu1, b1⟩ := hh
      subst he
      have U1 := Lib.hid hu1
      have B1 := Lib.hid b1
      obtain ⟨A1, c1, rfl, _, _, _⟩ := hu1
      clear b1
      go_wp2_with fail
      refine (HO.out _ _ U1.out).mono ?_
      intro e w1' hh
      obtain ⟨he, hw⟩ := hh
      subst he hw
      go_wp2_with fail
      refine (HN.out _).mono ?_
      intro e w2 hh
      obtain ⟨u2, he, hu2, b2⟩ := hh
      subst he
      have U2 := Lib.hid hu2
      have B2 := Lib.hid (below_size B1.out b2)
      obtain ⟨A2, c2, rfl, _, _, _⟩ := hu2
      clear b2
      go_wp2_with fail
      refine (HP.out _ _ (HH.out.kept B2.out) U2.out (fun k hk => Nat.lt_of_lt_of_le (HS.out k hk) B2.out.size)).mono ?_
      intro e w3 hh
      obtain ⟨he, h3, g3⟩ := hh
      subst he
      have H3 := Lib.hid h3
      have G3 := Lib.hid g3
      clear h3 g3
      go_wp2
      go_end0
      exact ⟨rfl, by rw [E.out]; exact H3.out, (grown_any B2.out (some r)).trans G3.out⟩
    · have E : Hid (s.wNum n z = s.fail 51) := by show _ = _; unfold St.wNum; rw [if_neg (fun h => hlt h.2)]
      have hne : M ≠ n := by
        have := Nat.mod_lt n (show 256 ^ z.toNat > 0 from Nat.pos_of_ne_zero (by simp))
        omega
      have hdq : decide ((M : Int) = (n : Int)) = false := by simp; omega
      rw [hz] at HZ
      clear hM hhd e1 hz hlt h8 e2
      go_enter Try.func31, Try.ntmps31
      go_wp2_with fail
      refine (HZ.out _).mono ?_
      intro e w1 hh
      obtain ⟨he, hw⟩ := hh
      subst he hw
      go_wp2_with fail
      refine (HN.out _).mono ?_
      intro e w1 hh
      obtain ⟨u1, he, hu1, b1⟩ := hh
      subst he
      have U1 := Lib.hid hu1
      have B1 := Lib.hid b1
      obtain ⟨A1, c1, rfl, _, _, _⟩ := hu1
      clear b1
      go_wp2_with fail
      refine (HO.out _ _ U1.out).mono ?_
      intro e w1' hh
      obtain ⟨he, hw⟩ := hh
      subst he hw
      go_wp2_with fail
      refine (HX.out _ (HH.out.kept B1.out)).mono ?_
      intro e w3 hh
      obtain ⟨he, h3, g3⟩ := hh
      subst he
      have H3 := Lib.hid h3
      have G3 := Lib.hid g3
      clear h3 g3
      go_wp2
      refine bodyPost_ret (results_none rfl _ _ _) rfl ?_
      exact ⟨rfl, by rw [E.out]; exact H3.out, (grown_any B1.out (some r)).trans G3.out⟩
  · have E : Hid (s.wNum n z = s.fail 51) := by show _ = _; unfold St.wNum; rw [if_neg (fun h => hz h.1)]
    have hz : isNum z = false := by simpa using hz
    rw [hz] at HZ
    clear hz
    go_enter Try.func31, Try.ntmps31
    go_wp2_with fail
    refine (HZ.out _).mono ?_
    intro e w1 hh
    obtain ⟨he, hw⟩ := hh
    subst he hw
    go_wp2_with fail
    refine (HX.out _ HH.out).mono ?_
    intro e w2 hh
    obtain ⟨he, h2, g2⟩ := hh
    subst he
    have H2 := Lib.hid h2
    have G2 := Lib.hid g2
    clear h2 g2
    go_wp2
    refine bodyPost_ret (results_none rfl _ _ _) rfl ?_
    exact ⟨rfl, by rw [E.out]; exact H2.out, G2.out⟩

theorem highI_two (n : Nat) : highI n 2 = (lowB n 2).reverse := by
  unfold highI lowI
  rw [if_pos (by omega)]
  rfl
set_option maxHeartbeats 1000000 in
theorem roBytes_any (w : World) (S : Nat → Prop) (r : Nat) (s : St) (u : Value) (b : List UInt8) (h : RoAt w r s S) (hu : Bs w u b) (hl : s.l.length ≤ 900000000) (hS : ∀ k, S k → k < w.heap.size) :
   
    Calls Try.prog 33 #[.pointer (some ⟨r, 0, none⟩), u] w fun e w' => e = .returned (.tuple #[]) ∧ RoAt w' r (s.wByt b) S ∧ w.grownBy w' (some r) := by
  have HH := Lib.hid h
  have HS := Lib.hid hS
  clear hS
  have HU := Lib.hid hu
  obtain ⟨A, c, rfl, h1, h2, _⟩ := hu
  unfold maxLen at h2
  clear h
  by_cases hb : b.length > 4000
  · have hb2 : (4000 : Int) < (b.length : Int) := by omega
    have E : Hid (s.wByt b = s.fail 2) := by show _ = _; unfold St.wByt; rw [if_pos hb]
    have HX := Lib.hid (fun w h => roAdd_err w S r s 2 (by decide) h)
    go_enter Try.func33, Try.ntmps33
    go_wp2_with fail
    refine (HX.out _ HH.out).mono ?_
    intro e w2 hh
    obtain ⟨he, h2, g2⟩ := hh
    subst he
    have H2 := Lib.hid h2
    have G2 := Lib.hid g2
    clear h2 g2
    go_wp2
    refine bodyPost_ret (results_none rfl _ _ _) rfl ?_
    exact ⟨rfl, by rw [E.out]; exact H2.out, G2.out⟩
  · have hb2 : ¬ ((4000 : Int) < (b.length : Int)) := by omega
    have hw : IntKind.u64.wrap (b.length : Int) = (b.length : Int) := by rw [IntKind.wrap_u64]; omega
    have E : Hid (s.wByt b = s.put ((lowB b.length 2).reverse ++ b)) := by show _ = _; unfold St.wByt; rw [if_neg hb, St.put_put]
    have HN : Hid (∀ w, Calls Try.prog 60 #[.int .u64 (b.length : Int), .int .i64 2] w fun e w' => ∃ v, e = .returned v ∧ OwnB w' w.heap.size 5 v (lowB b.length 2).reverse ∧ Below w.heap.size w w') := fun w => by
      have h := refHigh_own w b.length (by omega) 2 (by omega)
      rwa [highI_two] at h
    have LN : Hid ((lowB b.length 2).reverse.length = 2) := high_length _ _
    obtain ⟨hd, hhd⟩ : ∃ hd, hd = (lowB b.length 2).reverse := ⟨_, rfl⟩
    rw [← hhd] at E HN LN
    obtain ⟨m, hm⟩ : ∃ m, m = hd ++ b := ⟨_, rfl⟩
    have HM := Lib.hid hm
    have hml : m.length ≤ 4002 := by rw [hm, List.length_append, LN.out]; omega
    rw [← hm] at E
    have HP := Lib.hid (fun w u h hu hs => roAdd_ok w S r s u m h hu (by omega) hs)
    clear hhd hm
    go_enter Try.func33, Try.ntmps33
    go_wp2_with fail
    refine (HN.out _).mono ?_
    intro e w1 hh
    obtain ⟨u1, he, ho1, b1⟩ := hh
    subst he
    have O1 := Lib.hid ho1
    have B1 := Lib.hid b1
    obtain ⟨A1, c1, rfl, _, _⟩ := ho1.shape
    clear ho1 b1
    go_wp2_with (at_builtin; refine wpList_appB _ (o := ⟨some 15, _, _, _, _, _⟩) rfl (.tmp 13) (.tmp 14) 25 rfl w 5 Try.infoBy Try.underlying25 _ _ hd b rfl rfl O1.out (HU.out.below B1.out) (by have := LN.out; omega) B1.out ?_; intro v7 w7 own7 b7; have O7 : Hid (OwnB w7 w.heap.size 5 v7 m) := HM.out ▸ own7; have B7 := Lib.hid b7; obtain ⟨A7, c7, rfl, _, _⟩ := O7.out.shape; clear own7 b7)
    refine (HP.out _ _ (HH.out.kept B7.out) O7.out.bs (fun k hk => Nat.lt_of_lt_of_le (HS.out k hk) B7.out.size)).mono ?_
    intro e w3 hh
    obtain ⟨he, h3, g3⟩ := hh
    subst he
    have H3 := Lib.hid h3
    have G3 := Lib.hid g3
    clear h3 g3
    go_wp2
    go_end0
    exact ⟨rfl, by rw [E.out]; exact H3.out, (grown_any B7.out (some r)).trans G3.out⟩
end Go.Proofs.Ytjhhpakaemnemaa
end
section
namespace Go.Proofs.Ytjhhpakaemnemaa
open Go.RowKit
set_option linter.unusedVariables false
set_option maxRecDepth 20000

set_option maxHeartbeats 2000000 in
theorem roKeys_any (w : World) (S : Nat → Prop) (r : Nat) (s : St) (u : Value) (ls : List (List UInt8)) (h : RoAt w r s S) (hu : Kl w u ls) (hl : s.l.length ≤ 900000000) (hS : ∀ k, S k → k < w.heap.size) :
   
    Calls Try.prog 35 #[.pointer (some ⟨r, 0, none⟩), u] w fun e w' => e = .returned (.tuple #[]) ∧ RoAt w' r (s.wKey ls) S ∧ w.grownBy w' (some r) := by
  have HH := Lib.hid h
  have HS := Lib.hid hS
  clear hS
  obtain ⟨A, c, rfl, h1, h2, h4, h3⟩ := hu
  unfold maxLen at h2
  have H32 := Lib.hid h4
  clear h h4
  by_cases hb : ls.length > 100
  · have hb2 : (100 : Int) < (ls.length : Int) := by omega
    have E : Hid (s.wKey ls = s.fail 2) := by show _ = _; unfold St.wKey; rw [if_pos hb]
    have HX := Lib.hid (fun w h => roAdd_err w S r s 2 (by decide) h)
    clear h3
    go_enter Try.func35, Try.ntmps35
    go_wp2_with fail
    refine (HX.out _ HH.out).mono ?_
    intro e w2 hh
    obtain ⟨he, h2, g2⟩ := hh
    subst he
    have H2 := Lib.hid h2
    have G2 := Lib.hid g2
    clear h2 g2
    go_wp2
    refine bodyPost_ret (results_none rfl _ _ _) rfl ?_
    exact ⟨rfl, by rw [E.out]; exact H2.out, G2.out⟩
  · have hb2 : ¬ ((100 : Int) < (ls.length : Int)) := by omega
    have hw : IntKind.u64.wrap (ls.length : Int) = (ls.length : Int) := by rw [IntKind.wrap_u64]; omega
    have E : Hid (s.wKey ls = s.put ((lowB ls.length 2).reverse ++ ls.flatten)) := by show _ = _; unfold St.wKey; rw [if_neg hb, St.put_put]
    have HN : Hid (∀ w, Calls Try.prog 60 #[.int .u64 (ls.length : Int), .int .i64 2] w fun e w' => ∃ v, e = .returned v ∧ OwnB w' w.heap.size 5 v (lowB ls.length 2).reverse ∧ Below w.heap.size w w') := fun w => by
      have h := refHigh_own w ls.length (by omega) 2 (by omega)
      rwa [highI_two] at h
    have LN : Hid ((lowB ls.length 2).reverse.length = 2) := high_length _ _
    obtain ⟨hd, hhd⟩ : ∃ hd, hd = (lowB ls.length 2).reverse := ⟨_, rfl⟩
    rw [← hhd] at E HN LN
    have LT : Hid (∀ j, j ≤ ls.length → (hd ++ (ls.take j).flatten).length = 2 + j * 32) := fun j hj => by
      rw [List.length_append, LN.out, flat_len32 _ (fun l hl => H32.out l (List.mem_of_mem_take hl)), List.length_take_of_le hj]
    have HBY := Lib.hid (fun w l hl => refBytes_any w l hl)
    clear hhd
    go_enter Try.func35, Try.ntmps35
    go_wp2_with fail
    refine (HN.out _).mono ?_
    intro e w1 hh
    obtain ⟨u1, he, ho1, b1⟩ := hh
    subst he
    have O1 : Hid (OwnB w1 w.heap.size 5 u1 (hd ++ (ls.take 0).flatten)) := by show OwnB _ _ _ _ _; rw [List.take_zero, List.flatten_nil, List.append_nil]; exact ho1
    have B1 := Lib.hid b1
    obtain ⟨A1, c1, rfl, _, _⟩ := ho1.shape
    clear ho1 b1 HN
    go_wp2_with fail
    go_loopw [4, 5] (fun v i wr => ∃ j : Nat, j ≤ ls.length ∧ i = .int .i64 (j : Int) ∧ OwnB wr w.heap.size 5 v (hd ++ (ls.take j).flatten) ∧ Below w.heap.size w wr) (fun _ i _ => ls.length - (intOf i).toNat)
    case atStart => exact ⟨0, by omega, rfl, O1.out, B1.out⟩
    case round =>
      clear O1 B1
      obtain ⟨j, hj, rfl, hO, hB⟩ := hrel
      have HO := Lib.hid hO
      have HB := Lib.hid hB
      obtain ⟨VA, vc, hv4, _, _⟩ := hO.shape
      clear hO hB
      by_cases hlt : j < ls.length
      · have hlt2 : (j : Int) < (ls.length : Int) := by omega
        have hw1 : IntKind.i64.wrap ((j : Int) + 1) = (j : Int) + 1 := IntWalk.i64_in _ (by omega)
        have hq0 : ¬ ((j : Int) < 0) := by omega
        obtain ⟨l, hll⟩ : ∃ l, ls[j]? = some l := ⟨_, List.getElem?_eq_getElem hlt⟩
        have L32 : Hid (l.length = 32) := H32.out l (List.mem_of_getElem? hll)
        have HT : Hid (hd ++ (ls.take j).flatten ++ l = hd ++ (ls.take (j + 1)).flatten) := by
          show _ = _
          rw [List.take_add_one, hll, List.flatten_append, List.append_assoc]
          simp
        obtain ⟨b, off, rfl, hr⟩ := h3 (by omega)
        have HR : Hid (wr.rangeAt b (off + j * 32) (cellsB l)) := fun i u hu => by
          have h1 := hr j l hll i u hu
          exact (HB.out.cell (p := ⟨b, off + j * 32 + i, none⟩) (World.block_lt_of_cell? w _ h1)).trans h1
        have HLJ := Lib.hid (LT.out j (by omega))
        obtain ⟨pre, hpre⟩ : ∃ pre, pre = hd ++ (ls.take j).flatten := ⟨_, rfl⟩
        rw [← hpre] at HO HT HLJ hv4
        clear hr hll h3 LT hpre
        subst hv4
        go_wp2_with (with_reducible refine wpList_loadK (o := ⟨some 25, _, _, _, _, _⟩) rfl 52 (.tmp 24) rfl b (off + j * 32) (by with_unfolding_all rfl) l (.array 32 5) (by with_unfolding_all exact HR.out) Try.underlying52 rfl (Try.sizeKeyM l L32.out) ?_)
        refine (HBY.out wr l L32.out).mono ?_
        intro e w2 hh
        obtain ⟨u2, he, hu2, b2⟩ := hh
        subst he
        have U2 := Lib.hid hu2
        have O2 := Lib.hid (HO.out.below b2)
        have B2 := Lib.hid (HB.out.trans (b2.mono HB.out.size))
        obtain ⟨A2, c2, rfl, _, _, _⟩ := hu2
        clear b2 HO HB HR HBY
        go_wp2_with (at_builtin; refine wpList_appB _ (o := ⟨some 27, _, _, _, _, _⟩) rfl (.tmp 21) (.tmp 26) 25 rfl w 5 Try.infoBy Try.underlying25 _ _ pre l rfl rfl O2.out U2.out (by have := HLJ.out; have := L32.out; omega) B2.out ?_; intro v7 w7 own7 b7; have O7 : Hid (OwnB w7 w.heap.size 5 v7 (hd ++ (ls.take (j + 1)).flatten)) := HT.out ▸ own7; have B7 := Lib.hid b7; clear own7 b7)
        go_roundw
        case rel => exact ⟨j + 1, by omega, by go_num, O7.out, B7.out⟩
        case measure => simp [intOf]; omega
      · have hj2 : j = ls.length := by omega
        subst hj2
        have HLJ := LT.out ls.length (by omega)
        rw [List.take_length] at HO HLJ hv4
        obtain ⟨m, hm⟩ : ∃ m, m = hd ++ ls.flatten := ⟨_, rfl⟩
        rw [← hm] at HO HLJ hv4 E
        have HP := Lib.hid (fun w u h hu hs => roAdd_ok w S r s u m h hu (by omega) hs)
        clear hm HLJ LT
        subst hv4
        go_wp2_with fail
        refine (HP.out _ _ (HH.out.kept HB.out) HO.out.bs (fun k hk => Nat.lt_of_lt_of_le (HS.out k hk) HB.out.size)).mono ?_
        intro e w3 hh
        obtain ⟨he, h3, g3⟩ := hh
        subst he
        have H3 := Lib.hid h3
        have G3 := Lib.hid g3
        clear h3 g3
        go_wp2
        go_end0
        exact ⟨rfl, by rw [E.out]; exact H3.out, (grown_any HB.out (some r)).trans G3.out⟩

/-- What Done hands back. -/
def St.out (s : St) : List UInt8 := if s.e = 0 then s.l else []
set_option maxHeartbeats 1000000 in
theorem roDone_any (w : World) (S : Nat → Prop) (r : Nat) (s : St) (h : RoAt w r s S) :
    Calls Try.prog 37 #[.pointer (some ⟨r, 0, none⟩)] w fun e w' => ∃ v, e = .returned (.tuple #[v, .int .i64 s.e]) ∧ Bs w' v s.out ∧ Below w.heap.size w w' := by
  obtain ⟨l, y⟩ := s
  obtain ⟨v, B, hr, hv, hB, _, _⟩ := h
  have c0 : w.cell? ⟨r, 0, none⟩ = some v := hr.cell 0
  have c1 : w.cell? ⟨r, 1, none⟩ = some (.int .i64 y) := hr.cell 1
  have HV := Lib.hid hv
  obtain ⟨A, c, rfl, _, _, _⟩ := hv
  simp only at hB c0 c1
  clear hr
  by_cases hy : y = 0
  · subst hy
    have hBl : B = l := hB rfl
    subst hBl
    have E : Hid ((St.mk B 0).out = B) := if_pos rfl
    clear hB
    go_enter Try.func37, Try.ntmps37
    go_wp2
    go_ret2
    exact ⟨_, rfl, by rw [E.out]; exact HV.out, Below.refl _ _⟩
  · have hd : decide (y = 0) = false := by simp [hy]
    have E : Hid ((St.mk l y).out = []) := if_neg hy
    clear hB
    go_enter Try.func37, Try.ntmps37
    go_wp2
    go_region
    all_goals
      go_wp2
      go_ret2
      exact ⟨_, rfl, by rw [E.out]; exact Bs.nil _, (Below.refl _ _).drew⟩
/-- Where there is an error nothing is written. -/
def St.Inv (s : St) : Prop := s.e ≠ 0 → s.l = []
theorem inv_fail (s : St) (x : Int) (h : s.Inv) : (s.fail x).Inv := by
  unfold St.fail St.Inv
  split
  · intro _; rfl
  · exact h
theorem inv_put (s : St) (b : List UInt8) (h : s.Inv) : (s.put b).Inv := by
  unfold St.put St.Inv
  split
  · intro h0; exact absurd rfl h0
  · exact h
theorem out_inv (s : St) (h : s.Inv) : s.out = s.l := by
  unfold St.out
  split
  · rfl
  · rename_i h0; exact (h h0).symm
end Go.Proofs.Ytjhhpakaemnemaa
end
