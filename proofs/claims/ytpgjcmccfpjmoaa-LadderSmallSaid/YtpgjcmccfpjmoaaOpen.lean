/-
  From an array by value as a row hands it over to the words of the walks. Conditions: none.
-/
import Derived.Test.YtpgjcmccfpjmoaaFrame
import Derived.Test.YtpgjcmccfpjmoaaWords
import Derived.Lib.LaidTab
import Derived.Deep.DeepHandedRow
namespace Go.Proofs.Ytpgjcmccfpjmoaa
open Go.RowKit
set_option linter.unusedVariables false

theorem open_cells {H : Type} {enc : TypeId × Value → H} {P : Program} {W : World} {base b0 : Nat} {sp : Nat → Bool} {held : Bool} {t e : TypeId} {n : Nat} {k : IntKind} {v : Value} {d : DataW H} {ps : List MemPlace}
    (ht : P.underlying t = some (.array n e)) (he : P.underlying e = some (.int k)) (hce : P.cellsOf e = 1) (hval : Value.okWide P W .any b0 t v) (h : DataW.Trod enc P W base sp held t v d ps) :
    ∃ cs : Array Value, v = .agg cs ∧ cs.size = P.cellsOf t ∧ ∀ i, i < n → ∃ a, cs[i]? = some (.int k a) ∧ (Lit.int k a).wf = true := by
  obtain ⟨cs, rfl, hsz, _⟩ : ∃ cs, v = .agg cs ∧ cs.size = P.cellsOf t ∧ Row.okWide P W .any b0 t cs := by simpa [Value.okWide, ht] using hval
  obtain ⟨fuel, hf⟩ := h
  obtain ⟨xs, m, _, _, _, hl, hel⟩ := DataW.trod_array ht hf
  refine ⟨cs, rfl, hsz, fun i hi => ?_⟩
  have h1 := hel i hi
  rw [hce, List.getElem?_eq_getElem (by omega)] at h1
  obtain ⟨a, hc, _, hwf⟩ := DataW.trod_int he h1
  refine ⟨a, ?_, hwf⟩
  have := congrArg (·[0]?) hc
  simpa [List.getElem?_take, List.getElem?_drop, Value.cells] using this

theorem open_words {H : Type} {enc : TypeId × Value → H} {P : Program} {W : World} {base b0 : Nat} {sp : Nat → Bool} {held : Bool} {t e : TypeId} {n : Nat} {v : Value} {d : DataW H} {ps : List MemPlace}
    (ht : P.underlying t = some (.array n e)) (he : P.underlying e = some (.int .u32)) (hce : P.cellsOf e = 1) (hct : P.cellsOf t = n) (hval : Value.okWide P W .any b0 t v) (h : DataW.Trod enc P W base sp held t v d ps) :
    ∃ l : List UInt32, v = .agg (wordsC l) ∧ l.length = n := by
  obtain ⟨cs, rfl, hsz, hel⟩ := open_cells ht he hce hval h
  rw [hct] at hsz
  refine ⟨cs.toList.map fun v => match v with | .int _ a => UInt32.ofNat a.toNat | _ => 0, ?_, by simpa using hsz⟩
  congr 1
  apply Array.toList_inj.1
  simp only [wordsC, cellsW, List.map_map]
  apply List.ext_getElem (by simp)
  intro i h1 h2
  obtain ⟨a, hc, hwf⟩ := hel i (by simpa [hsz] using h1)
  have hb := bounds_u32 hwf
  have hci : cs.toList[i] = .int .u32 a := by
    have : cs[i]? = some cs.toList[i] := by simp [Array.getElem?_eq_getElem (show i < cs.size by simpa using h1)]
    rw [hc] at this
    injection this with this
    exact this.symm
  simp only [List.getElem_map, Function.comp_apply, hci]
  rw [UInt32.toNat_ofNat_of_lt' (by simp [UInt32.size]; omega)]
  congr 1
  omega
theorem open_key {H : Type} {enc : TypeId × Value → H} {P : Program} {W : World} {base b0 : Nat} {sp : Nat → Bool} {held : Bool} {t e : TypeId} {n : Nat} {v : Value} {d : DataW H} {ps : List MemPlace}
    (ht : P.underlying t = some (.array n e)) (he : P.underlying e = some (.int .u8)) (hce : P.cellsOf e = 1) (hct : P.cellsOf t = n) (hval : Value.okWide P W .any b0 t v) (h : DataW.Trod enc P W base sp held t v d ps) :
    ∃ l : List UInt8, v = keyV l ∧ l.length = n := by
  obtain ⟨cs, rfl, hsz, hel⟩ := open_cells ht he hce hval h
  rw [hct] at hsz
  refine ⟨cs.toList.map fun v => match v with | .int _ a => UInt8.ofNat a.toNat | _ => 0, ?_, by simpa using hsz⟩
  unfold keyV
  congr 1
  apply Array.toList_inj.1
  simp only [keyC, cellsB, List.map_map]
  apply List.ext_getElem (by simp)
  intro i h1 h2
  obtain ⟨a, hc, hwf⟩ := hel i (by simpa [hsz] using h1)
  have hb := bounds_u8 hwf
  have hci : cs.toList[i] = .int .u8 a := by
    have : cs[i]? = some cs.toList[i] := by simp [Array.getElem?_eq_getElem (show i < cs.size by simpa using h1)]
    rw [hc] at this
    injection this with this
    exact this.symm
  simp only [List.getElem_map, Function.comp_apply, hci]
  rw [UInt8.toNat_ofNat_of_lt' (by simp [UInt8.size]; omega)]
  congr 1
  omega
theorem u32_of_wf {n : Int} (h : (Lit.int .u32 n).wf = true) : ∃ c : UInt32, n = (c.toNat : Int) := by
  have hb := bounds_u32 h
  exact ⟨UInt32.ofNat n.toNat, by rw [UInt32.toNat_ofNat_of_lt' (by simp [UInt32.size]; omega)]; omega⟩

/-- Cut in pieces of m. -/
theorem chunked {α : Type} (m : Nat) : ∀ (rows : List (List α)) (cs : List α), cs.length = rows.length * m → (∀ i (h : i < rows.length), (cs.drop (i * m)).take m = rows[i]) → cs = rows.flatten := by
  intro rows
  induction rows with
  | nil =>
    intro cs hl _
    exact List.eq_nil_of_length_eq_zero (by simpa using hl)
  | cons r rows ih =>
    intro cs hl h
    have h0 := h 0 (by simp)
    simp only [Nat.zero_mul, List.drop_zero, List.getElem_cons_zero] at h0
    have hrest := ih (cs.drop m) (by rw [List.length_drop, hl, List.length_cons, Nat.succ_mul]; omega) (fun i hi => by
      have := h (i + 1) (by simpa using hi)
      rw [List.getElem_cons_succ] at this
      rw [← this, List.drop_drop, Nat.succ_mul, Nat.add_comm])
    rw [List.flatten_cons, ← h0, ← hrest, List.take_append_drop]
/-- A table of arrays reads as its rows. -/
theorem cells_of_rows {H : Type} {enc : TypeId × Value → H} {P : Program} {w : World} {base : Nat} {sp : Nat → Bool} {held : Bool} {fuel : Nat} {t e b : TypeId} {n m : Nat} {k : IntKind} {cs : List Value} {rows : List (List Int)} {p : List MemPlace}
    (ht : P.underlying t = some (.array n e)) (he : P.underlying e = some (.array m b)) (hb : P.underlying b = some (.int k)) (hcb : P.cellsOf b = 1) (hce : P.cellsOf e = m) (hct : P.cellsOf t = n * m) (hn : rows.length = n)
    (h : DataW.trod enc P w base sp held fuel t cs = some (.agg (rows.map fun zs => Lib.tabData k zs), p)) : cs = rows.flatten.map fun z => Value.int k z := by
  obtain ⟨xs, f, _, hx, hlen, hl, hel⟩ := DataW.trod_array ht h
  have hxs : xs.map (·.1) = rows.map fun zs => (Lib.tabData k zs : DataW H) := by
    have := congrArg Prod.fst hx
    simpa using this.symm
  have hflat := chunked m (rows.map fun zs => zs.map fun z => Value.int k z) cs (by simp [hlen, hct, hn]) (fun i hi => by
    have hi2 : i < rows.length := by simpa using hi
    have hi3 : i < xs.length := by omega
    have h1 := hel i (by omega)
    rw [hce, List.getElem?_eq_getElem hi3] at h1
    have h2 : xs[i].1 = Lib.tabData k rows[i] := by
      have := congrArg (·[i]?) hxs
      simpa [hi2, hi3] using this
    have h3 := Lib.cells_of_tab (zs := rows[i]) (p := xs[i].2) he hb hcb hce (by rw [h1, ← h2])
    rw [List.getElem_map, h3])
  rw [hflat]
  simp [List.map_flatten]
end Go.Proofs.Ytpgjcmccfpjmoaa
