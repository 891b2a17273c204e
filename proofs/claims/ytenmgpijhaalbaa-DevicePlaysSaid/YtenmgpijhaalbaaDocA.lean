/-
  The document's device in memory, and as plain data; contracts of full, Done, Len, Fuse. Conditions: as each theorem names them.
-/
import Derived.Test.YtenmgpijhaalbaaDevK
namespace Go.Proofs.Ytenmgpijhaalbaa
open Go.RowKit
set_option linter.unusedVariables false
set_option maxRecDepth 20000

/-- The document's device as plain data: what it answers hangs on this alone. -/
structure Ab where
  sure : List (List UInt8)
  pend : List (Nat × List UInt8)
  fused : Bool
  left : Int
  gone : Bool
def Ab.goes (a : Ab) : Bool := !(a.gone || (a.fused && decide (a.left = 0)))
def Ab.spend (a : Ab) : Ab := { a with gone := !a.goes, left := if a.gone then (if a.fused && decide (0 < a.left) then a.left - 1 else a.left) else if a.goes && a.fused then a.left - 1 else a.left }
def Ab.has (a : Ab) (i : Int) : Bool := decide (0 ≤ i) && decide (i < (a.sure.length : Int))
def Ab.writeE (a : Ab) (i : Int) (b : List UInt8) : Int := if a.has i = false then 60 else if 256 < b.length then 2 else if a.goes then 0 else 61
def Ab.write (a : Ab) (i : Int) (b : List UInt8) : Ab := if a.has i = false then a else if 256 < b.length then a else if a.goes then { a.spend with pend := a.pend ++ [(i.toNat, pad b)] } else a.spend
def Ab.all (a : Ab) : List (List UInt8) := doneTo (fun _ => true) a.pend a.sure a.pend.length
def Ab.syncE (a : Ab) : Int := if a.goes then 0 else 61
def Ab.sync (a : Ab) : Ab := if a.goes then { a.spend with sure := a.all, pend := [] } else a.spend
def Ab.crash (a : Ab) (keep : List Bool) : Ab := { a with sure := doneTo (fun k => keep.getD k false) a.pend a.sure a.pend.length, pend := [], fused := false, gone := false }
def Ab.set (a : Ab) (n : Int) : Ab := { a with fused := decide (0 ≤ n), left := n }
def Ab.new (n : Nat) : Ab := ⟨List.replicate n zeroSec, [], false, 0, false⟩

/-- Both are one device. -/
structure Sim (d : Dev) (a : Ab) : Prop where
  sure : a.sure = d.sure
  pend : a.pend = d.pend
  now : d.now = doneTo (fun _ => true) d.pend d.sure d.pend.length
  gone : a.gone = d.burnt
  fuse : d.burnt = false → a.fused = d.there ∧ (d.there = true → a.left = d.left)
  ok : d.Ok
  left : -9223372036854775808 ≤ a.left ∧ a.left ≤ 9223372036854775807
section
variable {d : Dev} {a : Ab}
theorem Sim.goes (h : Sim d a) : a.goes = d.goes := by
  unfold Ab.goes Dev.goes
  rw [h.gone]
  cases hb : d.burnt
  · obtain ⟨h1, h2⟩ := h.fuse hb
    rw [h1]
    cases ht : d.there
    · rfl
    · rw [h2 ht]
  · rfl
theorem Ab.spend_left (hl : -9223372036854775808 ≤ a.left ∧ a.left ≤ 9223372036854775807) (hf : a.goes = true → a.fused = true → 0 ≤ a.left) : -9223372036854775808 ≤ a.spend.left ∧ a.spend.left ≤ 9223372036854775807 := by
  show -9223372036854775808 ≤ (if a.gone then (if a.fused && decide (0 < a.left) then a.left - 1 else a.left) else if a.goes && a.fused then a.left - 1 else a.left) ∧ (if a.gone then (if a.fused && decide (0 < a.left) then a.left - 1 else a.left) else if a.goes && a.fused then a.left - 1 else a.left) ≤ _
  split
  · split
    · rename_i hc
      simp only [Bool.and_eq_true, decide_eq_true_eq] at hc
      omega
    · exact hl
  · split
    · rename_i hc
      simp only [Bool.and_eq_true] at hc
      have := hf hc.1 hc.2
      omega
    · exact hl
theorem Sim.spend (h : Sim d a) : Sim d.spend a.spend where
  sure := h.sure
  pend := h.pend
  now := h.now
  gone := by show (!a.goes) = !d.goes; rw [h.goes]
  fuse hb := by
    have hg : d.goes = true := by
      have : d.spend.burnt = !d.goes := rfl
      rw [this] at hb
      simpa using hb
    have hb0 : d.burnt = false := by
      cases hb : d.burnt
      · rfl
      · simp [Dev.goes, hb] at hg
    obtain ⟨h1, h2⟩ := h.fuse hb0
    have hag : a.gone = false := h.gone.trans hb0
    refine ⟨h1, fun ht => ?_⟩
    have ht' : d.there = true := ht
    show (if a.gone then (if a.fused && decide (0 < a.left) then a.left - 1 else a.left) else if a.goes && a.fused then a.left - 1 else a.left) = (if d.goes && d.there then d.left - 1 else d.left)
    rw [hag, h.goes, hg, h1, ht', h2 ht']
    rfl
  ok := h.ok.spend
  left := Ab.spend_left h.left fun hg hf => by
    rw [h.goes] at hg
    have hb0 : d.burnt = false := by
      cases hb : d.burnt
      · rfl
      · simp [Dev.goes, hb] at hg
    obtain ⟨h1, h2⟩ := h.fuse hb0
    rw [h1] at hf
    rw [h2 hf]
    exact h.ok.fuse hf
theorem Sim.len (h : Sim d a) : a.sure.length = d.now.length := by rw [h.sure, h.ok.same]
theorem Sim.has (h : Sim d a) (i : Int) : a.has i = d.has i := by unfold Ab.has Dev.has; rw [h.len]
theorem Sim.writeE (h : Sim d a) (i : Int) (b : List UInt8) : a.writeE i b = d.writeE i b := by unfold Ab.writeE Dev.writeE; rw [h.has, h.goes]
theorem Sim.write (h : Sim d a) (i : Int) (b : List UInt8) : Sim (d.write i b) (a.write i b) := by
  unfold Dev.write Ab.write
  rw [h.has, h.goes]
  split
  · exact h
  · rename_i hi
    split
    · exact h
    · rename_i hb
      split
      · have hs := h.spend
        have hi2 := Dev.has_lt (d := d) (by simpa using hi)
        have hk := hs.ok.put (i := i.toNat) hi2.2 (pad_length (b := b) (by omega))
        refine ⟨hs.sure, ?_, ?_, hs.gone, hs.fuse, hk, hs.left⟩
        · show a.pend ++ _ = d.pend ++ _
          rw [h.pend]
        · show d.now.set _ _ = doneTo _ (d.pend ++ _) d.sure (d.pend ++ _).length
          rw [doneTo_snoc _ _ _ _ rfl, ← h.now]
      · exact h.spend
theorem Sim.all (h : Sim d a) : a.all = d.now := by unfold Ab.all; rw [h.pend, h.sure, ← h.now]
theorem Sim.syncE (h : Sim d a) : a.syncE = d.syncE := by unfold Ab.syncE Dev.syncE; rw [h.goes]
theorem Sim.sync (h : Sim d a) : Sim d.sync a.sync := by
  have hk := h.ok.sync
  unfold Dev.sync Ab.sync
  unfold Dev.sync at hk
  rw [h.goes]
  split
  · rename_i hg
    rw [if_pos hg] at hk
    have hs := h.spend
    exact ⟨h.all, rfl, rfl, hs.gone, hs.fuse, hk, hs.left⟩
  · exact h.spend
theorem Sim.crash (h : Sim d a) (keep : List Bool) : Sim (d.crash keep) (a.crash keep) := by
  refine ⟨?_, rfl, rfl, rfl, fun _ => ⟨rfl, fun h => nomatch h⟩, h.ok.crash keep, h.left⟩
  show doneTo _ a.pend a.sure a.pend.length = doneTo _ d.pend d.sure d.pend.length
  rw [h.pend, h.sure]
theorem Sim.set (h : Sim d a) {n : Int} (hn : -9223372036854775808 ≤ n ∧ n ≤ 9223372036854775807) : Sim (d.set n) (a.set n) :=
  ⟨h.sure, h.pend, h.now, h.gone, fun _ => ⟨rfl, fun _ => rfl⟩, h.ok.set hn, hn⟩
theorem Sim.new (n : Nat) (h1 : 1 ≤ n) (h2 : n ≤ 600) : Sim (Dev.new n) (Ab.new n) := ⟨rfl, rfl, rfl, rfl, fun _ => ⟨rfl, fun h => nomatch h⟩, Dev.new_ok n h1 h2, by simp [Ab.new]⟩
end
/-- The last write to a sector is what is read. -/
theorem doneTo_last (p : List (Nat × List UInt8)) (s : List (List UInt8)) (i k n : Nat) (x : Nat × List UInt8) (hi : i < s.length) (hk : p[k]? = some x) (hx : x.1 = i) (hkn : k < n) (hn : n ≤ p.length) (hlast : ∀ j y, k < j → j < n → p[j]? = some y → y.1 ≠ i) : (doneTo (fun _ => true) p s n)[i]? = some x.2 := by
  induction n with
  | zero => omega
  | succ n ih =>
    obtain ⟨y, hy⟩ : ∃ y, p[n]? = some y := ⟨_, List.getElem?_eq_getElem (by omega)⟩
    rw [doneTo_step _ _ _ n y hy, if_pos rfl, List.getElem?_set]
    by_cases hkn2 : k = n
    · subst hkn2
      have e := hk.symm.trans hy
      injection e with e
      subst e
      rw [if_pos hx, if_pos (by rw [doneTo_length]; omega)]
    · have hne := hlast n y (by omega) (by omega) hy
      rw [if_neg hne]
      exact ih (by omega) (by omega) fun j z h1 h2 h3 => hlast j z h1 (by omega) h3
theorem doneTo_never (p : List (Nat × List UInt8)) (s : List (List UInt8)) (i n : Nat) (hn : n ≤ p.length) (hno : ∀ j y, j < n → p[j]? = some y → y.1 ≠ i) : (doneTo (fun _ => true) p s n)[i]? = s[i]? := by
  induction n with
  | zero => rfl
  | succ n ih =>
    obtain ⟨y, hy⟩ : ∃ y, p[n]? = some y := ⟨_, List.getElem?_eq_getElem (by omega)⟩
    rw [doneTo_step _ _ _ n y hy, if_pos rfl, List.getElem?_set, if_neg (hno n y (by omega) hy)]
    exact ih (by omega) fun j z h1 h2 => hno j z (by omega) h2
end Go.Proofs.Ytenmgpijhaalbaa
