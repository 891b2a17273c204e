/-
  Devices as plain data: sectors, pending writes, a fuse; what each call does to them. Conditions: as each theorem names them.
-/
import Derived.WalkKit
namespace Go.Proofs.Ytenmgpijhaalbaa
set_option linter.unusedVariables false

def pad (b : List UInt8) : List UInt8 := b ++ List.replicate (256 - b.length) 0
theorem pad_length {b : List UInt8} (h : b.length ≤ 256) : (pad b).length = 256 := by
  unfold pad
  rw [List.length_append, List.length_replicate]
  omega

/-- The first k of the writes p, those that f picks, done to the sectors s. -/
def doneTo (f : Nat → Bool) (p : List (Nat × List UInt8)) (s : List (List UInt8)) : Nat → List (List UInt8)
  | 0 => s
  | k + 1 => match p[k]? with
    | some x => if f k then (doneTo f p s k).set x.1 x.2 else doneTo f p s k
    | none => doneTo f p s k
section
variable (f : Nat → Bool) (p : List (Nat × List UInt8)) (s : List (List UInt8))
theorem doneTo_length (k : Nat) : (doneTo f p s k).length = s.length := by
  induction k with
  | zero => rfl
  | succ k ih =>
    simp only [doneTo]
    split
    · split
      · rw [List.length_set, ih]
      · exact ih
    · exact ih
theorem doneTo_all (n : Nat) (hs : ∀ l ∈ s, l.length = n) (hp : ∀ x ∈ p, x.2.length = n) (k : Nat) : ∀ l ∈ doneTo f p s k, l.length = n := by
  induction k with
  | zero => exact hs
  | succ k ih =>
    simp only [doneTo]
    split
    · rename_i x hx
      split
      · intro l hl
        rcases List.mem_or_eq_of_mem_set hl with hl | rfl
        · exact ih l hl
        · exact hp x (List.mem_of_getElem? hx)
      · exact ih
    · exact ih
theorem doneTo_app (q : List (Nat × List UInt8)) (k : Nat) (hk : k ≤ p.length) : doneTo f (p ++ q) s k = doneTo f p s k := by
  induction k with
  | zero => rfl
  | succ k ih =>
    simp only [doneTo]
    rw [List.getElem?_append_left (by omega), ih (by omega)]
theorem doneTo_snoc (x : Nat × List UInt8) (hf : f p.length = true) : doneTo f (p ++ [x]) s (p ++ [x]).length = (doneTo f p s p.length).set x.1 x.2 := by
  rw [List.length_append]
  simp only [List.length_singleton, doneTo]
  rw [List.getElem?_append_right (Nat.le_refl _), Nat.sub_self, doneTo_app f p s [x] p.length (Nat.le_refl _)]
  simp [hf]
theorem doneTo_step (k : Nat) (x : Nat × List UInt8) (hx : p[k]? = some x) : doneTo f p s (k + 1) = if f k then (doneTo f p s k).set x.1 x.2 else doneTo f p s k := by
  simp only [doneTo, hx]
/-- Each sector is what it was, or what one of the writes made it. -/
theorem doneTo_each (k i : Nat) : (doneTo f p s k)[i]? = s[i]? ∨ ∃ x ∈ p, x.1 = i ∧ (doneTo f p s k)[i]? = some x.2 := by
  induction k with
  | zero => exact .inl rfl
  | succ k ih =>
    simp only [doneTo]
    split
    · rename_i x hx
      split
      · rw [List.getElem?_set]
        by_cases h : x.1 = i
        · rw [if_pos h]
          by_cases hl : x.1 < (doneTo f p s k).length
          · rw [if_pos (by omega)]
            exact .inr ⟨x, List.mem_of_getElem? hx, h, rfl⟩
          · rw [if_neg (by omega)]
            left
            rw [doneTo_length] at hl
            rw [List.getElem?_eq_none (by omega)]
        · rw [if_neg h]
          exact ih
      · exact ih
    · exact ih
theorem doneTo_nil (k : Nat) : doneTo f [] s k = s := by
  induction k with
  | zero => rfl
  | succ k ih => simp [doneTo, ih]
end

structure Dev where
  now : List (List UInt8)
  sure : List (List UInt8)
  pend : List (Nat × List UInt8)
  there : Bool
  left : Int
  burnt : Bool

structure Dev.Ok (d : Dev) : Prop where
  same : d.sure.length = d.now.length
  least : 1 ≤ d.now.length
  most : d.now.length ≤ 600
  now : ∀ l ∈ d.now, l.length = 256
  sure : ∀ l ∈ d.sure, l.length = 256
  pend : ∀ x ∈ d.pend, x.1 < d.now.length ∧ x.2.length = 256
  left : -9223372036854775808 ≤ d.left ∧ d.left ≤ 9223372036854775807
  fuse : d.there = true → 0 ≤ d.left

def zeroSec : List UInt8 := List.replicate 256 0
theorem zeroSec_length : zeroSec.length = 256 := List.length_replicate
def Dev.new (n : Nat) : Dev := ⟨List.replicate n zeroSec, List.replicate n zeroSec, [], false, 0, false⟩
def Dev.goes (d : Dev) : Bool := !(d.burnt || (d.there && decide (d.left = 0)))
def Dev.spend (d : Dev) : Dev := { d with burnt := !d.goes, left := if d.goes && d.there then d.left - 1 else d.left }
def Dev.has (d : Dev) (i : Int) : Bool := decide (0 ≤ i) && decide (i < (d.now.length : Int))
def Dev.put (d : Dev) (i : Nat) (x : List UInt8) : Dev := { d with now := d.now.set i x, pend := d.pend ++ [(i, x)] }
def Dev.writeE (d : Dev) (i : Int) (b : List UInt8) : Int := if d.has i = false then 60 else if 256 < b.length then 2 else if d.goes then 0 else 61
def Dev.write (d : Dev) (i : Int) (b : List UInt8) : Dev := if d.has i = false then d else if 256 < b.length then d else if d.goes then d.spend.put i.toNat (pad b) else d.spend
def Dev.syncE (d : Dev) : Int := if d.goes then 0 else 61
def Dev.sync (d : Dev) : Dev := if d.goes then { d.spend with sure := d.now, pend := [] } else d.spend
def Dev.kept (d : Dev) (keep : List Bool) : List (List UInt8) := doneTo (fun k => keep.getD k false) d.pend d.sure d.pend.length
def Dev.crash (d : Dev) (keep : List Bool) : Dev := ⟨d.kept keep, d.kept keep, [], false, 0, false⟩
def Dev.set (d : Dev) (n : Int) : Dev := { d with there := decide (0 ≤ n), left := n }

section
variable {d : Dev}
theorem Dev.new_ok (n : Nat) (h1 : 1 ≤ n) (h : n ≤ 600) : (Dev.new n).Ok where
  same := rfl
  least := by simp [Dev.new]; exact h1
  most := by simp [Dev.new]; exact h
  now l hl := by rw [(List.mem_replicate.1 hl).2]; exact zeroSec_length
  sure l hl := by rw [(List.mem_replicate.1 hl).2]; exact zeroSec_length
  pend x hx := by cases hx
  left := by simp [Dev.new]
  fuse h := by cases h
theorem Dev.Ok.spend (h : d.Ok) : d.spend.Ok where
  same := h.same
  least := h.least
  most := h.most
  now := h.now
  sure := h.sure
  pend := h.pend
  left := by
    have := h.left
    show _ ≤ (if d.goes && d.there then d.left - 1 else d.left) ∧ (if d.goes && d.there then d.left - 1 else d.left) ≤ _
    split
    · rename_i hc
      simp only [Bool.and_eq_true] at hc
      have := h.fuse hc.2
      omega
    · exact this
  fuse ht := by
    show 0 ≤ (if d.goes && d.there then d.left - 1 else d.left)
    have h1 := h.fuse ht
    have ht' : d.there = true := ht
    split
    · rename_i hc
      simp only [Bool.and_eq_true] at hc
      have hg := hc.1
      simp [Dev.goes, ht'] at hg
      omega
    · exact h1
theorem Dev.Ok.put (h : d.Ok) {i : Nat} (hi : i < d.now.length) {x : List UInt8} (hx : x.length = 256) : (d.put i x).Ok where
  same := by show d.sure.length = (d.now.set i x).length; rw [List.length_set]; exact h.same
  least := by show 1 ≤ (d.now.set i x).length; rw [List.length_set]; exact h.least
  most := by show (d.now.set i x).length ≤ 600; rw [List.length_set]; exact h.most
  now l hl := by
    rcases List.mem_or_eq_of_mem_set hl with hl | rfl
    · exact h.now l hl
    · exact hx
  sure := h.sure
  pend y hy := by
    show y.1 < (d.now.set i x).length ∧ _
    rw [List.length_set]
    rcases List.mem_append.1 hy with hy | hy
    · exact h.pend y hy
    · rw [List.mem_singleton.1 hy]
      exact ⟨hi, hx⟩
  left := h.left
  fuse := h.fuse
theorem Dev.has_lt {i : Int} (h : d.has i = true) : 0 ≤ i ∧ i.toNat < d.now.length := by
  simp [Dev.has] at h
  omega
theorem Dev.Ok.write (h : d.Ok) (i : Int) (b : List UInt8) : (d.write i b).Ok := by
  unfold Dev.write
  split
  · exact h
  · rename_i hi
    split
    · exact h
    · rename_i hb
      split
      · exact h.spend.put (Dev.has_lt (d := d) (by simpa using hi)).2 (pad_length (by omega))
      · exact h.spend
theorem Dev.Ok.sync (h : d.Ok) : d.sync.Ok := by
  unfold Dev.sync
  split
  · exact ⟨rfl, h.least, h.most, h.now, h.now, (fun x hx => nomatch hx), h.spend.left, h.spend.fuse⟩
  · exact h.spend
theorem Dev.kept_length (keep : List Bool) : (d.kept keep).length = d.sure.length := doneTo_length _ _ _ _
theorem Dev.Ok.kept (h : d.Ok) (keep : List Bool) : ∀ l ∈ d.kept keep, l.length = 256 := doneTo_all _ _ _ 256 h.sure (fun x hx => (h.pend x hx).2) _
theorem Dev.Ok.crash (h : d.Ok) (keep : List Bool) : (d.crash keep).Ok where
  same := rfl
  least := by show 1 ≤ (d.kept keep).length; rw [Dev.kept_length, h.same]; exact h.least
  most := by show (d.kept keep).length ≤ 600; rw [Dev.kept_length, h.same]; exact h.most
  now := h.kept keep
  sure := h.kept keep
  pend x hx := by cases hx
  left := by simp [Dev.crash]
  fuse h := by cases h
theorem Dev.Ok.set (h : d.Ok) {n : Int} (hn : -9223372036854775808 ≤ n ∧ n ≤ 9223372036854775807) : (d.set n).Ok where
  same := h.same
  least := h.least
  most := h.most
  now := h.now
  sure := h.sure
  pend := h.pend
  left := hn
  fuse ht := by simpa [Dev.set] using ht
theorem Dev.write_now (i : Int) (b : List UInt8) : (d.write i b).now.length = d.now.length := by
  unfold Dev.write
  split
  · rfl
  · split
    · rfl
    · split
      · show (d.now.set _ _).length = _
        rw [List.length_set]
      · rfl
theorem Dev.write_pend (i : Int) (b : List UInt8) : (d.write i b).pend.length ≤ d.pend.length + 1 := by
  unfold Dev.write
  split
  · omega
  · split
    · omega
    · split
      · show (d.pend ++ _).length ≤ _
        simp
      · show d.pend.length ≤ _
        omega
theorem Dev.sync_now : d.sync.now.length = d.now.length := by unfold Dev.sync; split <;> rfl
theorem Dev.sync_pend : d.sync.pend.length ≤ d.pend.length := by
  unfold Dev.sync
  split
  · exact Nat.zero_le _
  · exact Nat.le_refl _
theorem Dev.Ok.crash_now (h : d.Ok) (keep : List Bool) : (d.crash keep).now.length = d.now.length := by
  show (d.kept keep).length = _
  rw [Dev.kept_length, h.same]
end
end Go.Proofs.Ytenmgpijhaalbaa
