/-
  Contract of cablegramlaw02.first, and what awake wants. Conditions: as each theorem names them.
-/
import Derived.Test.YtdojaighchgghaaDoorShaG
import Derived.Test.YtdojaighchgghaaDoorD
import Derived.Stop.BytesEq
namespace Go.Proofs.YtdojaighchgghaaDoor
open Go.RowKit
set_option linter.unusedVariables false
set_option maxRecDepth 20000

theorem Bs.upto {w : World} {A : Option Addr} {n c : Nat} {l : List UInt8} (h : Bs w (.slice A n c) l) (k : Nat) (hk : k ≤ l.length) : Bs w (.slice A k c) (l.take k) := by
  obtain ⟨A', c', hv, h1, h2, h3⟩ := h
  injection hv with e1 e2 e3
  subst e1 e2 e3
  have hl : (l.take k).length = k := List.length_take_of_le hk
  refine ⟨A, c, by rw [hl], by rw [hl]; omega, h2, fun h0 => ?_⟩
  rw [hl] at h0
  obtain ⟨b, off, hA, hc⟩ := h3 (by omega)
  refine ⟨b, off, hA, fun j hj => ?_⟩
  rw [hl] at hj
  rw [hc j (by omega)]
  simp

set_option maxHeartbeats 400000 in
theorem first_any (w : World) (v : Value) (l : List UInt8) (hb : Bs w v l) (h4 : 4 ≤ l.length) :
    Calls Tryd.prog 38 #[v] w fun e w' => e = .returned (.int .u64 (ofHighB (l.take 4) : Int)) ∧ w' = w := by
  have HB := Lib.hid hb
  obtain ⟨A, c, rfl, h1, h2, h3⟩ := hb
  unfold maxLen at h2
  clear h3
  have ht : Hid ((l.take 4).take 8 = l.take 4) := List.take_of_length_le (by rw [List.length_take]; omega)
  go_enter Tryd.func38, Tryd.ntmps38
  go_wp2_with fail
  refine (refOfHigh_any _ _ (l.take 4) (HB.out.upto 4 h4)).mono ?_
  rintro e w' ⟨rfl, rfl⟩
  rw [ht.out]
  go_wp2
  go_ret
  exact ⟨rfl, rfl⟩

theorem abc_a : (ofHighB ((digestB []).take 4) : Int) = 3820012610 := by rw [digest_empty]; rfl
theorem abc_b : (ofHighB (((digestB []).drop 28).take 4) : Int) = 2018687061 := by rw [digest_empty]; rfl
theorem abc_c : (ofHighB ((digestB [97, 98, 99]).take 4) : Int) = 3128432319 := by rw [digest_abc]; rfl
theorem abc_d : (ofHighB (((digestB [97, 98, 99]).drop 28).take 4) : Int) = 4060091821 := by rw [digest_abc]; rfl
theorem Tryd.sizeOfB2 (w : World) : (sizeOf 5).run Tryd.prog w = .ok 1 w := by kernel_rfl
theorem Tryd.eqKeyIn2 (a b : List UInt8) (ha : a.length = 32) (hb : b.length = 32) (w : World) :
    (Op.equalIn 10000 33 (.agg (keyC a)) (.agg (keyC b))).run Tryd.prog w = .ok (a == b) w :=
  run_equalIn_bytes w 9998 33 5 32 Tryd.underlying33 Tryd.underlying5 Tryd.sizeOfB2 a b ha hb
theorem Tryd.eqGuardKey2 : Tryd.prog.eqGuardType Tryd.prog.depth 33 = false := by kernel_rfl
theorem Bss.nil (w : World) : Bss w (.slice none 0 0) [] := ⟨none, 0, rfl, Nat.le_refl _, by simp [maxLen], fun h => absurd h (by simp)⟩
theorem Bss.one (w : World) (e : TypeId) (u : Value) (a : List UInt8) (ha : Bs w u a) : Bss (w.alloc (.cells #[u] e)) (.slice (some ⟨w.heap.size, 0, none⟩) 1 1) [a] :=
  Bss.lit w e [u] [a] rfl (by simp [maxLen]) (fun j h1 h2 => by
    match j, h1 with
    | 0, _ => exact ha)

theorem Sum_is (w : World) (ht : Tabs w) (g n : Nat) (s v : Value) (ls : List (List UInt8)) (d : List UInt8) (hd : d = digestB ls.flatten) (hn : n ≤ 1000000000) (hr : RowAt w g 83 (meterC false n s)) (hb : Bss w v ls) (hl : ls.flatten.length ≤ 1000000) (hm : ls.length ≤ 1000000) :
    Calls Tryd.prog 21 #[.pointer (some ⟨g, 0, none⟩), v] w fun e w' => e = .returned (.agg (keyC d)) ∧ RowAt w' g 83 (meterC false (n + 1) s) ∧ w.grownBy w' (some g) := by
  rw [hd]
  exact Sum_count w ht g n s v ls hn hr hb hl hm
/-- Behind a Sum: the tables, and what was there but for the Meter. -/
theorem sum_tabs {w w' : World} {g n : Nat} {t : TypeId} {s : Value} (ht : Tabs w) (hr : RowAt w g t (meterC false n s)) (hg : w.grownBy w' (some g)) : Tabs w' :=
  ht.grown hg (by intro e; injection e with e; exact (ht.apart hr).1 e.symm) (by intro e; injection e with e; exact (ht.apart hr).2 e.symm)
end Go.Proofs.YtdojaighchgghaaDoor
