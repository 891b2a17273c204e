/-
  The library's slices.Chunk over bytes, by blocks of 64: each round is handed one block. Conditions: as each theorem names them.
-/
import Derived.Test.YtdojaighchgghaaDoorShaD
import Derived.Test.YtdojaighchgghaaDoorRound
namespace Go.Proofs.YtdojaighchgghaaDoor
open Go.RowKit Go.Shelf
attribute [local go_sem] Oper.semAt_some
set_option linter.unusedVariables false
set_option maxRecDepth 20000

/-- What Chunk's function has captured: the bytes, and how many each time. -/
structure Cut (w : World) (b1 b2 b off cap N : Nat) : Prop where
  list : Boxed w b1 27 (.slice (some ⟨b, off, none⟩) (64 * N) cap)
  size : Boxed w b2 3 (.int .i64 64)
def CutAt (b1 b2 : Nat) (k : Nat) : Prop := k = b1 ∨ k = b2
theorem Cut.kept {w w' : World} {b1 b2 b off cap N : Nat} (h : Cut w b1 b2 b off cap N) (hk : KeepsAt (CutAt b1 b2) w w') : Cut w' b1 b2 b off cap N :=
  ⟨(hk b1 (.inl rfl)).trans h.list, (hk b2 (.inr rfl)).trans h.size⟩
theorem Cut.lt {w : World} {b1 b2 b off cap N : Nat} (h : Cut w b1 b2 b off cap N) : ∀ k, CutAt b1 b2 k → k < w.heap.size := by
  rintro k (rfl | rfl)
  · exact h.list.lt
  · exact h.size.lt
theorem Cut.below {w w' : World} {b1 b2 b off cap N : Nat} (h : Cut w b1 b2 b off cap N) (hb : Below w.heap.size w w') : Cut w' b1 b2 b off cap N :=
  h.kept (KeepsAt.of_below hb h.lt)

theorem take_fin (N k : Nat) (h : k < N) : (List.finRange N).take (k + 1) = (List.finRange N).take k ++ [⟨k, h⟩] := by
  rw [List.take_succ_eq_append_getElem (by simpa using h)]
  simp

set_option maxHeartbeats 2000000 in
theorem chunk1_stops (n : Nat) (hn : 1 ≤ n) (b1 b2 b off cap N : Nat) (hcap : 64 * N ≤ cap) (hmax : cap ≤ maxLen) (w : World) (env : Cut w b1 b2 b off cap N) :
    SeqStopsK Fence.wide n Tryd.prog 71 #[.pointer (some ⟨b1, 0, none⟩), .pointer (some ⟨b2, 0, none⟩)]
      (fun x : Fin N => #[.slice (some ⟨b, off + 64 * x.val, none⟩) 64 64]) (KeepsAt (CutAt b1 b2)) (fun ys => ys = List.finRange N) (fun _ => True) N w := by
  intro l J Jx W hW hJ hJx hY h0
  unfold maxLen at hmax
  have env0 : Cut W b1 b2 b off cap N := env.below hW
  have EV := Lib.hid env0
  have HJ := Lib.hid hJ
  have HY := Lib.hid hY
  obtain ⟨L, hL⟩ : ∃ L, L = 64 * N := ⟨_, rfl⟩
  rw [← hL] at hcap
  have HL := Lib.hid hL
  clear env env0 hW hJ hJx hY hL
  refine callsIn_of_wp Tryd.func71 rfl trivial ?_ rfl
  simp only [Tryd.ntmps71, List.size_toArray, List.length_cons, List.length_nil, Nat.reduceAdd, Nat.reduceSub, Array.replicate_succ, Array.replicate_zero, List.push_toArray, List.append_toArray, List.nil_append, List.cons_append]
  gi_wp2
  gi_loopw [4] (fun i wr => ∃ k p : Nat, k ≤ N ∧ Hid (p = 64 * k) ∧ i = .int .i64 p ∧ J ((List.finRange N).take k) wr ∧ Cut wr b1 b2 b off cap N) (fun i _ => L - (intOf i).toNat)
  case atStart => exact ⟨0, 0, Nat.zero_le _, rfl, rfl, h0, EV.out⟩
  case round =>
    clear h0 EV
    obtain ⟨k, p, hk, HP, rfl, hJs, hev⟩ := hrel
    have hd1 := hev.list.cell
    have hd2 := hev.size.cell
    rw [← HL.out] at hd1
    have EV := Lib.hid hev
    have HJs := Lib.hid hJs
    clear hev hJs
    by_cases hlt : k < N
    · obtain ⟨fn, tmps, assign, body, hy, hR⟩ := HY.out _ ⟨k, hlt⟩ wr.drew (HJ.out _ _ _ none HJs.out (grown_of_below (Below.refl _ _).drew) (fun r e => by cases e)) (by simp; omega)
      have hpl : p + 64 ≤ L := by have := HP.out; have := HL.out; omega
      have hne : ¬ cap = p := by omega
      have hlt2 : (p : Int) < (L : Int) := by omega
      dsimp only at hy
      have hoff : off + 64 * k = off + p := by have := HP.out; omega
      rw [hoff] at hy
      have hd3 : wr.drew.cell? ⟨b1, 0, none⟩ = some (.slice (some ⟨b, off, none⟩) L cap) := hd1
      have hd4 : wr.drew.cell? ⟨b2, 0, none⟩ = some (.int .i64 64) := hd2
      have hle1 : (p : Int) ≤ (L : Int) := by omega
      have hmin : (64 : Int) ≤ ((L - p : Nat) : Int) := by omega
      have hpl2 := hpl
      gi_wp2
      gi_region
      all_goals (
        have hmn : ¬ (((L - p : Nat) : Int) < 64) := by omega
        try simp only [if_neg hmn]
        gi_wp2
        refine hR.mono ?_
        rintro e W3 (⟨rfl, hJ3, hk3⟩ | ⟨rfl, hJx3⟩)
        · have EV3 := (EV.out.below (Below.refl _ _).drew).kept hk3
          have hd5 := EV3.size.cell
          gi_wp2
          go_roundw
          case rel => exact ⟨k + 1, p + 64, by omega, by have := HP.out; show p + 64 = _; omega, by go_num, by rw [take_fin N k hlt]; exact hJ3, EV3⟩
          case measure => simp [intOf]; omega
        · gi_wp2
          refine bodyPost_ret (results_none rfl _ _ _) rfl ?_
          exact ⟨⟨_, rfl⟩, .inr ⟨_, trivial, hJx3⟩⟩)
    · have hpl : p = L := by
        have h1 := HP.out
        have h2 := HL.out
        have h3 : k = N := by omega
        subst h3; omega
      have hge : ¬ (p : Int) < (L : Int) := by omega
      have hkN : (List.finRange N).take k = List.finRange N := List.take_of_length_le (by simp; omega)
      have HJ5 : Hid (J (List.finRange N) wr) := by rw [← hkN]; exact HJs
      gi_wp2
      go_end0
      exact ⟨⟨_, rfl⟩, .inl HJ5.out⟩

set_option maxHeartbeats 400000 in
theorem chunk_any (w : World) (b off cap N : Nat) :
    Calls Tryd.prog 64 #[.slice (some ⟨b, off, none⟩) (64 * N) cap, .int .i64 64] w fun e w' => ∃ b1 b2 : Nat,
      e = .returned (.func (.func 71) #[] #[.pointer (some ⟨b1, 0, none⟩), .pointer (some ⟨b2, 0, none⟩)]) ∧ Cut w' b1 b2 b off cap N ∧ (w.heap.size ≤ b1 ∧ w.heap.size ≤ b2) ∧ Below w.heap.size w w' := by
  go_enter Tryd.func64, Tryd.ntmps64
  go_wp2
  go_ret
  have bb : Below w.heap.size w (w.alloc (.cells #[.slice (some ⟨b, off, none⟩) (64 * N) cap] 27)) := (Below.refl _ _).alloc (Nat.le_refl _) _
  have h2 := Boxed.new (w.alloc (.cells #[.slice (some ⟨b, off, none⟩) (64 * N) cap] 27)) 3 (.int .i64 64)
  rw [World.size_alloc] at h2
  exact ⟨w.heap.size, w.heap.size + 1, rfl, ⟨(Boxed.new w 27 (.slice (some ⟨b, off, none⟩) (64 * N) cap)).alloc _, h2⟩, ⟨Nat.le_refl _, Nat.le_succ _⟩, bb.alloc bb.size _⟩
end Go.Proofs.YtdojaighchgghaaDoor
