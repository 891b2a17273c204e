/-
  The ladder's pair: Public, the first time and again; Secret, Shared, NewPair. Conditions: the pair is one of the call's own rows; keys have thirty-two bytes.
-/
import Derived.Test.YtpgjcmccfpjmoaaLadderG
namespace Go.Proofs.Ytpgjcmccfpjmoaa
open Go.RowKit
set_option linter.unusedVariables false
set_option maxRecDepth 20000

theorem getElem?_set_far {α : Type} {l : List α} {i j : Nat} {x y : α} (h : l[j]? = some y) (hne : i ≠ j) : (l.set i x)[j]? = some y := by
  rw [List.getElem?_set, if_neg hne, h]
theorem Env.rest {w0 w : World} {r : Nat × TypeId × Array Value} {rs : List (Nat × TypeId × Array Value)} (h : Env w0 (r :: rs) w) : Env w0 rs w := h.less (List.sublist_cons_self _ _)

set_option maxHeartbeats 2000000 in
theorem pairPublic_first (w0 W : World) (rs : List (Nat × TypeId × Array Value)) (i b : Nat) (s q : List UInt8) (ls : s.length = 32) (lq : q.length = 32) (hE : Env w0 rs W) (hi : rs[i]? = some (b, 71, pairC s 0 0 q)) :
    Calls Try.prog 18 #[.pointer (some ⟨b, 0, none⟩)] W fun e x => e = .returned (.agg (keyC (rawK s nineK))) ∧ Env w0 (rs.set i (b, 71, pairC s 1 0 (rawK s nineK))) x := by
  obtain ⟨k, hk⟩ : ∃ k, k = rawK s nineK := ⟨_, rfl⟩
  have Lk : Hid (k.length = 32) := by show _ = _; rw [hk]; exact rawK_length _ _
  have Ls := Lib.hid ls
  have HI := Lib.hid hi
  have hil : i < rs.length := (List.getElem?_eq_some_iff.1 hi).1
  have E1 := Lib.hid (hE.new (NewRow.mk_ W 31 #[.pointer (some ⟨b, 0, none⟩)]))
  have HF := Lib.hid (fun W rs i j p hE hi hj => public1_env w0 W rs i j b p s q ls lq hE hi hj)
  rw [← hk] at HF ⊢
  have hmf : ∀ (fn : Fn) (first cap : Array Value) (w : World), (Instr.makeFunc fn first cap).run Try.prog w = .ok (.func fn first cap) w := fun _ _ _ _ => rfl
  clear hk ls lq hE hi
  go_enter Try.func18, Try.ntmps18
  go_wp2_with ((with_reducible refine wpE_alloc (o := ⟨some 2, _, _, _, _, _⟩) rfl 23 rfl (keyC zeroKey) Try.zeroK E1.out ?_); intro g2 w2 T2; have hc := T2.cellAt 1 rfl 0 _ rfl; have E2 := Lib.hid T2; clear T2)
  obtain ⟨p, hpp⟩ : ∃ p, p = W.heap.size := ⟨_, rfl⟩
  rw [← hpp] at E2 hc ⊢
  clear hpp E1
  -- the lock is taken, the key is laid, the lock is given back
  have hI2 : ((g2, 23, keyC zeroKey) :: (p, 31, #[.pointer (some ⟨b, 0, none⟩)]) :: rs)[i + 2]? = some (b, 71, pairC s 0 0 q) := HI.out
  have hL := E2.out.cellTo (i + 2) hI2 33 (.int .i32 1) (pairC_set33 s q 0 0 Ls.out 1)
  have hIL : (((g2, 23, keyC zeroKey) :: (p, 31, #[.pointer (some ⟨b, 0, none⟩)]) :: rs).set (i + 2) (b, 71, pairC s 0 1 q))[i + 2]? = some (b, 71, pairC s 0 1 q) := by simp [hil]
  have hJL : (((g2, 23, keyC zeroKey) :: (p, 31, #[.pointer (some ⟨b, 0, none⟩)]) :: rs).set (i + 2) (b, 71, pairC s 0 1 q))[1]? = some (p, 31, #[.pointer (some ⟨b, 0, none⟩)]) := rfl
  have hone := once_first b 32 35 #[.pointer (some ⟨p, 0, none⟩)] (enters_of Try.func35 (by kernel_rfl) rfl) w2
    (E2.out.cellAt (i + 2) hI2 32 _ (pairC_32 s q 0 0 Ls.out)) (E2.out.cellAt (i + 2) hI2 33 _ (pairC_33 s q 0 0 Ls.out)) (E2.out.fzAt (i + 2) hI2 32) (E2.out.fzAt (i + 2) hI2 33)
    (fun x => Env w0 ((g2, 23, keyC zeroKey) :: (p, 31, #[.pointer (some ⟨b, 0, none⟩)]) :: rs.set i (b, 71, pairC s 0 1 k)) x)
    ((HF.out _ _ (i + 2) 1 p hL hIL hJL).mono fun e x h => ⟨h.1, by have := h.2; rw [List.set_set] at this; exact this⟩)
    (fun x hx => by
      have hIx : ((g2, 23, keyC zeroKey) :: (p, 31, #[.pointer (some ⟨b, 0, none⟩)]) :: rs.set i (b, 71, pairC s 0 1 k))[i + 2]? = some (b, 71, pairC s 0 1 k) := by simp [hil]
      exact ⟨hx.cellAt (i + 2) hIx 32 _ (pairC_32 s k 0 1 Ls.out), hx.fzAt (i + 2) hIx 32, hx.cellAt (i + 2) hIx 33 _ (pairC_33 s k 0 1 Ls.out), hx.fzAt (i + 2) hIx 33⟩)
  clear hI2 hL hIL hJL HF E2
  refine hone.mono ?_
  clear hone
  intro e x' h
  obtain ⟨he, x, hx, hx'⟩ := h
  subst he
  have hIx : ((g2, 23, keyC zeroKey) :: (p, 31, #[.pointer (some ⟨b, 0, none⟩)]) :: rs.set i (b, 71, pairC s 0 1 k))[i + 2]? = some (b, 71, pairC s 0 1 k) := by simp [hil]
  have h1 := hx.drew.cellTo (i + 2) hIx 32 (.int .u32 1) (pairC_set32 s k 0 1 Ls.out 1)
  simp only [List.set_cons_succ, List.set_set] at h1
  have hIy : ((g2, 23, keyC zeroKey) :: (p, 31, #[.pointer (some ⟨b, 0, none⟩)]) :: rs.set i (b, 71, pairC s 1 1 k))[i + 2]? = some (b, 71, pairC s 1 1 k) := by simp [hil]
  have h2 := h1.cellTo (i + 2) hIy 33 (.int .i32 0) (pairC_set33 s k 1 1 Ls.out 0)
  simp only [List.set_cons_succ, List.set_set] at h2
  rw [← hx'] at h2
  have E3 := Lib.hid h2
  have hcp := h2.cellAt 1 rfl 0 _ rfl
  have hIz : Hid (((g2, 23, keyC zeroKey) :: (p, 31, #[.pointer (some ⟨b, 0, none⟩)]) :: rs.set i (b, 71, pairC s 1 0 k))[i + 2]? = some (b, 71, pairC s 1 0 k)) := by show _ = _; simp [hil]
  clear hx hx' hIx h1 hIy h2 hil HI hc
  go_wp2_with (first
    | (with_reducible refine wpE_loadP (o := ⟨some 14, _, _, _, _, _⟩) rfl 23 (.tmp 13) rfl (i + 2) b 35 71 (pairC s 1 0 k) (cellsB k) (.array 32 5) hIz.out (by with_unfolding_all rfl) (pairC_public s k 1 0 Ls.out) Try.underlying23 rfl (Try.sizeKeyL k Lk.out) E3.out ?_)
    | ((with_reducible refine wpE_store (o := ⟨none, _, _, _, _, _⟩) rfl 23 (.tmp 2) (.tmp 14) rfl 0 g2 23 (keyC zeroKey) (keyC k) (by with_unfolding_all rfl) (by with_unfolding_all rfl) (by with_unfolding_all rfl) (keyC_same zeroKey_length Lk.out) (Try.sizeKey _ Lk.out) (keyC_one _) E3.out ?_); intro w5 T5; simp only [List.set_cons_zero] at T5; have E5 := Lib.hid T5; clear T5))
  exact bodyPost_ret (results_cell_row rfl _ _ g2 23 (keyC k) (0, 0) (.array 32 5) rfl (E5.out.row 0 rfl) Try.underlying23 rfl (Try.sizeKey _ Lk.out)) rfl ⟨rfl, E5.out.rest.rest⟩
set_option maxHeartbeats 2000000 in
theorem pairPublic_again (w0 W : World) (rs : List (Nat × TypeId × Array Value)) (i b : Nat) (s k : List UInt8) (ls : s.length = 32) (lk : k.length = 32) (hE : Env w0 rs W) (hi : rs[i]? = some (b, 71, pairC s 1 0 k)) :
    Calls Try.prog 18 #[.pointer (some ⟨b, 0, none⟩)] W fun e x => e = .returned (.agg (keyC k)) ∧ Env w0 rs x := by
  have Lk := Lib.hid lk
  have Ls := Lib.hid ls
  have HI := Lib.hid hi
  have E1 := Lib.hid (hE.new (NewRow.mk_ W 31 #[.pointer (some ⟨b, 0, none⟩)]))
  have hmf : ∀ (fn : Fn) (first cap : Array Value) (w : World), (Instr.makeFunc fn first cap).run Try.prog w = .ok (.func fn first cap) w := fun _ _ _ _ => rfl
  clear ls lk hE hi
  go_enter Try.func18, Try.ntmps18
  go_wp2_with ((with_reducible refine wpE_alloc (o := ⟨some 2, _, _, _, _, _⟩) rfl 23 rfl (keyC zeroKey) Try.zeroK E1.out ?_); intro g2 w2 T2; have hc := T2.cellAt 1 rfl 0 _ rfl; have E2 := Lib.hid T2; clear T2)
  obtain ⟨p, hpp⟩ : ∃ p, p = W.heap.size := ⟨_, rfl⟩
  rw [← hpp] at E2 hc ⊢
  clear hpp E1
  have hI2 : ((g2, 23, keyC zeroKey) :: (p, 31, #[.pointer (some ⟨b, 0, none⟩)]) :: rs)[i + 2]? = some (b, 71, pairC s 1 0 k) := HI.out
  refine (once_done ⟨b, 32, none⟩ _ w2 (E2.out.cellAt (i + 2) hI2 32 _ (pairC_32 s k 1 0 Ls.out))).mono ?_
  rintro e w3 ⟨rfl, rfl⟩
  have HI2 := Lib.hid hI2
  clear hI2
  go_wp2_with (first
    | (with_reducible refine wpE_loadP (o := ⟨some 14, _, _, _, _, _⟩) rfl 23 (.tmp 13) rfl (i + 2) b 35 71 (pairC s 1 0 k) (cellsB k) (.array 32 5) HI2.out (by with_unfolding_all rfl) (pairC_public s k 1 0 Ls.out) Try.underlying23 rfl (Try.sizeKeyL k Lk.out) E2.out ?_)
    | ((with_reducible refine wpE_store (o := ⟨none, _, _, _, _, _⟩) rfl 23 (.tmp 2) (.tmp 14) rfl 0 g2 23 (keyC zeroKey) (keyC k) (by with_unfolding_all rfl) (by with_unfolding_all rfl) (by with_unfolding_all rfl) (keyC_same zeroKey_length Lk.out) (Try.sizeKey _ Lk.out) (keyC_one _) E2.out ?_); intro w5 T5; simp only [List.set_cons_zero] at T5; have E5 := Lib.hid T5; clear T5))
  exact bodyPost_ret (results_cell_row rfl _ _ g2 23 (keyC k) (0, 0) (.array 32 5) rfl (E5.out.row 0 rfl) Try.underlying23 rfl (Try.sizeKey _ Lk.out)) rfl ⟨rfl, E5.out.rest.rest⟩
set_option maxHeartbeats 2000000 in
theorem pairSecret_env (w0 W : World) (rs : List (Nat × TypeId × Array Value)) (i b : Nat) (s k : List UInt8) (d m : Int) (ls : s.length = 32) (hE : Env w0 rs W) (hi : rs[i]? = some (b, 71, pairC s d m k)) :
    Calls Try.prog 19 #[.pointer (some ⟨b, 0, none⟩)] W fun e x => e = .returned (.agg (keyC s)) ∧ Env w0 rs x := by
  have Ls := Lib.hid ls
  have HI := Lib.hid hi
  have E1 := Lib.hid hE
  clear ls hE hi
  go_enter Try.func19, Try.ntmps19
  go_wp2_with (first
    | ((with_reducible refine wpE_alloc (o := ⟨some 2, _, _, _, _, _⟩) rfl 23 rfl (keyC zeroKey) Try.zeroK E1.out ?_); intro g2 w2 T2; have E2 := Lib.hid T2; clear T2)
    | (with_reducible refine wpE_loadP (o := ⟨some 9, _, _, _, _, _⟩) rfl 23 (.tmp 8) rfl (i + 1) b 0 71 (pairC s d m k) (cellsB s) (.array 32 5) HI.out (by with_unfolding_all rfl) (pairC_secret s k d m Ls.out) Try.underlying23 rfl (Try.sizeKeyL s Ls.out) E2.out ?_)
    | ((with_reducible refine wpE_store (o := ⟨none, _, _, _, _, _⟩) rfl 23 (.tmp 2) (.tmp 9) rfl 0 g2 23 (keyC zeroKey) (keyC s) (by with_unfolding_all rfl) (by with_unfolding_all rfl) (by with_unfolding_all rfl) (keyC_same zeroKey_length Ls.out) (Try.sizeKey _ Ls.out) (keyC_one _) E2.out ?_); intro w5 T5; simp only [List.set_cons_zero] at T5; have E5 := Lib.hid T5; clear T5))
  exact bodyPost_ret (results_cell_row rfl _ _ g2 23 (keyC s) (0, 0) (.array 32 5) rfl (E5.out.row 0 rfl) Try.underlying23 rfl (Try.sizeKey _ Ls.out)) rfl ⟨rfl, E5.out.rest⟩
end Go.Proofs.Ytpgjcmccfpjmoaa
