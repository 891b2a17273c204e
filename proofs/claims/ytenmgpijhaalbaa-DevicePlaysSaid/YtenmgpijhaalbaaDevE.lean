/-
  Contract of a device's Crash. Conditions: as it names them.
-/
import Derived.Test.YtenmgpijhaalbaaDevD
import Derived.LoopTactic
namespace Go.Proofs.Ytenmgpijhaalbaa
open Go.RowKit
set_option linter.unusedVariables false
set_option maxRecDepth 20000

/-- A slice of bools reads as l. -/
def Bls (w : World) (v : Value) (l : List Bool) : Prop :=
  ∃ A c, v = .slice A l.length c ∧ l.length ≤ c ∧ c ≤ maxLen ∧ (0 < l.length → ∃ b off, A = some ⟨b, off, none⟩ ∧ ∀ j (h : j < l.length), w.cell? ⟨b, off + j, none⟩ = some (.bool l[j]))
theorem Bls.nil (w : World) : Bls w (.slice none 0 0) [] := ⟨none, 0, rfl, Nat.le_refl _, by simp [maxLen], fun h => absurd h (by simp)⟩
theorem Bls.turned {w w' : World} {F : Nat → Prop} {v : Value} {l : List Bool} (h : Bls w v l) (ht : Turns F w w') (hF : ∀ k, v.ownBlock = some k → ¬ F k) : Bls w' v l := by
  obtain ⟨A, c, rfl, h1, h2, h3⟩ := h
  refine ⟨A, c, rfl, h1, h2, fun hl => ?_⟩
  obtain ⟨b, off, rfl, hc⟩ := h3 hl
  exact ⟨b, off, rfl, fun j hj => ht.cell (hc j hj) (hF b rfl)⟩
theorem Bls.below {w w' : World} {v : Value} {l : List Bool} (h : Bls w v l) (hb : Below w.heap.size w w') : Bls w' v l := h.turned (F := fun _ => False) (Turns.of_below _ hb) fun _ _ h => h

theorem Bls.at_ {w : World} {A : Option Addr} {n c : Nat} {l : List Bool} (h : Bls w (.slice A n c) l) (j : Nat) (hj : j < l.length) : ∃ b off, A = some ⟨b, off, none⟩ ∧ w.cell? ⟨b, off + j, none⟩ = some (.bool l[j]) := by
  obtain ⟨A', c', hv, _, _, h3⟩ := h
  injection hv with e1 _ _
  obtain ⟨b, off, hA, hc⟩ := h3 (by omega)
  exact ⟨b, off, e1.trans hA, hc j hj⟩
/-- The loop's state behind k of the pending writes. -/
def Dev.amid (d : Dev) (keep : List Bool) (k : Nat) : Dev := { d with sure := doneTo (fun k => keep.getD k false) d.pend d.sure k }
theorem Dev.Ok.amid {d : Dev} (h : d.Ok) (keep : List Bool) (k : Nat) : (d.amid keep k).Ok where
  same := by show (doneTo _ _ _ _).length = _; rw [doneTo_length]; exact h.same
  least := h.least
  most := h.most
  now := h.now
  sure := doneTo_all _ _ _ 256 h.sure (fun x hx => (h.pend x hx).2) _
  pend := h.pend
  left := h.left
  fuse := h.fuse
theorem Try.builtFuse : Try.prog.built 57 [] = some #[.bool false, .int .i64 0, .bool false] := by kernel_rfl

theorem three_one : ∀ u ∈ [Value.bool false, .int .i64 0, .bool false], u.oneCell' = true := by decide
set_option maxHeartbeats 4000000 in
theorem devCrash_any (w : World) (g gn cn gs cs : Nat) (vp : Value) (d : Dev) (h : DevIs w g gn cn gs cs vp d) (vk : Value) (keep : List Bool) (hk : Bls w vk keep) (hF : 0 < keep.length → ∀ k, vk.ownBlock = some k → ¬ Foot g gn gs vp k) (hp : d.pend.length ≤ 1000000) :
    Calls Try.prog 15 #[.pointer (some ⟨g, 0, none⟩), vk] w (DevRet w g gn cn gs cs vp (d.crash keep) (.tuple #[])) := by
  have HH := Lib.hid h
  have HK := Lib.hid hk
  have HF := Lib.hid hF
  have c2 := h.cell 2 _ rfl
  obtain ⟨A, c, hvp⟩ := h.vp_shape
  obtain ⟨kA, kc, rfl, k1, k2, _⟩ := hk
  have hkm : keep.length ≤ maxLen := Nat.le_trans k1 k2
  unfold maxLen at hkm
  rw [hvp] at c2
  clear h hF
  go_enter Try.func15, Try.ntmps15
  go_wp2
  clear c2
  go_loopw [13] (fun i wr => ∃ k : Nat, k ≤ d.pend.length ∧ i = .int .i64 (k : Int) ∧ Hid (DevIs wr g gn cn gs cs vp (d.amid keep k)) ∧ Hid (Turns (Foot g gn gs vp) w wr)) (fun i _ => d.pend.length - (intOf i).toNat)
  case atStart => exact ⟨0, by omega, rfl, HH.out, Turns.refl _ _⟩
  case round =>
    obtain ⟨k, hk, rfl, HD, HT⟩ := hrel
    by_cases hlt : k < d.pend.length
    · obtain ⟨x, hx⟩ : ∃ x, d.pend[k]? = some x := ⟨_, List.getElem?_eq_getElem hlt⟩
      obtain ⟨gp, rfl⟩ : ∃ gp, A = some ⟨gp, 0, none⟩ := by
        rcases HH.out.pend.2 with ⟨_, h0⟩ | ⟨gp, _, _, e, _⟩
        · omega
        · rw [hvp] at e
          injection e with e
          exact ⟨gp, e⟩
      have HX := HH.out.ok.pend x (List.mem_of_getElem? hx)
      obtain ⟨at_, b⟩ := x
      have ha : at_ < d.now.length := HX.1
      have LP : Hid (b.length = 256) := HX.2
      have ham := HH.out.ok.most
      have E1 : Hid (d.amid keep (k + 1) = if keep.getD k false then { d.amid keep k with sure := (d.amid keep k).sure.set at_ b } else d.amid keep k) := by
        show _ = _
        unfold Dev.amid
        rw [doneTo_step _ _ _ k _ hx]
        split <;> rfl
      have RG : Hid (wr.rangeAt gp (k * 257) (wr1 (at_, b))) := by
        have h1 := HD.out.pend
        rw [hvp] at h1
        have h2 := own_range h1 (k * 257) 257
        rw [show (d.amid keep k).pend = d.pend from rfl, wrC_part (fun y hy => (HH.out.ok.pend y hy).2) hx] at h2
        exact h2
      have hkl : (k : Int) < (d.pend.length : Int) := by omega
      clear HX hx
      by_cases hkk : k < keep.length
      · obtain ⟨kb, ko, rfl, hc⟩ := HK.out.at_ k hkk
        have HC : Hid (∀ W, Turns (Foot g gn gs vp) w W → W.cell? ⟨kb, ko + k, none⟩ = some (.bool keep[k])) := fun W ht => ht.cell hc (HF.out (by omega) kb rfl)
        have hg0 : keep.getD k false = keep[k] := by rw [List.getD_eq_getElem?_getD, List.getElem?_eq_getElem hkk]; rfl
        rw [hg0] at E1
        have hkk2 : (k : Int) < (keep.length : Int) := by omega
        clear hc hg0
        generalize keep[k] = y at HC E1
        rcases y with _ | _
        · have e1 := E1.out
          rw [if_neg (by decide)] at e1
          have E2 := Lib.hid e1
          clear e1 E1
          go_wp2_with (first
            | (with_reducible refine wpList_val (o := ⟨some 16, _, _, _, _, _⟩) rfl (.pointer (some ⟨gp, k * 257, none⟩)) (by exact run_idxAt0 257 55 69 (.tmp 11) (.tmp 13) rfl gp d.pend.length c k (by with_unfolding_all rfl) (by with_unfolding_all rfl) hlt Try.underlying55 Try.sizeWrite) ?_)
            | (with_reducible refine wpList_val (o := ⟨some 17, _, _, _, _, _⟩) rfl (.agg (wr1 (at_, b)).toArray) (by exact run_load_range 69 (.tmp 16) rfl (k * 257) (wr1 (at_, b)) _ (by with_unfolding_all rfl) (by with_unfolding_all exact RG.out) Try.underlying69 rfl (by rw [wr1_length (x := (at_, b)) LP.out]; exact Try.sizeWrite)) ?_)
            | ((with_reducible refine wpList_alloc_row (o := ⟨some 5, _, _, _, _, _⟩) rfl 69 rfl zeroWr Try.zeroWrite ?_); intro g5 w1 n1; have N1 := Lib.hid n1; clear n1)
            | ((with_reducible refine wpList_store_row (o := ⟨none, _, _, _, _, _⟩) rfl 69 (.tmp 5) (.tmp 17) rfl g5 69 zeroWr (wr1 (at_, b)).toArray (by with_unfolding_all rfl) (by with_unfolding_all rfl) N1.out.row (zeroWr_size (at_, b) LP.out) (Try.sizeWr (at_, b) LP.out) (wr1_one (at_, b)) ?_); intro w2 p2; have L2 := Lib.hid (laid_put N1.out p2).1; have R2 := Lib.hid p2.row; have T2 := Lib.hid (HT.out.same (Turns.of_below _ L2.out)); have D2 := Lib.hid (HD.out.kept L2.out); have ck := HC.out w2 T2.out; clear p2))
          refine ⟨⟨k + 1, by omega, by congr 1, ?_, T2⟩, ?_⟩
          · rw [E2.out]; exact D2
          · show d.pend.length - ((k : Int) + 1).toNat < d.pend.length - (k : Int).toNat
            omega
        · have e1 := E1.out
          rw [if_pos rfl] at e1
          have E2 := Lib.hid e1
          clear e1 E1
          go_wp2_with (first
            | (with_reducible refine wpList_val (o := ⟨some 16, _, _, _, _, _⟩) rfl (.pointer (some ⟨gp, k * 257, none⟩)) (by exact run_idxAt0 257 55 69 (.tmp 11) (.tmp 13) rfl gp d.pend.length c k (by with_unfolding_all rfl) (by with_unfolding_all rfl) hlt Try.underlying55 Try.sizeWrite) ?_)
            | (with_reducible refine wpList_val (o := ⟨some 17, _, _, _, _, _⟩) rfl (.agg (wr1 (at_, b)).toArray) (by exact run_load_range 69 (.tmp 16) rfl (k * 257) (wr1 (at_, b)) _ (by with_unfolding_all rfl) (by with_unfolding_all exact RG.out) Try.underlying69 rfl (by rw [wr1_length (x := (at_, b)) LP.out]; exact Try.sizeWrite)) ?_)
            | ((with_reducible refine wpList_alloc_row (o := ⟨some 5, _, _, _, _, _⟩) rfl 69 rfl zeroWr Try.zeroWrite ?_); intro g5 w1 n1; have N1 := Lib.hid n1; clear n1)
            | ((with_reducible refine wpList_store_row (o := ⟨none, _, _, _, _, _⟩) rfl 69 (.tmp 5) (.tmp 17) rfl g5 69 zeroWr (wr1 (at_, b)).toArray (by with_unfolding_all rfl) (by with_unfolding_all rfl) N1.out.row (zeroWr_size (at_, b) LP.out) (Try.sizeWr (at_, b) LP.out) (wr1_one (at_, b)) ?_); intro w2 p2; have L2 := Lib.hid (laid_put N1.out p2).1; have R2 := Lib.hid p2.row; have T2 := Lib.hid (HT.out.same (Turns.of_below _ L2.out)); have D2 := Lib.hid (HD.out.kept L2.out); have ck := HC.out w2 T2.out; clear p2))
          have c1 : w2.cell? ⟨g, 1, none⟩ = some (.slice (some ⟨gs, 0, none⟩) d.now.length cs) := D2.out.cell 1 _ rfl
          have ca : w2.cell? ⟨g5, 0, none⟩ = some (.int .i64 (at_ : Int)) := R2.out.cell 0
          have RS : Hid (w2.drew.rangeAt g5 1 (cellsB b)) := wr_range (x := (at_, b)) R2.out.drew
          clear ck
          go_still_tail 9, (by kernel_rfl)
          refine wpStill_val (o := ⟨some 35, _, _, _, _, _⟩) rfl (by exact run_load_range 67 (.tmp 34) rfl 1 (cellsB b) _ (by with_unfolding_all rfl) (by with_unfolding_all exact RS.out) Try.underlying67 rfl (Try.sizeSecB _ LP.out)) ?_
          simp only [Act.put, List.setIfInBounds_toArray, List.set_cons_zero, List.set_cons_succ]
          refine wpStill_val (o := ⟨some 36, _, _, _, _, _⟩) rfl (by exact run_idxAt0 256 54 67 (.tmp 31) (.tmp 33) rfl gs d.now.length cs at_ (by with_unfolding_all rfl) (by with_unfolding_all rfl) ha Try.underlying54 Try.sizeSector) ?_
          simp only [Act.put, List.setIfInBounds_toArray, List.set_cons_zero, List.set_cons_succ]
          refine wpStill_nil ?_
          change wpList _ _ _ _ _ w2.drew
          have hfit : at_ * 256 + (cellsB b).length ≤ d.now.length * 256 := by
            rw [cellsB_length, LP.out]
            have := Nat.mul_le_mul_right 256 (Nat.succ_le_of_lt ha)
            rw [Nat.succ_mul] at this
            exact this
          have ES : Hid ((cellsB (d.amid keep k).sure.flatten).take (at_ * 256) ++ cellsB b ++ (cellsB (d.amid keep k).sure.flatten).drop (at_ * 256 + (cellsB b).length) = cellsB ((d.amid keep k).sure.set at_ b).flatten) := by
            show _ = _
            rw [← flat_set D2.out.ok.sure (by rw [D2.out.ok.same]; exact ha) LP.out, cellsB_append, cellsB_append, cellsB_take, cellsB_drop, cellsB_length, LP.out]
          have OK6 : Hid ({ d.amid keep k with sure := (d.amid keep k).sure.set at_ b } : Dev).Ok := E2.out ▸ HH.out.ok.amid keep (k + 1)
          clear c1 ca RS
          go_wp2_with ((with_reducible refine wpList_storeO (o := ⟨none, _, _, _, _, _⟩) rfl 67 (.tmp 36) (.tmp 35) rfl (at_ * 256) (cellsB b) (by with_unfolding_all rfl) (by with_unfolding_all rfl) (by with_unfolding_all exact D2.out.drew.sure) hfit (Try.sizeSecB _ LP.out) (cellsB_one _) ?_); intro w6 o6 g6)
          have o6' : w6.ownsRow 0 67 256 (.slice (some ⟨gs, 0, none⟩) d.now.length cs) d.now.length (cellsB ((d.amid keep k).sure.set at_ b).flatten) := by
            rw [← ES.out]; exact o6
          have D6 := D2.out.drew.storedS o6' g6 OK6.out
          have T6 := T2.out.drew.same (foot_turns g6 fun k hk => .inr (.inr (.inl (Option.some.inj hk).symm)))
          refine ⟨⟨k + 1, by omega, by congr 1, ?_, T6⟩, ?_⟩
          · rw [E2.out]; exact D6
          · show d.pend.length - ((k : Int) + 1).toNat < d.pend.length - (k : Int).toNat
            omega
      · have hkk2 : decide ((k : Int) < (keep.length : Int)) = false := by simp; omega
        have hg0 : keep.getD k false = false := by rw [List.getD_eq_getElem?_getD, List.getElem?_eq_none (by omega)]; rfl
        rw [hg0] at E1
        have e1 := E1.out
        rw [if_neg (by decide)] at e1
        have E2 := Lib.hid e1
        clear e1 E1 hg0
        go_wp2_with (first
          | (with_reducible refine wpList_val (o := ⟨some 16, _, _, _, _, _⟩) rfl (.pointer (some ⟨gp, k * 257, none⟩)) (by exact run_idxAt0 257 55 69 (.tmp 11) (.tmp 13) rfl gp d.pend.length c k (by with_unfolding_all rfl) (by with_unfolding_all rfl) hlt Try.underlying55 Try.sizeWrite) ?_)
          | (with_reducible refine wpList_val (o := ⟨some 17, _, _, _, _, _⟩) rfl (.agg (wr1 (at_, b)).toArray) (by exact run_load_range 69 (.tmp 16) rfl (k * 257) (wr1 (at_, b)) _ (by with_unfolding_all rfl) (by with_unfolding_all exact RG.out) Try.underlying69 rfl (by rw [wr1_length (x := (at_, b)) LP.out]; exact Try.sizeWrite)) ?_)
          | ((with_reducible refine wpList_alloc_row (o := ⟨some 5, _, _, _, _, _⟩) rfl 69 rfl zeroWr Try.zeroWrite ?_); intro g5 w1 n1; have N1 := Lib.hid n1; clear n1)
          | ((with_reducible refine wpList_store_row (o := ⟨none, _, _, _, _, _⟩) rfl 69 (.tmp 5) (.tmp 17) rfl g5 69 zeroWr (wr1 (at_, b)).toArray (by with_unfolding_all rfl) (by with_unfolding_all rfl) N1.out.row (zeroWr_size (at_, b) LP.out) (Try.sizeWr (at_, b) LP.out) (wr1_one (at_, b)) ?_); intro w2 p2; have L2 := Lib.hid (laid_put N1.out p2).1; have R2 := Lib.hid p2.row; have T2 := Lib.hid (HT.out.same (Turns.of_below _ L2.out)); have D2 := Lib.hid (HD.out.kept L2.out); clear p2))
        refine ⟨⟨k + 1, by omega, by congr 1, ?_, T2⟩, ?_⟩
        · rw [E2.out]; exact D2
        · show d.pend.length - ((k : Int) + 1).toNat < d.pend.length - (k : Int).toNat
          omega
    · have hk2 : k = d.pend.length := by omega
      subst hk2
      have hdd : decide ((d.pend.length : Int) < (d.pend.length : Int)) = false := by simp
      go_wp2_with fail
      have c0 : wr.cell? ⟨g, 0, none⟩ = some (.slice (some ⟨gn, 0, none⟩) d.now.length cn) := HD.out.cell 0 _ rfl
      have c1 : wr.cell? ⟨g, 1, none⟩ = some (.slice (some ⟨gs, 0, none⟩) d.now.length cs) := HD.out.cell 1 _ rfl
      go_still_tail 8, (by kernel_rfl)
      change wpList _ _ _ _ _ wr.drew
      clear c0 c1
      have LK : Hid ((d.amid keep d.pend.length).sure.length = d.now.length) := HD.out.ok.same
      have OK2 : Hid ({ d.amid keep d.pend.length with now := (d.amid keep d.pend.length).sure } : Dev).Ok := by
        have h1 := HD.out.ok
        have h2 := LK.out
        exact ⟨rfl, by show 1 ≤ (d.amid keep d.pend.length).sure.length; rw [h2]; exact h1.least, by show (d.amid keep d.pend.length).sure.length ≤ 600; rw [h2]; exact h1.most, h1.sure, h1.sure, fun y hy => by
          show y.1 < (d.amid keep d.pend.length).sure.length ∧ _
          rw [h2]; exact h1.pend y hy, h1.left, h1.fuse⟩
      go_wp2_with (first
        | ((with_reducible refine wpList_copyO (o := ⟨some 46, _, _, _, _, _⟩) rfl (.tmp 41) (.tmp 45) 54 54 rfl 67 Try.underlying54 Try.sizeSector (by with_unfolding_all rfl) (by with_unfolding_all rfl) (by with_unfolding_all exact HD.out.drew.now) (by with_unfolding_all exact HD.out.drew.sure) (cellsB_one _) ?_); intro w2 o2 g2; have D2 := Lib.hid (HD.out.drew.stored o2 g2 LK.out OK2.out); have T2 := Lib.hid (HT.out.drew.same (foot_turns g2 fun k hk => .inr (.inl (Option.some.inj hk).symm))); have c2 : w2.cell? ⟨g, 2, none⟩ = some vp := D2.out.cell 2 _ rfl; have z2 : w2.frozen? ⟨g, 2, none⟩ = false := D2.out.row.frozen 2; have F3 := Lib.hid (D2.out.cleared D2.out.ok.cleared); have R3 : Hid (RowAt (w2.setCell ⟨g, 2, none⟩ (.slice none 0 0)) g 59 #[.slice (some ⟨gn, 0, none⟩) (d.kept keep).length cn, .slice (some ⟨gs, 0, none⟩) (d.kept keep).length cs, .slice none 0 0, .bool d.there, .int .i64 d.left, .bool d.burnt]) := F3.out.1.row; clear o2 g2)
        | (with_reducible refine wpList_val (o := ⟨some 51, _, _, _, _, _⟩) rfl (.agg #[.bool false, .int .i64 0, .bool false]) (by exact run_builtOp 57 #[] rfl _ Try.builtFuse) ?_)
        | ((with_reducible refine wpList_storeRP (o := ⟨none, _, _, _, _, _⟩) rfl 57 (.tmp 53) (.tmp 51) rfl g 3 59 #[.slice (some ⟨gn, 0, none⟩) (d.kept keep).length cn, .slice (some ⟨gs, 0, none⟩) (d.kept keep).length cs, .slice none 0 0, .bool d.there, .int .i64 d.left, .bool d.burnt] #[.slice (some ⟨gn, 0, none⟩) (d.kept keep).length cn, .slice (some ⟨gs, 0, none⟩) (d.kept keep).length cs, .slice none 0 0, .bool false, .int .i64 0, .bool false] [.bool false, .int .i64 0, .bool false] (by with_unfolding_all rfl) (by with_unfolding_all rfl) (by with_unfolding_all exact R3.out) (by with_unfolding_all exact Nat.le_refl 6) (by with_unfolding_all rfl) (by kernel_rfl) three_one ?_); intro w4 p4))
      go_end0
      subst hvp
      have D4 := F3.out.1.rowed (d' := d.crash keep) p4.grown p4.row rfl rfl rfl (HH.out.ok.crash keep)
      exact ⟨_, rfl, D4, (T2.out.same F3.out.2).same (foot_grown p4.grown), fun k hk => nomatch hk⟩
end Go.Proofs.Ytenmgpijhaalbaa
