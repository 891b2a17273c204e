/-
  Contract of a device's Write. Conditions: as it names them.
-/
import Derived.Test.YtenmgpijhaalbaaDevB
import Derived.Deep.Onto
import Derived.Maps.AppendAt
import Derived.StillTailTactics
namespace Go.Proofs.Ytenmgpijhaalbaa
open Go.RowKit
set_option linter.unusedVariables false
set_option maxRecDepth 20000

/-- What a call that writes to a device tells. -/
def DevRet (w : World) (g gn cn gs cs : Nat) (vp : Value) (d : Dev) (v : Value) (e : Ending) (w' : World) : Prop :=
  ∃ vp', e = .returned v ∧ DevIs w' g gn cn gs cs vp' d ∧ Turns (Foot g gn gs vp) w w' ∧ ∀ k, vp'.ownBlock = some k → vp.ownBlock = some k ∨ w.heap.size ≤ k
theorem foot_grown {w w' : World} {g gn gs : Nat} {vp : Value} (hg : w.grownBy w' (some g)) : Turns (Foot g gn gs vp) w w' := Turns.of_grown hg fun k hk => by injection hk with hk; exact .inl hk.symm
theorem DevIs.bs {w w' : World} {g gn cn gs cs : Nat} {vp : Value} {d : Dev} (h : DevIs w g gn cn gs cs vp d) (hg : w.grownBy w' (some g)) {v : Value} {l : List UInt8} (hb : Bs w v l) : Bs w' v l := by
  obtain ⟨A, c, rfl, h1, h2, h3⟩ := hb
  refine ⟨A, c, rfl, h1, h2, fun hl => ?_⟩
  obtain ⟨b, off, rfl, hc⟩ := h3 hl
  refine ⟨b, off, rfl, fun j hj => ?_⟩
  have hcj := hc j hj
  have hne : b ≠ g := by
    intro e
    subst e
    rw [h.row.cell] at hcj
    obtain ⟨A2, c2, e2⟩ := h.vp_shape
    rw [e2] at hcj
    generalize off + j = m at hcj
    match m, hcj with
    | 0, hcj => simp at hcj
    | 1, hcj => simp at hcj
    | 2, hcj => simp at hcj
    | 3, hcj => simp at hcj
    | 4, hcj => simp at hcj
    | 5, hcj => simp at hcj
    | m + 6, hcj => simp at hcj
  exact (World.cell?_of_block (hg.block b (World.block_lt_of_cell? w _ hcj) fun e => hne (Option.some.inj e))).trans hcj
theorem spliced_write (i : Int) (b : List UInt8) (hb : b.length ≤ 256) : splice (Value.int .i64 i :: cellsB zeroSec) 1 (cellsB b) = Value.int .i64 i :: cellsB (pad b) := by
  unfold splice pad
  rw [cellsB_append, cellsB_length]
  have e : (cellsB zeroSec).drop b.length = cellsB (List.replicate (256 - b.length) 0) := by
    rw [← cellsB_drop]
    unfold zeroSec
    rw [List.drop_replicate]
  rw [Nat.add_comm 1, List.drop_succ_cons, e]
  rfl

theorem wr_range {w : World} {gw : Nat} {t : TypeId} {x : Nat × List UInt8} (h : RowAt w gw t (wr1 x).toArray) : w.rangeAt gw 1 (cellsB x.2) := by
  have := rangeAt_row (k := 1) (n := (cellsB x.2).length) h
  rw [show (((wr1 x).toArray.toList.drop 1).take (cellsB x.2).length) = cellsB x.2 from List.take_length] at this
  exact this
theorem row_from {w : World} {g : Nat} {t : TypeId} {l : List Value} (h : RowAt w g t l.toArray) : ∀ j v, l[j]? = some v → w.cell? ((⟨g, 0, none⟩ : Addr).add j) = some v := by
  intro j v hj
  have hadd : (⟨g, 0, none⟩ : Addr).add j = ⟨g, j, none⟩ := by unfold Addr.add; split <;> simp_all
  rw [hadd, h.cell j]
  simpa using hj
section
variable {w w' w2 : World} {g gn cn gs cs : Nat} {vp : Value} {d : Dev}
theorem foot_turns {r : Option Nat} (hg : w.grownBy w' r) (hr : ∀ k, r = some k → Foot g gn gs vp k) : Turns (Foot g gn gs vp) w w' := Turns.of_grown hg hr
/-- A sector is written. -/
theorem DevIs.stored (h : DevIs w g gn cn gs cs vp d) {ls : List (List UInt8)} (ho : w'.ownsRow 0 67 256 (.slice (some ⟨gn, 0, none⟩) d.now.length cn) d.now.length (cellsB ls.flatten)) (hg : w.grownBy w' (some gn)) (hl : ls.length = d.now.length) (hok : ({ d with now := ls } : Dev).Ok) : DevIs w' g gn cn gs cs vp { d with now := ls } := by
  have ht : Turns (fun k => k = gn) w w' := Turns.of_grown hg fun k hk => (Option.some.inj hk).symm
  refine ⟨?_, ?_, ?_, ?_, h.apart, hok⟩
  · rw [hl]; exact ht.row h.row fun e => h.now_g e.symm
  · rw [hl]; exact ho
  · rw [hl]; exact ht.own h.sure fun k hk e => h.apart (by subst e; exact (Option.some.inj hk).symm)
  · exact ht.own h.pend fun k hk e => h.pend_now (by subst e; exact hk)
theorem DevIs.storedS (h : DevIs w g gn cn gs cs vp d) {ls : List (List UInt8)} (ho : w'.ownsRow 0 67 256 (.slice (some ⟨gs, 0, none⟩) d.now.length cs) d.now.length (cellsB ls.flatten)) (hg : w.grownBy w' (some gs)) (hok : ({ d with sure := ls } : Dev).Ok) : DevIs w' g gn cn gs cs vp { d with sure := ls } := by
  have ht : Turns (fun k => k = gs) w w' := Turns.of_grown hg fun k hk => (Option.some.inj hk).symm
  refine ⟨?_, ?_, ?_, ?_, h.apart, hok⟩
  · exact ht.row h.row fun e => h.sure_g e.symm
  · exact ht.own h.now fun k hk e => h.apart (by subst e; exact Option.some.inj hk)
  · exact ho
  · exact ht.own h.pend fun k hk e => h.pend_sure (by subst e; exact hk)
/-- One more write is pending. -/
theorem DevIs.appended {vp' : Value} {p : List (Nat × List UInt8)} (h : DevIs w g gn cn gs cs vp d) (ho : w'.ownsRow 0 69 257 vp' p.length (wrC p)) (ht : Turns (fun k => vp.ownBlock = some k) w w') (hok : ({ d with pend := p } : Dev).Ok) :
    DevIs (w'.setCell ⟨g, 2, none⟩ vp') g gn cn gs cs vp' { d with pend := p } ∧ Turns (Foot g gn gs vp) w (w'.setCell ⟨g, 2, none⟩ vp') := by
  have hr := ht.row h.row h.pend_g
  have ht2 : Turns (fun k => k = g) w' (w'.setCell ⟨g, 2, none⟩ vp') := Turns.of_grown (grown_setCell _ _ _ _) fun k hk => (Option.some.inj hk).symm
  have h2 : Turns (Foot g gn gs vp) w (w'.setCell ⟨g, 2, none⟩ vp') := (ht.mono fun k _ hk => .inr (.inr (.inr hk))).same (ht2.mono fun k _ hk => .inl hk)
  refine ⟨⟨hr.put 2 vp', ?_, ?_, ?_, h.apart, hok⟩, h2⟩
  · exact ht2.own (ht.own h.now fun k hk e => h.pend_now (by rw [e, ← hk]; rfl)) fun k hk e => h.now_g (by subst e; exact Option.some.inj hk)
  · exact ht2.own (ht.own h.sure fun k hk e => h.pend_sure (by rw [e, ← hk]; rfl)) fun k hk e => h.sure_g (by subst e; exact Option.some.inj hk)
  · refine ht2.own ho fun k hk e => ?_
    subst e
    obtain ⟨cur, hr2⟩ := own_typed ho hk
    exact absurd (row_typed hr2 hr) (by decide)
end
theorem wp_append_at {P : Program} {w : World} {o : Oper} {a : Act} {K : Act → World → Prop} {Q : Exit → Act → World → Prop} (s x : Operand) (t : TypeId)
    (ho : o.op = .call { callee := .builtin .append, args := #[s, x], argTypes := #[t, t] })
    (base : Nat) (e : TypeId) (z : Value) (size bytes : Nat) (ht : P.underlying t = some (.slice e)) (hinfo : (P.info? e).map (fun i => (i.zero, i.size, i.bytes)) = some (some z, size, bytes)) (hzs : z.cells.size = size) (hsz : 0 < size)
    (v : Value) (n : Nat) (xs : List Value) (hs : a.eval s = v) (hown : w.ownsRow base e size v n xs)
    (ad : Addr) (m c : Nat) (news : List Value) (hx : a.eval x = .slice (some ad) m c) (hl : news.length = m * size) (hnews : ∀ j u, news[j]? = some u → w.cell? (ad.add j) = some u) (h1 : ∀ u ∈ news, u.oneCell' = true)
    (h63 : n + m ≤ maxLen) (hbytes : (n + m) * bytes ≤ 140737488355328) (hbase : base ≤ w.heap.size)
    (h : ∀ v' w', w'.ownsRow base e size v' (n + m) (xs ++ news) → w.grownBy w' v.ownBlock → (v'.ownBlock = v.ownBlock ∨ v'.ownBlock = some w.heap.size) → K (a.put o.dst v') w') : o.wp P a w K Q := by
  obtain ⟨i, hi, hz0, hz1, hz2⟩ := info_parts hinfo
  obtain ⟨v', w', hr, h2, h3, _, h5⟩ := run_append_own_at (P := P) w base t o.type e i z size bytes ht hi hz0 hz1 hz2 hzs hsz v n xs hown ad m c news hl hnews h1 h63 hbytes hbase
  unfold Oper.wp execOp
  simp only [ho, resolve, invoke, builtin, Sem.run_bind, Sem.run_pure, Result.andThen_ok, List.map_toArray, List.map_cons, List.map_nil, hs, hx, hr]
  exact h v' w' h2 h3 h5
theorem cells_from {w : World} {A : Option Addr} {n c : Nat} {l : List UInt8} (h : Bs w (.slice A n c) l) (h0 : 0 < l.length) : ∃ ad, A = some ad ∧ ∀ j v, (cellsB l)[j]? = some v → w.cell? (ad.add j) = some v := by
  obtain ⟨A', c', hv, _, _, h3⟩ := h
  injection hv with e1 e2 e3
  subst e1
  obtain ⟨b, off, rfl, hc⟩ := h3 h0
  refine ⟨_, rfl, fun j v hj => ?_⟩
  have hadd : (⟨b, off, none⟩ : Addr).add j = ⟨b, off + j, none⟩ := by unfold Addr.add; split <;> simp_all
  have hj1 := (List.getElem?_eq_some_iff.1 hj).1
  rw [cellsB_length] at hj1
  rw [cellsB_get l j hj1] at hj
  injection hj with hj
  rw [hadd, hc j hj1, hj]
set_option maxHeartbeats 2000000 in
theorem devWrite_any (w : World) (g gn cn gs cs : Nat) (vp : Value) (d : Dev) (h : DevIs w g gn cn gs cs vp d) (i : Int) (vb : Value) (b : List UInt8) (hb : Bs w vb b) (hp : d.pend.length ≤ 1000000) :
    Calls Try.prog 11 #[.pointer (some ⟨g, 0, none⟩), .int .i64 i, vb] w (DevRet w g gn cn gs cs vp (d.write i b) (.int .i64 (d.writeE i b))) := by
  have H1 : Hid (∀ w, DevIs w g gn cn gs cs vp d → Calls Try.prog 30 #[.pointer (some ⟨g, 0, none⟩), .int .i64 i] w (RetV w (.bool (d.has i)))) := fun w h => devHas_any w g gn cn gs cs vp d h i
  have H2 : Hid (∀ w, DevIs w g gn cn gs cs vp d → Calls Try.prog 31 #[.pointer (some ⟨g, 3, none⟩)] w fun e w' => e = .returned (.bool d.goes) ∧ DevIs w' g gn cn gs cs vp d.spend ∧ w.grownBy w' (some g)) := fun w h => devSpend_any w g gn cn gs cs vp d h
  have HH := Lib.hid h
  have HB := Lib.hid hb
  obtain ⟨A, c, rfl, hb1, hb2, hb3⟩ := hb
  clear h hb3
  by_cases hi : d.has i = false
  · have e1 : Hid (d.writeE i b = 60) := by show _ = _; unfold Dev.writeE; rw [if_pos hi]
    have e2 : Hid (d.write i b = d) := by show _ = _; unfold Dev.write; rw [if_pos hi]
    rw [hi] at H1
    go_enter Try.func11, Try.ntmps11
    go_wp2_with fail
    refine (H1.out _ HH.out).mono ?_
    rintro e w1 ⟨rfl, b1⟩
    have B1 := Lib.hid b1
    clear b1
    go_wp2_with fail
    go_ret
    rw [e1.out, e2.out]
    exact ⟨vp, rfl, HH.out.kept B1.out, Turns.of_below _ B1.out, fun k hk => .inl hk⟩
  · simp only [Bool.not_eq_false] at hi
    have hlt := Dev.has_lt hi
    obtain ⟨j, rfl⟩ : ∃ j : Nat, i = (j : Int) := ⟨i.toNat, by omega⟩
    have hj : j < d.now.length := by simpa using hlt.2
    have hle := HH.out.ok.most
    clear hlt
    have HI := Lib.hid hi
    have e1 : Hid (d.writeE j b = if 256 < b.length then 2 else if d.goes then 0 else 61) := by show _ = _; unfold Dev.writeE; rw [HI.out]; rfl
    have e2 : Hid (d.write j b = if 256 < b.length then d else if d.goes then d.spend.put j (pad b) else d.spend) := by show _ = _; unfold Dev.write; rw [HI.out]; rfl
    rw [hi] at H1
    clear hi HI
    by_cases hl : 256 < b.length
    · have hd : decide ((256 : Int) < (b.length : Int)) = true := by simp; omega
      rw [if_pos hl] at e1 e2
      go_enter Try.func11, Try.ntmps11
      go_wp2_with fail
      refine (H1.out _ HH.out).mono ?_
      rintro e w1 ⟨rfl, b1⟩
      have B1 := Lib.hid b1
      clear b1
      go_wp2_with fail
      go_ret
      rw [e1.out, e2.out]
      exact ⟨vp, rfl, HH.out.kept B1.out, Turns.of_below _ B1.out, fun k hk => .inl hk⟩
    · have hd : decide ((256 : Int) < (b.length : Int)) = false := by simp; omega
      rw [if_neg hl] at e1 e2
      by_cases hg : d.goes = true
      · rw [hg] at e1 e2 H2
        rw [if_pos rfl] at e1 e2
        go_enter Try.func11, Try.ntmps11
        go_wp2_with fail
        refine (H1.out _ HH.out).mono ?_
        rintro e w1 ⟨rfl, b1⟩
        have B1 := Lib.hid b1
        clear b1
        go_wp2_with fail
        refine (H2.out _ (HH.out.kept B1.out)).mono ?_
        rintro e w2 ⟨rfl, h2, g2⟩
        have D2 := Lib.hid h2
        have T2 := Lib.hid ((Turns.of_below (Foot g gn gs vp) B1.out).same (foot_grown g2))
        have B2 := Lib.hid ((HH.out.kept B1.out).bs g2 (HB.out.below B1.out))
        clear h2 g2
        go_wp2_with (first
          | (with_reducible refine wpList_val (o := ⟨some 21, _, _, _, _, _⟩) rfl (.agg (wr1 (j, zeroSec)).toArray) (by exact run_builtOp 69 #[(0, .tmp 20)] rfl _ (by with_unfolding_all exact Try.builtWrite _)) ?_)
          | ((with_reducible refine wpList_alloc_row (o := ⟨some 7, _, _, _, _, _⟩) rfl 69 rfl zeroWr Try.zeroWrite ?_); intro gw w3 n3; have N3 := Lib.hid n3; clear n3)
          | ((with_reducible refine wpList_store_row (o := ⟨none, _, _, _, _, _⟩) rfl 69 (.tmp 7) (.tmp 21) rfl gw 69 zeroWr (wr1 (j, zeroSec)).toArray (by with_unfolding_all rfl) (by with_unfolding_all rfl) N3.out.row (zeroWr_size (j, zeroSec) zeroSec_length) (Try.sizeWr (j, zeroSec) zeroSec_length) (wr1_one (j, zeroSec)) ?_); intro w4 p4; have L4 := Lib.hid (laid_put N3.out p4).1; have R4 := Lib.hid p4.row; clear p4)
          | ((with_reducible refine wpList_copy_splice (o := ⟨some 25, _, _, _, _, _⟩) rfl (.tmp 23) (.tmp 24) 31 31 rfl 5 Try.underlying31 (by kernel_rfl) (some ⟨gw, 1, none⟩) A 256 256 b.length c (by with_unfolding_all rfl) (by with_unfolding_all rfl) gw 1 (wr1 (j, zeroSec)) 69 (by with_unfolding_all exact R4.out) (cellsB b) (by rw [cellsB_length]; exact (Nat.min_eq_left (by omega)).symm) (by intro hz; exact ⟨rfl, cells_from (B2.out.below L4.out) (by rw [cellsB_length] at hz; exact hz)⟩) (by rw [cellsB_length, wr1_length zeroSec_length]; omega) (cellsB_one b) w2.heap.size w2 L4.out (Nat.le_of_eq N3.out.spot.symm) ?_); intro w5 r5 b5))
        have D5 := Lib.hid (D2.out.kept b5)
        have R5 : Hid (RowAt w5 gw 69 (wr1 (j, pad b)).toArray) := by
          have := r5.out
          unfold wr1 at this
          rw [spliced_write _ _ (by omega)] at this
          exact this
        have T5 := Lib.hid (T2.out.same (Turns.of_below _ b5))
        have LP : Hid ((pad b).length = 256) := pad_length (by omega)
        have NE : Hid (vp.ownBlock ≠ some gw) := fun e => by
          have h1 := D2.out.lt (.inr (.inr (.inr e)))
          have h2 := N3.out.spot
          omega
        clear r5 b5 L4 R4 D2 T2 B2 N3 B1
        have HO := Lib.hid D5.out.now
        have hc0 : w5.cell? ⟨g, 0, none⟩ = some (.slice (some ⟨gn, 0, none⟩) d.now.length cn) := D5.out.cell 0 _ rfl
        have hj2 : (j : Int) < (d.now.length : Int) := by omega
        have RG : Hid (w5.drew.rangeAt gw 1 (cellsB (pad b))) := wr_range (x := (j, pad b)) R5.out.drew
        go_still_tail 8, (by kernel_rfl)
        refine wpStill_val (o := ⟨some 32, _, _, _, _, _⟩) rfl (by exact run_load_range 67 (.tmp 31) rfl 1 (cellsB (pad b)) _ (by with_unfolding_all rfl) (by with_unfolding_all exact RG.out) Try.underlying67 rfl (Try.sizeSecB _ LP.out)) ?_
        simp only [Act.put, List.setIfInBounds_toArray, List.set_cons_zero, List.set_cons_succ]
        refine wpStill_val (o := ⟨some 33, _, _, _, _, _⟩) rfl (by exact run_idxAt 256 54 67 (.tmp 29) (.tmp 30) rfl gn 0 d.now.length cn j (by with_unfolding_all rfl) (by with_unfolding_all rfl) hj Try.underlying54 Try.sizeSector) ?_
        simp only [Act.put, List.setIfInBounds_toArray, List.set_cons_zero, List.set_cons_succ]
        refine wpStill_nil ?_
        change wpList _ _ _ _ _ w5.drew
        simp only [Nat.zero_add]
        have hfit : j * 256 + (cellsB (pad b)).length ≤ d.now.length * 256 := by
          rw [cellsB_length, LP.out]
          have := Nat.mul_le_mul_right 256 (Nat.succ_le_of_lt hj)
          rw [Nat.succ_mul] at this
          exact this
        clear hc0 hj2 RG
        have ES : Hid ((cellsB d.now.flatten).take (j * 256) ++ cellsB (pad b) ++ (cellsB d.now.flatten).drop (j * 256 + (cellsB (pad b)).length) = cellsB (d.now.set j (pad b)).flatten) := by
          show _ = _
          rw [← flat_set HH.out.ok.now hj LP.out, cellsB_append, cellsB_append, cellsB_take, cellsB_drop, cellsB_length, LP.out]
        have OK6 : Hid ({ d.spend with now := d.now.set j (pad b) } : Dev).Ok := by
          have := D5.out.ok.put (i := j) hj LP.out
          exact ⟨this.same, this.least, this.most, this.now, this.sure, fun x hx => this.pend x (List.mem_append_left _ hx), this.left, this.fuse⟩
        go_wp2_with ((with_reducible refine wpList_storeO (o := ⟨none, _, _, _, _, _⟩) rfl 67 (.tmp 33) (.tmp 32) rfl (j * 256) (cellsB (pad b)) (by with_unfolding_all rfl) (by with_unfolding_all rfl) (by with_unfolding_all exact D5.out.drew.now) hfit (Try.sizeSecB _ LP.out) (cellsB_one _) ?_); intro w6 o6 g6)
        have o6' : w6.ownsRow 0 67 256 (.slice (some ⟨gn, 0, none⟩) d.now.length cn) d.now.length (cellsB (d.now.set j (pad b)).flatten) := by
          rw [← ES.out]; exact o6
        have D6 := Lib.hid (D5.out.drew.stored o6' g6 (List.length_set ..) OK6.out)
        have g6' : Turns (fun k => k = gn) w5 w6 := (Turns.of_below _ (Below.refl _ _).drew).same (Turns.of_grown g6 fun k hk => (Option.some.inj hk).symm)
        have R6 := Lib.hid (g6'.row R5.out (by
          intro e
          subst e
          obtain ⟨cur, hr⟩ := D5.out.nowRow
          exact absurd (row_typed hr R5.out) (by decide)))
        have T6 := Lib.hid (T5.out.same (g6'.mono fun k _ hk => .inr (.inl hk)))
        clear o6 o6' g6 g6' ES OK6 D5 R5 T5 HO hfit
        have hc2 : w6.cell? ⟨g, 2, none⟩ = some vp := D6.out.cell 2 _ rfl
        have hS : (fun W : World => W.cell? ⟨g, 2, none⟩ = some vp ∧ RowAt W gw 69 (wr1 (j, pad b)).toArray) w6.drew := ⟨hc2, R6.out.drew⟩
        refine plain_region (S := fun W => W.cell? ⟨g, 2, none⟩ = some vp ∧ RowAt W gw 69 (wr1 (j, pad b)).toArray) (fin := fun i => i == 10) (by kernel_rfl) ?_
        change walkS _ _ _ _ _ _ 11 _ _ _
        refine walkS_take (i := 0) (oi := ⟨some 34, _, _, _, _, _⟩) (v := (.pointer (some ⟨g, 0, none⟩))) rfl (by kernel_rfl) (by kernel_rfl) (fun _ _ _ h => h) _ _ _ _ (by kernel_rfl) (by kernel_rfl) (Or.inl ⟨by rfl, fun w' hS' => (by clear hS hS'; go_simp)⟩) hS ?_
        try simp only [Act.put, List.setIfInBounds_toArray, List.set_cons_zero, List.set_cons_succ]
        refine walkS_take (i := 1) (oi := ⟨some 35, _, _, _, _, _⟩) (v := (.pointer (some ⟨g, 0, none⟩))) rfl (by kernel_rfl) (by kernel_rfl) (fun _ _ _ h => h) _ _ _ _ (by kernel_rfl) (by kernel_rfl) (Or.inl ⟨by rfl, fun w' hS' => (by clear hS hS'; go_simp)⟩) hS ?_
        try simp only [Act.put, List.setIfInBounds_toArray, List.set_cons_zero, List.set_cons_succ]
        refine walkS_take (i := 2) (oi := ⟨some 36, _, _, _, _, _⟩) (v := (.pointer (some ⟨g, 0, none⟩))) rfl (by kernel_rfl) (by kernel_rfl) (fun _ _ _ h => h) _ _ _ _ (by kernel_rfl) (by kernel_rfl) (Or.inl ⟨by rfl, fun w' hS' => (by clear hS hS'; go_simp)⟩) hS ?_
        try simp only [Act.put, List.setIfInBounds_toArray, List.set_cons_zero, List.set_cons_succ]
        refine walkS_take (i := 3) (oi := ⟨some 37, _, _, _, _, _⟩) (v := (.pointer (some ⟨g, 2, none⟩))) rfl (by kernel_rfl) (by kernel_rfl) (fun _ _ _ h => h) _ _ _ _ (by kernel_rfl) (by kernel_rfl) (Or.inl ⟨by rfl, fun w' hS' => (by clear hS hS'; go_simp)⟩) hS ?_
        try simp only [Act.put, List.setIfInBounds_toArray, List.set_cons_zero, List.set_cons_succ]
        refine walkS_take (i := 4) (oi := ⟨some 38, _, _, _, _, _⟩) (v := vp) rfl (by kernel_rfl) (by kernel_rfl) (fun _ _ _ h => h) _ _ _ _ (by kernel_rfl) (by kernel_rfl) (Or.inl ⟨by rfl, fun w' hS' => (by have h1 := hS'.1; clear hS hS'; go_simp)⟩) hS ?_
        try simp only [Act.put, List.setIfInBounds_toArray, List.set_cons_zero, List.set_cons_succ]
        refine walkS_take (i := 5) (oi := ⟨some 39, _, _, _, _, _⟩) (v := (.agg (wr1 (j, pad b)).toArray)) rfl (by kernel_rfl) (by kernel_rfl) (fun _ _ _ h => h) _ _ _ _ (by kernel_rfl) (by kernel_rfl) (Or.inl ⟨by rfl, fun w' hS' => (run_load_row 69 (.tmp 7) rfl gw rfl _ (wr1 (j, pad b)).toArray (0, 0) _ hS'.2 Try.underlying69 rfl (Try.sizeWr (j, pad b) LP.out))⟩) hS ?_
        try simp only [Act.put, List.setIfInBounds_toArray, List.set_cons_zero, List.set_cons_succ]
        clear hS
        refine walkS_only (i := 6) (o := ⟨some 40, _, _, _, _, _⟩) (by kernel_rfl) rfl rfl fun KK hKK => ?_
        refine wp_oneRow 55 69 (.tmp 39) rfl (wr1 (j, pad b)) 257 264 (.agg zeroWr) (by with_unfolding_all rfl) (wr1_length (x := (j, pad b)) LP.out) (by decide) (by decide) Try.underlying55 Try.infoWrite ?_
        intro g7 w7 n7
        have N7 := Lib.hid n7
        have b7 := n7.below
        refine hKK _ _ (.inr ⟨?_, R6.out.drew.kept b7⟩) ?_
        · rw [b7.cell (p := ⟨g, 2, none⟩) D6.out.drew.row.lt]; exact hc2
        try simp only [Act.put, List.setIfInBounds_toArray, List.set_cons_zero, List.set_cons_succ]
        clear hKK KK
        have D7 := Lib.hid (D6.out.drew.kept b7)
        have R7 := Lib.hid (R6.out.drew.kept b7)
        have T7 := Lib.hid (T6.out.same (Turns.of_below _ (below_size (Below.refl _ _).drew b7)))
        have Q7 := Lib.hid n7.row
        clear n7 b7 N7 hc2 D6 R6 T6
        refine walkS_only (i := 7) (o := ⟨some 41, _, _, _, _, _⟩) (by kernel_rfl) rfl rfl fun KK hKK => ?_
        have hne : vp.ownBlock ≠ some gw := NE.out
        refine wp_append_at (.tmp 38) (.tmp 40) 55 rfl 0 69 (.agg zeroWr) 257 264 Try.underlying55 Try.infoWrite (by decide) (by decide) vp d.pend.length (wrC d.pend) (by with_unfolding_all rfl) D7.out.pend ⟨g7, 0, none⟩ 1 1 (wr1 (j, pad b)) (by with_unfolding_all rfl) (by rw [wr1_length (x := (j, pad b)) LP.out]) (row_from Q7.out) (wr1_one _) (by unfold maxLen; omega) (by omega) (Nat.zero_le _) ?_
        intro vp' w8 own8 g8 at8
        have hS : (fun W : World => W.cell? ⟨g, 2, none⟩ = some vp ∧ RowAt W gw 69 (wr1 (j, pad b)).toArray) w8 := ⟨(RowAt.grown D7.out.row g8 (fun e => D7.out.pend_g e.symm)).cell 2, R7.out.grown g8 (fun e => hne e.symm)⟩
        refine hKK _ _ (.inr hS) ?_
        try simp only [Act.put, List.setIfInBounds_toArray, List.set_cons_zero, List.set_cons_succ]
        clear hKK KK
        have HO8 : Hid (w8.ownsRow 0 69 257 vp' (d.pend ++ [(j, pad b)]).length (wrC (d.pend ++ [(j, pad b)]))) := by
          rw [wrC_snoc, List.length_append]
          exact own8
        have HT8 : Hid (Turns (fun k => vp.ownBlock = some k) w7 w8) := Turns.of_grown g8 fun k hk => hk
        have HA := Lib.hid at8
        clear own8 g8 at8
        refine walkS_only (i := 8) (o := ⟨some 42, _, _, _, _, _⟩) (by kernel_rfl) rfl rfl fun KK hKK => ?_
        go_simp
        refine hKK _ _ (.inr hS) ?_
        clear hKK KK
        refine walkS_take (i := 9) (oi := ⟨some 43, _, _, _, _, _⟩) (v := (.pointer (some ⟨g, 2, none⟩))) rfl (by kernel_rfl) (by kernel_rfl) (fun _ _ _ h => h) _ _ _ _ (by kernel_rfl) (by kernel_rfl) (Or.inl ⟨by rfl, fun w' hS' => (by clear hS hS'; go_simp)⟩) hS ?_
        try simp only [Act.put, List.setIfInBounds_toArray, List.set_cons_zero, List.set_cons_succ]
        refine walkS_only (i := 10) (o := ⟨none, _, _, _, _, _⟩) (by kernel_rfl) rfl rfl fun KK hKK => ?_
        have z2 : w8.frozen? ⟨g, 2, none⟩ = false := (HT8.out.row D7.out.row D7.out.pend_g).frozen 2
        have hc8 := hS.1
        clear hS
        have OK8 : Hid ({ d.spend with now := d.now.set j (pad b), pend := d.pend ++ [(j, pad b)] } : Dev).Ok := HH.out.ok.spend.put (i := j) hj LP.out
        have F8 := D7.out.appended HO8.out HT8.out OK8.out
        have D8 := Lib.hid F8.1
        have T8 := Lib.hid (T7.out.same F8.2)
        clear F8
        obtain ⟨A8, m8, c8, rfl⟩ : ∃ A m c, vp' = .slice A m c := ⟨_, _, _, D8.out.vp_shape.choose_spec.choose_spec⟩
        go_simp
        refine hKK _ _ (.inl rfl) ?_
        clear hKK KK
        refine walkS_done (by kernel_rfl) ?_ _
        go_wp2
        go_ret
        rw [e1.out, e2.out]
        refine ⟨_, rfl, D8.out, T8.out, fun k hk => ?_⟩
        rcases HA.out with h | h
        · exact .inl (h ▸ hk)
        · right
          have : k = w7.heap.size := by rw [hk] at h; exact Option.some.inj h
          rw [this]
          exact T7.out.size
      · simp only [Bool.not_eq_true] at hg
        rw [hg] at e1 e2 H2
        rw [if_neg (by decide)] at e1 e2
        go_enter Try.func11, Try.ntmps11
        go_wp2_with fail
        refine (H1.out _ HH.out).mono ?_
        rintro e w1 ⟨rfl, b1⟩
        have B1 := Lib.hid b1
        clear b1
        go_wp2_with fail
        refine (H2.out _ (HH.out.kept B1.out)).mono ?_
        rintro e w2 ⟨rfl, h2, g2⟩
        have D2 := Lib.hid h2
        have T2 := Lib.hid ((Turns.of_below (Foot g gn gs vp) B1.out).same (foot_grown g2))
        clear h2 g2
        go_wp2_with fail
        go_ret
        rw [e1.out, e2.out]
        exact ⟨vp, rfl, D2.out, T2.out, fun k hk => .inl hk⟩
end Go.Proofs.Ytenmgpijhaalbaa
