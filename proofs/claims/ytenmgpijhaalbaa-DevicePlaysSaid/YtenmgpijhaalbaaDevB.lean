/-
  A device in memory; contracts of its fuse and of what only looks at it. Conditions: as each theorem names them.
-/
import Derived.Test.YtenmgpijhaalbaaDevM
import Derived.Test.YtenmgpijhaalbaaB
import Derived.Test.YtenmgpijhaalbaaHeld
namespace Go.Proofs.Ytenmgpijhaalbaa
open Go.RowKit
set_option linter.unusedVariables false
set_option maxRecDepth 20000

structure DevIs (w : World) (g gn cn gs cs : Nat) (vp : Value) (d : Dev) : Prop where
  row : RowAt w g 59 #[.slice (some ⟨gn, 0, none⟩) d.now.length cn, .slice (some ⟨gs, 0, none⟩) d.now.length cs, vp, .bool d.there, .int .i64 d.left, .bool d.burnt]
  now : w.ownsRow 0 67 256 (.slice (some ⟨gn, 0, none⟩) d.now.length cn) d.now.length (cellsB d.now.flatten)
  sure : w.ownsRow 0 67 256 (.slice (some ⟨gs, 0, none⟩) d.now.length cs) d.now.length (cellsB d.sure.flatten)
  pend : w.ownsRow 0 69 257 vp d.pend.length (wrC d.pend)
  apart : gn ≠ gs
  ok : d.Ok
/-- The device's blocks. -/
def Foot (g gn gs : Nat) (vp : Value) (k : Nat) : Prop := k = g ∨ k = gn ∨ k = gs ∨ vp.ownBlock = some k

theorem own_typed {w : World} {base size n : Nat} {e : TypeId} {v : Value} {xs : List Value} (h : w.ownsRow base e size v n xs) {k : Nat} (hk : v.ownBlock = some k) : ∃ cur, RowAt w k e cur := by
  rcases h.2 with ⟨rfl, _⟩ | ⟨g, cap, cur, rfl, _, hg, _⟩
  · cases hk
  · obtain rfl : g = k := by simpa [Value.ownBlock] using hk
    exact ⟨cur, hg⟩
theorem row_typed {w : World} {k : Nat} {t e : TypeId} {cs cs' : Array Value} (h : RowAt w k t cs) (h2 : RowAt w k e cs') : t = e := by
  have e1 := h.symm.trans h2
  injection e1 with e1
  injection e1 with _ e1 _
section
variable {w w' : World} {g gn cn gs cs : Nat} {vp : Value} {d : Dev}
theorem DevIs.nowRow (h : DevIs w g gn cn gs cs vp d) : ∃ cur, RowAt w gn 67 cur := own_typed h.now rfl
theorem DevIs.sureRow (h : DevIs w g gn cn gs cs vp d) : ∃ cur, RowAt w gs 67 cur := own_typed h.sure rfl
theorem DevIs.now_g (h : DevIs w g gn cn gs cs vp d) : gn ≠ g := fun e => by
  obtain ⟨cur, hr⟩ := h.nowRow
  exact absurd (row_typed (e ▸ hr) h.row) (by decide)
theorem DevIs.sure_g (h : DevIs w g gn cn gs cs vp d) : gs ≠ g := fun e => by
  obtain ⟨cur, hr⟩ := h.sureRow
  exact absurd (row_typed (e ▸ hr) h.row) (by decide)
theorem DevIs.pend_g (h : DevIs w g gn cn gs cs vp d) : vp.ownBlock ≠ some g := fun e => by
  obtain ⟨cur, hr⟩ := own_typed h.pend e
  exact absurd (row_typed hr h.row) (by decide)
theorem DevIs.pend_now (h : DevIs w g gn cn gs cs vp d) : vp.ownBlock ≠ some gn := fun e => by
  obtain ⟨cur, hr⟩ := own_typed h.pend e
  obtain ⟨cur2, hr2⟩ := h.nowRow
  exact absurd (row_typed hr hr2) (by decide)
theorem DevIs.pend_sure (h : DevIs w g gn cn gs cs vp d) : vp.ownBlock ≠ some gs := fun e => by
  obtain ⟨cur, hr⟩ := own_typed h.pend e
  obtain ⟨cur2, hr2⟩ := h.sureRow
  exact absurd (row_typed hr hr2) (by decide)
theorem DevIs.lt (h : DevIs w g gn cn gs cs vp d) {k : Nat} (hk : Foot g gn gs vp k) : k < w.heap.size := by
  rcases hk with rfl | rfl | rfl | hk
  · exact h.row.lt
  · obtain ⟨cur, hr⟩ := h.nowRow
    exact hr.lt
  · obtain ⟨cur, hr⟩ := h.sureRow
    exact hr.lt
  · obtain ⟨cur, hr⟩ := own_typed h.pend hk
    exact hr.lt
theorem DevIs.turned {F : Nat → Prop} (h : DevIs w g gn cn gs cs vp d) (ht : Turns F w w') (hF : ∀ k, Foot g gn gs vp k → ¬ F k) : DevIs w' g gn cn gs cs vp d where
  row := ht.row h.row (hF g (.inl rfl))
  now := ht.own h.now fun k hk => hF k (.inr (.inl (by simpa [Value.ownBlock] using hk.symm)))
  sure := ht.own h.sure fun k hk => hF k (.inr (.inr (.inl (by simpa [Value.ownBlock] using hk.symm))))
  pend := ht.own h.pend fun k hk => hF k (.inr (.inr (.inr hk)))
  apart := h.apart
  ok := h.ok
theorem DevIs.kept (h : DevIs w g gn cn gs cs vp d) (hb : Below w.heap.size w w') : DevIs w' g gn cn gs cs vp d := h.turned (F := fun _ => False) (Turns.of_below _ hb) fun _ _ h => h
theorem DevIs.drew (h : DevIs w g gn cn gs cs vp d) : DevIs w.drew g gn cn gs cs vp d := h.kept (Below.refl _ _).drew
/-- Its own row is written. -/
theorem DevIs.rowed (h : DevIs w g gn cn gs cs vp d) (hg : w.grownBy w' (some g)) {d' : Dev} (hr : RowAt w' g 59 #[.slice (some ⟨gn, 0, none⟩) d.now.length cn, .slice (some ⟨gs, 0, none⟩) d.now.length cs, vp, .bool d'.there, .int .i64 d'.left, .bool d'.burnt])
    (h1 : d'.now = d.now) (h2 : d'.sure = d.sure) (h3 : d'.pend = d.pend) (hok : d'.Ok) : DevIs w' g gn cn gs cs vp d' := by
  have ht : Turns (fun k => k = g) w w' := Turns.of_grown hg fun k hk => by injection hk with hk; exact hk.symm
  refine ⟨?_, ?_, ?_, ?_, h.apart, hok⟩
  · rw [h1]; exact hr
  · rw [h1]; exact ht.own h.now fun k hk e => h.now_g (by subst e; simpa [Value.ownBlock] using hk)
  · rw [h1, h2]; exact ht.own h.sure fun k hk e => h.sure_g (by subst e; simpa [Value.ownBlock] using hk)
  · rw [h3]; exact ht.own h.pend fun k hk e => h.pend_g (by subst e; exact hk)
theorem DevIs.vp_shape (h : DevIs w g gn cn gs cs vp d) : ∃ A c, vp = .slice A d.pend.length c := by
  rcases h.pend.2 with ⟨rfl, h0⟩ | ⟨k, cap, cur, rfl, _⟩
  · exact ⟨none, 0, by rw [h0]⟩
  · exact ⟨_, _, rfl⟩
theorem DevIs.cell (h : DevIs w g gn cn gs cs vp d) (i : Nat) (v : Value) (hv : (#[.slice (some ⟨gn, 0, none⟩) d.now.length cn, .slice (some ⟨gs, 0, none⟩) d.now.length cs, vp, .bool d.there, .int .i64 d.left, .bool d.burnt] : Array Value)[i]? = some v) : w.cell? ⟨g, i, none⟩ = some v := (h.row.cell i).trans hv
end

section
variable (w : World) (g gn cn gs cs : Nat) (vp : Value) (d : Dev)
theorem devLen_any (h : DevIs w g gn cn gs cs vp d) : Calls Try.prog 37 #[.pointer (some ⟨g, 0, none⟩)] w (RetV w (.int .i64 (d.now.length : Int))) := by
  have c0 := h.cell 0 _ rfl
  clear h
  go_enter Try.func37, Try.ntmps37
  go_wp2
  go_ret
  exact ⟨rfl, Below.refl _ _⟩
theorem devPending_any (h : DevIs w g gn cn gs cs vp d) : Calls Try.prog 26 #[.pointer (some ⟨g, 0, none⟩)] w (RetV w (.int .i64 (d.pend.length : Int))) := by
  have c2 := h.cell 2 _ rfl
  obtain ⟨A, c, rfl⟩ := h.vp_shape
  clear h
  go_enter Try.func26, Try.ntmps26
  go_wp2
  go_ret
  exact ⟨rfl, Below.refl _ _⟩
theorem devDown_any (h : DevIs w g gn cn gs cs vp d) : Calls Try.prog 27 #[.pointer (some ⟨g, 0, none⟩)] w (RetV w (.bool d.burnt)) := by
  have c5 := h.cell 5 _ rfl
  clear h
  go_enter Try.func27, Try.ntmps27
  go_wp2
  go_ret
  exact ⟨rfl, Below.refl _ _⟩
theorem devHas_any (h : DevIs w g gn cn gs cs vp d) (i : Int) : Calls Try.prog 30 #[.pointer (some ⟨g, 0, none⟩), .int .i64 i] w (RetV w (.bool (d.has i))) := by
  have HL : Hid (∀ w, DevIs w g gn cn gs cs vp d → Calls Try.prog 37 #[.pointer (some ⟨g, 0, none⟩)] w (RetV w (.int .i64 (d.now.length : Int)))) := fun w h => devLen_any w g gn cn gs cs vp d h
  have HH := Lib.hid h
  clear h
  by_cases h0 : 0 ≤ i
  · have hd : decide (0 ≤ i) = true := decide_eq_true h0
    go_enter Try.func30, Try.ntmps30
    go_wp2_with fail
    refine (HL.out _ HH.out).mono ?_
    rintro e w1 ⟨rfl, b1⟩
    have HB := Lib.hid b1
    clear b1
    go_wp2
    go_ret
    exact ⟨by unfold Dev.has; rw [hd]; rfl, HB.out⟩
  · have hd : decide (0 ≤ i) = false := decide_eq_false h0
    go_enter Try.func30, Try.ntmps30
    go_wp2
    go_ret
    exact ⟨by unfold Dev.has; rw [hd]; rfl, Below.refl _ _⟩
theorem devSet_any (h : DevIs w g gn cn gs cs vp d) (n : Int) (hn : -9223372036854775808 ≤ n ∧ n ≤ 9223372036854775807) : Calls Try.prog 34 #[.pointer (some ⟨g, 3, none⟩), .int .i64 n] w fun e w' => e = .returned (.tuple #[]) ∧ DevIs w' g gn cn gs cs vp (d.set n) ∧ w.grownBy w' (some g) := by
  have HH := Lib.hid h
  have c3 := h.cell 3 _ rfl
  have c4 := h.cell 4 _ rfl
  have z3 := h.row.frozen 3
  have z4 := h.row.frozen 4
  clear h
  go_enter Try.func34, Try.ntmps34
  go_wp2
  go_end0
  refine ⟨rfl, HH.out.rowed ((grown_setCell _ _ _ _).trans (grown_setCell _ _ _ _)) ((HH.out.row.put 3 _).put 4 _) rfl rfl rfl (HH.out.ok.set hn), (grown_setCell _ _ _ _).trans (grown_setCell _ _ _ _)⟩
theorem devSpend_any (h : DevIs w g gn cn gs cs vp d) : Calls Try.prog 31 #[.pointer (some ⟨g, 3, none⟩)] w fun e w' => e = .returned (.bool d.goes) ∧ DevIs w' g gn cn gs cs vp d.spend ∧ w.grownBy w' (some g) := by
  have HH := Lib.hid h
  have c3 := h.cell 3 _ rfl
  have c4 := h.cell 4 _ rfl
  have c5 := h.cell 5 _ rfl
  have z4 := h.row.frozen 4
  have z5 := h.row.frozen 5
  have hok := Lib.hid h.ok.spend
  have hl := h.ok.left
  have hf := h.ok.fuse
  clear h
  obtain ⟨now, sure, pend, there, left, burnt⟩ := d
  simp only at *
  rcases there with _ | _
  · rcases burnt with _ | _
    · have e1 : Hid (Dev.goes ⟨now, sure, pend, false, left, false⟩ = true) := rfl
      go_enter Try.func31, Try.ntmps31
      go_wp2
      go_ret
      exact ⟨rfl, HH.out.rowed (World.grownBy.refl _ _) HH.out.row rfl rfl rfl hok.out, World.grownBy.refl _ _⟩
    · go_enter Try.func31, Try.ntmps31
      go_wp2
      go_ret
      exact ⟨rfl, HH.out.rowed (World.grownBy.refl _ _) HH.out.row rfl rfl rfl hok.out, World.grownBy.refl _ _⟩
  · by_cases h0 : left = 0
    · subst h0
      rcases burnt with _ | _
      · go_enter Try.func31, Try.ntmps31
        go_wp2
        go_ret
        exact ⟨rfl, HH.out.rowed (grown_setCell _ _ _ _) (HH.out.row.put 5 _) rfl rfl rfl hok.out, grown_setCell _ _ _ _⟩
      · go_enter Try.func31, Try.ntmps31
        go_wp2
        go_ret
        exact ⟨rfl, HH.out.rowed (grown_setCell _ _ _ _) (HH.out.row.put 5 _) rfl rfl rfl hok.out, grown_setCell _ _ _ _⟩
    · have hd : decide (left = 0) = false := decide_eq_false h0
      have hf1 := hf rfl
      have hw : IntKind.i64.wrap (left - 1) = left - 1 := IntWalk.i64_in _ (by omega)
      rcases burnt with _ | _
      · have e1 : Hid (Dev.goes ⟨now, sure, pend, true, left, false⟩ = true) := by show _ = _; simp [Dev.goes, h0]
        have e2 : Hid (Dev.spend ⟨now, sure, pend, true, left, false⟩ = ⟨now, sure, pend, true, left - 1, false⟩) := by show _ = _; unfold Dev.spend; rw [e1.out]; rfl
        go_enter Try.func31, Try.ntmps31
        go_wp2
        go_ret
        rw [e1.out, e2.out]
        refine ⟨rfl, HH.out.rowed (grown_setCell _ _ _ _) (HH.out.row.put 4 _) rfl rfl rfl (e2.out ▸ hok.out), grown_setCell _ _ _ _⟩
      · go_enter Try.func31, Try.ntmps31
        go_wp2
        go_ret
        exact ⟨rfl, HH.out.rowed (World.grownBy.refl _ _) HH.out.row rfl rfl rfl hok.out, World.grownBy.refl _ _⟩
end
end Go.Proofs.Ytenmgpijhaalbaa
