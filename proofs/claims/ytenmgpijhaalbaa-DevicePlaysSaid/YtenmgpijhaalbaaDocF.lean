/-
  Contract of the document's New. Conditions: as it names them.
-/
import Derived.Test.YtenmgpijhaalbaaDocE
namespace Go.Proofs.Ytenmgpijhaalbaa
open Go.RowKit
set_option linter.unusedVariables false
set_option maxRecDepth 20000

theorem docNew_none (w : World) (n : Int) (h1 : n < 1 ∨ 600 < n) :
    Calls Try.prog 10 #[.int .i64 n] w fun e w' => e = .returned (.tuple #[.pointer none, .int .i64 1]) ∧ Below w.heap.size w w' := by
  by_cases h : n < 1
  · have hd1 : decide (n < 1) = true := by simp; omega
    go_enter Try.func10, Try.ntmps10
    go_wp2
    go_ret2
    exact ⟨rfl, Below.refl _ _⟩
  · have hd1 : decide (n < 1) = false := by simp; omega
    have hd2 : decide (600 < n) = true := by simp; omega
    go_enter Try.func10, Try.ntmps10
    go_wp2
    go_ret2
    exact ⟨rfl, Below.refl _ _⟩
def zeroDoc : Array Value := #[.slice none 0 0, .slice none 0 0, .bool false, .int .i64 0, .bool false]
theorem Try.builtDoc0 : Try.prog.built 63 [] = some zeroDoc := by kernel_rfl
/-- The device behind k rounds. -/
structure Amid (w wr : World) (g k : Nat) (v : Value) (ss : List (List UInt8 × Value)) : Prop where
  row : RowAt wr g 63 #[v, .slice none 0 0, .bool false, .int .i64 0, .bool false]
  spot : w.heap.size ≤ g
  own : wr.ownsRow w.heap.size 31 1 v k (ss.map (·.2))
  isS : ss.map (·.1) = List.replicate k zeroSec
  each : ∀ x ∈ ss, Bs wr x.2 x.1 ∧ ∀ k, x.2.ownBlock = some k → w.heap.size ≤ k ∧ k ≠ g ∧ k < wr.heap.size ∧ ∃ cur, RowAt wr k 5 cur
  below : Below w.heap.size w wr
theorem pad_nil : pad [] = zeroSec := rfl

set_option maxHeartbeats 4000000 in
theorem docNew_any (w : World) (n : Nat) (h1 : 1 ≤ n) (h2 : n ≤ 600) :
    Calls Try.prog 10 #[.int .i64 (n : Int)] w fun e w' => ∃ g, e = .returned (.tuple #[.pointer (some ⟨g, 0, none⟩), .int .i64 0]) ∧ w.heap.size ≤ g ∧ g < w'.heap.size ∧ DocIn w' (fun k => w.heap.size ≤ k ∧ k < w'.heap.size ∧ k ≠ g) g (Ab.new n) ∧ Below w.heap.size w w' := by
  have hd1 : decide ((n : Int) < 1) = false := by simp; omega
  have hd2 : decide ((600 : Int) < (n : Int)) = false := by simp; omega
  go_enter Try.func10, Try.ntmps10
  go_wp2_with (first
    | (with_reducible refine wpList_val (o := ⟨some 12, _, _, _, _, _⟩) rfl (.agg zeroDoc) (by exact run_builtOp 63 #[] rfl _ Try.builtDoc0) ?_)
    | ((with_reducible refine wpList_box_row (o := ⟨some 13, _, _, _, _, _⟩) rfl 63 (.tmp 12) rfl zeroDoc (by with_unfolding_all rfl) ?_); intro g w1 n1; have N1 := Lib.hid n1; clear n1))
  go_loopw [5] (fun u wr => ∃ (k : Nat) (v : Value) (ss : List (List UInt8 × Value)), k ≤ n ∧ u = .int .i64 (k : Int) ∧ Hid (Amid w wr g k v ss)) (fun u _ => n - (intOf u).toNat)
  case atStart => exact ⟨0, .slice none 0 0, [], by omega, rfl, N1.out.row, Nat.le_of_eq N1.out.spot.symm, World.ownsRow_nil _ _ _ _, rfl, fun x hx => (nomatch hx), N1.out.below⟩
  case round =>
    obtain ⟨k, v, ss, hk, rfl, HA⟩ := hrel
    clear N1
    by_cases hlt : k < n
    · have hd3 : decide ((k : Int) < (n : Int)) = true := by simp; omega
      go_wp2_with fail
      have c0 : wr.cell? ⟨g, 0, none⟩ = some v := HA.out.row.cell 0
      have hS : (fun W : World => W.cell? ⟨g, 0, none⟩ = some v) wr.drew := c0
      refine plain_region (S := fun W => W.cell? ⟨g, 0, none⟩ = some v) (fin := fun i => i == 10) (by kernel_rfl) ?_
      change walkS _ _ _ _ _ _ 11 _ _ _
      refine walkS_take (i := 0) (oi := ⟨some 19, _, _, _, _, _⟩) (v := (.pointer (some ⟨g, 0, none⟩))) rfl (by kernel_rfl) (by kernel_rfl) (fun _ _ _ h => h) _ _ _ _ (by kernel_rfl) (by kernel_rfl) (Or.inl ⟨by rfl, fun w' hS' => (by clear hS hS'; go_simp)⟩) hS ?_
      try simp only [Act.put, List.setIfInBounds_toArray, List.set_cons_zero, List.set_cons_succ]
      refine walkS_take (i := 1) (oi := ⟨some 20, _, _, _, _, _⟩) (v := (.pointer (some ⟨g, 0, none⟩))) rfl (by kernel_rfl) (by kernel_rfl) (fun _ _ _ h => h) _ _ _ _ (by kernel_rfl) (by kernel_rfl) (Or.inl ⟨by rfl, fun w' hS' => (by clear hS hS'; go_simp)⟩) hS ?_
      try simp only [Act.put, List.setIfInBounds_toArray, List.set_cons_zero, List.set_cons_succ]
      refine walkS_take (i := 2) (oi := ⟨some 21, _, _, _, _, _⟩) (v := (.pointer (some ⟨g, 0, none⟩))) rfl (by kernel_rfl) (by kernel_rfl) (fun _ _ _ h => h) _ _ _ _ (by kernel_rfl) (by kernel_rfl) (Or.inl ⟨by rfl, fun w' hS' => (by clear hS hS'; go_simp)⟩) hS ?_
      try simp only [Act.put, List.setIfInBounds_toArray, List.set_cons_zero, List.set_cons_succ]
      refine walkS_take (i := 3) (oi := ⟨some 22, _, _, _, _, _⟩) (v := (.pointer (some ⟨g, 0, none⟩))) rfl (by kernel_rfl) (by kernel_rfl) (fun _ _ _ h => h) _ _ _ _ (by kernel_rfl) (by kernel_rfl) (Or.inl ⟨by rfl, fun w' hS' => (by clear hS hS'; go_simp)⟩) hS ?_
      try simp only [Act.put, List.setIfInBounds_toArray, List.set_cons_zero, List.set_cons_succ]
      refine walkS_take (i := 4) (oi := ⟨some 23, _, _, _, _, _⟩) (v := v) rfl (by kernel_rfl) (by kernel_rfl) (fun _ _ _ h => h) _ _ _ _ (by kernel_rfl) (by kernel_rfl) (Or.inl ⟨by rfl, fun w' hS' => (by clear hS; go_simp)⟩) hS ?_
      try simp only [Act.put, List.setIfInBounds_toArray, List.set_cons_zero, List.set_cons_succ]
      clear hS
      refine walkS_only (i := 5) (o := ⟨some 24, _, _, _, _, _⟩) (by kernel_rfl) rfl rfl fun KK hKK => ?_
      go_simp
      refine (full_any wr.drew _ [] (Bs.nil _) (by decide)).mono ?_
      rintro e w2 ⟨vf, rfl, of, b2⟩
      rw [pad_nil] at of
      have b2' := below_size (Below.refl _ wr).drew b2
      have hS : (fun W : World => W.cell? ⟨g, 0, none⟩ = some v) w2 := (b2'.cell (p := ⟨g, 0, none⟩) HA.out.row.lt).trans c0
      refine hKK _ _ (.inr hS) ?_
      try simp only [Act.put, List.setIfInBounds_toArray, List.set_cons_zero, List.set_cons_succ]
      clear hKK KK c0
      have hv1 : ∀ u ∈ [vf], u.oneCell' = true := fun u hu => by rw [List.mem_singleton.1 hu]; exact of.bs.oneCell
      have OF := Lib.hid of
      have B2 := Lib.hid b2'
      clear of b2 b2'
      refine walkS_only (i := 6) (o := ⟨some 25, _, _, _, _, _⟩) (by kernel_rfl) rfl rfl fun KK hKK => ?_
      refine wp_oneCell 60 31 (.tmp 24) rfl vf 24 (.slice none 0 0) (by with_unfolding_all rfl) (hv1 vf (List.mem_singleton.2 rfl)) Try.underlying60 Try.infoSl ?_
      intro g3 w3 n3
      have hS3 : (fun W : World => W.cell? ⟨g, 0, none⟩ = some v) w3 := (n3.below.cell (p := ⟨g, 0, none⟩) (Nat.lt_of_lt_of_le HA.out.row.lt B2.out.size)).trans hS
      refine hKK _ _ (.inr hS3) ?_
      try simp only [Act.put, List.setIfInBounds_toArray, List.set_cons_zero, List.set_cons_succ]
      clear hKK KK hS
      have N3 := Lib.hid n3.row
      have B3 := Lib.hid (below_size B2.out n3.below)
      have OF3 := Lib.hid (OF.out.below n3.below)
      have hO3 : Hid (w3.ownsRow w.heap.size 31 1 v k (ss.map (·.2))) := own_kept HA.out.own B3.out
      clear n3 OF B2
      refine walkS_only (i := 7) (o := ⟨some 26, _, _, _, _, _⟩) (by kernel_rfl) rfl rfl fun KK hKK => ?_
      have hsz3 : w.heap.size ≤ w3.heap.size := Nat.le_trans HA.out.below.size B3.out.size
      refine wp_append_at (.tmp 23) (.tmp 25) 60 rfl w.heap.size 31 (.slice none 0 0) 1 24 Try.underlying60 Try.infoSl (by decide) (by decide) v k (ss.map (·.2)) (by with_unfolding_all rfl) hO3.out ⟨g3, 0, none⟩ 1 1 [vf] (by with_unfolding_all rfl) rfl (row_from N3.out) hv1 (by unfold maxLen; omega) (by omega) hsz3 ?_
      intro v4 w4 o4 g4 at4
      have hvg : v.ownBlock ≠ some g := fun e => by
        obtain ⟨cur, hr⟩ := own_typed HA.out.own e
        exact absurd (row_typed hr HA.out.row) (by decide)
      have R3 : RowAt w3 g 63 #[v, .slice none 0 0, .bool false, .int .i64 0, .bool false] := HA.out.row.kept B3.out
      have R4 := R3.grown g4 (fun e => hvg e.symm)
      have hS : (fun W : World => W.cell? ⟨g, 0, none⟩ = some v) w4 := R4.cell 0
      refine hKK _ _ (.inr hS) ?_
      try simp only [Act.put, List.setIfInBounds_toArray, List.set_cons_zero, List.set_cons_succ]
      clear hKK KK hS3
      have O4 := Lib.hid o4
      have G4 := Lib.hid g4
      have HR4 := Lib.hid R4
      clear o4 g4 R4 R3
      refine walkS_only (i := 8) (o := ⟨some 27, _, _, _, _, _⟩) (by kernel_rfl) rfl rfl fun KK hKK => ?_
      go_simp
      refine hKK _ _ (.inr hS) ?_
      clear hKK KK
      refine walkS_take (i := 9) (oi := ⟨some 28, _, _, _, _, _⟩) (v := (.pointer (some ⟨g, 0, none⟩))) rfl (by kernel_rfl) (by kernel_rfl) (fun _ _ _ h => h) _ _ _ _ (by kernel_rfl) (by kernel_rfl) (Or.inl ⟨by rfl, fun w' hS' => (by clear hS hS'; go_simp)⟩) hS ?_
      try simp only [Act.put, List.setIfInBounds_toArray, List.set_cons_zero, List.set_cons_succ]
      refine walkS_only (i := 10) (o := ⟨none, _, _, _, _, _⟩) (by kernel_rfl) rfl rfl fun KK hKK => ?_
      have c4 := hS
      have z4 := HR4.out.frozen 0
      clear hS
      obtain ⟨A8, m8, c8, rfl⟩ : ∃ A m c, v4 = .slice A m c := own_shape3 O4.out
      go_simp
      refine hKK _ _ (.inl rfl) ?_
      clear hKK KK
      refine walkS_done (by kernel_rfl) ?_ _
      go_wp2_with fail
      have hsp := HA.out.spot
      have t34 : Turns (fun k => v.ownBlock = some k) w3 w4 := Turns.of_grown G4.out fun k hk => hk
      have tS : Turns (fun k => k = g) w4 (w4.setCell ⟨g, 0, none⟩ (.slice A8 m8 c8)) := turns_g (grown_setCell _ _ _ _)
      have main : ∀ (u : Value) (l : List UInt8), (Bs w3 u l ∧ ∀ k, u.ownBlock = some k → w.heap.size ≤ k ∧ k ≠ g ∧ ∃ cur, RowAt w3 k 5 cur) → (Bs (w4.setCell ⟨g, 0, none⟩ (.slice A8 m8 c8)) u l ∧ ∀ k, u.ownBlock = some k → w.heap.size ≤ k ∧ k ≠ g ∧ k < (w4.setCell ⟨g, 0, none⟩ (.slice A8 m8 c8)).heap.size ∧ ∃ cur, RowAt (w4.setCell ⟨g, 0, none⟩ (.slice A8 m8 c8)) k 5 cur) := by
        intro u l ⟨hb, hk⟩
        have hne : ∀ k, u.ownBlock = some k → v.ownBlock ≠ some k := fun k hk1 hv => by
          obtain ⟨cur, hr⟩ := own_typed hO3.out hv
          obtain ⟨_, _, cur2, hr2⟩ := hk k hk1
          exact absurd (row_typed hr hr2) (by decide)
        refine ⟨tS.bs (t34.bs hb hne) fun k hk1 => (hk k hk1).2.1, fun k hk1 => ?_⟩
        obtain ⟨q1, q2, cur, hr⟩ := hk k hk1
        have hr2 := tS.row (t34.row hr (hne k hk1)) q2
        exact ⟨q1, q2, hr2.lt, cur, hr2⟩
      refine ⟨⟨k + 1, _, ss ++ [(zeroSec, vf)], by omega, by congr 1, ⟨HR4.out.put 0 _, hsp, ?_, ?_, fun x hx => ?_, ?_⟩⟩, ?_⟩
      · refine tS.own (n := k + 1) ?_ fun k hk e => ?_
        · rw [List.map_append]; exact O4.out
        · obtain ⟨cur, hr⟩ := own_typed O4.out hk
          exact absurd (row_typed (e ▸ hr) HR4.out) (by decide)
      · rw [List.map_append, HA.out.isS, List.replicate_succ']
        rfl
      · refine main x.2 x.1 ?_
        rcases List.mem_append.1 hx with hx | hx
        · obtain ⟨q1, q2⟩ := HA.out.each x hx
          refine ⟨q1.below B3.out, fun k hk => ?_⟩
          obtain ⟨q3, q4, _, cur, hr⟩ := q2 k hk
          exact ⟨q3, q4, cur, hr.kept B3.out⟩
        · rw [List.mem_singleton.1 hx]
          refine ⟨OF3.out.bs, fun k hk => ?_⟩
          have q1 := OF3.out.rows k hk
          have q2 := HA.out.row.lt
          have q3 := HA.out.below.size
          obtain ⟨cur, hr⟩ := own_typed OF3.out hk
          have q4 : wr.heap.size ≤ k := q1
          exact ⟨by omega, by omega, cur, hr⟩
      · have hb3 := below_size HA.out.below B3.out
        exact (hb3.grown G4.out hb3.size fun k hk => (World.ownsRow.lt hO3.out k hk).1).setCell hsp _
      · show n - ((k : Int) + 1).toNat < n - (k : Int).toNat
        omega
    · have hk2 : k = n := by omega
      subst hk2
      have hd3 : decide ((k : Int) < (k : Int)) = false := by simp
      go_wp2_with fail
      go_ret2
      have hA := HA.out
      have hl : ss.length = k := by
        have := congrArg List.length hA.isS
        rwa [List.length_map, List.length_replicate] at this
      have hlo := World.ownsRow.lt hA.own
      refine ⟨g, rfl, hA.spot, hA.row.lt, ⟨v, .slice none 0 0, ss, [], ⟨hA.row, fun h => h.2.2 rfl, ?_, Row_.nil _ _, fun x hx => ⟨(hA.each x hx).1, fun k hk => ?_⟩, fun x hx => (nomatch hx), hA.isS.symm, rfl⟩⟩, hA.below⟩
      · refine Row_.of_own hA.own hl.symm fun j hj => ⟨(hlo j hj).1, (hlo j hj).2, fun e => ?_⟩
        obtain ⟨cur, hr⟩ := own_typed hA.own hj
        exact absurd (row_typed (e ▸ hr) hA.row) (by decide)
      · obtain ⟨q1, q2, q3, _⟩ := (hA.each x hx).2 k hk
        exact ⟨q1, q3, q2⟩
end Go.Proofs.Ytenmgpijhaalbaa
