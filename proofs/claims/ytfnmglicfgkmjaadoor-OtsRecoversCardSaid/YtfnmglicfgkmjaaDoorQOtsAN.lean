/-
  Texts that belong together, merged: OtsRefA, OtsRefB, MacL, OtsRefC, OtsRefD. Conditions: as each theorem names them.
-/
import Derived.Test.YtfnmglicfgkmjaaDoorQOtsAJ
import Derived.Test.YtfnmglicfgkmjaaDoorQOtsAG
import Derived.Test.YtfnmglicfgkmjaaDoorQOtsAK
import Derived.Test.YtfnmglicfgkmjaaDoorQOtsAH
import Derived.Test.YtfnmglicfgkmjaaDoorQOtsAB
import Derived.Lib.AppendStr
import Derived.Test.YtfnmglicfgkmjaaDoorQOtsAF
section
namespace Go.Proofs.YtfnmglicfgkmjaaDoor
open Go.RowKit
set_option linter.unusedVariables false
set_option maxRecDepth 20000

section
variable {w0 w w' : World} {rs : List (Nat × TypeId × Array Value)} {m g n n' : Nat}
theorem Env.toLog (hE : Env w0 rs w) (hm : rs[m]? = some (g, 32, logC n)) : LogR w0 w g n w := LogR.new hE.below (hE.row m hm) (hE.spot m hm)
theorem Env.ofLog (hE : Env w0 rs w) (hm : rs[m]? = some (g, 32, logC n)) (h : LogR w0 w g n' w') : Env w0 (rs.set m (g, 32, logC n')) w' := hE.turned m hm h.row h.grown
theorem LogSum_env (hE : Env w0 rs w) (hm : rs[m]? = some (g, 32, logC n)) (v : Value) (l d : List UInt8) (hn : n ≤ 1000000000) (hd : d = digestB l) (hb : Bs w v l) (hl : l.length ≤ 1000000) :
    Calls Tryd.prog 27 #[.pointer (some ⟨g, 0, none⟩), v] w fun e w' => e = .returned (.agg (keyC d)) ∧ Env w0 (rs.set m (g, 32, logC (n + 1))) w' :=
  (LogSum_run w0 w g n v l d (hE.toLog hm) hn hd hb hl).mono fun _ _ h => ⟨h.1, hE.ofLog hm h.2⟩
end
theorem refNum_any (w : World) (z : Int) (k : Nat) (hk : (k : Int) = z % 18446744073709551616) : Calls Tryd.prog 26 #[.int .u64 (k : Int), .int .i64 2] w (RetBs w (numB z)) := by
  have h := refHigh_any w k (by omega) 2 (by omega)
  have e : highI k 2 = numB z := by
    unfold highI numB
    rw [show (2 : Int) = ((2 : Nat) : Int) from rfl, lowI_in k 2 (by omega) (by omega), ← hk]
    rfl
  rw [e] at h
  exact h

set_option maxHeartbeats 4000000 in
theorem refAlong_env (w0 w : World) (rs : List (Nat × TypeId × Array Value)) (m g n : Nat) (hE : Env w0 rs w) (hm : rs[m]? = some (g, 32, logC n)) (tag v : List UInt8) (ltag : tag.length = 32) (lv : v.length = 32)
    (c i0 i1 : Int) (hc : -9223372036854775808 ≤ c ∧ c ≤ 9223372036854775807) (hi0 : -9223372036854775808 ≤ i0 ∧ i0 ≤ 9223372036854775807) (hi1 : -9223372036854775808 ≤ i1 ∧ i1 ≤ 9223372036854775807) (k : Nat) (hk : k = (i1 - i0).toNat) (hk2 : k ≤ 1000) (hn : n ≤ 900000000) :
    Calls Tryd.prog 13 #[.pointer (some ⟨g, 0, none⟩), .agg (keyC tag), .int .i64 c, .int .i64 i0, .int .i64 i1, .agg (keyC v)] w fun e w' => e = .returned (.agg (keyC (alongB tag c i0 v k))) ∧ Env w0 (rs.set m (g, 32, logC (n + k))) w' := by
  have HM := Lib.hid hm
  have E0 := Lib.hid hE
  have LT := Lib.hid ltag
  have LA : Hid (∀ j, (alongB tag c i0 v j).length = 32) := fun j => alongB_length tag c i0 v lv j
  obtain ⟨cu, hcu⟩ : ∃ z : Nat, (z : Int) = c % 18446744073709551616 := ⟨(c % 18446744073709551616).toNat, by omega⟩
  have wc : IntKind.u64.wrap c = (cu : Int) := by rw [IntKind.wrap_u64, hcu]
  have CC : Hid (∀ w, Calls Tryd.prog 26 #[.int .u64 (cu : Int), .int .i64 2] w (RetBs w (numB c))) := fun w => refNum_any w c cu hcu
  have CI : Hid (∀ (z : Int) (zu : Nat) w, (zu : Int) = z % 18446744073709551616 → Calls Tryd.prog 26 #[.int .u64 (zu : Int), .int .i64 2] w (RetBs w (numB z))) := fun z zu w h => refNum_any w z zu h
  have HT : Hid (∀ x, Calls Tryd.prog 25 #[.agg (keyC tag)] x (RetOwn x 5 tag)) := fun x => refBytes_own x tag LT.out
  clear hm hE ltag hcu
  go_enter Tryd.func13, Tryd.ntmps13
  go_wp2_with (first
    | ((with_reducible refine wpE_box (o := ⟨some 7, _, _, _, _, _⟩) rfl 23 (.tmp 1) rfl (keyC tag) (by with_unfolding_all rfl) E0.out ?_); intro g7 w1 T1; have E1 := Lib.hid T1; clear T1)
    | ((with_reducible refine wpE_box (o := ⟨some 11, _, _, _, _, _⟩) rfl 23 (.tmp 5) rfl (keyC v) (by with_unfolding_all rfl) E1.out ?_); intro g11 w2 T2; have E2 := Lib.hid T2; clear T2)
    | ((with_reducible refine wpE_alloc (o := ⟨some 12, _, _, _, _, _⟩) rfl 23 rfl (keyC zeroKey) Tryd.zeroK E2.out ?_); intro g12 w3 T3; have E3 := Lib.hid T3; clear T3))
  clear E0 E1 E2
  go_loopw [13] (fun i wr => ∃ j : Nat, j ≤ k ∧ i = .int .i64 (i0 + (j : Int)) ∧ Env w0 ((g12, 23, keyC zeroKey) :: (g11, 23, keyC (alongB tag c i0 v j)) :: (g7, 23, keyC tag) :: rs.set m (g, 32, logC (n + j))) wr) (fun i _ => (i1 - intOf i).toNat)
  case atStart => exact ⟨0, by omega, by simp, by rw [Nat.add_zero, set_id HM.out]; exact E3.out⟩
  case round =>
    clear E3
    obtain ⟨j, hj, rfl, hE⟩ := hrel
    have E := Lib.hid hE
    clear hE
    by_cases hlt : j < k
    · have hlt2 : i0 + (j : Int) < i1 := by omega
      have hw1 : IntKind.i64.wrap (i0 + (j : Int) + 1) = i0 + (j : Int) + 1 := IntWalk.i64_in _ (by omega)
      obtain ⟨z, hz⟩ : ∃ z, z = i0 + (j : Int) := ⟨_, rfl⟩
      obtain ⟨zu, hzu⟩ : ∃ y : Nat, (y : Int) = z % 18446744073709551616 := ⟨(z % 18446744073709551616).toNat, by omega⟩
      have wz : IntKind.u64.wrap z = (zu : Int) := by rw [IntKind.wrap_u64, hzu]
      have CZ : Hid (∀ w, Calls Tryd.prog 26 #[.int .u64 (zu : Int), .int .i64 2] w (RetBs w (numB z))) := fun w => CI.out z zu w hzu
      obtain ⟨a, ha⟩ : ∃ a, a = alongB tag c i0 v j := ⟨_, rfl⟩
      have LAJ : Hid (a.length = 32) := by show _ = _; rw [ha]; exact LA.out j
      have CB : Hid (∀ x, Calls Tryd.prog 25 #[.agg (keyC a)] x (RetOwn x 5 a)) := fun x => refBytes_own x a LAJ.out
      obtain ⟨d, hd⟩ : ∃ d, d = digestB (tag ++ numB c ++ numB z ++ a) := ⟨_, rfl⟩
      have LD : Hid (d.length = 32) := by show _ = _; rw [hd]; exact digestB_length _
      have HD := Lib.hid hd
      have HA : Hid (alongB tag c i0 v (j + 1) = d) := by
        show _ = _
        rw [alongB, hd, ← ha, ← hz]
      have l1 : (numB c).length = 2 := numB_length c
      have l2 : (numB z).length = 2 := numB_length z
      have hl1 : Hid (tag.length + (numB c).length ≤ 140737488355328) := by show _ ≤ _; rw [LT.out, l1]; omega
      have hl2 : Hid ((tag ++ numB c).length + (numB z).length ≤ 140737488355328) := by show _ ≤ _; rw [List.length_append, LT.out, l1, l2]; omega
      have hl3 : Hid ((tag ++ numB c ++ numB z).length + a.length ≤ 140737488355328) := by show _ ≤ _; rw [List.length_append, List.length_append, LT.out, l1, l2, LAJ.out]; omega
      have hl4 : Hid ((tag ++ numB c ++ numB z ++ a).length ≤ 1000000) := by show _ ≤ _; rw [List.length_append, List.length_append, List.length_append, LT.out, l1, l2, LAJ.out]; omega
      rw [← ha] at E
      rw [← hz] at hw1 hlt2 ⊢
      have HZ := Lib.hid hz
      clear hz ha hd l1 l2 hzu CI
      go_wp2_with (with_reducible refine wpE_load (o := ⟨some 21, _, _, _, _, _⟩) rfl 23 (.tmp 7) rfl 2 g7 23 (keyC tag) _ (by with_unfolding_all rfl) (by with_unfolding_all rfl) Tryd.underlying23 rfl (Tryd.sizeKey _ LT.out) E.out ?_)
      refine (HT.out _).mono ?_
      intro e w4 h
      obtain ⟨u1, he, o4, b4⟩ := h
      subst he
      have O4 := Lib.hid o4
      have B4 := Lib.hid b4
      clear o4 b4
      go_wp2_with fail
      refine (CC.out _).mono ?_
      intro e w5 h
      obtain ⟨u2, he, hu2, b5⟩ := h
      subst he
      have O5 := Lib.hid (O4.out.below b5)
      have B5 := Lib.hid (below_size B4.out b5)
      have U2 := Lib.hid hu2
      clear hu2 b5 O4 B4
      go_wp2_with (at_builtin; refine wpList_appB _ rfl (.tmp 22) (.tmp 25) 68 rfl wr 5 Tryd.infoB Tryd.underlying68 _ _ tag (numB c) rfl rfl O5.out U2.out hl1.out B5.out ?_; intro v6 w6 o6 b6; have O6 := Lib.hid o6; have B6 := Lib.hid b6; clear o6 b6 O5 B5 U2)
      refine (CZ.out _).mono ?_
      intro e w7 h
      obtain ⟨u7, he, hu7, b7⟩ := h
      subst he
      have O7 := Lib.hid (O6.out.below b7)
      have B7 := Lib.hid (below_size B6.out b7)
      have U7 := Lib.hid hu7
      clear hu7 b7 O6 B6
      go_wp2_with (first
        | (at_builtin; refine wpList_appB _ rfl (.tmp 27) (.tmp 30) 68 rfl wr 5 Tryd.infoB Tryd.underlying68 _ _ (tag ++ numB c) (numB z) rfl rfl O7.out U7.out hl2.out B7.out ?_; intro v8 w8 o8 b8; have O8 := Lib.hid o8; have B8 := Lib.hid b8; clear o8 b8 O7 B7 U7)
        | (with_reducible refine wpE_load (o := ⟨some 34, _, _, _, _, _⟩) rfl 23 (.tmp 11) rfl 1 g11 23 (keyC a) _ (by with_unfolding_all rfl) (by with_unfolding_all rfl) Tryd.underlying23 rfl (Tryd.sizeKey _ LAJ.out) (E.out.call B8.out) ?_))
      refine (CB.out _).mono ?_
      intro e w9 h
      obtain ⟨u9, he, o9, b9⟩ := h
      subst he
      have O9 := Lib.hid (O8.out.below b9)
      have B9 := Lib.hid (below_size B8.out b9)
      have U9 := Lib.hid o9.bs
      clear o9 b9 O8 B8
      go_wp2_with (at_builtin; refine wpList_appB _ rfl (.tmp 33) (.tmp 35) 68 rfl wr 5 Tryd.infoB Tryd.underlying68 _ _ (tag ++ numB c ++ numB z) a rfl rfl O9.out U9.out hl3.out B9.out ?_; intro v10 w10 o10 b10; have O10 := Lib.hid o10.bs; have E10 := Lib.hid (E.out.call b10); clear o10 b10 O9 B9 U9)
      refine (LogSum_env (m := m + 3) (n := n + j) E10.out (by simp only [List.getElem?_cons_succ]; exact set_at HM.out) _ _ d (by omega) HD.out O10.out hl4.out).mono ?_
      intro e w11 h
      obtain ⟨he, h11⟩ := h
      subst he
      simp only [List.set_cons_succ, List.set_set] at h11
      have E11 := Lib.hid h11
      clear h11 E10 E O10
      go_wp2_with ((with_reducible refine wpE_store (o := ⟨none, _, _, _, _, _⟩) rfl 23 (.tmp 11) (.tmp 37) rfl 1 g11 23 (keyC a) (keyC d) (by with_unfolding_all rfl) (by with_unfolding_all rfl) (by with_unfolding_all rfl) (keyC_same LAJ.out LD.out) (Tryd.sizeKey _ LD.out) (keyC_one _) E11.out ?_); intro w12 T12; simp only [List.set_cons_zero, List.set_cons_succ] at T12; have E12 := Lib.hid T12; clear T12 E11)
      rw [← HA.out] at E12
      refine ⟨⟨j + 1, by omega, by rw [HZ.out]; congr 1; omega, by rw [← Nat.add_assoc]; exact E12.out⟩, ?_⟩
      show (i1 - (z + 1)).toNat < (i1 - z).toNat
      omega
    · have hlt2 : ¬ i0 + (j : Int) < i1 := by omega
      have hjk : j = k := by omega
      clear hk
      subst hjk
      have LD : Hid ((alongB tag c i0 v j).length = 32) := by show _ = _; exact LA.out j
      clear LA CC CI
      go_wp2_with (first
        | (with_reducible refine wpE_load (o := ⟨some 38, _, _, _, _, _⟩) rfl 23 (.tmp 11) rfl 1 g11 23 (keyC (alongB tag c i0 v j)) _ (by with_unfolding_all rfl) (by with_unfolding_all rfl) Tryd.underlying23 rfl (Tryd.sizeKey _ LD.out) E.out ?_)
        | ((with_reducible refine wpE_store (o := ⟨none, _, _, _, _, _⟩) rfl 23 (.tmp 12) (.tmp 38) rfl 0 g12 23 (keyC zeroKey) (keyC (alongB tag c i0 v j)) (by with_unfolding_all rfl) (by with_unfolding_all rfl) (by with_unfolding_all rfl) (keyC_same zeroKey_length LD.out) (Tryd.sizeKey _ LD.out) (keyC_one _) E.out ?_); intro w5 T5; simp only [List.set_cons_zero] at T5; have E5 := Lib.hid T5; clear T5))
      exact bodyPost_ret (results_cell_row rfl _ _ g12 23 (keyC (alongB tag c i0 v j)) (0, 0) (.array 32 5) rfl (E5.out.row 0 rfl) Tryd.underlying23 rfl (Tryd.sizeKey _ LD.out)) rfl ⟨rfl, E5.out.tl.tl.tl⟩
end Go.Proofs.YtfnmglicfgkmjaaDoor
end
section
namespace Go.Proofs.YtfnmglicfgkmjaaDoor
open Go.RowKit
set_option linter.unusedVariables false
set_option maxRecDepth 20000

theorem Env.add {w0 w : World} {rs : List (Nat × TypeId × Array Value)} {g : Nat} {t : TypeId} {cs : Array Value} (h : Env w0 rs w) (hr : RowAt w g t cs) (hs : w0.heap.size ≤ g) (hne : ∀ r ∈ rs, r.1 ≠ g) : Env w0 ((g, t, cs) :: rs) w :=
  ⟨h.below, fun r hm => by
    rcases List.mem_cons.1 hm with rfl | hm
    · exact ⟨hr, hs⟩
    · exact h.rows r hm, List.nodup_cons.2 ⟨fun hm => by
      obtain ⟨r, hr, he⟩ := List.mem_map.1 hm
      exact hne r hr he, h.apart⟩⟩
theorem halves_get (d : List UInt8) : ∀ i, i < 2 * d.length → (halvesL d).getD i 0 = if i % 2 = 1 then (d.getD (i / 2) 0).toNat % 16 else (d.getD (i / 2) 0).toNat / 16 := by
  induction d with
  | nil => intro i h; simp at h
  | cons b d ih =>
    intro i h
    have e : halvesL (b :: d) = (b.toNat / 16) :: (b.toNat % 16) :: halvesL d := rfl
    rw [e]
    match i with
    | 0 => rfl
    | 1 => rfl
    | i + 2 =>
      have h2 := ih i (by simp only [List.length_cons] at h; omega)
      rw [List.getD_cons_succ, List.getD_cons_succ, h2, show (i + 2) % 2 = i % 2 by omega, show (i + 2) / 2 = i / 2 + 1 by omega, List.getD_cons_succ]
/-- What the first i digits lack. -/
def lackN (l : List Nat) (i : Nat) : Nat := ((l.take i).map fun x => 15 - x).sum
theorem lackN_next (l : List Nat) (i : Nat) (h : i < l.length) : lackN l (i + 1) = lackN l i + (15 - l.getD i 0) := by
  unfold lackN
  rw [List.take_succ_eq_append_getElem h, List.map_append, List.sum_append, List.getD_eq_getElem?_getD, List.getElem?_eq_getElem h]
  simp
theorem lackN_le (l : List Nat) (i : Nat) : lackN l i ≤ 15 * i := by
  unfold lackN
  have : ∀ m : List Nat, (m.map fun x => 15 - x).sum ≤ 15 * m.length := fun m => by
    induction m with
    | nil => simp
    | cons x m ih => simp only [List.map_cons, List.sum_cons, List.length_cons]; omega
  have h1 := this (l.take i)
  have h2 : (l.take i).length ≤ i := List.length_take_le _ _
  omega
theorem lackN_all (d : List UInt8) : lackN (halvesL d) (2 * d.length) = lackL d := by
  unfold lackN
  rw [List.take_of_length_le (by rw [halvesL_length]; omega)]
  induction d with
  | nil => rfl
  | cons b d ih =>
    have e : halvesL (b :: d) = (b.toNat / 16) :: (b.toNat % 16) :: halvesL d := rfl
    rw [e]
    simp only [List.map_cons, List.sum_cons, ih, lackL]
    unfold lackB
    omega

theorem OwnI.below {w w' : World} {base n : Nat} {e : TypeId} {v : Value} {xs : List Value} (h : w.ownsRow base e 1 v n xs) (hb : Below w.heap.size w w') : w'.ownsRow base e 1 v n xs :=
  World.ownsRow.kept (row := none) h ⟨hb.os, hb.tape, hb.output, hb.size, fun k hk _ => hb.block k hk⟩ (by cases v.ownBlock <;> simp)
theorem new_ints (w : World) (t : TypeId) (l : List Nat) : ∀ (j : Nat) (y : Value), (cellsI l)[j]? = some y → (w.alloc (.cells (cellsI l).toArray t)).cell? ((⟨w.heap.size, 0, none⟩ : Addr).add j) = some y := fun j y hj => by
  have hadd : (⟨w.heap.size, 0, none⟩ : Addr).add j = ⟨w.heap.size, j, none⟩ := by unfold Addr.add; split <;> simp_all
  rw [hadd, (RowAt.new w t (cellsI l).toArray).cell j]
  simpa using hj

set_option maxHeartbeats 4000000 in
theorem refDigits_env (w0 w : World) (rs : List (Nat × TypeId × Array Value)) (hE : Env w0 rs w) (d : List UInt8) (ld : d.length = 32) :
    Calls Tryd.prog 10 #[.agg (keyC d)] w fun e w' => ∃ b c cur, e = .returned (.slice (some ⟨b, 0, none⟩) 67 c) ∧ Env w0 ((b, 3, cur) :: rs) w' ∧ cur.toList.take 67 = cellsI (digitsL d) := by
  have E0 := Lib.hid hE
  have LD := Lib.hid ld
  have HB0 : Hid (∀ r ∈ rs, r.1 < w.heap.size) := fun r hr => (hE.rows r hr).1.lt
  have HW := Lib.hid hE.below.size
  obtain ⟨i0, hi, hz0, hz1, hz2⟩ := info_parts (by kernel_rfl : (Tryd.prog.info? 3).map (fun i => (i.zero, i.size, i.bytes)) = some (some (.int .i64 0), 1, 8))
  obtain ⟨H, hH⟩ : ∃ H, H = halvesL d := ⟨_, rfl⟩
  have HL : Hid (H.length = 64) := by show _ = _; rw [hH, halvesL_length, ld]
  have HLE : Hid (∀ i, H.getD i 0 ≤ 15) := fun i => by
    rw [hH, List.getD_eq_getElem?_getD]
    cases e : (halvesL d)[i]? with
    | none => simp
    | some x => exact halvesL_le d x (List.mem_of_getElem? e)
  have HG : Hid (∀ i, i < 64 → H.getD i 0 = if i % 2 = 1 then (d.getD (i / 2) 0).toNat % 16 else (d.getD (i / 2) 0).toNat / 16) := fun i h => by rw [hH]; exact halves_get d i (by omega)
  have HDG : Hid (digitsL d = H ++ [lackN H 64 / 256, lackN H 64 / 16 % 16, lackN H 64 % 16]) := by
    show _ = _
    have := lackN_all d
    rw [ld, show 2 * 32 = 64 from rfl] at this
    rw [hH, this]
    rfl
  have INF := Lib.hid (And.intro hi (And.intro hz0 (And.intro hz1 hz2)))
  clear hE ld hH hi hz0 hz1 hz2
  go_enter Tryd.func10, Tryd.ntmps10
  go_wp2_with ((with_reducible refine wpList_box_row (o := ⟨some 1, _, _, _, _, _⟩) rfl 23 (.tmp 0) rfl (keyC d) (by with_unfolding_all rfl) ?_); intro g1 w1 n1; have E1 := Lib.hid (E0.out.new n1); have z1 := n1.below.size; have l1 := n1.row.lt; clear n1)
  have HB1 : Hid (∀ r ∈ (g1, 23, keyC d) :: rs, r.1 < w1.heap.size) := fun r hr => (E1.out.rows r hr).1.lt
  have HZ1 : Hid (w0.heap.size ≤ w1.heap.size) := Nat.le_trans HW.out z1
  clear E0 z1 l1 HB0 HW
  go_loopw [3, 4, 5] (fun o s v wr => ∃ i : Nat, i ≤ 64 ∧ v = .int .i64 (i : Int) ∧ s = .int .i64 ((lackN H i : Nat) : Int) ∧ wr.ownsRow w1.heap.size 3 1 o i (cellsI (H.take i)) ∧ Env w0 ((g1, 23, keyC d) :: rs) wr ∧ w1.heap.size ≤ wr.heap.size) (fun _ _ v _ => 64 - (intOf v).toNat)
  case atStart => exact ⟨0, by omega, rfl, rfl, World.ownsRow_nil _ _ _ _, E1.out, Nat.le_refl _⟩
  case round =>
    clear E1
    obtain ⟨i, hi, rfl, rfl, ho, hE, hz⟩ := hrel
    have E := Lib.hid hE
    have O := Lib.hid ho
    clear hE ho
    by_cases hlt : i < 64
    · have hlt2 : (i : Int) < 64 := by omega
      have hw1 : IntKind.i64.wrap ((i : Int) + 1) = (i : Int) + 1 := IntWalk.i64_in _ (by omega)
      have hq0 : ¬ ((i : Int) < 0) := by omega
      have hx15 := HLE.out i
      have hgx := HG.out i hlt
      have hnx := lackN_next H i (by rw [HL.out]; exact hlt)
      have htk : H.take (i + 1) = H.take i ++ [H.getD i 0] := by
        rw [List.take_succ_eq_append_getElem (by rw [HL.out]; exact hlt), List.getD_eq_getElem?_getD, List.getElem?_eq_getElem (by rw [HL.out]; exact hlt)]
        rfl
      have hsl := lackN_le H i
      obtain ⟨x, hx⟩ : ∃ x, x = H.getD i 0 := ⟨_, rfl⟩
      rw [← hx] at hx15 hgx hnx htk
      obtain ⟨k, hk⟩ : ∃ k, k = i / 2 := ⟨_, rfl⟩
      have hk32 : k < 32 := by omega
      have hcell := E.out.cellV 0 rfl k _ (keyC_at d k (by rw [LD.out]; exact hk32))
      rw [← hk] at hgx
      obtain ⟨b, hb⟩ : ∃ b, b = d.getD k 0 := ⟨_, rfl⟩
      rw [← hb] at hcell hgx
      have q1 : Int.tdiv (i : Int) 2 = (k : Int) := by rw [Int.tdiv_eq_ediv_of_nonneg (by omega)]; omega
      have q1b : (i : Int) / 2 = (k : Int) := by omega
      have q2 : IntKind.i64.wrap (k : Int) = (k : Int) := IntWalk.i64_in _ (by omega)
      have q3 : ¬ ((k : Int) < 0) := by omega
      have q4 : (k : Int) < 32 := by omega
      have hb0 := b.toNat_lt
      have HTK := Lib.hid htk
      have HNX := Lib.hid hnx
      obtain ⟨s0, hs0⟩ : ∃ s, s = lackN H i := ⟨_, rfl⟩
      rw [← hs0] at hsl HNX ⊢
      obtain ⟨s1, hs1⟩ : ∃ s, s = s0 + (15 - x) := ⟨_, rfl⟩
      have w1' : IntKind.i64.wrap ((s0 : Int) + 15) = (s0 : Int) + 15 := IntWalk.i64_in _ (by omega)
      have w2 : IntKind.i64.wrap ((s0 : Int) + 15 - (x : Int)) = (s1 : Int) := by rw [IntWalk.i64_in _ (by omega)]; omega
      have w3 : (s0 : Int) + 15 - (x : Int) = (s1 : Int) := by omega
      have HS1 : Hid (s1 = lackN H (i + 1)) := by show _ = _; rw [hs1, HNX.out]
      clear hs1 hs0 hx hb hnx htk hk
      have BEL := Lib.hid (alloc_below wr (.cells (cellsI [x]).toArray 3))
      by_cases hpar : i % 2 = 1
      · rw [if_pos hpar] at hgx
        obtain ⟨y, hy⟩ : ∃ y, y = b.toNat / 16 := ⟨_, rfl⟩
        have p1 : Int.tmod (i : Int) 2 = 1 := by rw [Int.tmod_eq_emod_of_nonneg (by omega)]; omega
        have p1b : (i : Int) % 2 = 1 := by omega
        have e1 : Int.tdiv (b.toNat : Int) 16 = (y : Int) := by rw [Int.tdiv_eq_ediv_of_nonneg (by omega)]; omega
        have e1b : (b.toNat : Int) / 16 = (y : Int) := by omega
        have e2 : Int.tmod (b.toNat : Int) 16 = (x : Int) := by rw [Int.tmod_eq_emod_of_nonneg (by omega)]; omega
        have e2b : (b.toNat : Int) % 16 = (x : Int) := by omega
        have e3 : IntKind.i64.wrap (y : Int) = (y : Int) := IntWalk.i64_in _ (by omega)
        clear hgx hy hpar
        go_wp2_with (at_builtin; refine wpList_append_own _ rfl (.tmp 26) (.tmp 28) 25 rfl w1.heap.size 3 i0 (.int .i64 0) 1 8 Tryd.underlying25 INF.out.1 INF.out.2.1 INF.out.2.2.1 INF.out.2.2.2 rfl (by decide) _ i (cellsI (H.take i)) rfl (OwnI.below O.out BEL.out) ⟨wr.heap.size, 0, none⟩ 1 1 (cellsI [x]) rfl rfl (new_ints wr 3 [x]) (ints_one [x]) (by unfold maxLen; omega) (by omega) (Nat.le_trans hz BEL.out.size) ?_; intro v5 w5 o5 gr5 _; have E5 := Lib.hid ((E.out.call BEL.out).grown gr5 (fun r hr e => by have h1 := HB1.out r hr; have h2 := (World.ownsRow.lt O.out r.1 e.symm).1; omega) (fun k hk => Nat.le_trans HZ1.out (World.ownsRow.lt O.out k hk).1)); have O5 := Lib.hid o5; have hz5 := Nat.le_trans (Nat.le_trans hz BEL.out.size) gr5.size; clear o5 gr5)
        refine ⟨⟨i + 1, by omega, by congr 1, by rw [HS1.out], ?_, E5.out, hz5⟩, ?_⟩
        · have := O5.out
          rw [← cellsI_append, ← HTK.out] at this
          exact this
        · show 64 - ((i : Int) + 1).toNat < 64 - (i : Int).toNat
          omega
      · rw [if_neg hpar] at hgx
        have p1 : Int.tmod (i : Int) 2 = 0 := by rw [Int.tmod_eq_emod_of_nonneg (by omega)]; omega
        have p1b : (i : Int) % 2 = 0 := by omega
        have e1 : Int.tdiv (b.toNat : Int) 16 = (x : Int) := by rw [Int.tdiv_eq_ediv_of_nonneg (by omega)]; omega
        have e1b : (b.toNat : Int) / 16 = (x : Int) := by omega
        have e3 : IntKind.i64.wrap (x : Int) = (x : Int) := IntWalk.i64_in _ (by omega)
        clear hgx hpar
        go_wp2_with (at_builtin; refine wpList_append_own _ rfl (.tmp 26) (.tmp 28) 25 rfl w1.heap.size 3 i0 (.int .i64 0) 1 8 Tryd.underlying25 INF.out.1 INF.out.2.1 INF.out.2.2.1 INF.out.2.2.2 rfl (by decide) _ i (cellsI (H.take i)) rfl (OwnI.below O.out BEL.out) ⟨wr.heap.size, 0, none⟩ 1 1 (cellsI [x]) rfl rfl (new_ints wr 3 [x]) (ints_one [x]) (by unfold maxLen; omega) (by omega) (Nat.le_trans hz BEL.out.size) ?_; intro v5 w5 o5 gr5 _; have E5 := Lib.hid ((E.out.call BEL.out).grown gr5 (fun r hr e => by have h1 := HB1.out r hr; have h2 := (World.ownsRow.lt O.out r.1 e.symm).1; omega) (fun k hk => Nat.le_trans HZ1.out (World.ownsRow.lt O.out k hk).1)); have O5 := Lib.hid o5; have hz5 := Nat.le_trans (Nat.le_trans hz BEL.out.size) gr5.size; clear o5 gr5)
        refine ⟨⟨i + 1, by omega, by congr 1, by rw [HS1.out], ?_, E5.out, hz5⟩, ?_⟩
        · have := O5.out
          rw [← cellsI_append, ← HTK.out] at this
          exact this
        · show 64 - ((i : Int) + 1).toNat < 64 - (i : Int).toNat
          omega
    · have hi2 : i = 64 := by omega
      clear hlt
      subst hi2
      have hsb := lackN_le H 64
      obtain ⟨s, hs⟩ : ∃ s, s = lackN H 64 := ⟨_, rfl⟩
      rw [← hs] at hsb HDG ⊢
      clear hs
      obtain ⟨x, hx⟩ : ∃ x, x = s / 256 := ⟨_, rfl⟩
      obtain ⟨y, hy⟩ : ∃ y, y = s / 16 % 16 := ⟨_, rfl⟩
      obtain ⟨z, hz'⟩ : ∃ z, z = s % 16 := ⟨_, rfl⟩
      obtain ⟨t, ht⟩ : ∃ t, t = s / 16 := ⟨_, rfl⟩
      rw [← hx, ← hy, ← hz'] at HDG
      have q0 : Int.tdiv (s : Int) 256 = (x : Int) := by rw [Int.tdiv_eq_ediv_of_nonneg (by omega)]; omega
      have q0b : (s : Int) / 256 = (x : Int) := by omega
      have q1 : Int.tdiv (s : Int) 16 = (t : Int) := by rw [Int.tdiv_eq_ediv_of_nonneg (by omega)]; omega
      have q1b : (s : Int) / 16 = (t : Int) := by omega
      have q2 : Int.tmod (t : Int) 16 = (y : Int) := by rw [Int.tmod_eq_emod_of_nonneg (by omega)]; omega
      have q2b : (t : Int) % 16 = (y : Int) := by omega
      have q3 : Int.tmod (s : Int) 16 = (z : Int) := by rw [Int.tmod_eq_emod_of_nonneg (by omega)]; omega
      have q3b : (s : Int) % 16 = (z : Int) := by omega
      have v0 : IntKind.i64.wrap (x : Int) = (x : Int) := IntWalk.i64_in _ (by omega)
      have v1 : IntKind.i64.wrap (t : Int) = (t : Int) := IntWalk.i64_in _ (by omega)
      clear hx hy hz' ht
      have BEL := Lib.hid (alloc_below wr (.cells (cellsI [x, y, z]).toArray 3))
      go_wp2_with (at_builtin; refine wpList_append_own _ rfl (.tmp 34) (.tmp 42) 25 rfl w1.heap.size 3 i0 (.int .i64 0) 1 8 Tryd.underlying25 INF.out.1 INF.out.2.1 INF.out.2.2.1 INF.out.2.2.2 rfl (by decide) _ 64 (cellsI (H.take 64)) rfl (OwnI.below O.out BEL.out) ⟨wr.heap.size, 0, none⟩ 3 3 (cellsI [x, y, z]) rfl rfl (new_ints wr 3 [x, y, z]) (ints_one [x, y, z]) (by unfold maxLen; omega) (by omega) (Nat.le_trans hz BEL.out.size) ?_; intro v5 w5 o5 gr5 _; have E5 := Lib.hid ((E.out.call BEL.out).grown gr5 (fun r hr e => by have h1 := HB1.out r hr; have h2 := (World.ownsRow.lt O.out r.1 e.symm).1; omega) (fun k hk => Nat.le_trans HZ1.out (World.ownsRow.lt O.out k hk).1)); have O5 := Lib.hid o5; clear o5 gr5)
      go_ret
      have o5 := O5.out
      rw [List.take_of_length_le (by rw [HL.out]; omega), ← cellsI_append, ← HDG.out] at o5
      rcases o5.2 with ⟨_, h0⟩ | ⟨gg, cap, cur, rfl, hb, hcells, hnc, hcm, hcs, htake⟩
      · omega
      · exact ⟨gg, cap, cur, rfl, E5.out.tl.add hcells (by have := HZ1.out; omega) (fun r hr => by have := HB1.out r (List.mem_cons_of_mem _ hr); omega), htake⟩
end Go.Proofs.YtfnmglicfgkmjaaDoor
end
section
namespace Go.Proofs.YtfnmglicfgkmjaaDoor
open Go.RowKit
set_option linter.unusedVariables false
set_option maxRecDepth 20000

set_option maxHeartbeats 4000000 in
theorem refInfo_any (w : World) (lab : ByteArray) (hlab : lab.size ≤ 1000) (A : Option Addr) (c : Nat) (ls : List (List UInt8)) (hb : Bss w (.slice A ls.length c) ls) (hn : ls.length ≤ 100) (hl : ∀ b ∈ ls, b.length ≤ 1000) :
    Calls Tryd.prog 59 #[.string lab, .slice A ls.length c] w (RetOwn w 5 (infoB lab.data.toList ls)) := by
  obtain ⟨i0, hi, hz0, hz1, hz2⟩ := info_parts Tryd.infoB
  have HB := Lib.hid hb
  have HN := Lib.hid hn
  have HL := Lib.hid hl
  clear hb hl hn
  by_cases hs : lab.size ≤ 255
  · have d1 : decide ((255 : Int) < (lab.size : Int)) = false := by simp; omega
    have HSZ : Hid (lab.size ≤ 1000) := hlab
    go_enter Tryd.func59, Tryd.ntmps59
    go_wp2_with (at_builtin; go_must (refine Lib.wpList_append_own_string _ rfl (.tmp 15) (.tmp 16) 68 9 rfl w.heap.size 5 i0 Tryd.underlying68 Tryd.underlying9 hi hz0 hz1 hz2 (.slice (some ⟨w.heap.size, 0, none⟩) 1 1) 1 [.int .u8 (lab.size : Int)] rfl (World.ownsRow_lit w #[.int .u8 (lab.size : Int)] 1 (Nat.le_refl _) (by unfold maxLen; omega) rfl) lab rfl (by have := HSZ.out; unfold maxLen; omega) (by have := HSZ.out; omega) (by simp) ?_); intro v1 w1 own1 g1 nil1)
    obtain ⟨s2, hs2⟩ : ∃ s, s = lab := ⟨_, rfl⟩
    obtain ⟨labl, hlabl⟩ : ∃ l, l = s2.data.toList := ⟨_, rfl⟩
    have HLB : Hid (labl = s2.data.toList) := hlabl
    have hll : labl.length = lab.size := by rw [hlabl, hs2]; simp
    have hll2 : labl.length = s2.size := by rw [hll, hs2]
    have HLL : Hid (labl.length ≤ 255) := by show _ ≤ _; omega
    have HS2 := Lib.hid hs2
    rw [← hll, ← hs2] at own1
    clear hs2 hlabl
    have O1 : Hid (OwnB w1 w.heap.size 5 v1 (partsL labl (ls.take 0)).flatten) := by
      show OwnB _ _ _ _ _
      have e : (partsL labl (ls.take 0)).flatten = UInt8.ofNat labl.length :: labl := by simp [partsL]
      rw [e]
      unfold OwnB
      have e2 : cellsB (UInt8.ofNat labl.length :: labl) = [Value.int .u8 (labl.length : Int)] ++ Lib.strCells s2 := by
        rw [Lib.strCells, ← HLB.out]
        simp only [cellsB, List.map_cons, List.cons_append, List.nil_append]
        rw [UInt8.toNat_ofNat', Nat.mod_eq_of_lt (by omega)]
      rw [e2, List.length_cons, Nat.add_comm labl.length 1]
      exact own1
    have B1 := Lib.hid ((alloc_below w (.cells #[.int .u8 (lab.size : Int)] 5)).grown g1 (alloc_below w _).size (fun k hk => by have e2 : w.heap.size = k := (by simpa [Value.ownBlock] using hk); omega))
    have hres : infoB lab.data.toList ls = (partsL labl ls).flatten := by rw [HLB.out, HS2.out, infoB, List.take_of_length_le (by simp; omega)]
    have HRES := Lib.hid hres
    have hfl := partsL_flat labl ls HL.out
    have HFL : Hid ((partsL labl ls).flatten.length ≤ 1000000000) := by show _ ≤ _; have := HN.out; omega
    clear own1 g1 nil1 hres hfl hll2 hll
    obtain ⟨HN0, hHN0⟩ : ∃ n : Nat, n = ls.length := ⟨_, rfl⟩
    have HNN := Lib.hid hHN0
    go_loopw [5, 6] (fun v i wr => ∃ k : Nat, k ≤ ls.length ∧ i = .int .i64 k ∧ OwnB wr w.heap.size 5 v (partsL labl (ls.take k)).flatten ∧ Below w.heap.size w wr) (fun _ i _ => ls.length - (intOf i).toNat)
    case atStart => exact ⟨0, Nat.zero_le _, rfl, O1.out, B1.out⟩
    case round =>
      clear O1 B1 hHN0
      obtain ⟨k, hk, rfl, hO, hB⟩ := hrel
      have HO := Lib.hid hO
      have HBW := Lib.hid hB
      clear hO hB
      by_cases hlt : k < ls.length
      · obtain ⟨A', c', hv, hc1, hc2, hc3⟩ := HB.out
        injection hv with e1 e2 e3
        subst e1 e3
        obtain ⟨b, off, rfl, hcell⟩ := hc3 (by omega)
        obtain ⟨u, hcu, hbu⟩ := hcell k hlt
        have hcu2 := (HBW.out.cell (World.block_lt_of_cell? w _ hcu)).trans hcu
        have HU := Lib.hid hbu
        obtain ⟨UA2, uc2, rfl, q1, q2, _⟩ := hbu
        obtain ⟨bl, hbl⟩ : ∃ l, l = ls[k] := ⟨_, rfl⟩
        have hbn : bl.length ≤ 1000 := by rw [hbl]; exact HL.out _ (List.getElem_mem _)
        have hnx := partsL_next labl ls k hlt
        have hle : (partsL labl (ls.take k)).flatten.length ≤ 1000000 := by
          have h1 := partsL_flat labl (ls.take k) (fun b hb => HL.out b (List.mem_of_mem_take hb))
          have h2 : (ls.take k).length ≤ ls.length := by rw [List.length_take]; exact Nat.min_le_right _ _
          have := HN.out
          have := HLL.out
          omega
        rw [← hbl] at hnx HU hcu2 hcu q1
        have HNX := Lib.hid hnx
        obtain ⟨m, hm⟩ : ∃ m, m = bl.length := ⟨_, rfl⟩
        have HM := Lib.hid hm
        rw [← hm] at hcu2 hbn q1 HU
        have v1 : IntKind.u64.wrap (m : Int) = (m : Int) := by rw [IntKind.wrap_u64]; omega
        have HCU := Lib.hid hcu
        unfold maxLen at q2 hc2
        clear hcell hbl hnx hm hc3
        go_wp2_with fail
        refine (refHigh_any _ m (by omega) 4 (by omega)).mono ?_
        intro e w4 h
        obtain ⟨u4, he, hu4, b4⟩ := h
        subst he
        have e4 : highI m 4 = highB4 m := by rw [highI, show (4 : Int) = ((4 : Nat) : Int) from rfl, lowI_in m 4 (by omega) (by omega), highB4]
        rw [e4] at hu4
        have HU4 := Lib.hid hu4
        have HO4 := Lib.hid (HO.out.below b4)
        have B4 := Lib.hid (below_size HBW.out b4)
        have h4l : (highB4 m).length = 4 := by rw [highB4, List.length_reverse, lowB_length]
        clear hu4 b4 HO HBW e4
        go_wp2_with (first
          | (at_builtin; refine wpList_appB _ rfl (.tmp 24) (.tmp 31) 68 rfl w 5 Tryd.infoB Tryd.underlying68 _ _ (partsL labl (ls.take k)).flatten (highB4 m) rfl rfl HO4.out HU4.out (by omega) B4.out ?_; intro v6 w6 O6 B6; have HO6 := Lib.hid O6; have HB6 := Lib.hid B6; have hcu3 := (B6.cell (World.block_lt_of_cell? w _ HCU.out)).trans HCU.out; rw [← HM.out] at hcu3; clear O6 B6)
          | (at_builtin; refine wpList_appB _ rfl (.tmp 33) (.tmp 37) 68 rfl w 5 Tryd.infoB Tryd.underlying68 _ _ ((partsL labl (ls.take k)).flatten ++ highB4 m) bl rfl rfl HO6.out (HU.out.below HB6.out) (by rw [List.length_append]; have := HM.out; omega) HB6.out ?_; intro v7 w7 O7 B7; have HB7 := Lib.hid B7; clear B7))
        have HO7 : Hid (OwnB w7 w.heap.size 5 v7 (partsL labl (ls.take (k + 1))).flatten) := by
          show OwnB _ _ _ _ _
          rw [HNX.out, List.flatten_append, ← HM.out]
          have e : ([highB4 m, bl] : List (List UInt8)).flatten = highB4 m ++ bl := by simp
          rw [e, ← List.append_assoc]
          exact O7
        clear O7 hcu3
        go_roundw
        case rel => exact ⟨k + 1, by omega, by go_num, HO7.out, HB7.out⟩
        case measure => simp [intOf]; omega
      · have hkn : k = ls.length := by omega
        have HO2 := Lib.hid HO.out
        rw [hkn, List.take_of_length_le (Nat.le_refl _)] at HO2
        clear hkn HO
        go_wp2
        go_ret
        exact ⟨_, rfl, by rw [HRES.out]; exact HO2.out, HBW.out⟩
  · have d1 : decide ((255 : Int) < (lab.size : Int)) = true := by simp; omega
    have HSZ : Hid ((lab.extract 0 255).size ≤ 1000) := by show _ ≤ _; rw [ByteArray.size_extract]; omega
    have hmin : min 255 lab.size = 255 := by omega
    go_enter Tryd.func59, Tryd.ntmps59
    go_wp2_with (at_builtin; go_must (refine Lib.wpList_append_own_string _ rfl (.tmp 15) (.tmp 16) 68 9 rfl w.heap.size 5 i0 Tryd.underlying68 Tryd.underlying9 hi hz0 hz1 hz2 (.slice (some ⟨w.heap.size, 0, none⟩) 1 1) 1 [.int .u8 (255 : Int)] rfl (World.ownsRow_lit w #[.int .u8 (255 : Int)] 1 (Nat.le_refl _) (by unfold maxLen; omega) rfl) (lab.extract 0 255) rfl (by have := HSZ.out; unfold maxLen; omega) (by have := HSZ.out; omega) (by simp) ?_); intro v1 w1 own1 g1 nil1)
    obtain ⟨s2, hs2⟩ : ∃ s, s = lab.extract 0 255 := ⟨_, rfl⟩
    obtain ⟨labl, hlabl⟩ : ∃ l, l = s2.data.toList := ⟨_, rfl⟩
    have HLB : Hid (labl = s2.data.toList) := hlabl
    have hll2 : labl.length = s2.size := by rw [hlabl]; simp
    have hll : labl.length = 255 := by rw [hll2, hs2, ByteArray.size_extract]; omega
    have HLL : Hid (labl.length ≤ 255) := by show _ ≤ _; omega
    have HS2 : Hid (s2.data.toList = lab.data.toList.take 255) := by show _ = _; rw [hs2]; simp
    have h255 : (lab.extract 0 255).size = 255 := by rw [← hs2]; omega
    rw [h255, ← hs2] at own1
    have own1 : w1.ownsRow w.heap.size 5 1 v1 (1 + labl.length) ([.int .u8 (labl.length : Int)] ++ Lib.strCells s2) := by rw [hll]; exact own1
    clear hs2 hlabl
    have O1 : Hid (OwnB w1 w.heap.size 5 v1 (partsL labl (ls.take 0)).flatten) := by
      show OwnB _ _ _ _ _
      have e : (partsL labl (ls.take 0)).flatten = UInt8.ofNat labl.length :: labl := by simp [partsL]
      rw [e]
      unfold OwnB
      have e2 : cellsB (UInt8.ofNat labl.length :: labl) = [Value.int .u8 (labl.length : Int)] ++ Lib.strCells s2 := by
        rw [Lib.strCells, ← HLB.out]
        simp only [cellsB, List.map_cons, List.cons_append, List.nil_append]
        rw [UInt8.toNat_ofNat', Nat.mod_eq_of_lt (by omega)]
      rw [e2, List.length_cons, Nat.add_comm labl.length 1]
      exact own1
    have B1 := Lib.hid ((alloc_below w (.cells #[.int .u8 (255 : Int)] 5)).grown g1 (alloc_below w _).size (fun k hk => by have e2 : w.heap.size = k := (by simpa [Value.ownBlock] using hk); omega))
    have hres : infoB lab.data.toList ls = (partsL labl ls).flatten := by rw [HLB.out, HS2.out, infoB]
    have HRES := Lib.hid hres
    have hfl := partsL_flat labl ls HL.out
    have HFL : Hid ((partsL labl ls).flatten.length ≤ 1000000000) := by show _ ≤ _; have := HN.out; omega
    clear own1 g1 nil1 hres hfl hll2 hll
    obtain ⟨HN0, hHN0⟩ : ∃ n : Nat, n = ls.length := ⟨_, rfl⟩
    have HNN := Lib.hid hHN0
    go_loopw [5, 6] (fun v i wr => ∃ k : Nat, k ≤ ls.length ∧ i = .int .i64 k ∧ OwnB wr w.heap.size 5 v (partsL labl (ls.take k)).flatten ∧ Below w.heap.size w wr) (fun _ i _ => ls.length - (intOf i).toNat)
    case atStart => exact ⟨0, Nat.zero_le _, rfl, O1.out, B1.out⟩
    case round =>
      clear O1 B1 hHN0
      obtain ⟨k, hk, rfl, hO, hB⟩ := hrel
      have HO := Lib.hid hO
      have HBW := Lib.hid hB
      clear hO hB
      by_cases hlt : k < ls.length
      · obtain ⟨A', c', hv, hc1, hc2, hc3⟩ := HB.out
        injection hv with e1 e2 e3
        subst e1 e3
        obtain ⟨b, off, rfl, hcell⟩ := hc3 (by omega)
        obtain ⟨u, hcu, hbu⟩ := hcell k hlt
        have hcu2 := (HBW.out.cell (World.block_lt_of_cell? w _ hcu)).trans hcu
        have HU := Lib.hid hbu
        obtain ⟨UA2, uc2, rfl, q1, q2, _⟩ := hbu
        obtain ⟨bl, hbl⟩ : ∃ l, l = ls[k] := ⟨_, rfl⟩
        have hbn : bl.length ≤ 1000 := by rw [hbl]; exact HL.out _ (List.getElem_mem _)
        have hnx := partsL_next labl ls k hlt
        have hle : (partsL labl (ls.take k)).flatten.length ≤ 1000000 := by
          have h1 := partsL_flat labl (ls.take k) (fun b hb => HL.out b (List.mem_of_mem_take hb))
          have h2 : (ls.take k).length ≤ ls.length := by rw [List.length_take]; exact Nat.min_le_right _ _
          have := HN.out
          have := HLL.out
          omega
        rw [← hbl] at hnx HU hcu2 hcu q1
        have HNX := Lib.hid hnx
        obtain ⟨m, hm⟩ : ∃ m, m = bl.length := ⟨_, rfl⟩
        have HM := Lib.hid hm
        rw [← hm] at hcu2 hbn q1 HU
        have v1 : IntKind.u64.wrap (m : Int) = (m : Int) := by rw [IntKind.wrap_u64]; omega
        have HCU := Lib.hid hcu
        unfold maxLen at q2 hc2
        clear hcell hbl hnx hm hc3
        go_wp2_with fail
        refine (refHigh_any _ m (by omega) 4 (by omega)).mono ?_
        intro e w4 h
        obtain ⟨u4, he, hu4, b4⟩ := h
        subst he
        have e4 : highI m 4 = highB4 m := by rw [highI, show (4 : Int) = ((4 : Nat) : Int) from rfl, lowI_in m 4 (by omega) (by omega), highB4]
        rw [e4] at hu4
        have HU4 := Lib.hid hu4
        have HO4 := Lib.hid (HO.out.below b4)
        have B4 := Lib.hid (below_size HBW.out b4)
        have h4l : (highB4 m).length = 4 := by rw [highB4, List.length_reverse, lowB_length]
        clear hu4 b4 HO HBW e4
        go_wp2_with (first
          | (at_builtin; refine wpList_appB _ rfl (.tmp 24) (.tmp 31) 68 rfl w 5 Tryd.infoB Tryd.underlying68 _ _ (partsL labl (ls.take k)).flatten (highB4 m) rfl rfl HO4.out HU4.out (by omega) B4.out ?_; intro v6 w6 O6 B6; have HO6 := Lib.hid O6; have HB6 := Lib.hid B6; have hcu3 := (B6.cell (World.block_lt_of_cell? w _ HCU.out)).trans HCU.out; rw [← HM.out] at hcu3; clear O6 B6)
          | (at_builtin; refine wpList_appB _ rfl (.tmp 33) (.tmp 37) 68 rfl w 5 Tryd.infoB Tryd.underlying68 _ _ ((partsL labl (ls.take k)).flatten ++ highB4 m) bl rfl rfl HO6.out (HU.out.below HB6.out) (by rw [List.length_append]; have := HM.out; omega) HB6.out ?_; intro v7 w7 O7 B7; have HB7 := Lib.hid B7; clear B7))
        have HO7 : Hid (OwnB w7 w.heap.size 5 v7 (partsL labl (ls.take (k + 1))).flatten) := by
          show OwnB _ _ _ _ _
          rw [HNX.out, List.flatten_append, ← HM.out]
          have e : ([highB4 m, bl] : List (List UInt8)).flatten = highB4 m ++ bl := by simp
          rw [e, ← List.append_assoc]
          exact O7
        clear O7 hcu3
        go_roundw
        case rel => exact ⟨k + 1, by omega, by go_num, HO7.out, HB7.out⟩
        case measure => simp [intOf]; omega
      · have hkn : k = ls.length := by omega
        have HO2 := Lib.hid HO.out
        rw [hkn, List.take_of_length_le (Nat.le_refl _)] at HO2
        clear hkn HO
        go_wp2
        go_ret
        exact ⟨_, rfl, by rw [HRES.out]; exact HO2.out, HBW.out⟩
end Go.Proofs.YtfnmglicfgkmjaaDoor
end
section
namespace Go.Proofs.YtfnmglicfgkmjaaDoor
open Go.RowKit
set_option linter.unusedVariables false
set_option maxRecDepth 20000

theorem refDerive_env (w0 w : World) (rs : List (Nat × TypeId × Array Value)) (m g n : Nat) (hE : Env w0 rs w) (hm : rs[m]? = some (g, 32, logC n)) (hn : n ≤ 900000) (s : List UInt8) (hs : s.length = 32) (z : Int) (A : Option Addr) (c : Nat) (hb : Bss w (.slice A 1 c) [numB z]) :
    Calls Tryd.prog 43 #[.pointer (some ⟨g, 0, none⟩), .agg (keyC s), .string ⟨#[99, 104, 97, 105, 110]⟩, .slice A 1 c] w fun e w' => ∃ n', n' ≤ n + 3 ∧ e = .returned (.agg (keyC (beginB s z))) ∧ Env w0 (rs.set m (g, 32, logC n')) w' :=
  (refDerive_of w0 w g n ⟨#[99, 104, 97, 105, 110]⟩ A 1 c s (infoB chainB [numB z]) (beginB s z) rfl (hE.toLog hm) (by omega) hs (by
    have h := partsL_flat (chainB.take 255) [numB z] (by simp [numB_length])
    unfold infoB
    have h2 : (chainB.take 255).length = 5 := rfl
    rw [h2] at h
    simp only [List.length_cons, List.length_nil] at h
    omega) fun x hx => refInfo_any x ⟨#[99, 104, 97, 105, 110]⟩ (by decide) A c [numB z] (hb.keep hx) (by simp) (by simp [numB_length])).mono fun _ _ ⟨n', h1, h2, h3⟩ => ⟨n', h1, h2, hE.ofLog hm h3⟩

set_option maxHeartbeats 4000000 in
theorem refBegin_env (w0 w : World) (rs : List (Nat × TypeId × Array Value)) (m g n : Nat) (hE : Env w0 rs w) (hm : rs[m]? = some (g, 32, logC n)) (hn : n ≤ 900000) (s : List UInt8) (hs : s.length = 32) (c : Nat) (hc : c ≤ 1000) :
    Calls Tryd.prog 32 #[.pointer (some ⟨g, 0, none⟩), .agg (keyC s), .int .i64 (c : Int)] w fun e w' => ∃ n', n' ≤ n + 3 ∧ e = .returned (.agg (keyC (beginB s (c : Int)))) ∧ Env w0 (rs.set m (g, 32, logC n')) w' := by
  have HM := Lib.hid hm
  have E0 := Lib.hid hE
  have LS := Lib.hid hs
  obtain ⟨v0, hv0⟩ : ∃ v, v = beginB s (c : Int) := ⟨_, rfl⟩
  have LV : Hid (v0.length = 32) := by show _ = _; rw [hv0]; exact beginB_length _ _
  obtain ⟨nb, hnb⟩ : ∃ z, z = numB (c : Int) := ⟨_, rfl⟩
  have CN : Hid (∀ w, Calls Tryd.prog 26 #[.int .u64 (c : Int), .int .i64 2] w (RetBs w nb)) := fun w => by rw [hnb]; exact refNum_any w c c (by omega)
  have CD : Hid (∀ x rs' m' A cc, Env w0 rs' x → rs'[m']? = some (g, 32, logC n) → Bss x (.slice A 1 cc) [nb] → Calls Tryd.prog 43 #[.pointer (some ⟨g, 0, none⟩), .agg (keyC s), .string ⟨#[99, 104, 97, 105, 110]⟩, .slice A 1 cc] x fun e w' => ∃ n', n' ≤ n + 3 ∧ e = .returned (.agg (keyC v0)) ∧ Env w0 (rs'.set m' (g, 32, logC n')) w') := fun x rs' m' A cc h1 h2 h3 => by
    rw [hv0]
    rw [hnb] at h3
    exact refDerive_env w0 x rs' m' g n h1 h2 hn s LS.out c A cc h3
  have wc : IntKind.u64.wrap (c : Int) = (c : Int) := by rw [IntKind.wrap_u64]; omega
  rw [← hv0]
  clear hm hE hs hv0 hnb
  go_enter Tryd.func32, Tryd.ntmps32
  go_wp2_with (first
    | ((with_reducible refine wpE_box (o := ⟨some 4, _, _, _, _, _⟩) rfl 23 (.tmp 1) rfl (keyC s) (by with_unfolding_all rfl) E0.out ?_); intro g4 w1 T1; have E1 := Lib.hid T1; clear T1)
    | ((with_reducible refine wpE_alloc (o := ⟨some 6, _, _, _, _, _⟩) rfl 23 rfl (keyC zeroKey) Tryd.zeroK E1.out ?_); intro g6 w2 T2; have E2 := Lib.hid T2; clear T2))
  clear E0 E1
  refine plain_region (S := fun x => Env w0 [(g4, 23, keyC s)] x) (fin := fun _ => false) (by kernel_rfl) ?_
  have sub : ∀ (cs : Array Value) (l : List (Nat × TypeId × Array Value)) x, Env w0 ((g6, 23, cs) :: (g4, 23, keyC s) :: l) x → Env w0 [(g4, 23, keyC s)] x := fun cs l x h => h.less (.cons _ (.cons_cons _ (List.nil_sublist _)))
  have SUB := Lib.hid sub
  clear sub
  have hS := SUB.out _ _ _ E2.out.drew
  change walkS _ _ _ _ _ _ 8 _ _ _
  refine walkS_take (i := 0) (oi := ⟨some 7, _, _, _, _, _⟩) (v := .pointer (some ⟨g, 0, none⟩)) rfl (by kernel_rfl) (by kernel_rfl) (fun _ _ _ h => h) _ _ _ _ (by kernel_rfl) (by kernel_rfl) (Or.inl ⟨by rfl, fun w' hS' => (by first | rfl | (clear hS hS'; go_simp))⟩) hS ?_
  try simp only [Act.put, List.setIfInBounds_toArray, List.set_cons_zero, List.set_cons_succ]
  refine walkS_take (i := 1) (oi := ⟨some 8, _, _, _, _, _⟩) (v := .agg (keyC s)) rfl (by kernel_rfl) (by kernel_rfl) (fun _ _ _ h => h) _ _ _ _ (by kernel_rfl) (by kernel_rfl) (Or.inl ⟨by rfl, fun w' hS' => (run_load_row 23 (.tmp 4) rfl g4 rfl 23 (keyC s) (0, 0) _ (hS'.row 0 rfl) Tryd.underlying23 rfl (Tryd.sizeKey s LS.out))⟩) hS ?_
  try simp only [Act.put, List.setIfInBounds_toArray, List.set_cons_zero, List.set_cons_succ]
  refine walkS_take (i := 2) (oi := ⟨some 9, _, _, _, _, _⟩) (v := .int .i64 (c : Int)) rfl (by kernel_rfl) (by kernel_rfl) (fun _ _ _ h => h) _ _ _ _ (by kernel_rfl) (by kernel_rfl) (Or.inl ⟨by rfl, fun w' hS' => (by first | rfl | (clear hS hS'; go_simp))⟩) hS ?_
  try simp only [Act.put, List.setIfInBounds_toArray, List.set_cons_zero, List.set_cons_succ]
  refine walkS_take (i := 3) (oi := ⟨some 10, _, _, _, _, _⟩) (v := .int .u64 (c : Int)) rfl (by kernel_rfl) (by kernel_rfl) (fun _ _ _ h => h) _ _ _ _ (by kernel_rfl) (by kernel_rfl) (Or.inl ⟨by rfl, fun w' hS' => (by clear hS hS'; go_simp)⟩) hS ?_
  try simp only [Act.put, List.setIfInBounds_toArray, List.set_cons_zero, List.set_cons_succ]
  clear hS
  refine walkS_only (i := 4) (o := ⟨some 11, _, _, _, _, _⟩) (by kernel_rfl) rfl rfl fun KK hKK => ?_
  go_simp
  refine (CN.out _).mono ?_
  intro e w3 h
  obtain ⟨u, he, hu, b3⟩ := h
  subst he
  have E3 := Lib.hid (E2.out.drew.call b3)
  have HU := Lib.hid hu
  obtain ⟨AU, cu, rfl, _, _, _⟩ := hu
  clear b3 E2
  refine hKK _ _ (.inr (SUB.out _ _ _ E3.out)) ?_
  clear hKK KK
  try simp only [Act.put, List.setIfInBounds_toArray, List.set_cons_zero, List.set_cons_succ]
  refine walkS_only (i := 5) (o := ⟨some 12, _, _, _, _, _⟩) (by kernel_rfl) rfl rfl fun KK hKK => ?_
  go_simp
  have HV := Lib.hid (Bss.lit1 w3 _ nb HU.out)
  have E4 := Lib.hid (E3.out.call (alloc_below w3 (.cells #[.slice AU nb.length cu] 68)))
  clear HU E3
  refine hKK _ _ (.inr (SUB.out _ _ _ E4.out)) ?_
  clear hKK KK
  try simp only [Act.put, List.setIfInBounds_toArray, List.set_cons_zero, List.set_cons_succ]
  refine walkS_only (i := 6) (o := ⟨some 13, _, _, _, _, _⟩) (by kernel_rfl) rfl rfl fun KK hKK => ?_
  go_simp
  refine (CD.out _ _ (m + 2) _ _ E4.out HM.out HV.out).mono ?_
  intro e w5 h
  obtain ⟨n', hn', he, h5⟩ := h
  subst he
  simp only [List.set_cons_succ] at h5
  have E5 := Lib.hid h5
  clear h5 E4 HV
  refine hKK _ _ (.inr (SUB.out _ _ _ E5.out)) ?_
  clear hKK KK
  try simp only [Act.put, List.setIfInBounds_toArray, List.set_cons_zero, List.set_cons_succ]
  refine walkS_only (i := 7) (o := ⟨none, _, _, _, _, _⟩) (by kernel_rfl) rfl rfl fun KK hKK => ?_
  refine wp_store_row 23 (.tmp 6) (.tmp 13) rfl g6 23 (keyC zeroKey) (keyC v0) rfl rfl (E5.out.row 0 rfl) (keyC_same zeroKey_length LV.out) (Tryd.sizeKey v0 LV.out) (keyC_one v0) fun w7 p7 => ?_
  have E7 := Lib.hid (E5.out.put 0 rfl p7)
  simp only [List.set_cons_zero] at E7
  refine hKK _ _ (.inr (SUB.out _ _ _ E7.out)) (walkS_done (by kernel_rfl) ?_ _)
  clear hKK KK p7 E5
  try simp only [Act.put]
  go_wp2_with fail
  exact bodyPost_ret (results_cell_row rfl _ _ g6 23 (keyC v0) (0, 0) (.array 32 5) rfl (E7.out.row 0 rfl) Tryd.underlying23 rfl (Tryd.sizeKey _ LV.out)) rfl ⟨n', hn', rfl, E7.out.tl.tl⟩
end Go.Proofs.YtfnmglicfgkmjaaDoor
end
section
namespace Go.Proofs.YtfnmglicfgkmjaaDoor
open Go.RowKit
set_option linter.unusedVariables false
set_option maxRecDepth 20000

/-- v reads as l, in a row of the call's own, beside the rows rs. -/
def ByRow (w0 : World) (rs : List (Nat × TypeId × Array Value)) (v : Value) (l : List UInt8) (x : World) : Prop :=
  ∃ g cap cur, v = .slice (some ⟨g, 0, none⟩) l.length cap ∧ l.length ≤ cap ∧ cap ≤ maxLen ∧ cur.size = cap ∧ cur.toList.take l.length = cellsB l ∧ Env w0 ((g, 5, cur) :: rs) x
section
variable {w0 x y : World} {rs rs' : List (Nat × TypeId × Array Value)} {v : Value} {l : List UInt8}
theorem ByRow.env (h : ByRow w0 rs v l x) : Env w0 rs x := by
  obtain ⟨g, cap, cur, _, _, _, _, _, hE⟩ := h
  exact hE.tl
theorem ByRow.own (h : ByRow w0 rs v l x) : OwnB x w0.heap.size 5 v l := by
  obtain ⟨g, cap, cur, hv, h1, h2, h3, h4, hE⟩ := h
  exact ⟨by simp [cellsB_length], .inr ⟨g, cap, cur, hv, hE.spot 0 rfl, hE.row 0 rfl, h1, h2, by rw [h3, Nat.mul_one], by rw [Nat.mul_one]; exact h4⟩⟩
theorem ByRow.bs (h : ByRow w0 rs v l x) : Bs x v l := h.own.bs
theorem ByRow.call (h : ByRow w0 rs v l x) (hb : Below x.heap.size x y) : ByRow w0 rs v l y := by
  obtain ⟨g, cap, cur, hv, h1, h2, h3, h4, hE⟩ := h
  exact ⟨g, cap, cur, hv, h1, h2, h3, h4, hE.call hb⟩
/-- Something that a call does to the other rows. -/
theorem ByRow.turn (h : ByRow w0 rs v l x) (f : ∀ g cur, Env w0 ((g, 5, cur) :: rs) x → Env w0 ((g, 5, cur) :: rs') y) : ByRow w0 rs' v l y := by
  obtain ⟨g, cap, cur, hv, h1, h2, h3, h4, hE⟩ := h
  exact ⟨g, cap, cur, hv, h1, h2, h3, h4, f g cur hE⟩
/-- Bytes that a call has just handed back. -/
theorem ByRow.of (hE : Env w0 rs x) (hb : Below x.heap.size x y) (ho : OwnB y x.heap.size 5 v l) (hl : 0 < l.length) : ByRow w0 rs v l y := by
  rcases ho.2 with ⟨_, h0⟩ | ⟨g, cap, cur, rfl, hbg, hr, h1, h2, h3, h4⟩
  · omega
  · refine ⟨g, cap, cur, rfl, h1, h2, by rw [h3, Nat.mul_one], by rw [Nat.mul_one] at h4; exact h4, (hE.call hb).add hr (Nat.le_trans hE.below.size hbg) fun r hm => ?_⟩
    have := (hE.rows r hm).1.lt
    omega
end
/-- append of bytes. -/
theorem wp_appRow {P : Program} {w0 w : World} {rs : List (Nat × TypeId × Array Value)} {o : Oper} {a : Act} {K : Act → World → Prop} {Q : Exit → Act → World → Prop} (s x : Operand) (t : TypeId)
    (ho : o.op = .call { callee := .builtin .append, args := #[s, x], argTypes := #[t, t] })
    (hinfo : (P.info? 5).map (fun i => (i.zero, i.size, i.bytes)) = some (some (.int .u8 0), 1, 1)) (ht : P.underlying t = some (.slice 5))
    (v u : Value) (l m : List UInt8) (hs : a.eval s = v) (hx : a.eval x = u) (hR : ByRow w0 rs v l w) (hu : Bs w u m) (hlen : l.length + m.length ≤ 140737488355328) (hl : 0 < l.length)
    (h : ∀ v' w', ByRow w0 rs v' (l ++ m) w' → K (a.put o.dst v') w') : o.wp P a w K Q := by
  have hown := hR.own
  obtain ⟨v', w', hr, h2, h3, h4⟩ := run_appD (P := P) w w0.heap.size t o.type 5 hinfo ht v u l m hown hu hlen hR.env.below.size
  obtain ⟨g, cap, cur, rfl, _, _, _, _, hE⟩ := hR
  have hEr : Env w0 rs w' := hE.tl.grown h3 (fun r hm e => by
    have e2 : r.1 = g := by simpa [Value.ownBlock] using e
    have := hE.apart
    simp only [List.map_cons, List.nodup_cons] at this
    exact this.1 (List.mem_map.2 ⟨r, hm, e2⟩)) (fun k hk => by
    have : k = g := by simpa [Value.ownBlock] using hk.symm
    rw [this]
    exact hE.spot 0 rfl)
  have hby : ByRow w0 rs v' (l ++ m) w' := by
    rcases h2.2 with ⟨_, h0⟩ | ⟨g', cap', cur', rfl, hbg, hrow, q1, q2, q3, q4⟩
    · simp only [List.length_append] at h0; omega
    · refine ⟨g', cap', cur', rfl, q1, q2, by rw [q3, Nat.mul_one], by rw [Nat.mul_one] at q4; exact q4, hEr.add hrow hbg fun r hm e => ?_⟩
      rcases h4 with h4 | h4
      · have e2 : g' = g := by simpa [Value.ownBlock] using h4
        have := hE.apart
        simp only [List.map_cons, List.nodup_cons] at this
        exact this.1 (List.mem_map.2 ⟨r, hm, by rw [e, e2]⟩)
      · have := h4 g' (by simp [Value.ownBlock])
        have := (hE.tl.rows r hm).1.lt
        omega
  unfold Oper.wp execOp
  simp only [ho, resolve, invoke, builtin, Sem.run_bind, Sem.run_pure, Result.andThen_ok, List.map_toArray, List.map_cons, List.map_nil, hs, hx, hr]
  exact h v' w' hby
end Go.Proofs.YtfnmglicfgkmjaaDoor
end
