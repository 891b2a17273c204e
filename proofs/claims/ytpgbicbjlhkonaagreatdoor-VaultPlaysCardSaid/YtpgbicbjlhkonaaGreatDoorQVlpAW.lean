/-
  Texts that belong together, merged: VltV, VltW, VltX, VltY, VltZ. Conditions: as each theorem names them.
-/
import Derived.Test.YtpgbicbjlhkonaaGreatDoorQVlpAV
import Derived.Test.YtpgbicbjlhkonaaGreatDoorQVlpAA
import Derived.Test.YtpgbicbjlhkonaaGreatDoorQVlpAQ
import Derived.OwnWalk
section
namespace Go.Proofs.YtpgbicbjlhkonaaGreatDoor
open Go.RowKit
set_option linter.unusedVariables false
set_option maxRecDepth 20000

theorem LogR.turns {w0 w x y : World} {F : Nat → Prop} {g n : Nat} (h : LogR w0 w g n x) (t : Turns F x y) (hF : ∀ k, F k → w.heap.size ≤ k) (hg : ¬ F g) : LogR w0 w g n y :=
  ⟨t.below h.below h.below.size fun k hk => Nat.le_trans h.old (hF k hk), t.row h.row hg, h.far, h.old, h.row0,
    ⟨t.os.trans h.grown.os, t.tape.trans h.grown.tape, t.output.trans h.grown.output, Nat.le_trans h.grown.size t.size, fun k hk h1 => (t.block k (Nat.lt_of_lt_of_le hk h.grown.size) (fun hf => by have := hF k hf; omega)).trans (h.grown.block k hk h1)⟩⟩
theorem LogR.turn {w0 w x : World} {g n : Nat} (h : LogR w0 w g n x) : Turns (fun k => k = g) w x := turns_g h.grown
theorem Tryz.builtRO : Tryz.prog.built 113 [] = some #[.slice none 0 0, .int .i64 0] := by kernel_rfl
set_option maxHeartbeats 4000000 in
theorem refHead_any (w0 w : World) (gl nl : Nat) (q : Nat) (hq : q < 18446744073709551616) (vb : Value) (b : List UInt8) (hb : Bs w vb b) (hbl : b.length ≤ 140737488351232) (h : LogR w0 w gl nl w) (hn : nl ≤ 1000000000) :
    Calls Tryz.prog 21 #[.pointer (some ⟨gl, 0, none⟩), .int .u64 (q : Int), vb] w fun e w' => ∃ v, e = .returned v ∧ OwnB w' w.heap.size 5 v (hdV q b) ∧ LogR w0 w gl (nl + 1) w' := by
  have HR := Lib.hid h
  have HB := Lib.hid hb
  have hgl := h.glt
  have hwl : IntKind.u64.wrap (b.length : Int) = (b.length : Int) := by rw [IntKind.wrap_u64]; omega
  obtain ⟨A, c, rfl, hb1, hb2, _⟩ := hb
  have HN1 : Hid (∀ w, Calls Tryz.prog 53 #[.int .u64 (q : Int), .int .i64 8] w fun e w' => ∃ v, e = .returned v ∧ OwnB w' w.heap.size 5 v (highI q 8) ∧ Below w.heap.size w w') := fun w => refHigh_own w q hq 8 (by omega)
  have HN2 : Hid (∀ w, Calls Tryz.prog 53 #[.int .u64 (b.length : Int), .int .i64 8] w fun e w' => ∃ v, e = .returned v ∧ OwnB w' w.heap.size 5 v (highI b.length 8) ∧ Below w.heap.size w w') := fun w => refHigh_own w b.length (by omega) 8 (by omega)
  have L1 := high8_len q
  have L2 := high8_len b.length
  have HX : Hid (hdV q b = pad (([] ++ highI q 8) ++ highI b.length 8 ++ ((lowB 1 2).reverse ++ [digestB ((highI q 8 ++ highI b.length 8) ++ b)].flatten))) := by show _ = _; rfl
  have HO1 : Hid (∀ w base r l, l.length ≤ 100 → RoOwn w base r l → base ≤ w.heap.size → Calls Tryz.prog 54 #[.pointer (some ⟨r, 0, none⟩), .int .u64 (q : Int), .int .i64 8] w fun e w' => e = .returned (.tuple #[]) ∧ RoOwn w' base r (l ++ highI q 8) ∧ w.grownBy w' (some r)) := fun w base r l hl h hb => roNumber_own w base r l q hq h hb (by omega)
  have HO2 : Hid (∀ w base r l, l.length ≤ 100 → RoOwn w base r l → base ≤ w.heap.size → Calls Tryz.prog 54 #[.pointer (some ⟨r, 0, none⟩), .int .u64 (b.length : Int), .int .i64 8] w fun e w' => e = .returned (.tuple #[]) ∧ RoOwn w' base r (l ++ highI b.length 8) ∧ w.grownBy w' (some r)) := fun w base r l hl h hb => roNumber_own w base r l b.length (by omega) h hb (by omega)
  rw [HX.out]
  clear h HX hq
  generalize highI q 8 = n1 at HN1 HO1 L1 ⊢
  generalize highI b.length 8 = n2 at HN2 HO2 L2 ⊢
  obtain ⟨D, hD⟩ : ∃ D, D = digestB ((n1 ++ n2) ++ b) := ⟨_, rfl⟩
  have LD : Hid (D.length = 32) := by show _ = _; rw [hD, digestB_length]
  rw [← hD]
  have HD := Lib.hid hD
  clear hD
  obtain ⟨X, hX⟩ : ∃ X, X = [] ++ n1 ++ n2 ++ ((lowB [D].length 2).reverse ++ [D].flatten) := ⟨_, rfl⟩
  have LX : Hid (X.length = 50) := by
    show _ = _
    rw [hX, List.length_append, List.length_append, List.length_append, L1, L2, List.length_append, List.length_reverse, lowB_length, List.flatten_cons, List.flatten_nil, List.append_nil, LD.out]
    rfl
  have e0 : ([] ++ n1 ++ n2 ++ ((lowB 1 2).reverse ++ [D].flatten)) = X := hX.symm
  rw [e0]
  have HXX := Lib.hid hX
  have HL1 := Lib.hid L1
  have HL2 := Lib.hid L2
  clear e0 hX L1 L2
  go_enter Tryz.func21, Tryz.ntmps21
  go_wp2_with fail
  refine (HN1.out _).mono ?_
  rintro e w1 ⟨u1, rfl, o1, b1⟩
  have O1 := Lib.hid o1
  have B1 := Lib.hid b1
  obtain ⟨A1, c1, rfl, _, _⟩ := o1.shape
  clear o1 b1 HN1
  go_wp2_with fail
  refine (HN2.out _).mono ?_
  rintro e w2 ⟨u2, rfl, o2, b2⟩
  have S2 := Lib.hid o2.bs
  have B2 := Lib.hid (below_size B1.out b2)
  have O2 := Lib.hid (own_kept O1.out b2)
  obtain ⟨A2, c2, rfl, _, _⟩ := o2.shape
  clear o2 b2 HN2 O1 B1
  go_wp2_with (first
    | (at_builtin; refine wpList_appB _ (o := ⟨some 16, _, _, _, _, _⟩) rfl (.tmp 11) (.tmp 15) 38 rfl w 5 Tryz.infoB Tryz.underlying38 _ _ n1 n2 rfl rfl O2.out S2.out (by rw [HL1.out, HL2.out]; omega) B2.out ?_; intro v3 w3 o3 b3; have O3 := Lib.hid o3; have B3 := Lib.hid b3; have HB3 := Lib.hid (HB.out.below b3); clear o3 b3 O2 B2 S2)
    | (with_reducible refine wpList_val (o := ⟨some 17, _, _, _, _, _⟩) rfl (.agg #[.slice none 0 0, .int .i64 0]) (by exact run_builtOp 113 #[] rfl _ Tryz.builtRO) ?_)
    | ((with_reducible refine wpList_box_row (o := ⟨some 18, _, _, _, _, _⟩) rfl 113 (.tmp 17) rfl #[.slice none 0 0, .int .i64 0] (by with_unfolding_all rfl) ?_); intro r w4 m4; have M4 := Lib.hid m4; clear m4))
  have hl3 := World.ownsRow.lt O3.out
  have BB4 := Lib.hid (below_size B3.out M4.out.below)
  have Q4 := Lib.hid (own_kept O3.out M4.out.below)
  have R4 : Hid (RoOwn w4 w4.heap.size r []) := ⟨_, M4.out.row, OwnB.nil _ _ _⟩
  have HB4 := Lib.hid (HB3.out.below M4.out.below)
  have hr4 : w3.heap.size ≤ r := Nat.le_of_eq M4.out.spot.symm
  have hs34 := M4.out.below.size
  have hsw3 := B3.out.size
  clear HB3 B3 O3
  refine (HO1.out w4 _ r _ (by simp) R4.out (Nat.le_refl _)).mono ?_
  rintro e w5 ⟨rfl, r5, g5⟩
  have R5 := Lib.hid r5
  have T5 := Lib.hid (turns_g g5)
  clear r5 g5
  have Q5 := Lib.hid (T5.out.own Q4.out fun k hk e => by have := (hl3 k hk).2; omega)
  have BB5 := Lib.hid (T5.out.below BB4.out BB4.out.size fun k hk => by omega)
  have HB5 := Lib.hid (R4.out.bs HB4.out (by exact ⟨T5.out.os, T5.out.tape, T5.out.output, T5.out.size, fun k hk hne => T5.out.block k hk fun e => hne (by rw [e])⟩))
  have hs45 := T5.out.size
  clear HB4 BB4 Q4 R4 T5
  go_wp2_with fail
  refine (HO2.out w5 _ r _ (by rw [List.nil_append, HL1.out]; omega) R5.out hs45).mono ?_
  rintro e w6 ⟨rfl, r6, g6⟩
  have R6 := Lib.hid r6
  have T6 := Lib.hid (turns_g g6)
  have Q6 := Lib.hid (T6.out.own Q5.out fun k hk e => by have := (hl3 k hk).2; omega)
  have BB6 := Lib.hid (T6.out.below BB5.out BB5.out.size fun k hk => by omega)
  have HB6 := Lib.hid (R5.out.bs HB5.out g6)
  have hs56 := T6.out.size
  clear r6 g6 HB5 BB5 Q5 R5 T6 HO1 HO2
  go_wp2_with (at_builtin; refine wpList_appD (o := ⟨some 31, _, _, _, _, _⟩) rfl (.tmp 29) (.tmp 30) 38 rfl w.heap.size 5 Tryz.infoB Tryz.underlying38 _ _ (n1 ++ n2) b rfl rfl Q6.out HB6.out (by rw [List.length_append, HL1.out, HL2.out]; omega) (by omega) ?_; intro v7 w7 o7 g7 d7)
  have T7 := Lib.hid (Turns.of_grown (F := fun k => v3.ownBlock = some k) g7 fun k hk => hk)
  have S7 := Lib.hid o7.bs
  have R7 : Hid (RoOwn w7 w4.heap.size r ([] ++ n1 ++ n2)) := by
    obtain ⟨v, q1, q2⟩ := R6.out
    exact ⟨v, T7.out.row q1 (fun e => by have := (hl3 r e).2; omega), T7.out.own q2 fun k hk e => by have := (hl3 k e).2; have := (World.ownsRow.lt q2 k hk).1; omega⟩
  have BB7 := Lib.hid (T7.out.below BB6.out BB6.out.size fun k hk => (hl3 k hk).1)
  have hs67 := T7.out.size
  clear o7 g7 d7 HB6 BB6 Q6 R6 T7
  have LR7 := Lib.hid (HR.out.kept BB7.out)
  refine (LogSum_run w0 w7 gl nl v7 _ D LR7.out.self hn HD.out S7.out (by rw [List.length_append, List.length_append, HL1.out, HL2.out]; omega)).mono ?_
  rintro e w8 ⟨rfl, r8⟩
  have LR8 := Lib.hid (LR7.out.trans r8)
  have T8 := Lib.hid r8.turn
  have R8 : Hid (RoOwn w8 w4.heap.size r ([] ++ n1 ++ n2)) := by
    obtain ⟨v, q1, q2⟩ := R7.out
    exact ⟨v, T8.out.row q1 (fun e => by omega), T8.out.own q2 fun k hk e => by have := (World.ownsRow.lt q2 k hk).1; omega⟩
  have hs78 := T8.out.size
  clear r8 T8 R7 LR7 S7 BB7
  go_wp2_with ((with_reducible refine wpList_oneKeyV (o := ⟨some 33, _, _, _, _, _⟩) rfl (.tmp 32) rfl D LD.out (by with_unfolding_all rfl) ?_); intro g9 w9 q9 b9; have K9 := Lib.hid (one_kl q9 LD.out); have LR9 := Lib.hid (LR8.out.kept b9); have R9 := Lib.hid (R8.out.kept b9); have hs89 := b9.size; clear q9 b9 R8 LR8)
  refine (roKeys_own w9 w4.heap.size r _ _ [D] R9.out (by omega) K9.out (by rw [List.length_append, List.nil_append, HL1.out, HL2.out]; omega) (by simp)).mono ?_
  rintro e w10 ⟨rfl, r10, g10⟩
  rw [← HXX.out] at r10
  have T10 := Lib.hid (turns_g g10)
  have LR10 := Lib.hid (LR9.out.turns T10.out (fun k hk => by omega) (fun e => by omega))
  have hs910 := T10.out.size
  obtain ⟨v10, q10, o10⟩ := r10
  have c10 : w10.cell? ⟨r, 0, none⟩ = some v10 := q10.cell 0
  have O10 := Lib.hid o10
  obtain ⟨A10, c10', hv10, _, _⟩ := o10.shape
  rw [LX.out] at hv10
  subst hv10
  clear q10 o10 g10 T10 R9 LR9 K9 HD LD HL1 HL2 HXX
  go_wp2_with fail
  have hbw : w.heap.size ≤ w4.heap.size := by omega
  have hbw10 : w4.heap.size ≤ w10.heap.size := by omega
  go_loopw [9] (fun v wr => ∃ k : Nat, X.length + k ≤ 256 ∧ Hid (OwnB wr w4.heap.size 5 v (X ++ List.replicate k 0)) ∧ Hid (LogR w0 w gl (nl + 1) wr) ∧ w4.heap.size ≤ wr.heap.size) (fun v _ => 300 - (match v with | .slice _ n _ => n | _ => 0))
  case atStart => exact ⟨0, by rw [LX.out]; omega, by show OwnB _ _ _ _ _; rw [List.replicate_zero, List.append_nil]; exact O10.out, LR10.out, hbw10⟩
  case round =>
    obtain ⟨k, hk, HO, HL, hsz⟩ := hrel
    clear O10 LR10
    have hml : (X ++ List.replicate k (0 : UInt8)).length = 50 + k := by rw [List.length_append, LX.out, List.length_replicate]
    rw [LX.out] at hk
    obtain ⟨vA, vc, rfl, hv1, hv2⟩ := HO.out.shape
    unfold maxLen at hv2
    obtain ⟨ml, hmle⟩ : ∃ ml, ml = (X ++ List.replicate k (0 : UInt8)).length := ⟨_, rfl⟩
    rw [← hmle] at hml HO hv1 ⊢
    have HML := Lib.hid hmle
    have HM5 := Lib.hid hml
    have hv3 := World.ownsRow.lt HO.out
    clear hmle hml
    by_cases hlt : ml < 256
    · have ht : decide ((ml : Int) < 256) = true := by simp; omega
      go_wp2_with (at_builtin; refine wpList_appD (o := ⟨some 44, _, _, _, _, _⟩) rfl (.tmp 42) (.tmp 43) 38 rfl w4.heap.size 5 Tryz.infoB Tryz.underlying38 _ _ (X ++ List.replicate k 0) [0] rfl rfl (HO.out.alloc _) (Bs.lit1 _ _ _ _ rfl) (by rw [← HML.out]; simp; omega) (Nat.le_trans hsz (alloc_below _ _).size) ?_; intro v7 w7 o7 g7 d7)
      have o8 : OwnB w7 w4.heap.size 5 v7 (X ++ List.replicate (k + 1) 0) := by
        rw [List.replicate_succ', ← List.append_assoc]
        exact o7
      have LR := (HL.out.kept (alloc_below _ _)).turns (Turns.of_grown (F := fun k => (Value.slice vA ml vc).ownBlock = some k) g7 fun k hk => hk) (fun k hk => Nat.le_trans hbw (hv3 k hk).1) (fun e => by have := (hv3 gl e).1; omega)
      have hs7 := Nat.le_trans (Nat.le_trans hsz (alloc_below _ _).size) g7.size
      refine ⟨⟨k + 1, by have := HM5.out; have := LX.out; omega, o8, LR, hs7⟩, ?_⟩
      obtain ⟨A9, c9, rfl, _, _⟩ := o8.shape
      show 300 - (X ++ List.replicate (k + 1) 0).length < 300 - ml
      rw [List.length_append, List.length_replicate, HM5.out, LX.out]
      omega
    · have hd : decide ((ml : Int) < 256) = false := by simp; omega
      have hk2 : 256 - X.length = k := by have := HM5.out; have := LX.out; omega
      have HE : Hid (pad X = X ++ List.replicate k 0) := by show _ = _; unfold pad; rw [hk2]
      go_wp2
      go_ret
      rw [HE.out]
      exact ⟨_, rfl, World.ownsRow.mono HO.out hbw, HL.out⟩
end Go.Proofs.YtpgbicbjlhkonaaGreatDoor
end
section
namespace Go.Proofs.YtpgbicbjlhkonaaGreatDoor
open Go.RowKit
set_option linter.unusedVariables false
set_option maxRecDepth 20000

set_option maxHeartbeats 4000000 in
theorem refCounts_any (w0 w : World) (gl nl : Nat) (R : Nat → Prop) (g : Nat) (vs vp : Value) (ss : List (List UInt8 × Value)) (ps : List (Nat × List UInt8 × Value)) (a : Ab) (d : Dev) (h : DocIs w R g vs vp ss ps a) (hs : Sim d a) (hp : d.pend.length ≤ 1000000) (at_ n s : Nat) (hn1 : 1 ≤ n) (hn : n ≤ 200) (hs1 : s ≤ 1) (hlen : at_ + 2 * n + 2 ≤ d.now.length) (hL : LogR w0 w gl nl w) (hnl : nl ≤ 100000000) :
    Calls Tryz.prog 65 #[.pointer (some ⟨gl, 0, none⟩), .pointer (some ⟨g, 0, none⟩), .int .i64 (at_ : Int), .int .i64 (n : Int), .int .i64 (s : Int)] w fun e w' => ∃ v nl', nl' ≤ nl + 1 ∧ e = .returned (.tuple #[v, .int .u64 ((countsV d.now (lowOf at_ n s) n hdV).2 : Int)]) ∧ Bs w' v (countsV d.now (lowOf at_ n s) n hdV).1 ∧ LogR w0 w gl nl' w' := by
  have HS : Hid (Calls Tryz.prog 68 #[.pointer (some ⟨g, 0, none⟩), .int .i64 (at_ : Int), .int .i64 (n : Int), .int .i64 (s : Int)] w (RetOwn w 5 (slotB d.now (lowOf at_ n s) n))) := refSlot_any w R g vs vp ss ps a d h hs hp at_ n s hn hs1 hlen
  have hlo : lowOf at_ n s + (n + 1) ≤ d.now.length := by
    rcases s with _ | _ | s
    · rw [lowOf_0]; omega
    · rw [lowOf_1]; omega
    · omega
  have LA := slotB_len hs.ok.now _ _ hlo
  have HC : Hid (countsV d.now (lowOf at_ n s) n hdV = (let all := slotB d.now (lowOf at_ n s) n; if ofHighB (all.take 8) = 0 ∨ 256 * n < ofHighB ((all.drop 8).take 8) then ([], 0) else if all.take 256 = hdV (ofHighB (all.take 8)) ((all.drop 256).take (ofHighB ((all.drop 8).take 8))) then ((all.drop 256).take (ofHighB ((all.drop 8).take 8)), ofHighB (all.take 8)) else ([], 0))) := by show _ = _; rfl
  have HL := Lib.hid hL
  generalize countsV d.now (lowOf at_ n s) n hdV = CV at HC ⊢
  generalize slotB d.now (lowOf at_ n s) n = L at HS HC LA
  obtain ⟨q, hq⟩ : ∃ q, q = ofHighB (L.take 8) := ⟨_, rfl⟩
  obtain ⟨z, hz⟩ : ∃ z, z = ofHighB ((L.drop 8).take 8) := ⟨_, rfl⟩
  have hq64 : q < 18446744073709551616 := by rw [hq]; exact ofHighB_u64 _ (by rw [List.length_take]; omega)
  have hz64 : z < 18446744073709551616 := by rw [hz]; exact ofHighB_u64 _ (by rw [List.length_take]; omega)
  have HQ : Hid (∀ w v, Bs w v (L.take 8) → Calls Tryz.prog 71 #[v] w fun e w' => e = .returned (.int .u64 (q : Int)) ∧ w = w') := fun w v h => by
    have := refOfHigh_any w v _ h
    rwa [List.take_take, Nat.min_self, ← hq] at this
  have HZ : Hid (∀ w v, Bs w v ((L.drop 8).take 8) → Calls Tryz.prog 71 #[v] w fun e w' => e = .returned (.int .u64 (z : Int)) ∧ w = w') := fun w v h => by
    have := refOfHigh_any w v _ h
    rwa [List.take_take, Nat.min_self, ← hz] at this
  simp only [← hq, ← hz] at HC
  clear h hs hp hL hq hz
  have hwu : IntKind.u64.wrap (256 * (n : Int)) = 256 * (n : Int) := by rw [IntKind.wrap_u64]; omega
  have hwi : IntKind.i64.wrap (256 * (n : Int)) = 256 * (n : Int) := IntWalk.i64_in _ (by omega)
  go_enter Tryz.func65, Tryz.ntmps65
  go_wp2_with fail
  refine HS.out.mono ?_
  rintro e w1 ⟨v1, rfl, o1, b1⟩
  obtain ⟨ga, ca, rfl, hc1, hc2⟩ := own_slice o1 (by rw [LA]; omega)
  unfold maxLen at hc2
  have S1 := Lib.hid o1.bs
  have B1 := Lib.hid b1
  have HLA := Lib.hid LA
  have hc0 : 512 ≤ ca := by omega
  obtain ⟨LL, hLL⟩ : ∃ LL, LL = L.length := ⟨_, rfl⟩
  have HLL := Lib.hid hLL
  rw [← hLL] at S1 LA hc1 ⊢
  clear o1 b1 HS hLL
  go_wp2_with fail
  have S8 : Hid (Bs w1 (.slice (some ⟨ga, 0, none⟩) 8 ca) (L.take 8)) := by
    have := S1.out.mid3 0 8 ca (by rw [HLA.out]; omega) (by omega) (by unfold maxLen; omega)
    exact this
  have S16 : Hid (Bs w1 (.slice (some ⟨ga, 8, none⟩) 8 (ca - 8)) ((L.drop 8).take 8)) := by
    have := S1.out.mid3 8 8 (ca - 8) (by rw [HLA.out]; omega) (by omega) (by unfold maxLen; omega)
    rwa [Nat.zero_add] at this
  refine (HQ.out w1 _ S8.out).mono ?_
  rintro e w2 ⟨rfl, rfl⟩
  clear HQ S8
  go_wp2_with fail
  refine (HZ.out w1 _ S16.out).mono ?_
  rintro e w2 ⟨rfl, rfl⟩
  clear HZ S16
  have LR1 := Lib.hid (HL.out.kept B1.out)
  by_cases hq0 : q = 0
  · have hd1 : decide ((q : Int) = 0) = true := by simp; omega
    rw [if_pos (.inl hq0)] at HC
    subst hq0
    go_wp2
    go_ret2
    rw [HC.out]
    exact ⟨_, _, Nat.le_succ _, rfl, Bs.nil _, LR1.out⟩
  have hd1 : decide ((q : Int) = 0) = false := by simp; omega
  by_cases hz1 : 256 * n < z
  · have hd2 : decide (256 * (n : Int) < (z : Int)) = true := by simp; omega
    rw [if_pos (.inr hz1)] at HC
    go_wp2
    go_ret2
    rw [HC.out]
    exact ⟨_, _, Nat.le_succ _, rfl, Bs.nil _, LR1.out⟩
  have hd2 : decide (256 * (n : Int) < (z : Int)) = false := by simp; omega
  rw [if_neg (by omega)] at HC
  have hwz : IntKind.i64.wrap (z : Int) = (z : Int) := IntWalk.i64_in _ (by omega)
  have hwz2 : IntKind.i64.wrap (256 + (z : Int)) = 256 + (z : Int) := IntWalk.i64_in _ (by omega)
  have hz3 : (256 + (z : Int)).toNat = 256 + z := by omega
  have hz0 : ¬ (256 + (z : Int) < 0) := by omega
  have hz4 : 256 + z ≤ ca := by omega
  have hz5 : 256 + z - 256 = z := by omega
  go_wp2_with fail
  have DB := Lib.hid (Below.refl w1.heap.size w1).drew
  have SZ : Hid (Bs w1 (.slice (some ⟨ga, 256, none⟩) z (ca - 256)) ((L.drop 256).take z)) := by
    have := S1.out.mid3 256 z (ca - 256) (by rw [HLA.out]; omega) (by omega) (by unfold maxLen; omega)
    rwa [Nat.zero_add] at this
  have SH : Hid (Bs w1 (.slice (some ⟨ga, 0, none⟩) 256 ca) (L.take 256)) := by
    have := S1.out.mid3 0 256 ca (by rw [HLA.out]; omega) (by omega) (by unfold maxLen; omega)
    exact this
  have LZ : Hid (((L.drop 256).take z).length = z) := by
    show _ = _
    rw [List.length_take, List.length_drop, HLA.out]
    omega
  have HHd : Hid (Calls Tryz.prog 21 #[.pointer (some ⟨gl, 0, none⟩), .int .u64 (q : Int), .slice (some ⟨ga, 256, none⟩) z (ca - 256)] w1.drew fun e w' => ∃ v, e = .returned v ∧ OwnB w' w1.drew.heap.size 5 v (hdV q ((L.drop 256).take z)) ∧ LogR w0 w1.drew gl (nl + 1) w') :=
    refHead_any w0 w1.drew gl nl q hq64 _ _ (SZ.out.below DB.out) (by rw [LZ.out]; omega) (LR1.out.kept DB.out).self (by omega)
  have hca : ¬ ((ca : Int) < 256) := by omega
  have hLH : (L.take 256).length = 256 := by rw [List.length_take, HLA.out]; omega
  clear S1
  refine plain_region (S := fun _ => True) (fin := fun _ => false) (by kernel_rfl) ?_
  change walkS _ _ _ _ _ _ 8 _ _ _
  refine walkS_take (i := 0) (oi := ⟨some 41, _, _, _, _, _⟩) (v := .slice (some ⟨ga, 0, none⟩) (256 * (n + 1)) ca) rfl (by kernel_rfl) (by kernel_rfl) (fun _ _ _ h => h) _ _ _ _ (by kernel_rfl) (by kernel_rfl) (Or.inl ⟨by rfl, fun w' _ => (by go_simp <;> first | done | (intro h; omega))⟩) trivial ?_
  try simp only [Act.put, List.setIfInBounds_toArray, List.set_cons_zero, List.set_cons_succ]
  refine walkS_take (i := 1) (oi := ⟨some 42, _, _, _, _, _⟩) (v := .slice (some ⟨ga, 0, none⟩) 256 ca) rfl (by kernel_rfl) (by kernel_rfl) (fun _ _ _ h => h) _ _ _ _ (by kernel_rfl) (by kernel_rfl) (Or.inl ⟨by rfl, fun w' _ => (by go_simp <;> first | done | (intro h; omega))⟩) trivial ?_
  try simp only [Act.put, List.setIfInBounds_toArray, List.set_cons_zero, List.set_cons_succ]
  refine walkS_take (i := 2) (oi := ⟨some 43, _, _, _, _, _⟩) (v := .pointer (some ⟨gl, 0, none⟩)) rfl (by kernel_rfl) (by kernel_rfl) (fun _ _ _ h => h) _ _ _ _ (by kernel_rfl) (by kernel_rfl) (Or.inl ⟨by rfl, fun w' _ => (by go_simp <;> first | done | (intro h; omega))⟩) trivial ?_
  try simp only [Act.put, List.setIfInBounds_toArray, List.set_cons_zero, List.set_cons_succ]
  refine walkS_take (i := 3) (oi := ⟨some 44, _, _, _, _, _⟩) (v := .int .u64 (q : Int)) rfl (by kernel_rfl) (by kernel_rfl) (fun _ _ _ h => h) _ _ _ _ (by kernel_rfl) (by kernel_rfl) (Or.inl ⟨by rfl, fun w' _ => (by go_simp <;> first | done | (intro h; omega))⟩) trivial ?_
  try simp only [Act.put, List.setIfInBounds_toArray, List.set_cons_zero, List.set_cons_succ]
  refine walkS_take (i := 4) (oi := ⟨some 45, _, _, _, _, _⟩) (v := .slice (some ⟨ga, 256, none⟩) z (ca - 256)) rfl (by kernel_rfl) (by kernel_rfl) (fun _ _ _ h => h) _ _ _ _ (by kernel_rfl) (by kernel_rfl) (Or.inl ⟨by rfl, fun w' _ => (by go_simp <;> first | done | (intro h; omega))⟩) trivial ?_
  try simp only [Act.put, List.setIfInBounds_toArray, List.set_cons_zero, List.set_cons_succ]
  refine walkS_only (i := 5) (o := ⟨some 46, _, _, _, _, _⟩) (by kernel_rfl) rfl rfl fun KK hKK => ?_
  go_simp
  refine HHd.out.mono ?_
  rintro e w3 ⟨v3, rfl, o3, r3⟩
  refine hKK _ _ (.inr trivial) ?_
  clear hKK KK
  try simp only [Act.put, List.setIfInBounds_toArray, List.set_cons_zero, List.set_cons_succ]
  have LR3 := Lib.hid ((LR1.out.kept DB.out).trans r3)
  have S3 := Lib.hid o3.bs
  have SH3 := Lib.hid (r3.bs (SH.out.below DB.out))
  have SZ3 := Lib.hid (r3.bs (SZ.out.below DB.out))
  clear o3 r3 SH SZ HHd
  refine walkS_only (i := 6) (o := ⟨some 47, _, _, _, _, _⟩) (by kernel_rfl) rfl rfl fun KK hKK => ?_
  go_simp
  refine (same_ret _ _ _ _ _ SH3.out S3.out).mono ?_
  rintro e w4 ⟨rfl, b4⟩
  refine hKK _ _ (.inr trivial) ?_
  clear hKK KK
  try simp only [Act.put, List.setIfInBounds_toArray, List.set_cons_zero, List.set_cons_succ]
  have LR4 := Lib.hid (LR3.out.kept b4)
  have SZ4 := Lib.hid (SZ3.out.below b4)
  clear b4 LR3 S3 SH3 SZ3 LR1
  refine walkS_only (i := 7) (o := ⟨some 48, _, _, _, _, _⟩) (by kernel_rfl) rfl rfl fun KK hKK => ?_
  go_simp
  refine hKK _ _ (.inr trivial) ?_
  clear hKK KK
  try simp only [Act.put, List.setIfInBounds_toArray, List.set_cons_zero, List.set_cons_succ]
  refine walkS_done (by kernel_rfl) ?_ _
  by_cases he : L.take 256 = hdV q ((L.drop 256).take z)
  · have hbe : (L.take 256 == hdV q ((L.drop 256).take z)) = true := by simp [he]
    rw [if_pos he] at HC
    simp only [hbe]
    clear he hbe
    go_wp2
    go_ret2
    rw [HC.out]
    exact ⟨_, _, Nat.le_refl _, rfl, SZ4.out, LR4.out⟩
  · have hbe : (L.take 256 == hdV q ((L.drop 256).take z)) = false := by simp [he]
    rw [if_neg he] at HC
    simp only [hbe]
    clear he hbe
    go_wp2
    go_ret2
    rw [HC.out]
    exact ⟨_, _, Nat.le_refl _, rfl, Bs.nil _, LR4.out⟩
end Go.Proofs.YtpgbicbjlhkonaaGreatDoor
end
section
namespace Go.Proofs.YtpgbicbjlhkonaaGreatDoor
open Go.RowKit
set_option linter.unusedVariables false
set_option maxRecDepth 20000


section
variable (w0 w : World) (gl nl : Nat) (R : Nat → Prop) (g : Nat) (vs vp : Value) (ss : List (List UInt8 × Value)) (ps : List (Nat × List UInt8 × Value)) (a : Ab) (d : Dev)
set_option maxHeartbeats 1000000 in
theorem refBest_any (h : DocIs w R g vs vp ss ps a) (hs : Sim d a) (hp : d.pend.length ≤ 1000000) (hRl : ¬ R gl) (hgl : g ≠ gl) (at_ n : Nat) (hn1 : 1 ≤ n) (hn : n ≤ 200) (hlen : at_ + 2 * n + 2 ≤ d.now.length) (hL : LogR w0 w gl nl w) (hnl : nl ≤ 10000000) :
    Calls Tryz.prog 43 #[.pointer (some ⟨gl, 0, none⟩), .pointer (some ⟨g, 0, none⟩), .int .i64 (at_ : Int), .int .i64 (n : Int)] w fun e w' => ∃ v nl', nl' ≤ nl + 2 ∧ e = .returned (.tuple #[.int .i64 ((bestV d.now at_ n hdV).1 : Int), v, .int .u64 ((bestV d.now at_ n hdV).2.2 : Int)]) ∧ Bs w' v (bestV d.now at_ n hdV).2.1 ∧ LogR w0 w gl nl' w' := by
  have H1 : Hid (∀ (s : Nat) x m, s ≤ 1 → DocIs x R g vs vp ss ps a → LogR w0 x gl m x → m ≤ 100000000 → Calls Tryz.prog 65 #[.pointer (some ⟨gl, 0, none⟩), .pointer (some ⟨g, 0, none⟩), .int .i64 (at_ : Int), .int .i64 (n : Int), .int .i64 (s : Int)] x fun e w' => ∃ v nl', nl' ≤ m + 1 ∧ e = .returned (.tuple #[v, .int .u64 ((countsV d.now (lowOf at_ n s) n hdV).2 : Int)]) ∧ Bs w' v (countsV d.now (lowOf at_ n s) n hdV).1 ∧ LogR w0 x gl nl' w') := fun s x m h1 h hL hm =>
    refCounts_any w0 x gl m R g vs vp ss ps a d h hs hp at_ n s hn1 hn h1 hlen hL hm
  have HX := Lib.hid (H1.out 0 w nl (by omega) h hL (by omega))
  have HY := Lib.hid (fun x m => H1.out 1 x m (by omega))
  have HB : Hid (bestV d.now at_ n hdV = if (countsV d.now (lowOf at_ n 0) n hdV).2 = 0 ∨ (countsV d.now (lowOf at_ n 0) n hdV).2 < (countsV d.now (lowOf at_ n 1) n hdV).2 then (1, countsV d.now (lowOf at_ n 1) n hdV) else (0, countsV d.now (lowOf at_ n 0) n hdV)) := by show _ = _; rfl
  have HH := Lib.hid h
  have u0 := countsV_u64 d.now (lowOf at_ n 0) n hdV
  have u1 := countsV_u64 d.now (lowOf at_ n 1) n hdV
  generalize bestV d.now at_ n hdV = BV at HB ⊢
  generalize countsV d.now (lowOf at_ n 0) n hdV = X at HX HB u0
  generalize countsV d.now (lowOf at_ n 1) n hdV = Y at HY HB u1
  obtain ⟨xb, xq⟩ := X
  obtain ⟨yb, yq⟩ := Y
  simp only at HX HY HB u0 u1
  clear h hs hp H1 hL
  go_enter Tryz.func43, Tryz.ntmps43
  go_wp2_with fail
  refine HX.out.mono ?_
  rintro e w1 ⟨v1, n1, hn1', rfl, s1, r1⟩
  have LR1 := Lib.hid r1
  have D1 := Lib.hid (HH.out.turned r1.turn (fun k hk e => hRl (e ▸ hk)) hgl)
  have S1 := Lib.hid s1
  obtain ⟨A1, c1, rfl, _, _, _⟩ := s1
  clear r1 HX HH
  go_wp2_with fail
  refine (HY.out w1 n1 D1.out LR1.out.self (by omega)).mono ?_
  rintro e w2 ⟨v2, n2, hn2', rfl, s2, r2⟩
  have LR2 := Lib.hid (LR1.out.trans r2)
  have S2 := Lib.hid s2
  have S12 := Lib.hid (r2.bs S1.out)
  obtain ⟨A2, c2, rfl, _, _, _⟩ := s2
  clear r2 HY D1 LR1 S1
  by_cases hx : xq = 0
  · have hd1 : decide ((xq : Int) = 0) = true := by simp; omega
    rw [if_pos (.inl hx)] at HB
    subst hx
    go_wp2
    try simp only [Exit.inBlock, Exit.then]
    refine bodyPost_ret (results_tmp3 rfl _ _ _) rfl ?_
    rw [HB.out]
    exact ⟨_, n2, by omega, rfl, S2.out, LR2.out⟩
  have hd1 : decide ((xq : Int) = 0) = false := by simp; omega
  by_cases hy : xq < yq
  · have hd2 : decide ((xq : Int) < (yq : Int)) = true := by simp; omega
    rw [if_pos (.inr hy)] at HB
    go_wp2
    try simp only [Exit.inBlock, Exit.then]
    refine bodyPost_ret (results_tmp3 rfl _ _ _) rfl ?_
    rw [HB.out]
    exact ⟨_, n2, by omega, rfl, S2.out, LR2.out⟩
  · have hd2 : decide ((xq : Int) < (yq : Int)) = false := by simp; omega
    rw [if_neg (by omega)] at HB
    go_wp2
    try simp only [Exit.inBlock, Exit.then]
    refine bodyPost_ret (results_tmp3 rfl _ _ _) rfl ?_
    rw [HB.out]
    exact ⟨_, n2, by omega, rfl, S12.out, LR2.out⟩
end
section
variable (w0 w : World) (gl nl : Nat) (R : Nat → Prop) (g : Nat) (vs vp : Value) (ss : List (List UInt8 × Value)) (ps : List (Nat × List UInt8 × Value)) (a : Ab) (d : Dev)
set_option maxHeartbeats 1000000 in
theorem refLoad_any (h : DocIs w R g vs vp ss ps a) (hs : Sim d a) (hp : d.pend.length ≤ 1000000) (hRl : ¬ R gl) (hgl : g ≠ gl) (at_ n : Int) (hL : LogR w0 w gl nl w) (hnl : nl ≤ 1000000) :
    Calls Tryz.prog 23 #[.pointer (some ⟨gl, 0, none⟩), .pointer (some ⟨g, 0, none⟩), .int .i64 at_, .int .i64 n] w fun e w' => ∃ v nl', nl' ≤ nl + 2 ∧ e = .returned (.tuple #[v, .int .u64 ((loadF hdV d at_ n).2.1 : Int), .int .i64 (loadF hdV d at_ n).2.2]) ∧ Bs w' v (loadF hdV d at_ n).1 ∧ LogR w0 w gl nl' w' := by
  have hm := hs.ok.most
  have HR : Hid (Calls Tryz.prog 42 #[.pointer (some ⟨g, 0, none⟩), .int .i64 at_, .int .i64 n] w (RetV w (.int .i64 (rightV d.now.length at_ n)))) := by
    show Calls _ _ _ _ _
    rw [← hs.len]
    exact refRight_any w R g vs vp ss ps a h at_ n (by rw [hs.len]; omega)
  have HH := Lib.hid h
  have HL := Lib.hid hL
  have HS := Lib.hid hs
  clear h hL hs
  by_cases he : rightV d.now.length at_ n = 0
  · have HE : Hid (loadF hdV d at_ n = loadV hdV d at_.toNat n.toNat) := by show _ = _; unfold loadF; rw [if_pos he]
    rw [he] at HR
    obtain ⟨A, N, rfl, rfl, hN1, hN2, hlen⟩ := right_nats he
    simp only [Int.toNat_natCast] at HE
    have HB : Hid (∀ x, DocIs x R g vs vp ss ps a → LogR w0 x gl nl x → Calls Tryz.prog 43 #[.pointer (some ⟨gl, 0, none⟩), .pointer (some ⟨g, 0, none⟩), .int .i64 (A : Int), .int .i64 (N : Int)] x fun e w' => ∃ v nl', nl' ≤ nl + 2 ∧ e = .returned (.tuple #[.int .i64 ((bestV d.now A N hdV).1 : Int), v, .int .u64 ((bestV d.now A N hdV).2.2 : Int)]) ∧ Bs w' v (bestV d.now A N hdV).2.1 ∧ LogR w0 x gl nl' w') := fun x h hL =>
      refBest_any w0 x gl nl R g vs vp ss ps a d h HS.out hp hRl hgl A N hN1 hN2 hlen hL (by omega)
    have HV : Hid (loadV hdV d A N = if (bestV d.now A N hdV).2.2 = 0 then ([], 0, 62) else ((bestV d.now A N hdV).2.1, (bestV d.now A N hdV).2.2, 0)) := by show _ = _; rfl
    rw [HE.out]
    generalize loadV hdV d A N = LV at HV ⊢
    generalize bestV d.now A N hdV = BV at HB HV
    obtain ⟨bs, bb, bq⟩ := BV
    simp only at HB HV
    clear HE he
    go_enter Tryz.func23, Tryz.ntmps23
    go_wp2_with fail
    refine HR.out.mono ?_
    rintro e w1 ⟨rfl, b1⟩
    have L1 := Lib.hid (HL.out.kept b1)
    have D1 := Lib.hid (HH.out.kept b1)
    clear b1 HR HL HH
    go_wp2_with fail
    refine (HB.out w1 D1.out L1.out.self).mono ?_
    rintro e w2 ⟨v2, n2, hn2', rfl, s2, r2⟩
    have LR2 := Lib.hid (L1.out.trans r2)
    have S2 := Lib.hid s2
    obtain ⟨A2, c2, rfl, _, _, _⟩ := s2
    clear r2 HB D1 L1
    by_cases hx : bq = 0
    · have hd1 : decide ((bq : Int) = 0) = true := by simp; omega
      rw [if_pos hx] at HV
      subst hx
      go_wp2
      try simp only [Exit.inBlock, Exit.then]
      refine bodyPost_ret (results_tmp3 rfl _ _ _) rfl ?_
      rw [HV.out]
      exact ⟨_, n2, by omega, rfl, Bs.nil _, LR2.out⟩
    · have hd1 : decide ((bq : Int) = 0) = false := by simp; omega
      rw [if_neg hx] at HV
      go_wp2
      try simp only [Exit.inBlock, Exit.then]
      refine bodyPost_ret (results_tmp3 rfl _ _ _) rfl ?_
      rw [HV.out]
      exact ⟨_, n2, by omega, rfl, S2.out, LR2.out⟩
  · have HE : Hid (loadF hdV d at_ n = ([], 0, rightV d.now.length at_ n)) := by show _ = _; unfold loadF; rw [if_neg he]
    generalize rightV d.now.length at_ n = e at he HR HE
    have hd : decide (e = 0) = false := by simp [he]
    rw [HE.out]
    clear HE
    go_enter Tryz.func23, Tryz.ntmps23
    go_wp2_with fail
    refine HR.out.mono ?_
    rintro e w1 ⟨rfl, b1⟩
    have L1 := Lib.hid (HL.out.kept b1)
    clear b1 HR HL HH
    go_wp2
    try simp only [Exit.inBlock, Exit.then]
    refine bodyPost_ret (results_tmp3 rfl _ _ _) rfl ?_
    exact ⟨_, nl, by omega, rfl, Bs.nil _, L1.out⟩
end
end Go.Proofs.YtpgbicbjlhkonaaGreatDoor
end
section
namespace Go.Proofs.YtpgbicbjlhkonaaGreatDoor
open Go.RowKit
set_option linter.unusedVariables false
set_option maxRecDepth 20000

section
variable (w : World) (R : Nat → Prop) (g : Nat) (vs vp : Value) (ss : List (List UInt8 × Value)) (ps : List (Nat × List UInt8 × Value)) (a : Ab) (d : Dev)
set_option maxHeartbeats 1000000 in
theorem refClean_any (h : DocIs w R g vs vp ss ps a) (hs : Sim d a) (hp : d.pend.length ≤ 1000000) (at_ n s : Nat) (hn : n ≤ 200) (hs1 : s ≤ 1) (hlen : at_ + 2 * n + 2 ≤ d.now.length) :
    Calls Tryz.prog 49 #[.pointer (some ⟨g, 0, none⟩), .int .i64 (at_ : Int), .int .i64 (n : Int), .int .i64 (s : Int)] w (RetV w (.bool (cleanV d.now (lowOf at_ n s) n))) := by
  have HS : Hid (Calls Tryz.prog 68 #[.pointer (some ⟨g, 0, none⟩), .int .i64 (at_ : Int), .int .i64 (n : Int), .int .i64 (s : Int)] w (RetOwn w 5 (slotB d.now (lowOf at_ n s) n))) := refSlot_any w R g vs vp ss ps a d h hs hp at_ n s hn hs1 hlen
  have hlo : lowOf at_ n s + (n + 1) ≤ d.now.length := by
    rcases s with _ | _ | s
    · rw [lowOf_0]; omega
    · rw [lowOf_1]; omega
    · omega
  have LA := slotB_len hs.ok.now _ _ hlo
  have HC : Hid (cleanV d.now (lowOf at_ n s) n = (slotB d.now (lowOf at_ n s) n).all (· == 0)) := by show _ = _; rfl
  generalize cleanV d.now (lowOf at_ n s) n = CV at HC ⊢
  generalize slotB d.now (lowOf at_ n s) n = L at HS HC LA
  clear h hs hp
  go_enter Tryz.func49, Tryz.ntmps49
  go_wp2_with fail
  refine HS.out.mono ?_
  rintro e w1 ⟨v1, rfl, o1, b1⟩
  obtain ⟨ga, ca, rfl, hc1, hc2⟩ := own_slice o1 (by rw [LA]; omega)
  unfold maxLen at hc2
  have B1 := Lib.hid b1
  have HB : Hid (∀ k, k < L.length → w1.cell? ⟨ga, k, none⟩ = some (.int .u8 ((L.getD k 0).toNat : Int))) := fun k hk => by
    obtain ⟨A', c', hv, q1, q2, q3⟩ := o1.bs
    injection hv with e1 e2 e3
    obtain ⟨b, off, hA, hc⟩ := q3 (by omega)
    rw [← e1] at hA
    injection hA with hA
    injection hA with r1 r2 _
    subst r1 r2
    have := hc k hk
    rw [Nat.zero_add] at this
    rw [this]
    simp [List.getD_eq_getElem?_getD, hk]
  obtain ⟨LL, hLL⟩ : ∃ LL, LL = L.length := ⟨_, rfl⟩
  rw [← hLL] at HB hc1 LA ⊢
  have HLL := Lib.hid hLL
  have HLA := Lib.hid LA
  clear o1 b1 HS hLL LA
  have hLL6 : LL ≤ 60000 := by have := HLA.out; omega
  go_wp2_with fail
  go_loopw [10] (fun u wr => ∃ k : Nat, k ≤ LL ∧ u = .int .i64 (k : Int) ∧ wr = w1 ∧ Hid ((L.take k).all (· == 0) = true)) (fun u _ => LL - (intOf u).toNat)
  case atStart => exact ⟨0, by omega, rfl, rfl, rfl⟩
  case round =>
    obtain ⟨k, hk, rfl, rfl, HA⟩ := hrel
    by_cases hlt : k < LL
    · have hd1 : decide ((k : Int) < (LL : Int)) = true := by simp; omega
      have hk1 : (k : Int) < (LL : Int) := by omega
      have hk0 : ¬ ((k : Int) < 0) := by omega
      have hw : IntKind.i64.wrap ((k : Int) + 1) = (k : Int) + 1 := IntWalk.i64_in _ (by omega)
      have hc := HB.out k hlt
      have HX : Hid ((L.take (k + 1)).all (· == 0) = ((L.take k).all (· == 0) && (L.getD k 0 == 0))) := by
        show _ = _
        have hk2 : k < L.length := by rw [← HLL.out]; exact hlt
        rw [List.take_succ_eq_append_getElem hk2, List.all_append]
        simp [List.getD_eq_getElem?_getD, hk2]
      have HM : Hid (L.getD k 0 ∈ L) := by
        have hk2 : k < L.length := by rw [← HLL.out]; exact hlt
        show _ ∈ _
        rw [List.getD_eq_getElem?_getD, List.getElem?_eq_getElem hk2]
        exact List.getElem_mem hk2
      generalize L.getD k 0 = x at hc HX HM
      by_cases hx : x = 0
      · subst hx
        have e0 : (((0 : UInt8).toNat : Nat) : Int) = 0 := rfl
        rw [e0] at hc
        clear e0
        go_wp2_with fail
        refine ⟨⟨k + 1, by omega, by congr 1, trivial, ?_⟩, ?_⟩
        · show _ = _
          rw [HX.out, HA.out]
          rfl
        · show LL - ((k : Int) + 1).toNat < LL - (k : Int).toNat
          omega
      · have hxn : x.toNat ≠ 0 := fun e => hx (UInt8.toNat_inj.1 (by rw [e]; rfl))
        have hd2 : decide ((x.toNat : Int) = 0) = false := decide_eq_false (by omega)
        have hd3 : ¬ ((x.toNat : Int) = 0) := by omega
        have HE : Hid (CV = false) := by
          show _ = _
          rw [HC.out]
          cases hall : L.all (· == 0)
          · rfl
          · rw [List.all_eq_true] at hall
            exact absurd (eq_of_beq (hall x HM.out)) hx
        go_wp2
        go_ret
        rw [HE.out]
        exact ⟨rfl, B1.out⟩
    · have hd1 : decide ((k : Int) < (LL : Int)) = false := by simp; omega
      have HE : Hid (CV = true) := by
        show _ = _
        rw [HC.out]
        have := HA.out
        rwa [List.take_of_length_le (by rw [← HLL.out]; omega)] at this
      go_wp2
      go_ret
      rw [HE.out]
      exact ⟨rfl, B1.out⟩
set_option maxHeartbeats 1000000 in
theorem refStale_any (h : DocIs w R g vs vp ss ps a) (hs : Sim d a) (hp : d.pend.length ≤ 1000000) (at_ n : Int) :
    Calls Tryz.prog 25 #[.pointer (some ⟨g, 0, none⟩), .int .i64 at_, .int .i64 n] w (RetV w (.tuple #[.bool (staleF d at_ n).1, .int .i64 (staleF d at_ n).2])) := by
  have hm := hs.ok.most
  have HR : Hid (Calls Tryz.prog 42 #[.pointer (some ⟨g, 0, none⟩), .int .i64 at_, .int .i64 n] w (RetV w (.int .i64 (rightV d.now.length at_ n)))) := by
    show Calls _ _ _ _ _
    rw [← hs.len]
    exact refRight_any w R g vs vp ss ps a h at_ n (by rw [hs.len]; omega)
  have HH := Lib.hid h
  have HS := Lib.hid hs
  clear h hs
  by_cases he : rightV d.now.length at_ n = 0
  · have HE : Hid (staleF d at_ n = (cleanV d.now (lowOf at_.toNat n.toNat 0) n.toNat || cleanV d.now (lowOf at_.toNat n.toNat 1) n.toNat, 0)) := by show _ = _; unfold staleF; rw [if_pos he]
    rw [he] at HR
    obtain ⟨A, N, rfl, rfl, hN1, hN2, hlen⟩ := right_nats he
    simp only [Int.toNat_natCast] at HE
    have HC : Hid (∀ (s : Nat) x, s ≤ 1 → DocIs x R g vs vp ss ps a → Calls Tryz.prog 49 #[.pointer (some ⟨g, 0, none⟩), .int .i64 (A : Int), .int .i64 (N : Int), .int .i64 (s : Int)] x (RetV x (.bool (cleanV d.now (lowOf A N s) N)))) := fun s x h1 h => refClean_any x R g vs vp ss ps a d h HS.out hp A N s hN2 h1 hlen
    have H0 := Lib.hid (fun x => HC.out 0 x (by omega))
    have H1 := Lib.hid (fun x => HC.out 1 x (by omega))
    rw [HE.out]
    generalize cleanV d.now (lowOf A N 0) N = c0 at H0 ⊢
    generalize cleanV d.now (lowOf A N 1) N = c1 at H1 ⊢
    clear HE he HC
    cases c0
    · go_enter Tryz.func25, Tryz.ntmps25
      go_wp2_with fail
      refine HR.out.mono ?_
      rintro e w1 ⟨rfl, b1⟩
      have B1 := Lib.hid b1
      have D1 := Lib.hid (HH.out.kept b1)
      clear b1 HR
      go_wp2_with fail
      refine (H0.out w1 D1.out).mono ?_
      rintro e w2 ⟨rfl, b2⟩
      have B2 := Lib.hid (below_size B1.out b2)
      have D2 := Lib.hid (D1.out.kept b2)
      clear b2
      go_wp2_with fail
      refine (H1.out w2 D2.out).mono ?_
      rintro e w3 ⟨rfl, b3⟩
      have B3 := Lib.hid (below_size B2.out b3)
      clear b3
      go_wp2
      go_ret2
      exact ⟨rfl, B3.out⟩
    · go_enter Tryz.func25, Tryz.ntmps25
      go_wp2_with fail
      refine HR.out.mono ?_
      rintro e w1 ⟨rfl, b1⟩
      have B1 := Lib.hid b1
      have D1 := Lib.hid (HH.out.kept b1)
      clear b1 HR
      go_wp2_with fail
      refine (H0.out w1 D1.out).mono ?_
      rintro e w2 ⟨rfl, b2⟩
      have B2 := Lib.hid (below_size B1.out b2)
      have D2 := Lib.hid (D1.out.kept b2)
      clear b2
      go_wp2_with fail
      refine (H1.out w2 D2.out).mono ?_
      rintro e w3 ⟨rfl, b3⟩
      have B3 := Lib.hid (below_size B2.out b3)
      clear b3
      go_wp2
      go_ret2
      exact ⟨rfl, B3.out⟩
  · have HE : Hid (staleF d at_ n = (false, rightV d.now.length at_ n)) := by show _ = _; unfold staleF; rw [if_neg he]
    generalize rightV d.now.length at_ n = e at he HR HE
    have hd : decide (e = 0) = false := by simp [he]
    rw [HE.out]
    clear HE
    go_enter Tryz.func25, Tryz.ntmps25
    go_wp2_with fail
    refine HR.out.mono ?_
    rintro e w1 ⟨rfl, b1⟩
    have B1 := Lib.hid b1
    clear b1 HR
    go_wp2
    go_ret2
    exact ⟨rfl, B1.out⟩
end
end Go.Proofs.YtpgbicbjlhkonaaGreatDoor
end
section
namespace Go.Proofs.YtpgbicbjlhkonaaGreatDoor
open Go.RowKit
set_option linter.unusedVariables false
set_option maxRecDepth 20000

/-- The document's device at g since w: what it holds, and what has been turned. -/
structure DV (w : World) (R F : Nat → Prop) (g : Nat) (d : Dev) (x : World) : Prop where
  dev : ∃ a, Sim d a ∧ DocIn x (Wide R w x) g a
  turn : Turns F w x
  own : F g
  free : ¬ R g
  lt : g < w.heap.size
section
variable {w x y : World} {R F : Nat → Prop} {g : Nat} {d d' : Dev}
theorem DV.start {a : Ab} (h : DocIn w R g a) (hs : Sim d a) (hF : F g) : DV w R F g d w := by
  have hg := h.lt
  obtain ⟨vs, vp, ss, ps, h2⟩ := h
  exact ⟨⟨a, hs, vs, vp, ss, ps, h2.widen (fun k hk => .inl hk) (wide_free h2.free hg)⟩, Turns.refl _ _, hF, h2.free, hg⟩
theorem wide_step {k : Nat} (h1 : w.heap.size ≤ x.heap.size) (h2 : x.heap.size ≤ y.heap.size) (h : Wide (Wide R w x) x y k) : Wide R w y k := by
  rcases h with (h | h) | h
  · exact .inl h
  · exact .inr ⟨h.1, by omega⟩
  · exact .inr ⟨by omega, h.2⟩
/-- What is turned elsewhere. -/
theorem DV.turned {G : Nat → Prop} (h : DV w R F g d x) (t : Turns G x y) (hG : ∀ k, G k → ¬ R k ∧ k ≠ g ∧ (k < w.heap.size → F k) ∧ (w.heap.size ≤ k → x.heap.size ≤ k)) : DV w R F g d y := by
  obtain ⟨⟨a, hs, hd⟩, ht, h1, h2, h3⟩ := h
  have hsz := ht.size
  have hsy := t.size
  refine ⟨⟨a, hs, (hd.turned t (fun k hk hg => ?_) fun hg => (hG g hg).2.1 rfl).widen (fun k hk => hk.imp id fun q => ⟨q.1, by omega⟩) (wide_free h2 h3)⟩, ht.trans t fun k hk hg => (hG k hg).2.2.1 hk, h1, h2, h3⟩
  obtain ⟨q1, q2, q3, q4⟩ := hG k hg
  rcases hk with hk | hk
  · exact q1 hk
  · have := q4 hk.1
    omega
theorem DV.kept (h : DV w R F g d x) (hb : Below x.heap.size x y) : DV w R F g d y := h.turned (G := fun _ => False) (Turns.of_below _ hb) fun k hk => hk.elim
theorem DV.step (h : DV w R F g d x) {a' : Ab} (hs : Sim d' a') (hd : DocIn y (Wide (Wide R w x) x y) g a') (ht : Turns (fun k => k = g) x y) : DV w R F g d' y :=
  ⟨⟨a', hs, hd.widen (fun k hk => wide_step h.turn.size ht.size hk) (wide_free h.free h.lt)⟩, h.turn.trans ht fun k _ hk => hk ▸ h.own, h.own, h.free, h.lt⟩
theorem turns_grown (h : Turns (fun k => k = g) x y) : x.grownBy y (some g) := ⟨h.os, h.tape, h.output, h.size, fun k hk hn => h.block k hk fun e => hn (by rw [e])⟩
theorem DV.write (h : DV w R F g d x) (hp : d.pend.length ≤ 1000000) (i : Int) (vb : Value) (b : List UInt8) (hb : Bs x vb b) :
    Calls Tryz.prog 20 #[.pointer (some ⟨g, 0, none⟩), .int .i64 i, vb] x fun e y => e = .returned (.int .i64 (d.writeE i b)) ∧ DV w R F g (d.write i b) y ∧ Turns (fun k => k = g) x y ∧ ∀ u l, Bs x u l → Bs y u l := by
  have h0 := h
  obtain ⟨⟨a, hs, vs, vp, ss, ps, hd⟩, ht, h1, h2, h3⟩ := h
  refine (docWrite_any x _ g vs vp ss ps a hd i vb b hb (by rw [← hd.lenP, hs.pend]; exact hp) (by rw [← hd.lenS, hs.len]; have := hs.ok.most; omega) hs.left hs.fuseOk).mono ?_
  rintro e y ⟨rfl, hd2, t2⟩
  exact ⟨by rw [hs.writeE], h0.step (hs.write i b) hd2 t2, t2, fun u l hu => hd.bs (turns_grown t2) hu⟩
theorem DV.sync (h : DV w R F g d x) (hp : d.pend.length ≤ 1000000) :
    Calls Tryz.prog 44 #[.pointer (some ⟨g, 0, none⟩)] x fun e y => e = .returned (.int .i64 d.syncE) ∧ DV w R F g d.sync y ∧ Turns (fun k => k = g) x y ∧ ∀ u l, Bs x u l → Bs y u l := by
  have h0 := h
  obtain ⟨⟨a, hs, vs, vp, ss, ps, hd⟩, ht, h1, h2, h3⟩ := h
  refine (docSync_any x _ g vs vp ss ps a hd (by rw [← hd.lenP, hs.pend]; exact hp) (by rw [← hd.lenS, hs.len]; have := hs.ok.most; omega) (hs.inS hd) hs.left hs.fuseOk).mono ?_
  rintro e y ⟨rfl, hd2, t2⟩
  exact ⟨by rw [hs.syncE], h0.step hs.sync hd2 t2, t2, fun u l hu => hd.bs (turns_grown t2) hu⟩
end
set_option maxHeartbeats 2000000 in
theorem refErase_any {w x : World} {R F : Nat → Prop} {g : Nat} {d : Dev} (h : DV w R F g d x) (hp : d.pend.length ≤ 900000) (at_ n s : Nat) (hn : n ≤ 200) (hs1 : s ≤ 1) (hat : at_ ≤ 1000) :
    Calls Tryz.prog 45 #[.pointer (some ⟨g, 0, none⟩), .int .i64 (at_ : Int), .int .i64 (n : Int), .int .i64 (s : Int)] x fun e y => e = .returned (.int .i64 (d.run (phase (eraseW (lowOf at_ n s) n))).1) ∧ DV w R F g (d.run (phase (eraseW (lowOf at_ n s) n))).2 y ∧ Turns (fun k => k = g) x y ∧ ∀ u l, Bs x u l → Bs y u l := by
  have hsn : (s : Int) * ((n : Int) + 1) = ((s * (n + 1) : Nat) : Int) := by push_cast; rfl
  obtain ⟨q, hq⟩ : ∃ q, q = s * (n + 1) := ⟨_, rfl⟩
  have hq2 : q ≤ 201 := by rw [hq]; exact Nat.le_trans (Nat.mul_le_mul_right _ hs1) (by omega)
  have hlow : lowOf at_ n s = at_ + q := by rw [hq]; rfl
  rw [hlow, phase_erase]
  rw [← hq] at hsn
  have HH := Lib.hid h
  clear h hq hlow
  go_enter Tryz.func45, Tryz.ntmps45
  go_wp2_with fail
  go_loopw [9] (fun u wr => ∃ k : Nat, k ≤ n + 1 ∧ u = .int .i64 (k : Int) ∧ Hid ((d.run (WE (at_ + q) k)).1 = 0) ∧ Hid (DV w R F g (d.run (WE (at_ + q) k)).2 wr) ∧ Hid (Turns (fun k => k = g) x wr) ∧ Hid (∀ u l, Bs x u l → Bs wr u l)) (fun u _ => n + 1 - (intOf u).toNat)
  case atStart => exact ⟨0, by omega, rfl, rfl, HH.out, Turns.refl _ _, fun _ _ h => h⟩
  case round =>
    obtain ⟨k, hk, rfl, HE, HD, HT, HB⟩ := hrel
    clear HH
    have HP : Hid ((d.run (WE (at_ + q) k)).2.pend.length ≤ 1000000) := by
      have h1 := d.run_pend (WE (at_ + q) k)
      rw [WE_len] at h1
      show _ ≤ _
      omega
    by_cases hlt : k ≤ n
    · have hd1 : decide ((k : Int) ≤ (n : Int)) = true := by simp; omega
      have w1 : IntKind.i64.wrap ((n : Int) + 1) = (n : Int) + 1 := IntWalk.i64_in _ (by omega)
      have w2 : IntKind.i64.wrap ((s : Int) * ((n : Int) + 1)) = (q : Int) := by rw [hsn]; exact IntWalk.i64_in _ (by omega)
      have w3 : IntKind.i64.wrap ((at_ : Int) + (q : Int)) = (at_ : Int) + (q : Int) := IntWalk.i64_in _ (by omega)
      have w4 : IntKind.i64.wrap ((at_ : Int) + (q : Int) + (k : Int)) = (at_ : Int) + (q : Int) + (k : Int) := IntWalk.i64_in _ (by omega)
      have w5 : IntKind.i64.wrap ((k : Int) + 1) = (k : Int) + 1 := IntWalk.i64_in _ (by omega)
      have hi2 : (at_ : Int) + (q : Int) + (k : Int) = ((at_ + q + k : Nat) : Int) := by push_cast; rfl
      have HS : Hid (d.run (WE (at_ + q) (k + 1)) = ((d.run (WE (at_ + q) k)).2.writeE ((at_ : Int) + (q : Int) + (k : Int)) [], (d.run (WE (at_ + q) k)).2.write ((at_ : Int) + (q : Int) + (k : Int)) [])) := by
        show _ = _
        rw [WE_succ, Dev.run_snoc _ HE.out, hi2]
        rfl
      have HW := Lib.hid (HD.out.write HP.out ((at_ : Int) + (q : Int) + (k : Int)) (.slice none 0 0) [] (Bs.nil _))
      have hfin : ∀ e', (d.run (WE (at_ + q) (k + 1))).1 = e' → e' ≠ 0 → d.run (WE (at_ + q) (n + 1) ++ [.sync]) = d.run (WE (at_ + q) (k + 1)) := fun e' h1 h2 => by
        obtain ⟨rest, e⟩ := WE_pre (at_ + q) (k + 1) (n - k)
        have e1 : k + 1 + (n - k) = n + 1 := by omega
        rw [e1] at e
        rw [e, List.append_assoc, Dev.run_stop _ (by rw [h1]; exact h2)]
      have HF := Lib.hid hfin
      generalize (d.run (WE (at_ + q) k)).2 = dk at HS HW HP HD
      generalize hew : dk.writeE ((at_ : Int) + (q : Int) + (k : Int)) [] = ew at HS HW
      generalize hdw : dk.write ((at_ : Int) + (q : Int) + (k : Int)) [] = dw at HS HW
      clear hfin hi2 hew hdw HD HP HE
      go_wp2_with fail
      refine HW.out.mono ?_
      rintro e w6 ⟨rfl, d6, t6, b6⟩
      have D6 := Lib.hid d6
      have T6 := Lib.hid (HT.out.same t6)
      have B6 : Hid (∀ u l, Bs x u l → Bs w6 u l) := fun u l h => b6 u l (HB.out u l h)
      clear d6 t6 b6 HT HB HW
      by_cases he : ew = 0
      · have hd2 : decide (ew = 0) = true := decide_eq_true he
        go_wp2_with fail
        refine ⟨⟨k + 1, by omega, by congr 1, ?_, ?_, T6.out, B6.out⟩, ?_⟩
        · show _ = _
          rw [HS.out]
          exact he
        · show DV _ _ _ _ _ _
          rw [HS.out]
          exact D6.out
        · show n + 1 - ((k : Int) + 1).toNat < n + 1 - (k : Int).toNat
          omega
      · have hd2 : decide (ew = 0) = false := decide_eq_false he
        have HF2 : Hid (d.run (WE (at_ + q) (n + 1) ++ [.sync]) = (ew, dw)) := by
          show _ = _
          rw [HF.out ew (by rw [HS.out]) he]
          exact HS.out
        go_wp2
        go_ret
        rw [HF2.out]
        exact ⟨rfl, D6.out, T6.out, B6.out⟩
    · have hd1 : decide ((k : Int) ≤ (n : Int)) = false := by simp; omega
      obtain rfl : k = n + 1 := by omega
      have HS : Hid (d.run (WE (at_ + q) (n + 1) ++ [.sync]) = ((d.run (WE (at_ + q) (n + 1))).2.syncE, (d.run (WE (at_ + q) (n + 1))).2.sync)) := by
        show _ = _
        rw [Dev.run_snoc _ HE.out]
        rfl
      have HW := Lib.hid (HD.out.sync HP.out)
      generalize (d.run (WE (at_ + q) (n + 1))).2 = dk at HW HS HD HP
      clear HD HP HE
      go_wp2_with fail
      refine HW.out.mono ?_
      rintro e w6 ⟨rfl, d6, t6, b6⟩
      have D6 := Lib.hid d6
      have T6 := Lib.hid (HT.out.same t6)
      have B6 : Hid (∀ u l, Bs x u l → Bs w6 u l) := fun u l h => b6 u l (HB.out u l h)
      clear d6 t6 b6 HT HB HW
      go_wp2
      go_ret
      rw [HS.out]
      exact ⟨rfl, D6.out, T6.out, B6.out⟩
end Go.Proofs.YtpgbicbjlhkonaaGreatDoor
end
