/-
  Texts that belong together, merged: FrmH. Conditions: as each theorem names them.
-/
import Derived.Test.YtmhhjdiilmgmoaaQFrmAJ
section
namespace Go.Proofs.Ytmhhjdiilmgmoaa
open Go.RowKit
set_option linter.unusedVariables false
set_option maxRecDepth 20000

theorem wpList_val {P : Program} {w : World} {ops : Array Oper} {rest : List Oper} {o : Oper} {a : Act} {Q : Exit → Act → World → Prop} (hgd : o.guard = none) (v : Value) (hr : (execOp a.eval o).run P w = .ok (.value v) w) (h : wpList P ops Q rest (a.put o.dst v) w) : wpList P ops Q (o :: rest) a w :=
  wpList_plain hgd fun _ hK => by
    unfold Oper.wp
    rw [hr]
    exact hK _ _ h
theorem wpList_store_mid {P : Program} {w : World} {ops : Array Oper} {rest : List Oper} {o : Oper} {a : Act} {Q : Exit → Act → World → Prop} (hgd : o.guard = none) (ty : TypeId) (x y : Operand) (ho : o.op = .store ty x y) (b off : Nat) (t : TypeId) (old new : List Value) (l : List UInt8)
    (hx : a.eval x = .pointer (some ⟨b, off, none⟩)) (hy : a.eval y = .agg (keyC l)) (hg : RowAt w b t old.toArray) (hl : off + l.length ≤ old.length) (hnew : old.take off ++ cellsB l ++ old.drop (off + l.length) = new) (hi : (P.info? ty).map (·.size) = some (cellsB l).length)
    (h : ∀ w', PutRow w b t new.toArray w' → wpList P ops Q rest (a.put o.dst undef) w') : wpList P ops Q (o :: rest) a w :=
  wpList_plain hgd fun _ hK => wp_store_mid ty x y ho b off t old new l hx hy hg hl hnew hi fun w' hn => hK _ _ (h w' hn)
theorem RiAt.far {w w' : World} {r g : Nat} {bv : Value} {b : List UInt8} {s : St} (h : RiAt w r bv b s) (hb : Bs w' bv b) (hg : w.grownBy w' (some g)) (hne : g ≠ r) : RiAt w' r bv b s := by
  obtain ⟨_, a, h1, h2⟩ := h
  exact ⟨hb, a, h1.grown hg (by intro e; injection e with e; exact hne e.symm), h2⟩
theorem rest_nil (s : St) (n : Nat) (h : s.l = []) : (s.rest n).l = [] ∧ s.take n = [] := by
  unfold St.rest St.take St.taken St.fail
  refine ⟨?_, ?_⟩ <;> (repeat' split) <;> simp_all
theorem fail_nil (s : St) (x : Int) (h : s.l = []) : (s.fail x).l = [] := by unfold St.fail; split <;> simp_all
theorem numS_nil (s : St) (z : Int) (h : s.l = []) : (s.numS z).l = [] := by
  unfold St.numS
  split
  · exact (rest_nil s _ h).1
  · exact fail_nil s _ h
theorem cntS_nil (s : St) (m : Int) (h : s.l = []) : (s.cntS m).l = [] := by
  unfold St.cntS
  split
  · exact fail_nil _ _ (numS_nil s _ h)
  · exact numS_nil s _ h
theorem byt_nil (s : St) (m : Int) (h : s.l = []) : s.byt m = [] := (rest_nil _ _ (cntS_nil s _ h)).2
theorem keyS_nil (s : St) (m : Int) (h : s.l = []) : (s.keyS m).l = [] := (rest_nil _ _ (cntS_nil s _ h)).1
theorem box_some (b : List UInt8) (h : 0 < (rdF0 b).box.length) : 0 < b.length := by
  rcases b with _ | ⟨x, b⟩
  · rw [rdF0_box, byt_nil] at h
    · simp at h
    · exact keyS_nil _ _ (numS_nil _ _ (numS_nil _ _ (numS_nil _ _ rfl)))
  · simp
theorem rdW_cases (b : List UInt8) : (rdW b = (rdS6 b).fin ∧ (rdS6 b).fin ≠ 0) ∨ ((rdS6 b).fin = 0 ∧ rdW b = 51 ∧ ((rdM b : Int) ≠ 1 ∨ ((rdK b).length : Int) ≠ 3)) ∨ ((rdS6 b).fin = 0 ∧ rdW b = 0 ∧ (rdM b : Int) = 1 ∧ ((rdK b).length : Int) = 3) := by
  unfold rdW wrongE
  split
  · rename_i h; exact .inl ⟨rfl, h⟩
  · rename_i h
    have h0 : (rdS6 b).fin = 0 := by simpa using h
    split
    · rename_i h2; exact .inr (.inl ⟨h0, rfl, h2⟩)
    · rename_i h2; exact .inr (.inr ⟨h0, rfl, by simpa using fun e => h2 (.inl e), by simpa using fun e => h2 (.inr e)⟩)

set_option maxHeartbeats 4000000 in
theorem refDecode_any (w : World) (v : Value) (b : List UInt8) (h : Bs w v b) :
    Calls Try.prog 19 #[v] w fun e w' => ∃ u, e = .returned (.tuple #[u, .int .i64 (decE b)]) ∧ FrV w' u (decF b) ∧ Below w.heap.size w w' := by
  have HH := Lib.hid h
  have HW := Lib.hid h.low
  obtain ⟨f0, hf0⟩ : ∃ f0, f0 = rdF0 b := ⟨_, rfl⟩
  have hn0 : f0.n < 4294967296 := by rw [hf0, rdF0_n]; exact num4_lt _
  have ha0 : f0.ack < 4294967296 := by rw [hf0, rdF0_ack]; exact num4_lt _
  have hw1 := u32_in f0.n hn0
  have hw2 := u32_in f0.ack ha0
  have HB0 : Hid (0 < f0.box.length → 0 < b.length) := by rw [hf0]; exact box_some b
  obtain ⟨A, c, rfl, _, q2, _⟩ := h
  unfold maxLen at q2
  have hl1 : b.length ≤ 9223372036854775807 := by omega
  clear q2
  have C1 : Hid (b.length ≤ 8000 → ∀ w r, RiAt w r (.slice A b.length c) b (rdS0 b) → Calls Try.prog 39 #[.pointer (some ⟨r, 0, none⟩), .int .i64 1] w fun e w' => e = .returned (.int .u64 (rdM b : Int)) ∧ RiAt w' r (.slice A b.length c) b (rdS1 b) ∧ w.grownBy w' (some r)) := fun hl w r h => riNumber_any w r _ b (rdS0 b) 1 (by omega) h
  have C2 : Hid (b.length ≤ 8000 → ∀ w r, RiAt w r (.slice A b.length c) b (rdS1 b) → Calls Try.prog 39 #[.pointer (some ⟨r, 0, none⟩), .int .i64 4] w fun e w' => e = .returned (.int .u64 (f0.n : Int)) ∧ RiAt w' r (.slice A b.length c) b (rdS2 b) ∧ w.grownBy w' (some r)) := fun hl w r h => by rw [hf0, rdF0_n, show rdS2 b = (rdS1 b).numS 4 from rfl]; exact riNumber_any w r _ b (rdS1 b) 4 (by omega) h
  have C3 : Hid (b.length ≤ 8000 → ∀ w r, RiAt w r (.slice A b.length c) b (rdS2 b) → Calls Try.prog 39 #[.pointer (some ⟨r, 0, none⟩), .int .i64 4] w fun e w' => e = .returned (.int .u64 (f0.ack : Int)) ∧ RiAt w' r (.slice A b.length c) b (rdS3 b) ∧ w.grownBy w' (some r)) := fun hl w r h => by rw [hf0, rdF0_ack, show rdS3 b = (rdS2 b).numS 4 from rfl]; exact riNumber_any w r _ b (rdS2 b) 4 (by omega) h
  have C4 : Hid (b.length ≤ 8000 → ∀ w r, RiAt w r (.slice A b.length c) b (rdS3 b) → Calls Try.prog 40 #[.pointer (some ⟨r, 0, none⟩), .int .i64 3] w fun e w' => ∃ v, e = .returned v ∧ (Kl w' v (rdK b) ∧ KyAt w' v ∧ ∀ k, v.ownBlock = some k → w.heap.size ≤ k) ∧ RiAt w' r (.slice A b.length c) b (rdS4 b) ∧ w.grownBy w' (some r)) := fun hl w r h => by rw [show rdK b = (rdS3 b).keys 3 from rfl, show rdS4 b = (rdS3 b).keyS 3 from rfl]; exact riKeysIn w r _ b (rdS3 b) 3 (by omega) h
  have C5 : Hid (b.length ≤ 8000 → ∀ w r, RiAt w r (.slice A b.length c) b (rdS4 b) → Calls Try.prog 41 #[.pointer (some ⟨r, 0, none⟩), .int .i64 264] w fun e w' => ∃ v, e = .returned v ∧ (Bs w' v f0.box ∧ InB v (.slice A b.length c)) ∧ RiAt w' r (.slice A b.length c) b (rdS5 b) ∧ w.grownBy w' (some r)) := fun hl w r h => by rw [hf0, rdF0_box, show rdS5 b = (rdS4 b).bytS 264 from rfl]; exact riBytesIn w r _ b (rdS4 b) 264 (by omega) h
  have C6 : Hid (b.length ≤ 8000 → ∀ w r, RiAt w r (.slice A b.length c) b (rdS5 b) → Calls Try.prog 40 #[.pointer (some ⟨r, 0, none⟩), .int .i64 67] w fun e w' => ∃ v, e = .returned v ∧ (Kl w' v f0.sign ∧ KyAt w' v ∧ ∀ k, v.ownBlock = some k → w.heap.size ≤ k) ∧ RiAt w' r (.slice A b.length c) b (rdS6 b) ∧ w.grownBy w' (some r)) := fun hl w r h => by rw [hf0, rdF0_sign, show rdS6 b = (rdS5 b).keyS 67 from rfl]; exact riKeysIn w r _ b (rdS5 b) 67 (by omega) h
  have C7 : Hid (∀ w r, RiAt w r (.slice A b.length c) b (rdS6 b) → Calls Try.prog 42 #[.pointer (some ⟨r, 0, none⟩)] w fun e w' => e = .returned (.int .i64 (rdS6 b).fin) ∧ Below w.heap.size w w') := fun w r h => riEnd_any w r _ b (rdS6 b) h
  have HF : Hid (f0 = rdF0 b) := hf0
  have HZ : Hid (f0 = ⟨f0.n, f0.ack, zeroKey, zeroKey, zeroKey, f0.box, f0.sign⟩) := by show _ = _; rw [hf0]; exact rdF0_zero b
  clear hf0
  by_cases a0 : 8000 < b.length
  · have d0 : decide (8000 < (b.length : Int)) = true := by simp; omega
    have EE : Hid (decE b = 2) := if_pos a0
    have EF : Hid (decF b = zeroFr) := if_neg (by rw [EE.out]; decide)
    clear a0 C1 C2 C3 C4 C5 C6 C7
    go_enter Try.func19, Try.ntmps19
    go_wp2_with (first
      | ((with_reducible refine wpList_alloc_row (o := ⟨some 2, _, _, _, _, _⟩) rfl 28 rfl (frC zeroFr nilS nilS) Try.zeroOfFr ?_); intro g2 w2 n2; have N2 := Lib.hid n2; clear n2)
      | (with_reducible refine wpList_build0 (o := ⟨some 13, _, _, _, _, _⟩) rfl 28 rfl (frC zeroFr nilS nilS) Try.builtFr ?_)
      | ((with_reducible refine wpList_store_row (o := ⟨none, _, _, _, _, _⟩) rfl 28 (.tmp 2) (.tmp 13) rfl g2 28 (frC zeroFr nilS nilS) (frC zeroFr nilS nilS) (by with_unfolding_all rfl) (by with_unfolding_all rfl) (by with_unfolding_all exact N2.out.row) rfl (Try.sizeFr zeroFr_ok _ _) frC0_one ?_); intro w9 p9; have P9 := Lib.hid p9; clear p9))
    refine bodyPost_ret (ret_row_tmp rfl _ g2 28 (frC zeroFr nilS nilS) _ (by rfl) P9.out.row Try.underlying28 rfl (Try.sizeFr zeroFr_ok _ _)) rfl ?_
    exact ⟨_, by rw [EE.out]; rfl, by rw [EF.out]; exact ⟨_, _, rfl, zeroFr_ok, Bs.nil _, Kl.nil _⟩, P9.out.below N2.out.below N2.out.below.size (by have := N2.out.spot; omega)⟩
  · have d0 : decide (8000 < (b.length : Int)) = false := by simp; omega
    have HL : Hid (b.length ≤ 8000) := by show _ ≤ _; omega
    have E1 : Hid (decE b = if rdW b ≠ 0 then rdW b else checkE (rdF b)) := if_neg a0
    clear a0
    rcases rdW_cases b with ⟨c1, c2⟩ | ⟨c0, c1, c2⟩ | ⟨c0, c1, c2, c3⟩
    · have EE : Hid (decE b = (rdS6 b).fin) := by show _ = _; rw [E1.out, c1, if_pos c2]
      have EF : Hid (decF b = zeroFr) := if_neg (by rw [EE.out]; exact c2)
      have d1 : ((rdS6 b).fin != 0) = true := by simpa using c2
      clear E1 c1 c2
      go_enter Try.func19, Try.ntmps19
      go_wp2_with (first
        | ((with_reducible refine wpList_alloc_row (o := ⟨some 2, _, _, _, _, _⟩) rfl 28 rfl (frC zeroFr nilS nilS) Try.zeroOfFr ?_); intro g2 w2 n2; have N2 := Lib.hid n2; clear n2)
        | ((with_reducible refine wpList_box_row (o := ⟨some 16, _, _, _, _, _⟩) rfl 70 (.tmp 15) rfl #[.slice A b.length c, .int .i64 0, .int .i64 0] (by with_unfolding_all rfl) ?_); intro i w3 n3; have N3 := Lib.hid n3; clear n3)
        | (with_reducible refine wpList_build0 (o := ⟨some 17, _, _, _, _, _⟩) rfl 28 rfl (frC zeroFr nilS nilS) Try.builtFr ?_)
        | ((with_reducible refine wpList_alloc_row (o := ⟨some 5, _, _, _, _, _⟩) rfl 28 rfl (frC zeroFr nilS nilS) Try.zeroOfFr ?_); intro g5 w4 n4; have N4 := Lib.hid n4; clear n4)
        | ((with_reducible refine wpList_store_row (o := ⟨none, _, _, _, _, _⟩) rfl 28 (.tmp 5) (.tmp 17) rfl g5 28 (frC zeroFr nilS nilS) (frC zeroFr nilS nilS) (by with_unfolding_all rfl) (by with_unfolding_all rfl) (by with_unfolding_all exact N4.out.row) rfl (Try.sizeFr zeroFr_ok _ _) frC0_one ?_); intro w5 p5; have P5 := Lib.hid p5; clear p5))
      have D0 : Hid (DIn (fun w => RiAt w i (.slice A b.length c) b (rdS0 b)) w w5 g2 g5 i (frC zeroFr nilS nilS) (frC zeroFr nilS nilS)) := by
        have n2 := N2.out
        have n3 := N3.out
        have n4 := N4.out
        have p5 := P5.out
        have a1 := n2.spot
        have a2 := n2.size
        have a3 := n3.spot
        have a4 := n3.size
        have a5 := n4.spot
        have a6 := n4.size
        have r3 : RowAt w5 i 70 #[(.slice A b.length c), .int .i64 0, .int .i64 0] := (n3.row.kept n4.below).grown p5.grown (by intro e; injection e with e; omega)
        have r2 : RowAt w5 g2 28 (frC zeroFr nilS nilS) := ((n2.row.kept n3.below).kept n4.below).grown p5.grown (by intro e; injection e with e; omega)
        have b5 : Below w.heap.size w w5 := p5.below (below_size (below_size n2.below n3.below) n4.below) (by omega) (by omega)
        exact ⟨⟨HH.out.below b5, 0, r3, Nat.zero_le _, fun _ => rfl⟩, r2, p5.row, b5, by omega, by omega, by omega, by omega, by omega, by omega⟩
      clear N2 N3 N4 P5
      go_wp2_with fail
      refine (C1.out HL.out _ _ D0.out.inn).mono ?_
      intro e w6 hh
      obtain ⟨he, h6, s6⟩ := hh
      subst he
      have D1 := Lib.hid (D0.out.read (R' := (fun w => RiAt w i (.slice A b.length c) b (rdS1 b))) h6 s6)
      clear D0 h6 s6
      go_wp2_with fail
      refine (C2.out HL.out _ _ D1.out.inn).mono ?_
      intro e w7 hh
      obtain ⟨he, h7, s7⟩ := hh
      subst he
      have D2 := Lib.hid (D1.out.read (R' := (fun w => RiAt w i (.slice A b.length c) b (rdS2 b))) h7 s7)
      have c0 := FrAt.n (f := zeroFr) D2.out.two
      have z0 := D2.out.two.frozen 0
      clear D1 h7 s7
      go_wp2_with fail
      have r3 := D2.out.two.put 0 (.int .u32 (f0.n : Int))
      have g3 := grown_setCell w7 g5 0 (.int .u32 (f0.n : Int))
      rw [frC_n] at r3
      have bl := D2.out.below.grown g3 D2.out.below.size (fun k e => by injection e with e; have := D2.out.hb; omega)
      have D3 := Lib.hid (D2.out.put (D2.out.inn.far (HH.out.below bl) g3 D2.out.hbi) r3 g3)
      clear D2 r3 g3 c0 z0 bl
      refine (C3.out HL.out _ _ D3.out.inn).mono ?_
      intro e w8 hh
      obtain ⟨he, h8, s8⟩ := hh
      subst he
      have D4 := Lib.hid (D3.out.read (R' := (fun w => RiAt w i (.slice A b.length c) b (rdS3 b))) h8 s8)
      have c1 := FrAt.ack (f := { zeroFr with n := f0.n }) D4.out.two
      have z1 := D4.out.two.frozen 1
      clear D3 h8 s8
      go_wp2_with fail
      have r5 := D4.out.two.put 1 (.int .u32 (f0.ack : Int))
      have h5 := grown_setCell w8 g5 1 (.int .u32 (f0.ack : Int))
      rw [frC_ack] at r5
      have bl := D4.out.below.grown h5 D4.out.below.size (fun k e => by injection e with e; have := D4.out.hb; omega)
      have D5 := Lib.hid (D4.out.put (D4.out.inn.far (HH.out.below bl) h5 D4.out.hbi) r5 h5)
      clear D4 r5 h5 c1 z1 bl
      refine (C4.out HL.out _ _ D5.out.inn).mono ?_
      intro e w9 hh
      obtain ⟨ku, he, ⟨k9, y9, l9⟩, h9, s9⟩ := hh
      subst he
      have D6 := Lib.hid (D5.out.read (R' := (fun w => RiAt w i (.slice A b.length c) b (rdS4 b))) h9 s9)
      have K6 : Hid (KlK w9 ku (rdK b) g2 g5 i) := by
        obtain ⟨_, _, hr, _⟩ := h9
        exact Kl.apart k9 y9 D6.out.one D6.out.two hr (by decide) (by decide) (by decide)
      clear D5 h9 s9 k9 y9 l9
      obtain ⟨KA, kc, rfl, kx, km, _⟩ := id K6.out.1
      unfold maxLen at km
      have hkl : (rdK b).length ≤ 9223372036854775807 := by omega
      clear kx km
      go_wp2_with fail
      refine (C5.out HL.out _ _ D6.out.inn).mono ?_
      intro e w10 hh
      obtain ⟨bu, he, ⟨k9, y9⟩, h9, s9⟩ := hh
      subst he
      have D7 := Lib.hid (D6.out.read (R' := (fun w => RiAt w i (.slice A b.length c) b (rdS5 b))) h9 s9)
      have K7 := Lib.hid (K6.out.grown s9 (by omega))
      have B7 : Hid (BsK w10 bu f0.box g2 g5 i) := ⟨k9, fun hl k hk => by
        have h1 := HW.out (HB0.out hl) k (y9 k hk)
        have h2 := D7.out.ha
        have h3 := D7.out.hb
        have h4 := D7.out.hi
        omega⟩
      have c8 := FrAt.box (f := { zeroFr with n := f0.n, ack := f0.ack }) D7.out.two ⟨hn0, ha0, zeroKey_length, zeroKey_length, zeroKey_length⟩
      have z8 := D7.out.two.frozen 98
      clear D6 h9 s9 k9 y9 K6
      obtain ⟨BA, bc, rfl, _⟩ := id B7.out.1
      unfold nilS at c8
      go_wp2_with fail
      have r8 := D7.out.two.put 98 (.slice BA f0.box.length bc)
      have g8 := grown_setCell w10 g5 98 (.slice BA f0.box.length bc)
      rw [frC_box (f := { zeroFr with n := f0.n, ack := f0.ack }) ⟨hn0, ha0, zeroKey_length, zeroKey_length, zeroKey_length⟩ _ _ _ f0.box] at r8
      have bl := D7.out.below.grown g8 D7.out.below.size (fun k e => by injection e with e; have := D7.out.hb; omega)
      have D8 := Lib.hid (D7.out.put (D7.out.inn.far (HH.out.below bl) g8 D7.out.hbi) r8 g8)
      have K8 := Lib.hid (K7.out.grown g8 (by omega))
      have B8 := Lib.hid (B7.out.grown g8 (by omega))
      clear D7 K7 B7 r8 g8 c8 z8 bl
      refine (C6.out HL.out _ _ D8.out.inn).mono ?_
      intro e w11 hh
      obtain ⟨su, he, ⟨k9, y9, l9⟩, h9, s9⟩ := hh
      subst he
      have D9 := Lib.hid (D8.out.read (R' := (fun w => RiAt w i (.slice A b.length c) b (rdS6 b))) h9 s9)
      have K9 := Lib.hid (K8.out.grown s9 (by omega))
      have B9 := Lib.hid (B8.out.grown s9 (by omega))
      have S9 : Hid (KlK w11 su f0.sign g2 g5 i) := by
        obtain ⟨_, _, hr, _⟩ := h9
        exact Kl.apart k9 y9 D9.out.one D9.out.two hr (by decide) (by decide) (by decide)
      have c9 := FrAt.sign (f := { zeroFr with n := f0.n, ack := f0.ack, box := f0.box }) D9.out.two ⟨hn0, ha0, zeroKey_length, zeroKey_length, zeroKey_length⟩
      have z9 := D9.out.two.frozen 99
      clear D8 h9 s9 k9 y9 K8 B8 l9
      obtain ⟨SA, sc, rfl, _⟩ := id S9.out.1
      unfold nilS at c9
      go_wp2_with fail
      have r9 := D9.out.two.put 99 (.slice SA f0.sign.length sc)
      have g9 := grown_setCell w11 g5 99 (.slice SA f0.sign.length sc)
      rw [frC_sign (f := { zeroFr with n := f0.n, ack := f0.ack, box := f0.box }) ⟨hn0, ha0, zeroKey_length, zeroKey_length, zeroKey_length⟩ _ _ _ f0.sign] at r9
      have r10 : RowAt (w11.setCell ⟨g5, 99, none⟩ (.slice SA f0.sign.length sc)) g5 28 (frC f0 (.slice BA f0.box.length bc) (.slice SA f0.sign.length sc)) := by
        rw [HZ.out]; exact r9
      have bl := D9.out.below.grown g9 D9.out.below.size (fun k e => by injection e with e; have := D9.out.hb; omega)
      have D10 := Lib.hid (D9.out.put (D9.out.inn.far (HH.out.below bl) g9 D9.out.hbi) r10 g9)
      have K10 := Lib.hid (K9.out.grown g9 (by omega))
      have B10 := Lib.hid (B9.out.grown g9 (by omega))
      have S10 := Lib.hid (S9.out.grown g9 (by omega))
      clear D9 K9 B9 S9 r9 g9 c9 z9 r10 bl
      refine (C7.out _ _ D10.out.inn).mono ?_
      intro e w13 hh
      obtain ⟨he, b13⟩ := hh
      subst he
      have D11 := Lib.hid (D10.out.kept (D10.out.inn.kept b13) b13)
      have K11 := Lib.hid (K10.out.below b13)
      have B11 := Lib.hid (B10.out.below b13)
      have S11 := Lib.hid (S10.out.below b13)
      clear D10 K10 B10 S10 b13
      go_wp2_with (first
        | (with_reducible refine wpList_build0 (o := ⟨some 40, _, _, _, _, _⟩) rfl 28 rfl (frC zeroFr nilS nilS) Try.builtFr ?_)
        | ((with_reducible refine wpList_store_row (o := ⟨none, _, _, _, _, _⟩) rfl 28 (.tmp 2) (.tmp 40) rfl g2 28 (frC zeroFr nilS nilS) (frC zeroFr nilS nilS) (by with_unfolding_all rfl) (by with_unfolding_all rfl) (by with_unfolding_all exact D11.out.one) rfl (Try.sizeFr zeroFr_ok _ _) frC0_one ?_); intro w9 p9; have P9 := Lib.hid p9; clear p9))
      refine bodyPost_ret (ret_row_tmp rfl _ g2 28 (frC zeroFr nilS nilS) _ (by rfl) P9.out.row Try.underlying28 rfl (Try.sizeFr zeroFr_ok _ _)) rfl ?_
      exact ⟨_, by rw [EE.out]; rfl, by rw [EF.out]; exact ⟨_, _, rfl, zeroFr_ok, Bs.nil _, Kl.nil _⟩, P9.out.below D11.out.below D11.out.below.size D11.out.ha⟩
    · have EE : Hid (decE b = 51) := by show _ = _; rw [E1.out, c1]; simp
      have EF : Hid (decF b = zeroFr) := if_neg (by rw [EE.out]; decide)
      rw [c0] at C7
      by_cases c3 : (rdM b : Int) = 1
      · have c4 : ((rdK b).length : Int) ≠ 3 := c2.resolve_left (fun h => h c3)
        have d1 : ((rdM b : Int) != 1) = false := by simpa using c3
        have d2 : (((rdK b).length : Int) != 3) = true := by simpa using c4
        clear E1 c1 c2 c3 c4 c0
        go_enter Try.func19, Try.ntmps19
        go_wp2_with (first
          | ((with_reducible refine wpList_alloc_row (o := ⟨some 2, _, _, _, _, _⟩) rfl 28 rfl (frC zeroFr nilS nilS) Try.zeroOfFr ?_); intro g2 w2 n2; have N2 := Lib.hid n2; clear n2)
          | ((with_reducible refine wpList_box_row (o := ⟨some 16, _, _, _, _, _⟩) rfl 70 (.tmp 15) rfl #[.slice A b.length c, .int .i64 0, .int .i64 0] (by with_unfolding_all rfl) ?_); intro i w3 n3; have N3 := Lib.hid n3; clear n3)
          | (with_reducible refine wpList_build0 (o := ⟨some 17, _, _, _, _, _⟩) rfl 28 rfl (frC zeroFr nilS nilS) Try.builtFr ?_)
          | ((with_reducible refine wpList_alloc_row (o := ⟨some 5, _, _, _, _, _⟩) rfl 28 rfl (frC zeroFr nilS nilS) Try.zeroOfFr ?_); intro g5 w4 n4; have N4 := Lib.hid n4; clear n4)
          | ((with_reducible refine wpList_store_row (o := ⟨none, _, _, _, _, _⟩) rfl 28 (.tmp 5) (.tmp 17) rfl g5 28 (frC zeroFr nilS nilS) (frC zeroFr nilS nilS) (by with_unfolding_all rfl) (by with_unfolding_all rfl) (by with_unfolding_all exact N4.out.row) rfl (Try.sizeFr zeroFr_ok _ _) frC0_one ?_); intro w5 p5; have P5 := Lib.hid p5; clear p5))
        have D0 : Hid (DIn (fun w => RiAt w i (.slice A b.length c) b (rdS0 b)) w w5 g2 g5 i (frC zeroFr nilS nilS) (frC zeroFr nilS nilS)) := by
          have n2 := N2.out
          have n3 := N3.out
          have n4 := N4.out
          have p5 := P5.out
          have a1 := n2.spot
          have a2 := n2.size
          have a3 := n3.spot
          have a4 := n3.size
          have a5 := n4.spot
          have a6 := n4.size
          have r3 : RowAt w5 i 70 #[(.slice A b.length c), .int .i64 0, .int .i64 0] := (n3.row.kept n4.below).grown p5.grown (by intro e; injection e with e; omega)
          have r2 : RowAt w5 g2 28 (frC zeroFr nilS nilS) := ((n2.row.kept n3.below).kept n4.below).grown p5.grown (by intro e; injection e with e; omega)
          have b5 : Below w.heap.size w w5 := p5.below (below_size (below_size n2.below n3.below) n4.below) (by omega) (by omega)
          exact ⟨⟨HH.out.below b5, 0, r3, Nat.zero_le _, fun _ => rfl⟩, r2, p5.row, b5, by omega, by omega, by omega, by omega, by omega, by omega⟩
        clear N2 N3 N4 P5
        go_wp2_with fail
        refine (C1.out HL.out _ _ D0.out.inn).mono ?_
        intro e w6 hh
        obtain ⟨he, h6, s6⟩ := hh
        subst he
        have D1 := Lib.hid (D0.out.read (R' := (fun w => RiAt w i (.slice A b.length c) b (rdS1 b))) h6 s6)
        clear D0 h6 s6
        go_wp2_with fail
        refine (C2.out HL.out _ _ D1.out.inn).mono ?_
        intro e w7 hh
        obtain ⟨he, h7, s7⟩ := hh
        subst he
        have D2 := Lib.hid (D1.out.read (R' := (fun w => RiAt w i (.slice A b.length c) b (rdS2 b))) h7 s7)
        have c0 := FrAt.n (f := zeroFr) D2.out.two
        have z0 := D2.out.two.frozen 0
        clear D1 h7 s7
        go_wp2_with fail
        have r3 := D2.out.two.put 0 (.int .u32 (f0.n : Int))
        have g3 := grown_setCell w7 g5 0 (.int .u32 (f0.n : Int))
        rw [frC_n] at r3
        have bl := D2.out.below.grown g3 D2.out.below.size (fun k e => by injection e with e; have := D2.out.hb; omega)
        have D3 := Lib.hid (D2.out.put (D2.out.inn.far (HH.out.below bl) g3 D2.out.hbi) r3 g3)
        clear D2 r3 g3 c0 z0 bl
        refine (C3.out HL.out _ _ D3.out.inn).mono ?_
        intro e w8 hh
        obtain ⟨he, h8, s8⟩ := hh
        subst he
        have D4 := Lib.hid (D3.out.read (R' := (fun w => RiAt w i (.slice A b.length c) b (rdS3 b))) h8 s8)
        have c1 := FrAt.ack (f := { zeroFr with n := f0.n }) D4.out.two
        have z1 := D4.out.two.frozen 1
        clear D3 h8 s8
        go_wp2_with fail
        have r5 := D4.out.two.put 1 (.int .u32 (f0.ack : Int))
        have h5 := grown_setCell w8 g5 1 (.int .u32 (f0.ack : Int))
        rw [frC_ack] at r5
        have bl := D4.out.below.grown h5 D4.out.below.size (fun k e => by injection e with e; have := D4.out.hb; omega)
        have D5 := Lib.hid (D4.out.put (D4.out.inn.far (HH.out.below bl) h5 D4.out.hbi) r5 h5)
        clear D4 r5 h5 c1 z1 bl
        refine (C4.out HL.out _ _ D5.out.inn).mono ?_
        intro e w9 hh
        obtain ⟨ku, he, ⟨k9, y9, l9⟩, h9, s9⟩ := hh
        subst he
        have D6 := Lib.hid (D5.out.read (R' := (fun w => RiAt w i (.slice A b.length c) b (rdS4 b))) h9 s9)
        have K6 : Hid (KlK w9 ku (rdK b) g2 g5 i) := by
          obtain ⟨_, _, hr, _⟩ := h9
          exact Kl.apart k9 y9 D6.out.one D6.out.two hr (by decide) (by decide) (by decide)
        clear D5 h9 s9 k9 y9 l9
        obtain ⟨KA, kc, rfl, kx, km, _⟩ := id K6.out.1
        unfold maxLen at km
        have hkl : (rdK b).length ≤ 9223372036854775807 := by omega
        clear kx km
        go_wp2_with fail
        refine (C5.out HL.out _ _ D6.out.inn).mono ?_
        intro e w10 hh
        obtain ⟨bu, he, ⟨k9, y9⟩, h9, s9⟩ := hh
        subst he
        have D7 := Lib.hid (D6.out.read (R' := (fun w => RiAt w i (.slice A b.length c) b (rdS5 b))) h9 s9)
        have K7 := Lib.hid (K6.out.grown s9 (by omega))
        have B7 : Hid (BsK w10 bu f0.box g2 g5 i) := ⟨k9, fun hl k hk => by
          have h1 := HW.out (HB0.out hl) k (y9 k hk)
          have h2 := D7.out.ha
          have h3 := D7.out.hb
          have h4 := D7.out.hi
          omega⟩
        have c8 := FrAt.box (f := { zeroFr with n := f0.n, ack := f0.ack }) D7.out.two ⟨hn0, ha0, zeroKey_length, zeroKey_length, zeroKey_length⟩
        have z8 := D7.out.two.frozen 98
        clear D6 h9 s9 k9 y9 K6
        obtain ⟨BA, bc, rfl, _⟩ := id B7.out.1
        unfold nilS at c8
        go_wp2_with fail
        have r8 := D7.out.two.put 98 (.slice BA f0.box.length bc)
        have g8 := grown_setCell w10 g5 98 (.slice BA f0.box.length bc)
        rw [frC_box (f := { zeroFr with n := f0.n, ack := f0.ack }) ⟨hn0, ha0, zeroKey_length, zeroKey_length, zeroKey_length⟩ _ _ _ f0.box] at r8
        have bl := D7.out.below.grown g8 D7.out.below.size (fun k e => by injection e with e; have := D7.out.hb; omega)
        have D8 := Lib.hid (D7.out.put (D7.out.inn.far (HH.out.below bl) g8 D7.out.hbi) r8 g8)
        have K8 := Lib.hid (K7.out.grown g8 (by omega))
        have B8 := Lib.hid (B7.out.grown g8 (by omega))
        clear D7 K7 B7 r8 g8 c8 z8 bl
        refine (C6.out HL.out _ _ D8.out.inn).mono ?_
        intro e w11 hh
        obtain ⟨su, he, ⟨k9, y9, l9⟩, h9, s9⟩ := hh
        subst he
        have D9 := Lib.hid (D8.out.read (R' := (fun w => RiAt w i (.slice A b.length c) b (rdS6 b))) h9 s9)
        have K9 := Lib.hid (K8.out.grown s9 (by omega))
        have B9 := Lib.hid (B8.out.grown s9 (by omega))
        have S9 : Hid (KlK w11 su f0.sign g2 g5 i) := by
          obtain ⟨_, _, hr, _⟩ := h9
          exact Kl.apart k9 y9 D9.out.one D9.out.two hr (by decide) (by decide) (by decide)
        have c9 := FrAt.sign (f := { zeroFr with n := f0.n, ack := f0.ack, box := f0.box }) D9.out.two ⟨hn0, ha0, zeroKey_length, zeroKey_length, zeroKey_length⟩
        have z9 := D9.out.two.frozen 99
        clear D8 h9 s9 k9 y9 K8 B8 l9
        obtain ⟨SA, sc, rfl, _⟩ := id S9.out.1
        unfold nilS at c9
        go_wp2_with fail
        have r9 := D9.out.two.put 99 (.slice SA f0.sign.length sc)
        have g9 := grown_setCell w11 g5 99 (.slice SA f0.sign.length sc)
        rw [frC_sign (f := { zeroFr with n := f0.n, ack := f0.ack, box := f0.box }) ⟨hn0, ha0, zeroKey_length, zeroKey_length, zeroKey_length⟩ _ _ _ f0.sign] at r9
        have r10 : RowAt (w11.setCell ⟨g5, 99, none⟩ (.slice SA f0.sign.length sc)) g5 28 (frC f0 (.slice BA f0.box.length bc) (.slice SA f0.sign.length sc)) := by
          rw [HZ.out]; exact r9
        have bl := D9.out.below.grown g9 D9.out.below.size (fun k e => by injection e with e; have := D9.out.hb; omega)
        have D10 := Lib.hid (D9.out.put (D9.out.inn.far (HH.out.below bl) g9 D9.out.hbi) r10 g9)
        have K10 := Lib.hid (K9.out.grown g9 (by omega))
        have B10 := Lib.hid (B9.out.grown g9 (by omega))
        have S10 := Lib.hid (S9.out.grown g9 (by omega))
        clear D9 K9 B9 S9 r9 g9 c9 z9 r10 bl
        refine (C7.out _ _ D10.out.inn).mono ?_
        intro e w13 hh
        obtain ⟨he, b13⟩ := hh
        subst he
        have D11 := Lib.hid (D10.out.kept (D10.out.inn.kept b13) b13)
        have K11 := Lib.hid (K10.out.below b13)
        have B11 := Lib.hid (B10.out.below b13)
        have S11 := Lib.hid (S10.out.below b13)
        clear D10 K10 B10 S10 b13
        go_wp2_with (first
          | (with_reducible refine wpList_build0 (o := ⟨some 49, _, _, _, _, _⟩) rfl 28 rfl (frC zeroFr nilS nilS) Try.builtFr ?_)
          | ((with_reducible refine wpList_store_row (o := ⟨none, _, _, _, _, _⟩) rfl 28 (.tmp 2) (.tmp 49) rfl g2 28 (frC zeroFr nilS nilS) (frC zeroFr nilS nilS) (by with_unfolding_all rfl) (by with_unfolding_all rfl) (by with_unfolding_all exact D11.out.one) rfl (Try.sizeFr zeroFr_ok _ _) frC0_one ?_); intro w9 p9; have P9 := Lib.hid p9; clear p9))
        refine bodyPost_ret (ret_row_tmp rfl _ g2 28 (frC zeroFr nilS nilS) _ (by rfl) P9.out.row Try.underlying28 rfl (Try.sizeFr zeroFr_ok _ _)) rfl ?_
        exact ⟨_, by rw [EE.out]; rfl, by rw [EF.out]; exact ⟨_, _, rfl, zeroFr_ok, Bs.nil _, Kl.nil _⟩, P9.out.below D11.out.below D11.out.below.size D11.out.ha⟩
      · have d1 : ((rdM b : Int) != 1) = true := by simpa using c3
        clear E1 c1 c2 c3 c0
        go_enter Try.func19, Try.ntmps19
        go_wp2_with (first
          | ((with_reducible refine wpList_alloc_row (o := ⟨some 2, _, _, _, _, _⟩) rfl 28 rfl (frC zeroFr nilS nilS) Try.zeroOfFr ?_); intro g2 w2 n2; have N2 := Lib.hid n2; clear n2)
          | ((with_reducible refine wpList_box_row (o := ⟨some 16, _, _, _, _, _⟩) rfl 70 (.tmp 15) rfl #[.slice A b.length c, .int .i64 0, .int .i64 0] (by with_unfolding_all rfl) ?_); intro i w3 n3; have N3 := Lib.hid n3; clear n3)
          | (with_reducible refine wpList_build0 (o := ⟨some 17, _, _, _, _, _⟩) rfl 28 rfl (frC zeroFr nilS nilS) Try.builtFr ?_)
          | ((with_reducible refine wpList_alloc_row (o := ⟨some 5, _, _, _, _, _⟩) rfl 28 rfl (frC zeroFr nilS nilS) Try.zeroOfFr ?_); intro g5 w4 n4; have N4 := Lib.hid n4; clear n4)
          | ((with_reducible refine wpList_store_row (o := ⟨none, _, _, _, _, _⟩) rfl 28 (.tmp 5) (.tmp 17) rfl g5 28 (frC zeroFr nilS nilS) (frC zeroFr nilS nilS) (by with_unfolding_all rfl) (by with_unfolding_all rfl) (by with_unfolding_all exact N4.out.row) rfl (Try.sizeFr zeroFr_ok _ _) frC0_one ?_); intro w5 p5; have P5 := Lib.hid p5; clear p5))
        have D0 : Hid (DIn (fun w => RiAt w i (.slice A b.length c) b (rdS0 b)) w w5 g2 g5 i (frC zeroFr nilS nilS) (frC zeroFr nilS nilS)) := by
          have n2 := N2.out
          have n3 := N3.out
          have n4 := N4.out
          have p5 := P5.out
          have a1 := n2.spot
          have a2 := n2.size
          have a3 := n3.spot
          have a4 := n3.size
          have a5 := n4.spot
          have a6 := n4.size
          have r3 : RowAt w5 i 70 #[(.slice A b.length c), .int .i64 0, .int .i64 0] := (n3.row.kept n4.below).grown p5.grown (by intro e; injection e with e; omega)
          have r2 : RowAt w5 g2 28 (frC zeroFr nilS nilS) := ((n2.row.kept n3.below).kept n4.below).grown p5.grown (by intro e; injection e with e; omega)
          have b5 : Below w.heap.size w w5 := p5.below (below_size (below_size n2.below n3.below) n4.below) (by omega) (by omega)
          exact ⟨⟨HH.out.below b5, 0, r3, Nat.zero_le _, fun _ => rfl⟩, r2, p5.row, b5, by omega, by omega, by omega, by omega, by omega, by omega⟩
        clear N2 N3 N4 P5
        go_wp2_with fail
        refine (C1.out HL.out _ _ D0.out.inn).mono ?_
        intro e w6 hh
        obtain ⟨he, h6, s6⟩ := hh
        subst he
        have D1 := Lib.hid (D0.out.read (R' := (fun w => RiAt w i (.slice A b.length c) b (rdS1 b))) h6 s6)
        clear D0 h6 s6
        go_wp2_with fail
        refine (C2.out HL.out _ _ D1.out.inn).mono ?_
        intro e w7 hh
        obtain ⟨he, h7, s7⟩ := hh
        subst he
        have D2 := Lib.hid (D1.out.read (R' := (fun w => RiAt w i (.slice A b.length c) b (rdS2 b))) h7 s7)
        have c0 := FrAt.n (f := zeroFr) D2.out.two
        have z0 := D2.out.two.frozen 0
        clear D1 h7 s7
        go_wp2_with fail
        have r3 := D2.out.two.put 0 (.int .u32 (f0.n : Int))
        have g3 := grown_setCell w7 g5 0 (.int .u32 (f0.n : Int))
        rw [frC_n] at r3
        have bl := D2.out.below.grown g3 D2.out.below.size (fun k e => by injection e with e; have := D2.out.hb; omega)
        have D3 := Lib.hid (D2.out.put (D2.out.inn.far (HH.out.below bl) g3 D2.out.hbi) r3 g3)
        clear D2 r3 g3 c0 z0 bl
        refine (C3.out HL.out _ _ D3.out.inn).mono ?_
        intro e w8 hh
        obtain ⟨he, h8, s8⟩ := hh
        subst he
        have D4 := Lib.hid (D3.out.read (R' := (fun w => RiAt w i (.slice A b.length c) b (rdS3 b))) h8 s8)
        have c1 := FrAt.ack (f := { zeroFr with n := f0.n }) D4.out.two
        have z1 := D4.out.two.frozen 1
        clear D3 h8 s8
        go_wp2_with fail
        have r5 := D4.out.two.put 1 (.int .u32 (f0.ack : Int))
        have h5 := grown_setCell w8 g5 1 (.int .u32 (f0.ack : Int))
        rw [frC_ack] at r5
        have bl := D4.out.below.grown h5 D4.out.below.size (fun k e => by injection e with e; have := D4.out.hb; omega)
        have D5 := Lib.hid (D4.out.put (D4.out.inn.far (HH.out.below bl) h5 D4.out.hbi) r5 h5)
        clear D4 r5 h5 c1 z1 bl
        refine (C4.out HL.out _ _ D5.out.inn).mono ?_
        intro e w9 hh
        obtain ⟨ku, he, ⟨k9, y9, l9⟩, h9, s9⟩ := hh
        subst he
        have D6 := Lib.hid (D5.out.read (R' := (fun w => RiAt w i (.slice A b.length c) b (rdS4 b))) h9 s9)
        have K6 : Hid (KlK w9 ku (rdK b) g2 g5 i) := by
          obtain ⟨_, _, hr, _⟩ := h9
          exact Kl.apart k9 y9 D6.out.one D6.out.two hr (by decide) (by decide) (by decide)
        clear D5 h9 s9 k9 y9 l9
        obtain ⟨KA, kc, rfl, kx, km, _⟩ := id K6.out.1
        unfold maxLen at km
        have hkl : (rdK b).length ≤ 9223372036854775807 := by omega
        clear kx km
        go_wp2_with fail
        refine (C5.out HL.out _ _ D6.out.inn).mono ?_
        intro e w10 hh
        obtain ⟨bu, he, ⟨k9, y9⟩, h9, s9⟩ := hh
        subst he
        have D7 := Lib.hid (D6.out.read (R' := (fun w => RiAt w i (.slice A b.length c) b (rdS5 b))) h9 s9)
        have K7 := Lib.hid (K6.out.grown s9 (by omega))
        have B7 : Hid (BsK w10 bu f0.box g2 g5 i) := ⟨k9, fun hl k hk => by
          have h1 := HW.out (HB0.out hl) k (y9 k hk)
          have h2 := D7.out.ha
          have h3 := D7.out.hb
          have h4 := D7.out.hi
          omega⟩
        have c8 := FrAt.box (f := { zeroFr with n := f0.n, ack := f0.ack }) D7.out.two ⟨hn0, ha0, zeroKey_length, zeroKey_length, zeroKey_length⟩
        have z8 := D7.out.two.frozen 98
        clear D6 h9 s9 k9 y9 K6
        obtain ⟨BA, bc, rfl, _⟩ := id B7.out.1
        unfold nilS at c8
        go_wp2_with fail
        have r8 := D7.out.two.put 98 (.slice BA f0.box.length bc)
        have g8 := grown_setCell w10 g5 98 (.slice BA f0.box.length bc)
        rw [frC_box (f := { zeroFr with n := f0.n, ack := f0.ack }) ⟨hn0, ha0, zeroKey_length, zeroKey_length, zeroKey_length⟩ _ _ _ f0.box] at r8
        have bl := D7.out.below.grown g8 D7.out.below.size (fun k e => by injection e with e; have := D7.out.hb; omega)
        have D8 := Lib.hid (D7.out.put (D7.out.inn.far (HH.out.below bl) g8 D7.out.hbi) r8 g8)
        have K8 := Lib.hid (K7.out.grown g8 (by omega))
        have B8 := Lib.hid (B7.out.grown g8 (by omega))
        clear D7 K7 B7 r8 g8 c8 z8 bl
        refine (C6.out HL.out _ _ D8.out.inn).mono ?_
        intro e w11 hh
        obtain ⟨su, he, ⟨k9, y9, l9⟩, h9, s9⟩ := hh
        subst he
        have D9 := Lib.hid (D8.out.read (R' := (fun w => RiAt w i (.slice A b.length c) b (rdS6 b))) h9 s9)
        have K9 := Lib.hid (K8.out.grown s9 (by omega))
        have B9 := Lib.hid (B8.out.grown s9 (by omega))
        have S9 : Hid (KlK w11 su f0.sign g2 g5 i) := by
          obtain ⟨_, _, hr, _⟩ := h9
          exact Kl.apart k9 y9 D9.out.one D9.out.two hr (by decide) (by decide) (by decide)
        have c9 := FrAt.sign (f := { zeroFr with n := f0.n, ack := f0.ack, box := f0.box }) D9.out.two ⟨hn0, ha0, zeroKey_length, zeroKey_length, zeroKey_length⟩
        have z9 := D9.out.two.frozen 99
        clear D8 h9 s9 k9 y9 K8 B8 l9
        obtain ⟨SA, sc, rfl, _⟩ := id S9.out.1
        unfold nilS at c9
        go_wp2_with fail
        have r9 := D9.out.two.put 99 (.slice SA f0.sign.length sc)
        have g9 := grown_setCell w11 g5 99 (.slice SA f0.sign.length sc)
        rw [frC_sign (f := { zeroFr with n := f0.n, ack := f0.ack, box := f0.box }) ⟨hn0, ha0, zeroKey_length, zeroKey_length, zeroKey_length⟩ _ _ _ f0.sign] at r9
        have r10 : RowAt (w11.setCell ⟨g5, 99, none⟩ (.slice SA f0.sign.length sc)) g5 28 (frC f0 (.slice BA f0.box.length bc) (.slice SA f0.sign.length sc)) := by
          rw [HZ.out]; exact r9
        have bl := D9.out.below.grown g9 D9.out.below.size (fun k e => by injection e with e; have := D9.out.hb; omega)
        have D10 := Lib.hid (D9.out.put (D9.out.inn.far (HH.out.below bl) g9 D9.out.hbi) r10 g9)
        have K10 := Lib.hid (K9.out.grown g9 (by omega))
        have B10 := Lib.hid (B9.out.grown g9 (by omega))
        have S10 := Lib.hid (S9.out.grown g9 (by omega))
        clear D9 K9 B9 S9 r9 g9 c9 z9 r10 bl
        refine (C7.out _ _ D10.out.inn).mono ?_
        intro e w13 hh
        obtain ⟨he, b13⟩ := hh
        subst he
        have D11 := Lib.hid (D10.out.kept (D10.out.inn.kept b13) b13)
        have K11 := Lib.hid (K10.out.below b13)
        have B11 := Lib.hid (B10.out.below b13)
        have S11 := Lib.hid (S10.out.below b13)
        clear D10 K10 B10 S10 b13
        go_wp2_with (first
          | (with_reducible refine wpList_build0 (o := ⟨some 49, _, _, _, _, _⟩) rfl 28 rfl (frC zeroFr nilS nilS) Try.builtFr ?_)
          | ((with_reducible refine wpList_store_row (o := ⟨none, _, _, _, _, _⟩) rfl 28 (.tmp 2) (.tmp 49) rfl g2 28 (frC zeroFr nilS nilS) (frC zeroFr nilS nilS) (by with_unfolding_all rfl) (by with_unfolding_all rfl) (by with_unfolding_all exact D11.out.one) rfl (Try.sizeFr zeroFr_ok _ _) frC0_one ?_); intro w9 p9; have P9 := Lib.hid p9; clear p9))
        refine bodyPost_ret (ret_row_tmp rfl _ g2 28 (frC zeroFr nilS nilS) _ (by rfl) P9.out.row Try.underlying28 rfl (Try.sizeFr zeroFr_ok _ _)) rfl ?_
        exact ⟨_, by rw [EE.out]; rfl, by rw [EF.out]; exact ⟨_, _, rfl, zeroFr_ok, Bs.nil _, Kl.nil _⟩, P9.out.below D11.out.below D11.out.below.size D11.out.ha⟩
    · have E2 : Hid (decE b = checkE (rdF b)) := by show _ = _; rw [E1.out, c1]; simp
      have H3 : Hid ((rdK b).length = 3) := by show _ = _; omega
      have d1 : ((rdM b : Int) != 1) = false := by simpa using c2
      have d2 : (((rdK b).length : Int) != 3) = false := by simpa using c3
      rw [c0] at C7
      clear E1 c1 c2 c3 c0
      go_enter Try.func19, Try.ntmps19
      go_wp2_with (first
        | ((with_reducible refine wpList_alloc_row (o := ⟨some 2, _, _, _, _, _⟩) rfl 28 rfl (frC zeroFr nilS nilS) Try.zeroOfFr ?_); intro g2 w2 n2; have N2 := Lib.hid n2; clear n2)
        | ((with_reducible refine wpList_box_row (o := ⟨some 16, _, _, _, _, _⟩) rfl 70 (.tmp 15) rfl #[.slice A b.length c, .int .i64 0, .int .i64 0] (by with_unfolding_all rfl) ?_); intro i w3 n3; have N3 := Lib.hid n3; clear n3)
        | (with_reducible refine wpList_build0 (o := ⟨some 17, _, _, _, _, _⟩) rfl 28 rfl (frC zeroFr nilS nilS) Try.builtFr ?_)
        | ((with_reducible refine wpList_alloc_row (o := ⟨some 5, _, _, _, _, _⟩) rfl 28 rfl (frC zeroFr nilS nilS) Try.zeroOfFr ?_); intro g5 w4 n4; have N4 := Lib.hid n4; clear n4)
        | ((with_reducible refine wpList_store_row (o := ⟨none, _, _, _, _, _⟩) rfl 28 (.tmp 5) (.tmp 17) rfl g5 28 (frC zeroFr nilS nilS) (frC zeroFr nilS nilS) (by with_unfolding_all rfl) (by with_unfolding_all rfl) (by with_unfolding_all exact N4.out.row) rfl (Try.sizeFr zeroFr_ok _ _) frC0_one ?_); intro w5 p5; have P5 := Lib.hid p5; clear p5))
      have D0 : Hid (DIn (fun w => RiAt w i (.slice A b.length c) b (rdS0 b)) w w5 g2 g5 i (frC zeroFr nilS nilS) (frC zeroFr nilS nilS)) := by
        have n2 := N2.out
        have n3 := N3.out
        have n4 := N4.out
        have p5 := P5.out
        have a1 := n2.spot
        have a2 := n2.size
        have a3 := n3.spot
        have a4 := n3.size
        have a5 := n4.spot
        have a6 := n4.size
        have r3 : RowAt w5 i 70 #[(.slice A b.length c), .int .i64 0, .int .i64 0] := (n3.row.kept n4.below).grown p5.grown (by intro e; injection e with e; omega)
        have r2 : RowAt w5 g2 28 (frC zeroFr nilS nilS) := ((n2.row.kept n3.below).kept n4.below).grown p5.grown (by intro e; injection e with e; omega)
        have b5 : Below w.heap.size w w5 := p5.below (below_size (below_size n2.below n3.below) n4.below) (by omega) (by omega)
        exact ⟨⟨HH.out.below b5, 0, r3, Nat.zero_le _, fun _ => rfl⟩, r2, p5.row, b5, by omega, by omega, by omega, by omega, by omega, by omega⟩
      clear N2 N3 N4 P5
      go_wp2_with fail
      refine (C1.out HL.out _ _ D0.out.inn).mono ?_
      intro e w6 hh
      obtain ⟨he, h6, s6⟩ := hh
      subst he
      have D1 := Lib.hid (D0.out.read (R' := (fun w => RiAt w i (.slice A b.length c) b (rdS1 b))) h6 s6)
      clear D0 h6 s6
      go_wp2_with fail
      refine (C2.out HL.out _ _ D1.out.inn).mono ?_
      intro e w7 hh
      obtain ⟨he, h7, s7⟩ := hh
      subst he
      have D2 := Lib.hid (D1.out.read (R' := (fun w => RiAt w i (.slice A b.length c) b (rdS2 b))) h7 s7)
      have c0 := FrAt.n (f := zeroFr) D2.out.two
      have z0 := D2.out.two.frozen 0
      clear D1 h7 s7
      go_wp2_with fail
      have r3 := D2.out.two.put 0 (.int .u32 (f0.n : Int))
      have g3 := grown_setCell w7 g5 0 (.int .u32 (f0.n : Int))
      rw [frC_n] at r3
      have bl := D2.out.below.grown g3 D2.out.below.size (fun k e => by injection e with e; have := D2.out.hb; omega)
      have D3 := Lib.hid (D2.out.put (D2.out.inn.far (HH.out.below bl) g3 D2.out.hbi) r3 g3)
      clear D2 r3 g3 c0 z0 bl
      refine (C3.out HL.out _ _ D3.out.inn).mono ?_
      intro e w8 hh
      obtain ⟨he, h8, s8⟩ := hh
      subst he
      have D4 := Lib.hid (D3.out.read (R' := (fun w => RiAt w i (.slice A b.length c) b (rdS3 b))) h8 s8)
      have c1 := FrAt.ack (f := { zeroFr with n := f0.n }) D4.out.two
      have z1 := D4.out.two.frozen 1
      clear D3 h8 s8
      go_wp2_with fail
      have r5 := D4.out.two.put 1 (.int .u32 (f0.ack : Int))
      have h5 := grown_setCell w8 g5 1 (.int .u32 (f0.ack : Int))
      rw [frC_ack] at r5
      have bl := D4.out.below.grown h5 D4.out.below.size (fun k e => by injection e with e; have := D4.out.hb; omega)
      have D5 := Lib.hid (D4.out.put (D4.out.inn.far (HH.out.below bl) h5 D4.out.hbi) r5 h5)
      clear D4 r5 h5 c1 z1 bl
      refine (C4.out HL.out _ _ D5.out.inn).mono ?_
      intro e w9 hh
      obtain ⟨ku, he, ⟨k9, y9, l9⟩, h9, s9⟩ := hh
      subst he
      have D6 := Lib.hid (D5.out.read (R' := (fun w => RiAt w i (.slice A b.length c) b (rdS4 b))) h9 s9)
      have K6 : Hid (KlK w9 ku (rdK b) g2 g5 i) := by
        obtain ⟨_, _, hr, _⟩ := h9
        exact Kl.apart k9 y9 D6.out.one D6.out.two hr (by decide) (by decide) (by decide)
      clear D5 h9 s9 k9 y9 l9
      obtain ⟨KA, kc, rfl, kx, km, _⟩ := id K6.out.1
      unfold maxLen at km
      have hkl : (rdK b).length ≤ 9223372036854775807 := by omega
      clear kx km
      go_wp2_with fail
      refine (C5.out HL.out _ _ D6.out.inn).mono ?_
      intro e w10 hh
      obtain ⟨bu, he, ⟨k9, y9⟩, h9, s9⟩ := hh
      subst he
      have D7 := Lib.hid (D6.out.read (R' := (fun w => RiAt w i (.slice A b.length c) b (rdS5 b))) h9 s9)
      have K7 := Lib.hid (K6.out.grown s9 (by omega))
      have B7 : Hid (BsK w10 bu f0.box g2 g5 i) := ⟨k9, fun hl k hk => by
        have h1 := HW.out (HB0.out hl) k (y9 k hk)
        have h2 := D7.out.ha
        have h3 := D7.out.hb
        have h4 := D7.out.hi
        omega⟩
      have c8 := FrAt.box (f := { zeroFr with n := f0.n, ack := f0.ack }) D7.out.two ⟨hn0, ha0, zeroKey_length, zeroKey_length, zeroKey_length⟩
      have z8 := D7.out.two.frozen 98
      clear D6 h9 s9 k9 y9 K6
      obtain ⟨BA, bc, rfl, _⟩ := id B7.out.1
      unfold nilS at c8
      go_wp2_with fail
      have r8 := D7.out.two.put 98 (.slice BA f0.box.length bc)
      have g8 := grown_setCell w10 g5 98 (.slice BA f0.box.length bc)
      rw [frC_box (f := { zeroFr with n := f0.n, ack := f0.ack }) ⟨hn0, ha0, zeroKey_length, zeroKey_length, zeroKey_length⟩ _ _ _ f0.box] at r8
      have bl := D7.out.below.grown g8 D7.out.below.size (fun k e => by injection e with e; have := D7.out.hb; omega)
      have D8 := Lib.hid (D7.out.put (D7.out.inn.far (HH.out.below bl) g8 D7.out.hbi) r8 g8)
      have K8 := Lib.hid (K7.out.grown g8 (by omega))
      have B8 := Lib.hid (B7.out.grown g8 (by omega))
      clear D7 K7 B7 r8 g8 c8 z8 bl
      refine (C6.out HL.out _ _ D8.out.inn).mono ?_
      intro e w11 hh
      obtain ⟨su, he, ⟨k9, y9, l9⟩, h9, s9⟩ := hh
      subst he
      have D9 := Lib.hid (D8.out.read (R' := (fun w => RiAt w i (.slice A b.length c) b (rdS6 b))) h9 s9)
      have K9 := Lib.hid (K8.out.grown s9 (by omega))
      have B9 := Lib.hid (B8.out.grown s9 (by omega))
      have S9 : Hid (KlK w11 su f0.sign g2 g5 i) := by
        obtain ⟨_, _, hr, _⟩ := h9
        exact Kl.apart k9 y9 D9.out.one D9.out.two hr (by decide) (by decide) (by decide)
      have c9 := FrAt.sign (f := { zeroFr with n := f0.n, ack := f0.ack, box := f0.box }) D9.out.two ⟨hn0, ha0, zeroKey_length, zeroKey_length, zeroKey_length⟩
      have z9 := D9.out.two.frozen 99
      clear D8 h9 s9 k9 y9 K8 B8 l9
      obtain ⟨SA, sc, rfl, _⟩ := id S9.out.1
      unfold nilS at c9
      go_wp2_with fail
      have r9 := D9.out.two.put 99 (.slice SA f0.sign.length sc)
      have g9 := grown_setCell w11 g5 99 (.slice SA f0.sign.length sc)
      rw [frC_sign (f := { zeroFr with n := f0.n, ack := f0.ack, box := f0.box }) ⟨hn0, ha0, zeroKey_length, zeroKey_length, zeroKey_length⟩ _ _ _ f0.sign] at r9
      have r10 : RowAt (w11.setCell ⟨g5, 99, none⟩ (.slice SA f0.sign.length sc)) g5 28 (frC f0 (.slice BA f0.box.length bc) (.slice SA f0.sign.length sc)) := by
        rw [HZ.out]; exact r9
      have bl := D9.out.below.grown g9 D9.out.below.size (fun k e => by injection e with e; have := D9.out.hb; omega)
      have D10 := Lib.hid (D9.out.put (D9.out.inn.far (HH.out.below bl) g9 D9.out.hbi) r10 g9)
      have K10 := Lib.hid (K9.out.grown g9 (by omega))
      have B10 := Lib.hid (B9.out.grown g9 (by omega))
      have S10 := Lib.hid (S9.out.grown g9 (by omega))
      clear D9 K9 B9 S9 r9 g9 c9 z9 r10 bl
      refine (C7.out _ _ D10.out.inn).mono ?_
      intro e w13 hh
      obtain ⟨he, b13⟩ := hh
      subst he
      have D11 := Lib.hid (D10.out.kept (D10.out.inn.kept b13) b13)
      have K11 := Lib.hid (K10.out.below b13)
      have B11 := Lib.hid (B10.out.below b13)
      have S11 := Lib.hid (S10.out.below b13)
      clear D10 K10 B10 S10 b13
      have h3 := H3.out
      obtain ⟨kb, ko, rfl, h32, hkr⟩ := K11.out.1.keys (by omega)
      have HKR := Lib.hid hkr
      have HK32 := Lib.hid h32
      clear hkr h32
      have hne := K11.out.2 (by omega) kb rfl
      have O0 : Hid f0.Ok := by refine ⟨hn0, ha0, ?_, ?_, ?_⟩ <;> (rw [HZ.out]; exact zeroKey_length)
      have O1 : Hid (Fr.Ok { f0 with eph := keyI (rdK b) 0 }) := ⟨hn0, ha0, keyI_len HK32.out 0, O0.out.epoch, O0.out.next⟩
      have O2 : Hid (Fr.Ok { { f0 with eph := keyI (rdK b) 0 } with epoch := keyI (rdK b) 1 }) := ⟨hn0, ha0, keyI_len HK32.out 0, keyI_len HK32.out 1, O0.out.next⟩
      have O3 : Hid (rdF b).Ok := by rw [← rdF_eq b f0 HF.out]; exact ⟨hn0, ha0, keyI_len HK32.out 0, keyI_len HK32.out 1, keyI_len HK32.out 2⟩
      have O4 : Hid (Fr.Ok { { { f0 with eph := keyI (rdK b) 0 } with epoch := keyI (rdK b) 1 } with next := keyI (rdK b) 2 }) := ⟨hn0, ha0, keyI_len HK32.out 0, keyI_len HK32.out 1, keyI_len HK32.out 2⟩
      have FX : Hid ((rdF b).box = f0.box ∧ (rdF b).sign = f0.sign) := by rw [← rdF_eq b f0 HF.out]; exact ⟨rfl, rfl⟩
      have L0 := Lib.hid (keyI_len HK32.out 0)
      have L1 := Lib.hid (keyI_len HK32.out 1)
      have L2 := Lib.hid (keyI_len HK32.out 2)
      have KR0 := Lib.hid (HKR.out 0 (by omega))
      have KR1 := Lib.hid (HKR.out 1 (by omega))
      have KR2 := Lib.hid (HKR.out 2 (by omega))
      have NE : Hid (kb ≠ g5) := hne.2.1
      clear HKR hne
      go_wp2_with (first
        | (with_reducible refine wpList_val (o := ⟨some 51, _, _, _, _, _⟩) rfl (.pointer (some ⟨kb, ko + 0 * 32, none⟩)) (by exact run_keyAt 26 24 (.tmp 50) (.const (.int .i64 0)) (by with_unfolding_all rfl) kb ko 3 kc 0 (by with_unfolding_all rfl) (by with_unfolding_all rfl) (by decide) Try.underlying26 Try.sizeK) ?_)
        | (with_reducible refine wpList_loadK (o := ⟨some 52, _, _, _, _, _⟩) rfl 24 (.tmp 51) rfl kb (ko + 0 * 32) (by with_unfolding_all rfl) (keyI (rdK b) 0) _ (by with_unfolding_all exact KR0.out) Try.underlying24 rfl (Try.sizeKeyM _ L0.out) ?_)
        | ((with_reducible refine wpList_store_mid (o := ⟨none, _, _, _, _, _⟩) rfl 24 (.tmp 53) (.tmp 52) rfl g5 2 28 (frL f0 (.slice BA f0.box.length bc) (.slice SA f0.sign.length sc)) (frL { f0 with eph := keyI (rdK b) 0 } (.slice BA f0.box.length bc) (.slice SA f0.sign.length sc)) (keyI (rdK b) 0) (by with_unfolding_all rfl) (by with_unfolding_all rfl) (by with_unfolding_all exact D11.out.two) (by rw [frL_length O0.out, L0.out]; omega) (frL_eph_put O0.out _ _ _ L0.out) (Try.sizeKeyM _ L0.out) ?_); intro w14 p14; have bl14 := D11.out.below.grown p14.grown D11.out.below.size (fun k e => by injection e with e; have := D11.out.hb; omega); have D12 := Lib.hid (D11.out.put (D11.out.inn.far (HH.out.below bl14) p14.grown D11.out.hbi) p14.row p14.grown); have B12 := Lib.hid (B11.out.grown p14.grown (by omega)); have S12 := Lib.hid (S11.out.grown p14.grown (by omega)); have KR11 := Lib.hid (rangeAt_grown KR1.out p14.grown NE.out); have KR21 := Lib.hid (rangeAt_grown KR2.out p14.grown NE.out); clear bl14 D11 B11 S11 p14)
        | (with_reducible refine wpList_val (o := ⟨some 55, _, _, _, _, _⟩) rfl (.pointer (some ⟨kb, ko + 1 * 32, none⟩)) (by exact run_keyAt 26 24 (.tmp 54) (.const (.int .i64 1)) (by with_unfolding_all rfl) kb ko 3 kc 1 (by with_unfolding_all rfl) (by with_unfolding_all rfl) (by decide) Try.underlying26 Try.sizeK) ?_)
        | (with_reducible refine wpList_loadK (o := ⟨some 56, _, _, _, _, _⟩) rfl 24 (.tmp 55) rfl kb (ko + 1 * 32) (by with_unfolding_all rfl) (keyI (rdK b) 1) _ (by with_unfolding_all exact KR11.out) Try.underlying24 rfl (Try.sizeKeyM _ L1.out) ?_)
        | ((with_reducible refine wpList_store_mid (o := ⟨none, _, _, _, _, _⟩) rfl 24 (.tmp 57) (.tmp 56) rfl g5 34 28 (frL { f0 with eph := keyI (rdK b) 0 } (.slice BA f0.box.length bc) (.slice SA f0.sign.length sc)) (frL { { f0 with eph := keyI (rdK b) 0 } with epoch := keyI (rdK b) 1 } (.slice BA f0.box.length bc) (.slice SA f0.sign.length sc)) (keyI (rdK b) 1) (by with_unfolding_all rfl) (by with_unfolding_all rfl) (by with_unfolding_all exact D12.out.two) (by rw [frL_length O1.out, L1.out]; omega) (frL_epoch_put O1.out _ _ _ L1.out) (Try.sizeKeyM _ L1.out) ?_); intro w15 p15; have bl15 := D12.out.below.grown p15.grown D12.out.below.size (fun k e => by injection e with e; have := D12.out.hb; omega); have D13 := Lib.hid (D12.out.put (D12.out.inn.far (HH.out.below bl15) p15.grown D12.out.hbi) p15.row p15.grown); have B13 := Lib.hid (B12.out.grown p15.grown (by omega)); have S13 := Lib.hid (S12.out.grown p15.grown (by omega)); have KR22 := Lib.hid (rangeAt_grown KR21.out p15.grown NE.out); clear bl15 D12 B12 S12 p15)
        | (with_reducible refine wpList_val (o := ⟨some 59, _, _, _, _, _⟩) rfl (.pointer (some ⟨kb, ko + 2 * 32, none⟩)) (by exact run_keyAt 26 24 (.tmp 58) (.const (.int .i64 2)) (by with_unfolding_all rfl) kb ko 3 kc 2 (by with_unfolding_all rfl) (by with_unfolding_all rfl) (by decide) Try.underlying26 Try.sizeK) ?_)
        | (with_reducible refine wpList_loadK (o := ⟨some 60, _, _, _, _, _⟩) rfl 24 (.tmp 59) rfl kb (ko + 2 * 32) (by with_unfolding_all rfl) (keyI (rdK b) 2) _ (by with_unfolding_all exact KR22.out) Try.underlying24 rfl (Try.sizeKeyM _ L2.out) ?_)
        | ((with_reducible refine wpList_store_mid (o := ⟨none, _, _, _, _, _⟩) rfl 24 (.tmp 61) (.tmp 60) rfl g5 66 28 (frL { { f0 with eph := keyI (rdK b) 0 } with epoch := keyI (rdK b) 1 } (.slice BA f0.box.length bc) (.slice SA f0.sign.length sc)) (frL { { { f0 with eph := keyI (rdK b) 0 } with epoch := keyI (rdK b) 1 } with next := keyI (rdK b) 2 } (.slice BA f0.box.length bc) (.slice SA f0.sign.length sc)) (keyI (rdK b) 2) (by with_unfolding_all rfl) (by with_unfolding_all rfl) (by with_unfolding_all exact D13.out.two) (by rw [frL_length O2.out, L2.out]; omega) (frL_next_put O2.out _ _ _ L2.out) (Try.sizeKeyM _ L2.out) ?_); intro w16 p16; have bl16 := D13.out.below.grown p16.grown D13.out.below.size (fun k e => by injection e with e; have := D13.out.hb; omega); have D14 := Lib.hid (D13.out.put (D13.out.inn.far (HH.out.below bl16) p16.grown D13.out.hbi) p16.row p16.grown); have B14 := Lib.hid (B13.out.grown p16.grown (by omega)); have S14 := Lib.hid (S13.out.grown p16.grown (by omega)); clear bl16 D13 B13 S13 p16)
        | (with_reducible refine wpList_load_row (o := ⟨some 62, _, _, _, _, _⟩) rfl 28 (.tmp 5) rfl g5 (by with_unfolding_all rfl) 28 (frC { { { f0 with eph := keyI (rdK b) 0 } with epoch := keyI (rdK b) 1 } with next := keyI (rdK b) 2 } (.slice BA f0.box.length bc) (.slice SA f0.sign.length sc)) (0, 0) _ (by with_unfolding_all exact D14.out.two) Try.underlying28 rfl (Try.sizeFr O4.out _ _) ?_))
      have D16 : Hid (DIn (fun w => RiAt w i (.slice A b.length c) b (rdS6 b)) w w16 g2 g5 i (frC zeroFr nilS nilS) (frC (rdF b) (.slice BA f0.box.length bc) (.slice SA f0.sign.length sc))) := by
        rw [← rdF_eq b f0 HF.out]; exact D14.out
      have V16 : Hid (FrV w16 (.agg (frC { { { f0 with eph := keyI (rdK b) 0 } with epoch := keyI (rdK b) 1 } with next := keyI (rdK b) 2 } (.slice BA f0.box.length bc) (.slice SA f0.sign.length sc))) (rdF b)) := by
        have e : frC { { { f0 with eph := keyI (rdK b) 0 } with epoch := keyI (rdK b) 1 } with next := keyI (rdK b) 2 } (.slice BA f0.box.length bc) (.slice SA f0.sign.length sc) = frC (rdF b) (.slice BA f0.box.length bc) (.slice SA f0.sign.length sc) := by rw [rdF_eq b f0 HF.out]
        show FrV _ _ _
        rw [e]
        exact ⟨_, _, rfl, O3.out, by rw [FX.out.1]; exact B14.out.1, by rw [FX.out.2]; exact S14.out.1⟩
      have C9 : Hid (∀ w v, FrV w v (rdF b) → Calls Try.prog 16 #[v] w fun e w' => e = .returned (.int .i64 (checkE (rdF b))) ∧ Below w.heap.size w w') := fun w v h => refCheck_any w v _ h
      have B16 : Hid (BsK w16 (.slice BA f0.box.length bc) (rdF b).box g2 g5 i) := by rw [FX.out.1]; exact B14.out
      have S16 : Hid (KlK w16 (.slice SA f0.sign.length sc) (rdF b).sign g2 g5 i) := by rw [FX.out.2]; exact S14.out
      clear D14 B14 S14
      obtain ⟨BV, hBV⟩ : ∃ BV, BV = (Value.slice BA f0.box.length bc) := ⟨_, rfl⟩
      obtain ⟨SV, hSV⟩ : ∃ SV, SV = (Value.slice SA f0.sign.length sc) := ⟨_, rfl⟩
      have ON : Hid (BV.oneCell' = true ∧ SV.oneCell' = true) := ⟨by rw [hBV]; rfl, by rw [hSV]; rfl⟩
      rw [← hBV, ← hSV] at D16
      rw [← hBV] at B16
      rw [← hSV] at S16
      clear hBV hSV
      obtain ⟨F, hF⟩ : ∃ F, F = rdF b := ⟨_, rfl⟩
      have HFF : Hid (decF b = if decE b = 0 then F else zeroFr) := by show _ = _; rw [hF]; rfl
      rw [← hF] at D16 V16 C9 O3 E2 B16 S16
      clear hF FX
      by_cases a2 : checkE F = 0
      · have EE : Hid (decE b = 0) := by show _ = _; rw [E2.out, a2]
        have EF : Hid (decF b = F) := by show _ = _; rw [HFF.out, if_pos EE.out]
        have d2 : (checkE F != 0) = false := by simp [a2]
        rw [a2] at C9
        clear E2 a2
        refine (C9.out _ _ V16.out).mono ?_
        intro e w17 hh
        obtain ⟨he, b17⟩ := hh
        subst he
        have D17 := Lib.hid (D16.out.kept (D16.out.inn.kept b17) b17)
        have B17 := Lib.hid (B16.out.below b17)
        have S17 := Lib.hid (S16.out.below b17)
        clear D16 b17 V16 B16 S16
        go_wp2_with (first
          | (with_reducible refine wpList_load_row (o := ⟨some 68, _, _, _, _, _⟩) rfl 28 (.tmp 5) rfl g5 (by with_unfolding_all rfl) 28 (frC F BV SV) (0, 0) _ (by with_unfolding_all exact D17.out.two) Try.underlying28 rfl (Try.sizeFr O3.out _ _) ?_)
          | ((with_reducible refine wpList_store_row (o := ⟨none, _, _, _, _, _⟩) rfl 28 (.tmp 2) (.tmp 68) rfl g2 28 (frC zeroFr nilS nilS) (frC F BV SV) (by with_unfolding_all rfl) (by with_unfolding_all rfl) (by with_unfolding_all exact D17.out.one) (by rw [frC_size zeroFr_ok, frC_size O3.out]) (Try.sizeFr O3.out _ _) (frC_one _ _ _ ON.out.1 ON.out.2) ?_); intro w18 p18; have P18 := Lib.hid p18))
        refine bodyPost_ret (ret_row_tmp rfl _ g2 28 (frC F BV SV) _ (by rfl) P18.out.row Try.underlying28 rfl (Try.sizeFr O3.out _ _)) rfl ?_
        refine ⟨_, by rw [EE.out]; rfl, ?_, P18.out.below D17.out.below D17.out.below.size D17.out.ha⟩
        rw [EF.out]
        exact ⟨_, _, rfl, O3.out, (B17.out.grown P18.out.grown (.inl rfl)).1, (S17.out.grown P18.out.grown (.inl rfl)).1⟩
      · have EE : Hid (decE b = checkE F) := E2.out
        have EF : Hid (decF b = zeroFr) := by show _ = _; rw [HFF.out, if_neg (by rw [EE.out]; exact a2)]
        have d2 : (checkE F != 0) = true := by simpa using a2
        clear E2 a2
        refine (C9.out _ _ V16.out).mono ?_
        intro e w17 hh
        obtain ⟨he, b17⟩ := hh
        subst he
        have D17 := Lib.hid (D16.out.kept (D16.out.inn.kept b17) b17)
        clear D16 b17 V16
        go_wp2_with (first
          | (with_reducible refine wpList_build0 (o := ⟨some 66, _, _, _, _, _⟩) rfl 28 rfl (frC zeroFr nilS nilS) Try.builtFr ?_)
          | ((with_reducible refine wpList_store_row (o := ⟨none, _, _, _, _, _⟩) rfl 28 (.tmp 2) (.tmp 66) rfl g2 28 (frC zeroFr nilS nilS) (frC zeroFr nilS nilS) (by with_unfolding_all rfl) (by with_unfolding_all rfl) (by with_unfolding_all exact D17.out.one) rfl (Try.sizeFr zeroFr_ok _ _) frC0_one ?_); intro w9 p9; have P9 := Lib.hid p9; clear p9))
        refine bodyPost_ret (ret_row_tmp rfl _ g2 28 (frC zeroFr nilS nilS) _ (by rfl) P9.out.row Try.underlying28 rfl (Try.sizeFr zeroFr_ok _ _)) rfl ?_
        exact ⟨_, by rw [EE.out]; rfl, by rw [EF.out]; exact ⟨_, _, rfl, zeroFr_ok, Bs.nil _, Kl.nil _⟩, P9.out.below D17.out.below D17.out.below.size D17.out.ha⟩
end Go.Proofs.Ytmhhjdiilmgmoaa
end
