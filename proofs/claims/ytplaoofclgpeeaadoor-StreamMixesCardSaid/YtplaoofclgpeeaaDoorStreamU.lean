/-
  Contract of the document's own Mix. Conditions: as each theorem names them.
-/
import Derived.Test.YtplaoofclgpeeaaDoorStreamT
import Derived.Test.YtplaoofclgpeeaaDoorStreamD
namespace Go.Proofs.YtplaoofclgpeeaaDoor
open Go.RowKit
set_option linter.unusedVariables false
set_option maxRecDepth 20000

theorem step_appG {P : Program} {w : World} {ops : Array Oper} {o : Oper} {a : Act} {K : Act → World → Prop} {Q : Exit → Act → World → Prop} {E : Prop} (hgd : o.guard = none) (s x : Operand) (t : TypeId)
    (ho : o.op = .call { callee := .builtin .append, args := #[s, x], argTypes := #[t, t] })
    (base : Nat) (e : TypeId) (hinfo : (P.info? e).map (fun i => (i.zero, i.size, i.bytes)) = some (some (.int .u8 0), 1, 1)) (ht : P.underlying t = some (.slice e))
    (v u : Value) (l m : List UInt8) (hs : a.eval s = v) (hx : a.eval x = u) (hown : OwnB w base e v l) (hu : Bs w u m) (hlen : l.length + m.length ≤ 140737488355328) (hb : base ≤ w.heap.size)
    (h : ∀ v' w', OwnB w' base e v' (l ++ m) → w.grownBy w' v.ownBlock → K (a.put o.dst v') w') :
    if Region.wanted o (yielded ops a.tmps) = true then Oper.wp P o a w K Q else E := by
  have hw : Region.wanted o (yielded ops a.tmps) = true := by simp [Region.wanted, hgd]
  rw [if_pos hw]
  exact wp_appG s x t ho base e hinfo ht v u l m hs hx hown hu hlen hb h
theorem take_stepB (z : List UInt8) (k : Nat) (h : k < z.length) : z.take (k + 1) = z.take k ++ [z.getD k 0] := by
  rw [List.take_succ_eq_append_getElem h]
  simp [List.getD_eq_getElem?_getD, h]
theorem xorB_getD (a b : List UInt8) (k : Nat) (ha : k < a.length) (hb : k < b.length) : (xorB a b).getD k 0 = a.getD k 0 ^^^ b.getD k 0 := by
  have h : k < (xorB a b).length := by rw [xorB_length]; omega
  rw [List.getD_eq_getElem?_getD, List.getElem?_eq_getElem h, xorB_get a b k h ha hb]
  simp [List.getD_eq_getElem?_getD, ha, hb]
theorem drop_getD (a : List UInt8) (p k : Nat) : (a.drop p).getD k 0 = a.getD (p + k) 0 := by
  simp [List.getD_eq_getElem?_getD]

set_option maxHeartbeats 1000000 in
theorem refMix_long (w : World) (key nonce text : List UInt8) (ctr : UInt32) (v : Value) (hb : Bs w v text) (hl : 4000 < text.length) :
    Calls Tryd.prog 15 #[keyV key, .int .u32 (ctr.toNat : Int), keyV nonce, v] w fun e w' => ∃ u, e = .returned (.tuple #[u, .int .i64 2]) ∧ Bs w' u [] ∧ Below w.heap.size w w' := by
  obtain ⟨A, c, rfl, h1, h2, h3⟩ := hb
  unfold maxLen at h2
  have hd : decide (4000 < (text.length : Int)) = true := by simp; omega
  clear h3
  go_enter Tryd.func15, Tryd.ntmps15
  go_wp2_with (first
    | ((with_reducible refine wpList_box_row (o := ⟨some 4, _, _, _, _, _⟩) rfl 26 (.tmp 0) rfl (keyC key) (by with_unfolding_all rfl) ?_); intro g1 w1 n1)
    | ((with_reducible refine wpList_box_row (o := ⟨some 6, _, _, _, _, _⟩) rfl 27 (.tmp 2) rfl (keyC nonce) (by with_unfolding_all rfl) ?_); intro g2 w2 n2))
  go_ret2
  exact ⟨_, rfl, Bs.nil _, below_size n1.below n2.below⟩

set_option maxHeartbeats 4000000 in
theorem refMix_ok (w : World) (key nonce text : List UInt8) (ctr : UInt32) (v : Value) (hb : Bs w v text) (hk : key.length = 32) (hn : nonce.length = 12) (hl : text.length ≤ 4000) :
    Calls Tryd.prog 15 #[keyV key, .int .u32 (ctr.toNat : Int), keyV nonce, v] w fun e w' => ∃ u, e = .returned (.tuple #[u, .int .i64 0]) ∧ Bs w' u (mixS key ctr nonce text) ∧ Below w.heap.size w w' := by
  have HV := Lib.hid hb
  obtain ⟨A, c, rfl, h1, h2, h3⟩ := hb
  unfold maxLen at h2
  have H3 := Lib.hid h3
  have hd : decide (4000 < (text.length : Int)) = false := by simp; omega
  have hctr := ctr.toNat_lt
  have HK := Lib.hid hk
  have HN := Lib.hid hn
  have HRB : Hid (∀ x c', Calls Tryd.prog 13 #[.agg (keyC key), .int .u32 (UInt32.toNat c' : Int), .agg (keyC nonce)] x (RetV x (.agg (keyC (blockS key c' nonce))))) := fun x c' => refBlock_any x key nonce c' hk hn
  clear h3 hk hn
  go_enter Tryd.func15, Tryd.ntmps15
  go_wp2_with (first
    | ((with_reducible refine wpList_box_row (o := ⟨some 4, _, _, _, _, _⟩) rfl 26 (.tmp 0) rfl (keyC key) (by with_unfolding_all rfl) ?_); intro g1 w1 n1)
    | ((with_reducible refine wpList_box_row (o := ⟨some 6, _, _, _, _, _⟩) rfl 27 (.tmp 2) rfl (keyC nonce) (by with_unfolding_all rfl) ?_); intro g2 w2 n2))
  have B2 := below_size n1.below n2.below
  have R1 := n1.row.kept n2.below
  have R2 := n2.row
  clear n1 n2
  go_loopw [10, 11] (fun v i wr => ∃ k p : Nat, p = 64 * k ∧ p ≤ text.length + 63 ∧ i = .int .i64 p ∧ OwnB wr w.heap.size 5 v (xorB text (noiseS key ctr nonce k)) ∧ RowAt wr g1 26 (keyC key) ∧ RowAt wr g2 27 (keyC nonce) ∧ Below w.heap.size w wr) (fun _ i _ => 5000 - (intOf i).toNat)
  case atStart => exact ⟨0, 0, rfl, by omega, rfl, by simpa [noiseS, xorB] using OwnB.nil _ _ _, R1, R2, B2⟩
  case round =>
    clear R1 R2 B2
    obtain ⟨k, p, hpk, hp, rfl, hown, hr1, hr2, hb⟩ := hrel
    have HO := Lib.hid hown
    have R1 := Lib.hid hr1
    have R2 := Lib.hid hr2
    have HB := Lib.hid hb
    have HPK := Lib.hid hpk
    clear hown hr1 hr2 hb
    by_cases hlt : p < text.length
    · have hquo : Int.tdiv (p : Int) 64 = (k : Int) := by rw [Int.tdiv_eq_ediv_of_nonneg (by omega)]; omega
      have hwk : IntKind.i64.wrap (k : Int) = (k : Int) := IntWalk.i64_in _ (by omega)
      have hcv : IntKind.u32.wrap (k : Int) = (k : Int) := by rw [IntKind.wrap_u32]; omega
      have hadd : IntKind.u32.wrap ((ctr.toNat : Int) + (k : Int)) = ((ctr + UInt32.ofNat k).toNat : Int) := by
        rw [← add32, UInt32.toNat_ofNat_of_lt' (by simp only [UInt32.size]; omega)]
      have hstep := mixS_step key ctr nonce text k
      rw [← hpk] at hstep
      generalize hck : ctr + UInt32.ofNat k = ck at *
      have hbl := blockS_length key ck nonce
      generalize hbk : blockS key ck nonce = bk at *
      have hzl : (xorB (text.drop p) bk).length = min (text.length - p) 64 := by rw [xorB_length, List.length_drop, hbl]
      have hzg : ∀ j, j < (xorB (text.drop p) bk).length → (xorB (text.drop p) bk).getD j 0 = text.getD (p + j) 0 ^^^ bk.getD j 0 := fun j hj => by
        rw [hzl] at hj
        rw [xorB_getD _ _ j (by rw [List.length_drop]; omega) (by omega), drop_getD]
      have hol : (xorB text (noiseS key ctr nonce k)).length ≤ 4000 := by rw [xorB_length]; omega
      obtain ⟨z, hz⟩ : ∃ z, z = xorB (text.drop p) bk := ⟨_, rfl⟩
      rw [← hz] at hstep hzl hzg
      have HST := Lib.hid hstep
      have HZG := Lib.hid hzg
      have HBL := Lib.hid hbl
      have HCB := HRB.out
      have HCK : Hid (∀ x, Calls Tryd.prog 13 #[.agg (keyC key), .int .u32 (ck.toNat : Int), .agg (keyC nonce)] x (RetV x (.agg (keyC bk)))) := fun x => by rw [← hbk]; exact HRB.out x ck
      generalize xorB text (noiseS key ctr nonce k) = out at *
      clear hpk hstep hzg hz hck hbk hbl HCB
      go_wp2_with (first
        | (with_reducible refine wpList_load_row (o := ⟨some 23, _, _, _, _, _⟩) rfl 26 (.tmp 4) rfl g1 (by with_unfolding_all rfl) 26 (keyC key) (0, 0) (.array 32 5) (by with_unfolding_all exact R1.out) Tryd.underlying26 rfl (Tryd.sizeKey key HK.out) ?_)
        | (with_reducible refine wpList_load_row (o := ⟨some 29, _, _, _, _, _⟩) rfl 27 (.tmp 6) rfl g2 (by with_unfolding_all rfl) 27 (keyC nonce) (0, 0) (.array 12 5) (by with_unfolding_all exact R2.out) Tryd.underlying27 rfl (Tryd.sizeN nonce HN.out) ?_))
      refine (HCK.out _).mono ?_
      rintro e w5 ⟨rfl, b5⟩
      go_wp2_with (first
        | ((with_reducible refine wpList_alloc_row (o := ⟨some 12, _, _, _, _, _⟩) rfl 31 rfl (keyC zero64B) Tryd.zero64B ?_); intro g6 w6 n6)
        | ((with_reducible refine wpList_store_row (o := ⟨none, _, _, _, _, _⟩) rfl 31 (.tmp 12) (.tmp 30) rfl g6 31 _ (keyC bk) (by with_unfolding_all rfl) (by with_unfolding_all rfl) n6.row (keyC_sameN zero64B_length HBL.out) (Tryd.size64B bk HBL.out) (keyC_one bk) ?_); intro w7 p7))
      have b7 := below_size b5 (laid_put n6 p7).1
      have HO7 : Hid (OwnB w7 w.heap.size 5 u10 (out ++ z.take 0)) := by
        have := HO.out.below b7
        rwa [← List.append_nil out] at this
      have R17 := Lib.hid (R1.out.kept b7)
      have R27 := Lib.hid (R2.out.kept b7)
      have R67 := Lib.hid p7.row
      have B7 := Lib.hid (below_size HB.out b7)
      clear b5 n6 p7 b7 HO R1 R2 HB HCK hquo hwk hcv hadd
      go_loopw [10, 13] (fun v j wr => ∃ q : Nat, q ≤ z.length ∧ j = .int .i64 q ∧ OwnB wr w.heap.size 5 v (out ++ z.take q) ∧ RowAt wr g1 26 (keyC key) ∧ RowAt wr g2 27 (keyC nonce) ∧ RowAt wr g6 31 (keyC bk) ∧ Below w.heap.size w wr) (fun _ j _ => 100 - (intOf j).toNat)
      case atStart => exact ⟨0, by omega, rfl, HO7.out, R17.out, R27.out, R67.out, B7.out⟩
      case round =>
        clear HO7 R17 R27 R67 B7
        obtain ⟨q, hq, rfl, hown, hr1, hr2, hr6, hb⟩ := hrel
        have HO := Lib.hid hown
        have R1 := Lib.hid hr1
        have R2 := Lib.hid hr2
        have R6 := Lib.hid hr6
        have HB := Lib.hid hb
        have hsz := hb.size
        clear hown hr1 hr2 hr6 hb
        by_cases hqz : q < z.length
        · have q64 : q < 64 := by omega
          have pql : p + q < text.length := by omega
          obtain ⟨b0, o0, rfl, hca⟩ := H3.out (by omega)
          have hc0 : wr.cell? ⟨b0, o0 + (p + q), none⟩ = some (.int .u8 ((text[p + q]'(by omega)).toNat : Int)) := (HB.out.cell (p := ⟨b0, o0 + (p + q), none⟩) (World.block_lt_of_cell? w _ (hca (p + q) (by omega)))).trans (hca (p + q) (by omega))
          have hc1 := bytesC_cell R6.out q (by rw [HBL.out]; omega)
          have hzt := take_stepB z q hqz
          rw [HZG.out q hqz] at hzt
          have HZT := Lib.hid hzt
          have hto : (text.getD (p + q) 0) = text[p + q]'(by omega) := by simp [List.getD_eq_getElem?_getD, pql]
          have htb : (bk.getD q 0) = bk[q]'(by rw [HBL.out]; omega) := by simp [List.getD_eq_getElem?_getD, HBL.out, q64]
          rw [← hto] at hc0
          rw [← htb] at hc1
          have hlen : (out ++ z.take q).length ≤ 5000 := by rw [List.length_append, List.length_take]; omega
          have HLEN := Lib.hid hlen
          generalize text.getD (p + q) 0 = tb at *
          generalize bk.getD q 0 = kb at *
          have hxb := xor_byte tb kb
          have HXB := Lib.hid hxb
          have e1 : ∀ g t cs, RowAt wr g t cs → t ≠ 5 → some g ≠ u10.ownBlock := fun g t cs h hne => HO.out.other (show wr.heap[g]? = _ from h) hne
          have HE := Lib.hid e1
          clear hca hzt hto htb hlen e1 hxb
          have hpq : ((p : Int) + (q : Int)) < (text.length : Int) := by omega
          have hwpq : IntKind.i64.wrap ((p : Int) + (q : Int)) = (p : Int) + (q : Int) := IntWalk.i64_in _ (by omega)
          have hge : (0 : Int) ≤ (p : Int) + (q : Int) := by omega
          have htn : ((p : Int) + (q : Int)).toNat = p + q := by omega
          go_wp2
          go_region_law (refine step_appG rfl (.tmp 43) (.tmp 54) 34 rfl w.heap.size 5 Tryd.infoB Tryd.underlying34 _ _ (out ++ z.take q) [tb ^^^ kb] rfl rfl (HO.out.alloc _) (Bs.lit1 _ _ _ _ HXB.out) (by have := HLEN.out; rw [List.length_singleton]; omega) (Nat.le_trans hsz ((Below.refl _ wr).alloc (Nat.le_refl _) _).size) ?_; intro v2 w2 hown2 hg2; have r1 := Lib.hid ((R1.out.kept ((Below.refl _ wr).alloc (Nat.le_refl _) _).drew).grown hg2 (HE.out _ _ _ R1.out (by decide))); have r2 := Lib.hid ((R2.out.kept ((Below.refl _ wr).alloc (Nat.le_refl _) _).drew).grown hg2 (HE.out _ _ _ R2.out (by decide))); have r6 := Lib.hid ((R6.out.kept ((Below.refl _ wr).alloc (Nat.le_refl _) _).drew).grown hg2 (HE.out _ _ _ R6.out (by decide))); have bw := Lib.hid ((HB.out.alloc hsz _).drew.grown hg2 (Nat.le_trans hsz ((Below.refl _ wr).alloc (Nat.le_refl _) _).size) HO.out.rows); have ho2 := Lib.hid hown2; clear hown2 hg2)
          all_goals
            go_wp2
            go_roundw
            case rel => exact ⟨q + 1, by omega, by go_num, by rw [HZT.out, ← List.append_assoc]; exact ho2.out, r1.out, r2.out, r6.out, bw.out⟩
            case measure => simp [intOf]; omega
        · have hqz2 : q = z.length := by omega
          have HO2 : Hid (OwnB wr w.heap.size 5 u10 (xorB text (noiseS key ctr nonce (k + 1)))) := by
            have := HO.out
            rwa [hqz2, List.take_length, ← HST.out] at this
          clear HO
          by_cases q64 : q < 64
          · have hd1 : decide ((p : Int) + (q : Int) < (text.length : Int)) = false := by simp; omega
            go_wp2
            go_roundw
            case rel => exact ⟨k + 1, p + 64, by have := HPK.out; omega, by omega, by go_num, HO2.out, R1.out, R2.out, HB.out⟩
            case measure => simp [intOf]; omega
          · have hd1 : decide ((q : Int) < 64) = false := by simp; omega
            go_wp2
            go_roundw
            case rel => exact ⟨k + 1, p + 64, by have := HPK.out; omega, by omega, by go_num, HO2.out, R1.out, R2.out, HB.out⟩
            case measure => simp [intOf]; omega
    · have hfin := mixS_more key ctr nonce text k (by have := HPK.out; omega)
      have HO2 : Hid (OwnB wr w.heap.size 5 u10 (mixS key ctr nonce text)) := by
        have := HO.out
        rwa [hfin] at this
      clear HO hfin
      go_wp2
      go_ret2
      exact ⟨_, rfl, HO2.out.bs, HB.out⟩

theorem refMix_any (w : World) (key nonce text : List UInt8) (ctr : UInt32) (v : Value) (hb : Bs w v text) (hk : key.length = 32) (hn : nonce.length = 12) :
    Calls Tryd.prog 15 #[keyV key, .int .u32 (ctr.toNat : Int), keyV nonce, v] w fun e w' => ∃ u, e = .returned (.tuple #[u, .int .i64 (if text.length ≤ 4000 then 0 else 2)]) ∧ Bs w' u (if text.length ≤ 4000 then mixS key ctr nonce text else []) ∧ Below w.heap.size w w' := by
  by_cases h : text.length ≤ 4000
  · rw [if_pos h, if_pos h]
    exact refMix_ok w key nonce text ctr v hb hk hn h
  · rw [if_neg h, if_neg h]
    exact refMix_long w key nonce text ctr v hb (by omega)
end Go.Proofs.YtplaoofclgpeeaaDoor
