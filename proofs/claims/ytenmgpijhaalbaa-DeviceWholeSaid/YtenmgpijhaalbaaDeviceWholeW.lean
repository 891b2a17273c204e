/-
  The walk of DeviceWhole. Conditions: what a row hands over.
-/
import Derived.Test.YtenmgpijhaalbaaDevK
import Derived.Test.YtenmgpijhaalbaaAppZ
import Derived.Test.YtenmgpijhaalbaaD
namespace Go.Proofs.Ytenmgpijhaalbaa
open Go.RowKit
set_option linter.unusedVariables false
set_option maxRecDepth 20000

theorem Bs.mid2 {w : World} {b off n c : Nat} {l : List UInt8} (h : Bs w (.slice (some ⟨b, off, none⟩) n c) l) (k m c2 : Nat) (hk : k + m ≤ l.length) (hm : m ≤ c2) (hc : c2 ≤ maxLen) : Bs w (.slice (some ⟨b, off + k, none⟩) m c2) ((l.drop k).take m) := by
  obtain ⟨A', c', hv, h1, h2, h3⟩ := h
  injection hv with e1 e2 e3
  have hl : ((l.drop k).take m).length = m := by rw [List.length_take, List.length_drop]; omega
  refine ⟨_, c2, by rw [hl], by rw [hl]; exact hm, hc, fun h0 => ⟨b, off + k, rfl, fun j hj => ?_⟩⟩
  rw [hl] at hj
  obtain ⟨b2, off2, hA, hcc⟩ := h3 (by omega)
  rw [← e1] at hA
  injection hA with hA
  injection hA with q1 q2 _
  subst q1 q2
  have := hcc (k + j) (by omega)
  rw [Nat.add_assoc, this]
  simp
theorem wp_appZ {P : Program} {w : World} {o : Oper} {a : Act} {K : Act → World → Prop} {Q : Exit → Act → World → Prop} (s x : Operand) (t tn : TypeId)
    (ho : o.op = .call { callee := .builtin .append, args := #[s, x], argTypes := #[t, tn] })
    (w0 : World) (e : TypeId) (kn : IntKind) (hinfo : (P.info? e).map (fun i => (i.zero, i.size, i.bytes)) = some (some (.int .u8 0), 1, 1)) (ht : P.underlying t = some (.slice e)) (htn : P.underlying tn = some (.int kn))
    (v : Value) (l : List UInt8) (k : Nat) (hs : a.eval s = v) (hx : a.eval x = .int .i64 (k : Int)) (hown : OwnB w w0.heap.size e v l) (hlen : l.length + k ≤ 1000000000) (hb : Below w0.heap.size w0 w)
    (h : ∀ v' w', OwnB w' w0.heap.size e v' (l ++ List.replicate k 0) → Below w0.heap.size w0 w' → K (a.put o.dst v') w') : o.wp P a w K Q := by
  obtain ⟨v', w', hr, h2, h3⟩ := run_appZV (P := P) w w0.heap.size t tn o.type e kn hinfo ht htn v l hown k hlen hb.size
  unfold Oper.wp execOp
  simp only [ho, resolve, invoke, builtin, Sem.run_bind, Sem.run_pure, Result.andThen_ok, List.map_toArray, List.map_cons, List.map_nil, hs, hx, hr]
  exact h v' w' h2 (hb.grown h3 hb.size hown.rows)
/-- What k of the writes have made of a device that was sure. -/
structure Wh (m : List OpD) (S : List (List UInt8)) (k : Nat) (d : Dev) : Prop where
  sure : d.sure = S
  len : d.pend.length ≤ k
  each : ∀ x ∈ d.pend, ∃ o ∈ m, o.b.length ≤ 256 ∧ o.i = (x.1 : Int) ∧ x.2 = pad o.b
theorem Wh.write {m : List OpD} {S : List (List UInt8)} {k : Nat} {d : Dev} (h : Wh m S k d) {o : OpD} (ho : o ∈ m) : Wh m S (k + 1) (d.write o.i o.b) := by
  refine ⟨?_, Nat.le_trans (Dev.write_pend _ _) (by have := h.len; omega), ?_⟩
  · unfold Dev.write
    split
    · exact h.sure
    · split
      · exact h.sure
      · split
        · exact h.sure
        · exact h.sure
  · unfold Dev.write
    split
    · exact h.each
    · rename_i hi
      split
      · exact h.each
      · rename_i hb
        split
        · intro x hx
          rcases List.mem_append.1 hx with hx | hx
          · exact h.each x hx
          · rw [List.mem_singleton.1 hx]
            have h2 := Dev.has_lt (d := d) (i := o.i) (by simpa using hi)
            exact ⟨o, ho, by omega, by show o.i = ((o.i.toNat : Nat) : Int); omega, rfl⟩
        · exact h.each
theorem Wh.crash {m : List OpD} {S : List (List UInt8)} {k : Nat} {d : Dev} (h : Wh m S k d) (keep : List Bool) (i : Nat) (x y : List UInt8) (hx : (d.crash keep).now[i]? = some x) (hy : S[i]? = some y) : x = y ∨ ∃ j, ∃ hj : j < m.length, m[j].b.length ≤ 256 ∧ m[j].i = (i : Int) ∧ x = pad m[j].b := by
  have he := doneTo_each (fun k => keep.getD k false) d.pend d.sure d.pend.length i
  have hx2 : (doneTo (fun k => keep.getD k false) d.pend d.sure d.pend.length)[i]? = some x := hx
  rw [hx2, h.sure, hy] at he
  rcases he with he | ⟨p, hp, h1, h2⟩
  · exact .inl (Option.some.inj he)
  · obtain ⟨o, ho, h3, h4, h5⟩ := h.each p hp
    obtain ⟨j, hj, rfl⟩ := List.mem_iff_getElem.1 ho
    exact .inr ⟨j, hj, h3, by rw [h4, h1], by rw [Option.some.inj h2, h5]⟩

set_option maxHeartbeats 4000000 in
theorem deviceWhole_walk (w : World) (v0 : Value) (l : List OpD) (hl : Ops w v0 l) (v1 : Value) (m : List OpD) (hm : Ops w v1 m) (v2 : Value) (kp : List Bool) (hk : Bls w v2 kp) :
    Calls Try.prog 5 #[v0, v1, v2] w (RetV w (.bool true)) := by
  have HL := Lib.hid hl
  have HM0 := Lib.hid hm
  have HK := Lib.hid hk
  obtain ⟨mA, mc, rfl, hm1, hm2, _⟩ := hm
  unfold maxLen at hm2
  clear hl hk
  go_enter Try.func5, Try.ntmps5
  go_wp2_with fail
  refine (devAwake_true w).mono ?_
  rintro e w1 ⟨rfl, b1⟩
  have B1 := Lib.hid b1
  have HM := Lib.hid (HM0.out.below b1)
  clear b1 HM0
  go_wp2_with fail
  refine (made_any w1 _ l (HL.out.below B1.out)).mono ?_
  rintro e w2 ⟨g, rfl, d, hd, h8, hp⟩
  have D2 := Lib.hid hd
  clear hd
  by_cases h10 : 10 < m.length
  · have hd4 : decide ((10 : Int) < (m.length : Int)) = true := by simp; omega
    have B2 := Lib.hid (below_size B1.out D2.out.below)
    go_wp2
    go_ret
    exact ⟨rfl, B2.out⟩
  have hd4 : decide ((10 : Int) < (m.length : Int)) = false := by simp; omega
  go_wp2_with fail
  refine (devCrash_of D2.out _ [] (Bls.nil _) (by omega)).mono ?_
  rintro e w3 ⟨rfl, x3⟩
  obtain ⟨S, hS⟩ : ∃ S, S = d.kept [] := ⟨_, rfl⟩
  have hcr : d.crash [] = ⟨S, S, [], false, 0, false⟩ := by rw [hS]; rfl
  rw [hcr] at x3
  have h8S : S.length = 8 := by rw [hS, Dev.kept_length, D2.out.ok.same]; exact h8
  have D3 := Lib.hid (Devs.of1 x3)
  have LS : Hid (S.flatten.length = 2048) := all_2048 x3.ok.now h8S
  have AS : Hid (∀ y ∈ S, y.length = 256) := x3.ok.now
  clear x3 D2 hS hcr
  go_wp2_with fail
  refine (devAll_s D3.out 0 rfl h8S).mono ?_
  rintro e w4 ⟨va, rfl, x4⟩
  have D4 : Hid (Devs w1 w4 [(g, ⟨S, S, [], false, 0, false⟩)] [(va, S.flatten)]) := x4
  have SA := x4.bs_ 0 rfl
  obtain ⟨A, c, rfl, c1, c2, c3⟩ := SA
  clear x4 D3
  rw [LS.out] at D4 c1 ⊢
  obtain ⟨ab, ao, rfl, _⟩ := c3 (by rw [LS.out]; omega)
  unfold maxLen at c2
  clear c3
  go_wp2_with fail
  go_loopw [10] (fun i wr => ∃ j : Nat, j ≤ m.length ∧ i = .int .i64 (j : Int) ∧ ∃ dx : Dev, Wh m S j dx ∧ dx.now.length = 8 ∧ Hid (Devs w1 wr [(g, dx)] [(.slice (some ⟨ab, ao, none⟩) 2048 c, S.flatten)])) (fun i _ => m.length - (intOf i).toNat)
  case atStart => exact ⟨0, by omega, rfl, ⟨S, S, [], false, 0, false⟩, ⟨rfl, Nat.le_refl _, fun x hx => nomatch hx⟩, h8S, D4.out⟩
  case round =>
    obtain ⟨j, hjl, rfl, dx, hw, hx8, HD⟩ := hrel
    clear D4
    have hpl := hw.len
    by_cases hlt : j < m.length
    · have hd1 : decide ((j : Int) < (m.length : Int)) = true := by simp; omega
      have HW := Lib.hid (hw.write (List.getElem_mem hlt))
      obtain ⟨b, off, rfl, vb, vk, ho⟩ := HM.out.at_ j hlt
      have ho2 := ho.below HD.out.below
      have cd := ho2.cell 0 _ rfl
      rw [Nat.add_zero] at cd
      have ci := ho2.cell 1 _ rfl
      have cb := ho2.cell 2 _ rfl
      have ck := ho2.cell 3 _ rfl
      have HO := Lib.hid ho
      have HB := Lib.hid ho2.bs
      have hlo := ho.low
      obtain ⟨bA, bc, rfl, _⟩ := ho.bs
      obtain ⟨kA, kc, rfl, _⟩ := ho.bls
      generalize m[j] = o at *
      obtain ⟨do_, i, bb, keep⟩ := o
      have hjl2 : (j : Int) < (m.length : Int) := by omega
      clear ho ho2
      simp only at *
      go_wp2_with fail
      go_still_tail 11, (by kernel_rfl)
      change wpList _ _ _ _ _ wr.drew
      go_wp2_with fail
      refine (devWrite_s (HD.out.kept (Below.refl _ _).drew) 0 rfl i _ bb HB.out.drew (by omega)).mono ?_
      rintro e w6 ⟨rfl, x6⟩
      have X6 : Hid (Devs w1 w6 [(g, dx.write i bb)] [(.slice (some ⟨ab, ao, none⟩) 2048 c, S.flatten)]) := x6
      clear x6
      go_wp2_with fail
      refine ⟨⟨j + 1, by omega, by congr 1, _, HW.out, (Dev.write_now i bb).trans hx8, X6⟩, ?_⟩
      show m.length - ((j : Int) + 1).toNat < m.length - (j : Int).toNat
      omega
    · have hjm : j = m.length := by omega
      subst hjm
      have hd1 : decide ((m.length : Int) < (m.length : Int)) = false := by simp
      go_wp2_with fail
      refine (devCrash_o HD.out 0 rfl _ kp (HK.out.below B1.out) (by omega)).mono ?_
      rintro e w7 ⟨rfl, x7⟩
      have D7 : Hid (Devs w1 w7 [(g, dx.crash kp)] [(.slice (some ⟨ab, ao, none⟩) 2048 c, S.flatten)]) := x7
      have HC : Hid (∀ (i : Nat) (x y : List UInt8), (dx.crash kp).now[i]? = some x → S[i]? = some y → x = y ∨ ∃ j, ∃ hj : j < m.length, m[j].b.length ≤ 256 ∧ m[j].i = (i : Int) ∧ x = pad m[j].b) := hw.crash kp
      have h8F : (dx.crash kp).now.length = 8 := (x7.ok (i := 0) rfl).same ▸ (by show (dx.kept kp).length = 8; rw [Dev.kept_length, hw.sure]; exact h8S)
      have AF : Hid (∀ y ∈ (dx.crash kp).now, y.length = 256) := (x7.ok (i := 0) rfl).now
      generalize dx.crash kp = dF at D7 HC h8F AF
      clear x7 HD hw hx8 hpl
      go_wp2_with fail
      go_loopw [11] (fun u wr => ∃ i : Nat, i ≤ 8 ∧ u = .int .i64 (i : Int) ∧ Hid (Devs w1 wr [(g, dF)] [(.slice (some ⟨ab, ao, none⟩) 2048 c, S.flatten)])) (fun u _ => 8 - (intOf u).toNat)
      case atStart => exact ⟨0, by omega, rfl, D7.out⟩
      case round =>
        obtain ⟨i, hi8, rfl, HD⟩ := hrel
        clear D7
        by_cases hi : i < 8
        · have hd2 : decide ((i : Int) < 8) = true := by simp; omega
          obtain ⟨x, hx⟩ : ∃ x, dF.now[i]? = some x := ⟨_, List.getElem?_eq_getElem (by omega)⟩
          obtain ⟨y, hy⟩ : ∃ y, S[i]? = some y := ⟨_, List.getElem?_eq_getElem (by omega)⟩
          have HX := Lib.hid (HC.out i x y hx hy)
          have LX : Hid (x.length = 256) := AF.out x (List.mem_of_getElem? hx)
          have HR : Hid (∀ w1', DevOf w1 w1' g dF → Calls Try.prog 25 #[.pointer (some ⟨g, 0, none⟩), .int .i64 (i : Int)] w1' fun e w' => ∃ v, e = .returned (.tuple #[v, .int .i64 0]) ∧ OwnB w' w1'.heap.size 5 v x ∧ Below w1'.heap.size w1' w') := by
            intro w1' h
            have h1 := devRead_of h i
            have hlt : i < dF.now.length := by omega
            rw [Dev.readE_in hlt, Dev.readB_in hlt] at h1
            have e : dF.now[i] = x := by
              have := hx
              rw [List.getElem?_eq_getElem hlt] at this
              exact Option.some.inj this
            rwa [e] at h1
          go_wp2_with fail
          refine (HR.out _ (HD.out.of (i := 0) rfl)).mono ?_
          rintro e w8 ⟨vb, rfl, o8, b8⟩
          have D8 := Lib.hid (HD.out.note o8 b8)
          clear o8 b8 HD HR
          have hm1 : IntKind.i64.wrap (256 * (i : Int)) = 256 * (i : Int) := IntWalk.i64_in _ (by omega)
          have hm2' : IntKind.i64.wrap (256 * (i : Int) + 256) = 256 * (i : Int) + 256 := IntWalk.i64_in _ (by omega)
          have hb0 : (0 : Int) ≤ 256 * (i : Int) := by omega
          have hb1 : 256 * (i : Int) ≤ 256 * (i : Int) + 256 := by omega
          have hb2 : 256 * (i : Int) + 256 ≤ (c : Int) := by omega
          go_wp2_with fail
          have SX := Lib.hid (D8.out.bs_ 0 rfl)
          have SY : Hid (Bs w8 (.slice (some ⟨ab, ao + 256 * i, none⟩) 256 (c - 256 * i)) y) := by
            have h1 := (D8.out.bs_ 1 rfl).mid2 (256 * i) 256 (c - 256 * i) (by rw [LS.out]; omega) (by omega) (by unfold maxLen; omega)
            rw [Nat.mul_comm 256 i, flat_part AS.out hy, Nat.mul_comm i 256] at h1
            exact h1
          refine (same_ret _ _ _ _ _ SX.out SY.out).mono ?_
          rintro e w9 ⟨rfl, b9⟩
          have D9 := Lib.hid (D8.out.kept b9)
          clear b9 D8 SX SY hm1 hm2' hb0 hb1 hb2
          go_wp2_with fail
          go_loopw [14, 15] (fun fv u wr => ∃ (j : Nat) (f : Bool), j ≤ m.length ∧ u = .int .i64 (j : Int) ∧ fv = .bool f ∧ Hid ((x = y ∨ ∃ j', ∃ hj : j' < m.length, j' < j ∧ m[j'].b.length ≤ 256 ∧ m[j'].i = (i : Int) ∧ x = pad m[j'].b) → f = true) ∧ Hid (Devs w1 wr [(g, dF)] [(vb, x), (.slice (some ⟨ab, ao, none⟩) 2048 c, S.flatten)])) (fun _ u _ => m.length - (intOf u).toNat)
          case atStart => exact ⟨0, x == y, by omega, rfl, rfl, fun h => (by
            rcases h with h | ⟨j', _, hj, _⟩
            · rw [h]; exact beq_self_eq_true _
            · omega), D9.out⟩
          case round =>
            obtain ⟨j, f, hjl, rfl, rfl, HF, HD⟩ := hrel
            clear D9
            by_cases hlt : j < m.length
            · have hd1 : decide ((j : Int) < (m.length : Int)) = true := by simp; omega
              have HS : Hid (∀ f' : Bool, (f = true → f' = true) → (m[j].b.length ≤ 256 → m[j].i = (i : Int) → x = pad m[j].b → f' = true) → (x = y ∨ ∃ j', ∃ hj : j' < m.length, j' < j + 1 ∧ m[j'].b.length ≤ 256 ∧ m[j'].i = (i : Int) ∧ x = pad m[j'].b) → f' = true) := by
                intro f' h1 h2 h3
                rcases h3 with h3 | ⟨j', hj', hlj, h4, h5, h6⟩
                · exact h1 (HF.out (.inl h3))
                · by_cases hjj : j' < j
                  · exact h1 (HF.out (.inr ⟨j', hj', hjj, h4, h5, h6⟩))
                  · obtain rfl : j' = j := by omega
                    exact h2 h4 h5 h6
              clear HF
              obtain ⟨b, off, rfl, vb, vk, ho⟩ := HM.out.at_ j hlt
              have ho2 := ho.below HD.out.below
              have cd := ho2.cell 0 _ rfl
              rw [Nat.add_zero] at cd
              have ci := ho2.cell 1 _ rfl
              have cb := ho2.cell 2 _ rfl
              have ck := ho2.cell 3 _ rfl
              have HO := Lib.hid ho
              have HB := Lib.hid ho2.bs
              have hlo := ho.low
              obtain ⟨bA, bc, rfl, _⟩ := ho.bs
              obtain ⟨kA, kc, rfl, _⟩ := ho.bls
              generalize hoe : m[j] = o at *
              obtain ⟨do_, oi, bb, keep⟩ := o
              have HOE := Lib.hid hoe
              clear hoe
              have hjl2 : (j : Int) < (m.length : Int) := by omega
              clear ho ho2
              simp only at *
              by_cases hoi : oi = (i : Int)
              · by_cases hbl : bb.length ≤ 256
                · have hq1 : decide (oi = (i : Int)) = true := decide_eq_true hoi
                  have hq2 : decide ((bb.length : Int) ≤ 256) = true := by simp; omega
                  rcases f with _ | _
                  · have hz : IntKind.i64.wrap (256 - (bb.length : Int)) = ((256 - bb.length : Nat) : Int) := by
                      rw [IntWalk.i64_in _ (by omega)]
                      omega
                    have E : Hid (OwnB (wr.alloc (.cells #[] 5)) wr.heap.size 5 (.slice (some ⟨wr.heap.size, 0, none⟩) 0 0) []) := World.ownsRow_lit (base := wr.heap.size) (e := 5) (size := 1) wr #[] 0 (Nat.le_refl _) (by simp [maxLen]) rfl
                    have NB := Lib.hid (new_below wr (.cells #[] 5))
                    go_wp2_with (first
                      | ((with_reducible refine wpList_wanted (o := ⟨some 107, _, _, _, _, _⟩) (by go_simp) ?_); intro KK hKK; (with_reducible refine wp_appB _ (.tmp 105) (.tmp 106) 31 rfl wr 5 (by kernel_rfl) Try.underlying31 (.slice (some ⟨wr.heap.size, 0, none⟩) 0 0) (.slice bA bb.length bc) [] bb (by with_unfolding_all rfl) (by with_unfolding_all rfl) E.out (by with_unfolding_all exact HB.out.below NB.out) (by simp; omega) NB.out ?_); intro v6 w6 own6 b6; refine hKK _ _ ?_; clear hKK KK)
                      | ((with_reducible refine wpList_wanted (o := ⟨some 111, _, _, _, _, _⟩) (by go_simp) ?_); intro KK hKK; (with_reducible refine wp_appZ (.tmp 107) (.tmp 110) 31 3 rfl wr 5 .i64 (by kernel_rfl) Try.underlying31 Try.underlying3 v6 ([] ++ bb) (256 - bb.length) (by with_unfolding_all rfl) (by with_unfolding_all rfl) own6 (by simp; omega) b6 ?_); intro v7 w7 own7 b7; refine hKK _ _ ?_; clear hKK KK))
                    have D7 := Lib.hid (HD.out.kept b7)
                    have S7 : Hid (Bs w7 v7 (pad bb)) := own7.bs
                    clear own6 b6 own7 b7 E NB HD
                    refine (same_ret _ _ _ x (pad bb) (D7.out.bs_ 0 rfl) S7.out).mono ?_
                    rintro e w8' ⟨rfl, b8'⟩
                    have D9 := Lib.hid (D7.out.kept b8')
                    clear b8' D7 S7
                    go_wp2_with fail
                    refine ⟨⟨j + 1, x == pad bb, by omega, by congr 1, rfl, HS.out _ (fun h => nomatch h) fun _ _ h => (by rw [h]; exact beq_self_eq_true _), D9⟩, ?_⟩
                    show m.length - ((j : Int) + 1).toNat < m.length - (j : Int).toNat
                    omega
                  · go_wp2_with fail
                    refine ⟨⟨j + 1, true, by omega, by congr 1, rfl, fun _ => rfl, HD⟩, ?_⟩
                    show m.length - ((j : Int) + 1).toNat < m.length - (j : Int).toNat
                    omega
                · have hq1 : decide (oi = (i : Int)) = true := decide_eq_true hoi
                  have hq2 : decide ((bb.length : Int) ≤ 256) = false := by simp; omega
                  go_wp2_with fail
                  refine ⟨⟨j + 1, f, by omega, by congr 1, rfl, HS.out f id fun h => absurd h hbl, HD⟩, ?_⟩
                  show m.length - ((j : Int) + 1).toNat < m.length - (j : Int).toNat
                  omega
              · have hq1 : decide (oi = (i : Int)) = false := decide_eq_false hoi
                go_wp2_with fail
                refine ⟨⟨j + 1, f, by omega, by congr 1, rfl, HS.out f id fun _ h => absurd h hoi, HD⟩, ?_⟩
                show m.length - ((j : Int) + 1).toNat < m.length - (j : Int).toNat
                omega
            · have hd1 : decide ((j : Int) < (m.length : Int)) = false := by simp; omega
              have hft : f = true := HF.out (by
                rcases HX.out with h | ⟨j', hj', h4, h5, h6⟩
                · exact .inl h
                · exact .inr ⟨j', hj', by omega, h4, h5, h6⟩)
              subst hft
              go_wp2_with fail
              refine ⟨⟨i + 1, by omega, by congr 1, HD.out.less⟩, ?_⟩
              show 8 - ((i : Int) + 1).toNat < 8 - (i : Int).toNat
              omega
        · have hi2 : i = 8 := by omega
          subst hi2
          have B9 := Lib.hid (below_size B1.out HD.out.below)
          go_wp2
          go_ret
          exact ⟨rfl, B9.out⟩
end Go.Proofs.Ytenmgpijhaalbaa
