/-
  Contracts of the laws' own helpers: all that is read of a device; a device behind calls. Conditions: as each theorem names them.
-/
import Derived.Test.YtenmgpijhaalbaaDevH
namespace Go.Proofs.Ytenmgpijhaalbaa
open Go.RowKit
set_option linter.unusedVariables false
set_option maxRecDepth 20000

theorem Dev.readE_in {d : Dev} {k : Nat} (h : k < d.now.length) : d.readE k = 0 := by
  unfold Dev.readE Dev.has
  rw [decide_eq_true (by omega), decide_eq_true (by omega)]
  rfl
theorem Dev.readB_in {d : Dev} {k : Nat} (h : k < d.now.length) : d.readB k = d.now[k] := by
  unfold Dev.readB Dev.has
  rw [decide_eq_true (by omega), decide_eq_true (by omega)]
  simp [h]
set_option maxHeartbeats 1000000 in
theorem devAll_any (w0 w : World) (g : Nat) (d : Dev) (h : DevOf w0 w g d) (h8 : d.now.length = 8) :
    Calls Try.prog 23 #[.pointer (some ⟨g, 0, none⟩)] w fun e w' => ∃ v, e = .returned v ∧ OwnB w' w.heap.size 5 v d.now.flatten ∧ Below w.heap.size w w' := by
  have HH := Lib.hid h
  have HR : Hid (∀ (k : Nat) w1, DevOf w0 w1 g d → Calls Try.prog 25 #[.pointer (some ⟨g, 0, none⟩), .int .i64 (k : Int)] w1 fun e w' => ∃ v, e = .returned (.tuple #[v, .int .i64 (d.readE k)]) ∧ OwnB w' w1.heap.size 5 v (d.readB k) ∧ Below w1.heap.size w1 w') := fun k w1 h => devRead_of h k
  have HL : Hid (∀ l ∈ d.now, l.length = 256) := h.ok.now
  clear h
  go_enter Try.func23, Try.ntmps23
  go_wp2
  go_loopw [3, 4] (fun v i wr => ∃ k : Nat, k ≤ 8 ∧ i = .int .i64 (k : Int) ∧ Hid (OwnB wr w.heap.size 5 v (d.now.take k).flatten) ∧ Hid (Below w.heap.size w wr)) (fun _ i _ => 8 - (intOf i).toNat)
  case atStart => exact ⟨0, by omega, rfl, OwnB.nil _ _ _, Below.refl _ _⟩
  case round =>
    obtain ⟨k, hk, rfl, HO, HB⟩ := hrel
    by_cases hlt : k < 8
    · have hk8 : k < d.now.length := by omega
      have HE : Hid (d.readE k = 0) := Dev.readE_in hk8
      have HX : Hid (d.readB k = d.now[k]) := Dev.readB_in hk8
      have HT : Hid ((d.now.take (k + 1)).flatten = (d.now.take k).flatten ++ d.now[k]) := by
        show _ = _
        rw [List.take_succ_eq_append_getElem hk8, List.flatten_append]
        simp
      have hlx : d.now[k].length = 256 := HL.out _ (List.getElem_mem hk8)
      have hlo : (d.now.take k).flatten.length ≤ 2048 := by
        rw [flat_length (n := 256) fun l hl => HL.out l (List.mem_of_mem_take hl), List.length_take]
        omega
      generalize d.now[k] = x at HX HT hlx
      generalize (d.now.take k).flatten = ys at HO HT hlo
      have hd : decide ((k : Int) < 8) = true := by simp; omega
      go_wp2_with fail
      refine (HR.out k wr (HH.out.kept HB.out)).mono ?_
      rintro e w1 ⟨v1, rfl, o1, b1⟩
      rw [HX.out] at o1
      have B1 := Lib.hid (below_size HB.out b1)
      have O1 := Lib.hid o1.bs
      have O0 := Lib.hid (HO.out.below b1)
      clear o1 b1 HO HB
      go_wp2_with (at_builtin; refine wpList_appB _ (o := ⟨some 19, _, _, _, _, _⟩) rfl (.tmp 17) (.tmp 18) 31 rfl w 5 (by kernel_rfl) Try.underlying31 _ _ ys x rfl rfl O0.out O1.out (by omega) B1.out ?_; intro v6 w6 own6 b6)
      refine ⟨⟨k + 1, by omega, by congr 1, ?_, b6⟩, ?_⟩
      · rw [HT.out]; exact own6
      · show 8 - ((k : Int) + 1).toNat < 8 - (k : Int).toNat
        omega
    · have hk2 : k = 8 := by omega
      subst hk2
      have HT : Hid ((d.now.take 8).flatten = d.now.flatten) := by show _ = _; rw [List.take_of_length_le (by omega)]
      rw [HT.out] at HO
      go_wp2
      go_ret
      exact ⟨_, rfl, HO.out, HB.out⟩
theorem OpAt.cell {w : World} {b off : Nat} {o : OpD} {vb vk : Value} (h : OpAt w b off o vb vk) (i : Nat) (v : Value) (hv : (opC o vb vk)[i]? = some v) : w.cell? ⟨b, off + i, none⟩ = some v := h.at_ i v hv
/-- A device of eight sectors, behind whatever was done. -/
def Made (w0 w : World) (g n : Nat) : Prop := ∃ d, DevOf w0 w g d ∧ d.now.length = 8 ∧ d.pend.length ≤ n
set_option maxHeartbeats 4000000 in
theorem made_any (w : World) (v : Value) (l : List OpD) (h : Ops w v l) :
    Calls Try.prog 22 #[v] w fun e w' => ∃ g, e = .returned (.pointer (some ⟨g, 0, none⟩)) ∧ Made w w' g 40 := by
  have HH := Lib.hid h
  obtain ⟨A, c, rfl, h1, h2, _⟩ := h
  unfold maxLen at h2
  have HN : Hid (∀ w, Calls Try.prog 9 #[.int .i64 8] w fun e w' => ∃ g, e = .returned (.tuple #[.pointer (some ⟨g, 0, none⟩), .int .i64 0]) ∧ DevOf w w' g (Dev.new 8)) := fun w => devNew_of w 8 (by omega) (by omega)
  go_enter Try.func22, Try.ntmps22
  go_wp2_with fail
  refine (HN.out w).mono ?_
  rintro e w1 ⟨g, rfl, hd⟩
  have HD := Lib.hid hd
  clear hd
  go_wp2_with fail
  go_loopw [5] (fun i wr => ∃ j : Nat, j ≤ 40 ∧ j ≤ l.length ∧ i = .int .i64 (j : Int) ∧ Hid (Made w wr g j)) (fun i _ => 40 - (intOf i).toNat)
  case atStart => exact ⟨0, by omega, by omega, rfl, _, HD.out, rfl, Nat.le_refl _⟩
  case round =>
    obtain ⟨j, hj, hjl, rfl, HM⟩ := hrel
    by_cases hlt : j < l.length
    · by_cases h40 : j < 40
      · obtain ⟨b, off, rfl, vb, vk, ho⟩ := HH.out.at_ j hlt
        obtain ⟨d, hd, h8, hp⟩ := HM.out
        have HD := Lib.hid hd
        have ho2 := ho.below hd.below
        have cd := ho2.cell 0 _ rfl
        rw [Nat.add_zero] at cd
        have ci := ho2.cell 1 _ rfl
        have cb := ho2.cell 2 _ rfl
        have ck := ho2.cell 3 _ rfl
        have HO := Lib.hid ho
        have HB := Lib.hid ho2.bs
        have hlo := ho.low
        obtain ⟨bA, bc, rfl, _⟩ := ho.bs
        obtain ⟨kA, kc, rfl, _⟩ := ho.bls
        generalize l[j] = o at *
        obtain ⟨do_, i, bb, keep⟩ := o
        have hd1 : decide ((j : Int) < (l.length : Int)) = true := by simp; omega
        have hd2 : decide ((j : Int) < 40) = true := by simp; omega
        have hjl2 : (j : Int) < (l.length : Int) := by omega
        clear ho ho2 hd
        simp only at *
        by_cases e1 : do_ = 1
        · subst e1
          go_wp2_with fail
          go_still_tail 11, (by kernel_rfl)
          change wpList _ _ _ _ _ wr.drew
          go_wp2_with fail
          refine (devWrite_of (HD.out.kept (Below.refl _ _).drew) i _ bb HB.out.drew (by omega)).mono ?_
          rintro e w2 ⟨rfl, x2⟩
          have HM2 : Hid (Made w w2 g (j + 1)) := ⟨_, x2, (Dev.write_now i bb).trans h8, Nat.le_trans (Dev.write_pend i bb) (by omega)⟩
          clear x2
          go_wp2_with fail
          refine ⟨⟨j + 1, by omega, by omega, by congr 1, HM2⟩, ?_⟩
          show 40 - ((j : Int) + 1).toNat < 40 - (j : Int).toNat
          omega
        · have e1' : decide (do_ = 1) = false := decide_eq_false e1
          by_cases e2 : do_ = 2
          · subst e2
            go_wp2_with fail
            refine (devSync_of HD.out).mono ?_
            rintro e w2 ⟨rfl, x2⟩
            have HM2 : Hid (Made w w2 g (j + 1)) := ⟨_, x2, Dev.sync_now.trans h8, Nat.le_trans Dev.sync_pend (by omega)⟩
            clear x2
            go_wp2_with fail
            refine ⟨⟨j + 1, by omega, by omega, by congr 1, HM2⟩, ?_⟩
            show 40 - ((j : Int) + 1).toNat < 40 - (j : Int).toNat
            omega
          · have e2' : decide (do_ = 2) = false := decide_eq_false e2
            by_cases e3 : do_ = 3
            · subst e3
              go_wp2_with fail
              refine (devCrash_of HD.out _ keep HO.out.bls (by omega)).mono ?_
              rintro e w2 ⟨rfl, x2⟩
              have HM2 : Hid (Made w w2 g (j + 1)) := ⟨_, x2, (HD.out.ok.crash_now keep).trans h8, Nat.zero_le _⟩
              clear x2
              go_wp2_with fail
              refine ⟨⟨j + 1, by omega, by omega, by congr 1, HM2⟩, ?_⟩
              show 40 - ((j : Int) + 1).toNat < 40 - (j : Int).toNat
              omega
            · have e3' : decide (do_ = 3) = false := decide_eq_false e3
              by_cases e4 : do_ = 4
              · subst e4
                go_wp2_with fail
                refine (devFuse_of HD.out i hlo).mono ?_
                rintro e w2 ⟨rfl, x2⟩
                have HM2 : Hid (Made w w2 g (j + 1)) := ⟨_, x2, h8, by show d.pend.length ≤ j + 1; omega⟩
                clear x2
                go_wp2_with fail
                refine ⟨⟨j + 1, by omega, by omega, by congr 1, HM2⟩, ?_⟩
                show 40 - ((j : Int) + 1).toNat < 40 - (j : Int).toNat
                omega
              · have e4' : decide (do_ = 4) = false := decide_eq_false e4
                go_wp2_with fail
                refine ⟨⟨j + 1, by omega, by omega, by congr 1, ⟨d, HD.out, h8, by omega⟩⟩, ?_⟩
                show 40 - ((j : Int) + 1).toNat < 40 - (j : Int).toNat
                omega
      · have hd1 : decide ((j : Int) < (l.length : Int)) = true := by simp; omega
        have hd2 : decide ((j : Int) < 40) = false := by simp; omega
        obtain ⟨d, hd, h8, hp⟩ := HM.out
        go_wp2
        go_ret
        exact ⟨g, rfl, d, hd, h8, by omega⟩
    · have hd1 : decide ((j : Int) < (l.length : Int)) = false := by simp; omega
      obtain ⟨d, hd, h8, hp⟩ := HM.out
      go_wp2
      go_ret
      exact ⟨g, rfl, d, hd, h8, by omega⟩
end Go.Proofs.Ytenmgpijhaalbaa
