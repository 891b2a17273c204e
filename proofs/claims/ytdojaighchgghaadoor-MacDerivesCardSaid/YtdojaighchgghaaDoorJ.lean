/-
  Contract of octets.Join: lists of lists of bytes. Conditions: as each theorem names them.
-/
import Derived.Test.YtdojaighchgghaaDoorB
namespace Go.Proofs.YtdojaighchgghaaDoor
open Go.RowKit
set_option linter.unusedVariables false
set_option maxRecDepth 20000

/-- The slice value v reads as the lists ls. -/
def Bss (w : World) (v : Value) (ls : List (List UInt8)) : Prop :=
  ∃ A c, v = .slice A ls.length c ∧ ls.length ≤ c ∧ c ≤ maxLen ∧
    (0 < ls.length → ∃ b off, A = some ⟨b, off, none⟩ ∧ ∀ j (h : j < ls.length), ∃ u, w.cell? ⟨b, off + j, none⟩ = some u ∧ Bs w u ls[j])

/-- A result that is bytes in a row of the call's own. -/
def RetOwn (w : World) (t : TypeId) (l : List UInt8) (e : Ending) (w' : World) : Prop := ∃ v, e = .returned v ∧ OwnB w' w.heap.size t v l ∧ Below w.heap.size w w'
theorem Bss.keep {w w' : World} {v : Value} {ls : List (List UInt8)} (h : Bss w v ls) (hb : Below w.heap.size w w') : Bss w' v ls := by
  obtain ⟨A, c, hv, h1, h2, h3⟩ := h
  refine ⟨A, c, hv, h1, h2, fun hl => ?_⟩
  obtain ⟨b, off, hA, hc⟩ := h3 hl
  refine ⟨b, off, hA, fun j hj => ?_⟩
  obtain ⟨u, hu, hbu⟩ := hc j hj
  exact ⟨u, (hb.cell (World.block_lt_of_cell? w _ hu)).trans hu, hbu.below hb⟩

/-- A list of lists that a call's own arguments have just made. -/
theorem Bss.lit (w : World) (e : TypeId) (vs : List Value) (ls : List (List UInt8)) (hl : vs.length = ls.length) (hm : ls.length ≤ maxLen) (h : ∀ j (h1 : j < vs.length) (h2 : j < ls.length), Bs w vs[j] ls[j]) :
    Bss (w.alloc (.cells vs.toArray e)) (.slice (some ⟨w.heap.size, 0, none⟩) ls.length ls.length) ls := by
  refine ⟨_, _, rfl, Nat.le_refl _, hm, fun _ => ⟨w.heap.size, 0, rfl, fun j hj => ⟨vs[j]'(by omega), ?_, (h j (by omega) hj).alloc _⟩⟩⟩
  rw [Nat.zero_add, World.cell?_alloc_at _ _ _ _ rfl]
  simp [hl, hj]

theorem Bs.cut {w : World} {A : Option Addr} {n c : Nat} {l : List UInt8} (h : Bs w (.slice A n c) l) (k : Nat) (hk : k ≤ l.length) :
    Bs w (.slice (if c = k then A else Option.map (fun x => x.add k) A) (l.length - k) (c - k)) (l.drop k) := by
  obtain ⟨A', c', hv, h1, h2, h3⟩ := h
  injection hv with e1 e2 e3
  subst e1 e2 e3
  have hl : (l.drop k).length = l.length - k := List.length_drop
  refine ⟨_, c - k, by rw [hl], by rw [hl]; omega, by omega, fun h0 => ?_⟩
  rw [hl] at h0
  obtain ⟨b, off, rfl, hc⟩ := h3 (by omega)
  have hadd : (⟨b, off, none⟩ : Addr).add k = ⟨b, off + k, none⟩ := by unfold Addr.add; split <;> simp_all
  refine ⟨b, off + k, by rw [if_neg (by omega)]; simp [hadd], fun j hj => ?_⟩
  rw [hl] at hj
  rw [Nat.add_assoc, hc (k + j) (by omega), List.getElem_drop]
theorem Bss.drew {w : World} {v : Value} {ls : List (List UInt8)} (h : Bss w v ls) : Bss w.drew v ls := h
theorem Bss.two (w : World) (e : TypeId) (u v : Value) (a b : List UInt8) (ha : Bs w u a) (hb : Bs w v b) :
    Bss (w.alloc (.cells #[u, v] e)) (.slice (some ⟨w.heap.size, 0, none⟩) 2 2) [a, b] :=
  Bss.lit w e [u, v] [a, b] rfl (by simp [maxLen]) (fun j h1 h2 => by
    match j, h1 with
    | 0, _ => exact ha
    | 1, _ => exact hb)
theorem Bss.three (w : World) (e : TypeId) (u v x : Value) (a b c : List UInt8) (ha : Bs w u a) (hb : Bs w v b) (hc : Bs w x c) :
    Bss (w.alloc (.cells #[u, v, x] e)) (.slice (some ⟨w.heap.size, 0, none⟩) 3 3) [a, b, c] :=
  Bss.lit w e [u, v, x] [a, b, c] rfl (by simp [maxLen]) (fun j h1 h2 => by
    match j, h1 with
    | 0, _ => exact ha
    | 1, _ => exact hb
    | 2, _ => exact hc)

theorem flat_take (ls : List (List UInt8)) (k : Nat) (h : k < ls.length) : (ls.take (k + 1)).flatten = (ls.take k).flatten ++ ls[k] := by
  rw [List.take_succ_eq_append_getElem h, List.flatten_append]
  simp
theorem flat_le (ls : List (List UInt8)) (k : Nat) : (ls.take k).flatten.length ≤ ls.flatten.length := by
  have h : ls.flatten = (ls.take k).flatten ++ (ls.drop k).flatten := by rw [← List.flatten_append, List.take_append_drop]
  rw [h, List.length_append]
  omega

set_option maxHeartbeats 1000000 in
theorem Join_own (w : World) (v : Value) (ls : List (List UInt8)) (h : Bss w v ls) (hl : ls.flatten.length ≤ 1000000000000) (hn : ls.length ≤ 1000000000000) :
    Calls Tryd.prog 44 #[v] w (RetOwn w 5 ls.flatten) := by
  obtain ⟨i0, hi, hz0, hz1, hz2⟩ := info_parts Tryd.infoB
  obtain ⟨A, c, rfl, h1, h2, h3⟩ := h
  unfold maxLen at h2
  go_enter Tryd.func44, Tryd.ntmps44
  go_wp2
  go_loop [3, 11] (fun n i => ∃ k q : Nat, k ≤ ls.length ∧ i = .int .i64 k ∧ q = (ls.take k).flatten.length ∧ n = .int .i64 (q : Int)) (fun _ i => ls.length - (intOf i).toNat)
  case atStart => exact ⟨0, 0, Nat.zero_le _, rfl, by simp, rfl⟩
  case round =>
    obtain ⟨k, q, hk, rfl, hq, rfl⟩ := hrel
    have hqb : q ≤ ls.flatten.length := by rw [hq]; exact flat_le ls k
    have HQ := Lib.hid hq
    clear hq
    by_cases hlt : k < ls.length
    · obtain ⟨b0, o0, rfl, hc⟩ := h3 (by omega)
      obtain ⟨u, hcell, ⟨Ak, ck, rfl, hk1, hk2, hk3⟩⟩ := hc k hlt
      have HT : Hid ((ls.take (k + 1)).flatten.length = q + ls[k].length) := by
        show _ = _
        rw [flat_take ls k hlt, List.length_append, ← HQ.out]
      have hb2 : q + ls[k].length ≤ ls.flatten.length := by rw [← HT.out]; exact flat_le ls (k + 1)
      clear hc h3 hk3
      go_wp2
      go_round
      case rel => exact ⟨k + 1, q + ls[k].length, by omega, by go_num, HT.out.symm, by go_num⟩
      case measure => simp [intOf]; omega
    · have hfin : q = ls.flatten.length := by have := HQ.out; rwa [List.take_of_length_le (by omega)] at this
      have HF := Lib.hid hfin
      have hq2 : ls.flatten.length ≤ q := by omega
      clear hfin
      go_wp2_with ((with_reducible refine wpList_make_own _ rfl (.const (.int .i64 0)) (.tmp 20) 27 rfl w.heap.size 5 i0 (.int .u8 0) 1 Tryd.underlying27 hi hz0 hz1 .i64 .i64 (q : Int) q (by with_unfolding_all rfl) (by with_unfolding_all rfl) rfl (by rw [hz2]; omega) (by unfold maxLen; omega) (Nat.le_refl _) ?_); intro w1 hown hgrow)
      have hown0 : OwnB w1 w.heap.size 5 (.slice (some ⟨w.heap.size, 0, none⟩) 0 q) (ls.take 0).flatten := hown
      have hbel : Below w.heap.size w w1 := (Below.refl _ _).grown hgrow (Nat.le_refl _) (fun k h => by cases h)
      clear hown hgrow
      go_loopw [6, 24] (fun v i wr => ∃ k : Nat, k ≤ ls.length ∧ i = .int .i64 k ∧ OwnB wr w.heap.size 5 v (ls.take k).flatten ∧ Below w.heap.size w wr) (fun _ i _ => ls.length - (intOf i).toNat)
      case atStart => exact ⟨0, Nat.zero_le _, rfl, hown0, hbel⟩
      case round =>
        clear hown0 hbel HQ hk
        obtain ⟨j, hj, rfl, hown, hb⟩ := hrel
        have HO := Lib.hid hown
        have HB := Lib.hid hb
        clear hown hb
        by_cases hlt2 : j < ls.length
        · obtain ⟨b0, o0, rfl, hc⟩ := h3 (by omega)
          obtain ⟨u, hcell, hu⟩ := hc j hlt2
          have hcell2 : wr.cell? ⟨b0, o0 + j, none⟩ = some u := (HB.out.cell (p := ⟨b0, o0 + j, none⟩) (World.block_lt_of_cell? w _ hcell)).trans hcell
          have HU := Lib.hid (hu.below HB.out)
          have HT := Lib.hid (flat_take ls j hlt2)
          have HLn : Hid ((ls.take j).flatten.length + ls[j].length ≤ 140737488355328) := by
            show _ ≤ _
            have := flat_le ls (j + 1)
            rw [flat_take ls j hlt2, List.length_append] at this
            omega
          clear hc h3 hcell hu
          go_wp2_with (at_builtin; refine wpList_appB _ rfl (.tmp 28) (.tmp 29) 27 rfl w 5 Tryd.infoB Tryd.underlying27 _ _ (ls.take j).flatten ls[j] rfl rfl HO.out HU.out HLn.out HB.out ?_; intro v2 w2 hown2 hb2)
          go_roundw
          case rel => exact ⟨j + 1, by omega, by go_num, by rw [HT.out]; exact hown2, hb2⟩
          case measure => simp [intOf]; omega
        · have HO2 : Hid (OwnB wr w.heap.size 5 u6 ls.flatten) := by
            have := HO.out; rwa [List.take_of_length_le (by omega)] at this
          go_wp2
          go_ret
          exact ⟨_, rfl, HO2.out, HB.out⟩
theorem Join_any (w : World) (v : Value) (ls : List (List UInt8)) (h : Bss w v ls) (hl : ls.flatten.length ≤ 1000000000000) (hn : ls.length ≤ 1000000000000) :
    Calls Tryd.prog 44 #[v] w (RetBs w ls.flatten) :=
  (Join_own w v ls h hl hn).mono fun _ _ ⟨u, he, ho, hb⟩ => ⟨u, he, ho.bs, hb⟩
end Go.Proofs.YtdojaighchgghaaDoor
