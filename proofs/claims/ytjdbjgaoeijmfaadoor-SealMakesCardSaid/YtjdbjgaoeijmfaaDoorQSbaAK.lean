/-
  Texts that belong together, merged: MacJ, MacM. Conditions: as each theorem names them.
-/
import Derived.Test.YtjdbjgaoeijmfaaDoorQSbaAJ
import Derived.Test.YtjdbjgaoeijmfaaDoorQSbaAC
import Derived.Test.YtjdbjgaoeijmfaaDoorQSbaAH
import Derived.Lib.AtoiErrMem
import Derived.Deep.DeepMust
import Derived.Test.YtjdbjgaoeijmfaaDoorQSbaAI
import Derived.Test.YtjdbjgaoeijmfaaDoorQSbaAG
import Derived.Test.YtjdbjgaoeijmfaaDoorQSbaAE
import Derived.Test.YtjdbjgaoeijmfaaDoorQSbaAF
section
namespace Go.Proofs.YtjdbjgaoeijmfaaDoor
open Go.RowKit
set_option linter.unusedVariables false
set_option maxRecDepth 20000

def highB4 (n : Nat) : List UInt8 := (lowB n 4).reverse
def partsL (lab : List UInt8) (ls : List (List UInt8)) : List (List UInt8) := [[UInt8.ofNat lab.length], lab] ++ ls.flatMap fun b => [highB4 b.length, b]
def infoB (lab : List UInt8) (ls : List (List UInt8)) : List UInt8 := (partsL (lab.take 255) ls).flatten
theorem partsL_next (lab : List UInt8) (ls : List (List UInt8)) (k : Nat) (h : k < ls.length) : partsL lab (ls.take (k + 1)) = partsL lab (ls.take k) ++ [highB4 ls[k].length, ls[k]] := by
  unfold partsL
  rw [List.take_succ_eq_append_getElem h, List.flatMap_append]
  simp
theorem partsL_length (lab : List UInt8) (ls : List (List UInt8)) : (partsL lab ls).length = 2 + 2 * ls.length := by
  unfold partsL
  rw [List.length_append]
  have : ∀ ls : List (List UInt8), (ls.flatMap fun b => [highB4 b.length, b]).length = 2 * ls.length := by
    intro ls
    induction ls with
    | nil => rfl
    | cons a l ih => rw [List.flatMap_cons, List.length_append, ih, List.length_cons]; simp; omega
  rw [this]
  rfl
theorem partsL_flat (lab : List UInt8) (ls : List (List UInt8)) (hl : ∀ b ∈ ls, b.length ≤ 1000) : (partsL lab ls).flatten.length ≤ 1 + lab.length + 1004 * ls.length := by
  have : ∀ ls : List (List UInt8), (∀ b ∈ ls, b.length ≤ 1000) → (ls.flatMap fun b => [highB4 b.length, b]).flatten.length ≤ 1004 * ls.length := by
    intro ls
    induction ls with
    | nil => intro _; simp
    | cons a l ih =>
      intro h
      have h1 := h a (by simp)
      have h2 := ih fun b hb => h b (by simp [hb])
      rw [List.flatMap_cons, List.flatten_append, List.length_append, List.length_cons]
      have : ([highB4 a.length, a] : List (List UInt8)).flatten.length = 4 + a.length := by simp [highB4, lowB_length]
      omega
  have := this ls hl
  unfold partsL
  rw [List.flatten_append, List.length_append]
  have e : ([[UInt8.ofNat lab.length], lab] : List (List UInt8)).flatten.length = 1 + lab.length := by simp; omega
  omega

/-- A list of bytes whose row is none of lists that the call itself has laid (from base on). -/
def El (base : Nat) (w : World) (u : Value) (l : List UInt8) : Prop :=
  Bs w u l ∧ (0 < l.length → ∀ b off n c, u = .slice (some ⟨b, off, none⟩) n c → b < base ∨ ∃ cs ty fr, w.heap[b]? = some (.cells cs ty fr) ∧ ty ≠ 24)
theorem El.old {w w' : World} {u : Value} {l : List UInt8} {base : Nat} (h : Bs w u l) (hb : Below w.heap.size w w') (hs : w.heap.size ≤ base) : El base w' u l := by
  refine ⟨h.below hb, fun hl b off n c hu => .inl ?_⟩
  obtain ⟨A, c', hv, _, _, h3⟩ := h
  obtain ⟨b', off', hA, hc⟩ := h3 hl
  rw [hu] at hv
  injection hv with e1 _ _
  rw [hA] at e1
  injection e1 with e1
  injection e1 with e1 _ _
  have := World.block_lt_of_cell? w _ (hc 0 hl)
  simp only at this
  omega
theorem El.own {w : World} {u : Value} {l : List UInt8} {base base' : Nat} (h : OwnB w base' 5 u l) : El base w u l := by
  refine ⟨h.bs, fun hl b off n c hu => .inr ?_⟩
  obtain ⟨cur, hc⟩ := h.spot (k := b) (by rw [hu]; simp [Value.ownBlock])
  exact ⟨cur, _, _, hc, by decide⟩
theorem El.below {w w' : World} {u : Value} {l : List UInt8} {base : Nat} (h : El base w u l) (hb : Below w.heap.size w w') : El base w' u l := by
  refine ⟨h.1.below hb, fun hl b off n c hu => ?_⟩
  rcases h.2 hl b off n c hu with h1 | ⟨cs, ty, fr, h1, h2⟩
  · exact .inl h1
  · exact .inr ⟨cs, ty, fr, (hb.block b (Array.getElem?_eq_some_iff.1 h1).1).trans h1, h2⟩
theorem El.grown {w w' : World} {u v : Value} {l : List UInt8} {base n : Nat} {xs : List Value} (h : El base w u l) (ho : w.ownsRow base 24 1 v n xs) (hg : w.grownBy w' v.ownBlock) : El base w' u l := by
  have spot : ∀ k, v.ownBlock = some k → base ≤ k ∧ ∃ cur, w.heap[k]? = some (.cells cur 24 (0, 0)) := fun k hk => by
    rcases ho.2 with ⟨rfl, _⟩ | ⟨g, cap, cur, rfl, hb, hc, _⟩
    · cases hk
    · obtain rfl : g = k := by simpa [Value.ownBlock] using hk
      exact ⟨hb, cur, hc⟩
  have far : ∀ b, (b < base ∨ ∃ cs ty fr, w.heap[b]? = some (.cells cs ty fr) ∧ ty ≠ 24) → some b ≠ v.ownBlock := fun b hb e => by
    obtain ⟨h1, cur, h2⟩ := spot b e.symm
    rcases hb with hb | ⟨cs, ty, fr, h3, h4⟩
    · omega
    · rw [h2] at h3
      injection h3 with h3
      injection h3 with _ h3 _
      exact h4 h3.symm
  obtain ⟨⟨A, c, hv, h1, h2, h3⟩, hk⟩ := h
  refine ⟨⟨A, c, hv, h1, h2, fun hl => ?_⟩, fun hl b off n c hu => ?_⟩
  · obtain ⟨b, off, hA, hc⟩ := h3 hl
    refine ⟨b, off, hA, fun j hj => ?_⟩
    have hlt := World.block_lt_of_cell? w _ (hc j hj)
    have e := hg.block b hlt (far b (hk hl b off l.length c (by rw [hv, hA])))
    rw [← hc j hj]
    simp only [World.cell?, e]
  · rcases hk hl b off n c hu with h4 | ⟨cs, ty, fr, h4, h5⟩
    · exact .inl h4
    · exact .inr ⟨cs, ty, fr, (hg.block b (Array.getElem?_eq_some_iff.1 h4).1 (far b (.inr ⟨cs, ty, fr, h4, h5⟩))).trans h4, h5⟩

/-- The call's own list of lists. -/
def OwnSs (w : World) (base : Nat) (v : Value) (ls : List (List UInt8)) : Prop :=
  ∃ xs, w.ownsRow base 24 1 v ls.length xs ∧ xs.length = ls.length ∧ ∀ j (h1 : j < xs.length) (h2 : j < ls.length), El base w xs[j] ls[j]
theorem OwnSs.bss {w : World} {base : Nat} {v : Value} {ls : List (List UInt8)} (h : OwnSs w base v ls) : Bss w v ls := by
  obtain ⟨xs, h1, h2, h3⟩ := h
  exact Bss.own h1 h2 fun j a b => (h3 j a b).1
theorem OwnSs.below {w w' : World} {base : Nat} {v : Value} {ls : List (List UInt8)} (h : OwnSs w base v ls) (hb : Below w.heap.size w w') : OwnSs w' base v ls := by
  obtain ⟨xs, h1, h2, h3⟩ := h
  exact ⟨xs, World.ownsRow.kept (row := none) h1 ⟨hb.os, hb.tape, hb.output, hb.size, fun k hk _ => hb.block k hk⟩ (by cases v.ownBlock <;> simp), h2, fun j a b => (h3 j a b).below hb⟩
theorem OwnSs.two (w : World) (base : Nat) (hb : base ≤ w.heap.size) (u v : Value) (a b : List UInt8) (ha : El base w u a) (hc : El base w v b) :
    OwnSs (w.alloc (.cells #[u, v] 24)) base (.slice (some ⟨w.heap.size, 0, none⟩) 2 2) [a, b] :=
  ⟨[u, v], World.ownsRow_lit (base := base) (e := 24) (size := 1) w #[u, v] 2 hb (by unfold maxLen; omega) rfl, rfl, fun j h1 h2 => by
    match j, h1 with
    | 0, _ => exact ha.below (alloc_below _ _)
    | 1, _ => exact hc.below (alloc_below _ _)⟩
theorem Bs.isSlice2 {w : World} {u : Value} {l : List UInt8} (h : Bs w u l) : u.oneCell' = true := by
  obtain ⟨A, c, rfl, _⟩ := h
  rfl
/-- append of two more. -/
theorem wpList_appSs {P : Program} {w : World} {ops : Array Oper} {rest : List Oper} {o : Oper} {a : Act} {Q : Exit → Act → World → Prop} (hgd : o.guard = none) (s x : Operand) (t : TypeId)
    (ho : o.op = .call { callee := .builtin .append, args := #[s, x], argTypes := #[t, t] })
    (base : Nat) (hinfo : (P.info? 24).map (fun i => (i.zero, i.size, i.bytes)) = some (some (.slice none 0 0), 1, 24)) (ht : P.underlying t = some (.slice 24))
    (v u1 u2 : Value) (g : Nat) (ls : List (List UInt8)) (b1 b2 : List UInt8) (hs : a.eval s = v) (hx : a.eval x = .slice (some ⟨g, 0, none⟩) 2 2) (hg : RowAt w g 24 #[u1, u2])
    (hown : OwnSs w base v ls) (h1 : El base w u1 b1) (h2 : El base w u2 b2) (hlen : ls.length ≤ 1000000) (hb : base ≤ w.heap.size)
    (h : ∀ v' w', OwnSs w' base v' (ls ++ [b1, b2]) → w.grownBy w' v.ownBlock → (∀ k, v.ownBlock = some k → base ≤ k) → wpList P ops Q rest (a.put o.dst v') w') : wpList P ops Q (o :: rest) a w := by
  obtain ⟨i0, hi, hz0, hz1, hz2⟩ := info_parts hinfo
  obtain ⟨xs, hx1, hx2, hx3⟩ := hown
  refine wpList_append_own _ hgd s x t ho base 24 i0 (.slice none 0 0) 1 24 ht hi hz0 hz1 hz2 rfl (by decide) v ls.length xs hs hx1 ⟨g, 0, none⟩ 2 2 [u1, u2] hx rfl (fun j y hj => ?_) (fun y hy => ?_) (by unfold maxLen; omega) (by omega) hb ?_
  · have hj2 := (List.getElem?_eq_some_iff.1 hj).1
    have hadd : (⟨g, 0, none⟩ : Addr).add j = ⟨g, j, none⟩ := by unfold Addr.add; split <;> simp_all
    rw [hadd, hg.cell j]
    simpa using hj
  · rcases List.mem_cons.1 hy with rfl | hy
    · exact h1.1.isSlice2
    · obtain rfl : y = u2 := by simpa using hy
      exact h2.1.isSlice2
  · intro v' w' ho' hg' _
    refine h v' w' ⟨xs ++ [u1, u2], by rw [List.length_append]; exact ho', by simp [hx2], fun j a1 a2 => ?_⟩ hg' (fun k hk => (World.ownsRow.lt hx1 k hk).1)
    rcases Nat.lt_or_ge j xs.length with hlt | hge
    · rw [List.getElem_append_left hlt, List.getElem_append_left (by omega)]
      exact (hx3 j hlt (by omega)).grown hx1 hg'
    · obtain ⟨i, rfl⟩ : ∃ i, j = xs.length + i := ⟨j - xs.length, by omega⟩
      have hi2 : i < 2 := by simpa using a1
      have e1 : (xs ++ [u1, u2])[xs.length + i] = [u1, u2][i]'(by simpa using hi2) := by rw [List.getElem_append_right (by omega)]; simp
      have e2 : (ls ++ [b1, b2])[xs.length + i] = [b1, b2][i]'(by simpa using hi2) := by rw [List.getElem_append_right (by omega)]; simp [hx2]
      rw [e1, e2]
      match i, hi2 with
      | 0, _ => exact h1.grown hx1 hg'
      | 1, _ => exact h2.grown hx1 hg'

/-- '[]byte(s)'. -/
theorem bytes_el (w : World) (base : Nat) (s : ByteArray) (hs : s.size ≤ 1000) : El base (Lib.bytesWorld w 5 s) (.slice (some ⟨w.heap.size, 0, none⟩) s.size (grownCap w s.size 0 5)) s.data.toList ∧ Below w.heap.size w (Lib.bytesWorld w 5 s) := by
  have hl : s.data.toList.length = s.size := by simp
  refine ⟨⟨⟨_, grownCap w s.size 0 5, by rw [hl], by rw [hl]; exact grownCap_ge _ _ _ _, grownCap_le_maxLen _ _ _ _ (by unfold maxLen; omega), fun _ => ⟨w.heap.size, 0, rfl, fun j hj => ?_⟩⟩, fun _ b off n c hu => ?_⟩, Lib.bytesWorld_below _ _ _⟩
  · rw [Nat.zero_add, Lib.bytesWorld_cell w 5 s j (by rw [← hl]; exact hj)]
    congr 2
    rw [List.getD_eq_getElem?_getD, List.getElem?_eq_getElem hj]
    rfl
  · injection hu with e1 _ _
    injection e1 with e1
    injection e1 with e1 _ _
    subst e1
    exact .inr ⟨_, _, _, Lib.bytesWorld_at_new w 5 s, by decide⟩

set_option maxHeartbeats 4000000 in
theorem purpose_any (w : World) (lab : ByteArray) (hlab : lab.size ≤ 1000) (A : Option Addr) (c : Nat) (ls : List (List UInt8)) (hb : Bss w (.slice A ls.length c) ls) (hn : ls.length ≤ 100) (hl : ∀ b ∈ ls, b.length ≤ 1000) :
    Calls Tryd.prog 55 #[.string lab, .slice A ls.length c] w (RetBs w (infoB lab.data.toList ls)) := by
  have HB := Lib.hid hb
  have HN := Lib.hid hn
  have HL := Lib.hid hl
  clear hb hl hn
  by_cases hs : lab.size ≤ 255
  · go_enter Tryd.func55, Tryd.ntmps55
    go_wp2_with fail
    obtain ⟨s2, hs2⟩ : ∃ s, s = lab := ⟨_, rfl⟩
    obtain ⟨z, hz⟩ : ∃ z, s2.size = z := ⟨_, rfl⟩
    have hz' := hz
    rw [hs2] at hz'
    have hz2 : z ≤ 255 := by omega
    rw [hz', ← hs2]
    have hs1k : s2.size ≤ 1000 := by omega
    have HS2 := Lib.hid hs2
    clear hz' hs2
    have HZ : Hid (s2.size = z) := hz
    have hs1000 : s2.size ≤ 1000 := by omega
    clear hz hs hlab
    refine (High_own _ z 1 (by omega) (by omega) (by omega)).mono ?_
    intro e w1 h
    obtain ⟨u, he, hu, b1⟩ := h
    subst he
    have e1 : (lowB z 1).reverse = [UInt8.ofNat z] := by simp [lowB, byteN]
    rw [e1] at hu
    have E1 := Lib.hid (El.own (base := w.heap.size) hu)
    obtain ⟨UA, uc, hu2, _, _, _⟩ := hu.bs
    replace hu2 : u = .slice UA 1 uc := hu2
    subst hu2
    obtain ⟨E2, b2⟩ := bytes_el w1 w.heap.size s2 hs1000
    have hcv := Lib.run_convert_string_bytes (P := Tryd.prog) w1 9 24 5 s2 Tryd.underlying9 Tryd.underlying24 Tryd.underlying5
    obtain ⟨w2, hw2⟩ : ∃ y, y = Lib.bytesWorld w1 5 s2 := ⟨_, rfl⟩
    obtain ⟨gc, hgc⟩ : ∃ c, c = grownCap w1 s2.size 0 5 := ⟨_, rfl⟩
    rw [← hw2, ← hgc] at hcv E2
    rw [← hw2] at b2
    have HE2 := Lib.hid E2
    have HE1 := Lib.hid (E1.out.below b2)
    have B2 := Lib.hid (below_size b1 b2)
    clear hu e1 b1 b2 E2 E1 hw2 hgc
    go_wp2_with fail
    have O3 := Lib.hid (OwnSs.two w2 w.heap.size B2.out.size _ _ _ _ HE1.out HE2.out)
    have B3 := Lib.hid (below_size B2.out (alloc_below w2 (.cells #[.slice UA 1 uc, .slice (some ⟨w1.heap.size, 0, none⟩) s2.size gc] 24)))
    obtain ⟨labl, hlabl⟩ : ∃ l, l = s2.data.toList := ⟨_, rfl⟩
    have hll : labl.length = z := by rw [hlabl, ← HZ.out]; simp
    have hO3 : [[UInt8.ofNat z], s2.data.toList] = partsL labl (ls.take 0) := by rw [← hlabl]; simp [partsL, hll]
    rw [hO3] at O3
    have hres : infoB lab.data.toList ls = (partsL labl ls).flatten := by rw [hlabl, ← HS2.out, infoB, List.take_of_length_le (by have := HZ.out; simp; omega)]
    have HRES := Lib.hid hres
    have hfl := partsL_flat labl ls HL.out
    have HFL : Hid ((partsL labl ls).flatten.length ≤ 1000000000 ∧ (partsL labl ls).length ≤ 1000000000) := ⟨by have := HN.out; omega, by rw [partsL_length]; have := HN.out; omega⟩
    generalize w2.alloc (.cells #[.slice UA 1 uc, .slice (some ⟨w1.heap.size, 0, none⟩) s2.size gc] 24) = w3 at O3 B3 ⊢
    clear HE1 HE2 B2 hcv hO3 hlabl hll hres hfl hs1000 hz2
    go_loopw [5, 22] (fun v i wr => ∃ k : Nat, k ≤ ls.length ∧ i = .int .i64 k ∧ OwnSs wr w.heap.size v (partsL labl (ls.take k)) ∧ Below w.heap.size w wr) (fun _ i _ => ls.length - (intOf i).toNat)
    case atStart => exact ⟨0, Nat.zero_le _, rfl, O3.out, B3.out⟩
    case round =>
      clear O3 B3
      obtain ⟨k, hk, rfl, hO, hB⟩ := hrel
      have HO := Lib.hid hO
      have HBW := Lib.hid hB
      clear hO hB
      by_cases hlt : k < ls.length
      · obtain ⟨A', c', hv, hc1, hc2, hc3⟩ := HB.out
        injection hv with e1 e2 e3
        subst e1 e3
        obtain ⟨b, off, rfl, hcell⟩ := hc3 (by omega)
        obtain ⟨u, hcu, hbu⟩ := hcell k hlt
        have hcu2 := (HBW.out.cell (World.block_lt_of_cell? w _ hcu)).trans hcu
        have HU := Lib.hid (El.old (base := w.heap.size) hbu HBW.out (Nat.le_refl _))
        obtain ⟨UA2, uc2, rfl, q1, q2, _⟩ := hbu
        obtain ⟨bl, hbl⟩ : ∃ l, l = ls[k] := ⟨_, rfl⟩
        have hbn : bl.length ≤ 1000 := by rw [hbl]; exact HL.out _ (List.getElem_mem _)
        have hnx := partsL_next labl ls k hlt
        rw [← hbl] at hnx HU hcu2 hcu q1
        have HNX := Lib.hid hnx
        obtain ⟨m, hm⟩ : ∃ m, m = bl.length := ⟨_, rfl⟩
        have HM := Lib.hid hm
        rw [← hm] at hcu2 hbn q1 HU
        have v1 : IntKind.u64.wrap (m : Int) = (m : Int) := by rw [IntKind.wrap_u64]; omega
        unfold maxLen at q2 hc2
        clear hcell hcu hbl hnx hm hc3
        go_wp2_with fail
        refine (High_own _ m 4 (by omega) (by omega) (by omega)).mono ?_
        intro e w4 h
        obtain ⟨u4, he, hu4, b4⟩ := h
        subst he
        have HU4 := Lib.hid (El.own (base := w.heap.size) hu4)
        have HU5 := Lib.hid (HU.out.below b4)
        have HO4 := Lib.hid (HO.out.below b4)
        have B4 := Lib.hid (below_size HBW.out b4)
        obtain ⟨UA4, uc4, hv4, _, _, _⟩ := hu4.bs
        replace hv4 : u4 = .slice UA4 4 uc4 := by rw [hv4, List.length_reverse, lowB_length]
        subst hv4
        clear hu4 b4 HU HO HBW
        go_wp2_with (at_builtin; go_must (refine wpList_appSs rfl (.tmp 26) (.tmp 32) 29 rfl w.heap.size Tryd.infoS Tryd.underlying29 _ (.slice UA4 4 uc4) (.slice UA2 m uc2) w4.heap.size (partsL labl (ls.take k)) (highB4 m) bl rfl rfl (RowAt.new w4 24 _) (HO4.out.below (alloc_below _ _)) (HU4.out.below (alloc_below _ _)) (HU5.out.below (alloc_below _ _)) (by rw [partsL_length, List.length_take]; have := HN.out; omega) (by rw [World.size_alloc]; have := B4.out.size; omega) ?_); intro v6 w6 O6 g6 r6)
        have B6 := Lib.hid ((B4.out.alloc B4.out.size _).grown g6 (by rw [World.size_alloc]; have := B4.out.size; omega) r6)
        have HO6 : Hid (OwnSs w6 w.heap.size v6 (partsL labl (ls.take (k + 1)))) := by show OwnSs _ _ _ _; rw [HNX.out, ← HM.out]; exact O6
        clear O6 g6 r6 HO4 HU4 HU5 B4
        go_wp2
        go_roundw
        case rel => exact ⟨k + 1, by omega, by go_num, HO6.out, B6.out⟩
        case measure => simp [intOf]; omega
      · have hkn : k = ls.length := by omega
        have HO2 : Hid (OwnSs wr w.heap.size u5 (partsL labl ls)) := by have := HO.out; rw [hkn, List.take_of_length_le (Nat.le_refl _)] at this; exact this
        clear hkn HO
        go_wp2_with fail
        refine (Join_any wr _ _ HO2.out.bss (by have := HFL.out.1; omega) (by have := HFL.out.2; omega)).mono ?_
        intro e w7 h
        obtain ⟨u, he, hu, b7⟩ := h
        subst he
        have HU := Lib.hid hu
        have B7 := Lib.hid (below_size HBW.out b7)
        clear hu b7
        go_wp2
        go_ret
        exact ⟨u, rfl, by rw [HRES.out]; exact HU.out, B7.out⟩
  · go_enter Tryd.func55, Tryd.ntmps55
    go_wp2_with fail
    obtain ⟨z, hz1⟩ : ∃ z : Nat, z = min 255 lab.size := ⟨_, rfl⟩
    have hz2 : z ≤ 255 := by omega
    have hz3 : z = 255 := by omega
    rw [← hz1]
    obtain ⟨s2, hs2⟩ : ∃ s, s = lab.extract 0 255 := ⟨_, rfl⟩
    have hz : s2.size = z := by rw [hs2, ByteArray.size_extract]; omega
    have HS2 : Hid (s2.data.toList = lab.data.toList.take 255) := by show _ = _; rw [hs2]; simp
    rw [← hs2]
    have hs1k : s2.size ≤ 1000 := by omega
    clear hz1 hs2 hz3
    have HZ : Hid (s2.size = z) := hz
    have hs1000 : s2.size ≤ 1000 := by omega
    clear hz hs hlab
    refine (High_own _ z 1 (by omega) (by omega) (by omega)).mono ?_
    intro e w1 h
    obtain ⟨u, he, hu, b1⟩ := h
    subst he
    have e1 : (lowB z 1).reverse = [UInt8.ofNat z] := by simp [lowB, byteN]
    rw [e1] at hu
    have E1 := Lib.hid (El.own (base := w.heap.size) hu)
    obtain ⟨UA, uc, hu2, _, _, _⟩ := hu.bs
    replace hu2 : u = .slice UA 1 uc := hu2
    subst hu2
    obtain ⟨E2, b2⟩ := bytes_el w1 w.heap.size s2 hs1000
    have hcv := Lib.run_convert_string_bytes (P := Tryd.prog) w1 9 24 5 s2 Tryd.underlying9 Tryd.underlying24 Tryd.underlying5
    obtain ⟨w2, hw2⟩ : ∃ y, y = Lib.bytesWorld w1 5 s2 := ⟨_, rfl⟩
    obtain ⟨gc, hgc⟩ : ∃ c, c = grownCap w1 s2.size 0 5 := ⟨_, rfl⟩
    rw [← hw2, ← hgc] at hcv E2
    rw [← hw2] at b2
    have HE2 := Lib.hid E2
    have HE1 := Lib.hid (E1.out.below b2)
    have B2 := Lib.hid (below_size b1 b2)
    clear hu e1 b1 b2 E2 E1 hw2 hgc
    go_wp2_with fail
    have O3 := Lib.hid (OwnSs.two w2 w.heap.size B2.out.size _ _ _ _ HE1.out HE2.out)
    have B3 := Lib.hid (below_size B2.out (alloc_below w2 (.cells #[.slice UA 1 uc, .slice (some ⟨w1.heap.size, 0, none⟩) s2.size gc] 24)))
    obtain ⟨labl, hlabl⟩ : ∃ l, l = s2.data.toList := ⟨_, rfl⟩
    have hll : labl.length = z := by rw [hlabl, ← HZ.out]; simp
    have hO3 : [[UInt8.ofNat z], s2.data.toList] = partsL labl (ls.take 0) := by rw [← hlabl]; simp [partsL, hll]
    rw [hO3] at O3
    have hres : infoB lab.data.toList ls = (partsL labl ls).flatten := by rw [hlabl, HS2.out, infoB]
    have HRES := Lib.hid hres
    have hfl := partsL_flat labl ls HL.out
    have HFL : Hid ((partsL labl ls).flatten.length ≤ 1000000000 ∧ (partsL labl ls).length ≤ 1000000000) := ⟨by have := HN.out; omega, by rw [partsL_length]; have := HN.out; omega⟩
    generalize w2.alloc (.cells #[.slice UA 1 uc, .slice (some ⟨w1.heap.size, 0, none⟩) s2.size gc] 24) = w3 at O3 B3 ⊢
    clear HE1 HE2 B2 hcv hO3 hlabl hll hres hfl hs1000 hz2
    go_loopw [5, 22] (fun v i wr => ∃ k : Nat, k ≤ ls.length ∧ i = .int .i64 k ∧ OwnSs wr w.heap.size v (partsL labl (ls.take k)) ∧ Below w.heap.size w wr) (fun _ i _ => ls.length - (intOf i).toNat)
    case atStart => exact ⟨0, Nat.zero_le _, rfl, O3.out, B3.out⟩
    case round =>
      clear O3 B3
      obtain ⟨k, hk, rfl, hO, hB⟩ := hrel
      have HO := Lib.hid hO
      have HBW := Lib.hid hB
      clear hO hB
      by_cases hlt : k < ls.length
      · obtain ⟨A', c', hv, hc1, hc2, hc3⟩ := HB.out
        injection hv with e1 e2 e3
        subst e1 e3
        obtain ⟨b, off, rfl, hcell⟩ := hc3 (by omega)
        obtain ⟨u, hcu, hbu⟩ := hcell k hlt
        have hcu2 := (HBW.out.cell (World.block_lt_of_cell? w _ hcu)).trans hcu
        have HU := Lib.hid (El.old (base := w.heap.size) hbu HBW.out (Nat.le_refl _))
        obtain ⟨UA2, uc2, rfl, q1, q2, _⟩ := hbu
        obtain ⟨bl, hbl⟩ : ∃ l, l = ls[k] := ⟨_, rfl⟩
        have hbn : bl.length ≤ 1000 := by rw [hbl]; exact HL.out _ (List.getElem_mem _)
        have hnx := partsL_next labl ls k hlt
        rw [← hbl] at hnx HU hcu2 hcu q1
        have HNX := Lib.hid hnx
        obtain ⟨m, hm⟩ : ∃ m, m = bl.length := ⟨_, rfl⟩
        have HM := Lib.hid hm
        rw [← hm] at hcu2 hbn q1 HU
        have v1 : IntKind.u64.wrap (m : Int) = (m : Int) := by rw [IntKind.wrap_u64]; omega
        unfold maxLen at q2 hc2
        clear hcell hcu hbl hnx hm hc3
        go_wp2_with fail
        refine (High_own _ m 4 (by omega) (by omega) (by omega)).mono ?_
        intro e w4 h
        obtain ⟨u4, he, hu4, b4⟩ := h
        subst he
        have HU4 := Lib.hid (El.own (base := w.heap.size) hu4)
        have HU5 := Lib.hid (HU.out.below b4)
        have HO4 := Lib.hid (HO.out.below b4)
        have B4 := Lib.hid (below_size HBW.out b4)
        obtain ⟨UA4, uc4, hv4, _, _, _⟩ := hu4.bs
        replace hv4 : u4 = .slice UA4 4 uc4 := by rw [hv4, List.length_reverse, lowB_length]
        subst hv4
        clear hu4 b4 HU HO HBW
        go_wp2_with (at_builtin; go_must (refine wpList_appSs rfl (.tmp 26) (.tmp 32) 29 rfl w.heap.size Tryd.infoS Tryd.underlying29 _ (.slice UA4 4 uc4) (.slice UA2 m uc2) w4.heap.size (partsL labl (ls.take k)) (highB4 m) bl rfl rfl (RowAt.new w4 24 _) (HO4.out.below (alloc_below _ _)) (HU4.out.below (alloc_below _ _)) (HU5.out.below (alloc_below _ _)) (by rw [partsL_length, List.length_take]; have := HN.out; omega) (by rw [World.size_alloc]; have := B4.out.size; omega) ?_); intro v6 w6 O6 g6 r6)
        have B6 := Lib.hid ((B4.out.alloc B4.out.size _).grown g6 (by rw [World.size_alloc]; have := B4.out.size; omega) r6)
        have HO6 : Hid (OwnSs w6 w.heap.size v6 (partsL labl (ls.take (k + 1)))) := by show OwnSs _ _ _ _; rw [HNX.out, ← HM.out]; exact O6
        clear O6 g6 r6 HO4 HU4 HU5 B4
        go_wp2
        go_roundw
        case rel => exact ⟨k + 1, by omega, by go_num, HO6.out, B6.out⟩
        case measure => simp [intOf]; omega
      · have hkn : k = ls.length := by omega
        have HO2 : Hid (OwnSs wr w.heap.size u5 (partsL labl ls)) := by have := HO.out; rw [hkn, List.take_of_length_le (Nat.le_refl _)] at this; exact this
        clear hkn HO
        go_wp2_with fail
        refine (Join_any wr _ _ HO2.out.bss (by have := HFL.out.1; omega) (by have := HFL.out.2; omega)).mono ?_
        intro e w7 h
        obtain ⟨u, he, hu, b7⟩ := h
        subst he
        have HU := Lib.hid hu
        have B7 := Lib.hid (below_size HBW.out b7)
        clear hu b7
        go_wp2
        go_ret
        exact ⟨u, rfl, by rw [HRES.out]; exact HU.out, B7.out⟩
end Go.Proofs.YtjdbjgaoeijmfaaDoor
end
section
namespace Go.Proofs.YtjdbjgaoeijmfaaDoor
open Go.RowKit Go.Shelf
attribute [local go_sem] Oper.semAt_some
set_option linter.unusedVariables false
set_option maxRecDepth 20000

def lastT (key info : List UInt8) (pre : List Nat) : List UInt8 := match pre.getLast? with | none => zeroKey | some x => tB key info (x + 1)
theorem lastT_length (key info : List UInt8) (pre : List Nat) : (lastT key info pre).length = 32 := by
  unfold lastT
  split
  · exact zeroKey_length
  · exact tB_length _ _ _
theorem lastT_snoc (key info : List UInt8) (pre : List Nat) (x : Nat) : lastT key info (pre ++ [x]) = tB key info (x + 1) := by simp [lastT]

set_option maxHeartbeats 4000000 in
theorem macDerive_any (w0 w : World) (g n : Nat) (hr : Run w0 w g n w) (hn : n ≤ 1000000) (key : List UInt8) (hk : key.length = 32) (lab : ByteArray) (hlab : lab.size ≤ 1000) (A : Option Addr) (c : Nat) (ls : List (List UInt8))
    (hb : Bss w (.slice A ls.length c) ls) (hls : ls.length ≤ 15) (hl : ∀ b ∈ ls, b.length ≤ 1000) :
    Calls Tryd.prog 39 #[.pointer (some ⟨g, 0, none⟩), keyV key, .string lab, .slice A ls.length c] w fun e w' => ∃ n', n' ≤ n + 3 ∧ e = .returned (.agg (keyC (macB key (infoB lab.data.toList ls ++ [1])))) ∧ Run w0 w g n' w' := by
  obtain ⟨info, hinfo⟩ : ∃ i, i = infoB lab.data.toList ls := ⟨_, rfl⟩
  have HP : Hid (∀ x, Below w.heap.size w x → Calls Tryd.prog 55 #[.string lab, .slice A ls.length c] x (RetBs x info)) := fun x hx => by rw [hinfo]; exact purpose_any x lab hlab A c ls (hb.keep hx) (by omega) hl
  have hil : info.length ≤ 20000 := by
    rw [hinfo, infoB]
    have := partsL_flat (lab.data.toList.take 255) ls hl
    rw [List.length_take] at this
    have : min 255 lab.data.toList.length ≤ 255 := Nat.min_le_left _ _
    omega
  have hT : macB key (info ++ [1]) = lastT key info [0] := by simp [lastT, tB]
  rw [← hinfo, hT]
  have HR := Lib.hid hr
  have HK := Lib.hid hk
  clear hinfo hb hl hr hk hT hlab hls
  refine (callsIn_wide (n := 3)).1 ?_
  refine callsIn_of_wp_marks Tryd.func39 rfl trivial ?_ rfl
  simp only [Tryd.ntmps39, List.size_toArray, List.length_cons, List.length_nil, Nat.reduceAdd, Nat.reduceSub, Array.replicate_succ, Array.replicate_zero, List.push_toArray, List.append_toArray, List.nil_append, List.cons_append]
  refine wpIn_wide.2 ?_
  go_wp2_with (first
    | ((with_reducible refine wpList_box_row (o := ⟨some 5, _, _, _, _, _⟩) rfl 23 (.tmp 1) rfl (keyC key) (by with_unfolding_all rfl) ?_); intro g5 w1 n5)
    | ((with_reducible refine wpList_alloc_row (o := ⟨some 8, _, _, _, _, _⟩) rfl 23 rfl (keyC zeroKey) Tryd.zeroK ?_); intro g8 w2 n8)
    | ((with_reducible refine wpList_alloc_row (o := ⟨some 9, _, _, _, _, _⟩) rfl 23 rfl (keyC zeroKey) Tryd.zeroK ?_); intro g9 w3 n9))
  have s5 := n5.spot
  have s8 := n8.spot
  have s9 := n9.spot
  have z5 := n5.size
  have z8 := n8.size
  have z9 := n9.size
  have B3 := Lib.hid (below_size (below_size n5.below n8.below) n9.below)
  have Q5 := Lib.hid ((n5.row.kept n8.below).kept n9.below)
  have Q8 := Lib.hid (n8.row.kept n9.below)
  have Q9 := Lib.hid n9.row
  have h89 : g8 ≠ g9 := by omega
  have hg8 : w.heap.size ≤ g8 := by omega
  have hg9 : w.heap.size ≤ g9 := by omega
  clear n5 n8 n9 s5 s8 s9 z5 z8 z9
  refine Code.wp_mono NoPanic.out ?_
  refine plain_region (S := fun W' => RowAt W' g5 23 (keyC key)) (fin := fun _ => false) (by kernel_rfl) ?_
  have hS : RowAt w3.drew g5 23 (keyC key) := Q5.out
  change walkS _ _ _ _ _ _ 6 _ _ _
  refine walkS_take (i := 0) (oi := ⟨some 11, _, _, _, _, _⟩) (v := .pointer (some ⟨g, 0, none⟩)) rfl (by kernel_rfl) (by kernel_rfl) (fun _ _ _ h => h) _ _ _ _ (by kernel_rfl) (by kernel_rfl) (Or.inl ⟨by rfl, fun w' hS' => (by clear hS hS'; go_simp)⟩) hS ?_
  simp only [Act.put, List.setIfInBounds_toArray, List.set_cons_zero, List.set_cons_succ]
  refine walkS_take (i := 1) (oi := ⟨some 12, _, _, _, _, _⟩) (v := .agg (keyC key)) rfl (by kernel_rfl) (by kernel_rfl) (fun _ _ _ h => h) _ _ _ _ (by kernel_rfl) (by kernel_rfl) (Or.inl ⟨by rfl, fun w' hS' => run_load_row _ (.tmp 5) rfl g5 rfl _ (keyC key) (0, 0) (.array 32 5) hS' Tryd.underlying23 rfl (Tryd.sizeKey key HK.out)⟩) hS ?_
  simp only [Act.put, List.setIfInBounds_toArray, List.set_cons_zero, List.set_cons_succ]
  refine walkS_take (i := 2) (oi := ⟨some 13, _, _, _, _, _⟩) (v := .string lab) rfl (by kernel_rfl) (by kernel_rfl) (fun _ _ _ h => h) _ _ _ _ (by kernel_rfl) (by kernel_rfl) (Or.inl ⟨by rfl, fun w' hS' => (by clear hS hS'; go_simp)⟩) hS ?_
  simp only [Act.put, List.setIfInBounds_toArray, List.set_cons_zero, List.set_cons_succ]
  refine walkS_take (i := 3) (oi := ⟨some 14, _, _, _, _, _⟩) (v := .slice A ls.length c) rfl (by kernel_rfl) (by kernel_rfl) (fun _ _ _ h => h) _ _ _ _ (by kernel_rfl) (by kernel_rfl) (Or.inl ⟨by rfl, fun w' hS' => (by clear hS hS'; go_simp)⟩) hS ?_
  simp only [Act.put, List.setIfInBounds_toArray, List.set_cons_zero, List.set_cons_succ]
  refine walkS_only (i := 4) (o := ⟨some 15, _, _, _, _, _⟩) (by kernel_rfl) rfl rfl fun K hK => ?_
  have HS := Lib.hid hS
  clear hS
  go_simp
  refine (HP.out _ B3.out.drew).mono ?_
  intro e w4 h
  obtain ⟨u, he, hu, b4⟩ := h
  subst he
  have B4 := Lib.hid (below_size B3.out.drew b4)
  have hS : RowAt w4 g5 23 (keyC key) := HS.out.kept b4
  have T8 := Lib.hid (Q8.out.drew.kept b4)
  have T9 := Lib.hid (Q9.out.drew.kept b4)
  have HU0 := Lib.hid hu
  obtain ⟨IA, ic, rfl, _, _, _⟩ := hu
  refine hK _ _ (.inr hS) ?_
  clear hK K b4 HS Q8 Q9 Q5 B3
  refine walkS_only (i := 5) (o := ⟨some 16, _, _, _, _, _⟩) (by kernel_rfl) rfl rfl fun K hK => ?_
  have R4 := Lib.hid (HR.out.beneath B4.out)
  have HS2 := Lib.hid hS
  clear hS
  go_simp
  refine (expanded_any w0 w w4 g n R4.out IA info.length ic key HK.out 1).mono ?_
  rintro e w5 ⟨gn, gm, gk, gi, rfl, env, ⟨hk1, hk2, hk3, hk4⟩, b5⟩
  have B5 := Lib.hid (below_size B4.out b5)
  have HU5 := Lib.hid (HU0.out.below b5)
  have S8 := Lib.hid (T8.out.kept b5)
  have S9 := Lib.hid (T9.out.kept b5)
  have l8 := T8.out.lt
  have l9 := T9.out.lt
  refine hK _ _ (.inr (HS2.out.kept b5)) (walkS_done (by kernel_rfl) ?_ _)
  simp only [NoPanic]
  have EV := Lib.hid env
  have hX4 : ¬ (gn = g9) ∧ ¬ (gm = g9) ∧ ¬ (gk = g9) ∧ ¬ (gi = g9) := ⟨by omega, by omega, by omega, by omega⟩
  have n89 : g8 ≠ g ∧ g9 ≠ g := ⟨meter_not_key (R4.out.self.kept b5).row S8.out, meter_not_key (R4.out.self.kept b5).row S9.out⟩
  clear hK K env b5 HS2 T8 T9 B4 HP
  go_wp2_with fail
  refine (wpIn_wide (n := 3)).1 ?_
  refine wpIn_rangeFunc_R (F := Fence.wide) rfl (by omega) (gf := 68) (lb := #[.pointer (some ⟨gn, 0, none⟩), .pointer (some ⟨gm, 0, none⟩), .pointer (some ⟨gk, 0, none⟩), .pointer (some ⟨gi, 0, none⟩)]) rfl trivial (enters_of Tryd.func68 (by kernel_rfl) rfl)
    (expanded1_tells 2 (by omega) w0 w w5 g n (n + 3 * 1) gn gm gk gi (.slice IA info.length ic) key info 1 (fun k => k = g9) (fun k hk => by rw [hk]; exact S9.out.lt) hX4 HK.out (fun W h => HU5.out.below h) (fun h => by omega) hil (by omega) (Nat.le_refl _) (by omega) EV.out)
    (fun A B h k o _ hk ho => h.keeps k o hk ho) bodyKeeps_t (bodyKeeps_b B5.out.size) (Below.refl _ _) (fun _ => rfl)
    (fun pre W => (RowAt W g8 23 (keyC zeroKey) ∧ RowAt W g9 23 (keyC (lastT key info pre))) ∧ (w5.heap.size ≤ W.heap.size ∧ XEnv w0 w W g (n + 3 * 1) gn gm gk gi (.slice IA info.length ic) key 1))
    (fun _ _ _ => False)
    (fun s X Y row hs hg hr => by
      obtain ⟨⟨h1, h2⟩, h3, h4⟩ := hs
      have cell : ∀ k cs, RowAt X k 23 cs → RowAt Y k 23 cs := fun k cs h => h.grown hg fun e => by
        obtain ⟨_, o, ho, hc⟩ := hr k e.symm
        rw [show X.heap[k]? = _ from h] at ho
        cases ho
        simp [Obj.isCells] at hc
      exact ⟨⟨cell _ _ h1, cell _ _ h2⟩, Nat.le_trans h3 hg.size, h4.own hg (fun r e => (hr r e).2) (fun r e => Nat.le_trans B5.out.size (hr r e).1)⟩)
    (fun _ _ _ _ _ hs _ _ => hs)
    (fun s A B hs h => by
      obtain ⟨⟨h1, h2⟩, h4, h5⟩ := hs
      exact ⟨⟨h1.grown h.1 (by intro e; injection e with e; exact n89.1 e), h2.grown h.1 (by intro e; injection e with e; exact n89.2 e)⟩, Nat.le_trans h4 h.1.size, h5.stepped h⟩)
    (fun _ _ _ _ hs _ => hs)
    ⟨⟨S8.out, S9.out⟩, Nat.le_refl _, EV.out.more (by omega)⟩
    (fun x a' W => ∃ Bx, w5.heap.size ≤ Bx ∧ RowAt W Bx 23 (keyC (tB key info (x + 1))) ∧ a' = { tmps := #[.pointer (some ⟨g, 0, none⟩), keyV key, .string lab, .slice A ls.length c, undef, .pointer (some ⟨g5, 0, none⟩), undef, undef, .pointer (some ⟨g8, 0, none⟩), .pointer (some ⟨g9, 0, none⟩), .pointer (some ⟨Bx, 0, none⟩), .pointer (some ⟨g, 0, none⟩), .agg (keyC key), .string lab, .slice A ls.length c, .slice IA info.length ic, .func (.func 68) #[] #[.pointer (some ⟨gn, 0, none⟩), .pointer (some ⟨gm, 0, none⟩), .pointer (some ⟨gk, 0, none⟩), .pointer (some ⟨gi, 0, none⟩)], keyV (tB key info (x + 1)), undef, undef], defers := [] })
    (fun x a' _ X Y row hs hg hr => by
      obtain ⟨Bx, h1, h2, h3⟩ := hs
      refine ⟨Bx, h1, h2.grown hg (fun e => ?_), h3⟩
      obtain ⟨_, o, ho, hc⟩ := hr Bx e.symm
      rw [show X.heap[Bx]? = _ from h2] at ho
      cases ho
      simp [Obj.isCells] at hc)
    ?assign ?body ?done ?stop
  case assign =>
    rintro l pre x W K ⟨⟨h8, h9⟩, hsz, hEnv⟩ hK
    gi_wp2_with (first
      | ((with_reducible refine roundL_alloc_row (o := ⟨some 10, _, _, _, _, _⟩) rfl 23 rfl (keyC zeroKey) Tryd.zeroK ?_); intro gx wx nx)
      | ((with_reducible refine roundL_store_row (o := ⟨none, _, _, _, _, _⟩) rfl 23 (.tmp 10) (.tmp 17) rfl gx 23 _ (keyC (tB key info (x + 1))) (by with_unfolding_all rfl) (by with_unfolding_all rfl) nx.row (keyC_same zeroKey_length (tB_length _ _ _)) (Tryd.sizeKey _ (tB_length _ _ _)) (keyC_one _) ?_); intro wy py))
    obtain ⟨hb, hko⟩ := laid_put nx py
    exact hK _ _ (hko.from _) (BodyKeeps.of_below (Nat.le_trans B5.out.size hsz) hb)
      ⟨⟨h8.kept hb, h9.kept hb⟩, Nat.le_trans hsz hb.size, hEnv.below hb⟩
      ⟨gx, by rw [nx.spot]; exact hsz, py.row, by simp [Act.put]⟩
  case body =>
    rintro l pre x a' W hl hrec ⟨⟨h8, h9⟩, hsz, hEnv⟩ ⟨Bx, hBx, hRow, rfl⟩ hlt
    have HL9 : Hid ((lastT key info pre).length = 32) := lastT_length _ _ _
    have LT : Hid ((tB key info (x + 1)).length = 32) := tB_length _ _ _
    have HSN : Hid (lastT key info (pre ++ [x]) = tB key info (x + 1)) := lastT_snoc _ _ _ _
    obtain ⟨tk, htk⟩ : ∃ t, t = tB key info (x + 1) := ⟨_, rfl⟩
    rw [← htk] at hRow LT HSN ⊢
    generalize lastT key info pre = lt at h9 HL9
    clear htk hrec
    gi_wp2_with (first
      | (with_reducible refine roundL_load_row (o := ⟨some 18, _, _, _, _, _⟩) rfl 23 (.tmp 10) rfl Bx (by with_unfolding_all rfl) 23 (keyC tk) (0, 0) (.array 32 5) (by with_unfolding_all exact hRow) Tryd.underlying23 rfl (Tryd.sizeKey tk LT.out) ?_)
      | ((with_reducible refine roundL_store_row (o := ⟨none, _, _, _, _, _⟩) rfl 23 (.tmp 9) (.tmp 18) rfl g9 23 _ (keyC tk) (by with_unfolding_all rfl) (by with_unfolding_all rfl) h9 (keyC_same HL9.out LT.out) (Tryd.sizeKey _ LT.out) (keyC_one _) ?_); intro wy py))
    have hbw : Below w.heap.size W wy := py.below (Below.refl _ _) (Nat.le_trans B5.out.size hsz) hg9
    have hcell : ∀ (j : Nat) (o : Obj), some g9 = some j → W.heap[j]? = some o → o.isCells = true := fun j o ej hj => by
      injection ej with ej
      subst ej
      rw [show W.heap[g9]? = _ from h9] at hj
      cases hj
      rfl
    have hbk : BodyKeeps w (fun k => k = g9) W wy := ⟨hbw, fun k o hk _ hne => (py.grown.block k (Array.getElem?_eq_some_iff.1 hk).1 (fun e => by injection e with e; exact hne e)).trans hk⟩
    refine ⟨(KeepsOthers.of_grownBy py.grown hcell).from _, hbk, ⟨h8.grown py.grown (by intro e; injection e with e; exact h89 e), by rw [HSN.out]; exact py.row⟩, Nat.le_trans hsz hbw.size, hEnv.body hX4 hbk⟩
  case done =>
    rintro D xs W hD rfl ⟨⟨h8, h9⟩, hsz, hEnv⟩ hK
    have HL9 : Hid ((lastT key info (List.range 1)).length = 32) := lastT_length _ _ _
    have HRG : Hid (lastT key info (List.range 1) = lastT key info [0]) := rfl
    have HEV := Lib.hid hEnv
    have hD8 : D ≠ g8 := by have := S8.out.lt; omega
    rw [HRG.out] at h9 HL9
    obtain ⟨lt, hlt⟩ : ∃ t, t = lastT key info [0] := ⟨_, rfl⟩
    rw [← hlt] at h9 HL9
    have HLT := Lib.hid hlt
    clear hlt
    clear hEnv
    go_wp2_with (first
      | (with_reducible refine wpList_load_row (o := ⟨some 19, _, _, _, _, _⟩) rfl 23 (.tmp 9) rfl g9 (by with_unfolding_all rfl) 23 (keyC lt) (0, 0) (.array 32 5) (by with_unfolding_all exact h9) Tryd.underlying23 rfl (Tryd.sizeKey lt HL9.out) ?_)
      | ((with_reducible refine wpList_store_row (o := ⟨none, _, _, _, _, _⟩) rfl 23 (.tmp 8) (.tmp 19) rfl g8 23 _ (keyC lt) (by with_unfolding_all rfl) (by with_unfolding_all rfl) h8 (keyC_same zeroKey_length HL9.out) (Tryd.sizeKey lt HL9.out) (keyC_one _) ?_); intro wy py))
    have hDW : D < W.heap.size := (Array.getElem?_eq_some_iff.1 hK).1
    have hK2 : wy.heap[D]? = some (.deferred (some [])) := (py.grown.block D hDW (fun e => by injection e with e; exact hD8 e)).trans hK
    refine ⟨by simp, .inl ⟨_, _, rfl, run_takeDeferred hK2, ?_⟩⟩
    obtain ⟨n', hn', hrun⟩ := HEV.out.run
    have r8 : RowAt (wy.putObj D (.deferred none)) g8 23 (keyC lt) := (World.putObj_heap_other (by omega)).trans py.row
    have hbw : Below w.heap.size W wy := py.below (Below.refl _ _) (Nat.le_trans B5.out.size hsz) hg8
    have hbd : Below w.heap.size wy (wy.putObj D (.deferred none)) := belowK_b (w := w) (Nat.le_refl _) wy D _ _ (by have := B5.out.size; omega) hK2 rfl rfl
    exact ⟨_, results_cell_row rfl _ _ g8 23 (keyC lt) (0, 0) (.array 32 5) rfl r8 Tryd.underlying23 rfl (Tryd.sizeKey lt HL9.out), n', hn', by rw [HLT.out], (hrun.beneath hbw).beneath hbd⟩
  case stop =>
    rintro D c pre W _ _ h _
    exact h.elim
end Go.Proofs.YtjdbjgaoeijmfaaDoor
end
