/-
  What a key is derived by: mac.purpose. Conditions: as each theorem names them.
-/
import Derived.Test.YtdojaighchgghaaDoorMacG
import Derived.Test.YtdojaighchgghaaDoorHighO
import Derived.Test.YtdojaighchgghaaDoorJ
import Derived.Test.YtdojaighchgghaaDoorMacB
import Derived.Lib.AtoiErrMem
import Derived.Deep.DeepMust
namespace Go.Proofs.YtdojaighchgghaaDoor
open Go.RowKit
set_option linter.unusedVariables false
set_option maxRecDepth 20000

def highB4 (n : Nat) : List UInt8 := (lowB n 4).reverse
def partsL (lab : List UInt8) (ls : List (List UInt8)) : List (List UInt8) := [[UInt8.ofNat lab.length], lab] ++ ls.flatMap fun b => [highB4 b.length, b]
def infoB (lab : List UInt8) (ls : List (List UInt8)) : List UInt8 := (partsL (lab.take 255) ls).flatten
theorem partsL_next (lab : List UInt8) (ls : List (List UInt8)) (k : Nat) (h : k < ls.length) : partsL lab (ls.take (k + 1)) = partsL lab (ls.take k) ++ [highB4 ls[k].length, ls[k]] := by
  unfold partsL
  rw [List.take_succ_eq_append_getElem h, List.flatMap_append]
  simp
theorem partsL_length (lab : List UInt8) (ls : List (List UInt8)) : (partsL lab ls).length = 2 + 2 * ls.length := by
  unfold partsL
  rw [List.length_append]
  have : ∀ ls : List (List UInt8), (ls.flatMap fun b => [highB4 b.length, b]).length = 2 * ls.length := by
    intro ls
    induction ls with
    | nil => rfl
    | cons a l ih => rw [List.flatMap_cons, List.length_append, ih, List.length_cons]; simp; omega
  rw [this]
  rfl
theorem partsL_flat (lab : List UInt8) (ls : List (List UInt8)) (hl : ∀ b ∈ ls, b.length ≤ 1000) : (partsL lab ls).flatten.length ≤ 1 + lab.length + 1004 * ls.length := by
  have : ∀ ls : List (List UInt8), (∀ b ∈ ls, b.length ≤ 1000) → (ls.flatMap fun b => [highB4 b.length, b]).flatten.length ≤ 1004 * ls.length := by
    intro ls
    induction ls with
    | nil => intro _; simp
    | cons a l ih =>
      intro h
      have h1 := h a (by simp)
      have h2 := ih fun b hb => h b (by simp [hb])
      rw [List.flatMap_cons, List.flatten_append, List.length_append, List.length_cons]
      have : ([highB4 a.length, a] : List (List UInt8)).flatten.length = 4 + a.length := by simp [highB4, lowB_length]
      omega
  have := this ls hl
  unfold partsL
  rw [List.flatten_append, List.length_append]
  have e : ([[UInt8.ofNat lab.length], lab] : List (List UInt8)).flatten.length = 1 + lab.length := by simp; omega
  omega

/-- A list of bytes whose row is none of lists that the call itself has laid (from base on). -/
def El (base : Nat) (w : World) (u : Value) (l : List UInt8) : Prop :=
  Bs w u l ∧ (0 < l.length → ∀ b off n c, u = .slice (some ⟨b, off, none⟩) n c → b < base ∨ ∃ cs ty fr, w.heap[b]? = some (.cells cs ty fr) ∧ ty ≠ 27)
theorem El.old {w w' : World} {u : Value} {l : List UInt8} {base : Nat} (h : Bs w u l) (hb : Below w.heap.size w w') (hs : w.heap.size ≤ base) : El base w' u l := by
  refine ⟨h.below hb, fun hl b off n c hu => .inl ?_⟩
  obtain ⟨A, c', hv, _, _, h3⟩ := h
  obtain ⟨b', off', hA, hc⟩ := h3 hl
  rw [hu] at hv
  injection hv with e1 _ _
  rw [hA] at e1
  injection e1 with e1
  injection e1 with e1 _ _
  have := World.block_lt_of_cell? w _ (hc 0 hl)
  simp only at this
  omega
theorem El.own {w : World} {u : Value} {l : List UInt8} {base base' : Nat} (h : OwnB w base' 5 u l) : El base w u l := by
  refine ⟨h.bs, fun hl b off n c hu => .inr ?_⟩
  obtain ⟨cur, hc⟩ := h.spot (k := b) (by rw [hu]; simp [Value.ownBlock])
  exact ⟨cur, _, _, hc, by decide⟩
theorem El.below {w w' : World} {u : Value} {l : List UInt8} {base : Nat} (h : El base w u l) (hb : Below w.heap.size w w') : El base w' u l := by
  refine ⟨h.1.below hb, fun hl b off n c hu => ?_⟩
  rcases h.2 hl b off n c hu with h1 | ⟨cs, ty, fr, h1, h2⟩
  · exact .inl h1
  · exact .inr ⟨cs, ty, fr, (hb.block b (Array.getElem?_eq_some_iff.1 h1).1).trans h1, h2⟩
theorem El.grown {w w' : World} {u v : Value} {l : List UInt8} {base n : Nat} {xs : List Value} (h : El base w u l) (ho : w.ownsRow base 27 1 v n xs) (hg : w.grownBy w' v.ownBlock) : El base w' u l := by
  have spot : ∀ k, v.ownBlock = some k → base ≤ k ∧ ∃ cur, w.heap[k]? = some (.cells cur 27 (0, 0)) := fun k hk => by
    rcases ho.2 with ⟨rfl, _⟩ | ⟨g, cap, cur, rfl, hb, hc, _⟩
    · cases hk
    · obtain rfl : g = k := by simpa [Value.ownBlock] using hk
      exact ⟨hb, cur, hc⟩
  have far : ∀ b, (b < base ∨ ∃ cs ty fr, w.heap[b]? = some (.cells cs ty fr) ∧ ty ≠ 27) → some b ≠ v.ownBlock := fun b hb e => by
    obtain ⟨h1, cur, h2⟩ := spot b e.symm
    rcases hb with hb | ⟨cs, ty, fr, h3, h4⟩
    · omega
    · rw [h2] at h3
      injection h3 with h3
      injection h3 with _ h3 _
      exact h4 h3.symm
  obtain ⟨⟨A, c, hv, h1, h2, h3⟩, hk⟩ := h
  refine ⟨⟨A, c, hv, h1, h2, fun hl => ?_⟩, fun hl b off n c hu => ?_⟩
  · obtain ⟨b, off, hA, hc⟩ := h3 hl
    refine ⟨b, off, hA, fun j hj => ?_⟩
    have hlt := World.block_lt_of_cell? w _ (hc j hj)
    have e := hg.block b hlt (far b (hk hl b off l.length c (by rw [hv, hA])))
    rw [← hc j hj]
    simp only [World.cell?, e]
  · rcases hk hl b off n c hu with h4 | ⟨cs, ty, fr, h4, h5⟩
    · exact .inl h4
    · exact .inr ⟨cs, ty, fr, (hg.block b (Array.getElem?_eq_some_iff.1 h4).1 (far b (.inr ⟨cs, ty, fr, h4, h5⟩))).trans h4, h5⟩

/-- The call's own list of lists. -/
def OwnSs (w : World) (base : Nat) (v : Value) (ls : List (List UInt8)) : Prop :=
  ∃ xs, w.ownsRow base 27 1 v ls.length xs ∧ xs.length = ls.length ∧ ∀ j (h1 : j < xs.length) (h2 : j < ls.length), El base w xs[j] ls[j]
theorem OwnSs.bss {w : World} {base : Nat} {v : Value} {ls : List (List UInt8)} (h : OwnSs w base v ls) : Bss w v ls := by
  obtain ⟨xs, h1, h2, h3⟩ := h
  exact Bss.own h1 h2 fun j a b => (h3 j a b).1
theorem OwnSs.below {w w' : World} {base : Nat} {v : Value} {ls : List (List UInt8)} (h : OwnSs w base v ls) (hb : Below w.heap.size w w') : OwnSs w' base v ls := by
  obtain ⟨xs, h1, h2, h3⟩ := h
  exact ⟨xs, World.ownsRow.kept (row := none) h1 ⟨hb.os, hb.tape, hb.output, hb.size, fun k hk _ => hb.block k hk⟩ (by cases v.ownBlock <;> simp), h2, fun j a b => (h3 j a b).below hb⟩
theorem OwnSs.two (w : World) (base : Nat) (hb : base ≤ w.heap.size) (u v : Value) (a b : List UInt8) (ha : El base w u a) (hc : El base w v b) :
    OwnSs (w.alloc (.cells #[u, v] 27)) base (.slice (some ⟨w.heap.size, 0, none⟩) 2 2) [a, b] :=
  ⟨[u, v], World.ownsRow_lit (base := base) (e := 27) (size := 1) w #[u, v] 2 hb (by unfold maxLen; omega) rfl, rfl, fun j h1 h2 => by
    match j, h1 with
    | 0, _ => exact ha.below (alloc_below _ _)
    | 1, _ => exact hc.below (alloc_below _ _)⟩
theorem Bs.isSlice2 {w : World} {u : Value} {l : List UInt8} (h : Bs w u l) : u.oneCell' = true := by
  obtain ⟨A, c, rfl, _⟩ := h
  rfl
/-- append of two more. -/
theorem wpList_appSs {P : Program} {w : World} {ops : Array Oper} {rest : List Oper} {o : Oper} {a : Act} {Q : Exit → Act → World → Prop} (hgd : o.guard = none) (s x : Operand) (t : TypeId)
    (ho : o.op = .call { callee := .builtin .append, args := #[s, x], argTypes := #[t, t] })
    (base : Nat) (hinfo : (P.info? 27).map (fun i => (i.zero, i.size, i.bytes)) = some (some (.slice none 0 0), 1, 24)) (ht : P.underlying t = some (.slice 27))
    (v u1 u2 : Value) (g : Nat) (ls : List (List UInt8)) (b1 b2 : List UInt8) (hs : a.eval s = v) (hx : a.eval x = .slice (some ⟨g, 0, none⟩) 2 2) (hg : RowAt w g 27 #[u1, u2])
    (hown : OwnSs w base v ls) (h1 : El base w u1 b1) (h2 : El base w u2 b2) (hlen : ls.length ≤ 1000000) (hb : base ≤ w.heap.size)
    (h : ∀ v' w', OwnSs w' base v' (ls ++ [b1, b2]) → w.grownBy w' v.ownBlock → (∀ k, v.ownBlock = some k → base ≤ k) → wpList P ops Q rest (a.put o.dst v') w') : wpList P ops Q (o :: rest) a w := by
  obtain ⟨i0, hi, hz0, hz1, hz2⟩ := info_parts hinfo
  obtain ⟨xs, hx1, hx2, hx3⟩ := hown
  refine wpList_append_own _ hgd s x t ho base 27 i0 (.slice none 0 0) 1 24 ht hi hz0 hz1 hz2 rfl (by decide) v ls.length xs hs hx1 ⟨g, 0, none⟩ 2 2 [u1, u2] hx rfl (fun j y hj => ?_) (fun y hy => ?_) (by unfold maxLen; omega) (by omega) hb ?_
  · have hj2 := (List.getElem?_eq_some_iff.1 hj).1
    have hadd : (⟨g, 0, none⟩ : Addr).add j = ⟨g, j, none⟩ := by unfold Addr.add; split <;> simp_all
    rw [hadd, hg.cell j]
    simpa using hj
  · rcases List.mem_cons.1 hy with rfl | hy
    · exact h1.1.isSlice2
    · obtain rfl : y = u2 := by simpa using hy
      exact h2.1.isSlice2
  · intro v' w' ho' hg' _
    refine h v' w' ⟨xs ++ [u1, u2], by rw [List.length_append]; exact ho', by simp [hx2], fun j a1 a2 => ?_⟩ hg' (fun k hk => (World.ownsRow.lt hx1 k hk).1)
    rcases Nat.lt_or_ge j xs.length with hlt | hge
    · rw [List.getElem_append_left hlt, List.getElem_append_left (by omega)]
      exact (hx3 j hlt (by omega)).grown hx1 hg'
    · obtain ⟨i, rfl⟩ : ∃ i, j = xs.length + i := ⟨j - xs.length, by omega⟩
      have hi2 : i < 2 := by simpa using a1
      have e1 : (xs ++ [u1, u2])[xs.length + i] = [u1, u2][i]'(by simpa using hi2) := by rw [List.getElem_append_right (by omega)]; simp
      have e2 : (ls ++ [b1, b2])[xs.length + i] = [b1, b2][i]'(by simpa using hi2) := by rw [List.getElem_append_right (by omega)]; simp [hx2]
      rw [e1, e2]
      match i, hi2 with
      | 0, _ => exact h1.grown hx1 hg'
      | 1, _ => exact h2.grown hx1 hg'

/-- '[]byte(s)'. -/
theorem bytes_el (w : World) (base : Nat) (s : ByteArray) (hs : s.size ≤ 1000) : El base (Lib.bytesWorld w 5 s) (.slice (some ⟨w.heap.size, 0, none⟩) s.size (grownCap w s.size 0 5)) s.data.toList ∧ Below w.heap.size w (Lib.bytesWorld w 5 s) := by
  have hl : s.data.toList.length = s.size := by simp
  refine ⟨⟨⟨_, grownCap w s.size 0 5, by rw [hl], by rw [hl]; exact grownCap_ge _ _ _ _, grownCap_le_maxLen _ _ _ _ (by unfold maxLen; omega), fun _ => ⟨w.heap.size, 0, rfl, fun j hj => ?_⟩⟩, fun _ b off n c hu => ?_⟩, Lib.bytesWorld_below _ _ _⟩
  · rw [Nat.zero_add, Lib.bytesWorld_cell w 5 s j (by rw [← hl]; exact hj)]
    congr 2
    rw [List.getD_eq_getElem?_getD, List.getElem?_eq_getElem hj]
    rfl
  · injection hu with e1 _ _
    injection e1 with e1
    injection e1 with e1 _ _
    subst e1
    exact .inr ⟨_, _, _, Lib.bytesWorld_at_new w 5 s, by decide⟩

set_option maxHeartbeats 4000000 in
theorem purpose_any (w : World) (lab : ByteArray) (hlab : lab.size ≤ 1000) (A : Option Addr) (c : Nat) (ls : List (List UInt8)) (hb : Bss w (.slice A ls.length c) ls) (hn : ls.length ≤ 100) (hl : ∀ b ∈ ls, b.length ≤ 1000) :
    Calls Tryd.prog 56 #[.string lab, .slice A ls.length c] w (RetBs w (infoB lab.data.toList ls)) := by
  have HB := Lib.hid hb
  have HN := Lib.hid hn
  have HL := Lib.hid hl
  clear hb hl hn
  by_cases hs : lab.size ≤ 255
  · go_enter Tryd.func56, Tryd.ntmps56
    go_wp2_with fail
    obtain ⟨s2, hs2⟩ : ∃ s, s = lab := ⟨_, rfl⟩
    obtain ⟨z, hz⟩ : ∃ z, s2.size = z := ⟨_, rfl⟩
    have hz' := hz
    rw [hs2] at hz'
    have hz2 : z ≤ 255 := by omega
    rw [hz', ← hs2]
    have hs1k : s2.size ≤ 1000 := by omega
    have HS2 := Lib.hid hs2
    clear hz' hs2
    have HZ : Hid (s2.size = z) := hz
    have hs1000 : s2.size ≤ 1000 := by omega
    clear hz hs hlab
    refine (High_own _ z 1 (by omega) (by omega) (by omega)).mono ?_
    intro e w1 h
    obtain ⟨u, he, hu, b1⟩ := h
    subst he
    have e1 : (lowB z 1).reverse = [UInt8.ofNat z] := by simp [lowB, byteN]
    rw [e1] at hu
    have E1 := Lib.hid (El.own (base := w.heap.size) hu)
    obtain ⟨UA, uc, hu2, _, _, _⟩ := hu.bs
    replace hu2 : u = .slice UA 1 uc := hu2
    subst hu2
    obtain ⟨E2, b2⟩ := bytes_el w1 w.heap.size s2 hs1000
    have hcv := Lib.run_convert_string_bytes (P := Tryd.prog) w1 9 27 5 s2 Tryd.underlying9 Tryd.underlying27 Tryd.underlying5
    obtain ⟨w2, hw2⟩ : ∃ y, y = Lib.bytesWorld w1 5 s2 := ⟨_, rfl⟩
    obtain ⟨gc, hgc⟩ : ∃ c, c = grownCap w1 s2.size 0 5 := ⟨_, rfl⟩
    rw [← hw2, ← hgc] at hcv E2
    rw [← hw2] at b2
    have HE2 := Lib.hid E2
    have HE1 := Lib.hid (E1.out.below b2)
    have B2 := Lib.hid (below_size b1 b2)
    clear hu e1 b1 b2 E2 E1 hw2 hgc
    go_wp2_with fail
    have O3 := Lib.hid (OwnSs.two w2 w.heap.size B2.out.size _ _ _ _ HE1.out HE2.out)
    have B3 := Lib.hid (below_size B2.out (alloc_below w2 (.cells #[.slice UA 1 uc, .slice (some ⟨w1.heap.size, 0, none⟩) s2.size gc] 27)))
    obtain ⟨labl, hlabl⟩ : ∃ l, l = s2.data.toList := ⟨_, rfl⟩
    have hll : labl.length = z := by rw [hlabl, ← HZ.out]; simp
    have hO3 : [[UInt8.ofNat z], s2.data.toList] = partsL labl (ls.take 0) := by rw [← hlabl]; simp [partsL, hll]
    rw [hO3] at O3
    have hres : infoB lab.data.toList ls = (partsL labl ls).flatten := by rw [hlabl, ← HS2.out, infoB, List.take_of_length_le (by have := HZ.out; simp; omega)]
    have HRES := Lib.hid hres
    have hfl := partsL_flat labl ls HL.out
    have HFL : Hid ((partsL labl ls).flatten.length ≤ 1000000000 ∧ (partsL labl ls).length ≤ 1000000000) := ⟨by have := HN.out; omega, by rw [partsL_length]; have := HN.out; omega⟩
    generalize w2.alloc (.cells #[.slice UA 1 uc, .slice (some ⟨w1.heap.size, 0, none⟩) s2.size gc] 27) = w3 at O3 B3 ⊢
    clear HE1 HE2 B2 hcv hO3 hlabl hll hres hfl hs1000 hz2
    go_loopw [5, 22] (fun v i wr => ∃ k : Nat, k ≤ ls.length ∧ i = .int .i64 k ∧ OwnSs wr w.heap.size v (partsL labl (ls.take k)) ∧ Below w.heap.size w wr) (fun _ i _ => ls.length - (intOf i).toNat)
    case atStart => exact ⟨0, Nat.zero_le _, rfl, O3.out, B3.out⟩
    case round =>
      clear O3 B3
      obtain ⟨k, hk, rfl, hO, hB⟩ := hrel
      have HO := Lib.hid hO
      have HBW := Lib.hid hB
      clear hO hB
      by_cases hlt : k < ls.length
      · obtain ⟨A', c', hv, hc1, hc2, hc3⟩ := HB.out
        injection hv with e1 e2 e3
        subst e1 e3
        obtain ⟨b, off, rfl, hcell⟩ := hc3 (by omega)
        obtain ⟨u, hcu, hbu⟩ := hcell k hlt
        have hcu2 := (HBW.out.cell (World.block_lt_of_cell? w _ hcu)).trans hcu
        have HU := Lib.hid (El.old (base := w.heap.size) hbu HBW.out (Nat.le_refl _))
        obtain ⟨UA2, uc2, rfl, q1, q2, _⟩ := hbu
        obtain ⟨bl, hbl⟩ : ∃ l, l = ls[k] := ⟨_, rfl⟩
        have hbn : bl.length ≤ 1000 := by rw [hbl]; exact HL.out _ (List.getElem_mem _)
        have hnx := partsL_next labl ls k hlt
        rw [← hbl] at hnx HU hcu2 hcu q1
        have HNX := Lib.hid hnx
        obtain ⟨m, hm⟩ : ∃ m, m = bl.length := ⟨_, rfl⟩
        have HM := Lib.hid hm
        rw [← hm] at hcu2 hbn q1 HU
        have v1 : IntKind.u64.wrap (m : Int) = (m : Int) := by rw [IntKind.wrap_u64]; omega
        unfold maxLen at q2 hc2
        clear hcell hcu hbl hnx hm hc3
        go_wp2_with fail
        refine (High_own _ m 4 (by omega) (by omega) (by omega)).mono ?_
        intro e w4 h
        obtain ⟨u4, he, hu4, b4⟩ := h
        subst he
        have HU4 := Lib.hid (El.own (base := w.heap.size) hu4)
        have HU5 := Lib.hid (HU.out.below b4)
        have HO4 := Lib.hid (HO.out.below b4)
        have B4 := Lib.hid (below_size HBW.out b4)
        obtain ⟨UA4, uc4, hv4, _, _, _⟩ := hu4.bs
        replace hv4 : u4 = .slice UA4 4 uc4 := by rw [hv4, List.length_reverse, lowB_length]
        subst hv4
        clear hu4 b4 HU HO HBW
        go_wp2_with (at_builtin; go_must (refine wpList_appSs rfl (.tmp 26) (.tmp 32) 38 rfl w.heap.size Tryd.infoS Tryd.underlying38 _ (.slice UA4 4 uc4) (.slice UA2 m uc2) w4.heap.size (partsL labl (ls.take k)) (highB4 m) bl rfl rfl (RowAt.new w4 27 _) (HO4.out.below (alloc_below _ _)) (HU4.out.below (alloc_below _ _)) (HU5.out.below (alloc_below _ _)) (by rw [partsL_length, List.length_take]; have := HN.out; omega) (by rw [World.size_alloc]; have := B4.out.size; omega) ?_); intro v6 w6 O6 g6 r6)
        have B6 := Lib.hid ((B4.out.alloc B4.out.size _).grown g6 (by rw [World.size_alloc]; have := B4.out.size; omega) r6)
        have HO6 : Hid (OwnSs w6 w.heap.size v6 (partsL labl (ls.take (k + 1)))) := by show OwnSs _ _ _ _; rw [HNX.out, ← HM.out]; exact O6
        clear O6 g6 r6 HO4 HU4 HU5 B4
        go_wp2
        go_roundw
        case rel => exact ⟨k + 1, by omega, by go_num, HO6.out, B6.out⟩
        case measure => simp [intOf]; omega
      · have hkn : k = ls.length := by omega
        have HO2 : Hid (OwnSs wr w.heap.size u5 (partsL labl ls)) := by have := HO.out; rw [hkn, List.take_of_length_le (Nat.le_refl _)] at this; exact this
        clear hkn HO
        go_wp2_with fail
        refine (Join_any wr _ _ HO2.out.bss (by have := HFL.out.1; omega) (by have := HFL.out.2; omega)).mono ?_
        intro e w7 h
        obtain ⟨u, he, hu, b7⟩ := h
        subst he
        have HU := Lib.hid hu
        have B7 := Lib.hid (below_size HBW.out b7)
        clear hu b7
        go_wp2
        go_ret
        exact ⟨u, rfl, by rw [HRES.out]; exact HU.out, B7.out⟩
  · go_enter Tryd.func56, Tryd.ntmps56
    go_wp2_with fail
    obtain ⟨z, hz1⟩ : ∃ z : Nat, z = min 255 lab.size := ⟨_, rfl⟩
    have hz2 : z ≤ 255 := by omega
    have hz3 : z = 255 := by omega
    rw [← hz1]
    obtain ⟨s2, hs2⟩ : ∃ s, s = lab.extract 0 255 := ⟨_, rfl⟩
    have hz : s2.size = z := by rw [hs2, ByteArray.size_extract]; omega
    have HS2 : Hid (s2.data.toList = lab.data.toList.take 255) := by show _ = _; rw [hs2]; simp
    rw [← hs2]
    have hs1k : s2.size ≤ 1000 := by omega
    clear hz1 hs2 hz3
    have HZ : Hid (s2.size = z) := hz
    have hs1000 : s2.size ≤ 1000 := by omega
    clear hz hs hlab
    refine (High_own _ z 1 (by omega) (by omega) (by omega)).mono ?_
    intro e w1 h
    obtain ⟨u, he, hu, b1⟩ := h
    subst he
    have e1 : (lowB z 1).reverse = [UInt8.ofNat z] := by simp [lowB, byteN]
    rw [e1] at hu
    have E1 := Lib.hid (El.own (base := w.heap.size) hu)
    obtain ⟨UA, uc, hu2, _, _, _⟩ := hu.bs
    replace hu2 : u = .slice UA 1 uc := hu2
    subst hu2
    obtain ⟨E2, b2⟩ := bytes_el w1 w.heap.size s2 hs1000
    have hcv := Lib.run_convert_string_bytes (P := Tryd.prog) w1 9 27 5 s2 Tryd.underlying9 Tryd.underlying27 Tryd.underlying5
    obtain ⟨w2, hw2⟩ : ∃ y, y = Lib.bytesWorld w1 5 s2 := ⟨_, rfl⟩
    obtain ⟨gc, hgc⟩ : ∃ c, c = grownCap w1 s2.size 0 5 := ⟨_, rfl⟩
    rw [← hw2, ← hgc] at hcv E2
    rw [← hw2] at b2
    have HE2 := Lib.hid E2
    have HE1 := Lib.hid (E1.out.below b2)
    have B2 := Lib.hid (below_size b1 b2)
    clear hu e1 b1 b2 E2 E1 hw2 hgc
    go_wp2_with fail
    have O3 := Lib.hid (OwnSs.two w2 w.heap.size B2.out.size _ _ _ _ HE1.out HE2.out)
    have B3 := Lib.hid (below_size B2.out (alloc_below w2 (.cells #[.slice UA 1 uc, .slice (some ⟨w1.heap.size, 0, none⟩) s2.size gc] 27)))
    obtain ⟨labl, hlabl⟩ : ∃ l, l = s2.data.toList := ⟨_, rfl⟩
    have hll : labl.length = z := by rw [hlabl, ← HZ.out]; simp
    have hO3 : [[UInt8.ofNat z], s2.data.toList] = partsL labl (ls.take 0) := by rw [← hlabl]; simp [partsL, hll]
    rw [hO3] at O3
    have hres : infoB lab.data.toList ls = (partsL labl ls).flatten := by rw [hlabl, HS2.out, infoB]
    have HRES := Lib.hid hres
    have hfl := partsL_flat labl ls HL.out
    have HFL : Hid ((partsL labl ls).flatten.length ≤ 1000000000 ∧ (partsL labl ls).length ≤ 1000000000) := ⟨by have := HN.out; omega, by rw [partsL_length]; have := HN.out; omega⟩
    generalize w2.alloc (.cells #[.slice UA 1 uc, .slice (some ⟨w1.heap.size, 0, none⟩) s2.size gc] 27) = w3 at O3 B3 ⊢
    clear HE1 HE2 B2 hcv hO3 hlabl hll hres hfl hs1000 hz2
    go_loopw [5, 22] (fun v i wr => ∃ k : Nat, k ≤ ls.length ∧ i = .int .i64 k ∧ OwnSs wr w.heap.size v (partsL labl (ls.take k)) ∧ Below w.heap.size w wr) (fun _ i _ => ls.length - (intOf i).toNat)
    case atStart => exact ⟨0, Nat.zero_le _, rfl, O3.out, B3.out⟩
    case round =>
      clear O3 B3
      obtain ⟨k, hk, rfl, hO, hB⟩ := hrel
      have HO := Lib.hid hO
      have HBW := Lib.hid hB
      clear hO hB
      by_cases hlt : k < ls.length
      · obtain ⟨A', c', hv, hc1, hc2, hc3⟩ := HB.out
        injection hv with e1 e2 e3
        subst e1 e3
        obtain ⟨b, off, rfl, hcell⟩ := hc3 (by omega)
        obtain ⟨u, hcu, hbu⟩ := hcell k hlt
        have hcu2 := (HBW.out.cell (World.block_lt_of_cell? w _ hcu)).trans hcu
        have HU := Lib.hid (El.old (base := w.heap.size) hbu HBW.out (Nat.le_refl _))
        obtain ⟨UA2, uc2, rfl, q1, q2, _⟩ := hbu
        obtain ⟨bl, hbl⟩ : ∃ l, l = ls[k] := ⟨_, rfl⟩
        have hbn : bl.length ≤ 1000 := by rw [hbl]; exact HL.out _ (List.getElem_mem _)
        have hnx := partsL_next labl ls k hlt
        rw [← hbl] at hnx HU hcu2 hcu q1
        have HNX := Lib.hid hnx
        obtain ⟨m, hm⟩ : ∃ m, m = bl.length := ⟨_, rfl⟩
        have HM := Lib.hid hm
        rw [← hm] at hcu2 hbn q1 HU
        have v1 : IntKind.u64.wrap (m : Int) = (m : Int) := by rw [IntKind.wrap_u64]; omega
        unfold maxLen at q2 hc2
        clear hcell hcu hbl hnx hm hc3
        go_wp2_with fail
        refine (High_own _ m 4 (by omega) (by omega) (by omega)).mono ?_
        intro e w4 h
        obtain ⟨u4, he, hu4, b4⟩ := h
        subst he
        have HU4 := Lib.hid (El.own (base := w.heap.size) hu4)
        have HU5 := Lib.hid (HU.out.below b4)
        have HO4 := Lib.hid (HO.out.below b4)
        have B4 := Lib.hid (below_size HBW.out b4)
        obtain ⟨UA4, uc4, hv4, _, _, _⟩ := hu4.bs
        replace hv4 : u4 = .slice UA4 4 uc4 := by rw [hv4, List.length_reverse, lowB_length]
        subst hv4
        clear hu4 b4 HU HO HBW
        go_wp2_with (at_builtin; go_must (refine wpList_appSs rfl (.tmp 26) (.tmp 32) 38 rfl w.heap.size Tryd.infoS Tryd.underlying38 _ (.slice UA4 4 uc4) (.slice UA2 m uc2) w4.heap.size (partsL labl (ls.take k)) (highB4 m) bl rfl rfl (RowAt.new w4 27 _) (HO4.out.below (alloc_below _ _)) (HU4.out.below (alloc_below _ _)) (HU5.out.below (alloc_below _ _)) (by rw [partsL_length, List.length_take]; have := HN.out; omega) (by rw [World.size_alloc]; have := B4.out.size; omega) ?_); intro v6 w6 O6 g6 r6)
        have B6 := Lib.hid ((B4.out.alloc B4.out.size _).grown g6 (by rw [World.size_alloc]; have := B4.out.size; omega) r6)
        have HO6 : Hid (OwnSs w6 w.heap.size v6 (partsL labl (ls.take (k + 1)))) := by show OwnSs _ _ _ _; rw [HNX.out, ← HM.out]; exact O6
        clear O6 g6 r6 HO4 HU4 HU5 B4
        go_wp2
        go_roundw
        case rel => exact ⟨k + 1, by omega, by go_num, HO6.out, B6.out⟩
        case measure => simp [intOf]; omega
      · have hkn : k = ls.length := by omega
        have HO2 : Hid (OwnSs wr w.heap.size u5 (partsL labl ls)) := by have := HO.out; rw [hkn, List.take_of_length_le (Nat.le_refl _)] at this; exact this
        clear hkn HO
        go_wp2_with fail
        refine (Join_any wr _ _ HO2.out.bss (by have := HFL.out.1; omega) (by have := HFL.out.2; omega)).mono ?_
        intro e w7 h
        obtain ⟨u, he, hu, b7⟩ := h
        subst he
        have HU := Lib.hid hu
        have B7 := Lib.hid (below_size HBW.out b7)
        clear hu b7
        go_wp2
        go_ret
        exact ⟨u, rfl, by rw [HRES.out]; exact HU.out, B7.out⟩
end Go.Proofs.YtdojaighchgghaaDoor
