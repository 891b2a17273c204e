/-
  Texts that belong together, merged: CodM, CodP. Conditions: as each theorem names them.
-/
import Derived.Test.YtjhhpakaemnemaaQCorAG
section
namespace Go.Proofs.Ytjhhpakaemnemaa
open Go.RowKit
set_option linter.unusedVariables false
set_option maxRecDepth 20000

def St.rd (s : St) (z : Int) : It := if z = 9 then ⟨9, 0, s.byt 4000, []⟩ else if z = 32 then ⟨32, 0, [], s.keys 100⟩ else ⟨z, s.num z, [], []⟩
def St.rdS (s : St) (z : Int) : St := if z = 9 then s.bytS 4000 else if z = 32 then s.keyS 100 else s.numS z
def decL : List Int → St → List It
  | [], _ => []
  | z :: r, s => s.rd z :: decL r (s.rdS z)
def decE : List Int → St → St
  | [], s => s
  | z :: r, s => decE r (s.rdS z)
theorem decL_length (l : List Int) : ∀ s, (decL l s).length = l.length := by
  induction l with
  | nil => intro s; rfl
  | cons z r ih => intro s; rw [decL, List.length_cons, ih, List.length_cons]
theorem decE_take (l : List Int) : ∀ (s : St) (j : Nat) (z : Int), l[j]? = some z → decE (l.take (j + 1)) s = (decE (l.take j) s).rdS z := by
  induction l with
  | nil => intro s j z h; cases h
  | cons y r ih =>
    intro s j z h
    cases j with
    | zero =>
      obtain rfl : y = z := by simpa using h
      rfl
    | succ j => exact ih (s.rdS y) j z (by simpa using h)
theorem decL_get (l : List Int) : ∀ (s : St) (j : Nat) (z : Int), l[j]? = some z → (decL l s)[j]? = some ((decE (l.take j) s).rd z) := by
  induction l with
  | nil => intro s j z h; cases h
  | cons y r ih =>
    intro s j z h
    cases j with
    | zero =>
      obtain rfl : y = z := by simpa using h
      rfl
    | succ j => exact ih (s.rdS y) j z (by simpa using h)
theorem St.num_lt64 (s : St) (z : Int) : s.num z < 18446744073709551616 := by
  unfold St.num
  split
  · have := ofHigh_lt ((s.take z.toNat).take 8) 8 (by rw [List.length_take]; omega)
    simpa using this
  · omega
theorem St.rd_n (s : St) (z : Int) : (s.rd z).n < 18446744073709551616 := by
  unfold St.rd
  split
  · simp
  · split
    · simp
    · exact s.num_lt64 z
def itsC (D : List It) (bv lv : Nat → Value) : Nat → List Value
  | 0 => []
  | n + 1 => itsC D bv lv n ++ itC (D.getD n default) (bv n) (lv n)
theorem itsC_length (D : List It) (bv lv : Nat → Value) (n : Nat) : (itsC D bv lv n).length = n * 4 := by
  induction n with
  | zero => rfl
  | succ n ih => rw [itsC, List.length_append, ih, Nat.add_mul]; rfl
theorem itsC_congr (D : List It) (bv lv bv' lv' : Nat → Value) (n : Nat) (h : ∀ k, k < n → bv k = bv' k ∧ lv k = lv' k) : itsC D bv lv n = itsC D bv' lv' n := by
  induction n with
  | zero => rfl
  | succ n ih => rw [itsC, itsC, ih fun k hk => h k (by omega), (h n (by omega)).1, (h n (by omega)).2]
theorem itsC_at (D : List It) (bv lv : Nat → Value) (n j : Nat) (h : j < n) (i : Nat) (u : Value) (hu : (itC (D.getD j default) (bv j) (lv j))[i]? = some u) : (itsC D bv lv n)[j * 4 + i]? = some u := by
  have hi : i < 4 := (List.getElem?_eq_some_iff.1 hu).1
  induction n with
  | zero => omega
  | succ n ih =>
    rw [itsC]
    by_cases hj : j < n
    · rw [List.getElem?_append_left (by rw [itsC_length]; omega)]
      exact ih hj
    · obtain rfl : j = n := by omega
      rw [List.getElem?_append_right (by rw [itsC_length]; omega), itsC_length, show j * 4 + i - j * 4 = i by omega]
      exact hu
/-- What is told of the items that were read. -/
def ItOk (w : World) (bv lv : Value) (x : It) : Prop := Bs w bv x.b ∧ U8At w bv ∧ Kl w lv x.l ∧ KyAt w lv
theorem ItOk.below {w w' : World} {bv lv : Value} {x : It} (h : ItOk w bv lv x) (hb : Below w.heap.size w w') : ItOk w' bv lv x := ⟨h.1.below hb, h.2.1.below hb, h.2.2.1.below hb, h.2.2.2.below hb⟩
theorem ItOk.far {w w' : World} {bv lv : Value} {x : It} {row : Option Nat} (h : ItOk w bv lv x) (hg : w.grownBy w' row) (hr : ∀ g, row = some g → ∃ t cs, RowAt w g t cs ∧ t ≠ 5 ∧ t ≠ 52) : ItOk w' bv lv x := by
  obtain ⟨h1, h2, h3, h4⟩ := h
  have a1 : bv.ownBlock ≠ row ∨ row = none := by
    rcases hrow : row with _ | g
    · exact .inr rfl
    · obtain ⟨t, cs, hr1, hr2, hr3⟩ := hr g hrow
      exact .inl (h2.other hr1 hr2)
  have a2 : lv.ownBlock ≠ row ∨ row = none := by
    rcases hrow : row with _ | g
    · exact .inr rfl
    · obtain ⟨t, cs, hr1, hr2, hr3⟩ := hr g hrow
      exact .inl (h4.other hr1 hr3)
  exact ⟨h1.grown2 hg a1, h2.grown hg a1, h3.grown2 hg a2, h4.grown hg a2⟩
theorem own_typed {w : World} {base n sz : Nat} {e : TypeId} {s : Value} {xs : List Value} (h : w.ownsRow base e sz s n xs) : ∀ g, s.ownBlock = some g → ∃ cs, RowAt w g e cs := by
  intro g hg
  rcases h.2 with ⟨rfl, _⟩ | ⟨k, cap, cur, rfl, _, hk, _⟩
  · cases hg
  · obtain rfl : k = g := by simpa [Value.ownBlock] using hg
    exact ⟨cur, hk⟩
theorem Zs.rw {w : World} {v : Value} {l : List Int} (h : Zs w v l) : Rw w v 1 l.length (fun j => [.int .i64 (l.getD j 0)]) := by
  obtain ⟨A, c, hv, h1, h2, h3⟩ := h
  refine ⟨A, c, hv, h1, h2, fun hl => ?_⟩
  obtain ⟨b, off, hA, hc⟩ := h3 hl
  refine ⟨b, off, hA, fun j hj i u hu => ?_⟩
  have hi : i < 1 := (List.getElem?_eq_some_iff.1 hu).1
  obtain rfl : i = 0 := by omega
  obtain rfl : Value.int .i64 (l.getD j 0) = u := by simpa using hu
  rw [Nat.mul_one, Nat.add_zero, hc j hj, List.getD_eq_getElem?_getD, List.getElem?_eq_getElem hj]
  rfl
theorem any_rangeI (l : List Int) (f : Int → Bool) : (List.range l.length).any (fun j => f (l.getD j 0)) = l.any f := by
  have e : l = (List.range l.length).map (fun j => l.getD j 0) := by
    apply List.ext_getElem (by simp)
    intro i h1 h2
    simp [List.getElem?_eq_getElem h1]
  conv => rhs; rw [e]
  rw [List.any_map]
  rfl
theorem Try.infoItem : (Try.prog.info? 60).map (fun i => (i.zero, i.size, i.bytes)) = some (some (.agg zeroIt), 4, 64) := by kernel_rfl
/-- What Decode hands back. -/
def DecRet (w : World) (shape : List Int) (b : List UInt8) (e : Ending) : Prop :=
  (shape.any badK = true ∧ e = .returned (.tuple #[.slice none 0 0, .int .i64 51])) ∨
  (shape.any badK = false ∧ (((decE shape ⟨b, 0⟩).fin ≠ 0 ∧ e = .returned (.tuple #[.slice none 0 0, .int .i64 (decE shape ⟨b, 0⟩).fin])) ∨ ((decE shape ⟨b, 0⟩).fin = 0 ∧ ∃ v, e = .returned (.tuple #[v, .int .i64 0]) ∧ Its w v (decL shape ⟨b, 0⟩))))

set_option maxHeartbeats 4000000 in
theorem decode_any (w : World) (v u : Value) (shape : List Int) (b : List UInt8) (hz : Zs w v shape) (hu : Bs w u b) (hn : shape.length ≤ 1000) (hl : b.length ≤ 140737488355000) :
    Calls Try.prog 15 #[v, u] w fun e w' => Below w.heap.size w w' ∧ DecRet w' shape b e := by
  have HZ := Lib.hid hz
  have HU := Lib.hid hu
  have HW := Lib.hid (fun w => ways_any w)
  obtain ⟨A, c, rfl, q1, q2, q3⟩ := hz
  obtain ⟨UA, uc, rfl, _, _, _⟩ := hu
  unfold maxLen at q2
  have HCON : Hid (∀ W q wv ps, Below w.heap.size w W → Boxed W q 78 wv → WaysAt W wv ps → Calls Try.prog 43 #[.slice A shape.length c, .func (.func 44) #[] #[.pointer (some ⟨q, 0, none⟩)]] W (RetV W (.bool (shape.any badK)))) := fun W q wv ps hb hq hw => by
    rw [← any_rangeI]
    exact hasInt_any W _ shape.length q _ (fun j => badK (shape.getD j 0)) (HZ.out.rw.below hb) fun j wr hj hbr => decode1_any wr q wv ps _ (boxed_below hq hbr) (hw.below hbr)
  have HRD : Hid (∀ w, Bs w (.slice UA b.length uc) b → Calls Try.prog 18 #[.slice UA b.length uc] w fun e w' => ∃ i, e = .returned (.pointer (some ⟨i, 0, none⟩)) ∧ w.heap.size ≤ i ∧ InAt w' i ⟨b, 0⟩ ∧ Below w.heap.size w w') := fun w h => read_any w _ b h hl
  obtain ⟨s0, hs0⟩ : ∃ s0 : St, s0 = ⟨b, 0⟩ := ⟨_, rfl⟩
  rw [← hs0] at HRD
  have HDR : Hid (∀ w e, DecRet w shape b e = ((shape.any badK = true ∧ e = .returned (.tuple #[.slice none 0 0, .int .i64 51])) ∨ (shape.any badK = false ∧ (((decE shape s0).fin ≠ 0 ∧ e = .returned (.tuple #[.slice none 0 0, .int .i64 (decE shape s0).fin])) ∨ ((decE shape s0).fin = 0 ∧ ∃ v, e = .returned (.tuple #[v, .int .i64 0]) ∧ Its w v (decL shape s0)))))) := fun w e => by rw [hs0]; rfl
  obtain ⟨D, hD⟩ : ∃ D, D = decL shape s0 := ⟨_, rfl⟩
  have HDG : Hid (∀ (j : Nat) z, shape[j]? = some z → D[j]? = some ((decE (shape.take j) s0).rd z)) := fun j z h => by rw [hD]; exact decL_get shape s0 j z h
  have HDE : Hid (∀ (j : Nat) z, shape[j]? = some z → decE (shape.take (j + 1)) s0 = (decE (shape.take j) s0).rdS z) := fun j z h => decE_take shape s0 j z h
  have HDL : Hid (D.length = shape.length) := by show _ = _; rw [hD, decL_length]
  rw [← hD] at HDR
  clear hs0 hD hl
  go_enter Try.func15, Try.ntmps15
  go_wp2_with fail
  refine (HW.out _).mono ?_
  intro e w1 hh
  obtain ⟨wv, ps, he, hwv, b1⟩ := hh
  subst he
  have AL1 := alloc_below w1 (.cells #[wv] 78)
  have HWV := Lib.hid (hwv.below AL1)
  have B2 := Lib.hid (below_size b1 AL1)
  have HBX := Lib.hid (Boxed.new w1 78 wv)
  obtain ⟨⟨WA, wc, rfl, _, _, hWA⟩, _⟩ := hwv
  obtain ⟨gw, ow, rfl, _⟩ := hWA (by omega)
  clear b1 AL1 HW hWA
  obtain ⟨g6, hg6⟩ : ∃ g6, g6 = w1.heap.size := ⟨_, rfl⟩
  rw [← hg6] at HBX
  obtain ⟨w2, hw2⟩ : ∃ w2, w2 = w1.alloc (.cells #[.slice (some ⟨gw, ow, none⟩) 6 wc] 78) := ⟨_, rfl⟩
  rw [← hw2] at HBX B2 HWV
  have HW2 := Lib.hid hw2
  have HG6 := Lib.hid hg6
  clear hw2 hg6
  go_wp2_with fail
  rw [← HW2.out, ← HG6.out]
  refine (HCON.out _ _ _ _ B2.out HBX.out HWV.out).mono ?_
  intro e w3 hh
  obtain ⟨he, b3⟩ := hh
  subst he
  have B3 := Lib.hid (below_size B2.out b3)
  have HBX3 := Lib.hid (boxed_below HBX.out b3)
  have HWV3 := Lib.hid (HWV.out.below b3)
  clear b3 HBX B2 HCON HW2 HG6
  cases hany : shape.any badK with
  | true =>
    go_wp2_with fail
    go_ret2
    exact ⟨B3.out, by rw [HDR.out]; exact .inl ⟨hany, rfl⟩⟩
  | false =>
    have HNB : Hid (∀ (j : Nat) z, shape[j]? = some z → badK z = false) := fun j z hx => by
      have := List.any_eq_false.1 hany z (List.mem_of_getElem? hx)
      simpa using this
    have HANY := Lib.hid hany
    clear hany
    go_wp2_with fail
    refine (HRD.out _ (HU.out.below B3.out)).mono ?_
    intro e w4 hh
    obtain ⟨ip, he, hip, hin, b4⟩ := hh
    subst he
    have HIN := Lib.hid hin
    have B4 := Lib.hid b4
    have hipl := hin.lt
    clear hin b4 HRD HU
    go_wp2_with fail
    go_loopw [8, 20] (fun v i wr => ∃ (j : Nat) (bv lv : Nat → Value), j ≤ shape.length ∧ i = .int .i64 (j : Int) ∧ wr.ownsRow w4.heap.size 60 4 v j (itsC D bv lv j) ∧ (∀ k, k < j → ItOk wr (bv k) (lv k) (D.getD k default)) ∧ InAt wr ip (decE (shape.take j) s0) ∧ w4.grownBy wr (some ip)) (fun _ i _ => shape.length - (intOf i).toNat)
    case atStart => exact ⟨0, fun _ => undef, fun _ => undef, by omega, rfl, World.ownsRow_nil _ _ _ _, fun k hk => by omega, HIN.out, World.grownBy.refl _ _⟩
    case round =>
      clear HIN
      obtain ⟨j, bv, lv, hj, rfl, ho, hok, hin, hg⟩ := hrel
      have HO := Lib.hid ho
      have HOK := Lib.hid hok
      have HIN := Lib.hid hin
      have HG := Lib.hid hg
      have HB3 : Hid (Below w3.heap.size w3 wr) := B4.out.grown hg B4.out.size (fun k e => by injection e with e; omega)
      obtain ⟨VA, vn, vc, rfl⟩ : ∃ VA vn vc, u8 = .slice VA vn vc := by
        rcases ho.2 with ⟨rfl, _⟩ | ⟨g, cap, cur, rfl, _⟩ <;> exact ⟨_, _, _, rfl⟩
      clear ho hok hin hg
      by_cases hlt : j < shape.length
      · have hlt2 : (j : Int) < (shape.length : Int) := by omega
        have hw1 : IntKind.i64.wrap ((j : Int) + 1) = (j : Int) + 1 := IntWalk.i64_in _ (by omega)
        have hq0 : ¬ ((j : Int) < 0) := by omega
        obtain ⟨z, hx⟩ : ∃ z, shape[j]? = some z := ⟨_, List.getElem?_eq_getElem hlt⟩
        obtain ⟨sb, so, rfl, hc⟩ := q3 (by omega)
        have hcell : wr.cell? ⟨sb, so + j, none⟩ = some (.int .i64 z) := by
          have h1 := hc j hlt
          have h2 := List.getElem?_eq_getElem hlt
          rw [hx] at h2
          injection h2 with h2
          rw [← h2] at h1
          have h3 := B3.out.trans (HB3.out.mono B3.out.size)
          exact (h3.cell (p := ⟨sb, so + j, none⟩) (World.block_lt_of_cell? w _ h1)).trans h1
        obtain ⟨s, hs⟩ : ∃ s, s = decE (shape.take j) s0 := ⟨_, rfl⟩
        have HDJ := HDG.out j z hx
        rw [← hs] at HIN HDJ
        have HGD : Hid (D.getD j default = s.rd z) := by show _ = _; rw [List.getD_eq_getElem?_getD, HDJ]; rfl
        have HE : Hid (decE (shape.take (j + 1)) s0 = s.rdS z) := by show _ = _; rw [HDE.out j z hx, ← hs]
        obtain ⟨p, hp1, hp2, hp3⟩ := pos_cases z (HNB.out j z hx)
        have hpi : (p : Int) < 6 := by omega
        have hpn : ¬ ((p : Int) < 0) := by omega
        have HPZ := Lib.hid hp3
        have HCF : Hid (∀ W, WaysAt W (.slice (some ⟨gw, ow, none⟩) 6 wc) ps → Calls Try.prog 41 #[.slice (some ⟨gw, ow, none⟩) 6 wc, .int .i64 z] W (RetV W (.int .i64 (p : Int)))) := fun W h => by
          have h1 := find_any W _ ps z h
          rwa [hp1] at h1
        have HBXr := Lib.hid (boxed_below HBX3.out HB3.out)
        have HWVr := Lib.hid (HWV3.out.below HB3.out)
        clear hc q3 hs HDJ hp1 hp3 hx
        go_wp2_with fail
        refine plain_region (S := fun W => Boxed W g6 78 (.slice (some ⟨gw, ow, none⟩) 6 wc) ∧ WaysAt W (.slice (some ⟨gw, ow, none⟩) 6 wc) ps) (fin := fun _ => false) (by kernel_rfl) ?_
        have hS : Boxed wr.drew g6 78 (.slice (some ⟨gw, ow, none⟩) 6 wc) ∧ WaysAt wr.drew (.slice (some ⟨gw, ow, none⟩) 6 wc) ps := ⟨HBXr.out, HWVr.out⟩
        change walkS _ _ _ _ _ _ 13 _ _ _
        refine walkS_take (i := 0) (oi := ⟨some 24, _, _, _, _, _⟩) (v := .slice VA vn vc) rfl (by kernel_rfl) (by kernel_rfl) (fun _ _ _ h => h) _ _ _ _ (by kernel_rfl) (by kernel_rfl) (Or.inl ⟨by rfl, fun w' hS' => (by clear hS hS'; go_simp)⟩) hS ?_
        try simp only [Act.put, List.setIfInBounds_toArray, List.set_cons_zero, List.set_cons_succ]
        refine walkS_take (i := 1) (oi := ⟨some 25, _, _, _, _, _⟩) (v := .slice (some ⟨gw, ow, none⟩) 6 wc) rfl (by kernel_rfl) (by kernel_rfl) (fun _ _ _ h => h) _ _ _ _ (by kernel_rfl) (by kernel_rfl) (Or.inl ⟨by rfl, fun w' hS' => (by have c0 := hS'.1.cell; clear hS hS'; go_simp)⟩) hS ?_
        try simp only [Act.put, List.setIfInBounds_toArray, List.set_cons_zero, List.set_cons_succ]
        refine walkS_take (i := 2) (oi := ⟨some 26, _, _, _, _, _⟩) (v := .slice (some ⟨gw, ow, none⟩) 6 wc) rfl (by kernel_rfl) (by kernel_rfl) (fun _ _ _ h => h) _ _ _ _ (by kernel_rfl) (by kernel_rfl) (Or.inl ⟨by rfl, fun w' hS' => (by have c0 := hS'.1.cell; clear hS hS'; go_simp)⟩) hS ?_
        try simp only [Act.put, List.setIfInBounds_toArray, List.set_cons_zero, List.set_cons_succ]
        refine walkS_take (i := 3) (oi := ⟨some 27, _, _, _, _, _⟩) (v := .int .i64 z) rfl (by kernel_rfl) (by kernel_rfl) (fun _ _ _ h => h) _ _ _ _ (by kernel_rfl) (by kernel_rfl) (Or.inl ⟨by rfl, fun w' hS' => (by clear hS hS'; go_simp)⟩) hS ?_
        try simp only [Act.put, List.setIfInBounds_toArray, List.set_cons_zero, List.set_cons_succ]
        refine walkS_take (i := 8) (oi := ⟨some 32, _, _, _, _, _⟩) (v := .pointer (some ⟨ip, 0, none⟩)) rfl (by kernel_rfl) (by kernel_rfl) (fun _ _ _ h => h) _ _ _ _ (by kernel_rfl) (by kernel_rfl) (Or.inl ⟨by rfl, fun w' hS' => (by clear hS hS'; go_simp)⟩) hS ?_
        try simp only [Act.put, List.setIfInBounds_toArray, List.set_cons_zero, List.set_cons_succ]
        refine walkS_only (i := 4) (o := ⟨some 28, _, _, _, _, _⟩) (by kernel_rfl) rfl rfl fun KK hKK => ?_
        go_simp
        refine (HCF.out _ hS.2).mono ?_
        intro e w9 hh
        obtain ⟨he, b9⟩ := hh
        subst he
        have B9 : Hid (Below wr.heap.size wr w9) := (Below.refl _ wr).drew.trans b9
        have hS2 := And.intro (boxed_below hS.1 b9) (hS.2.below b9)
        clear hS
        have hS := hS2
        clear hS2
        refine hKK _ _ (.inr hS) ?_
        clear hKK KK
        try simp only [Act.put, List.setIfInBounds_toArray, List.set_cons_zero, List.set_cons_succ]
        refine walkS_take (i := 5) (oi := ⟨some 29, _, _, _, _, _⟩) (v := .pointer (some ⟨gw, ow + p * 3, none⟩)) rfl (by kernel_rfl) (by kernel_rfl) (fun _ _ _ h => h) _ _ _ _ (by kernel_rfl) (by kernel_rfl) (Or.inl ⟨by rfl, fun w' hS' => (by clear hS hS'; go_simp)⟩) hS ?_
        try simp only [Act.put, List.setIfInBounds_toArray, List.set_cons_zero, List.set_cons_succ]
        refine walkS_take (i := 6) (oi := ⟨some 30, _, _, _, _, _⟩) (v := .pointer (some ⟨gw, ow + p * 3 + 2, none⟩)) rfl (by kernel_rfl) (by kernel_rfl) (fun _ _ _ h => h) _ _ _ _ (by kernel_rfl) (by kernel_rfl) (Or.inl ⟨by rfl, fun w' hS' => (by clear hS hS'; go_simp)⟩) hS ?_
        try simp only [Act.put, List.setIfInBounds_toArray, List.set_cons_zero, List.set_cons_succ]
        refine walkS_take (i := 7) (oi := ⟨some 31, _, _, _, _, _⟩) (v := wayR p (ps p)) rfl (by kernel_rfl) (by kernel_rfl) (fun _ _ _ h => h) _ _ _ _ (by kernel_rfl) (by kernel_rfl) (Or.inl ⟨by rfl, fun w' hS' => (by have c0 := hS'.2.rcell p hp2; clear hS hS'; go_simp)⟩) hS ?_
        try simp only [Act.put, List.setIfInBounds_toArray, List.set_cons_zero, List.set_cons_succ]
        have HWV9 := Lib.hid hS.2
        clear hS
        refine walkS_only (i := 9) (o := ⟨some 33, _, _, _, _, _⟩) (by kernel_rfl) rfl rfl fun KK hKK => ?_
        rcases wayR_cases p (ps p) hp2 with ⟨h0, hF⟩ | ⟨h0, hF⟩ | ⟨h0, hF⟩
        · have hz9 : z = 9 := by rw [HPZ.out, h0]; rfl
          have HRDz : Hid (s.rd z = ⟨9, 0, s.byt 4000, []⟩) := by show _ = _; unfold St.rd; rw [if_pos hz9]
          have HRDS : Hid (s.rdS z = s.bytS 4000) := by show _ = _; unfold St.rdS; rw [if_pos hz9]
          rw [hF]
          go_simp
          refine (read9_any w9 ip s (HIN.out.kept B9.out)).mono ?_
          intro e w10 hh
          obtain ⟨BV, he, hbs, hu8, hi, hg⟩ := hh
          subst he
          have hok : ItOk w10 BV (.slice none 0 0) (s.rd z) := by rw [HRDz.out]; exact ⟨hbs, hu8, Kl.nil _, KyAt.nil _ _ _⟩
          obtain ⟨s', hs'⟩ : ∃ s', s' = s.bytS 4000 := ⟨_, rfl⟩
          rw [← hs'] at hi HRDS
          clear hbs hu8 hs'
          have HRT : Hid (itC (s.rd z) BV (Value.slice none 0 0) = [.int .i64 9, .int .u64 0, BV, (Value.slice none 0 0)]) := congrArg (fun x => itC x BV (Value.slice none 0 0)) HRDz.out
          have HSN : Hid (decE (shape.take (j + 1)) s0 = s') := by show _ = _; rw [HE.out, HRDS.out]
          have I10 := Lib.hid hi
          have G10 : Hid (w4.grownBy w10 (some ip)) := (HG.out.trans ((grown_any B9.out (some ip)).trans hg))
          have HB10 : Hid (Below w3.heap.size w3 w10) := B4.out.grown G10.out B4.out.size (fun k e => by injection e with e; omega)
          have hip10 : some ip ≠ (Value.slice VA vn vc).ownBlock := by
            obtain ⟨v5, hr5, _⟩ := HIN.out
            exact own_off HO.out hr5 (by decide)
          have hgt : wr.grownBy w10 (some ip) := (grown_any B9.out (some ip)).trans hg
          have O10 := Lib.hid (World.ownsRow.kept HO.out hgt (.inr (fun e => hip10 e.symm)))
          have OK10 : Hid (∀ k, k < j → ItOk w10 (bv k) (lv k) (D.getD k default)) := fun k hk => (HOK.out k hk).far hgt (fun g e => by
            injection e with e
            subst e
            obtain ⟨v5, hr5, _⟩ := HIN.out
            exact ⟨_, _, hr5, by decide, by decide⟩)
          have OKJ : Hid (ItOk w10 BV (Value.slice none 0 0) (s.rd z)) := hok
          have hS := And.intro (boxed_below HBX3.out HB10.out) (HWV3.out.below HB10.out)
          refine hKK _ _ (.inr hS) ?_
          clear hKK KK hi hg hgt hok hS
          try simp only [Act.put, List.setIfInBounds_toArray, List.set_cons_zero, List.set_cons_succ]
          refine walkS_only (i := 10) (o := ⟨some 34, _, _, _, _, _⟩) (by kernel_rfl) rfl rfl fun KK hKK => ?_
          go_simp
          obtain ⟨w11, hw11⟩ : ∃ w11, w11 = w10.alloc (.cells (itC (s.rd z) BV (Value.slice none 0 0)).toArray 60) := ⟨_, rfl⟩
          have B11 : Hid (Below w10.heap.size w10 w11) := by show Below _ _ _; rw [hw11]; exact alloc_below _ _
          have R11 : Hid (RowAt w11 w10.heap.size 60 (itC (s.rd z) BV (Value.slice none 0 0)).toArray) := by show RowAt _ _ _ _; rw [hw11]; exact RowAt.new _ _ _
          have hw12 : w10.alloc (.cells #[.int .i64 9, .int .u64 0, BV, (Value.slice none 0 0)] 60) = w11 := by rw [hw11, HRT.out]
          rw [hw12]
          have hb11 : Below w3.heap.size w3 w11 := HB10.out.trans (B11.out.mono HB10.out.size)
          refine hKK _ _ (.inr ⟨boxed_below HBX3.out hb11, HWV3.out.below hb11⟩) ?_
          clear hKK KK hw11 hw12
          try simp only [Act.put, List.setIfInBounds_toArray, List.set_cons_zero, List.set_cons_succ]
          refine walkS_only (i := 11) (o := ⟨some 35, _, _, _, _, _⟩) (by kernel_rfl) rfl rfl fun KK hKK => ?_
          have O11 := Lib.hid (owned_far (row := none) O10.out (grown_of_below B11.out) (fun r e => by cases e))
          obtain ⟨i0, hi0, hz0, hz1, hz2⟩ := info_parts Try.infoItem
          have h410 : w4.heap.size ≤ w11.heap.size := Nat.le_trans G10.out.size B11.out.size
          refine wp_append_own w11 (.tmp 24) (.tmp 34) 22 rfl w4.heap.size 60 i0 (.agg zeroIt) 4 64 Try.underlying22 hi0 hz0 hz1 hz2 rfl (by decide) (.slice VA vn vc) j _ rfl O11.out ⟨w10.heap.size, 0, none⟩ 1 1 (itC (s.rd z) BV (Value.slice none 0 0)) rfl rfl (fun q y hq => ?_) (itC_one w10 _ BV (Value.slice none 0 0) OKJ.out.1 OKJ.out.2.2.1) (by unfold maxLen; omega) (by omega) h410 fun v2 w12 ho2 hg2 _ => ?_
          · have hadd : (⟨w10.heap.size, 0, none⟩ : Addr).add q = ⟨w10.heap.size, q, none⟩ := by unfold Addr.add; split <;> simp_all
            rw [hadd, R11.out.cell q]
            simpa using hq
          clear hi0 hz0 hz1 hz2
          have hty := own_typed O11.out
          have hlow : ∀ k, (Value.slice VA vn vc).ownBlock = some k → w4.heap.size ≤ k := fun k e => (World.ownsRow.lt O11.out k e).1
          have hfar : ∀ g, (Value.slice VA vn vc).ownBlock = some g → ∃ t cs, RowAt w11 g t cs ∧ t ≠ 5 ∧ t ≠ 52 := fun g e => by
            obtain ⟨cs, hcs⟩ := hty g e
            exact ⟨_, _, hcs, by decide, by decide⟩
          have hb12 : Below w3.heap.size w3 w12 := hb11.grown hg2 hb11.size (fun k e => Nat.le_trans B4.out.size (hlow k e))
          have G12 : Hid (w4.grownBy w12 (some ip)) := grown_past (G10.out.trans (grown_any B11.out (some ip))) hg2 hlow
          have I12 : Hid (InAt w12 ip s') := by
            have h11 := I10.out.kept B11.out
            rcases hvb : (Value.slice VA vn vc).ownBlock with _ | g
            · rw [hvb] at hg2
              exact h11.kept ⟨hg2.os, hg2.tape, hg2.output, hg2.size, fun k hk => hg2.block k hk (by simp)⟩
            · rw [hvb] at hg2
              obtain ⟨cs, hcs⟩ := hty g hvb
              have := hlow g hvb
              exact h11.far hcs (by decide) (by omega) hg2
          have OK12 : Hid (∀ k, k < j → ItOk w12 (bv k) (lv k) (D.getD k default)) := fun k hk => ((OK10.out k hk).below B11.out).far hg2 hfar
          have OKJ12 : Hid (ItOk w12 BV (Value.slice none 0 0) (s.rd z)) := (OKJ.out.below B11.out).far hg2 hfar
          have HO2 := Lib.hid ho2
          refine hKK _ _ (.inr ⟨boxed_below HBX3.out hb12, HWV3.out.below hb12⟩) ?_
          clear hKK KK hg2 hty hfar hb12 hb11
          obtain ⟨VA2, vn2, vc2, rfl⟩ : ∃ VA vn vc, v2 = .slice VA vn vc := by
            rcases ho2.2 with ⟨rfl, _⟩ | ⟨g, cap, cur, rfl, _⟩ <;> exact ⟨_, _, _, rfl⟩
          clear ho2
          try simp only [Act.put, List.setIfInBounds_toArray, List.set_cons_zero, List.set_cons_succ]
          refine walkS_only (i := 12) (o := ⟨some 8, _, _, _, _, _⟩) (by kernel_rfl) rfl rfl fun KK hKK => ?_
          go_simp
          have hb12 : Below w3.heap.size w3 w12 := B4.out.grown G12.out B4.out.size (fun k e => by injection e with e; omega)
          refine hKK _ _ (.inr ⟨boxed_below HBX3.out hb12, HWV3.out.below hb12⟩) (walkS_done (by kernel_rfl) ?_ _)
          clear hKK KK
          obtain ⟨bv', hbv⟩ : ∃ bv' : Nat → Value, bv' = fun k => if k = j then BV else bv k := ⟨_, rfl⟩
          obtain ⟨lv', hlv⟩ : ∃ lv' : Nat → Value, lv' = fun k => if k = j then (Value.slice none 0 0) else lv k := ⟨_, rfl⟩
          have HFIN : Hid (itsC D bv lv j ++ itC (s.rd z) BV (Value.slice none 0 0) = itsC D bv' lv' (j + 1)) := by
            show _ = _
            rw [itsC, HGD.out, hbv, hlv]
            simp only [if_true]
            rw [itsC_congr D bv lv (fun k => if k = j then BV else bv k) (fun k => if k = j then (Value.slice none 0 0) else lv k) j (fun k hk => ⟨by rw [if_neg (by omega)], by rw [if_neg (by omega)]⟩)]
          have HOKF : Hid (∀ k, k < j + 1 → ItOk w12 (bv' k) (lv' k) (D.getD k default)) := fun k hk => by
            rw [hbv, hlv]
            by_cases hkj : k = j
            · simp only [hkj, if_true]; rw [HGD.out]; exact OKJ12.out
            · simp only [if_neg hkj]; exact OK12.out k (by omega)
          clear hbv hlv
          go_wp2_with fail
          go_roundw
          case rel => exact ⟨j + 1, bv', lv', by omega, by go_num, by rw [← HFIN.out]; exact HO2.out, HOKF.out, by rw [HSN.out]; exact I12.out, G12.out⟩
          case measure => simp [intOf]; omega
        · have hz9 : z = 32 := by rw [HPZ.out, h0]; rfl
          have HRDz : Hid (s.rd z = ⟨32, 0, [], s.keys 100⟩) := by show _ = _; unfold St.rd; rw [if_neg (by rw [hz9]; decide), if_pos hz9]
          have HRDS : Hid (s.rdS z = s.keyS 100) := by show _ = _; unfold St.rdS; rw [if_neg (by rw [hz9]; decide), if_pos hz9]
          rw [hF]
          go_simp
          refine (read32_any w9 ip s (HIN.out.kept B9.out)).mono ?_
          intro e w10 hh
          obtain ⟨LV, he, hbs, hu8, hi, hg⟩ := hh
          subst he
          have hok : ItOk w10 (.slice none 0 0) LV (s.rd z) := by rw [HRDz.out]; exact ⟨Bs.nil _, U8At.nil _ _ _, hbs, hu8⟩
          obtain ⟨s', hs'⟩ : ∃ s', s' = s.keyS 100 := ⟨_, rfl⟩
          rw [← hs'] at hi HRDS
          clear hbs hu8 hs'
          have HRT : Hid (itC (s.rd z) (Value.slice none 0 0) LV = [.int .i64 32, .int .u64 0, (Value.slice none 0 0), LV]) := congrArg (fun x => itC x (Value.slice none 0 0) LV) HRDz.out
          have HSN : Hid (decE (shape.take (j + 1)) s0 = s') := by show _ = _; rw [HE.out, HRDS.out]
          have I10 := Lib.hid hi
          have G10 : Hid (w4.grownBy w10 (some ip)) := (HG.out.trans ((grown_any B9.out (some ip)).trans hg))
          have HB10 : Hid (Below w3.heap.size w3 w10) := B4.out.grown G10.out B4.out.size (fun k e => by injection e with e; omega)
          have hip10 : some ip ≠ (Value.slice VA vn vc).ownBlock := by
            obtain ⟨v5, hr5, _⟩ := HIN.out
            exact own_off HO.out hr5 (by decide)
          have hgt : wr.grownBy w10 (some ip) := (grown_any B9.out (some ip)).trans hg
          have O10 := Lib.hid (World.ownsRow.kept HO.out hgt (.inr (fun e => hip10 e.symm)))
          have OK10 : Hid (∀ k, k < j → ItOk w10 (bv k) (lv k) (D.getD k default)) := fun k hk => (HOK.out k hk).far hgt (fun g e => by
            injection e with e
            subst e
            obtain ⟨v5, hr5, _⟩ := HIN.out
            exact ⟨_, _, hr5, by decide, by decide⟩)
          have OKJ : Hid (ItOk w10 (Value.slice none 0 0) LV (s.rd z)) := hok
          have hS := And.intro (boxed_below HBX3.out HB10.out) (HWV3.out.below HB10.out)
          refine hKK _ _ (.inr hS) ?_
          clear hKK KK hi hg hgt hok hS
          try simp only [Act.put, List.setIfInBounds_toArray, List.set_cons_zero, List.set_cons_succ]
          refine walkS_only (i := 10) (o := ⟨some 34, _, _, _, _, _⟩) (by kernel_rfl) rfl rfl fun KK hKK => ?_
          go_simp
          obtain ⟨w11, hw11⟩ : ∃ w11, w11 = w10.alloc (.cells (itC (s.rd z) (Value.slice none 0 0) LV).toArray 60) := ⟨_, rfl⟩
          have B11 : Hid (Below w10.heap.size w10 w11) := by show Below _ _ _; rw [hw11]; exact alloc_below _ _
          have R11 : Hid (RowAt w11 w10.heap.size 60 (itC (s.rd z) (Value.slice none 0 0) LV).toArray) := by show RowAt _ _ _ _; rw [hw11]; exact RowAt.new _ _ _
          have hw12 : w10.alloc (.cells #[.int .i64 32, .int .u64 0, (Value.slice none 0 0), LV] 60) = w11 := by rw [hw11, HRT.out]
          rw [hw12]
          have hb11 : Below w3.heap.size w3 w11 := HB10.out.trans (B11.out.mono HB10.out.size)
          refine hKK _ _ (.inr ⟨boxed_below HBX3.out hb11, HWV3.out.below hb11⟩) ?_
          clear hKK KK hw11 hw12
          try simp only [Act.put, List.setIfInBounds_toArray, List.set_cons_zero, List.set_cons_succ]
          refine walkS_only (i := 11) (o := ⟨some 35, _, _, _, _, _⟩) (by kernel_rfl) rfl rfl fun KK hKK => ?_
          have O11 := Lib.hid (owned_far (row := none) O10.out (grown_of_below B11.out) (fun r e => by cases e))
          obtain ⟨i0, hi0, hz0, hz1, hz2⟩ := info_parts Try.infoItem
          have h410 : w4.heap.size ≤ w11.heap.size := Nat.le_trans G10.out.size B11.out.size
          refine wp_append_own w11 (.tmp 24) (.tmp 34) 22 rfl w4.heap.size 60 i0 (.agg zeroIt) 4 64 Try.underlying22 hi0 hz0 hz1 hz2 rfl (by decide) (.slice VA vn vc) j _ rfl O11.out ⟨w10.heap.size, 0, none⟩ 1 1 (itC (s.rd z) (Value.slice none 0 0) LV) rfl rfl (fun q y hq => ?_) (itC_one w10 _ (Value.slice none 0 0) LV OKJ.out.1 OKJ.out.2.2.1) (by unfold maxLen; omega) (by omega) h410 fun v2 w12 ho2 hg2 _ => ?_
          · have hadd : (⟨w10.heap.size, 0, none⟩ : Addr).add q = ⟨w10.heap.size, q, none⟩ := by unfold Addr.add; split <;> simp_all
            rw [hadd, R11.out.cell q]
            simpa using hq
          clear hi0 hz0 hz1 hz2
          have hty := own_typed O11.out
          have hlow : ∀ k, (Value.slice VA vn vc).ownBlock = some k → w4.heap.size ≤ k := fun k e => (World.ownsRow.lt O11.out k e).1
          have hfar : ∀ g, (Value.slice VA vn vc).ownBlock = some g → ∃ t cs, RowAt w11 g t cs ∧ t ≠ 5 ∧ t ≠ 52 := fun g e => by
            obtain ⟨cs, hcs⟩ := hty g e
            exact ⟨_, _, hcs, by decide, by decide⟩
          have hb12 : Below w3.heap.size w3 w12 := hb11.grown hg2 hb11.size (fun k e => Nat.le_trans B4.out.size (hlow k e))
          have G12 : Hid (w4.grownBy w12 (some ip)) := grown_past (G10.out.trans (grown_any B11.out (some ip))) hg2 hlow
          have I12 : Hid (InAt w12 ip s') := by
            have h11 := I10.out.kept B11.out
            rcases hvb : (Value.slice VA vn vc).ownBlock with _ | g
            · rw [hvb] at hg2
              exact h11.kept ⟨hg2.os, hg2.tape, hg2.output, hg2.size, fun k hk => hg2.block k hk (by simp)⟩
            · rw [hvb] at hg2
              obtain ⟨cs, hcs⟩ := hty g hvb
              have := hlow g hvb
              exact h11.far hcs (by decide) (by omega) hg2
          have OK12 : Hid (∀ k, k < j → ItOk w12 (bv k) (lv k) (D.getD k default)) := fun k hk => ((OK10.out k hk).below B11.out).far hg2 hfar
          have OKJ12 : Hid (ItOk w12 (Value.slice none 0 0) LV (s.rd z)) := (OKJ.out.below B11.out).far hg2 hfar
          have HO2 := Lib.hid ho2
          refine hKK _ _ (.inr ⟨boxed_below HBX3.out hb12, HWV3.out.below hb12⟩) ?_
          clear hKK KK hg2 hty hfar hb12 hb11
          obtain ⟨VA2, vn2, vc2, rfl⟩ : ∃ VA vn vc, v2 = .slice VA vn vc := by
            rcases ho2.2 with ⟨rfl, _⟩ | ⟨g, cap, cur, rfl, _⟩ <;> exact ⟨_, _, _, rfl⟩
          clear ho2
          try simp only [Act.put, List.setIfInBounds_toArray, List.set_cons_zero, List.set_cons_succ]
          refine walkS_only (i := 12) (o := ⟨some 8, _, _, _, _, _⟩) (by kernel_rfl) rfl rfl fun KK hKK => ?_
          go_simp
          have hb12 : Below w3.heap.size w3 w12 := B4.out.grown G12.out B4.out.size (fun k e => by injection e with e; omega)
          refine hKK _ _ (.inr ⟨boxed_below HBX3.out hb12, HWV3.out.below hb12⟩) (walkS_done (by kernel_rfl) ?_ _)
          clear hKK KK
          obtain ⟨bv', hbv⟩ : ∃ bv' : Nat → Value, bv' = fun k => if k = j then (Value.slice none 0 0) else bv k := ⟨_, rfl⟩
          obtain ⟨lv', hlv⟩ : ∃ lv' : Nat → Value, lv' = fun k => if k = j then LV else lv k := ⟨_, rfl⟩
          have HFIN : Hid (itsC D bv lv j ++ itC (s.rd z) (Value.slice none 0 0) LV = itsC D bv' lv' (j + 1)) := by
            show _ = _
            rw [itsC, HGD.out, hbv, hlv]
            simp only [if_true]
            rw [itsC_congr D bv lv (fun k => if k = j then (Value.slice none 0 0) else bv k) (fun k => if k = j then LV else lv k) j (fun k hk => ⟨by rw [if_neg (by omega)], by rw [if_neg (by omega)]⟩)]
          have HOKF : Hid (∀ k, k < j + 1 → ItOk w12 (bv' k) (lv' k) (D.getD k default)) := fun k hk => by
            rw [hbv, hlv]
            by_cases hkj : k = j
            · simp only [hkj, if_true]; rw [HGD.out]; exact OKJ12.out
            · simp only [if_neg hkj]; exact OK12.out k (by omega)
          clear hbv hlv
          go_wp2_with fail
          go_roundw
          case rel => exact ⟨j + 1, bv', lv', by omega, by go_num, by rw [← HFIN.out]; exact HO2.out, HOKF.out, by rw [HSN.out]; exact I12.out, G12.out⟩
          case measure => simp [intOf]; omega
        · have hkn := kind_ne p h0 hp2
          rw [← HPZ.out] at hkn
          have HRDz : Hid (s.rd z = ⟨z, s.num z, [], []⟩) := by show _ = _; unfold St.rd; rw [if_neg hkn.1, if_neg hkn.2]
          have HRDS : Hid (s.rdS z = s.numS z) := by show _ = _; unfold St.rdS; rw [if_neg hkn.1, if_neg hkn.2]
          have hbp := HWV9.out.2 p h0 hp2
          rw [← HPZ.out] at hbp
          have hpip : ps p ≠ ip := fun e => by
            have := (Array.getElem?_eq_some_iff.1 (HWV3.out.2 p h0 hp2)).1
            omega
          rw [hF]
          go_simp
          refine (readN_any w9 ip (ps p) s z (HIN.out.kept B9.out) hbp hpip).mono ?_
          intro e w10 hh
          obtain ⟨he, hi, hg⟩ := hh
          subst he
          have hok : ItOk w10 (.slice none 0 0) (.slice none 0 0) (s.rd z) := by rw [HRDz.out]; exact ⟨Bs.nil _, U8At.nil _ _ _, Kl.nil _, KyAt.nil _ _ _⟩
          obtain ⟨s', hs'⟩ : ∃ s', s' = s.numS z := ⟨_, rfl⟩
          rw [← hs'] at hi HRDS
          obtain ⟨NN, hNN⟩ : ∃ NN, NN = s.num z := ⟨_, rfl⟩
          rw [← hNN] at HRDz ⊢
          clear hs' hbp hNN
          have HRT : Hid (itC (s.rd z) (Value.slice none 0 0) (Value.slice none 0 0) = [.int .i64 z, .int .u64 (NN : Int), (Value.slice none 0 0), (Value.slice none 0 0)]) := congrArg (fun x => itC x (Value.slice none 0 0) (Value.slice none 0 0)) HRDz.out
          have HSN : Hid (decE (shape.take (j + 1)) s0 = s') := by show _ = _; rw [HE.out, HRDS.out]
          have I10 := Lib.hid hi
          have G10 : Hid (w4.grownBy w10 (some ip)) := (HG.out.trans ((grown_any B9.out (some ip)).trans hg))
          have HB10 : Hid (Below w3.heap.size w3 w10) := B4.out.grown G10.out B4.out.size (fun k e => by injection e with e; omega)
          have hip10 : some ip ≠ (Value.slice VA vn vc).ownBlock := by
            obtain ⟨v5, hr5, _⟩ := HIN.out
            exact own_off HO.out hr5 (by decide)
          have hgt : wr.grownBy w10 (some ip) := (grown_any B9.out (some ip)).trans hg
          have O10 := Lib.hid (World.ownsRow.kept HO.out hgt (.inr (fun e => hip10 e.symm)))
          have OK10 : Hid (∀ k, k < j → ItOk w10 (bv k) (lv k) (D.getD k default)) := fun k hk => (HOK.out k hk).far hgt (fun g e => by
            injection e with e
            subst e
            obtain ⟨v5, hr5, _⟩ := HIN.out
            exact ⟨_, _, hr5, by decide, by decide⟩)
          have OKJ : Hid (ItOk w10 (Value.slice none 0 0) (Value.slice none 0 0) (s.rd z)) := hok
          have hS := And.intro (boxed_below HBX3.out HB10.out) (HWV3.out.below HB10.out)
          refine hKK _ _ (.inr hS) ?_
          clear hKK KK hi hg hgt hok hS
          try simp only [Act.put, List.setIfInBounds_toArray, List.set_cons_zero, List.set_cons_succ]
          refine walkS_only (i := 10) (o := ⟨some 34, _, _, _, _, _⟩) (by kernel_rfl) rfl rfl fun KK hKK => ?_
          go_simp
          obtain ⟨w11, hw11⟩ : ∃ w11, w11 = w10.alloc (.cells (itC (s.rd z) (Value.slice none 0 0) (Value.slice none 0 0)).toArray 60) := ⟨_, rfl⟩
          have B11 : Hid (Below w10.heap.size w10 w11) := by show Below _ _ _; rw [hw11]; exact alloc_below _ _
          have R11 : Hid (RowAt w11 w10.heap.size 60 (itC (s.rd z) (Value.slice none 0 0) (Value.slice none 0 0)).toArray) := by show RowAt _ _ _ _; rw [hw11]; exact RowAt.new _ _ _
          have hw12 : w10.alloc (.cells #[.int .i64 z, .int .u64 (NN : Int), (Value.slice none 0 0), (Value.slice none 0 0)] 60) = w11 := by rw [hw11, HRT.out]
          rw [hw12]
          have hb11 : Below w3.heap.size w3 w11 := HB10.out.trans (B11.out.mono HB10.out.size)
          refine hKK _ _ (.inr ⟨boxed_below HBX3.out hb11, HWV3.out.below hb11⟩) ?_
          clear hKK KK hw11 hw12
          try simp only [Act.put, List.setIfInBounds_toArray, List.set_cons_zero, List.set_cons_succ]
          refine walkS_only (i := 11) (o := ⟨some 35, _, _, _, _, _⟩) (by kernel_rfl) rfl rfl fun KK hKK => ?_
          have O11 := Lib.hid (owned_far (row := none) O10.out (grown_of_below B11.out) (fun r e => by cases e))
          obtain ⟨i0, hi0, hz0, hz1, hz2⟩ := info_parts Try.infoItem
          have h410 : w4.heap.size ≤ w11.heap.size := Nat.le_trans G10.out.size B11.out.size
          refine wp_append_own w11 (.tmp 24) (.tmp 34) 22 rfl w4.heap.size 60 i0 (.agg zeroIt) 4 64 Try.underlying22 hi0 hz0 hz1 hz2 rfl (by decide) (.slice VA vn vc) j _ rfl O11.out ⟨w10.heap.size, 0, none⟩ 1 1 (itC (s.rd z) (Value.slice none 0 0) (Value.slice none 0 0)) rfl rfl (fun q y hq => ?_) (itC_one w10 _ (Value.slice none 0 0) (Value.slice none 0 0) OKJ.out.1 OKJ.out.2.2.1) (by unfold maxLen; omega) (by omega) h410 fun v2 w12 ho2 hg2 _ => ?_
          · have hadd : (⟨w10.heap.size, 0, none⟩ : Addr).add q = ⟨w10.heap.size, q, none⟩ := by unfold Addr.add; split <;> simp_all
            rw [hadd, R11.out.cell q]
            simpa using hq
          clear hi0 hz0 hz1 hz2
          have hty := own_typed O11.out
          have hlow : ∀ k, (Value.slice VA vn vc).ownBlock = some k → w4.heap.size ≤ k := fun k e => (World.ownsRow.lt O11.out k e).1
          have hfar : ∀ g, (Value.slice VA vn vc).ownBlock = some g → ∃ t cs, RowAt w11 g t cs ∧ t ≠ 5 ∧ t ≠ 52 := fun g e => by
            obtain ⟨cs, hcs⟩ := hty g e
            exact ⟨_, _, hcs, by decide, by decide⟩
          have hb12 : Below w3.heap.size w3 w12 := hb11.grown hg2 hb11.size (fun k e => Nat.le_trans B4.out.size (hlow k e))
          have G12 : Hid (w4.grownBy w12 (some ip)) := grown_past (G10.out.trans (grown_any B11.out (some ip))) hg2 hlow
          have I12 : Hid (InAt w12 ip s') := by
            have h11 := I10.out.kept B11.out
            rcases hvb : (Value.slice VA vn vc).ownBlock with _ | g
            · rw [hvb] at hg2
              exact h11.kept ⟨hg2.os, hg2.tape, hg2.output, hg2.size, fun k hk => hg2.block k hk (by simp)⟩
            · rw [hvb] at hg2
              obtain ⟨cs, hcs⟩ := hty g hvb
              have := hlow g hvb
              exact h11.far hcs (by decide) (by omega) hg2
          have OK12 : Hid (∀ k, k < j → ItOk w12 (bv k) (lv k) (D.getD k default)) := fun k hk => ((OK10.out k hk).below B11.out).far hg2 hfar
          have OKJ12 : Hid (ItOk w12 (Value.slice none 0 0) (Value.slice none 0 0) (s.rd z)) := (OKJ.out.below B11.out).far hg2 hfar
          have HO2 := Lib.hid ho2
          refine hKK _ _ (.inr ⟨boxed_below HBX3.out hb12, HWV3.out.below hb12⟩) ?_
          clear hKK KK hg2 hty hfar hb12 hb11
          obtain ⟨VA2, vn2, vc2, rfl⟩ : ∃ VA vn vc, v2 = .slice VA vn vc := by
            rcases ho2.2 with ⟨rfl, _⟩ | ⟨g, cap, cur, rfl, _⟩ <;> exact ⟨_, _, _, rfl⟩
          clear ho2
          try simp only [Act.put, List.setIfInBounds_toArray, List.set_cons_zero, List.set_cons_succ]
          refine walkS_only (i := 12) (o := ⟨some 8, _, _, _, _, _⟩) (by kernel_rfl) rfl rfl fun KK hKK => ?_
          go_simp
          have hb12 : Below w3.heap.size w3 w12 := B4.out.grown G12.out B4.out.size (fun k e => by injection e with e; omega)
          refine hKK _ _ (.inr ⟨boxed_below HBX3.out hb12, HWV3.out.below hb12⟩) (walkS_done (by kernel_rfl) ?_ _)
          clear hKK KK
          obtain ⟨bv', hbv⟩ : ∃ bv' : Nat → Value, bv' = fun k => if k = j then (Value.slice none 0 0) else bv k := ⟨_, rfl⟩
          obtain ⟨lv', hlv⟩ : ∃ lv' : Nat → Value, lv' = fun k => if k = j then (Value.slice none 0 0) else lv k := ⟨_, rfl⟩
          have HFIN : Hid (itsC D bv lv j ++ itC (s.rd z) (Value.slice none 0 0) (Value.slice none 0 0) = itsC D bv' lv' (j + 1)) := by
            show _ = _
            rw [itsC, HGD.out, hbv, hlv]
            simp only [if_true]
            rw [itsC_congr D bv lv (fun k => if k = j then (Value.slice none 0 0) else bv k) (fun k => if k = j then (Value.slice none 0 0) else lv k) j (fun k hk => ⟨by rw [if_neg (by omega)], by rw [if_neg (by omega)]⟩)]
          have HOKF : Hid (∀ k, k < j + 1 → ItOk w12 (bv' k) (lv' k) (D.getD k default)) := fun k hk => by
            rw [hbv, hlv]
            by_cases hkj : k = j
            · simp only [hkj, if_true]; rw [HGD.out]; exact OKJ12.out
            · simp only [if_neg hkj]; exact OK12.out k (by omega)
          clear hbv hlv
          go_wp2_with fail
          go_roundw
          case rel => exact ⟨j + 1, bv', lv', by omega, by go_num, by rw [← HFIN.out]; exact HO2.out, HOKF.out, by rw [HSN.out]; exact I12.out, G12.out⟩
          case measure => simp [intOf]; omega
      · have hj2 : j = shape.length := by omega
        subst hj2
        rw [List.take_length] at HIN
        have HEND := Lib.hid (inEnd_any wr ip (decE shape s0) HIN.out)
        obtain ⟨F, hF⟩ : ∃ F, F = (decE shape s0).fin := ⟨_, rfl⟩
        rw [← hF] at HEND
        have HFF := Lib.hid hF
        have HBW : Hid (Below w.heap.size w wr) := B3.out.trans (HB3.out.mono B3.out.size)
        clear hF
        go_wp2_with fail
        refine HEND.out.mono ?_
        intro e w9 hh
        obtain ⟨he, hw9⟩ := hh
        subst he hw9
        by_cases hF0 : F = 0
        · have hd : decide (F = 0) = true := by simp [hF0]
          subst hF0
          go_wp2_with fail
          go_ret2
          refine ⟨HBW.out, ?_⟩
          rw [HDR.out]
          refine .inr ⟨HANY.out, .inr ⟨HFF.out.symm, _, rfl, bv, lv, ?_, fun k x hx => ?_⟩⟩
          · rw [HDL.out]
            rcases HO.out.2 with ⟨h0, h1⟩ | ⟨g, cap, cur, h0, _, hg, h1, h2, _⟩
            · rw [h0, h1]
              exact ⟨none, 0, rfl, Nat.le_refl _, by simp [maxLen], fun h => absurd h (by omega)⟩
            · refine ⟨_, cap, h0, h1, h2, fun _ => ⟨g, 0, rfl, fun k hk i u hu => ?_⟩⟩
              have hcs := World.ownsRow.cells HO.out (g := g) (by rw [h0]; rfl) (k * 4 + i) u (itsC_at D bv lv _ k hk i u hu)
              have hadd : (⟨g, 0, none⟩ : Addr).add (k * 4 + i) = ⟨g, k * 4 + i, none⟩ := by unfold Addr.add; split <;> simp_all
              rw [hadd] at hcs
              rw [Nat.zero_add]
              exact hcs
          · have hkl : k < shape.length := by rw [← HDL.out]; exact (List.getElem?_eq_some_iff.1 hx).1
            have h1 := HOK.out k hkl
            rw [List.getD_eq_getElem?_getD, hx] at h1
            have h2 := HDG.out k _ (List.getElem?_eq_getElem hkl)
            rw [hx] at h2
            injection h2 with h2
            exact ⟨h1.1, h1.2.2.1, by rw [h2]; exact St.rd_n _ _⟩
        · have hd : decide (F = 0) = false := by simp [hF0]
          go_wp2_with fail
          go_ret2
          refine ⟨HBW.out, ?_⟩
          rw [HDR.out]
          exact .inr ⟨HANY.out, .inl ⟨by rw [← HFF.out]; exact hF0, by rw [← HFF.out]; rfl⟩⟩
end Go.Proofs.Ytjhhpakaemnemaa
end
section
namespace Go.Proofs.Ytjhhpakaemnemaa
open Go.RowKit
set_option linter.unusedVariables false
set_option maxRecDepth 20000

theorem ofLow_cons (b : UInt8) (l : List UInt8) : ofLowB (b :: l) = b.toNat + 256 * ofLowB l := by
  rfl
theorem low_of (l : List UInt8) : lowB (ofLowB l) l.length = l := by
  induction l with
  | nil => rfl
  | cons b l ih =>
    rw [List.length_cons, lowB_cons, ofLow_cons]
    have hb := b.toNat_lt
    congr 1
    · apply UInt8.toNat_inj.1
      rw [byteN_toNat]
      omega
    · rw [show (b.toNat + 256 * ofLowB l) / 256 = ofLowB l by omega]
      exact ih
theorem high_of (l : List UInt8) : (lowB (ofHighB l) l.length).reverse = l := by
  have h := low_of l.reverse
  rw [List.length_reverse] at h
  have e : ofHighB l = ofLowB l.reverse := rfl
  rw [e, h, List.reverse_reverse]
theorem of_high (n s : Nat) (h : n < 256 ^ s) : ofHighB (lowB n s).reverse = n := by
  have e : ofHighB (lowB n s).reverse = ofLowB (lowB n s).reverse.reverse := rfl
  rw [e, List.reverse_reverse, ofLowB_lowB, Nat.mod_eq_of_lt h]
theorem high_length (n s : Nat) : (lowB n s).reverse.length = s := by rw [List.length_reverse, lowB_length]

theorem St.eta0 (s : St) (h : s.e = 0) : s = ⟨s.l, 0⟩ := by cases s; simp only at h; subst h; rfl
theorem take_ok (l r : List UInt8) (n : Nat) (h : n = l.length) : St.take ⟨l ++ r, 0⟩ n = l ∧ St.rest ⟨l ++ r, 0⟩ n = ⟨r, 0⟩ := by
  subst h
  have e : St.taken ⟨l ++ r, 0⟩ l.length = ⟨l ++ r, 0⟩ := by unfold St.taken; rw [if_neg (by rw [List.length_append]; omega)]
  unfold St.take St.rest
  rw [e]
  simp
theorem take_no (s : St) (n : Nat) (h : s.e = 0) (hn : s.l.length < n) : St.take s n = [] ∧ St.rest s n = ⟨[], 3⟩ := by
  unfold St.take St.rest St.taken St.fail
  rw [if_pos hn, if_pos h]
  simp
theorem take_err (s : St) (n : Nat) (h : s.e ≠ 0) : St.take s n = [] ∧ St.rest s n = s := by
  have e : s.taken n = s := by
    unfold St.taken St.fail
    split <;> first | rfl | exact if_neg h
  unfold St.take St.rest
  rw [e, if_neg h, if_neg h]
  exact ⟨rfl, rfl⟩
/-- Either all that was asked is there, or an error stays. -/
theorem rest_cases (s : St) (n : Nat) : (s.e = 0 ∧ n ≤ s.l.length ∧ s.take n = s.l.take n ∧ s.rest n = ⟨s.l.drop n, 0⟩) ∨ ((s.rest n).e ≠ 0 ∧ s.take n = []) := by
  by_cases h : s.e = 0
  · by_cases hn : s.l.length < n
    · obtain ⟨h1, h2⟩ := take_no s n h hn
      exact .inr ⟨by rw [h2]; simp, h1⟩
    · left
      refine ⟨h, by omega, ?_, ?_⟩
      · unfold St.take St.taken; rw [if_neg hn, if_pos h]
      · unfold St.rest St.taken; rw [if_neg hn, if_pos h]
  · obtain ⟨h1, h2⟩ := take_err s n h
    exact .inr ⟨by rw [h2]; exact h, h1⟩
theorem fail_ne (s : St) (x : Int) (hx : x ≠ 0) : (s.fail x).e ≠ 0 := by
  unfold St.fail
  split
  · exact hx
  · assumption
theorem numS_ne (s : St) (z : Int) (h : s.e ≠ 0) : (s.numS z).e ≠ 0 := by
  unfold St.numS
  split
  · rw [(take_err s _ h).2]; exact h
  · exact fail_ne s 51 (by decide)
theorem cntS_ne (s : St) (m : Int) (h : s.e ≠ 0) : (s.cntS m).e ≠ 0 := by
  unfold St.cntS
  split
  · exact fail_ne _ 2 (by decide)
  · exact numS_ne s 2 h
theorem rest_ne (s : St) (n : Nat) (h : s.e ≠ 0) : (s.rest n).e ≠ 0 := by rw [(take_err s n h).2]; exact h
theorem rdS_ne (s : St) (z : Int) (h : s.e ≠ 0) : (s.rdS z).e ≠ 0 := by
  unfold St.rdS
  split
  · exact rest_ne _ _ (cntS_ne s _ h)
  · split
    · exact rest_ne _ _ (cntS_ne s _ h)
    · exact numS_ne s z h
theorem decE_ne (l : List Int) : ∀ s : St, s.e ≠ 0 → (decE l s).e ≠ 0 := by
  induction l with
  | nil => intro s h; exact h
  | cons z r ih => intro s h; exact ih _ (rdS_ne s z h)

/-- A number that is read: its bytes were there. -/
theorem num_read (s : St) (k : Nat) (hk : isNum k = true) (h : (s.numS k).e = 0) : s.e = 0 ∧ k ≤ s.l.length ∧ s.num k = ofHighB (s.l.take k) ∧ s.numS k = ⟨s.l.drop k, 0⟩ := by
  unfold St.numS at h ⊢
  unfold St.num
  rw [if_pos hk] at h ⊢
  rw [if_pos hk]
  have e : ((k : Int)).toNat = k := by simp
  rw [e] at h ⊢
  rcases rest_cases s k with ⟨h1, h2, h3, h4⟩ | ⟨h1, _⟩
  · refine ⟨h1, h2, ?_, h4⟩
    rw [h3]
    have := inNum_shape k hk
    rw [List.take_of_length_le (l := s.l.take k) (by rw [List.length_take]; omega)]
  · exact absurd h h1
theorem two_read (s : St) (h : (s.numS 2).e = 0) : s.e = 0 ∧ 2 ≤ s.l.length ∧ s.num 2 = ofHighB (s.l.take 2) ∧ s.numS 2 = ⟨s.l.drop 2, 0⟩ := num_read s 2 rfl h
theorem cnt_read (s : St) (m : Int) (h : (s.cntS m).e = 0) : s.e = 0 ∧ 2 ≤ s.l.length ∧ (s.num 2 : Int) ≤ m ∧ s.cnt m = s.num 2 ∧ s.num 2 = ofHighB (s.l.take 2) ∧ s.cntS m = ⟨s.l.drop 2, 0⟩ := by
  unfold St.cntS St.cnt at *
  by_cases hm : (s.num 2 : Int) > m
  · rw [if_pos hm] at h
    exact absurd h (fail_ne _ 2 (by decide))
  · rw [if_neg hm] at h
    rw [if_neg hm, if_neg hm]
    obtain ⟨h1, h2, h3, h4⟩ := two_read s h
    exact ⟨h1, h2, by omega, rfl, h3, h4⟩
theorem put_ok (t : St) (h : t.e = 0) (b : List UInt8) : t.put b = ⟨t.l ++ b, 0⟩ := by unfold St.put; rw [if_pos h]
theorem flat_cut (n : Nat) : ∀ l : List UInt8, l.length = 32 * n → (cut32 n l).flatten = l ∧ (cut32 n l).length = n ∧ ∀ x ∈ cut32 n l, x.length = 32 := by
  induction n with
  | zero => intro l h; have : l = [] := List.eq_nil_of_length_eq_zero (by omega); subst this; simp [cut32]
  | succ n ih =>
    intro l h
    obtain ⟨h1, h2, h3⟩ := ih (l.drop 32) (by rw [List.length_drop]; omega)
    refine ⟨by rw [cut32, List.flatten_cons, h1, List.take_append_drop], by rw [cut32, List.length_cons, h2], fun x hx => ?_⟩
    rw [cut32] at hx
    rcases List.mem_cons.1 hx with rfl | hx
    · rw [List.length_take]; omega
    · exact h3 x hx
theorem cut_flat (ls : List (List UInt8)) (h : ∀ l ∈ ls, l.length = 32) : cut32 ls.length ls.flatten = ls := by
  induction ls with
  | nil => rfl
  | cons l ls ih =>
    have hl := h l List.mem_cons_self
    rw [List.length_cons, cut32, List.flatten_cons, List.take_left' hl, List.drop_left' hl, ih fun m hm => h m (List.mem_cons_of_mem _ hm)]
theorem head_two (s : St) (h : 2 ≤ s.l.length) : (lowB (ofHighB (s.l.take 2)) 2).reverse = s.l.take 2 := by
  have h1 := high_of (s.l.take 2)
  rwa [List.length_take, Nat.min_eq_left h] at h1
/-- What is read well is written to just the bytes that were read. -/
theorem rd_item (s : St) (z : Int) (hz : badK z = false) (h : (s.rdS z).e = 0) : s.e = 0 ∧ ∃ c, s.l = c ++ (s.rdS z).l ∧ ∀ t : St, t.e = 0 → t.item (s.rd z) = ⟨t.l ++ c, 0⟩ := by
  obtain ⟨p, hp1, hp2, hp3⟩ := pos_cases z hz
  unfold St.rdS at h ⊢
  unfold St.rd St.item
  by_cases h9 : z = 9
  · rw [if_pos h9] at h ⊢
    rw [if_pos h9]
    simp only [if_true]
    unfold St.bytS at h ⊢
    unfold St.byt
    have em : (min 4000 4000 : Int) = 4000 := by omega
    rw [em] at h ⊢
    rcases rest_cases (s.cntS 4000) (s.cnt 4000) with ⟨h1, h2, h3, h4⟩ | ⟨h1, _⟩
    · obtain ⟨q1, q2, q3, q4, q5, q6⟩ := cnt_read s 4000 h1
      rw [h3, h4, q4]
      rw [q6, q4] at h2
      rw [q6]
      simp only at h2 ⊢
      refine ⟨q1, s.l.take 2 ++ (s.l.drop 2).take (s.num 2), by rw [List.append_assoc, List.take_append_drop, List.take_append_drop], fun t ht => ?_⟩
      have hl : ((s.l.drop 2).take (s.num 2)).length = s.num 2 := List.length_take_of_le h2
      unfold St.wByt
      rw [hl, if_neg (by omega), put_ok t ht, put_ok _ rfl, q5, head_two s q2, List.append_assoc]
    · exact absurd h h1
  · rw [if_neg h9] at h ⊢
    rw [if_neg h9]
    by_cases h32 : z = 32
    · rw [if_pos h32] at h ⊢
      rw [if_pos h32]
      simp only [show ¬ ((32 : Int) = 9) by decide, if_false, if_true]
      unfold St.keyS at h ⊢
      unfold St.keys St.keyB
      have em : (min 100 100 : Int) = 100 := by omega
      rw [em] at h ⊢
      rcases rest_cases (s.cntS 100) (32 * s.cnt 100) with ⟨h1, h2, h3, h4⟩ | ⟨h1, _⟩
      · obtain ⟨q1, q2, q3, q4, q5, q6⟩ := cnt_read s 100 h1
        rw [h3, h4, q4]
        rw [q6, q4] at h2
        rw [q6]
        simp only at h2 ⊢
        refine ⟨q1, s.l.take 2 ++ (s.l.drop 2).take (32 * s.num 2), by rw [List.append_assoc, List.take_append_drop, List.take_append_drop], fun t ht => ?_⟩
        have hl : ((s.l.drop 2).take (32 * s.num 2)).length = 32 * s.num 2 := List.length_take_of_le h2
        obtain ⟨f1, f2, _⟩ := flat_cut (s.num 2) _ hl
        unfold St.wKey
        rw [hl, Nat.mul_div_cancel_left _ (by omega), f2, if_neg (by omega), put_ok t ht, put_ok _ rfl, f1, q5, head_two s q2, List.append_assoc]
      · exact absurd h h1
    · rw [if_neg h32] at h ⊢
      rw [if_neg h32]
      simp only [if_neg h9, if_neg h32]
      have hn : isNum z = true := by
        rw [hp3] at h9 h32 ⊢
        match p, hp2 with
        | 0, _ => exact absurd rfl h9
        | 1, _ => exact absurd rfl h32
        | 2, _ => rfl
        | 3, _ => rfl
        | 4, _ => rfl
        | 5, _ => rfl
      obtain ⟨k, rfl⟩ : ∃ k : Nat, z = k := ⟨z.toNat, by have := inNum_shape z hn; omega⟩
      obtain ⟨q1, q2, q3, q4⟩ := num_read s k hn h
      refine ⟨q1, s.l.take k, by rw [q4]; exact (List.take_append_drop _ _).symm, fun t ht => ?_⟩
      have hl : (s.l.take k).length = k := List.length_take_of_le q2
      have h1 := ofHighB_lt (s.l.take k)
      rw [hl] at h1
      have h2 := high_of (s.l.take k)
      rw [hl] at h2
      unfold St.wNum
      have e : ((k : Int)).toNat = k := by simp
      rw [e, q3, if_pos ⟨hn, h1⟩, put_ok t ht, h2]
theorem again (l : List Int) : ∀ (s t : St), l.any badK = false → (decE l s).e = 0 → t.e = 0 → s.e = 0 ∧ ∃ c, s.l = c ++ (decE l s).l ∧ (decL l s).foldl St.item t = ⟨t.l ++ c, 0⟩ := by
  induction l with
  | nil => intro s t _ h ht; exact ⟨h, [], rfl, by rw [List.append_nil]; exact St.eta0 t ht⟩
  | cons z r ih =>
    intro s t hb h ht
    rw [List.any_cons, Bool.or_eq_false_iff] at hb
    have hs : (s.rdS z).e = 0 := by
      by_cases hs : (s.rdS z).e = 0
      · exact hs
      · exact absurd h (decE_ne r _ hs)
    obtain ⟨h1, c, hc, hi⟩ := rd_item s z hb.1 hs
    obtain ⟨_, c2, hc2, hi2⟩ := ih (s.rdS z) (t.item (s.rd z)) hb.2 h (by rw [hi t ht])
    refine ⟨h1, c ++ c2, by rw [List.append_assoc, hc]; exact congrArg (c ++ ·) hc2, ?_⟩
    rw [decL, List.foldl_cons, hi2, hi t ht, List.append_assoc]
theorem rd_k (s : St) (z : Int) : (s.rd z).k = z := by
  unfold St.rd
  split
  · rename_i h; exact h.symm
  · split
    · rename_i h; exact h.symm
    · rfl
theorem decL_bad (l : List Int) : ∀ s : St, (decL l s).any (fun x => badK x.k) = l.any badK := by
  induction l with
  | nil => intro s; rfl
  | cons z r ih => intro s; rw [decL, List.any_cons, List.any_cons, ih, rd_k]
theorem fin_zero (s : St) : s.fin = 0 ↔ s.e = 0 ∧ s.l = [] := by
  unfold St.fin
  by_cases h : s.e = 0
  · rw [if_pos h]
    by_cases hl : s.l = []
    · simp [h, hl]
    · simp [hl]
  · rw [if_neg h]
    simp [h]
/-- What is decoded is encoded. -/
theorem dec_enc (l : List Int) (b : List UInt8) (hb : l.any badK = false) (h : (decE l ⟨b, 0⟩).fin = 0) : encS (decL l ⟨b, 0⟩) = ⟨b, 0⟩ := by
  obtain ⟨h1, h2⟩ := (fin_zero _).1 h
  obtain ⟨_, c, hc, hf⟩ := again l ⟨b, 0⟩ ⟨[], 0⟩ hb h1 rfl
  rw [h2, List.append_nil] at hc
  unfold encS
  rw [hf, ← hc]
  rfl
end Go.Proofs.Ytjhhpakaemnemaa
end
