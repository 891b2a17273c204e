/-
  CodecWrites: for every input the call returns true, and each argument reads as it read before. Conditions: none beyond the given statement's own.
-/
import Derived.Test.YtjhhpakaemnemaaQCodAH
import Derived.Test.YtjhhpakaemnemaaQCodAI
import Derived.Test.YtjhhpakaemnemaaRows
import Derived.OpenShut
import Derived.ShutString
import Derived.ChangeOld
section
namespace Go.Proofs.Ytjhhpakaemnemaa
open Go.RowKit
set_option linter.unusedVariables false
set_option maxRecDepth 20000

theorem RoAt.step {w w' : World} {r o : Nat} {s : St} {vv v' : Value} {cs : Array Value} (h : RoAt w r s (fun k => vv.ownBlock = some k)) (hs : OutStep w w' o vv v') (ho : RowAt w o 66 cs) {l' : List UInt8} (hov : OwnB w 0 5 vv l') : RoAt w' r s (fun k => v'.ownBlock = some k) := by
  obtain ⟨v, B, h1, h2, h3, h4, h5⟩ := h
  have hro : r ≠ o := fun e => by
    rw [e] at h1
    have e2 := h1.symm.trans ho
    injection e2 with e2
    injection e2 with _ e2 _
    exact absurd e2 (by decide)
  have hrv : vv.ownBlock ≠ some r := fun e => hov.other h1 (by decide) e.symm
  have hlt : ∀ k, v.ownBlock = some k → k < w.heap.size ∧ k ≠ o := fun k hk => by
    obtain ⟨cur, hr⟩ := h4 k hk
    refine ⟨hr.lt, fun e => ?_⟩
    rw [e] at hr
    have e2 := hr.symm.trans ho
    injection e2 with e2
    injection e2 with _ e2 _
    exact absurd e2 (by decide)
  refine ⟨v, B, hs.keeps h1 hro hrv, hs.bs h2 (fun _ k hk => ⟨(hlt k hk).2, h5 k hk⟩), h3, fun k hk => ?_, fun k hk e => ?_⟩
  · obtain ⟨cur, hr⟩ := h4 k hk
    exact ⟨cur, hs.keeps hr (hlt k hk).2 (h5 k hk)⟩
  · rcases hs.lies k e with h6 | h6
    · exact h5 k hk h6
    · have := (hlt k hk).1; omega
theorem OutAt.beside {w w' : World} {r o : Nat} {s s2 : St} {vv : Value} {S : Nat → Prop} (h : OutAt w o vv s) (hr : RoAt w r s2 S) (hg : w.grownBy w' (some r)) : OutAt w' o vv s := by
  obtain ⟨v, B, h1, _⟩ := hr
  refine ⟨h.1.grown hg fun e => ?_, World.ownsRow.kept h.2 hg ?_⟩
  · injection e with e
    have h0 := h.1
    rw [e] at h0
    have e2 := h0.symm.trans h1
    injection e2 with e2
    injection e2 with _ e2 _
    exact absurd e2 (by decide)
  · rcases hv : vv.ownBlock with _ | k
    · exact .inl rfl
    · refine .inr fun e => ?_
      exact h.2.other h1 (by decide) (by rw [hv]; exact e.symm)

structure Pt where
  d : Int
  z : Int
  n : Nat
  b : List UInt8
  l : List (List UInt8)
instance : Inhabited Pt := ⟨⟨0, 0, 0, [], []⟩⟩
def ptC (x : Pt) (bv lv : Value) : List Value := [.int .i64 x.d, .int .i64 x.z, .int .u64 (x.n : Int), bv, lv]
def Puts (w : World) (v : Value) (ps : List Pt) : Prop :=
  ∃ bv lv : Nat → Value, Rw w v 5 ps.length (fun j => ptC (ps.getD j default) (bv j) (lv j)) ∧ ∀ (j : Nat) x, ps[j]? = some x → Bs w (bv j) x.b ∧ Kl w (lv j) x.l ∧ x.n < 18446744073709551616
def St.putIt (s : St) (x : Pt) : St := if x.d = 1 then s.wNum x.n x.z else if x.d = 2 then s.wByt x.b else if x.d = 3 then s.wKey x.l else s
theorem five_cells {c : List Value} (h : c.length = 5) {a b d e f : Value} (h0 : (c.drop 0).take 1 = [a]) (h1 : (c.drop 1).take 1 = [b]) (h2 : (c.drop 2).take 1 = [d]) (h3 : (c.drop 3).take 1 = [e]) (h4 : (c.drop 4).take 1 = [f]) : c = [a, b, d, e, f] := by
  match c, h with
  | [x0, x1, x2, x3, x4], _ =>
    simp at h0 h1 h2 h3 h4
    rw [h0, h1, h2, h3, h4]
theorem open_puts {H : Type} {enc : TypeId × Value → H} {W : World} {base : Nat} {sp : Nat → Bool} {held : Bool} {fuel : Nat} {cs : List Value} {x : DataW H × List MemPlace} (h : DataW.trod enc Try.prog W base sp held fuel 63 cs = some x) :
    ∃ (v : Value) (its : List Pt), cs = [v] ∧ Puts W v its := by
  obtain ⟨v, n, f, hcs, hR, hf⟩ := open_rows (sz := 5) (by omega) Try.underlying63 (by kernel_rfl) (fun _ _ _ h _ => h) h
  have each : ∀ j, j < n → ∃ (it : Pt) (bv lv : Value), f j = ptC it bv lv ∧ Bs W bv it.b ∧ Kl W lv it.l ∧ it.n < 18446744073709551616 := fun j hj => by
    obtain ⟨hfl, m, y, hy⟩ := hf j hj
    obtain ⟨xs, m', _, _, _, hxl, hxe⟩ := DataW.trod_struct Try.underlying71 hy
    have f0 := hxe 0 _ rfl
    have f1 := hxe 1 _ rfl
    have f2 := hxe 2 _ rfl
    have f3 := hxe 3 _ rfl
    have f4 := hxe 4 _ rfl
    have hl4 : xs.length = 5 := hxl
    rw [List.getElem?_eq_getElem (by omega)] at f0 f1 f2 f3 f4
    obtain ⟨k, c0, _, w0⟩ := DataW.trod_int (k := .i64) Try.underlying3 f0
    obtain ⟨z, c1, _, w1⟩ := DataW.trod_int (k := .i64) Try.underlying3 f1
    obtain ⟨u, c2, _, w2⟩ := DataW.trod_int (k := .u64) Try.underlying48 f2
    obtain ⟨bv, b, c3, hb⟩ := open_bs Try.underlying25 Try.underlying5 (by kernel_rfl) f3
    obtain ⟨lv, l, c4, hl⟩ := open_kl Try.underlying55 Try.underlying52 Try.underlying5 (by kernel_rfl) (by kernel_rfl) f4
    obtain ⟨nn, rfl, hn⟩ := u64_of_wf w2
    exact ⟨⟨k, z, nn, b, l⟩, bv, lv, five_cells hfl c0 c1 c2 c3 c4, hb, hl, hn⟩
  refine ⟨v, List.ofFn fun i : Fin n => (each i.1 i.2).choose, hcs, fun j => if hj : j < n then (each j hj).choose_spec.choose else undef, fun j => if hj : j < n then (each j hj).choose_spec.choose_spec.choose else undef, ?_, fun j y hy => ?_⟩
  · rw [List.length_ofFn]
    obtain ⟨A, c, hv, h1, h2, h3⟩ := hR
    refine ⟨A, c, hv, h1, h2, fun hl => ?_⟩
    obtain ⟨b, off, hA, hc⟩ := h3 hl
    refine ⟨b, off, hA, fun j hj => ?_⟩
    have hs := (each j hj).choose_spec.choose_spec.choose_spec
    have e1 : (List.ofFn fun i : Fin n => (each i.1 i.2).choose).getD j default = (each j hj).choose := by
      rw [List.getD_eq_getElem?_getD, List.getElem?_eq_getElem (by rw [List.length_ofFn]; exact hj), List.getElem_ofFn]
      rfl
    simp only [e1, dif_pos hj]
    rw [← hs.1]
    exact hc j hj
  · obtain ⟨hj1, hj2⟩ := List.getElem?_eq_some_iff.1 hy
    rw [List.getElem_ofFn] at hj2
    rw [List.length_ofFn] at hj1
    have hs := (each j hj1).choose_spec.choose_spec.choose_spec
    simp only at hj2
    simp only [dif_pos hj1]
    have h1 : (each j hj1).choose = y := hj2
    exact ⟨h1 ▸ hs.2.1, h1 ▸ hs.2.2.1, h1 ▸ hs.2.2.2⟩
theorem inv_putIt (s : St) (x : Pt) (h : s.Inv) : (s.putIt x).Inv := by
  unfold St.putIt
  split
  · unfold St.wNum; split
    · exact inv_put _ _ h
    · exact inv_fail _ _ h
  · split
    · unfold St.wByt; split
      · exact inv_fail _ _ h
      · exact inv_put _ _ (inv_put _ _ h)
    · split
      · unfold St.wKey; split
        · exact inv_fail _ _ h
        · exact inv_put _ _ (inv_put _ _ h)
      · exact h
theorem put_stays (s : St) (h : s.e ≠ 0) : (∀ b, s.put b = s) ∧ ∀ x, s.fail x = s := by
  constructor
  · intro b; unfold St.put; rw [if_neg h]
  · intro x; unfold St.fail; rw [if_neg h]
theorem putIt_stays (s : St) (x : Pt) (h : s.e ≠ 0) : s.putIt x = s := by
  obtain ⟨h1, h2⟩ := put_stays s h
  unfold St.putIt St.wNum St.wByt St.wKey
  split
  · split <;> simp [h1, h2]
  · split
    · split <;> simp [h1, h2]
    · split
      · split <;> simp [h1, h2]
      · rfl
theorem putIt_length (s : St) (x : Pt) (h : ∀ l ∈ x.l, l.length = 32) : (s.putIt x).l.length ≤ s.l.length + 4002 := by
  unfold St.putIt
  split
  · by_cases hz : isNum x.z = true
    · have hk := s.item_length ⟨x.z, x.n, [], []⟩ (by simp)
      have h8 := inNum_shape x.z hz
      unfold St.item at hk
      simp only at hk
      rw [if_neg (by omega), if_neg (by omega)] at hk
      exact hk
    · unfold St.wNum
      rw [if_neg (fun h => hz h.1)]
      have := s.fail_length 51; omega
  · split
    · have hk := s.item_length ⟨9, 0, x.b, []⟩ (by simp)
      exact hk
    · split
      · have hk := s.item_length ⟨32, 0, [], x.l⟩ h
        exact hk
      · omega
def stW (ps : List Pt) : St := ps.foldl St.putIt ⟨[], 0⟩
theorem stW_take (ps : List Pt) (j : Nat) (x : Pt) (h : ps[j]? = some x) : stW (ps.take (j + 1)) = (stW (ps.take j)).putIt x := by
  unfold stW
  rw [List.take_add_one, h, List.foldl_append]
  rfl
theorem stW_inv (ps : List Pt) : (stW ps).Inv := by
  have key : ∀ (ps : List Pt) (s : St), s.Inv → (ps.foldl St.putIt s).Inv := by
    intro ps
    induction ps with
    | nil => intro s h; exact h
    | cons x r ih => intro s h; exact ih _ (inv_putIt s x h)
  exact key ps _ (fun h => absurd rfl h)
theorem stW_length (ps : List Pt) (h : ∀ x ∈ ps, ∀ l ∈ x.l, l.length = 32) : (stW ps).l.length ≤ 4002 * ps.length := by
  have key : ∀ (ps : List Pt) (s : St), (∀ x ∈ ps, ∀ l ∈ x.l, l.length = 32) → (ps.foldl St.putIt s).l.length ≤ s.l.length + 4002 * ps.length := by
    intro ps
    induction ps with
    | nil => intro s _; simp
    | cons x r ih =>
      intro s h
      have h1 := ih (s.putIt x) fun y hy => h y (List.mem_cons_of_mem _ hy)
      have h2 := putIt_length s x (h x List.mem_cons_self)
      rw [List.foldl_cons, List.length_cons]
      omega
  have := key ps ⟨[], 0⟩ h
  simpa [stW] using this

set_option maxHeartbeats 8000000 in
theorem codecWrites_walk (w : World) (v : Value) (ps : List Pt) (hp : Puts w v ps) :
    Calls Try.prog 8 #[v] w (RetV w (.bool true)) := by
  have HA := Lib.hid (fun w => awake_true w)
  obtain ⟨bv, lv, ⟨A, c, rfl, q1, q2, q3⟩, hI⟩ := hp
  have HI := Lib.hid hI
  have H32 : Hid (∀ x ∈ ps, ∀ l ∈ x.l, l.length = 32) := fun x hx l hl => by
    obtain ⟨j, hj⟩ := List.mem_iff_getElem?.1 hx
    obtain ⟨_, _, _, _, _, h4, _⟩ := (hI j x hj).2.1
    exact h4 l hl
  unfold maxLen at q2
  clear hI
  by_cases hs : (20 : Int) < (ps.length : Int)
  · clear q3
    go_enter Try.func8, Try.ntmps8
    go_wp2_with fail
    refine (HA.out _).mono ?_
    intro e w1 hh
    obtain ⟨he, b1⟩ := hh
    subst he
    have B1 := Lib.hid b1
    clear b1
    go_wp2
    go_ret
    exact ⟨rfl, B1.out⟩
  · have hn20 : ps.length ≤ 20 := by omega
    go_enter Try.func8, Try.ntmps8
    go_wp2_with fail
    refine (HA.out _).mono ?_
    intro e w1 hh
    obtain ⟨he, b1⟩ := hh
    subst he
    have B1 := Lib.hid b1
    clear b1 HA
    obtain ⟨w2, hw2⟩ : ∃ w2, w2 = w1.alloc (.cells #[.slice none 0 0, .int .i64 0] 66) := ⟨_, rfl⟩
    obtain ⟨w3, hw3⟩ : ∃ w3, w3 = w2.alloc (.cells #[.slice none 0 0, .int .i64 0] 69) := ⟨_, rfl⟩
    obtain ⟨o, ho⟩ : ∃ o, o = w1.heap.size := ⟨_, rfl⟩
    obtain ⟨r, hr⟩ : ∃ r, r = w1.heap.size + 1 := ⟨_, rfl⟩
    have hsz2 : w2.heap.size = r := by rw [hw2, World.size_alloc, hr]
    have bw2 : Below w1.heap.size w1 w2 := by rw [hw2]; exact alloc_below _ _
    have bw3 : Below w2.heap.size w2 w3 := by rw [hw3]; exact alloc_below _ _
    have B3 := Lib.hid (below_size B1.out (below_size bw2 bw3))
    have O3 : Hid (OutAt w3 o (.slice none 0 0) (stW (ps.take 0))) := by
      have h2 : RowAt w2 o 66 #[.slice none 0 0, .int .i64 0] := by rw [hw2, ho]; exact RowAt.new _ _ _
      exact ⟨h2.kept bw3, OwnB.nil _ _ _⟩
    have R3 : Hid (RoAt w3 r (stW (ps.take 0)) (fun k => (Value.slice none 0 0).ownBlock = some k)) := by
      refine ⟨.slice none 0 0, [], ?_, Bs.nil _, fun _ => rfl, U8At.nil _ _ _, fun k hk => by cases hk⟩
      rw [hw3, ← hsz2]
      exact RowAt.new _ _ _
    have hlo : w.heap.size ≤ o := by rw [ho]; exact B1.out.size
    have HW3 : Hid (w3 = (w1.alloc (.cells #[.slice none 0 0, .int .i64 0] 66)).alloc (.cells #[.slice none 0 0, .int .i64 0] 69)) := by show _ = _; rw [hw3, hw2]
    have HOO := Lib.hid ho
    have HRR := Lib.hid hr
    have hlr : w.heap.size ≤ r := by omega
    clear hw2 hw3 ho hr hsz2 bw2 bw3
    go_wp2_with fail
    rw [← HW3.out, ← HRR.out, ← HOO.out]
    go_loopw [6, 7] (fun y i wr => ∃ (j : Nat) (vv : Value), j ≤ ps.length ∧ i = .int .i64 (j : Int) ∧ y = .int .i64 (stW (ps.take j)).e ∧ OutAt wr o vv (stW (ps.take j)) ∧ RoAt wr r (stW (ps.take j)) (fun k => vv.ownBlock = some k) ∧ (∀ k, vv.ownBlock = some k → w.heap.size ≤ k) ∧ Below w.heap.size w wr) (fun _ i _ => ps.length - (intOf i).toNat)
    case atStart => exact ⟨0, _, by omega, rfl, rfl, O3.out, R3.out, (fun k hk => by cases hk), B3.out⟩
    case round =>
      clear O3 R3 HW3 HOO HRR
      obtain ⟨j, vv, hj, rfl, rfl, hO, hR, hV, hB⟩ := hrel
      have HO := Lib.hid hO
      have HR := Lib.hid hR
      have HV := Lib.hid hV
      have HB := Lib.hid hB
      have hL0 := stW_length (ps.take j) fun x hx => H32.out x (List.mem_of_mem_take hx)
      rw [List.length_take_of_le hj] at hL0
      have HINV := Lib.hid (stW_inv (ps.take j))
      clear hO hR hV hB
      by_cases hlt : j < ps.length
      · have hlt2 : (j : Int) < (ps.length : Int) := by omega
        have hw1 : IntKind.i64.wrap ((j : Int) + 1) = (j : Int) + 1 := IntWalk.i64_in _ (by omega)
        have hq0 : ¬ ((j : Int) < 0) := by omega
        obtain ⟨x, hx⟩ : ∃ x, ps[j]? = some x := ⟨_, List.getElem?_eq_getElem hlt⟩
        have hgx : ps.getD j default = x := by rw [List.getD_eq_getElem?_getD, hx]; rfl
        obtain ⟨hb0, hk0, hn0⟩ := HI.out j x hx
        have HST := Lib.hid (stW_take ps j x hx)
        obtain ⟨b0, off, rfl, hc⟩ := q3 (by omega)
        have hcj := hc j hlt
        rw [hgx] at hcj
        have hcell : ∀ (i : Nat) u, (ptC x (bv j) (lv j))[i]? = some u → w.cell? ⟨b0, off + j * 5 + i, none⟩ = some u := fun i u hu => hcj i u hu
        have HBb := Lib.hid hb0
        have HKk := Lib.hid hk0
        obtain ⟨s, hs'⟩ : ∃ s, s = stW (ps.take j) := ⟨_, rfl⟩
        rw [← hs'] at HO HR HST HINV hL0
        have HSQ := Lib.hid hs'
        have hsl : s.l.length ≤ 100000 := by omega
        obtain ⟨BV, hBV⟩ : ∃ BV, BV = bv j := ⟨_, rfl⟩
        obtain ⟨LV, hLV⟩ : ∃ LV, LV = lv j := ⟨_, rfl⟩
        rw [← hBV] at HBb hcell
        rw [← hLV] at HKk hcell
        obtain ⟨d, z, n, b, l⟩ := x
        obtain ⟨BA, bc, rfl, _, _, _⟩ := HBb.out
        obtain ⟨LA, lc, rfl, _, _, _, _⟩ := HKk.out
        have c0 := (HB.out.cell (World.block_lt_of_cell? w _ (hcell 0 _ rfl))).trans (hcell 0 _ rfl)
        have c1 := (HB.out.cell (World.block_lt_of_cell? w _ (hcell 1 _ rfl))).trans (hcell 1 _ rfl)
        have c2 := (HB.out.cell (World.block_lt_of_cell? w _ (hcell 2 _ rfl))).trans (hcell 2 _ rfl)
        have c3 := (HB.out.cell (World.block_lt_of_cell? w _ (hcell 3 _ rfl))).trans (hcell 3 _ rfl)
        have c4 := (HB.out.cell (World.block_lt_of_cell? w _ (hcell 4 _ rfl))).trans (hcell 4 _ rfl)
        have HCELL := Lib.hid hcell
        simp only at c0 c1 c2 c3 c4 HBb HKk hn0 HST
        rw [Nat.add_zero] at c0
        have HN0 := Lib.hid hn0
        clear hc hcj q3 hx hgx hb0 hk0 hcell hs' hBV hLV hL0 hn0
        rw [← HSQ.out]
        by_cases hB5 : (5000 : Int) < (b.length : Int)
        · go_wp2_with fail
          go_ret
          exact ⟨rfl, HB.out⟩
        · by_cases hL5 : (120 : Int) < (l.length : Int)
          · go_wp2_with fail
            go_ret
            exact ⟨rfl, HB.out⟩
          · have HOffB : Hid (0 < b.length → Off o vv (.slice BA b.length bc)) := fun h k hk => by
              have := HBb.out.low h k hk
              refine ⟨by omega, fun e => ?_⟩
              have := HV.out k e
              omega
            have HOffL : Hid (0 < l.length → Off o vv (.slice LA l.length lc)) := fun h k hk => by
              have := HKk.out.low h k hk
              refine ⟨by omega, fun e => ?_⟩
              have := HV.out k e
              omega
            have HBr := Lib.hid (HBb.out.below HB.out)
            have HKr := Lib.hid (HKk.out.below HB.out)
            by_cases hd1 : d = 1
            · subst hd1
              have CW : Hid (∀ W, Below w.heap.size w W → ∀ (i : Nat) u, (ptC ⟨1, z, n, b, l⟩ (.slice BA b.length bc) (.slice LA l.length lc))[i]? = some u → W.cell? ⟨b0, off + j * 5 + i, none⟩ = some u) := fun W hW i u hu => (hW.cell (World.block_lt_of_cell? w _ (HCELL.out i u hu))).trans (HCELL.out i u hu)
              go_wp2_with fail
              refine plain_region (S := (fun W => W.cell? ⟨b0, off + j * 5 + 2, none⟩ = some (.int .u64 (n : Int)) ∧ W.cell? ⟨b0, off + j * 5 + 1, none⟩ = some (.int .i64 z))) (fin := fun _ => false) (by kernel_rfl) ?_
              have hS : wr.drew.cell? ⟨b0, off + j * 5 + 2, none⟩ = some (.int .u64 (n : Int)) ∧ wr.drew.cell? ⟨b0, off + j * 5 + 1, none⟩ = some (.int .i64 z) := ⟨CW.out _ HB.out.drew 2 _ rfl, CW.out _ HB.out.drew 1 _ rfl⟩
              change walkS _ _ _ _ _ _ 12 _ _ _
              refine walkS_take (i := 0) (oi := ⟨some 51, _, _, _, _, _⟩) (v := .pointer (some ⟨o, 0, none⟩)) rfl (by kernel_rfl) (by kernel_rfl) (fun _ _ _ h => h) _ _ _ _ (by kernel_rfl) (by kernel_rfl) (Or.inl ⟨by rfl, fun w' hS' => (by clear hS hS'; go_simp)⟩) hS ?_
              try simp only [Act.put, List.setIfInBounds_toArray, List.set_cons_zero, List.set_cons_succ]
              refine walkS_take (i := 1) (oi := ⟨some 52, _, _, _, _, _⟩) (v := .slice (some ⟨b0, off, none⟩) ps.length c) rfl (by kernel_rfl) (by kernel_rfl) (fun _ _ _ h => h) _ _ _ _ (by kernel_rfl) (by kernel_rfl) (Or.inl ⟨by rfl, fun w' hS' => (by clear hS hS'; go_simp)⟩) hS ?_
              try simp only [Act.put, List.setIfInBounds_toArray, List.set_cons_zero, List.set_cons_succ]
              refine walkS_take (i := 2) (oi := ⟨some 53, _, _, _, _, _⟩) (v := .int .i64 (j : Int)) rfl (by kernel_rfl) (by kernel_rfl) (fun _ _ _ h => h) _ _ _ _ (by kernel_rfl) (by kernel_rfl) (Or.inl ⟨by rfl, fun w' hS' => (by clear hS hS'; go_simp)⟩) hS ?_
              try simp only [Act.put, List.setIfInBounds_toArray, List.set_cons_zero, List.set_cons_succ]
              refine walkS_take (i := 3) (oi := ⟨some 54, _, _, _, _, _⟩) (v := .pointer (some ⟨b0, off + j * 5, none⟩)) rfl (by kernel_rfl) (by kernel_rfl) (fun _ _ _ h => h) _ _ _ _ (by kernel_rfl) (by kernel_rfl) (Or.inl ⟨by rfl, fun w' hS' => (by clear hS hS'; go_simp)⟩) hS ?_
              try simp only [Act.put, List.setIfInBounds_toArray, List.set_cons_zero, List.set_cons_succ]
              refine walkS_take (i := 4) (oi := ⟨some 55, _, _, _, _, _⟩) (v := .pointer (some ⟨b0, off + j * 5 + 2, none⟩)) rfl (by kernel_rfl) (by kernel_rfl) (fun _ _ _ h => h) _ _ _ _ (by kernel_rfl) (by kernel_rfl) (Or.inl ⟨by rfl, fun w' hS' => (by clear hS hS'; go_simp)⟩) hS ?_
              try simp only [Act.put, List.setIfInBounds_toArray, List.set_cons_zero, List.set_cons_succ]
              refine walkS_take (i := 5) (oi := ⟨some 56, _, _, _, _, _⟩) (v := .int .u64 (n : Int)) rfl (by kernel_rfl) (by kernel_rfl) (fun _ _ _ h => h) _ _ _ _ (by kernel_rfl) (by kernel_rfl) (Or.inl ⟨by rfl, fun w' hS' => (by have c0 := hS'.1; clear hS hS'; go_simp)⟩) hS ?_
              try simp only [Act.put, List.setIfInBounds_toArray, List.set_cons_zero, List.set_cons_succ]
              refine walkS_take (i := 6) (oi := ⟨some 57, _, _, _, _, _⟩) (v := .slice (some ⟨b0, off, none⟩) ps.length c) rfl (by kernel_rfl) (by kernel_rfl) (fun _ _ _ h => h) _ _ _ _ (by kernel_rfl) (by kernel_rfl) (Or.inl ⟨by rfl, fun w' hS' => (by clear hS hS'; go_simp)⟩) hS ?_
              try simp only [Act.put, List.setIfInBounds_toArray, List.set_cons_zero, List.set_cons_succ]
              refine walkS_take (i := 7) (oi := ⟨some 58, _, _, _, _, _⟩) (v := .int .i64 (j : Int)) rfl (by kernel_rfl) (by kernel_rfl) (fun _ _ _ h => h) _ _ _ _ (by kernel_rfl) (by kernel_rfl) (Or.inl ⟨by rfl, fun w' hS' => (by clear hS hS'; go_simp)⟩) hS ?_
              try simp only [Act.put, List.setIfInBounds_toArray, List.set_cons_zero, List.set_cons_succ]
              refine walkS_take (i := 8) (oi := ⟨some 59, _, _, _, _, _⟩) (v := .pointer (some ⟨b0, off + j * 5, none⟩)) rfl (by kernel_rfl) (by kernel_rfl) (fun _ _ _ h => h) _ _ _ _ (by kernel_rfl) (by kernel_rfl) (Or.inl ⟨by rfl, fun w' hS' => (by clear hS hS'; go_simp)⟩) hS ?_
              try simp only [Act.put, List.setIfInBounds_toArray, List.set_cons_zero, List.set_cons_succ]
              refine walkS_take (i := 9) (oi := ⟨some 60, _, _, _, _, _⟩) (v := .pointer (some ⟨b0, off + j * 5 + 1, none⟩)) rfl (by kernel_rfl) (by kernel_rfl) (fun _ _ _ h => h) _ _ _ _ (by kernel_rfl) (by kernel_rfl) (Or.inl ⟨by rfl, fun w' hS' => (by clear hS hS'; go_simp)⟩) hS ?_
              try simp only [Act.put, List.setIfInBounds_toArray, List.set_cons_zero, List.set_cons_succ]
              refine walkS_take (i := 10) (oi := ⟨some 61, _, _, _, _, _⟩) (v := .int .i64 z) rfl (by kernel_rfl) (by kernel_rfl) (fun _ _ _ h => h) _ _ _ _ (by kernel_rfl) (by kernel_rfl) (Or.inl ⟨by rfl, fun w' hS' => (by have c0 := hS'.2; clear hS hS'; go_simp)⟩) hS ?_
              try simp only [Act.put, List.setIfInBounds_toArray, List.set_cons_zero, List.set_cons_succ]
              clear hS
              refine walkS_only (i := 11) (o := ⟨some 62, _, _, _, _, _⟩) (by kernel_rfl) rfl rfl fun KK hKK => ?_
              go_simp
              refine (outNumber_any wr.drew o vv s n z HN0.out HO.out (by omega)).mono ?_
              intro e w4 hh
              obtain ⟨he, v5, h4, s4⟩ := hh
              subst he
              have hq4 := s4.base HB.out.drew HB.out.size hlo HV.out
              have O4 := Lib.hid h4
              have B4 : Hid (Below w.heap.size w w4) := hq4.1
              have V5 : Hid (∀ k, v5.ownBlock = some k → w.heap.size ≤ k) := hq4.2
              have R4 := Lib.hid ((show RoAt wr.drew r s _ from HR.out).step s4 HO.out.1 HO.out.2)
              clear h4 hq4
              refine hKK _ _ (.inr ⟨CW.out _ B4.out 2 _ rfl, CW.out _ B4.out 1 _ rfl⟩) (walkS_done (by kernel_rfl) ?_ _)
              clear hKK KK s4
              go_wp2_with fail
              refine plain_region (S := (fun W => W.cell? ⟨b0, off + j * 5 + 2, none⟩ = some (.int .u64 (n : Int)) ∧ W.cell? ⟨b0, off + j * 5 + 1, none⟩ = some (.int .i64 z))) (fin := fun _ => false) (by kernel_rfl) ?_
              have hS : w4.drew.cell? ⟨b0, off + j * 5 + 2, none⟩ = some (.int .u64 (n : Int)) ∧ w4.drew.cell? ⟨b0, off + j * 5 + 1, none⟩ = some (.int .i64 z) := ⟨CW.out _ B4.out.drew 2 _ rfl, CW.out _ B4.out.drew 1 _ rfl⟩
              change walkS _ _ _ _ _ _ 12 _ _ _
              refine walkS_take (i := 0) (oi := ⟨some 63, _, _, _, _, _⟩) (v := .pointer (some ⟨r, 0, none⟩)) rfl (by kernel_rfl) (by kernel_rfl) (fun _ _ _ h => h) _ _ _ _ (by kernel_rfl) (by kernel_rfl) (Or.inl ⟨by rfl, fun w' hS' => (by clear hS hS'; go_simp)⟩) hS ?_
              try simp only [Act.put, List.setIfInBounds_toArray, List.set_cons_zero, List.set_cons_succ]
              refine walkS_take (i := 1) (oi := ⟨some 64, _, _, _, _, _⟩) (v := .slice (some ⟨b0, off, none⟩) ps.length c) rfl (by kernel_rfl) (by kernel_rfl) (fun _ _ _ h => h) _ _ _ _ (by kernel_rfl) (by kernel_rfl) (Or.inl ⟨by rfl, fun w' hS' => (by clear hS hS'; go_simp)⟩) hS ?_
              try simp only [Act.put, List.setIfInBounds_toArray, List.set_cons_zero, List.set_cons_succ]
              refine walkS_take (i := 2) (oi := ⟨some 65, _, _, _, _, _⟩) (v := .int .i64 (j : Int)) rfl (by kernel_rfl) (by kernel_rfl) (fun _ _ _ h => h) _ _ _ _ (by kernel_rfl) (by kernel_rfl) (Or.inl ⟨by rfl, fun w' hS' => (by clear hS hS'; go_simp)⟩) hS ?_
              try simp only [Act.put, List.setIfInBounds_toArray, List.set_cons_zero, List.set_cons_succ]
              refine walkS_take (i := 3) (oi := ⟨some 66, _, _, _, _, _⟩) (v := .pointer (some ⟨b0, off + j * 5, none⟩)) rfl (by kernel_rfl) (by kernel_rfl) (fun _ _ _ h => h) _ _ _ _ (by kernel_rfl) (by kernel_rfl) (Or.inl ⟨by rfl, fun w' hS' => (by clear hS hS'; go_simp)⟩) hS ?_
              try simp only [Act.put, List.setIfInBounds_toArray, List.set_cons_zero, List.set_cons_succ]
              refine walkS_take (i := 4) (oi := ⟨some 67, _, _, _, _, _⟩) (v := .pointer (some ⟨b0, off + j * 5 + 2, none⟩)) rfl (by kernel_rfl) (by kernel_rfl) (fun _ _ _ h => h) _ _ _ _ (by kernel_rfl) (by kernel_rfl) (Or.inl ⟨by rfl, fun w' hS' => (by clear hS hS'; go_simp)⟩) hS ?_
              try simp only [Act.put, List.setIfInBounds_toArray, List.set_cons_zero, List.set_cons_succ]
              refine walkS_take (i := 5) (oi := ⟨some 68, _, _, _, _, _⟩) (v := .int .u64 (n : Int)) rfl (by kernel_rfl) (by kernel_rfl) (fun _ _ _ h => h) _ _ _ _ (by kernel_rfl) (by kernel_rfl) (Or.inl ⟨by rfl, fun w' hS' => (by have c0 := hS'.1; clear hS hS'; go_simp)⟩) hS ?_
              try simp only [Act.put, List.setIfInBounds_toArray, List.set_cons_zero, List.set_cons_succ]
              refine walkS_take (i := 6) (oi := ⟨some 69, _, _, _, _, _⟩) (v := .slice (some ⟨b0, off, none⟩) ps.length c) rfl (by kernel_rfl) (by kernel_rfl) (fun _ _ _ h => h) _ _ _ _ (by kernel_rfl) (by kernel_rfl) (Or.inl ⟨by rfl, fun w' hS' => (by clear hS hS'; go_simp)⟩) hS ?_
              try simp only [Act.put, List.setIfInBounds_toArray, List.set_cons_zero, List.set_cons_succ]
              refine walkS_take (i := 7) (oi := ⟨some 70, _, _, _, _, _⟩) (v := .int .i64 (j : Int)) rfl (by kernel_rfl) (by kernel_rfl) (fun _ _ _ h => h) _ _ _ _ (by kernel_rfl) (by kernel_rfl) (Or.inl ⟨by rfl, fun w' hS' => (by clear hS hS'; go_simp)⟩) hS ?_
              try simp only [Act.put, List.setIfInBounds_toArray, List.set_cons_zero, List.set_cons_succ]
              refine walkS_take (i := 8) (oi := ⟨some 71, _, _, _, _, _⟩) (v := .pointer (some ⟨b0, off + j * 5, none⟩)) rfl (by kernel_rfl) (by kernel_rfl) (fun _ _ _ h => h) _ _ _ _ (by kernel_rfl) (by kernel_rfl) (Or.inl ⟨by rfl, fun w' hS' => (by clear hS hS'; go_simp)⟩) hS ?_
              try simp only [Act.put, List.setIfInBounds_toArray, List.set_cons_zero, List.set_cons_succ]
              refine walkS_take (i := 9) (oi := ⟨some 72, _, _, _, _, _⟩) (v := .pointer (some ⟨b0, off + j * 5 + 1, none⟩)) rfl (by kernel_rfl) (by kernel_rfl) (fun _ _ _ h => h) _ _ _ _ (by kernel_rfl) (by kernel_rfl) (Or.inl ⟨by rfl, fun w' hS' => (by clear hS hS'; go_simp)⟩) hS ?_
              try simp only [Act.put, List.setIfInBounds_toArray, List.set_cons_zero, List.set_cons_succ]
              refine walkS_take (i := 10) (oi := ⟨some 73, _, _, _, _, _⟩) (v := .int .i64 z) rfl (by kernel_rfl) (by kernel_rfl) (fun _ _ _ h => h) _ _ _ _ (by kernel_rfl) (by kernel_rfl) (Or.inl ⟨by rfl, fun w' hS' => (by have c0 := hS'.2; clear hS hS'; go_simp)⟩) hS ?_
              try simp only [Act.put, List.setIfInBounds_toArray, List.set_cons_zero, List.set_cons_succ]
              clear hS
              refine walkS_only (i := 11) (o := ⟨some 74, _, _, _, _, _⟩) (by kernel_rfl) rfl rfl fun KK hKK => ?_
              go_simp
              refine (roNumber_any w4.drew (fun k => v5.ownBlock = some k) r s n z HN0.out R4.out (by omega) (fun k hk => (World.ownsRow.lt O4.out.2 k hk).2)).mono ?_
              intro e w5 hh
              obtain ⟨he, h5, g5⟩ := hh
              subst he
              have R5 := Lib.hid h5
              have O5 := Lib.hid ((show OutAt w4.drew o v5 _ from O4.out).beside R4.out g5)
              have B5 : Hid (Below w.heap.size w w5) := B4.out.drew.grown g5 B4.out.size (fun k e => by injection e with e; omega)
              clear h5
              refine hKK _ _ (.inr ⟨CW.out _ B5.out 2 _ rfl, CW.out _ B5.out 1 _ rfl⟩) (walkS_done (by kernel_rfl) ?_ _)
              clear hKK KK g5 O4 R4 B4
              obtain ⟨s', hs'⟩ : ∃ s', s' = s.wNum n z := ⟨_, rfl⟩
              have HE' : Hid (stW (ps.take (j + 1)) = s') := by show _ = _; rw [HST.out, hs']; simp [St.putIt]
              have INV5 : Hid (s'.Inv) := by show St.Inv _; rw [← HE'.out]; exact stW_inv _
              have STAY : Hid (s.e ≠ 0 → s'.e = s.e) := fun h => by rw [← HE'.out, HST.out, putIt_stays s _ h]
              have L5 : s'.l.length ≤ 1000000000 := by
                have h := stW_length (ps.take (j + 1)) fun x hx => H32.out x (List.mem_of_mem_take hx)
                rw [List.length_take_of_le (by omega), HE'.out] at h
                omega
              rw [← hs'] at O5 R5
              have HDO := Lib.hid (outDone_any w5 o v5 s' O5.out L5)
              have HDR := Lib.hid (fun w h => roDone_any w (fun k => v5.ownBlock = some k) r s' h)
              have HOI := Lib.hid (out_inv s' INV5.out)
              obtain ⟨y', hy'⟩ : ∃ y', y' = s'.e := ⟨_, rfl⟩
              have HY := Lib.hid hy'
              rw [← hy'] at HDO HDR STAY
              rw [HOI.out] at HDR
              clear L5 hs' hy'
              go_wp2_with fail
              refine HDO.out.mono ?_
              intro e w6 hh
              obtain ⟨u6, he, ho6, b6⟩ := hh
              subst he
              have U6 := Lib.hid ho6.bs
              have O6 := Lib.hid (O5.out.kept b6)
              have R6 := Lib.hid (R5.out.kept b6)
              have B6 := Lib.hid (below_size B5.out b6)
              obtain ⟨A6, c6, rfl, _, _⟩ := ho6.shape
              clear ho6 b6 HDO O5 R5 B5
              go_wp2_with fail
              refine (HDR.out _ R6.out).mono ?_
              intro e w7 hh
              obtain ⟨u7, he, hu7, b7⟩ := hh
              subst he
              have U7 := Lib.hid hu7
              have U67 := Lib.hid (U6.out.below b7)
              have O7 := Lib.hid (O6.out.kept b7)
              have R7 := Lib.hid (R6.out.kept b7)
              have B7 := Lib.hid (below_size B6.out b7)
              obtain ⟨A7, c7, rfl, _, _, _⟩ := hu7
              clear b7 HDR O6 R6 B6 U6
              have hyy : decide (y' = y') = true := by simp
              go_wp2_with fail
              refine (same_yes w7 _ _ s'.l U67.out U7.out).mono ?_
              intro e w8 hh
              obtain ⟨he, b8⟩ := hh
              subst he
              have O8 := Lib.hid (O7.out.kept b8)
              have R8 := Lib.hid (R7.out.kept b8)
              have B8 := Lib.hid (below_size B7.out b8)
              clear b8 O7 R7 B7 U67 U7
              by_cases hy0 : s.e = 0
              · have hd0 : decide (s.e = 0) = true := by simp [hy0]
                go_wp2_with fail
                go_roundw
                case rel => exact ⟨j + 1, v5, by omega, by go_num, by rw [HE'.out, ← HY.out], by rw [HE'.out]; exact O8.out, by rw [HE'.out]; exact R8.out, V5.out, B8.out⟩
                case measure => simp [intOf]; omega
              · have hd0 : decide (s.e = 0) = false := by simp [hy0]
                have hyq := STAY.out hy0
                have hd9 : decide (y' = s.e) = true := by simp [hyq]
                go_wp2_with fail
                go_roundw
                case rel => exact ⟨j + 1, v5, by omega, by go_num, by rw [HE'.out, ← HY.out]; first | rfl | rw [hyq], by rw [HE'.out]; exact O8.out, by rw [HE'.out]; exact R8.out, V5.out, B8.out⟩
                case measure => simp [intOf]; omega
            · have hdd1 : decide (d = 1) = false := by simp [hd1]
              by_cases hd2 : d = 2
              · subst hd2
                go_wp2_with fail
                refine (outBytes_any wr o vv s _ b HO.out HBr.out HOffB.out (by omega)).mono ?_
                intro e w4 hh
                obtain ⟨he, v5, h4, s4⟩ := hh
                subst he
                have hq4 := s4.base HB.out HB.out.size hlo HV.out
                have O4 := Lib.hid h4
                have B4 : Hid (Below w.heap.size w w4) := hq4.1
                have V5 : Hid (∀ k, v5.ownBlock = some k → w.heap.size ≤ k) := hq4.2
                have R4 := Lib.hid (HR.out.step s4 HO.out.1 HO.out.2)
                clear h4 hq4
                clear s4
                have c30 := (B4.out.cell (World.block_lt_of_cell? w _ (HCELL.out 3 _ rfl))).trans (HCELL.out 3 _ rfl)
                go_wp2_with fail
                refine (roBytes_any w4 (fun k => v5.ownBlock = some k) r s _ b R4.out (HBb.out.below B4.out) (by omega) (fun k hk => (World.ownsRow.lt O4.out.2 k hk).2)).mono ?_
                intro e w5 hh
                obtain ⟨he, h5, g5⟩ := hh
                subst he
                have R5 := Lib.hid h5
                have O5 := Lib.hid (O4.out.beside R4.out g5)
                have B5 : Hid (Below w.heap.size w w5) := B4.out.grown g5 B4.out.size (fun k e => by injection e with e; omega)
                clear h5
                clear g5 O4 R4 B4 c30
                obtain ⟨s', hs'⟩ : ∃ s', s' = s.wByt b := ⟨_, rfl⟩
                have HE' : Hid (stW (ps.take (j + 1)) = s') := by show _ = _; rw [HST.out, hs']; simp [St.putIt]
                have INV5 : Hid (s'.Inv) := by show St.Inv _; rw [← HE'.out]; exact stW_inv _
                have STAY : Hid (s.e ≠ 0 → s'.e = s.e) := fun h => by rw [← HE'.out, HST.out, putIt_stays s _ h]
                have L5 : s'.l.length ≤ 1000000000 := by
                  have h := stW_length (ps.take (j + 1)) fun x hx => H32.out x (List.mem_of_mem_take hx)
                  rw [List.length_take_of_le (by omega), HE'.out] at h
                  omega
                rw [← hs'] at O5 R5
                have HDO := Lib.hid (outDone_any w5 o v5 s' O5.out L5)
                have HDR := Lib.hid (fun w h => roDone_any w (fun k => v5.ownBlock = some k) r s' h)
                have HOI := Lib.hid (out_inv s' INV5.out)
                obtain ⟨y', hy'⟩ : ∃ y', y' = s'.e := ⟨_, rfl⟩
                have HY := Lib.hid hy'
                rw [← hy'] at HDO HDR STAY
                rw [HOI.out] at HDR
                clear L5 hs' hy'
                go_wp2_with fail
                refine HDO.out.mono ?_
                intro e w6 hh
                obtain ⟨u6, he, ho6, b6⟩ := hh
                subst he
                have U6 := Lib.hid ho6.bs
                have O6 := Lib.hid (O5.out.kept b6)
                have R6 := Lib.hid (R5.out.kept b6)
                have B6 := Lib.hid (below_size B5.out b6)
                obtain ⟨A6, c6, rfl, _, _⟩ := ho6.shape
                clear ho6 b6 HDO O5 R5 B5
                go_wp2_with fail
                refine (HDR.out _ R6.out).mono ?_
                intro e w7 hh
                obtain ⟨u7, he, hu7, b7⟩ := hh
                subst he
                have U7 := Lib.hid hu7
                have U67 := Lib.hid (U6.out.below b7)
                have O7 := Lib.hid (O6.out.kept b7)
                have R7 := Lib.hid (R6.out.kept b7)
                have B7 := Lib.hid (below_size B6.out b7)
                obtain ⟨A7, c7, rfl, _, _, _⟩ := hu7
                clear b7 HDR O6 R6 B6 U6
                have hyy : decide (y' = y') = true := by simp
                go_wp2_with fail
                refine (same_yes w7 _ _ s'.l U67.out U7.out).mono ?_
                intro e w8 hh
                obtain ⟨he, b8⟩ := hh
                subst he
                have O8 := Lib.hid (O7.out.kept b8)
                have R8 := Lib.hid (R7.out.kept b8)
                have B8 := Lib.hid (below_size B7.out b8)
                clear b8 O7 R7 B7 U67 U7
                by_cases hy0 : s.e = 0
                · have hd0 : decide (s.e = 0) = true := by simp [hy0]
                  go_wp2_with fail
                  go_roundw
                  case rel => exact ⟨j + 1, v5, by omega, by go_num, by rw [HE'.out, ← HY.out], by rw [HE'.out]; exact O8.out, by rw [HE'.out]; exact R8.out, V5.out, B8.out⟩
                  case measure => simp [intOf]; omega
                · have hd0 : decide (s.e = 0) = false := by simp [hy0]
                  have hyq := STAY.out hy0
                  have hd9 : decide (y' = s.e) = true := by simp [hyq]
                  go_wp2_with fail
                  go_roundw
                  case rel => exact ⟨j + 1, v5, by omega, by go_num, by rw [HE'.out, ← HY.out]; first | rfl | rw [hyq], by rw [HE'.out]; exact O8.out, by rw [HE'.out]; exact R8.out, V5.out, B8.out⟩
                  case measure => simp [intOf]; omega
              · have hdd2 : decide (d = 2) = false := by simp [hd2]
                by_cases hd3 : d = 3
                · subst hd3
                  go_wp2_with fail
                  refine (outKeys_any wr o vv s _ l HO.out HKr.out HOffL.out (by omega)).mono ?_
                  intro e w4 hh
                  obtain ⟨he, v5, h4, s4⟩ := hh
                  subst he
                  have hq4 := s4.base HB.out HB.out.size hlo HV.out
                  have O4 := Lib.hid h4
                  have B4 : Hid (Below w.heap.size w w4) := hq4.1
                  have V5 : Hid (∀ k, v5.ownBlock = some k → w.heap.size ≤ k) := hq4.2
                  have R4 := Lib.hid (HR.out.step s4 HO.out.1 HO.out.2)
                  clear h4 hq4
                  clear s4
                  have c30 := (B4.out.cell (World.block_lt_of_cell? w _ (HCELL.out 4 _ rfl))).trans (HCELL.out 4 _ rfl)
                  go_wp2_with fail
                  refine (roKeys_any w4 (fun k => v5.ownBlock = some k) r s _ l R4.out (HKk.out.below B4.out) (by omega) (fun k hk => (World.ownsRow.lt O4.out.2 k hk).2)).mono ?_
                  intro e w5 hh
                  obtain ⟨he, h5, g5⟩ := hh
                  subst he
                  have R5 := Lib.hid h5
                  have O5 := Lib.hid (O4.out.beside R4.out g5)
                  have B5 : Hid (Below w.heap.size w w5) := B4.out.grown g5 B4.out.size (fun k e => by injection e with e; omega)
                  clear h5
                  clear g5 O4 R4 B4 c30
                  obtain ⟨s', hs'⟩ : ∃ s', s' = s.wKey l := ⟨_, rfl⟩
                  have HE' : Hid (stW (ps.take (j + 1)) = s') := by show _ = _; rw [HST.out, hs']; simp [St.putIt]
                  have INV5 : Hid (s'.Inv) := by show St.Inv _; rw [← HE'.out]; exact stW_inv _
                  have STAY : Hid (s.e ≠ 0 → s'.e = s.e) := fun h => by rw [← HE'.out, HST.out, putIt_stays s _ h]
                  have L5 : s'.l.length ≤ 1000000000 := by
                    have h := stW_length (ps.take (j + 1)) fun x hx => H32.out x (List.mem_of_mem_take hx)
                    rw [List.length_take_of_le (by omega), HE'.out] at h
                    omega
                  rw [← hs'] at O5 R5
                  have HDO := Lib.hid (outDone_any w5 o v5 s' O5.out L5)
                  have HDR := Lib.hid (fun w h => roDone_any w (fun k => v5.ownBlock = some k) r s' h)
                  have HOI := Lib.hid (out_inv s' INV5.out)
                  obtain ⟨y', hy'⟩ : ∃ y', y' = s'.e := ⟨_, rfl⟩
                  have HY := Lib.hid hy'
                  rw [← hy'] at HDO HDR STAY
                  rw [HOI.out] at HDR
                  clear L5 hs' hy'
                  go_wp2_with fail
                  refine HDO.out.mono ?_
                  intro e w6 hh
                  obtain ⟨u6, he, ho6, b6⟩ := hh
                  subst he
                  have U6 := Lib.hid ho6.bs
                  have O6 := Lib.hid (O5.out.kept b6)
                  have R6 := Lib.hid (R5.out.kept b6)
                  have B6 := Lib.hid (below_size B5.out b6)
                  obtain ⟨A6, c6, rfl, _, _⟩ := ho6.shape
                  clear ho6 b6 HDO O5 R5 B5
                  go_wp2_with fail
                  refine (HDR.out _ R6.out).mono ?_
                  intro e w7 hh
                  obtain ⟨u7, he, hu7, b7⟩ := hh
                  subst he
                  have U7 := Lib.hid hu7
                  have U67 := Lib.hid (U6.out.below b7)
                  have O7 := Lib.hid (O6.out.kept b7)
                  have R7 := Lib.hid (R6.out.kept b7)
                  have B7 := Lib.hid (below_size B6.out b7)
                  obtain ⟨A7, c7, rfl, _, _, _⟩ := hu7
                  clear b7 HDR O6 R6 B6 U6
                  have hyy : decide (y' = y') = true := by simp
                  go_wp2_with fail
                  refine (same_yes w7 _ _ s'.l U67.out U7.out).mono ?_
                  intro e w8 hh
                  obtain ⟨he, b8⟩ := hh
                  subst he
                  have O8 := Lib.hid (O7.out.kept b8)
                  have R8 := Lib.hid (R7.out.kept b8)
                  have B8 := Lib.hid (below_size B7.out b8)
                  clear b8 O7 R7 B7 U67 U7
                  by_cases hy0 : s.e = 0
                  · have hd0 : decide (s.e = 0) = true := by simp [hy0]
                    go_wp2_with fail
                    go_roundw
                    case rel => exact ⟨j + 1, v5, by omega, by go_num, by rw [HE'.out, ← HY.out], by rw [HE'.out]; exact O8.out, by rw [HE'.out]; exact R8.out, V5.out, B8.out⟩
                    case measure => simp [intOf]; omega
                  · have hd0 : decide (s.e = 0) = false := by simp [hy0]
                    have hyq := STAY.out hy0
                    have hd9 : decide (y' = s.e) = true := by simp [hyq]
                    go_wp2_with fail
                    go_roundw
                    case rel => exact ⟨j + 1, v5, by omega, by go_num, by rw [HE'.out, ← HY.out]; first | rfl | rw [hyq], by rw [HE'.out]; exact O8.out, by rw [HE'.out]; exact R8.out, V5.out, B8.out⟩
                    case measure => simp [intOf]; omega
                · have hdd3 : decide (d = 3) = false := by simp [hd3]
                  obtain ⟨w5, hw5⟩ : ∃ w5, w5 = wr := ⟨_, rfl⟩
                  obtain ⟨v5, hv5⟩ : ∃ v5, v5 = vv := ⟨_, rfl⟩
                  have O5 : Hid (OutAt w5 o v5 s) := by rw [hw5, hv5]; exact HO.out
                  have R5 : Hid (RoAt w5 r s (fun k => v5.ownBlock = some k)) := by rw [hw5, hv5]; exact HR.out
                  have B5 : Hid (Below w.heap.size w w5) := by rw [hw5]; exact HB.out
                  have V5 : Hid (∀ k, v5.ownBlock = some k → w.heap.size ≤ k) := by rw [hv5]; exact HV.out
                  rw [← hw5] at c0 c1 c2 c3 c4 ⊢
                  clear hw5 hv5
                  obtain ⟨s', hs'⟩ : ∃ s', s' = s := ⟨_, rfl⟩
                  have HE' : Hid (stW (ps.take (j + 1)) = s') := by show _ = _; rw [HST.out, hs']; simp [St.putIt, hd1, hd2, hd3]
                  have INV5 : Hid (s'.Inv) := by show St.Inv _; rw [← HE'.out]; exact stW_inv _
                  have STAY : Hid (s.e ≠ 0 → s'.e = s.e) := fun h => by rw [← HE'.out, HST.out, putIt_stays s _ h]
                  have L5 : s'.l.length ≤ 1000000000 := by
                    have h := stW_length (ps.take (j + 1)) fun x hx => H32.out x (List.mem_of_mem_take hx)
                    rw [List.length_take_of_le (by omega), HE'.out] at h
                    omega
                  rw [← hs'] at O5 R5
                  have HDO := Lib.hid (outDone_any w5 o v5 s' O5.out L5)
                  have HDR := Lib.hid (fun w h => roDone_any w (fun k => v5.ownBlock = some k) r s' h)
                  have HOI := Lib.hid (out_inv s' INV5.out)
                  obtain ⟨y', hy'⟩ : ∃ y', y' = s'.e := ⟨_, rfl⟩
                  have HY := Lib.hid hy'
                  rw [← hy'] at HDO HDR STAY
                  rw [HOI.out] at HDR
                  clear L5 hs' hy'
                  go_wp2_with fail
                  refine HDO.out.mono ?_
                  intro e w6 hh
                  obtain ⟨u6, he, ho6, b6⟩ := hh
                  subst he
                  have U6 := Lib.hid ho6.bs
                  have O6 := Lib.hid (O5.out.kept b6)
                  have R6 := Lib.hid (R5.out.kept b6)
                  have B6 := Lib.hid (below_size B5.out b6)
                  obtain ⟨A6, c6, rfl, _, _⟩ := ho6.shape
                  clear ho6 b6 HDO O5 R5 B5
                  go_wp2_with fail
                  refine (HDR.out _ R6.out).mono ?_
                  intro e w7 hh
                  obtain ⟨u7, he, hu7, b7⟩ := hh
                  subst he
                  have U7 := Lib.hid hu7
                  have U67 := Lib.hid (U6.out.below b7)
                  have O7 := Lib.hid (O6.out.kept b7)
                  have R7 := Lib.hid (R6.out.kept b7)
                  have B7 := Lib.hid (below_size B6.out b7)
                  obtain ⟨A7, c7, rfl, _, _, _⟩ := hu7
                  clear b7 HDR O6 R6 B6 U6
                  have hyy : decide (y' = y') = true := by simp
                  go_wp2_with fail
                  refine (same_yes w7 _ _ s'.l U67.out U7.out).mono ?_
                  intro e w8 hh
                  obtain ⟨he, b8⟩ := hh
                  subst he
                  have O8 := Lib.hid (O7.out.kept b8)
                  have R8 := Lib.hid (R7.out.kept b8)
                  have B8 := Lib.hid (below_size B7.out b8)
                  clear b8 O7 R7 B7 U67 U7
                  by_cases hy0 : s.e = 0
                  · have hd0 : decide (s.e = 0) = true := by simp [hy0]
                    go_wp2_with fail
                    go_roundw
                    case rel => exact ⟨j + 1, v5, by omega, by go_num, by rw [HE'.out, ← HY.out], by rw [HE'.out]; exact O8.out, by rw [HE'.out]; exact R8.out, V5.out, B8.out⟩
                    case measure => simp [intOf]; omega
                  · have hd0 : decide (s.e = 0) = false := by simp [hy0]
                    have hyq := STAY.out hy0
                    have hd9 : decide (y' = s.e) = true := by simp [hyq]
                    go_wp2_with fail
                    go_roundw
                    case rel => exact ⟨j + 1, v5, by omega, by go_num, by rw [HE'.out, ← HY.out]; first | rfl | rw [hyq], by rw [HE'.out]; exact O8.out, by rw [HE'.out]; exact R8.out, V5.out, B8.out⟩
                    case measure => simp [intOf]; omega
      · have hj2 : j = ps.length := by omega
        subst hj2
        go_wp2_with fail
        go_ret
        exact ⟨rfl, HB.out⟩
end Go.Proofs.Ytjhhpakaemnemaa
end
section
namespace Go.Proofs.Ytjhhpakaemnemaa.codecWrites
open Go.ChangeShapes Go.WideShapes Go.ChangeAt Go.RowKit
open Go.ChangeMaps (open_string shut_string)
set_option linter.unusedVariables false

theorem own : ownKnob Try.prog.godebug = none := by kernel_rfl
theorem laidOut : laidOutB Try.prog = true := by kernel_rfl

set_option maxRecDepth 100000 in
theorem lifted (os : Os) (started : os.Started) (H : Type) (enc : TypeId × Value → H) :
    ReturnsInHanded {} Try.checked os 8 .any (Rows.codecWritesSpec.pre6 enc Try.prog Try.f8 Rows.codecWritesRow.domain false) (Rows.codecWritesSpec.post enc Try.prog Try.f8 false true false false) := by
  refine returnsInHanded_of_change (C := Try.checked) own started (by kernel_rfl) Try.func8
    (ChangeSpec.witness6 (enc := enc) (C := Try.checked) false ⟨#[], #[.slice none 0 0], []⟩ 8 (by kernel_rfl) (by kernel_rfl) (by kernel_rfl) (by kernel_rfl)) ?_
  intro W base args ds gs before hval0 hW hcnd _
  have hval : ∀ (j : Nat) t v, Try.f8.params[j]? = some t → args[j]? = some v → Value.okWide Try.prog W .any base t v := hval0
  have hW' := hW
  obtain ⟨p, q, hA0, hV, rfl, hfz, hnd⟩ := hW
  have hA : DataW.TrodAll enc Try.prog W 0 (fun _ => true) true Try.f8.params.toList args.toList ds p := hA0
  rw [Try.params8] at hA hval
  obtain ⟨v0, vs0, d0, ds0, p0, q0, hargs, rfl, rfl, h0, r0⟩ := trodAll_cons hA
  obtain ⟨rfl, rfl, rfl⟩ := trodAll_nil r0
  obtain rfl : args = #[v0] := by cases args; simp_all
  obtain ⟨rfl, rfl⟩ := trodVars_none hV
  obtain ⟨a0, len0, cap0, rfl⟩ := okWide_slice Try.underlying63 (hval 0 63 v0 rfl rfl)
  have k0 := h0
  have lt0 : ∀ x ∈ p0, x.block < W.heap.size := by obtain ⟨m, hm⟩ := k0; exact DataW.trod_lt m _ _ _ hm
  obtain ⟨l0, w0⟩ : ∃ l : List Pt, Puts W (.slice a0 len0 cap0) l := by
    obtain ⟨fuel, hf⟩ := h0
    obtain ⟨v, l, hcs, hl⟩ := open_puts hf
    simp [Value.cells] at hcs
    exact ⟨l, hcs ▸ hl⟩
  clear hA0 hval0
  refine (codecWrites_walk W _ l0 w0).mono fun e W' ⟨he, bel⟩ => ?_
  subst he
  exact ⟨_, rfl, _, _, _, [], _, [], hW', trodAll_mk1 (shut_bool Try.underlying4 _), (trodAll_cons_mk (Below.trod laidOut (by kernel_rfl) (of_decide_eq_true (by kernel_rfl)) k0 bel lt0) trodAll_mk0), rfl, bel.frame _, fun h => by cases h⟩

theorem over : Rows.codecWritesRow.holds Try.pinned (OpenSpec.ofChange Rows.codecWritesSpec) :=
  OpenClaim.holds_of_wide 8 Try.f8 rfl rfl rfl rfl rfl rfl rfl ⟨rfl, rfl, rfl, rfl, rfl⟩ rfl rfl rfl rfl rfl (by kernel_rfl) Try.func8 (by kernel_rfl)
    (of_decide_eq_true (by kernel_rfl)) (by unfold Func.isWrapper; first | (rw [if_pos (by decide +kernel)]; kernel_rfl) | (rw [if_neg (by decide +kernel)]; exact ⟨rfl, rfl⟩))
    (fun os started H enc _ => lifted os started H enc)

theorem proved : Rows.CodecWritesSaid := over
#print axioms proved
end Go.Proofs.Ytjhhpakaemnemaa.codecWrites
end
