/-
  Texts that belong together, merged: SealC, SealD, SealE, SealF, SealG, ArrEq, Env. Conditions: as each theorem names them.
-/
import Derived.Test.YtjdbjgaoeijmfaaDoorQSbaAL
import Derived.Test.YtjdbjgaoeijmfaaDoorQSbaAJ
import Derived.Test.YtjdbjgaoeijmfaaDoorQSbaAA
import Derived.Stop.BytesEq
import Derived.StillTactics
import Derived.Test.YtjdbjgaoeijmfaaDoorQSbaAD
import Derived.Test.YtjdbjgaoeijmfaaDoorQSbaAF
import Derived.Deep.MidRow
section
namespace Go.Proofs.YtjdbjgaoeijmfaaDoor
open Go.RowKit
set_option linter.unusedVariables false
set_option maxRecDepth 20000

def nonce0 : List UInt8 := List.replicate 12 0
theorem nonce0_length : nonce0.length = 12 := rfl
theorem nonce0V : Value.agg #[.int .u8 0, .int .u8 0, .int .u8 0, .int .u8 0, .int .u8 0, .int .u8 0, .int .u8 0, .int .u8 0, .int .u8 0, .int .u8 0, .int .u8 0, .int .u8 0] = .agg (keyC nonce0) := rfl
/-- A text, hidden (or shown) by a box's key. -/
def hidB (key text : List UInt8) : List UInt8 := mixS (hideK key) 0 nonce0 text
/-- What a box ends with. -/
def tagB (key aside hidden : List UInt8) : List UInt8 := macB (tagK key) ((lowB aside.length 8).reverse ++ (aside ++ hidden))

set_option maxHeartbeats 600000 in
theorem sealMixed_any (w0 w W : World) (hq : Quar w0) (b g n : Nat) (key hk tk text : List UInt8) (d m : Int) (v : Value) (hr : Run w0 w g n W) (hn : n ≤ 1000000) (hbg : b ≠ g) (hb : w.heap.size ≤ b) (hm : MakerAt W b g key 0 0 hk d m tk) (ht : ∀ n x, Run w0 w g n x → Aside b g W x → Bs x v text) (hl : text.length ≤ 4000) :
    Calls Tryd.prog 17 #[.pointer (some ⟨b, 0, none⟩), v] W fun e x => ∃ u n', n' ≤ n + 3 ∧ e = .returned (.tuple #[u, .int .i64 0]) ∧ OwnB x W.heap.size 5 u (hidB key text) ∧ Run w0 w g n' x ∧ Aside b g W x ∧ MakerAt x b g key 1 0 (hideK key) d m tk := by
  have HH := Lib.hid (hide_any w0 w W b g n key hk tk d m hr hn hbg hb hm)
  have HQ := Lib.hid hq
  have HT := Lib.hid ht
  obtain ⟨VA, vc, rfl, _, _, _⟩ := ht n W hr (Aside.refl _ _ _)
  have LX : Hid ((hideK key).length = 32) := hideK_length key
  obtain ⟨kx, hkx⟩ : ∃ k, k = hideK key := ⟨_, rfl⟩
  obtain ⟨res, hres⟩ : ∃ r, r = hidB key text := ⟨_, rfl⟩
  have HRES : Hid (mixS kx 0 nonce0 text = res) := by show _ = _; rw [hres, hidB, hkx]
  rw [← hkx] at HH LX
  rw [← hres, ← hkx]
  clear hr hm ht hq hres hkx
  go_enter Tryd.func17, Tryd.ntmps17
  go_wp2_with fail
  refine HH.out.mono ?_
  intro e x h
  obtain ⟨n', hn', he, r1, a1, m1⟩ := h
  subst he
  have T1 := Lib.hid (HT.out n' x r1 a1)
  have Q1 := Lib.hid (HQ.out.below r1.below)
  have R1 := Lib.hid r1
  have A1 := Lib.hid a1
  have M1 := Lib.hid m1
  clear r1 a1 m1 HH HT
  go_wp2_with fail
  have hmx := Mix_own x Q1.out kx nonce0 text 0 _ T1.out LX.out nonce0_length hl
  unfold keyV at hmx
  rw [← nonce0V, show ((0 : UInt32).toNat : Int) = 0 from rfl] at hmx
  refine hmx.mono ?_
  intro e y h
  obtain ⟨u, he, hu, by_⟩ := h
  rw [HRES.out] at hu
  subst he
  have R2 := Lib.hid (R1.out.kept by_)
  have A2 := Lib.hid (A1.out.trans (Aside.below by_))
  have M2 := Lib.hid (M1.out.kept by_)
  have U2 := Lib.hid (hu.low A1.out.1)
  clear hu by_ R1 A1 M1 T1
  go_wp2
  go_ret2
  exact ⟨u, n', hn', rfl, U2.out, R2.out, A2.out, M2.out⟩
end Go.Proofs.YtjdbjgaoeijmfaaDoor
end
section
namespace Go.Proofs.YtjdbjgaoeijmfaaDoor
open Go.RowKit
set_option linter.unusedVariables false
set_option maxRecDepth 20000

theorem Bs.asideAlloc {w w' : World} {v : Value} {l : List UInt8} (h : Bs w v l) (hb : Below w.heap.size w w') : Bs w' v l := h.below hb

set_option maxHeartbeats 2000000 in
theorem sealTag_any (w0 w W : World) (b g n : Nat) (key hk tk aside hidden : List UInt8) (d m : Int) (va vh : Value) (hr : Run w0 w g n W) (hn : n ≤ 1000000) (hbg : b ≠ g) (hb : w.heap.size ≤ b) (hm : MakerAt W b g key d m hk 0 0 tk)
    (ha : ∀ n x, Run w0 w g n x → Aside b g W x → Bs x va aside) (hh : ∀ n x, Run w0 w g n x → Aside b g W x → Bs x vh hidden) (hal : aside.length ≤ 4000) (hhl : hidden.length ≤ 5000) :
    Calls Tryd.prog 18 #[.pointer (some ⟨b, 0, none⟩), va, vh] W fun e x => ∃ n', n' ≤ n + 6 ∧ e = .returned (.agg (keyC (tagB key aside hidden))) ∧ Run w0 w g n' x ∧ Aside b g W x ∧ MakerAt x b g key d m hk 1 0 (tagK key) := by
  have HR := Lib.hid hr
  have HM := Lib.hid hm
  have HA := Lib.hid ha
  have HH := Lib.hid hh
  obtain ⟨AA, ac, rfl, _, ac2, _⟩ := ha n W hr (Aside.refl _ _ _)
  obtain ⟨HB, hc, rfl, _, _, _⟩ := hh n W hr (Aside.refl _ _ _)
  have hbl := hm.1.lt
  have hgl := hr.self.glt
  obtain ⟨kx, hkx⟩ : ∃ k, k = tagK key := ⟨_, rfl⟩
  have LX : Hid (kx.length = 32) := by show _ = _; rw [hkx]; exact tagK_length key
  obtain ⟨res, hres⟩ : ∃ r, r = tagB key aside hidden := ⟨_, rfl⟩
  have HRES : Hid (macB kx [(lowB aside.length 8).reverse, aside, hidden].flatten = res) := by show _ = _; rw [hres, tagB, hkx]; simp
  have LR : Hid (res.length = 32) := by show _ = _; rw [hres, tagB, macB_length]
  have HT : Hid (∀ x n, Run w0 w g n x → n ≤ 1000000 → MakerAt x b g key d m hk 0 0 tk → Calls Tryd.prog 27 #[.pointer (some ⟨b, 0, none⟩)] x fun e y => ∃ n', n' ≤ n + 3 ∧ e = .returned (.agg (keyC kx)) ∧ Run w0 w g n' y ∧ Aside b g x y ∧ MakerAt y b g key d m hk 1 0 kx) := fun x n h1 h2 h3 => by rw [hkx]; exact tag_any w0 w x b g n key hk tk d m h1 h2 hbg hb h3
  rw [← hres, ← hkx]
  clear hr hm ha hh hres hkx
  go_enter Tryd.func18, Tryd.ntmps18
  go_wp2_with ((with_reducible refine wpList_alloc_row (o := ⟨some 6, _, _, _, _, _⟩) rfl 23 rfl (keyC zeroKey) Tryd.zeroK ?_); intro g6 w1 n1)
  have R1 := Lib.hid (HR.out.kept n1.below)
  have A1 := Lib.hid (Aside.below (b := b) (g := g) n1.below)
  have M1 := Lib.hid (HM.out.kept n1.below)
  have Q1 := Lib.hid n1.row
  have s6 := n1.spot
  have h6b : g6 ≠ b := by omega
  have h6g : g6 ≠ g := by omega
  have h6w : w.heap.size ≤ g6 := by have := HR.out.size; omega
  have hg6 : W.heap.size ≤ g6 := by omega
  clear n1 HR HM s6
  refine (HT.out w1 n R1.out hn M1.out).mono ?_
  intro e w2 h
  obtain ⟨n2, hn2, he, r2, a2, m2⟩ := h
  subst he
  have Q2 := Lib.hid (a2.row Q1.out h6b h6g)
  have R2 := Lib.hid r2
  have A2 := Lib.hid (A1.out.trans a2)
  have M2 := Lib.hid m2
  clear r2 a2 m2 R1 A1 M1 Q1 HT
  go_wp2_with (first
    | ((with_reducible refine wpList_alloc_row (o := ⟨some 7, _, _, _, _, _⟩) rfl 23 rfl (keyC zeroKey) Tryd.zeroK ?_); intro g7 w3 n3)
    | ((with_reducible refine wpList_store_row (o := ⟨none, _, _, _, _, _⟩) rfl 23 (.tmp 7) (.tmp 9) rfl g7 23 _ (keyC kx) (by with_unfolding_all rfl) (by with_unfolding_all rfl) n3.row (keyC_same zeroKey_length LX.out) (Tryd.sizeKey kx LX.out) (keyC_one kx) ?_); intro w4 p4))
  have b4 := (laid_put n3 p4).1
  have R4 := Lib.hid (R2.out.kept b4)
  have A4 := Lib.hid (A2.out.trans (Aside.below b4))
  have M4 := Lib.hid (M2.out.kept b4)
  have Q4 := Lib.hid (Q2.out.kept b4)
  have K4 := Lib.hid p4.row
  have hgl4 := R4.out.self.glt
  have h76 : g7 ≠ g6 := by have := n3.spot; have := Q2.out.lt; omega
  clear n3 p4 b4 R2 A2 M2 Q2
  refine plain_region (S := fun W' => MakerAt W' b g key d m hk 1 0 kx) (fin := fun _ => false) (by kernel_rfl) ?_
  have hS : MakerAt w4.drew b g key d m hk 1 0 kx := M4.out.drew
  have B5 := Lib.hid ((Below.refl w4.heap.size w4).drew)
  have haw : IntKind.u64.wrap (aside.length : Int) = (aside.length : Int) := by rw [IntKind.wrap_u64]; omega
  change walkS _ _ _ _ _ _ 14 _ _ _
  refine walkS_take (i := 0) (oi := ⟨some 10, _, _, _, _, _⟩) (v := .pointer (some ⟨b, 0, none⟩)) rfl (by kernel_rfl) (by kernel_rfl) (fun _ _ _ h => h) _ _ _ _ (by kernel_rfl) (by kernel_rfl) (Or.inl ⟨by rfl, fun w' hS' => (by clear hS hS'; go_simp)⟩) hS ?_
  simp only [Act.put, List.setIfInBounds_toArray, List.set_cons_zero, List.set_cons_succ]
  refine walkS_take (i := 1) (oi := ⟨some 11, _, _, _, _, _⟩) (v := .pointer (some ⟨b, 0, none⟩)) rfl (by kernel_rfl) (by kernel_rfl) (fun _ _ _ h => h) _ _ _ _ (by kernel_rfl) (by kernel_rfl) (Or.inl ⟨by rfl, fun w' hS' => (by clear hS hS'; go_simp)⟩) hS ?_
  simp only [Act.put, List.setIfInBounds_toArray, List.set_cons_zero, List.set_cons_succ]
  refine walkS_take (i := 2) (oi := ⟨some 12, _, _, _, _, _⟩) (v := .pointer (some ⟨b, 0, none⟩)) rfl (by kernel_rfl) (by kernel_rfl) (fun _ _ _ h => h) _ _ _ _ (by kernel_rfl) (by kernel_rfl) (Or.inl ⟨by rfl, fun w' hS' => (by clear hS hS'; go_simp)⟩) hS ?_
  simp only [Act.put, List.setIfInBounds_toArray, List.set_cons_zero, List.set_cons_succ]
  refine walkS_take (i := 3) (oi := ⟨some 13, _, _, _, _, _⟩) (v := .pointer (some ⟨g, 0, none⟩)) rfl (by kernel_rfl) (by kernel_rfl) (fun _ _ _ h => h) _ _ _ _ (by kernel_rfl) (by kernel_rfl) (Or.inl ⟨by rfl, fun w' hS' => (by have c := hS'.c0; clear hS hS'; go_simp)⟩) hS ?_
  simp only [Act.put, List.setIfInBounds_toArray, List.set_cons_zero, List.set_cons_succ]
  refine walkS_take (i := 4) (oi := ⟨some 14, _, _, _, _, _⟩) (v := .slice (some ⟨g7, 0, none⟩) 32 32) rfl (by kernel_rfl) (by kernel_rfl) (fun _ _ _ h => h) _ _ _ _ (by kernel_rfl) (by kernel_rfl) (Or.inl ⟨by rfl, fun w' hS' => (by clear hS hS'; go_simp)⟩) hS ?_
  simp only [Act.put, List.setIfInBounds_toArray, List.set_cons_zero, List.set_cons_succ]
  refine walkS_take (i := 5) (oi := ⟨some 15, _, _, _, _, _⟩) (v := .slice AA aside.length ac) rfl (by kernel_rfl) (by kernel_rfl) (fun _ _ _ h => h) _ _ _ _ (by kernel_rfl) (by kernel_rfl) (Or.inl ⟨by rfl, fun w' hS' => (by clear hS hS'; go_simp)⟩) hS ?_
  simp only [Act.put, List.setIfInBounds_toArray, List.set_cons_zero, List.set_cons_succ]
  refine walkS_take (i := 6) (oi := ⟨some 16, _, _, _, _, _⟩) (v := .int .i64 (aside.length : Int)) rfl (by kernel_rfl) (by kernel_rfl) (fun _ _ _ h => h) _ _ _ _ (by kernel_rfl) (by kernel_rfl) (Or.inl ⟨by rfl, fun w' hS' => (by clear hS hS'; go_simp)⟩) hS ?_
  simp only [Act.put, List.setIfInBounds_toArray, List.set_cons_zero, List.set_cons_succ]
  refine walkS_take (i := 7) (oi := ⟨some 17, _, _, _, _, _⟩) (v := .int .u64 (aside.length : Int)) rfl (by kernel_rfl) (by kernel_rfl) (fun _ _ _ h => h) _ _ _ _ (by kernel_rfl) (by kernel_rfl) (Or.inl ⟨by rfl, fun w' hS' => (by clear hS hS'; go_simp)⟩) hS ?_
  simp only [Act.put, List.setIfInBounds_toArray, List.set_cons_zero, List.set_cons_succ]
  refine walkS_take (i := 9) (oi := ⟨some 19, _, _, _, _, _⟩) (v := .slice AA aside.length ac) rfl (by kernel_rfl) (by kernel_rfl) (fun _ _ _ h => h) _ _ _ _ (by kernel_rfl) (by kernel_rfl) (Or.inl ⟨by rfl, fun w' hS' => (by clear hS hS'; go_simp)⟩) hS ?_
  simp only [Act.put, List.setIfInBounds_toArray, List.set_cons_zero, List.set_cons_succ]
  refine walkS_take (i := 10) (oi := ⟨some 20, _, _, _, _, _⟩) (v := .slice HB hidden.length hc) rfl (by kernel_rfl) (by kernel_rfl) (fun _ _ _ h => h) _ _ _ _ (by kernel_rfl) (by kernel_rfl) (Or.inl ⟨by rfl, fun w' hS' => (by clear hS hS'; go_simp)⟩) hS ?_
  simp only [Act.put, List.setIfInBounds_toArray, List.set_cons_zero, List.set_cons_succ]
  refine walkS_only (i := 8) (o := ⟨some 18, _, _, _, _, _⟩) (by kernel_rfl) rfl rfl fun K hK => ?_
  have HS := Lib.hid hS
  clear hS
  go_simp
  refine (High_own _ aside.length 8 (by omega) (by omega) (by omega)).mono ?_
  intro e w6 h
  obtain ⟨u, he, hu, b6⟩ := h
  subst he
  have hS := HS.out.kept b6
  have U6 := Lib.hid hu.bs
  have B6 := Lib.hid (below_size B5.out b6)
  obtain ⟨UA, uc, hu2, _, _, _⟩ := hu.bs
  replace hu2 : u = .slice UA 8 uc := by rw [hu2, List.length_reverse, lowB_length]
  subst hu2
  refine hK _ _ (.inr hS) ?_
  clear hK K HS hu b6 B5
  try simp only [Act.put, List.setIfInBounds_toArray, List.set_cons_zero, List.set_cons_succ]
  refine walkS_only (i := 11) (o := ⟨some 21, _, _, _, _, _⟩) (by kernel_rfl) rfl rfl fun K hK => ?_
  have HS := Lib.hid hS
  clear hS
  go_simp
  have R6 := Lib.hid (R4.out.kept B6.out)
  have A6 := Lib.hid (A4.out.trans (Aside.below B6.out))
  have V7 := Lib.hid (Bss.three w6 24 _ _ _ _ _ _ U6.out (HA.out _ _ R6.out A6.out) (HH.out _ _ R6.out A6.out))
  have b7 := alloc_below w6 (.cells #[.slice UA 8 uc, .slice AA aside.length ac, .slice HB hidden.length hc] 24)
  have hS := HS.out.kept b7
  have B7 := Lib.hid (below_size B6.out b7)
  have hbg7 : w6.heap.size ≠ g := by have := R6.out.glt; have := R6.out.size; have := R6.out.self.glt; omega
  refine hK _ _ (.inr hS) ?_
  clear hK K HS b7 B6 U6 R6 A6
  generalize w6.alloc (.cells #[.slice UA 8 uc, .slice AA aside.length ac, .slice HB hidden.length hc] 24) = w7 at hS V7 B7 ⊢
  refine walkS_only (i := 12) (o := ⟨some 22, _, _, _, _, _⟩) (by kernel_rfl) rfl rfl fun K hK => ?_
  have HS := Lib.hid hS
  clear hS
  go_simp
  have R7 := Lib.hid (R4.out.kept B7.out)
  have K7 := Lib.hid (K4.out.kept B7.out)
  have Q7 := Lib.hid (Q4.out.kept B7.out)
  have A7 := Lib.hid (A4.out.trans (Aside.below B7.out))
  refine (macSum_any w0 w7 g n2 (.slice (some ⟨g7, 0, none⟩) 32 32) kx _ 0 3 [(lowB aside.length 8).reverse, aside, hidden] (by exact R7.out.self) (by omega) (by exact row32 K7.out LX.out) (by rw [LX.out]; omega) (by exact V7.out) hbg7 (by simp) (by simp [lowB_length]; omega) (by simp)).mono ?_
  intro e w8 h
  obtain ⟨n8, hn8, he, r8⟩ := h
  subst he
  rw [HRES.out]
  have hS := HS.out.grown r8.grown (by intro e; injection e with e; exact hbg e)
  have R8 := Lib.hid (R7.out.trans r8)
  have Q8 := Lib.hid (r8.other Q7.out h6g)
  have A8 := Lib.hid (A7.out.trans (Aside.other r8.grown))
  refine hK _ _ (.inr hS) ?_
  clear hK K HS r8 R7 K7 Q7 A7 V7 B7
  refine walkS_only (i := 13) (o := ⟨none, _, _, _, _, _⟩) (by kernel_rfl) rfl rfl fun K hK => ?_
  refine wp_store_row 23 (.tmp 6) (.tmp 22) rfl g6 23 _ (keyC res) rfl rfl Q8.out (keyC_same zeroKey_length LR.out) (Tryd.sizeKey res LR.out) (keyC_one res) ?_
  intro w9 p9
  have hM := hS.grown p9.grown (by intro e; injection e with e; exact h6b e.symm)
  refine hK _ _ (.inr hM) (walkS_done (by kernel_rfl) ?_ _)
  have HM9 := Lib.hid hM
  clear hM hS
  go_wp2_with fail
  refine bodyPost_ret (results_cell_row rfl _ _ g6 23 (keyC res) (0, 0) (.array 32 5) rfl p9.row Tryd.underlying23 rfl (Tryd.sizeKey res LR.out)) rfl ⟨n8, by omega, rfl, R8.out.turn p9.grown h6w h6g, ?_, HM9.out⟩
  exact ⟨Nat.le_trans A8.out.1 p9.grown.size, fun k hk h1 h2 => (p9.grown.block k (Nat.lt_of_lt_of_le hk A8.out.1) (fun e => by injection e with e; omega)).trans (A8.out.2 k hk h1 h2)⟩
end Go.Proofs.YtjdbjgaoeijmfaaDoor
end
section
namespace Go.Proofs.YtjdbjgaoeijmfaaDoor
open Go.RowKit
set_option linter.unusedVariables false
set_option maxRecDepth 20000

def zero32L : List UInt8 := List.replicate 32 0
theorem zero32L_length : zero32L.length = 32 := rfl
def makerZ : List Value := .pointer none :: (cellsB zero32L ++ (onceC 0 0 ++ (cellsB zero32L ++ (onceC 0 0 ++ cellsB zero32L))))
theorem Tryd.makerZero : (Tryd.prog.info? 61).map (·.zero) = some (some (.agg makerZ.toArray)) := by kernel_rfl
theorem fill_at (z : List Value) (off : Nat) (l : List Value) (h : off + l.length ≤ z.length) : l.toArray.zipIdx.foldl (fun acc x => acc.setIfInBounds (off + x.2) x.1) z.toArray = (z.take off ++ l ++ z.drop (off + l.length)).toArray := by
  have key : ∀ (l : List Value) (k : Nat) (acc : List Value), off + k + l.length ≤ acc.length → (l.zipIdx k).foldl (fun (acc : Array Value) x => acc.setIfInBounds (off + x.2) x.1) acc.toArray = (acc.take (off + k) ++ l ++ acc.drop (off + k + l.length)).toArray := by
    intro l
    induction l with
    | nil => intro k acc h; simp
    | cons v l ih =>
      intro k acc h
      rw [List.length_cons] at h
      rw [List.zipIdx_cons, List.foldl_cons]
      have e : (acc.toArray.setIfInBounds (off + k) v) = (acc.set (off + k) v).toArray := by simp
      rw [e, ih (k + 1) (acc.set (off + k) v) (by rw [List.length_set]; omega)]
      congr 1
      rw [List.take_set, List.drop_set_of_lt (by omega), List.length_cons, show off + (k + 1) = off + k + 1 by omega, List.take_succ_eq_append_getElem (by omega), List.set_append_right _ _ (by rw [List.length_take]; omega), List.length_take, Nat.min_eq_left (by omega), Nat.sub_self, List.set_cons_zero]
      simp only [List.append_assoc, List.cons_append, List.nil_append]
      rw [show off + k + 1 + l.length = off + k + (l.length + 1) by omega]
  have := key l 0 z (by simpa using h)
  simpa using this
theorem maker_fill (g : Nat) (key : List UInt8) (hk : key.length = 32) : ((makerZ.set 0 (.pointer (some ⟨g, 0, none⟩))).take 1 ++ cellsB key ++ (makerZ.set 0 (.pointer (some ⟨g, 0, none⟩))).drop (1 + (cellsB key).length)) = makerL g key 0 0 zero32L 0 0 zero32L := by
  rw [cellsB_length, hk]
  have e : makerZ.set 0 (.pointer (some ⟨g, 0, none⟩)) = (.pointer (some ⟨g, 0, none⟩) :: cellsB zero32L) ++ (onceC 0 0 ++ (cellsB zero32L ++ (onceC 0 0 ++ cellsB zero32L))) := by simp [makerZ]
  rw [e, List.drop_left' (by simp [cellsB_length, zero32L_length])]
  simp [makerL]
theorem build_maker (w : World) (g : Nat) (key : List UInt8) (hk : key.length = 32) :
    (Instr.build 61 #[(0, .pointer (some ⟨g, 0, none⟩)), (1, .agg (keyC key))]).run Tryd.prog w = .ok (.agg (makerL g key 0 0 zero32L 0 0 zero32L).toArray) w := by
  obtain ⟨j, hj, hj2⟩ := Option.map_eq_some_iff.1 Tryd.makerZero
  obtain ⟨i, hi, hi2⟩ := Option.map_eq_some_iff.1 (Tryd.sizeKey key hk)
  have hf := fill_at (makerZ.set 0 (.pointer (some ⟨g, 0, none⟩))) 1 (cellsB key) (by rw [cellsB_length, hk]; simp [makerZ, cellsB_length, zero32L_length, onceC])
  rw [maker_fill g key hk] at hf
  have hu := Tryd.underlying61
  obtain ⟨ip, hip, hip2⟩ := Option.map_eq_some_iff.1 (by kernel_rfl : (Tryd.prog.info? 26).map (·.size) = some 1)
  obtain ⟨io, hio, _⟩ := Option.map_eq_some_iff.1 (by kernel_rfl : (Tryd.prog.info? 59).map (·.size) = some 3)
  have hz1 : ¬ makerZ = [] := by simp [makerZ]
  have hz2 : ¬ makerZ.length < 1 + (keyC key).size := by rw [keyC_size, hk]; simp [makerZ, cellsB_length, zero32L_length, onceC]
  have hf2 : (keyC key).zipIdx = (cellsB key).toArray.zipIdx := rfl
  simp [Instr.build, zeroValue, typeInfo, hj, hj2, run_underlying hu, sizeOf, hi, hi2, Instr.fill, Value.cells, go_sem, hip, hip2, hio, hz1, hz2]
  have hs : (keyC key).size = ((keyC key).zipIdx).size := by simp
  rw [hs]
  exact hf
theorem wpList_build_maker {w : World} {ops : Array Oper} {rest : List Oper} {o : Oper} {a : Act} {Q : Exit → Act → World → Prop} (hgd : o.guard = none) (x y : Operand) (ho : o.op = .build 61 #[(0, x), (1, y)]) (g : Nat) (key : List UInt8) (hx : a.eval x = .pointer (some ⟨g, 0, none⟩)) (hy : a.eval y = .agg (keyC key)) (hk : key.length = 32)
    (h : wpList Tryd.prog ops Q rest (a.put o.dst (.agg (makerL g key 0 0 zero32L 0 0 zero32L).toArray)) w) : wpList Tryd.prog ops Q (o :: rest) a w := by
  refine wpList_plain hgd fun _ hK => ?_
  unfold Oper.wp execOp
  simp [ho, hx, hy, build_maker w g key hk]
  exact hK _ _ h
end Go.Proofs.YtjdbjgaoeijmfaaDoor
end
section
namespace Go.Proofs.YtjdbjgaoeijmfaaDoor
open Go.RowKit
set_option linter.unusedVariables false
set_option maxRecDepth 20000

def sealB (key aside text : List UInt8) : List UInt8 := hidB key text ++ tagB key aside (hidB key text)
theorem OwnB.aside {w x : World} {base b g n : Nat} {v : Value} {l : List UInt8} (h : OwnB w base 5 v l) (hb : b < base) (hm : RowAt w g 54 (meterC false n (.slice none 0 0))) (ha : Aside b g w x) : Bs x v l := by
  have hne := h.other (show w.heap[g]? = _ from hm) (by decide)
  refine Bs.of_own (base := base) (e := 5) (n := l.length) ⟨h.1, ?_⟩
  rcases h.2 with h1 | ⟨k, cap, cur, hv, hk, hc, h4⟩
  · exact .inl h1
  · refine .inr ⟨k, cap, cur, hv, hk, ?_, h4⟩
    refine (ha.2 k (Array.getElem?_eq_some_iff.1 hc).1 (by omega) fun e => hne ?_).trans hc
    rw [hv, e]
    rfl

set_option maxHeartbeats 2000000 in
theorem Seal_ok (w0 w : World) (hq : Quar w0) (g n : Nat) (hr : Run w0 w g n w) (hn : n ≤ 900000) (key : List UInt8) (hk : key.length = 32) (va vt : Value) (aside text : List UInt8) (ha : Bs w va aside) (ht : Bs w vt text) (hal : aside.length ≤ 4000) (htl : text.length ≤ 4000) :
    Calls Tryd.prog 9 #[.pointer (some ⟨g, 0, none⟩), keyV key, va, vt] w fun e x => ∃ u n', n' ≤ n + 9 ∧ e = .returned (.tuple #[u, .int .i64 0]) ∧ Bs x u (sealB key aside text) ∧ Run w0 w g n' x := by
  have HR := Lib.hid hr
  have HQ := Lib.hid hq
  have HK := Lib.hid hk
  have HA := Lib.hid ha
  have HT := Lib.hid ht
  have hgl := hr.self.glt
  obtain ⟨AA, ac, rfl, _, _, _⟩ := ha
  obtain ⟨TA, tc, rfl, _, _, _⟩ := ht
  obtain ⟨hid, hhid⟩ : ∃ h, h = hidB key text := ⟨_, rfl⟩
  obtain ⟨tg, htg⟩ : ∃ h, h = tagB key aside hid := ⟨_, rfl⟩
  have hres : sealB key aside text = hid ++ tg := by rw [htg, hhid, sealB]
  have LT : Hid (tg.length = 32) := by show _ = _; rw [htg, tagB, macB_length]
  have LH : Hid (hid.length ≤ 4000) := by show _ ≤ _; rw [hhid, hidB, mixS_length]; exact htl
  rw [hres]
  have HMX := Lib.hid (fun W b n hm hn hbg hb hr => sealMixed_any w0 w W HQ.out b g n key zero32L zero32L text 0 0 _ hr hn hbg hb hm (fun n x r _ => r.bs HT.out) htl)
  have HTG := Lib.hid (fun W b n kx vh hm hn hbg hb hr hh => sealTag_any w0 w W b g n key kx zero32L aside hid 1 0 _ vh hr hn hbg hb hm (fun n x r _ => r.bs HA.out) hh hal (Nat.le_trans LH.out (by decide)))
  rw [← hhid] at HMX
  rw [← htg] at HTG
  obtain ⟨kx, hkx⟩ : ∃ k, k = hideK key := ⟨_, rfl⟩
  rw [← hkx] at HMX
  obtain ⟨ky, hky⟩ : ∃ k, k = tagK key := ⟨_, rfl⟩
  rw [← hky] at HTG
  have d1 : decide ((4000 : Int) < (aside.length : Int)) = false := by simp; omega
  have d2 : decide ((4000 : Int) < (text.length : Int)) = false := by simp; omega
  have lk : Hid (zero32L.length = 32) := zero32L_length
  clear hhid htg hres hr hq hk hkx hky
  go_enter Tryd.func9, Tryd.ntmps9
  go_wp2_with (first
    | ((with_reducible refine wpList_box_row (o := ⟨some 5, _, _, _, _, _⟩) rfl 23 (.tmp 1) rfl (keyC key) (by with_unfolding_all rfl) ?_); intro g5 w1 n1)
    | (with_reducible refine wpList_load_row (o := ⟨some 23, _, _, _, _, _⟩) rfl 23 (.tmp 5) rfl g5 (by with_unfolding_all rfl) 23 (keyC key) (0, 0) (.array 32 5) (by with_unfolding_all exact n1.row) Tryd.underlying23 rfl (Tryd.sizeKey key HK.out) ?_)
    | (with_reducible refine wpList_build_maker (o := ⟨some 24, _, _, _, _, _⟩) rfl (.tmp 22) (.tmp 23) rfl g key (by with_unfolding_all rfl) (by with_unfolding_all rfl) HK.out ?_)
    | ((with_reducible refine wpList_box_row (o := ⟨some 25, _, _, _, _, _⟩) rfl 61 (.tmp 24) rfl (makerL g key 0 0 zero32L 0 0 zero32L).toArray (by with_unfolding_all rfl) ?_); intro b w2 n2))
  have hbw : w.heap.size ≤ b := by have := n2.spot; have := n1.below.size; omega
  have hbg : b ≠ g := by omega
  have M2 : MakerAt w2 b g key 0 0 zero32L 0 0 zero32L := ⟨n2.row, HK.out, lk.out, lk.out⟩
  have R2 := Lib.hid (HR.out.kept (below_size n1.below n2.below))
  have hb2 : b < w2.heap.size := n2.row.lt
  clear n1 n2
  refine (HMX.out w2 b n M2 (by omega) hbg hbw R2.out).mono ?_
  intro e w3 h
  obtain ⟨u, n3, hn3, he, hu, r3, a3, m3⟩ := h
  subst he
  have U3 := Lib.hid hu
  have R3 := Lib.hid r3
  have M3 := Lib.hid m3
  obtain ⟨UA, uc, rfl, _, _⟩ := hu.shape
  clear hu r3 a3 m3 HMX M2
  go_wp2_with fail
  refine (HTG.out w3 b n3 kx _ M3.out (by omega) hbg hbw R3.out (fun n x r a => U3.out.aside hb2 R3.out.row a)).mono ?_
  intro e w4 h
  obtain ⟨n4, hn4, he, r4, a4, m4⟩ := h
  subst he
  have R4 := Lib.hid r4
  have U4 := Lib.hid (U3.out.aside hb2 R3.out.row a4)
  clear r4 a4 m4 HTG
  go_wp2_with (first
    | ((with_reducible refine wpList_alloc_row (o := ⟨some 13, _, _, _, _, _⟩) rfl 23 rfl (keyC zeroKey) Tryd.zeroK ?_); intro g13 w5 n5)
    | ((with_reducible refine wpList_store_row (o := ⟨none, _, _, _, _, _⟩) rfl 23 (.tmp 13) (.tmp 38) rfl g13 23 _ (keyC tg) (by with_unfolding_all rfl) (by with_unfolding_all rfl) n5.row (keyC_same zeroKey_length LT.out) (Tryd.sizeKey tg LT.out) (keyC_one tg) ?_); intro w6 p6; have b6 := (laid_put n5 p6).1; have R6 := Lib.hid (R4.out.kept b6); have U6 := Lib.hid (U4.out.below b6); have K6 := Lib.hid p6.row; clear n5 p6 b6 R4 U4))
  refine (Join_any _ _ [hid, tg] (by exact Bss.two w6 24 _ _ _ _ U6.out (row32 K6.out LT.out)) (by simp [LT.out]; have := LH.out; omega) (by simp)).mono ?_
  intro e w7 h
  obtain ⟨u7, he, hu7, b7⟩ := h
  subst he
  have e7 : ([hid, tg] : List (List UInt8)).flatten = hid ++ tg := by simp
  rw [e7] at hu7
  have U7 := Lib.hid hu7
  have R7 := Lib.hid ((R6.out.kept (alloc_below _ _)).kept b7)
  clear hu7 b7
  go_wp2
  go_ret2
  exact ⟨u7, n4, by omega, rfl, U7.out, R7.out⟩
end Go.Proofs.YtjdbjgaoeijmfaaDoor
end
section
namespace Go.Proofs.YtjdbjgaoeijmfaaDoor
open Go.RowKit
set_option linter.unusedVariables false
set_option maxRecDepth 20000

set_option maxHeartbeats 2000000 in
theorem Tag_any (w0 w : World) (g n : Nat) (hr : Run w0 w g n w) (hn : n ≤ 900000) (key : List UInt8) (hk : key.length = 32) (va vt : Value) (aside hidden : List UInt8) (ha : Bs w va aside) (ht : Bs w vt hidden) (hal : aside.length ≤ 4000) (htl : hidden.length ≤ 5000) :
    Calls Tryd.prog 11 #[.pointer (some ⟨g, 0, none⟩), keyV key, va, vt] w fun e x => ∃ n', n' ≤ n + 6 ∧ e = .returned (.agg (keyC (tagB key aside hidden))) ∧ Run w0 w g n' x := by
  have HR := Lib.hid hr
  have HK := Lib.hid hk
  have HA := Lib.hid ha
  have HT := Lib.hid ht
  have hgl := hr.self.glt
  obtain ⟨AA, ac, rfl, _, _, _⟩ := ha
  obtain ⟨TA, tc, rfl, _, _, _⟩ := ht
  obtain ⟨tg, htg⟩ : ∃ h, h = tagB key aside hidden := ⟨_, rfl⟩
  have LT : Hid (tg.length = 32) := by show _ = _; rw [htg, tagB, macB_length]
  have HTG := Lib.hid (fun W b n hm hn hbg hb hr => sealTag_any w0 w W b g n key zero32L zero32L aside hidden 0 0 _ _ hr hn hbg hb hm (fun n x r _ => r.bs HA.out) (fun n x r _ => r.bs HT.out) hal htl)
  rw [← htg] at HTG ⊢
  obtain ⟨ky, hky⟩ : ∃ k, k = tagK key := ⟨_, rfl⟩
  rw [← hky] at HTG
  have lk : Hid (zero32L.length = 32) := zero32L_length
  clear htg hr hk hky
  go_enter Tryd.func11, Tryd.ntmps11
  go_wp2_with (first
    | ((with_reducible refine wpList_box_row (o := ⟨some 5, _, _, _, _, _⟩) rfl 23 (.tmp 1) rfl (keyC key) (by with_unfolding_all rfl) ?_); intro g5 w1 n1)
    | ((with_reducible refine wpList_alloc_row (o := ⟨some 8, _, _, _, _, _⟩) rfl 23 rfl (keyC zeroKey) Tryd.zeroK ?_); intro g8 w2 n2)
    | (with_reducible refine wpList_load_row (o := ⟨some 10, _, _, _, _, _⟩) rfl 23 (.tmp 5) rfl g5 (by with_unfolding_all rfl) 23 (keyC key) (0, 0) (.array 32 5) (by with_unfolding_all exact (n1.row.kept n2.below)) Tryd.underlying23 rfl (Tryd.sizeKey key HK.out) ?_)
    | (with_reducible refine wpList_build_maker (o := ⟨some 11, _, _, _, _, _⟩) rfl (.tmp 9) (.tmp 10) rfl g key (by with_unfolding_all rfl) (by with_unfolding_all rfl) HK.out ?_)
    | ((with_reducible refine wpList_box_row (o := ⟨some 12, _, _, _, _, _⟩) rfl 61 (.tmp 11) rfl (makerL g key 0 0 zero32L 0 0 zero32L).toArray (by with_unfolding_all rfl) ?_); intro b w3 n3))
  have hbw : w.heap.size ≤ b := by have := n3.spot; have := n1.below.size; have := n2.below.size; omega
  have h8w : w.heap.size ≤ g8 := by have := n2.spot; have := n1.below.size; omega
  have hbg : b ≠ g := by omega
  have h8b : g8 ≠ b := by have := n3.spot; have := n2.row.lt; omega
  have h8g : g8 ≠ g := by omega
  have M2 : MakerAt w3 b g key 0 0 zero32L 0 0 zero32L := ⟨n3.row, HK.out, lk.out, lk.out⟩
  have R2 := Lib.hid (HR.out.kept (below_size (below_size n1.below n2.below) n3.below))
  have Q2 := Lib.hid (n2.row.kept n3.below)
  clear n1 n2 n3
  refine (HTG.out w3 b n M2 (by omega) hbg hbw R2.out).mono ?_
  intro e w4 h
  obtain ⟨n4, hn4, he, r4, a4, m4⟩ := h
  subst he
  have R4 := Lib.hid r4
  have Q4 := Lib.hid (a4.row Q2.out h8b h8g)
  clear r4 a4 m4 HTG M2 R2 Q2
  go_wp2_with ((with_reducible refine wpList_store_row (o := ⟨none, _, _, _, _, _⟩) rfl 23 (.tmp 8) (.tmp 15) rfl g8 23 _ (keyC tg) (by with_unfolding_all rfl) (by with_unfolding_all rfl) Q4.out (keyC_same zeroKey_length LT.out) (Tryd.sizeKey tg LT.out) (keyC_one tg) ?_); intro w6 p6)
  refine bodyPost_ret (results_cell_row rfl _ _ g8 23 (keyC tg) (0, 0) (.array 32 5) rfl p6.row Tryd.underlying23 rfl (Tryd.sizeKey tg LT.out)) rfl ⟨n4, hn4, rfl, R4.out.turn p6.grown h8w h8g⟩
end Go.Proofs.YtjdbjgaoeijmfaaDoor
end
section
namespace Go.Proofs.YtjdbjgaoeijmfaaDoor
open Go.RowKit
set_option linter.unusedVariables false

theorem range_all (a b : List UInt32) (h : a.length = b.length) : ((List.range a.length).all fun i => a.getD i 0 == b.getD i 0) = (a == b) := by
  rw [Bool.eq_iff_iff, List.all_eq_true, beq_iff_eq]
  constructor
  · intro hall
    apply List.ext_getElem h
    intro i h1 h2
    have := hall i (List.mem_range.2 h1)
    simpa [h1, h2] using this
  · rintro rfl i _
    exact beq_self_eq_true _
theorem words_eqIn {P : Program} (w : World) (d : Nat) (t e : TypeId) (n : Nat) (ht : P.underlying t = some (.array n e)) (he : P.underlying e = some (.int .u32)) (hs : ∀ w, (sizeOf e).run P w = .ok 1 w)
    (a b : List UInt32) (ha : a.length = n) (hb : b.length = n) : (Op.equalIn (d + 2) t (.agg (wordsC a)) (.agg (wordsC b))).run P w = .ok (a == b) w := by
  rw [← range_all a b (ha.trans hb.symm), ha, List.range_eq_range', Op.equalIn]
  simp only [Sem.run_bind, run_underlying ht, Result.andThen_ok, hs, Std.Legacy.Range.forIn_eq_forIn_range', Std.Legacy.Range.size, Nat.sub_zero, Nat.add_sub_cancel, Nat.div_one]
  have hin : ∀ i ∈ List.range' 0 n 1, i < n := fun i hi => by
    have := (List.mem_range'_1.1 hi).2
    omega
  generalize List.range' 0 n 1 = r at hin ⊢
  induction r with
  | nil => simp
  | cons i r ih =>
    have hi : i < n := hin i (by simp)
    have at_ : ∀ l : List UInt32, l.length = n → (part e (wordsC l) (i * 1)).run P w = .ok (.int .u32 ((l.getD i 0).toNat : Int)) w := fun l hl => by
      simp [part, isAgg, run_underlying he, wordsC_get l i (by omega)]
    have one : (Op.equalIn (d + 1) e (.int .u32 ((a.getD i 0).toNat : Int)) (.int .u32 ((b.getD i 0).toNat : Int))).run P w = .ok (a.getD i 0 == b.getD i 0) w := by
      rw [run_equalIn_int w d e .u32 .u32 _ _ he]
      congr 1
      rw [Bool.eq_iff_iff, beq_iff_eq, beq_iff_eq, ← UInt32.toNat_inj]
      omega
    simp only [List.forIn_cons, Sem.run_bind, at_ a ha, at_ b hb, one, Result.andThen_ok, List.all_cons]
    cases hc : (a.getD i 0 == b.getD i 0)
    · simp
    · simp only [Bool.not_true, Bool.false_eq_true, if_false, Sem.run_pure, Result.andThen_ok, Bool.true_and]
      exact ih fun j hj => hin j (List.mem_cons_of_mem _ hj)

theorem bytes_eqIn {P : Program} (w : World) (d : Nat) (t e : TypeId) (n : Nat) (ht : P.underlying t = some (.array n e)) (he : P.underlying e = some (.int .u8)) (hs : ∀ w, (sizeOf e).run P w = .ok 1 w)
    (a b : List UInt8) (ha : a.length = n) (hb : b.length = n) : (Op.equalIn (d + 2) t (.agg (keyC a)) (.agg (keyC b))).run P w = .ok (a == b) w :=
  run_equalIn_bytes w d t e n ht he hs a b ha hb

/-- What is not wanted is passed by. -/
theorem still_skip {P : Program} {ops : Array Oper} {w : World} {Q : Act → Prop} {a : Act} {o : Oper} {rest : List Oper} (hw : Region.wanted o (yielded ops a.tmps) = false)
    (h : wpStill P ops w Q rest (a.put o.dst undef)) : wpStill P ops w Q (o :: rest) a := by
  refine wpStill_step fun K hK => ?_
  rw [hw]
  simp only [Bool.false_eq_true, if_false]
  exact hK _ h
/-- A whole array is read. -/
theorem still_load_row {P : Program} {ops : Array Oper} {w : World} {Q : Act → Prop} {a : Act} {o : Oper} {rest : List Oper} (ty : TypeId) (x : Operand) (ho : o.op = .load ty x) (hw : Region.wanted o (yielded ops a.tmps) = true)
    (g : Nat) (hx : a.eval x = .pointer (some ⟨g, 0, none⟩)) (t : TypeId) (cs : Array Value) (fr : Nat × Nat) (d : TypeDesc) (hg : w.heap[g]? = some (.cells cs t fr))
    (hu : P.underlying ty = some d) (hd : (match d with | .struct _ | .array _ _ => true | _ => false) = true) (hi : (P.info? ty).map (·.size) = some cs.size)
    (h : wpStill P ops w Q rest (a.put o.dst (.agg cs))) : wpStill P ops w Q (o :: rest) a := by
  refine wpStill_step fun K hK => ?_
  rw [if_pos hw]
  unfold Oper.still execOp
  simp only [ho, hx, Instr.loadAt, Instr.sureAddr, Sem.run_bind, Sem.run_pure, Result.andThen_ok, run_loadVar_row w g t ty cs fr d hg hu hd hi]
  exact ⟨rfl, hK _ h⟩

/-- A walk of a region that only reads, closed to whoever would open it. -/
structure StillG (P : Program) (ops : Array Oper) (w : World) (Q : Act → Prop) (l : List Oper) (a : Act) : Prop where
  out : wpStill P ops w Q l a
theorem StillG.nil {P : Program} {ops : Array Oper} {w : World} {Q : Act → Prop} {a : Act} (h : Q a) : StillG P ops w Q [] a := ⟨wpStill_nil h⟩
theorem StillG.step {P : Program} {ops : Array Oper} {w : World} {Q : Act → Prop} {a : Act} {o : Oper} {rest : List Oper} (hw : Region.wanted o (yielded ops a.tmps) = true)
    (h : ∀ K : Act → Prop, (∀ a, StillG P ops w Q rest a → K a) → o.still P a w K) : StillG P ops w Q (o :: rest) a :=
  ⟨wpStill_step fun K hK => by rw [if_pos hw]; exact h K fun a k => hK a k.out⟩
theorem StillG.skip {P : Program} {ops : Array Oper} {w : World} {Q : Act → Prop} {a : Act} {o : Oper} {rest : List Oper} (hw : Region.wanted o (yielded ops a.tmps) = false)
    (h : StillG P ops w Q rest (a.put o.dst undef)) : StillG P ops w Q (o :: rest) a := ⟨still_skip hw h.out⟩
theorem StillG.row {P : Program} {ops : Array Oper} {w : World} {Q : Act → Prop} {a : Act} {o : Oper} {rest : List Oper} (ty : TypeId) (x : Operand) (ho : o.op = .load ty x) (hw : Region.wanted o (yielded ops a.tmps) = true)
    (g : Nat) (hx : a.eval x = .pointer (some ⟨g, 0, none⟩)) (t : TypeId) (cs : Array Value) (fr : Nat × Nat) (d : TypeDesc) (hg : w.heap[g]? = some (.cells cs t fr))
    (hu : P.underlying ty = some d) (hd : (match d with | .struct _ | .array _ _ => true | _ => false) = true) (hi : (P.info? ty).map (·.size) = some cs.size)
    (h : StillG P ops w Q rest (a.put o.dst (.agg cs))) : StillG P ops w Q (o :: rest) a := ⟨still_load_row ty x ho hw g hx t cs fr d hg hu hd hi h.out⟩
theorem region_stillG {P : Program} {id : Nat} {Q : Exit → Act → World → Prop} {a : Act} {w : World} {l : List Oper} (hm : P.follows .mixedOrders = true) (hB : Region.lexB .any l.toArray = true)
    (h : StillG P l.toArray w.drew (fun a' => Q .normal a' w.drew) l a) : (Code.region id l.toArray true).wp P Q a w := wp_region_still_lit hm hB h.out
end Go.Proofs.YtjdbjgaoeijmfaaDoor
end
section
namespace Go.Proofs.YtjdbjgaoeijmfaaDoor
open Go.RowKit
set_option linter.unusedVariables false

/-- What the call has laid itself: each row lies there, no two in one block; and nothing that was there before has turned. -/
structure Env (w0 : World) (rs : List (Nat × TypeId × Array Value)) (w : World) : Prop where
  below : Below w0.heap.size w0 w
  rows : ∀ r ∈ rs, RowAt w r.1 r.2.1 r.2.2 ∧ w0.heap.size ≤ r.1
  apart : (rs.map (·.1)).Nodup

section
variable {w0 w w' : World} {rs : List (Nat × TypeId × Array Value)} {g : Nat} {t : TypeId} {cs old : Array Value}
theorem Env.start (w : World) : Env w [] w := ⟨Below.refl _ _, by simp, by simp⟩
theorem Env.row (h : Env w0 rs w) (i : Nat) (hi : rs[i]? = some (g, t, cs)) : RowAt w g t cs := (h.rows _ (List.mem_of_getElem? hi)).1
theorem Env.spot (h : Env w0 rs w) (i : Nat) (hi : rs[i]? = some (g, t, cs)) : w0.heap.size ≤ g := (h.rows _ (List.mem_of_getElem? hi)).2
theorem Env.new (h : Env w0 rs w) (n : NewRow w g t cs w') : Env w0 ((g, t, cs) :: rs) w' := by
  refine ⟨below_size h.below n.below, fun r hr => ?_, ?_⟩
  · rcases List.mem_cons.1 hr with rfl | hr
    · exact ⟨n.row, by have := n.spot; have := h.below.size; simp only; omega⟩
    · exact ⟨(h.rows r hr).1.kept n.below, (h.rows r hr).2⟩
  · refine List.nodup_cons.2 ⟨fun hm => ?_, h.apart⟩
    obtain ⟨r, hr, he⟩ := List.mem_map.1 hm
    have := (h.rows r hr).1.lt
    have := n.spot
    simp only at he
    omega
theorem Env.call (h : Env w0 rs w) (b : Below w.heap.size w w') : Env w0 rs w' := ⟨below_size h.below b, fun r hr => ⟨(h.rows r hr).1.kept b, (h.rows r hr).2⟩, h.apart⟩
theorem Env.drew (h : Env w0 rs w) : Env w0 rs w.drew := ⟨h.below.drew, h.rows, h.apart⟩
theorem Env.drewN (h : Env w0 rs w) (n : Nat) : Env w0 rs (w.drewN n) := ⟨below_drewN h.below n, h.rows, h.apart⟩
theorem set_map_fst {i : Nat} {x : Nat × TypeId × Array Value} (hi : rs[i]? = some (g, t, old)) (hx : x.1 = g) : (rs.set i x).map (·.1) = rs.map (·.1) := by
  rw [List.map_set, hx]
  apply List.ext_getElem? fun j => ?_
  rw [List.getElem?_set]
  split
  · rename_i h
    subst h
    have := (List.getElem?_eq_some_iff.1 hi).1
    rw [if_pos (by simpa using this), List.getElem?_map, hi]
    rfl
  · rfl
theorem nodup_at {α : Type} {l : List α} (h : l.Nodup) {i j : Nat} {a : α} (hi : l[i]? = some a) (hj : l[j]? = some a) : i = j := by
  obtain ⟨h1, e1⟩ := List.getElem?_eq_some_iff.1 hi
  obtain ⟨h2, e2⟩ := List.getElem?_eq_some_iff.1 hj
  exact (List.getElem_inj h).1 (e1.trans e2.symm)
/-- One row is written, by whatever leaves the other blocks alone. -/
theorem Env.turned (h : Env w0 rs w) (i : Nat) (hi : rs[i]? = some (g, t, old)) (hr : RowAt w' g t cs) (hg : w.grownBy w' (some g)) : Env w0 (rs.set i (g, t, cs)) w' := by
  refine ⟨h.below.grown hg h.below.size fun k hk => by injection hk with hk; subst hk; exact h.spot i hi, fun r hm => ?_, by rw [set_map_fst hi rfl]; exact h.apart⟩
  obtain ⟨j, hj⟩ := List.mem_iff_getElem?.1 hm
  rw [List.getElem?_set] at hj
  split at hj
  · split at hj
    · injection hj with hj; subst hj; exact ⟨hr, h.spot i hi⟩
    · cases hj
  · rename_i hne
    have hr' := h.rows r (List.mem_of_getElem? hj)
    refine ⟨hr'.1.grown hg fun he => ?_, hr'.2⟩
    injection he with he
    refine hne (nodup_at (l := rs.map (·.1)) h.apart (a := g) (by rw [List.getElem?_map, hi]; rfl) (by rw [List.getElem?_map, hj, ← he]; rfl))
theorem Env.put (h : Env w0 rs w) (i : Nat) (hi : rs[i]? = some (g, t, old)) (p : PutRow w g t cs w') : Env w0 (rs.set i (g, t, cs)) w' := h.turned i hi p.row p.grown
theorem Env.cell (h : Env w0 rs w) (i : Nat) (hi : rs[i]? = some (g, t, old)) (j : Nat) (u : Value) : Env w0 (rs.set i (g, t, old.setIfInBounds j u)) (w.setCell ⟨g, j, none⟩ u) :=
  h.turned i hi ((h.row i hi).put j u) (grown_setCell w g j u)
theorem Env.cellTo (h : Env w0 rs w) (i : Nat) (hi : rs[i]? = some (g, t, old)) (j : Nat) (u : Value) (he : old.setIfInBounds j u = cs) : Env w0 (rs.set i (g, t, cs)) (w.setCell ⟨g, j, none⟩ u) := he ▸ h.cell i hi j u
theorem Env.less (h : Env w0 rs w) {rs' : List (Nat × TypeId × Array Value)} (hs : rs'.Sublist rs) : Env w0 rs' w := ⟨h.below, fun r hr => h.rows r (hs.subset hr), List.Pairwise.sublist (hs.map _) h.apart⟩
/-- The newest row is written by what leaves all that is below it alone. -/
theorem Env.over (h : Env w0 ((g, t, old) :: rs) w) (hlt : ∀ r ∈ rs, r.1 < g) (hb : Below g w w') (hr : RowAt w' g t cs) : Env w0 ((g, t, cs) :: rs) w' := by
  have hs := h.spot 0 rfl
  refine ⟨h.below.trans (hb.mono hs), fun r hm => ?_, h.apart⟩
  rcases List.mem_cons.1 hm with rfl | hm
  · exact ⟨hr, hs⟩
  · have h2 := h.rows r (List.mem_cons_of_mem _ hm)
    exact ⟨h2.1.below hb (hlt r hm), h2.2⟩
theorem Env.ret (h : Env w0 rs w) (v : Value) : RetV w0 v (.returned v) w := ⟨rfl, h.below⟩
end

section
variable {P : Program} {w0 w : World} {rs : List (Nat × TypeId × Array Value)} {ops : Array Oper} {rest : List Oper} {o : Oper} {a : Act} {Q : Exit → Act → World → Prop}

theorem wpE_alloc (hgd : o.guard = none) (ty : TypeId) (ho : o.op = .alloc ty) (z : Array Value) (hz : (P.info? ty).map (·.zero) = some (some (.agg z))) (hE : Env w0 rs w)
    (h : ∀ g w', Env w0 ((g, ty, z) :: rs) w' → wpList P ops Q rest (a.put o.dst (.pointer (some ⟨g, 0, none⟩))) w') : wpList P ops Q (o :: rest) a w :=
  wpList_alloc_row hgd ty ho z hz fun g w' n => h g w' (hE.new n)
theorem wpE_allocF (hgd : o.guard = none) (ty : TypeId) (ho : o.op = .alloc ty) (z : Array Value) (hz : (P.info? ty).map (·.zero) = some (some (.agg z))) (hE : Env w0 rs w)
    (h : ∀ g w', Env w0 ((g, ty, z) :: rs) w' → (∀ r ∈ rs, r.1 < g) → wpList P ops Q rest (a.put o.dst (.pointer (some ⟨g, 0, none⟩))) w') : wpList P ops Q (o :: rest) a w :=
  wpList_alloc_row hgd ty ho z hz fun g w' n => h g w' (hE.new n) fun r hr => by rw [n.spot]; exact (hE.rows r hr).1.lt
theorem wpE_box (hgd : o.guard = none) (ty : TypeId) (x : Operand) (ho : o.op = .box ty x) (cs : Array Value) (hx : a.eval x = .agg cs) (hE : Env w0 rs w)
    (h : ∀ g w', Env w0 ((g, ty, cs) :: rs) w' → wpList P ops Q rest (a.put o.dst (.pointer (some ⟨g, 0, none⟩))) w') : wpList P ops Q (o :: rest) a w :=
  wpList_box_row hgd ty x ho cs hx fun g w' n => h g w' (hE.new n)
theorem wpE_load (hgd : o.guard = none) (ty : TypeId) (x : Operand) (ho : o.op = .load ty x) (i g : Nat) (t : TypeId) (cs : Array Value) (d : TypeDesc) (hi : rs[i]? = some (g, t, cs)) (hx : a.eval x = .pointer (some ⟨g, 0, none⟩))
    (hu : P.underlying ty = some d) (hd : (match d with | .struct _ | .array _ _ => true | _ => false) = true) (hs : (P.info? ty).map (·.size) = some cs.size) (hE : Env w0 rs w)
    (h : wpList P ops Q rest (a.put o.dst (.agg cs)) w) : wpList P ops Q (o :: rest) a w :=
  wpList_load_row hgd ty x ho g hx t cs (0, 0) d (hE.row i hi) hu hd hs h
theorem wpE_store (hgd : o.guard = none) (ty : TypeId) (x y : Operand) (ho : o.op = .store ty x y) (i g : Nat) (t : TypeId) (old cs : Array Value) (hi : rs[i]? = some (g, t, old)) (hx : a.eval x = .pointer (some ⟨g, 0, none⟩)) (hy : a.eval y = .agg cs)
    (hso : old.size = cs.size) (hs : (P.info? ty).map (·.size) = some cs.size) (h1 : ∀ u ∈ cs.toList, u.oneCell' = true) (hE : Env w0 rs w)
    (h : ∀ w', Env w0 (rs.set i (g, t, cs)) w' → wpList P ops Q rest (a.put o.dst undef) w') : wpList P ops Q (o :: rest) a w :=
  wpList_store_row hgd ty x y ho g t old cs hx hy (hE.row i hi) hso hs h1 fun w' p => h w' (hE.put i hi p)

/-- A part of a row, from its cell k on: read, and written. -/
theorem rangeAt_row {w : World} {g k n : Nat} {t : TypeId} {cs : Array Value} (hr : RowAt w g t cs) : w.rangeAt g k ((cs.toList.drop k).take n) := fun j v hv => by
  rw [hr.cell]
  rw [List.getElem?_take] at hv
  split at hv
  · rw [List.getElem?_drop] at hv
    simpa using hv
  · cases hv
theorem wpE_loadP (hgd : o.guard = none) (ty : TypeId) (x : Operand) (ho : o.op = .load ty x) (i g k : Nat) (t : TypeId) (cs : Array Value) (ps : List Value) (d : TypeDesc) (hi : rs[i]? = some (g, t, cs)) (hx : a.eval x = .pointer (some ⟨g, k, none⟩))
    (hp : (cs.toList.drop k).take ps.length = ps)
    (hu : P.underlying ty = some d) (hd : d.isRow = true) (hs : (P.info? ty).map (·.size) = some ps.length) (hE : Env w0 rs w)
    (h : wpList P ops Q rest (a.put o.dst (.agg ps.toArray)) w) : wpList P ops Q (o :: rest) a w :=
  wpList_load_mid hgd ty x ho g k hx ps d (by have := rangeAt_row (k := k) (n := ps.length) (hE.row i hi); rwa [hp] at this) hu hd hs h
theorem wpE_storeP (hgd : o.guard = none) (ty : TypeId) (x y : Operand) (ho : o.op = .store ty x y) (i g k : Nat) (t : TypeId) (old cs ps : Array Value) (hi : rs[i]? = some (g, t, old)) (hx : a.eval x = .pointer (some ⟨g, k, none⟩)) (hy : a.eval y = .agg ps)
    (hk : k + ps.size ≤ old.size) (hc : (old.toList.take k ++ ps.toList ++ old.toList.drop (k + ps.size)).toArray = cs) (hs : (P.info? ty).map (·.size) = some ps.size) (h1 : ∀ u ∈ ps.toList, u.oneCell' = true) (hE : Env w0 rs w)
    (h : ∀ w', Env w0 (rs.set i (g, t, cs)) w' → wpList P ops Q rest (a.put o.dst undef) w') : wpList P ops Q (o :: rest) a w := by
  refine wpList_plain hgd fun _ hK => ?_
  obtain ⟨f, hf, hz⟩ := Option.map_eq_some_iff.1 hs
  have hrun := run_storeCells_at (P := P) g k t ps.toList 0 old w (hE.row i hi) (by simpa using hk) h1
  have e : (old.toList.take (k + 0) ++ ps.toList ++ old.toList.drop (k + 0 + ps.toList.length)).toArray = cs := by rw [← hc, Nat.add_zero, Array.length_toList]
  rw [e] at hrun
  unfold Oper.wp execOp
  simp [ho, Instr.storeAt, Instr.sureAddr, storeVar, hx, hy, sizeOf, typeInfo, hf, hz, Value.cells, hrun]
  exact hK _ _ (h _ (hE.put i hi (setRow_put (hE.row i hi))))
end

/-! A region that draws its order: all but its last operations yield one value each wherever C holds; these are walked in the text's order. -/
section
variable {P : Program} {C : World → Prop} {ops : Array Oper}
theorem region_class_tail {id : Nat} {Q : Exit → Act → World → Prop} {a : Act} {w : World} {l : List Oper} (n : Nat) (C : World → Prop) (hC : C w.drew) (hm : P.follows .mixedOrders = true) (hB : Region.lexTailB .any l.toArray n = true)
    (h : wpQuiet P l.toArray C (fun a' => ∀ w', C w' → wpList P l.toArray Q (l.drop n) a' w') (l.take n) a) : (Code.region id l.toArray true).wp P Q a w := by
  simp only [Region.lexTailB, Bool.and_eq_true, decide_eq_true_eq] at hB
  obtain ⟨⟨⟨⟨hsel, hn⟩, hs⟩, hc⟩, hlex⟩ := hB
  have hn' : n < l.length := by simpa using hn
  have htl : (l.take n).length = n := by rw [List.length_take]; omega
  have hdl : (l.drop n).length = l.toArray.size - n := by simp
  have H := headQ_lex (md := .any) (g := l.toArray.size - n) hsel hs hc hn (l.take n) 0 (Array.replicate l.toArray.size false) a
    (fun j hj => by rw [htl] at hj; simp [hj]) (by rw [htl]; omega)
    ⟨by simp, fun j oj _ hl => (by rw [getD_replicate_false] at hl; cases hl), fun t _ ht => getD_in (by simpa using ht) (getD_replicate_false _ _)⟩ (by rw [htl]; exact hlex) h
  refine wp_region_any hm ?_
  have A := any_of_headQ (Q := Q) (g := l.toArray.size - n) (fun listed a' w' hw' hL => by
    have := wpAny_of_seq (md := .any) (Q' := Q) (l.drop n) n listed a' w' (fun j => by simp [List.getElem?_drop]) (by rw [hdl]; exact hL.1) (hL.2 w' hw')
    rwa [hdl] at this) (l.take n).length _ _ w.drew hC H
  rw [htl, show n + (l.toArray.size - n) = l.toArray.size by omega] at A
  exact A
theorem wp_assignE {o : Oper} {a : Act} {w : World} {K : Act → World → Prop} {Q : Exit → Act → World → Prop} (x : Operand) (ho : o.op = .assign x) (h : K (a.put o.dst (a.eval x)) w) : o.wp P a w K Q := by
  unfold Oper.wp execOp
  simp [ho]
  exact h
/-! The same, where behind the first n two operations are left that do not wait for one another, but for all the first ones. -/
def fullB (md : Region.Mode) (ops : Array Oper) (n : Nat) : Bool := (List.range ops.size).all fun j => decide (j < n) || (List.range n).all fun i => (ops[j]?).any fun oj => oj.after.any fun e => Region.binds md e && e.on == i
theorem fullB_spec {md : Region.Mode} {ops : Array Oper} {n i j : Nat} {oj : Oper} (h : fullB md ops n = true) (hj : ops[j]? = some oj) (hn : n ≤ j) (hi : i < n) : ∃ e ∈ oj.after, Region.binds md e = true ∧ e.on = i := by
  have h1 := List.all_eq_true.1 h j (List.mem_range.2 (Array.getElem?_eq_some_iff.1 hj).1)
  rw [decide_eq_false (by omega), Bool.false_or] at h1
  have h2 := List.all_eq_true.1 h1 i (List.mem_range.2 hi)
  rw [hj] at h2
  obtain ⟨e, he, hb⟩ := Array.any_eq_true'.1 h2
  simp only [Bool.and_eq_true, beq_iff_eq] at hb
  exact ⟨e, he, hb.1, hb.2⟩
def lexTo (md : Region.Mode) (ops : Array Oper) : Nat → Nat → Array Bool → Bool
  | 0, _, _ => true
  | f + 1, k, listed => (Region.ready md ops listed).contains k && Region.free md ops listed k && lexTo md ops f (k + 1) (listed.setIfInBounds k true)
def putTo : Nat → Nat → Array Bool → Array Bool
  | 0, _, listed => listed
  | f + 1, k, listed => putTo f (k + 1) (listed.setIfInBounds k true)
theorem headQ_firstF {md : Region.Mode} {n i : Nat} {oi : Oper} {v : Value} {L : Array Bool → Act → Prop} (hi : ops[i]? = some oi) (hsel : ∀ (j : Nat) (o : Oper) cs b, ops[j]? = some o → o.op ≠ .select cs b)
    (hfull : fullB md ops n = true) (hin : i < n) (hdone : ∀ listed a, L listed a → ∀ j ∈ Region.ready md ops listed, n ≤ j) (f : Nat) :
    ∀ (listed : Array Bool) (a : Act),
      (∀ j oj, ops[j]? = some oj → j ≠ i → listed.getD j true = false → (∀ e ∈ oj.after, Region.binds md e = true → e.on ≠ i) → oi.apart ops oj = true) →
      i ∈ Region.ready md ops listed → YieldsIn P ops C oi v a →
      headQ P md ops C n L f (listed.setIfInBounds i true) (a.put oi.dst v) → headQ P md ops C n L (f + 1) listed a := by
  have low : ∀ (listed : Array Bool), i ∈ Region.ready md ops listed → ∀ j ∈ Region.ready md ops listed, j < n := by
    intro listed hr j hj
    refine Nat.lt_of_not_le fun hge => ?_
    obtain ⟨hun, oj, hoj, hall⟩ := mem_ready.1 hj
    obtain ⟨e, he, hb, hon⟩ := fullB_spec hfull hoj hge hin
    have h1 := hall e he hb
    rw [hon, getD_both (mem_ready.1 hr).1] at h1
    cases h1
  induction f with
  | zero =>
    intro listed a _ hr hy H
    refine ⟨fun h0 => (by rw [h0] at hr; cases hr), fun j hj => ?_⟩
    have hlt := low listed hr j hj
    refine ⟨hlt, ?_⟩
    by_cases e : j = i
    · rw [e]; exact hy.qOp hi H
    · exact absurd hlt (Nat.not_lt.2 (hdone _ _ H j (ready_mono hj e)))
  | succ f ih =>
    intro listed a free hr hy H
    refine ⟨fun h0 => (by rw [h0] at hr; cases hr), fun j hj => ?_⟩
    have hlt := low listed hr j hj
    refine ⟨hlt, ?_⟩
    by_cases e : j = i
    · rw [e]; exact hy.qOp hi H
    · obtain ⟨hun, oj, hoj, hall⟩ := mem_ready.1 hj
      have hno : ∀ x ∈ oj.after, Region.binds md x = true → x.on ≠ i := fun x hx hb hon => by
        have h1 := hall x hx hb
        rw [hon, getD_both (mem_ready.1 hr).1] at h1
        cases h1
      have hboth := qOp_put hoj (free j oj hoj e hun hno) (fun cs b => hsel i oi cs b hi) (fun cs b => hsel j oj cs b hoj) hy (H.2 j (ready_mono hj e)).2
      refine qOp_mono (fun a' h3 => ?_) hboth
      refine ih _ a' (fun k ok hk hki hkun hkno => ?_) (ready_mono hr (Ne.symm e)) h3.1 ?_
      · refine free k ok hk hki ?_ hkno
        rcases Nat.decEq j k with hne | heq
        · rwa [getD_set_ne true hne] at hkun
        · rw [← heq]; exact hun
      · rw [Array.setIfInBounds_comm _ _ e]; exact h3.2
theorem headQ_lexF {md : Region.Mode} {n : Nat} {K : Act → Prop} (hsel : Region.noSelect ops = true) (hfull : fullB md ops n = true) (l : List Oper) :
    ∀ (k : Nat) (listed fin : Array Bool) (a : Act), (∀ j, j < l.length → l[j]? = ops[k + j]?) → k + l.length = n → fin = putTo l.length k listed → (∀ j ∈ Region.ready md ops fin, n ≤ j) →
    lexTo md ops l.length k listed = true → wpQuiet P ops C K l a →
    headQ P md ops C n (fun listed' a' => listed' = fin ∧ K a') l.length listed a := by
  induction l with
  | nil =>
    intro k listed fin a _ _ hf _ _ h
    exact ⟨hf.symm, h⟩
  | cons o l ih =>
    intro k listed fin a hl hk hf hd hB h
    simp only [List.length_cons, lexTo, Bool.and_eq_true] at hB hk
    have h0 : ops[k]? = some o := by simpa using (hl 0 (by simp)).symm
    have hst : qOp P ops C k (wpQuiet P ops C K l) a := by unfold qOp; simp only [h0]; exact h
    obtain ⟨v, hy, hK⟩ := yieldsIn_of_qOp h0 hst
    have hr : k ∈ Region.ready md ops listed := by simpa using hB.1.1
    refine headQ_firstF h0 (Region.noSelect_spec hsel) hfull (by omega) (fun listed' a' hL j hj => by rw [hL.1] at hj; exact hd j hj) l.length listed a (Region.free_spec h0 hB.1.2) hr hy ?_
    refine ih (k + 1) _ fin _ (fun j hj => ?_) (by omega) hf hd hB.2 hK
    have := hl (j + 1) (by simp; omega)
    simpa [Nat.add_assoc, Nat.add_comm 1 j] using this
/-- Two are left, in whichever order. -/
theorem any_pair {md : Region.Mode} {Q : Exit → Act → World → Prop} {i j : Nat} {oi oj : Oper} {listed : Array Bool} {a : Act} {w : World} (hi : ops[i]? = some oi) (hj : ops[j]? = some oj)
    (h0 : Region.ready md ops listed = [i, j]) (h1 : Region.ready md ops (listed.setIfInBounds i true) = [j]) (h2 : Region.ready md ops (listed.setIfInBounds j true) = [i])
    (h3 : Region.ready md ops ((listed.setIfInBounds i true).setIfInBounds j true) = []) (h4 : Region.ready md ops ((listed.setIfInBounds j true).setIfInBounds i true) = [])
    (hgi : oi.guard = none) (hgj : oj.guard = none)
    (ha : oi.wp P a w (fun a' w' => oj.wp P a' w' (Q .normal) Q) Q) (hb : oj.wp P a w (fun a' w' => oi.wp P a' w' (Q .normal) Q) Q) : wpAny P md ops Q 2 listed a w := by
  have wi : ∀ a : Act, Region.wanted oi (yielded ops a.tmps) = true := fun a => by simp [Region.wanted, hgi]
  have wj : ∀ a : Act, Region.wanted oj (yielded ops a.tmps) = true := fun a => by simp [Region.wanted, hgj]
  refine ⟨fun h => (by rw [h0] at h; cases h), fun k hk => ?_⟩
  rw [h0] at hk
  rcases List.mem_cons.1 hk with rfl | hk
  · unfold wpOp
    simp only [hi, wi, if_true]
    refine .inl (Oper.wp_mono (fun a' w' hw => ?_) ha)
    refine ⟨fun h => (by rw [h1] at h; cases h), fun k hk => ?_⟩
    rw [h1] at hk
    obtain rfl : k = j := by simpa using hk
    unfold wpOp
    simp only [hj, wj, if_true]
    exact .inl (Oper.wp_mono (fun a' w' hw => ⟨h3, hw⟩) hw)
  · obtain rfl : k = j := by simpa using hk
    unfold wpOp
    simp only [hj, wj, if_true]
    refine .inl (Oper.wp_mono (fun a' w' hw => ?_) hb)
    refine ⟨fun h => (by rw [h2] at h; cases h), fun k' hk' => ?_⟩
    rw [h2] at hk'
    obtain rfl : k' = i := by simpa using hk'
    unfold wpOp
    simp only [hi, wi, if_true]
    exact .inl (Oper.wp_mono (fun a' w' hw => ⟨h4, hw⟩) hw)
theorem region_class_pair {id : Nat} {Q : Exit → Act → World → Prop} {a : Act} {w : World} {l : List Oper} {oi oj : Oper} (n : Nat) (C : World → Prop) (hC : C w.drew) (hm : P.follows .mixedOrders = true)
    (hB : (Region.noSelect l.toArray && fullB .any l.toArray n && lexTo .any l.toArray n 0 (Array.replicate l.toArray.size false) && decide (l.toArray.size = n + 2)) = true)
    (h0 : Region.ready .any l.toArray (putTo n 0 (Array.replicate l.toArray.size false)) = [n, n + 1]) (h1 : Region.ready .any l.toArray ((putTo n 0 (Array.replicate l.toArray.size false)).setIfInBounds n true) = [n + 1]) (h2 : Region.ready .any l.toArray ((putTo n 0 (Array.replicate l.toArray.size false)).setIfInBounds (n + 1) true) = [n])
    (h3 : Region.ready .any l.toArray (((putTo n 0 (Array.replicate l.toArray.size false)).setIfInBounds n true).setIfInBounds (n + 1) true) = []) (h4 : Region.ready .any l.toArray (((putTo n 0 (Array.replicate l.toArray.size false)).setIfInBounds (n + 1) true).setIfInBounds n true) = [])
    (hi : l.toArray[n]? = some oi) (hj : l.toArray[n + 1]? = some oj) (hgi : oi.guard = none) (hgj : oj.guard = none)
    (h : wpQuiet P l.toArray C (fun a' => ∀ w', C w' → oi.wp P a' w' (fun a' w' => oj.wp P a' w' (Q .normal) Q) Q ∧ oj.wp P a' w' (fun a' w' => oi.wp P a' w' (Q .normal) Q) Q) (l.take n) a) : (Code.region id l.toArray true).wp P Q a w := by
  simp only [Bool.and_eq_true, decide_eq_true_eq] at hB
  obtain ⟨⟨⟨hsel, hfull⟩, hlex⟩, hsz⟩ := hB
  have hsz' : l.length = n + 2 := by simpa using hsz
  have htl : (l.take n).length = n := by rw [List.length_take]; omega
  have H := headQ_lexF (md := .any) hsel hfull (l.take n) 0 (Array.replicate l.toArray.size false) _ a (fun j hj => by rw [htl] at hj; simp [hj]) (by rw [htl]; omega) rfl (by
    rw [htl, h0]
    intro j hj
    simp only [List.mem_cons, List.not_mem_nil, or_false] at hj
    omega) (by rw [htl]; exact hlex) h
  refine wp_region_any hm ?_
  have A := any_of_headQ (Q := Q) (g := 2) (fun listed a' w' hw' hL => by
    obtain ⟨hl, hK⟩ := hL
    rw [htl] at hl
    subst hl
    exact any_pair hi hj h0 h1 h2 h3 h4 hgi hgj (hK w' hw').1 (hK w' hw').2) (l.take n).length _ _ w.drew hC H
  rw [htl, ← hsz] at A
  exact A
theorem region_class {id : Nat} {Q : Exit → Act → World → Prop} {a : Act} {w : World} {l : List Oper} (C : World → Prop) (hC : C w.drew) (hm : P.follows .mixedOrders = true) (hB : Region.lexB .any l.toArray = true)
    (h : wpQuiet P l.toArray C (fun a' => ∀ w', C w' → Q .normal a' w') l a) : (Code.region id l.toArray true).wp P Q a w := by
  exact wp_region_quiet (C := C) hm hB hC (by simpa using h)

variable {rest : List Oper} {o : Oper} {a : Act} {K : Act → Prop}
theorem q_step (hw : Region.wanted o (yielded ops a.tmps) = true) {v : Value} (hv : ∀ w, C w → o.quietAt P a C w v) (h : wpQuiet P ops C K rest (a.put o.dst v)) : wpQuiet P ops C K (o :: rest) a := by
  refine wpQuiet_step fun K' hK => ?_
  rw [if_pos hw]
  exact ⟨v, hv, hK _ h⟩
theorem q_skip (hw : Region.wanted o (yielded ops a.tmps) = false) (h : wpQuiet P ops C K rest (a.put o.dst undef)) : wpQuiet P ops C K (o :: rest) a := by
  refine wpQuiet_step fun K' hK => ?_
  rw [hw]
  exact hK _ h
/-- It yields v and leaves the world. -/
theorem q_run (hw : Region.wanted o (yielded ops a.tmps) = true) {v : Value} (hv : ∀ w, C w → (execOp a.eval o).run P w = .ok (.value v) w) (h : wpQuiet P ops C K rest (a.put o.dst v)) : wpQuiet P ops C K (o :: rest) a :=
  q_step hw (fun w hC => by unfold Oper.quietAt; rw [hv w hC]; exact ⟨rfl, rfl⟩) h
theorem q_call (hw : Region.wanted o (yielded ops a.tmps) = true) {v : Value} (f : FuncId) (args : Array Value) (hr : ∀ w, (execOp a.eval o).run P w = .ok (.enter f args) w)
    (hv : ∀ w, C w → Calls P f args w fun e w' => e = .returned v ∧ C w') (h : wpQuiet P ops C K rest (a.put o.dst v)) : wpQuiet P ops C K (o :: rest) a :=
  q_step hw (fun w hC => by unfold Oper.quietAt; rw [hr w]; exact ⟨rfl, hv w hC⟩) h
variable {w0 : World} {rs : List (Nat × TypeId × Array Value)}
theorem qE_load (hw : Region.wanted o (yielded ops a.tmps) = true) (ty : TypeId) (x : Operand) (ho : o.op = .load ty x) (i g : Nat) (t : TypeId) (cs : Array Value) (d : TypeDesc) (hi : rs[i]? = some (g, t, cs)) (hx : a.eval x = .pointer (some ⟨g, 0, none⟩))
    (hu : P.underlying ty = some d) (hd : (match d with | .struct _ | .array _ _ => true | _ => false) = true) (hs : (P.info? ty).map (·.size) = some cs.size)
    (h : wpQuiet P ops (Env w0 rs) K rest (a.put o.dst (.agg cs))) : wpQuiet P ops (Env w0 rs) K (o :: rest) a :=
  q_run hw (fun w hE => run_load_row ty x ho g hx t cs (0, 0) d (hE.row i hi) hu hd hs) h
/-- What lies there already is stored once more. -/
theorem qE_same (hw : Region.wanted o (yielded ops a.tmps) = true) (ty : TypeId) (x y : Operand) (ho : o.op = .store ty x y) (i g : Nat) (t : TypeId) (cs : Array Value) (hi : rs[i]? = some (g, t, cs)) (hx : a.eval x = .pointer (some ⟨g, 0, none⟩)) (hy : a.eval y = .agg cs)
    (hs : (P.info? ty).map (·.size) = some cs.size) (h1 : ∀ u ∈ cs.toList, u.oneCell' = true)
    (h : wpQuiet P ops (Env w0 rs) K rest (a.put o.dst undef)) : wpQuiet P ops (Env w0 rs) K (o :: rest) a := by
  refine q_step hw (v := undef) (fun w hE => ?_) h
  obtain ⟨f, hf, hz⟩ := Option.map_eq_some_iff.1 hs
  have hg := hE.row i hi
  have hrun := run_storeCells_at (P := P) g 0 t cs.toList 0 cs w hg (by simp) h1
  have he : (cs.toList.take (0 + 0) ++ cs.toList ++ cs.toList.drop (0 + 0 + cs.toList.length)).toArray = cs := by
    rw [List.drop_eq_nil_of_le (by simp)]
    simp
  rw [he, setRow_self w g cs t (0, 0) hg] at hrun
  unfold Oper.quietAt execOp
  simp [ho, Instr.storeAt, Instr.sureAddr, storeVar, hx, hy, sizeOf, typeInfo, hf, hz, Value.cells, hrun, Oper.quietUpon]
/-- A call whose contract is 'it came back with v; what was there is as it was'. -/
theorem Env.calls {f : FuncId} {args : Array Value} {w : World} {v : Value} (hE : Env w0 rs w) (h : Calls P f args w (RetV w v)) : Calls P f args w fun e w' => e = .returned v ∧ Env w0 rs w' := h.mono fun e w' ⟨he, hb⟩ => ⟨he, hE.call hb⟩
theorem Env.callsQ {f : FuncId} {args : Array Value} {w : World} {v : Value} (hE : Env w0 rs w) (h : Calls P f args w fun e w' => e = .returned v ∧ w = w') : Calls P f args w fun e w' => e = .returned v ∧ Env w0 rs w' := h.mono fun e w' ⟨he, hb⟩ => ⟨he, hb ▸ hE⟩
end
end Go.Proofs.YtjdbjgaoeijmfaaDoor
end
