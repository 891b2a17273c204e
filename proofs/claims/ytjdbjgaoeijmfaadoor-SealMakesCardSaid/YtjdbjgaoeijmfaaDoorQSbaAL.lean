/-
  Texts that belong together, merged: SealB, StreamD, StreamF. Conditions: as each theorem names them.
-/
import Derived.Test.YtjdbjgaoeijmfaaDoorQSbaAD
import Derived.Test.YtjdbjgaoeijmfaaDoorQSbaAK
import Derived.Test.YtjdbjgaoeijmfaaDoorQSbaAG
import Derived.Test.YtjdbjgaoeijmfaaDoorQSbaAE
section
namespace Go.Proofs.YtjdbjgaoeijmfaaDoor
open Go.RowKit
set_option linter.unusedVariables false
set_option maxRecDepth 20000

def hideLab : ByteArray := { data := #[104, 105, 100, 101] }
def tagLab : ByteArray := { data := #[116, 97, 103] }
def hideK (key : List UInt8) : List UInt8 := macB key (infoB hideLab.data.toList [] ++ [1])
def tagK (key : List UInt8) : List UInt8 := macB key (infoB tagLab.data.toList [] ++ [1])
theorem hideK_length (key : List UInt8) : (hideK key).length = 32 := macB_length _ _
theorem tagK_length (key : List UInt8) : (tagK key).length = 32 := macB_length _ _

theorem Run.turn {w0 w x y : World} {g n b : Nat} (h : Run w0 w g n x) (hg : x.grownBy y (some b)) (hb : w.heap.size ≤ b) (hne : b ≠ g) : Run w0 w g n y :=
  ⟨h.below.grown hg h.below.size (fun k e => by injection e with e; subst e; exact Nat.le_trans h.old hb), h.row.grown hg (by intro e; injection e with e; exact hne e.symm), h.tabs0, h.far, h.old, h.row0,
    ⟨hg.os.trans h.grown.os, hg.tape.trans h.grown.tape, hg.output.trans h.grown.output, Nat.le_trans h.grown.size hg.size, fun k hk h1 => (hg.block k (Nat.lt_of_lt_of_le hk h.grown.size) (by intro e; injection e with e; omega)).trans (h.grown.block k hk h1)⟩⟩
/-- But for the blocks b and g all lies as it lay. -/
def Aside (b g : Nat) (W W' : World) : Prop := W.heap.size ≤ W'.heap.size ∧ ∀ k, k < W.heap.size → k ≠ b → k ≠ g → W'.heap[k]? = W.heap[k]?
theorem Aside.refl (b g : Nat) (W : World) : Aside b g W W := ⟨Nat.le_refl _, fun _ _ _ _ => rfl⟩
theorem Aside.trans {b g : Nat} {A B C : World} (h : Aside b g A B) (k : Aside b g B C) : Aside b g A C := ⟨Nat.le_trans h.1 k.1, fun i h1 h2 h3 => (k.2 i (Nat.lt_of_lt_of_le h1 h.1) h2 h3).trans (h.2 i h1 h2 h3)⟩
theorem Aside.below {b g : Nat} {A B : World} (h : Below A.heap.size A B) : Aside b g A B := ⟨h.size, fun i h1 _ _ => h.block i h1⟩
theorem Aside.first {b g : Nat} {A B : World} (h : A.grownBy B (some b)) : Aside b g A B := ⟨h.size, fun i h1 h2 _ => h.block i h1 (fun e => by injection e with e; exact h2 e)⟩
theorem Aside.other {b g : Nat} {A B : World} (h : A.grownBy B (some g)) : Aside b g A B := ⟨h.size, fun i h1 _ h3 => h.block i h1 (fun e => by injection e with e; exact h3 e)⟩
theorem Aside.row {b g k : Nat} {A B : World} {t : TypeId} {cs : Array Value} (h : Aside b g A B) (hr : RowAt A k t cs) (h1 : k ≠ b) (h2 : k ≠ g) : RowAt B k t cs := (h.2 k hr.lt h1 h2).trans hr
theorem Aside.box {b g k : Nat} {A B : World} {t : TypeId} {v : Value} (h : Aside b g A B) (hr : Boxed A k t v) (h1 : k ≠ b) (h2 : k ≠ g) : Boxed B k t v := (h.2 k hr.lt h1 h2).trans hr
theorem run_load_midK {P : Program} {w : World} {o : Oper} {a : Act} (ty : TypeId) (x : Operand) (ho : o.op = .load ty x) (b off : Nat) (hx : a.eval x = .pointer (some ⟨b, off, none⟩)) (l : List UInt8) (hr : w.rangeAt b off (cellsB l)) (d : TypeDesc)
    (hu : P.underlying ty = some d) (hd : d.isRow = true) (hi : (P.info? ty).map (·.size) = some (cellsB l).length) : (execOp a.eval o).run P w = .ok (.value (.agg (keyC l))) w := by
  unfold execOp
  simp only [ho, hx, Instr.loadAt, Instr.sureAddr, Sem.run_bind, Sem.run_pure, Result.andThen_ok, run_loadVar_mid w b off ty (cellsB l) d hr hu hd hi]
  rfl
theorem Tryd.sizeKeyL (l : List UInt8) (h : l.length = 32) : (Tryd.prog.info? 23).map (·.size) = some (cellsB l).length := by
  have := Tryd.sizeKey l h
  rw [keyC_size] at this
  rw [cellsB_length]
  exact this
theorem grown_setCell (w : World) (g j : Nat) (u : Value) : w.grownBy (w.setCell ⟨g, j, none⟩ u) (some g) :=
  ⟨rfl, rfl, rfl, by simp, fun k hk hne => Below.heap_setCell w ⟨g, j, none⟩ u k (fun e => hne (by rw [e]))⟩
/-- A key is stored amid the maker's cells. -/
theorem wp_store_mid {P : Program} {w : World} {o : Oper} {a : Act} {K : Act → World → Prop} {Q : Exit → Act → World → Prop} (ty : TypeId) (x y : Operand) (ho : o.op = .store ty x y) (b off : Nat) (t : TypeId) (old new : List Value) (l : List UInt8)
    (hx : a.eval x = .pointer (some ⟨b, off, none⟩)) (hy : a.eval y = .agg (keyC l)) (hg : RowAt w b t old.toArray) (hl : off + l.length ≤ old.length) (hnew : old.take off ++ cellsB l ++ old.drop (off + l.length) = new) (hi : (P.info? ty).map (·.size) = some (cellsB l).length)
    (h : ∀ w', PutRow w b t new.toArray w' → K (a.put o.dst undef) w') : o.wp P a w K Q := by
  obtain ⟨i, hi, hz⟩ := Option.map_eq_some_iff.1 hi
  have hrun := run_storeCells_at (P := P) b off t (cellsB l) 0 old.toArray w hg (by rw [cellsB_length]; simpa using hl) (cellsB_one l)
  have he : ((old.toArray).toList.take (off + 0) ++ cellsB l ++ (old.toArray).toList.drop (off + 0 + (cellsB l).length)).toArray = new.toArray := by rw [← hnew, cellsB_length]; simp
  rw [he] at hrun
  have hcl : (keyC l).toList = cellsB l := rfl
  unfold Oper.wp execOp
  have hsz : (keyC l).size = (cellsB l).length := by rw [keyC_size, cellsB_length]
  simp [ho, Instr.storeAt, Instr.sureAddr, storeVar, hx, hy, sizeOf, typeInfo, hi, hz, Value.cells, hcl, hsz, hrun]
  refine h _ ⟨setRow_heap w b _ _ t _ hg, ⟨rfl, rfl, rfl, by simp, fun k _ hne => setRow_other w b k _ (fun e => hne (by rw [e]))⟩, by simp⟩

set_option maxHeartbeats 2000000 in
theorem hide1_any (w0 w W : World) (b g p n : Nat) (key hk tk : List UInt8) (d m : Int) (hr : Run w0 w g n W) (hn : n ≤ 1000000) (hbg : b ≠ g) (hpb : p ≠ b) (hpg : p ≠ g) (hp : Boxed W p 55 (.pointer (some ⟨b, 0, none⟩))) (hm : MakerAt W b g key 0 1 hk d m tk) :
    Calls Tryd.prog 38 #[.pointer (some ⟨p, 0, none⟩)] W fun e x => e = .returned (.tuple #[]) ∧ ∃ n' y, n' ≤ n + 3 ∧ Run w0 W g n' y ∧ y.grownBy x (some b) ∧ MakerAt x b g key 0 1 (hideK key) d m tk := by
  have HR := Lib.hid hr.self
  have hK32 := hm.2.1
  have HLK : Hid (key.length = 32) := hK32
  have HD : Hid (∀ x n, Run w0 x g n x → n ≤ 1000000 → Calls Tryd.prog 39 #[.pointer (some ⟨g, 0, none⟩), .agg (keyC key), .string hideLab, .slice none 0 0] x fun e w' => ∃ n', n' ≤ n + 3 ∧ e = .returned (.agg (keyC (hideK key))) ∧ Run w0 x g n' w') := fun x n h1 h2 =>
    macDerive_any w0 x g n h1 h2 key hK32 hideLab (by decide) none 0 [] (Bss.nil _) (by simp) (by simp)
  obtain ⟨kx, hkx⟩ : ∃ k, k = hideK key := ⟨_, rfl⟩
  have LX : Hid (kx.length = 32) := by show _ = _; rw [hkx]; exact hideK_length key
  rw [← hkx] at HD ⊢
  have hS0 := And.intro hp hm
  clear hkx hr hK32 hp hm
  go_enter Tryd.func38, Tryd.ntmps38
  refine plain_region (S := fun W' => Boxed W' p 55 (.pointer (some ⟨b, 0, none⟩)) ∧ ∃ q, MakerAt W' b g key 0 1 q d m tk) (fin := fun _ => false) (by kernel_rfl) ?_
  have hS : Boxed W.drew p 55 (.pointer (some ⟨b, 0, none⟩)) ∧ ∃ q, MakerAt W.drew b g key 0 1 q d m tk := ⟨hS0.1, _, hS0.2⟩
  change walkS _ _ _ _ _ _ 13 _ _ _
  refine walkS_take (i := 0) (oi := ⟨some 1, _, _, _, _, _⟩) (v := .pointer (some ⟨b, 0, none⟩)) rfl (by kernel_rfl) (by kernel_rfl) (fun _ _ _ h => h) _ _ _ _ (by kernel_rfl) (by kernel_rfl) (Or.inl ⟨by rfl, fun w' hS' => (by have c := hS'.1.cell; clear hS hS'; go_simp)⟩) hS ?_
  simp only [Act.put, List.setIfInBounds_toArray, List.set_cons_zero, List.set_cons_succ]
  refine walkS_take (i := 1) (oi := ⟨some 2, _, _, _, _, _⟩) (v := .pointer (some ⟨b, 0, none⟩)) rfl (by kernel_rfl) (by kernel_rfl) (fun _ _ _ h => h) _ _ _ _ (by kernel_rfl) (by kernel_rfl) (Or.inl ⟨by rfl, fun w' hS' => (by have c := hS'.1.cell; clear hS hS'; go_simp)⟩) hS ?_
  simp only [Act.put, List.setIfInBounds_toArray, List.set_cons_zero, List.set_cons_succ]
  refine walkS_take (i := 2) (oi := ⟨some 3, _, _, _, _, _⟩) (v := .pointer (some ⟨b, 0, none⟩)) rfl (by kernel_rfl) (by kernel_rfl) (fun _ _ _ h => h) _ _ _ _ (by kernel_rfl) (by kernel_rfl) (Or.inl ⟨by rfl, fun w' hS' => (by clear hS hS'; go_simp)⟩) hS ?_
  simp only [Act.put, List.setIfInBounds_toArray, List.set_cons_zero, List.set_cons_succ]
  refine walkS_take (i := 3) (oi := ⟨some 4, _, _, _, _, _⟩) (v := .pointer (some ⟨b, 0, none⟩)) rfl (by kernel_rfl) (by kernel_rfl) (fun _ _ _ h => h) _ _ _ _ (by kernel_rfl) (by kernel_rfl) (Or.inl ⟨by rfl, fun w' hS' => (by clear hS hS'; go_simp)⟩) hS ?_
  simp only [Act.put, List.setIfInBounds_toArray, List.set_cons_zero, List.set_cons_succ]
  refine walkS_take (i := 4) (oi := ⟨some 5, _, _, _, _, _⟩) (v := .pointer (some ⟨g, 0, none⟩)) rfl (by kernel_rfl) (by kernel_rfl) (fun _ _ _ h => h) _ _ _ _ (by kernel_rfl) (by kernel_rfl) (Or.inl ⟨by rfl, fun w' hS' => (by obtain ⟨q, hM⟩ := hS'.2; have c := hM.c0; clear hM hS hS'; go_simp)⟩) hS ?_
  simp only [Act.put, List.setIfInBounds_toArray, List.set_cons_zero, List.set_cons_succ]
  refine walkS_take (i := 5) (oi := ⟨some 6, _, _, _, _, _⟩) (v := .pointer (some ⟨b, 0, none⟩)) rfl (by kernel_rfl) (by kernel_rfl) (fun _ _ _ h => h) _ _ _ _ (by kernel_rfl) (by kernel_rfl) (Or.inl ⟨by rfl, fun w' hS' => (by have c := hS'.1.cell; clear hS hS'; go_simp)⟩) hS ?_
  simp only [Act.put, List.setIfInBounds_toArray, List.set_cons_zero, List.set_cons_succ]
  refine walkS_take (i := 6) (oi := ⟨some 7, _, _, _, _, _⟩) (v := .pointer (some ⟨b, 0, none⟩)) rfl (by kernel_rfl) (by kernel_rfl) (fun _ _ _ h => h) _ _ _ _ (by kernel_rfl) (by kernel_rfl) (Or.inl ⟨by rfl, fun w' hS' => (by clear hS hS'; go_simp)⟩) hS ?_
  simp only [Act.put, List.setIfInBounds_toArray, List.set_cons_zero, List.set_cons_succ]
  refine walkS_take (i := 7) (oi := ⟨some 8, _, _, _, _, _⟩) (v := .pointer (some ⟨b, 1, none⟩)) rfl (by kernel_rfl) (by kernel_rfl) (fun _ _ _ h => h) _ _ _ _ (by kernel_rfl) (by kernel_rfl) (Or.inl ⟨by rfl, fun w' hS' => (by clear hS hS'; go_simp)⟩) hS ?_
  simp only [Act.put, List.setIfInBounds_toArray, List.set_cons_zero, List.set_cons_succ]
  refine walkS_take (i := 8) (oi := ⟨some 9, _, _, _, _, _⟩) (v := .agg (keyC key)) rfl (by kernel_rfl) (by kernel_rfl) (fun _ _ _ h => h) _ _ _ _ (by kernel_rfl) (by kernel_rfl) (Or.inl ⟨by rfl, fun w' hS' => (by obtain ⟨q, hM⟩ := hS'.2; exact run_load_midK 23 (.tmp 8) rfl b 1 rfl key (hM.range 1 key (makerL_key _ _ _ _ _ _ _ _ hM.2.1 hM.2.2.1 hM.2.2.2)) _ Tryd.underlying23 rfl (Tryd.sizeKeyL key hM.2.1))⟩) hS ?_
  simp only [Act.put, List.setIfInBounds_toArray, List.set_cons_zero, List.set_cons_succ]
  refine walkS_only (i := 9) (o := ⟨some 10, _, _, _, _, _⟩) (by kernel_rfl) rfl rfl fun K hK => ?_
  have HS := Lib.hid hS
  clear hS
  go_simp
  refine (HD.out W.drew n (HR.out.kept (Below.refl _ _).drew).self hn).mono ?_
  intro e w1 h
  obtain ⟨n', hn', he, r1⟩ := h
  subst he
  have hS := And.intro (HS.out.1.kept r1.grown (by intro e; injection e with e; exact hpg e)) (by obtain ⟨q, hM⟩ := HS.out.2; exact ⟨q, hM.grown r1.grown (by intro e; injection e with e; exact hbg e)⟩ : ∃ q, MakerAt w1 b g key 0 1 q d m tk)
  refine hK _ _ (.inr hS) ?_
  have R1 : Hid (Run w0 W g n' w1) := (HR.out.kept (Below.refl _ _).drew).trans r1
  clear hK K HS r1
  refine walkS_take (i := 10) (oi := ⟨some 11, _, _, _, _, _⟩) (v := .pointer (some ⟨b, 0, none⟩)) rfl (by kernel_rfl) (by kernel_rfl) (fun _ _ _ h => h) _ _ _ _ (by kernel_rfl) (by kernel_rfl) (Or.inl ⟨by rfl, fun w' hS' => (by clear hS hS'; go_simp)⟩) hS ?_
  simp only [Act.put, List.setIfInBounds_toArray, List.set_cons_zero, List.set_cons_succ]
  refine walkS_take (i := 11) (oi := ⟨some 12, _, _, _, _, _⟩) (v := .pointer (some ⟨b, 36, none⟩)) rfl (by kernel_rfl) (by kernel_rfl) (fun _ _ _ h => h) _ _ _ _ (by kernel_rfl) (by kernel_rfl) (Or.inl ⟨by rfl, fun w' hS' => (by clear hS hS'; go_simp)⟩) hS ?_
  simp only [Act.put, List.setIfInBounds_toArray, List.set_cons_zero, List.set_cons_succ]
  refine walkS_only (i := 12) (o := ⟨none, _, _, _, _, _⟩) (by kernel_rfl) rfl rfl fun K hK => ?_
  obtain ⟨q, hQ⟩ := hS.2
  refine wp_store_mid 23 (.tmp 12) (.tmp 10) rfl b 36 61 _ (makerL g key 0 1 kx d m tk) kx rfl rfl hQ.1 (by rw [makerL_length _ _ _ _ _ _ _ _ hQ.2.1 hQ.2.2.1 hQ.2.2.2, LX.out]; omega) (by rw [LX.out]; exact makerL_putHide _ _ _ _ _ _ _ _ hQ.2.1 hQ.2.2.1 hQ.2.2.2 kx LX.out) (Tryd.sizeKeyL kx LX.out) ?_
  intro w2 p2
  have hM : MakerAt w2 b g key 0 1 kx d m tk := ⟨p2.row, hQ.2.1, LX.out, hQ.2.2.2⟩
  refine hK _ _ (.inr ⟨hS.1.kept p2.grown (by intro e; injection e with e; exact hpb e), _, hM⟩) (walkS_done (by kernel_rfl) ?_ _)
  go_end0
  exact ⟨rfl, n', w1, hn', R1.out, p2.grown, hM⟩

set_option maxHeartbeats 2000000 in
theorem tag1_any (w0 w W : World) (b g p n : Nat) (key hk tk : List UInt8) (d m : Int) (hr : Run w0 w g n W) (hn : n ≤ 1000000) (hbg : b ≠ g) (hpb : p ≠ b) (hpg : p ≠ g) (hp : Boxed W p 55 (.pointer (some ⟨b, 0, none⟩))) (hm : MakerAt W b g key d m hk 0 1 tk) :
    Calls Tryd.prog 40 #[.pointer (some ⟨p, 0, none⟩)] W fun e x => e = .returned (.tuple #[]) ∧ ∃ n' y, n' ≤ n + 3 ∧ Run w0 W g n' y ∧ y.grownBy x (some b) ∧ MakerAt x b g key d m hk 0 1 (tagK key) := by
  have HR := Lib.hid hr.self
  have hK32 := hm.2.1
  have HLK : Hid (key.length = 32) := hK32
  have HD : Hid (∀ x n, Run w0 x g n x → n ≤ 1000000 → Calls Tryd.prog 39 #[.pointer (some ⟨g, 0, none⟩), .agg (keyC key), .string tagLab, .slice none 0 0] x fun e w' => ∃ n', n' ≤ n + 3 ∧ e = .returned (.agg (keyC (tagK key))) ∧ Run w0 x g n' w') := fun x n h1 h2 =>
    macDerive_any w0 x g n h1 h2 key hK32 tagLab (by decide) none 0 [] (Bss.nil _) (by simp) (by simp)
  obtain ⟨kx, hkx⟩ : ∃ k, k = tagK key := ⟨_, rfl⟩
  have LX : Hid (kx.length = 32) := by show _ = _; rw [hkx]; exact tagK_length key
  rw [← hkx] at HD ⊢
  have hS0 := And.intro hp hm
  clear hkx hr hK32 hp hm
  go_enter Tryd.func40, Tryd.ntmps40
  refine plain_region (S := fun W' => Boxed W' p 55 (.pointer (some ⟨b, 0, none⟩)) ∧ ∃ q, MakerAt W' b g key d m hk 0 1 q) (fin := fun _ => false) (by kernel_rfl) ?_
  have hS : Boxed W.drew p 55 (.pointer (some ⟨b, 0, none⟩)) ∧ ∃ q, MakerAt W.drew b g key d m hk 0 1 q := ⟨hS0.1, _, hS0.2⟩
  change walkS _ _ _ _ _ _ 13 _ _ _
  refine walkS_take (i := 0) (oi := ⟨some 1, _, _, _, _, _⟩) (v := .pointer (some ⟨b, 0, none⟩)) rfl (by kernel_rfl) (by kernel_rfl) (fun _ _ _ h => h) _ _ _ _ (by kernel_rfl) (by kernel_rfl) (Or.inl ⟨by rfl, fun w' hS' => (by have c := hS'.1.cell; clear hS hS'; go_simp)⟩) hS ?_
  simp only [Act.put, List.setIfInBounds_toArray, List.set_cons_zero, List.set_cons_succ]
  refine walkS_take (i := 1) (oi := ⟨some 2, _, _, _, _, _⟩) (v := .pointer (some ⟨b, 0, none⟩)) rfl (by kernel_rfl) (by kernel_rfl) (fun _ _ _ h => h) _ _ _ _ (by kernel_rfl) (by kernel_rfl) (Or.inl ⟨by rfl, fun w' hS' => (by have c := hS'.1.cell; clear hS hS'; go_simp)⟩) hS ?_
  simp only [Act.put, List.setIfInBounds_toArray, List.set_cons_zero, List.set_cons_succ]
  refine walkS_take (i := 2) (oi := ⟨some 3, _, _, _, _, _⟩) (v := .pointer (some ⟨b, 0, none⟩)) rfl (by kernel_rfl) (by kernel_rfl) (fun _ _ _ h => h) _ _ _ _ (by kernel_rfl) (by kernel_rfl) (Or.inl ⟨by rfl, fun w' hS' => (by clear hS hS'; go_simp)⟩) hS ?_
  simp only [Act.put, List.setIfInBounds_toArray, List.set_cons_zero, List.set_cons_succ]
  refine walkS_take (i := 3) (oi := ⟨some 4, _, _, _, _, _⟩) (v := .pointer (some ⟨b, 0, none⟩)) rfl (by kernel_rfl) (by kernel_rfl) (fun _ _ _ h => h) _ _ _ _ (by kernel_rfl) (by kernel_rfl) (Or.inl ⟨by rfl, fun w' hS' => (by clear hS hS'; go_simp)⟩) hS ?_
  simp only [Act.put, List.setIfInBounds_toArray, List.set_cons_zero, List.set_cons_succ]
  refine walkS_take (i := 4) (oi := ⟨some 5, _, _, _, _, _⟩) (v := .pointer (some ⟨g, 0, none⟩)) rfl (by kernel_rfl) (by kernel_rfl) (fun _ _ _ h => h) _ _ _ _ (by kernel_rfl) (by kernel_rfl) (Or.inl ⟨by rfl, fun w' hS' => (by obtain ⟨q, hM⟩ := hS'.2; have c := hM.c0; clear hM hS hS'; go_simp)⟩) hS ?_
  simp only [Act.put, List.setIfInBounds_toArray, List.set_cons_zero, List.set_cons_succ]
  refine walkS_take (i := 5) (oi := ⟨some 6, _, _, _, _, _⟩) (v := .pointer (some ⟨b, 0, none⟩)) rfl (by kernel_rfl) (by kernel_rfl) (fun _ _ _ h => h) _ _ _ _ (by kernel_rfl) (by kernel_rfl) (Or.inl ⟨by rfl, fun w' hS' => (by have c := hS'.1.cell; clear hS hS'; go_simp)⟩) hS ?_
  simp only [Act.put, List.setIfInBounds_toArray, List.set_cons_zero, List.set_cons_succ]
  refine walkS_take (i := 6) (oi := ⟨some 7, _, _, _, _, _⟩) (v := .pointer (some ⟨b, 0, none⟩)) rfl (by kernel_rfl) (by kernel_rfl) (fun _ _ _ h => h) _ _ _ _ (by kernel_rfl) (by kernel_rfl) (Or.inl ⟨by rfl, fun w' hS' => (by clear hS hS'; go_simp)⟩) hS ?_
  simp only [Act.put, List.setIfInBounds_toArray, List.set_cons_zero, List.set_cons_succ]
  refine walkS_take (i := 7) (oi := ⟨some 8, _, _, _, _, _⟩) (v := .pointer (some ⟨b, 1, none⟩)) rfl (by kernel_rfl) (by kernel_rfl) (fun _ _ _ h => h) _ _ _ _ (by kernel_rfl) (by kernel_rfl) (Or.inl ⟨by rfl, fun w' hS' => (by clear hS hS'; go_simp)⟩) hS ?_
  simp only [Act.put, List.setIfInBounds_toArray, List.set_cons_zero, List.set_cons_succ]
  refine walkS_take (i := 8) (oi := ⟨some 9, _, _, _, _, _⟩) (v := .agg (keyC key)) rfl (by kernel_rfl) (by kernel_rfl) (fun _ _ _ h => h) _ _ _ _ (by kernel_rfl) (by kernel_rfl) (Or.inl ⟨by rfl, fun w' hS' => (by obtain ⟨q, hM⟩ := hS'.2; exact run_load_midK 23 (.tmp 8) rfl b 1 rfl key (hM.range 1 key (makerL_key _ _ _ _ _ _ _ _ hM.2.1 hM.2.2.1 hM.2.2.2)) _ Tryd.underlying23 rfl (Tryd.sizeKeyL key hM.2.1))⟩) hS ?_
  simp only [Act.put, List.setIfInBounds_toArray, List.set_cons_zero, List.set_cons_succ]
  refine walkS_only (i := 9) (o := ⟨some 10, _, _, _, _, _⟩) (by kernel_rfl) rfl rfl fun K hK => ?_
  have HS := Lib.hid hS
  clear hS
  go_simp
  refine (HD.out W.drew n (HR.out.kept (Below.refl _ _).drew).self hn).mono ?_
  intro e w1 h
  obtain ⟨n', hn', he, r1⟩ := h
  subst he
  have hS := And.intro (HS.out.1.kept r1.grown (by intro e; injection e with e; exact hpg e)) (by obtain ⟨q, hM⟩ := HS.out.2; exact ⟨q, hM.grown r1.grown (by intro e; injection e with e; exact hbg e)⟩ : ∃ q, MakerAt w1 b g key d m hk 0 1 q)
  refine hK _ _ (.inr hS) ?_
  have R1 : Hid (Run w0 W g n' w1) := (HR.out.kept (Below.refl _ _).drew).trans r1
  clear hK K HS r1
  refine walkS_take (i := 10) (oi := ⟨some 11, _, _, _, _, _⟩) (v := .pointer (some ⟨b, 0, none⟩)) rfl (by kernel_rfl) (by kernel_rfl) (fun _ _ _ h => h) _ _ _ _ (by kernel_rfl) (by kernel_rfl) (Or.inl ⟨by rfl, fun w' hS' => (by clear hS hS'; go_simp)⟩) hS ?_
  simp only [Act.put, List.setIfInBounds_toArray, List.set_cons_zero, List.set_cons_succ]
  refine walkS_take (i := 11) (oi := ⟨some 12, _, _, _, _, _⟩) (v := .pointer (some ⟨b, 71, none⟩)) rfl (by kernel_rfl) (by kernel_rfl) (fun _ _ _ h => h) _ _ _ _ (by kernel_rfl) (by kernel_rfl) (Or.inl ⟨by rfl, fun w' hS' => (by clear hS hS'; go_simp)⟩) hS ?_
  simp only [Act.put, List.setIfInBounds_toArray, List.set_cons_zero, List.set_cons_succ]
  refine walkS_only (i := 12) (o := ⟨none, _, _, _, _, _⟩) (by kernel_rfl) rfl rfl fun K hK => ?_
  obtain ⟨q, hQ⟩ := hS.2
  refine wp_store_mid 23 (.tmp 12) (.tmp 10) rfl b 71 61 _ (makerL g key d m hk 0 1 kx) kx rfl rfl hQ.1 (by rw [makerL_length _ _ _ _ _ _ _ _ hQ.2.1 hQ.2.2.1 hQ.2.2.2, LX.out]; omega) (by rw [LX.out]; exact makerL_putTag _ _ _ _ _ _ _ _ hQ.2.1 hQ.2.2.1 hQ.2.2.2 kx LX.out) (Tryd.sizeKeyL kx LX.out) ?_
  intro w2 p2
  have hM : MakerAt w2 b g key d m hk 0 1 kx := ⟨p2.row, hQ.2.1, hQ.2.2.1, LX.out⟩
  refine hK _ _ (.inr ⟨hS.1.kept p2.grown (by intro e; injection e with e; exact hpb e), _, hM⟩) (walkS_done (by kernel_rfl) ?_ _)
  go_end0
  exact ⟨rfl, n', w1, hn', R1.out, p2.grown, hM⟩

set_option maxHeartbeats 2000000 in
theorem hide_any (w0 w W : World) (b g n : Nat) (key hk tk : List UInt8) (d m : Int) (hr : Run w0 w g n W) (hn : n ≤ 1000000) (hbg : b ≠ g) (hb : w.heap.size ≤ b) (hm : MakerAt W b g key 0 0 hk d m tk) :
    Calls Tryd.prog 26 #[.pointer (some ⟨b, 0, none⟩)] W fun e x => ∃ n', n' ≤ n + 3 ∧ e = .returned (.agg (keyC (hideK key))) ∧ Run w0 w g n' x ∧ Aside b g W x ∧ MakerAt x b g key 1 0 (hideK key) d m tk := by
  have HR := Lib.hid hr
  have HM := Lib.hid hm
  have hbl := hm.1.lt
  have hgl := hr.self.glt
  have hmf : ∀ (fn : Fn) (first cap : Array Value) (w : World), (Instr.makeFunc fn first cap).run Tryd.prog w = .ok (.func fn first cap) w := fun _ _ _ _ => rfl
  clear hr hm
  go_enter Tryd.func26, Tryd.ntmps26
  go_wp2_with ((with_reducible refine wpList_alloc_row (o := ⟨some 2, _, _, _, _, _⟩) rfl 23 rfl (keyC zeroKey) Tryd.zeroK ?_); intro g2 w2 n2; have hc := ((Boxed.new W 55 (.pointer (some ⟨b, 0, none⟩))).kept (grown_of_below n2.below) (by simp)).cell)
  have B2 : Hid (Below W.heap.size W w2) := below_size (alloc_below W _) n2.below
  have hp2 := (Boxed.new W 55 (.pointer (some ⟨b, 0, none⟩))).kept (grown_of_below n2.below) (by simp)
  have hsp := n2.spot
  rw [World.size_alloc] at hsp
  obtain ⟨p, hpp⟩ : ∃ p, p = W.heap.size := ⟨_, rfl⟩
  rw [← hpp] at hp2 hc ⊢
  have hpb : p ≠ b := by omega
  have hpg : p ≠ g := by omega
  have h2b : g2 ≠ b := by omega
  have h2g : g2 ≠ g := by omega
  have hg2W : W.heap.size ≤ g2 := by omega
  have Q2 := Lib.hid n2.row
  have hM2 := HM.out.kept B2.out
  have R2 := Lib.hid (HR.out.kept B2.out)
  clear n2 hsp hc
  have hgs := grown_setCell w2 b 34 (.int .i32 1)
  have RC := Lib.hid (R2.out.turn hgs hb hbg)
  have hpc := hp2.kept hgs (by intro e; injection e with e; exact hpb e)
  have hMc := hM2.p34 1
  refine (once_first b 33 38 #[.pointer (some ⟨p, 0, none⟩)] (enters_of Tryd.func38 (by kernel_rfl) rfl) w2 hM2.c33 hM2.c34 (hM2.fz _) (hM2.fz _)
    (fun x => ∃ n' y, n' ≤ n + 3 ∧ Run w0 (w2.setCell ⟨b, 34, none⟩ (.int .i32 1)) g n' y ∧ y.grownBy x (some b) ∧ MakerAt x b g key 0 1 (hideK key) d m tk)
    (hide1_any w0 w _ b g p n key hk tk d m RC.out hn hbg hpb hpg hpc hMc)
    (fun x ⟨_, _, _, _, _, h⟩ => ⟨h.c33, h.fz _, h.c34, h.fz _⟩)).mono ?_
  intro e x' h
  obtain ⟨he, x, ⟨n', y, hn', ry, gy, hMx⟩, hx'⟩ := h
  subst he
  have A1 : Aside b g w2 (w2.setCell ⟨b, 34, none⟩ (.int .i32 1)) := Aside.first hgs
  have A2 := (A1.trans (Aside.other ry.grown)).trans (Aside.first gy)
  have gA := grown_setCell x.drew b 33 (.int .u32 1)
  have gB := grown_setCell (x.drew.setCell ⟨b, 33, none⟩ (.int .u32 1)) b 34 (.int .i32 0)
  have AD : Aside b g x x.drew := ⟨Nat.le_refl _, fun _ _ _ _ => rfl⟩
  have A3 := ((A2.trans AD).trans (Aside.first gA)).trans (Aside.first gB)
  have hMF := (hMx.drew.p33 1).p34 0
  have RY : Run w0 w g n' y := RC.out.trans ry
  have RF := (((RY.turn gy hb hbg).kept (Below.refl _ _).drew).turn gA hb hbg).turn gB hb hbg
  rw [← hx'] at A3 hMF RF
  have HA := Lib.hid ((Aside.below B2.out).trans A3)
  have HP := Lib.hid (A3.box hp2 hpb hpg)
  have HQ := Lib.hid (A3.row Q2.out h2b h2g)
  have HMF := Lib.hid hMF
  have HRF := Lib.hid RF
  have hcp := HP.out.cell
  have LX : Hid ((hideK key).length = 32) := hideK_length key
  clear hx' ry gy hMx A1 A2 gA gB AD A3 hMF RY RF hgs hpc hMc hM2 hp2 RC HP hpb hpg
  clear hpp
  obtain ⟨kx, hkx⟩ : ∃ k, k = hideK key := ⟨_, rfl⟩
  rw [← hkx] at HMF LX
  have HKX := Lib.hid hkx
  clear hkx
  have hrr := HMF.out.range 36 kx (makerL_hide _ _ _ _ _ _ _ _ HMF.out.2.1 HMF.out.2.2.1 HMF.out.2.2.2)
  go_wp2_with (first
    | (with_reducible refine wpList_load_mid (op := ⟨some 11, _, _, _, _, _⟩) rfl 23 (.tmp 10) rfl b 36 (by with_unfolding_all rfl) (cellsB kx) (.array 32 5) hrr Tryd.underlying23 (by with_unfolding_all rfl) (Tryd.sizeKeyL kx LX.out) ?_)
    | ((with_reducible refine wpList_store_row (o := ⟨none, _, _, _, _, _⟩) rfl 23 (.tmp 2) (.tmp 11) rfl g2 23 _ (keyC kx) (by with_unfolding_all rfl) (by with_unfolding_all rfl) HQ.out (keyC_same zeroKey_length LX.out) (Tryd.sizeKey kx LX.out) (keyC_one kx) ?_); intro w5 p5))
  have hb2 : w.heap.size ≤ g2 := by have := HR.out.size; omega
  refine bodyPost_ret (results_cell_row rfl _ _ g2 23 (keyC kx) (0, 0) (.array 32 5) rfl p5.row Tryd.underlying23 rfl (Tryd.sizeKey kx LX.out)) rfl ⟨n', hn', by rw [HKX.out], HRF.out.turn p5.grown hb2 h2g, ?_, ?_⟩
  · refine ⟨Nat.le_trans HA.out.1 p5.grown.size, fun k hk h1 h2 => (p5.grown.block k (Nat.lt_of_lt_of_le hk HA.out.1) (fun e => by injection e with e; omega)).trans (HA.out.2 k hk h1 h2)⟩
  · rw [← HKX.out]
    exact HMF.out.grown p5.grown (by intro e; injection e with e; exact h2b e.symm)

set_option maxHeartbeats 2000000 in
theorem tag_any (w0 w W : World) (b g n : Nat) (key hk tk : List UInt8) (d m : Int) (hr : Run w0 w g n W) (hn : n ≤ 1000000) (hbg : b ≠ g) (hb : w.heap.size ≤ b) (hm : MakerAt W b g key d m hk 0 0 tk) :
    Calls Tryd.prog 27 #[.pointer (some ⟨b, 0, none⟩)] W fun e x => ∃ n', n' ≤ n + 3 ∧ e = .returned (.agg (keyC (tagK key))) ∧ Run w0 w g n' x ∧ Aside b g W x ∧ MakerAt x b g key d m hk 1 0 (tagK key) := by
  have HR := Lib.hid hr
  have HM := Lib.hid hm
  have hbl := hm.1.lt
  have hgl := hr.self.glt
  have hmf : ∀ (fn : Fn) (first cap : Array Value) (w : World), (Instr.makeFunc fn first cap).run Tryd.prog w = .ok (.func fn first cap) w := fun _ _ _ _ => rfl
  clear hr hm
  go_enter Tryd.func27, Tryd.ntmps27
  go_wp2_with ((with_reducible refine wpList_alloc_row (o := ⟨some 2, _, _, _, _, _⟩) rfl 23 rfl (keyC zeroKey) Tryd.zeroK ?_); intro g2 w2 n2; have hc := ((Boxed.new W 55 (.pointer (some ⟨b, 0, none⟩))).kept (grown_of_below n2.below) (by simp)).cell)
  have B2 : Hid (Below W.heap.size W w2) := below_size (alloc_below W _) n2.below
  have hp2 := (Boxed.new W 55 (.pointer (some ⟨b, 0, none⟩))).kept (grown_of_below n2.below) (by simp)
  have hsp := n2.spot
  rw [World.size_alloc] at hsp
  obtain ⟨p, hpp⟩ : ∃ p, p = W.heap.size := ⟨_, rfl⟩
  rw [← hpp] at hp2 hc ⊢
  have hpb : p ≠ b := by omega
  have hpg : p ≠ g := by omega
  have h2b : g2 ≠ b := by omega
  have h2g : g2 ≠ g := by omega
  have hg2W : W.heap.size ≤ g2 := by omega
  have Q2 := Lib.hid n2.row
  have hM2 := HM.out.kept B2.out
  have R2 := Lib.hid (HR.out.kept B2.out)
  clear n2 hsp hc
  have hgs := grown_setCell w2 b 69 (.int .i32 1)
  have RC := Lib.hid (R2.out.turn hgs hb hbg)
  have hpc := hp2.kept hgs (by intro e; injection e with e; exact hpb e)
  have hMc := hM2.p69 1
  refine (once_first b 68 40 #[.pointer (some ⟨p, 0, none⟩)] (enters_of Tryd.func40 (by kernel_rfl) rfl) w2 hM2.c68 hM2.c69 (hM2.fz _) (hM2.fz _)
    (fun x => ∃ n' y, n' ≤ n + 3 ∧ Run w0 (w2.setCell ⟨b, 69, none⟩ (.int .i32 1)) g n' y ∧ y.grownBy x (some b) ∧ MakerAt x b g key d m hk 0 1 (tagK key))
    (tag1_any w0 w _ b g p n key hk tk d m RC.out hn hbg hpb hpg hpc hMc)
    (fun x ⟨_, _, _, _, _, h⟩ => ⟨h.c68, h.fz _, h.c69, h.fz _⟩)).mono ?_
  intro e x' h
  obtain ⟨he, x, ⟨n', y, hn', ry, gy, hMx⟩, hx'⟩ := h
  subst he
  have A1 : Aside b g w2 (w2.setCell ⟨b, 69, none⟩ (.int .i32 1)) := Aside.first hgs
  have A2 := (A1.trans (Aside.other ry.grown)).trans (Aside.first gy)
  have gA := grown_setCell x.drew b 68 (.int .u32 1)
  have gB := grown_setCell (x.drew.setCell ⟨b, 68, none⟩ (.int .u32 1)) b 69 (.int .i32 0)
  have AD : Aside b g x x.drew := ⟨Nat.le_refl _, fun _ _ _ _ => rfl⟩
  have A3 := ((A2.trans AD).trans (Aside.first gA)).trans (Aside.first gB)
  have hMF := (hMx.drew.p68 1).p69 0
  have RY : Run w0 w g n' y := RC.out.trans ry
  have RF := (((RY.turn gy hb hbg).kept (Below.refl _ _).drew).turn gA hb hbg).turn gB hb hbg
  rw [← hx'] at A3 hMF RF
  have HA := Lib.hid ((Aside.below B2.out).trans A3)
  have HP := Lib.hid (A3.box hp2 hpb hpg)
  have HQ := Lib.hid (A3.row Q2.out h2b h2g)
  have HMF := Lib.hid hMF
  have HRF := Lib.hid RF
  have hcp := HP.out.cell
  have LX : Hid ((tagK key).length = 32) := tagK_length key
  clear hx' ry gy hMx A1 A2 gA gB AD A3 hMF RY RF hgs hpc hMc hM2 hp2 RC HP hpb hpg
  clear hpp
  obtain ⟨kx, hkx⟩ : ∃ k, k = tagK key := ⟨_, rfl⟩
  rw [← hkx] at HMF LX
  have HKX := Lib.hid hkx
  clear hkx
  have hrr := HMF.out.range 71 kx (makerL_tag _ _ _ _ _ _ _ _ HMF.out.2.1 HMF.out.2.2.1 HMF.out.2.2.2)
  go_wp2_with (first
    | (with_reducible refine wpList_load_mid (op := ⟨some 11, _, _, _, _, _⟩) rfl 23 (.tmp 10) rfl b 71 (by with_unfolding_all rfl) (cellsB kx) (.array 32 5) hrr Tryd.underlying23 (by with_unfolding_all rfl) (Tryd.sizeKeyL kx LX.out) ?_)
    | ((with_reducible refine wpList_store_row (o := ⟨none, _, _, _, _, _⟩) rfl 23 (.tmp 2) (.tmp 11) rfl g2 23 _ (keyC kx) (by with_unfolding_all rfl) (by with_unfolding_all rfl) HQ.out (keyC_same zeroKey_length LX.out) (Tryd.sizeKey kx LX.out) (keyC_one kx) ?_); intro w5 p5))
  have hb2 : w.heap.size ≤ g2 := by have := HR.out.size; omega
  refine bodyPost_ret (results_cell_row rfl _ _ g2 23 (keyC kx) (0, 0) (.array 32 5) rfl p5.row Tryd.underlying23 rfl (Tryd.sizeKey kx LX.out)) rfl ⟨n', hn', by rw [HKX.out], HRF.out.turn p5.grown hb2 h2g, ?_, ?_⟩
  · refine ⟨Nat.le_trans HA.out.1 p5.grown.size, fun k hk h1 h2 => (p5.grown.block k (Nat.lt_of_lt_of_le hk HA.out.1) (fun e => by injection e with e; omega)).trans (HA.out.2 k hk h1 h2)⟩
  · rw [← HKX.out]
    exact HMF.out.grown p5.grown (by intro e; injection e with e; exact h2b e.symm)
end Go.Proofs.YtjdbjgaoeijmfaaDoor
end
section
namespace Go.Proofs.YtjdbjgaoeijmfaaDoor
open Go.RowKit Go.Shelf
attribute [local go_sem] Oper.semAt_some
set_option linter.unusedVariables false
set_option maxRecDepth 20000

/-- What the function has captured: a key, a counter, a nonce, how many. -/
structure SEnv (w : World) (gk gc gn gm : Nat) (key nonce : List UInt8) (ctr : UInt32) (N : Nat) : Prop where
  key : RowAt w gk 23 (keyC key)
  ctr : Boxed w gc 48 (.int .u32 (ctr.toNat : Int))
  nonce : RowAt w gn 67 (keyC nonce)
  count : Boxed w gm 3 (.int .i64 (N : Int))
  table : Quar w
def SEnvAt (gk gc gn gm : Nat) (k : Nat) : Prop := k = gk ∨ k = gc ∨ k = gn ∨ k = gm ∨ k = 0
theorem SEnv.kept {w w' : World} {gk gc gn gm : Nat} {key nonce : List UInt8} {ctr : UInt32} {N : Nat} (h : SEnv w gk gc gn gm key nonce ctr N) (hk : KeepsAt (SEnvAt gk gc gn gm) w w') : SEnv w' gk gc gn gm key nonce ctr N :=
  ⟨(hk gk (.inl rfl)).trans h.key, (hk gc (.inr (.inl rfl))).trans h.ctr, (hk gn (.inr (.inr (.inl rfl)))).trans h.nonce,
    (hk gm (.inr (.inr (.inr (.inl rfl))))).trans h.count, by obtain ⟨t, fr, hq⟩ := h.table; exact ⟨t, fr, (hk _ (.inr (.inr (.inr (.inr rfl))))).trans hq⟩⟩
theorem SEnv.lt {w : World} {gk gc gn gm : Nat} {key nonce : List UInt8} {ctr : UInt32} {N : Nat} (h : SEnv w gk gc gn gm key nonce ctr N) : ∀ k, SEnvAt gk gc gn gm k → k < w.heap.size := by
  rintro k (rfl | rfl | rfl | rfl | rfl)
  · exact h.key.lt
  · exact h.ctr.lt
  · exact h.nonce.lt
  · exact h.count.lt
  · exact h.table.lt
theorem SEnv.below {w w' : World} {gk gc gn gm : Nat} {key nonce : List UInt8} {ctr : UInt32} {N : Nat} (h : SEnv w gk gc gn gm key nonce ctr N) (hb : Below w.heap.size w w') : SEnv w' gk gc gn gm key nonce ctr N :=
  h.kept (KeepsAt.of_below hb h.lt)

theorem SEnv.cells {w : World} {gk gc gn gm : Nat} {key nonce : List UInt8} {ctr : UInt32} {N : Nat} (h : SEnv w gk gc gn gm key nonce ctr N) :
    ∀ k, SEnvAt gk gc gn gm k → ∃ c t f, w.heap[k]? = some (.cells c t f) ∧ (k = 0 ∨ t ≠ 5) := by
  rintro k (rfl | rfl | rfl | rfl | rfl)
  · exact ⟨_, _, _, h.key, .inr (by decide)⟩
  · exact ⟨_, _, _, h.ctr, .inr (by decide)⟩
  · exact ⟨_, _, _, h.nonce, .inr (by decide)⟩
  · exact ⟨_, _, _, h.count, .inr (by decide)⟩
  · obtain ⟨t, fr, hq⟩ := h.table
    exact ⟨_, _, _, hq, .inl rfl⟩
theorem SEnv.grown {w w' : World} {gk gc gn gm : Nat} {key nonce : List UInt8} {ctr : UInt32} {N : Nat} {row : Option Nat} (h : SEnv w gk gc gn gm key nonce ctr N) (hg : w.grownBy w' row)
    (hr : ∀ r, row = some r → ∃ o : Obj, w.heap[r]? = some o ∧ o.isCells = false) : SEnv w' gk gc gn gm key nonce ctr N :=
  h.kept (KeepsAt.of_grown hg fun k hk => ⟨h.lt k hk, fun e => by
    obtain ⟨c, t, f, hc, _⟩ := h.cells k hk
    obtain ⟨o, ho, hf⟩ := hr k e.symm
    rw [hc] at ho
    cases ho
    simp [Obj.isCells] at hf⟩)
/-- Where a row of bytes grows that is the call's own, what was captured stays. -/
theorem SEnv.beside {w w' : World} {gk gc gn gm : Nat} {key nonce : List UInt8} {ctr : UInt32} {N base : Nat} {v : Value} {l : List UInt8} (h : SEnv w gk gc gn gm key nonce ctr N) (ho : OwnB w base 5 v l) (hq : 0 < base) (hg : w.grownBy w' v.ownBlock) : KeepsAt (SEnvAt gk gc gn gm) w w' :=
  KeepsAt.of_grown hg fun k hk => ⟨h.lt k hk, by
    obtain ⟨c, t, f, hc, ht⟩ := h.cells k hk
    rcases ht with rfl | ht
    · intro e
      have := ho.rows _ e.symm
      omega
    · exact ho.other hc ht⟩

theorem ctr_wrap (c : UInt32) (k : Nat) : IntKind.u32.wrap ((c.toNat : Int) + IntKind.u32.wrap (k : Int)) = ((c + UInt32.ofNat k).toNat : Int) := by
  rw [IntKind.wrap_u32, IntKind.wrap_u32, UInt32.toNat_add, UInt32.toNat_ofNat']
  omega

theorem Tryd.sizeN (l : List UInt8) (h : l.length = 12) : (Tryd.prog.info? 67).map (·.size) = some (keyC l).size := by
  rw [keyC_size, h]
  exact (by kernel_rfl : (Tryd.prog.info? 67).map (·.size) = some 12)

set_option maxHeartbeats 2000000 in
theorem blocks1_stops (n : Nat) (hn : 1 ≤ n) (gk gc gn gm : Nat) (key nonce : List UInt8) (ctr : UInt32) (N : Nat) (hk : key.length = 32) (hnn : nonce.length = 12) (hN : N ≤ 1000000) (w : World) (env : SEnv w gk gc gn gm key nonce ctr N) :
    SeqStopsK Fence.wide n Tryd.prog 50 #[.pointer (some ⟨gm, 0, none⟩), .pointer (some ⟨gk, 0, none⟩), .pointer (some ⟨gc, 0, none⟩), .pointer (some ⟨gn, 0, none⟩)]
      (fun x : Nat => #[keyV (blockS key (ctr + UInt32.ofNat x) nonce)]) (KeepsAt (SEnvAt gk gc gn gm)) (fun ys => ys = List.range N) (fun _ => True) N w := by
  intro l J Jx W hW hJ hJx hY h0
  have env0 : SEnv W gk gc gn gm key nonce ctr N := env.below hW
  have EV := Lib.hid env0
  have HK := Lib.hid hk
  have HN := Lib.hid hnn
  have HJ := Lib.hid hJ
  have HJX := Lib.hid hJx
  have HY := Lib.hid hY
  clear env hW hk hnn hJ hJx hY
  have cm := env0.count.cell
  clear env0
  refine callsIn_of_wp Tryd.func50 rfl trivial ?_ rfl
  simp only [Tryd.ntmps50, List.size_toArray, List.length_cons, List.length_nil, Nat.reduceAdd, Nat.reduceSub, Array.replicate_succ, Array.replicate_zero, List.push_toArray, List.append_toArray, List.nil_append, List.cons_append]
  gi_wp2
  clear cm
  gi_loopw [8] (fun i wr => ∃ k : Nat, k ≤ N ∧ i = .int .i64 k ∧ J (List.range k) wr ∧ SEnv wr gk gc gn gm key nonce ctr N) (fun i _ => N - (intOf i).toNat)
  case atStart => exact ⟨0, Nat.zero_le _, rfl, h0, EV.out⟩
  case round =>
    clear h0 EV
    obtain ⟨k, hkN, rfl, hJs, hev⟩ := hrel
    have EV := Lib.hid hev
    have HJs := Lib.hid hJs
    clear hev hJs
    by_cases hlt : k < N
    · have c1 := EV.out.ctr.cell
      have hcw := ctr_wrap ctr k
      gi_wp2_with (first
        | (with_reducible refine wideL_load_row (o := ⟨some 12, _, _, _, _, _⟩) rfl 23 (.tmp 2) rfl gk (by with_unfolding_all rfl) 23 (keyC key) (0, 0) (.array 32 5) (by with_unfolding_all exact EV.out.key) Tryd.underlying23 rfl (Tryd.sizeKey key HK.out) ?_)
        | (with_reducible refine wideL_load_row (o := ⟨some 17, _, _, _, _, _⟩) rfl 67 (.tmp 4) rfl gn (by with_unfolding_all rfl) 67 (keyC nonce) (0, 0) (.array 12 5) (by with_unfolding_all exact EV.out.nonce) Tryd.underlying67 rfl (Tryd.sizeN nonce HN.out) ?_))
      rw [show ((ctr.toNat : Int) + (k : Int)) % 4294967296 = ((ctr + UInt32.ofNat k).toNat : Int) by rw [← ctr_wrap, IntKind.wrap_u32, IntKind.wrap_u32]; omega]
      refine ⟨trivial, ?_⟩
      refine (callsIn_wide.2 (streamBlock_any _ EV.out.table key nonce (ctr + UInt32.ofNat k) HK.out HN.out)).mono ?_
      rintro e w2 ⟨rfl, b2⟩
      have ev2 := EV.out.below b2
      have hJ2 := HJ.out _ _ _ none HJs.out (grown_of_below b2) (fun r e => by cases e)
      have EV2 := Lib.hid ev2
      obtain ⟨fn, tmps, assign, body, hy, hR⟩ := HY.out _ k w2 hJ2 (by simp; omega)
      have HJ3 : Hid (List.range k ++ [k] = List.range (k + 1)) := List.range_succ.symm
      clear ev2 hJ2 b2 c1 hcw EV
      gi_wp2
      refine hR.mono ?_
      rintro e W3 (⟨rfl, hJ3, hk3⟩ | ⟨rfl, hJx3⟩)
      · have EV3 := Lib.hid (EV2.out.kept hk3)
        rw [HJ3.out] at hJ3
        have HJ4 := Lib.hid hJ3
        clear hJ3 hk3
        gi_wp2
        go_roundw
        case rel => exact ⟨k + 1, by omega, by go_num, HJ4.out, EV3.out⟩
        case measure => simp [intOf]; omega
      · gi_wp2
        refine bodyPost_ret (results_none rfl _ _ _) rfl ?_
        exact ⟨⟨_, rfl⟩, .inr ⟨_, trivial, hJx3⟩⟩
    · have hkN2 : k = N := by omega
      have HJ5 : Hid (J (List.range N) wr) := by rw [← hkN2]; exact HJs
      clear hkN2 HJs
      gi_wp2
      go_end0
      exact ⟨⟨_, rfl⟩, .inl ⟨_, rfl, HJ5.out⟩⟩

set_option maxHeartbeats 1000000 in
theorem blocks_any (w : World) (hq : Quar w) (key nonce : List UInt8) (ctr : UInt32) (N : Nat) (hk : key.length = 32) (hn : nonce.length = 12) :
    Calls Tryd.prog 35 #[keyV key, .int .u32 (ctr.toNat : Int), keyV nonce, .int .i64 (N : Int)] w fun e w' => ∃ gk gc gn gm : Nat,
      e = .returned (.func (.func 50) #[] #[.pointer (some ⟨gm, 0, none⟩), .pointer (some ⟨gk, 0, none⟩), .pointer (some ⟨gc, 0, none⟩), .pointer (some ⟨gn, 0, none⟩)]) ∧ SEnv w' gk gc gn gm key nonce ctr N ∧ (w.heap.size ≤ gk ∧ w.heap.size ≤ gc ∧ w.heap.size ≤ gn ∧ w.heap.size ≤ gm) ∧ Below w.heap.size w w' := by
  have HQ := Lib.hid hq
  clear hq
  go_enter Tryd.func35, Tryd.ntmps35
  go_wp2_with (first
    | ((with_reducible refine wpList_box_row (o := ⟨some 4, _, _, _, _, _⟩) rfl 23 (.tmp 0) rfl (keyC key) (by with_unfolding_all rfl) ?_); intro g1 w1 n1)
    | ((with_reducible refine wpList_box_row (o := ⟨some 6, _, _, _, _, _⟩) rfl 67 (.tmp 2) rfl (keyC nonce) (by with_unfolding_all rfl) ?_); intro g2 w2 n2))
  go_ret
  have z1 := n1.size
  have e1 := n1.spot
  have e2 := n2.spot
  have z2 := n2.size
  simp only [World.size_alloc] at e2 z2
  have b1 : Below w.heap.size w (w1.alloc (.cells #[.int .u32 (ctr.toNat : Int)] 48)) := n1.below.alloc n1.below.size _
  have b2 : Below w.heap.size w w2 := below_size b1 n2.below
  have b3 : Below w.heap.size w (w2.alloc (.cells #[.int .i64 (N : Int)] 3)) := b2.alloc b2.size _
  refine ⟨g1, w1.heap.size, g2, w2.heap.size, rfl, ⟨?_, ?_, ?_, ?_, HQ.out.below b3⟩, ⟨by omega, by omega, by omega, by omega⟩, b3⟩
  · exact ((n1.row.alloc _).kept n2.below).alloc _
  · exact (n2.below.block _ (by rw [World.size_alloc]; omega)).trans (Boxed.new w1 48 (.int .u32 (ctr.toNat : Int))) |> (Boxed.alloc · _)
  · exact n2.row.alloc _
  · exact Boxed.new w2 3 (.int .i64 (N : Int))

set_option maxHeartbeats 2000000 in
theorem Mix_own (w : World) (hq : Quar w) (key nonce text : List UInt8) (ctr : UInt32) (v : Value) (hb : Bs w v text) (hk : key.length = 32) (hn : nonce.length = 12) (hl : text.length ≤ 4000) :
    Calls Tryd.prog 25 #[keyV key, .int .u32 (ctr.toNat : Int), keyV nonce, v] w fun e w' => ∃ u, e = .returned (.tuple #[u, .int .i64 0]) ∧ OwnB w' w.heap.size 5 u (mixS key ctr nonce text) ∧ Below w.heap.size w w' := by
  obtain ⟨i0, hi, hz0, hz1, hz2⟩ := info_parts Tryd.infoB
  have HB := Lib.hid hb
  obtain ⟨A, c, rfl, h1, h2, h3⟩ := hb
  unfold maxLen at h2
  obtain ⟨N, hN⟩ : ∃ N, N = (text.length + 63) / 64 := ⟨_, rfl⟩
  have hNi : ((text.length : Int) + 64 - 1) / 64 = (N : Int) := by omega
  have hNi2 : ((text.length : Int) + 63) / 64 = (N : Int) := by omega
  have hNb : N ≤ 63 := by omega
  have HN := Lib.hid hN
  have HQ := Lib.hid hq
  have HKL := Lib.hid hk
  have HNL := Lib.hid hn
  clear h3 hq hk hn hN
  refine (callsIn_wide (n := 3)).1 ?_
  refine callsIn_of_wp_marks Tryd.func25 rfl trivial ?_ rfl
  simp only [Tryd.ntmps25, List.size_toArray, List.length_cons, List.length_nil, Nat.reduceAdd, Nat.reduceSub, Array.replicate_succ, Array.replicate_zero, List.push_toArray, List.append_toArray, List.nil_append, List.cons_append]
  refine wpIn_wide.2 ?_
  go_wp2_with (first
    | ((with_reducible refine wpList_box_row (o := ⟨some 4, _, _, _, _, _⟩) rfl 23 (.tmp 0) rfl (keyC key) (by with_unfolding_all rfl) ?_); intro g1 w1 n1)
    | ((with_reducible refine wpList_box_row (o := ⟨some 6, _, _, _, _, _⟩) rfl 67 (.tmp 2) rfl (keyC nonce) (by with_unfolding_all rfl) ?_); intro g2 w2 n2)
    | ((with_reducible refine wpList_make_own (o := ⟨some 17, _, _, _, _, _⟩) _ rfl (.const (.int .i64 0)) (.tmp 16) 24 rfl w.heap.size 5 i0 (.int .u8 0) 1 Tryd.underlying24 hi hz0 hz1 .i64 .i64 (text.length : Int) text.length (by with_unfolding_all rfl) (by with_unfolding_all rfl) rfl (by rw [hz2]; omega) (by unfold maxLen; omega) (by have := n1.below.size; have := n2.below.size; simp; omega) ?_); intro w3 hown hgrow; have hcx := fun o => (((Boxed.new w2 24 (.slice A text.length c)).kept hgrow (by simp)).alloc o).cell)
    | (with_reducible refine wpList_load_row (o := ⟨some 18, _, _, _, _, _⟩) rfl 23 (.tmp 4) rfl g1 (by with_unfolding_all rfl) 23 (keyC key) (0, 0) (.array 32 5) (by with_unfolding_all exact ((((n1.row.kept n2.below).alloc _).grown hgrow (by simp)).alloc _)) Tryd.underlying23 rfl (Tryd.sizeKey key HKL.out) ?_)
    | (with_reducible refine wpList_load_row (o := ⟨some 20, _, _, _, _, _⟩) rfl 67 (.tmp 6) rfl g2 (by with_unfolding_all rfl) 67 (keyC nonce) (0, 0) (.array 12 5) (by with_unfolding_all exact (((n2.row.alloc _).grown hgrow (by simp)).alloc _)) Tryd.underlying67 rfl (Tryd.sizeN nonce HNL.out) ?_))
  have BT0 := (Boxed.new w2 24 (.slice A text.length c)).kept hgrow (by simp)
  have z1 := n1.size
  have z2 := n2.size
  have e1 := n1.spot
  have e2 := n2.spot
  have hgs := hgrow.size
  rw [World.size_alloc] at hgs
  have B3 : Below w.heap.size w w3 := (below_size (below_size n1.below n2.below) ((Below.refl _ _).alloc (Nat.le_refl _) _)).trans (((Below.refl _ _).grown hgrow (Nat.le_refl _) (fun k h => by cases h)).mono (by rw [World.size_alloc]; omega))
  obtain ⟨gT, hgT⟩ : ∃ g, g = w2.heap.size := ⟨_, rfl⟩
  obtain ⟨gO, hgO⟩ : ∃ g, g = w3.heap.size := ⟨_, rfl⟩
  have BT := BT0.alloc (.cells #[.slice (some ⟨gT + 1, 0, none⟩) 0 text.length] 24)
  have BO := Boxed.new w3 24 (.slice (some ⟨gT + 1, 0, none⟩) 0 text.length)
  have OW : OwnB (w3.alloc (.cells #[.slice (some ⟨gT + 1, 0, none⟩) 0 text.length] 24)) w.heap.size 5 (.slice (some ⟨gT + 1, 0, none⟩) 0 text.length) (xorB text []) := by
    have : OwnB w3 w.heap.size 5 (.slice (some ⟨gT + 1, 0, none⟩) 0 text.length) (xorB text []) := by
      have e : xorB text [] = [] := by simp [xorB]
      rw [e, hgT]
      have h := hown
      rw [World.size_alloc] at h
      exact h
    exact this.alloc _
  have B4 := B3.alloc B3.size (.cells #[.slice (some ⟨gT + 1, 0, none⟩) 0 text.length] 24)
  rw [← hgT] at BT ⊢
  rw [← hgO] at BO ⊢
  have hTO : gT < gO := by omega
  have hwT : w.heap.size ≤ gT := by omega
  generalize w3.alloc (.cells #[.slice (some ⟨gT + 1, 0, none⟩) 0 text.length] 24) = w4 at BT BO OW B4 ⊢
  clear BT0 z1 z2 e1 e2 hgs B3 n1 n2 hcx hown hgrow hgT hgO
  refine (blocks_any _ (HQ.out.below B4) key nonce ctr N HKL.out HNL.out).mono ?_
  rintro e w5 ⟨gk, gc, gn, gm, rfl, env, ⟨hk1, hk2, hk3, hk4⟩, b5⟩
  have BT5 := BT.kept (grown_of_below b5) (by simp)
  have BO5 := BO.kept (grown_of_below b5) (by simp)
  have OW5 := OW.below b5
  have B5 := below_size B4 b5
  have ltT := BT.lt
  have ltO := BO.lt
  clear BT BO OW B4 b5
  go_wp2_with fail
  have EV := Lib.hid env
  have hEb : ∀ k, SEnvAt gk gc gn gm k → k < w5.heap.size := env.lt
  have hts : 0 < w.heap.size := HQ.out.lt
  have hE1 : ∀ k, SEnvAt gk gc gn gm k → k ≠ gO := by
    rintro k (rfl | rfl | rfl | rfl | rfl) <;> omega
  have HEB := Lib.hid hEb
  have HE1 := Lib.hid hE1
  clear hEb hE1 env
  refine (wpIn_wide (n := 3)).1 ?_
  refine wpIn_rangeFunc_ownH (F := Fence.wide) rfl (by omega) (gf := 50) (lb := #[.pointer (some ⟨gm, 0, none⟩), .pointer (some ⟨gk, 0, none⟩), .pointer (some ⟨gc, 0, none⟩), .pointer (some ⟨gn, 0, none⟩)]) rfl trivial (enters_of Tryd.func50 (by kernel_rfl) rfl)
    (blocks1_stops 2 (by omega) gk gc gn gm key nonce ctr N HKL.out HNL.out (by omega) w5 EV.out) keepsAt_t (keepsAt_b HEB.out) (Below.refl _ _) (fun _ => rfl)
    (fun pre W => (Boxed W gT 24 (.slice A text.length c) ∧ ∃ v, Boxed W gO 24 v ∧ OwnB W w.heap.size 5 v (xorB text (pre.flatMap fun x => blockS key (ctr + UInt32.ofNat x) nonce))) ∧ (Below w.heap.size w W ∧ w5.heap.size ≤ W.heap.size ∧ SEnv W gk gc gn gm key nonce ctr N))
    (fun _ _ _ => False)
    (OwnFrom.and (OwnFrom.and (Own.from (boxed_own _ _ _) _) (fun s X Y row hs hg hr => by obtain ⟨v, h1, h2⟩ := hs; exact ⟨v, boxed_row h1 hg (fun r e => (hr r e).2), h2.grown hg (fun r e => (hr r e).2)⟩)) (OwnFrom.and (ownFrom_below (Nat.le_refl _) B5.size) (OwnFrom.and (fun s X Y row hs hg hr => Nat.le_trans hs hg.size) (fun s X Y row hs hg hr => hs.grown hg (fun r e => (hr r e).2)))))
    (fun _ _ _ _ _ hs _ _ => hs)
    ⟨⟨BT5, _, BO5, OW5⟩, B5, Nat.le_refl _, EV.out⟩
    (fun x a' W => ∃ Bx, w5.heap.size ≤ Bx ∧ RowAt W Bx 75 (keyC (blockS key (ctr + UInt32.ofNat x) nonce)) ∧ a' = { tmps := #[keyV key, .int .u32 (ctr.toNat : Int), keyV nonce, .slice A text.length c, .pointer (some ⟨g1, 0, none⟩), undef, .pointer (some ⟨g2, 0, none⟩), .pointer (some ⟨gT, 0, none⟩), .slice none 0 0, .int .i64 0, .pointer (some ⟨gO, 0, none⟩), .pointer (some ⟨Bx, 0, none⟩), .slice A text.length c, .int .i64 (text.length : Int), .bool (decide (4000 < (text.length : Int))), .slice A text.length c, .int .i64 (text.length : Int), .slice (some ⟨gT + 1, 0, none⟩) 0 text.length, .agg (keyC key), .int .u32 (ctr.toNat : Int), .agg (keyC nonce), .slice A text.length c, .int .i64 (text.length : Int), .int .i64 ((text.length : Int) + 64), .int .i64 ((text.length : Int) + 64 - 1), .int .i64 (N : Int), .func (.func 50) #[] #[.pointer (some ⟨gm, 0, none⟩), .pointer (some ⟨gk, 0, none⟩), .pointer (some ⟨gc, 0, none⟩), .pointer (some ⟨gn, 0, none⟩)], keyV (blockS key (ctr + UInt32.ofNat x) nonce), undef, undef, undef, undef, undef, undef, undef, undef, undef], defers := [] })
    (fun x a' _ X Y row hs hg hr => by
      obtain ⟨Bx, h1, h2, h3⟩ := hs
      refine ⟨Bx, h1, h2.grown hg (fun e => ?_), h3⟩
      obtain ⟨_, o, ho, hc⟩ := hr Bx e.symm
      rw [show X.heap[Bx]? = _ from h2] at ho
      cases ho
      simp [Obj.isCells] at hc)
    ?assign ?body ?done ?stop
  case assign =>
    rintro l pre x W K ⟨⟨hT, v, hO, hW⟩, hB, hsz, hEnv⟩ hK
    gi_wp2_with (first
      | ((with_reducible refine roundL_alloc_row (o := ⟨some 11, _, _, _, _, _⟩) rfl 75 rfl (keyC zero64B) Tryd.zero64B ?_); intro gx wx nx)
      | ((with_reducible refine roundL_store_row (o := ⟨none, _, _, _, _, _⟩) rfl 75 (.tmp 11) (.tmp 27) rfl gx 75 _ (keyC (blockS key (ctr + UInt32.ofNat x) nonce)) (by with_unfolding_all rfl) (by with_unfolding_all rfl) nx.row (keyC_sameN zero64B_length (blockS_length _ _ _)) (Tryd.size64B _ (blockS_length _ _ _)) (keyC_one _) ?_); intro wy py))
    obtain ⟨hb, hko⟩ := laid_put nx py
    exact hK _ _ (hko.from _) (KeepsAt.of_below hb (fun k hk => Nat.lt_of_lt_of_le (HEB.out k hk) hsz))
      ⟨⟨hT.kept (grown_of_below hb) (by simp), v, hO.kept (grown_of_below hb) (by simp), hW.below hb⟩, below_size hB hb, Nat.le_trans hsz hb.size, hEnv.below hb⟩
      ⟨gx, by rw [nx.spot]; exact hsz, py.row, rfl⟩
  case body =>
    rintro l pre x a' W hl hrec ⟨⟨hT, v, hO, hW⟩, hB, hsz, hEnv⟩ ⟨Bx, hBx, hRow, rfl⟩ hlt
    obtain ⟨AO, cO, rfl, hv1, hv2⟩ := hW.shape
    obtain ⟨nz, hnz⟩ : ∃ nz, nz = pre.flatMap fun x => blockS key (ctr + UInt32.ofNat x) nonce := ⟨_, rfl⟩
    obtain ⟨bk, hbk⟩ : ∃ bk, bk = blockS key (ctr + UInt32.ofNat x) nonce := ⟨_, rfl⟩
    have hbl : bk.length = 64 := by rw [hbk, blockS_length]
    have hnz2 : (pre ++ [x]).flatMap (fun x => blockS key (ctr + UInt32.ofNat x) nonce) = nz ++ bk := by rw [List.flatMap_append, hnz, hbk]; simp
    rw [← hnz] at hW hv1 hO
    rw [← hbk] at hRow
    have HNZ2 := Lib.hid hnz2
    have HBL := Lib.hid hbl
    have hlo : (xorB text nz).length ≤ text.length := by rw [xorB_length]; exact Nat.min_le_left _ _
    clear hnz hnz2 hbl hbk
    gi_wp2
    obtain ⟨ko, hko⟩ : ∃ ko, ko = (xorB text nz).length := ⟨_, rfl⟩
    have HKO := Lib.hid hko
    rw [← hko] at hO hv1 hlo hW
    clear hko
    refine round_region (S := fun W' => Boxed W' gT 24 (.slice A text.length c) ∧ Boxed W' gO 24 (.slice AO ko cO)) (fin := fun j => j == 8) (by kernel_rfl) (by kernel_rfl) (by rintro ⟨_, _, h⟩; exact h) ?_
    have hS : Boxed W.drew gT 24 (.slice A text.length c) ∧ Boxed W.drew gO 24 (.slice AO ko cO) := ⟨hT, hO⟩
    change walkS _ _ _ _ _ _ 9 _ _ _
    refine walkS_take (i := 0) (v := .slice AO ko cO) rfl (by kernel_rfl) (by kernel_rfl) (fun _ _ _ h => h) _ _ _ _ (by kernel_rfl) (by kernel_rfl) (Or.inl ⟨by rfl, fun w' hS' => ?_⟩) hS ?_
    · have c1 := hS'.2.cell
      clear hS' hS hrec hT hO hRow hEnv
      go_simp
    simp only [Act.put, List.setIfInBounds_toArray]
    refine walkS_take (i := 1) (v := .slice A text.length c) rfl (by kernel_rfl) (by kernel_rfl) (fun _ _ _ h => h) _ _ _ _ (by kernel_rfl) (by kernel_rfl) (Or.inl ⟨by rfl, fun w' hS' => ?_⟩) hS ?_
    · have c1 := hS'.1.cell
      clear hS' hS hrec hT hO hRow hEnv
      go_simp
    simp only [Act.put]
    refine walkS_take (i := 2) (v := .slice AO ko cO) rfl (by kernel_rfl) (by kernel_rfl) (fun _ _ _ h => h) _ _ _ _ (by kernel_rfl) (by kernel_rfl) (Or.inl ⟨by rfl, fun w' hS' => ?_⟩) hS ?_
    · have c1 := hS'.2.cell
      clear hS' hS hrec hT hO hRow hEnv
      go_simp
    simp only [Act.put]
    refine walkS_take (i := 3) (v := .int .i64 (ko : Int)) rfl (by kernel_rfl) (by kernel_rfl) (fun _ _ _ h => h) _ _ _ _ (by kernel_rfl) (by kernel_rfl) (Or.inl ⟨by rfl, fun w' hS' => ?_⟩) hS ?_
    · clear hS' hS hrec hT hO hRow hEnv
      go_simp
    simp only [Act.put]
    refine walkS_take (i := 4) (v := .slice (if c = ko then A else Option.map (fun x => x.add ko) A) (text.length - ko) (c - ko)) rfl (by kernel_rfl) (by kernel_rfl) (fun _ _ _ h => h) _ _ _ _ (by kernel_rfl) (by kernel_rfl) (Or.inl ⟨by rfl, fun w' hS' => ?_⟩) hS ?_
    · clear hS' hS hrec hT hO hRow hEnv
      go_simp
    simp only [Act.put]
    refine walkS_take (i := 5) (v := .slice (some ⟨Bx, 0, none⟩) 64 64) rfl (by kernel_rfl) (by kernel_rfl) (fun _ _ _ h => h) _ _ _ _ (by kernel_rfl) (by kernel_rfl) (Or.inl ⟨by rfl, fun w' hS' => ?_⟩) hS ?_
    · clear hS' hS hrec hT hO hRow hEnv
      go_simp
    simp only [Act.put]
    refine walkS_only (i := 6) (by kernel_rfl) rfl rfl fun K hK => ?_
    have HT0 := Lib.hid (HB.out.below hB)
    have HX1 := Lib.hid (HT0.out.cut ko hlo)
    have HX2 := Lib.hid (arr_bs hRow 64 HBL.out (by omega))
    go_simp
    refine (Xor_any _ _ _ _ _ HX1.out.drew HX2.out.drew (by rw [List.length_drop]; omega) (by rw [HBL.out]; omega)).mono ?_
    rintro e W1 ⟨u, rfl, hu, b1⟩
    have b1' : Below W.heap.size W W1 := below_size (Below.refl _ _).drew b1
    have hT1 : Boxed W1 gT 24 (.slice A text.length c) := hT.kept (grown_of_below b1') (by simp)
    have hO1 : Boxed W1 gO 24 (.slice AO ko cO) := hO.kept (grown_of_below b1') (by simp)
    refine hK _ _ (.inr ⟨hT1, hO1⟩) ?_
    clear hK K
    refine walkS_only (i := 7) (by kernel_rfl) rfl rfl fun K hK => ?_
    have hsz1 := b1'.size
    have hwsz := hB.size
    refine wp_appG (.tmp 28) (.tmp 34) 24 rfl w.heap.size 5 Tryd.infoB Tryd.underlying24 _ _ (xorB text nz) _ rfl rfl (hW.below b1') hu (by rw [xorB_length, xorB_length, List.length_drop, HBL.out]; omega) (by omega) ?_
    intro v' W2 hW2 hg2
    have hne := (hW.below b1').other (show W1.heap[gO]? = _ from hO1) (by decide)
    have hneT := (hW.below b1').other (show W1.heap[gT]? = _ from hT1) (by decide)
    have hO2 : Boxed W2 gO 24 (.slice AO ko cO) := hO1.kept hg2 hne
    have hT2 : Boxed W2 gT 24 (.slice A text.length c) := hT1.kept hg2 hneT
    refine hK _ _ (.inr ⟨hT2, hO2⟩) ?_
    clear hK K
    refine walkS_only (i := 8) (by kernel_rfl) rfl rfl fun K hK => ?_
    have c2 := hO2.cell
    have f2 := hO2.frozen
    obtain ⟨A2, cc2, rfl, _, _⟩ := hW2.shape
    obtain ⟨m, hm⟩ : ∃ m, m = (xorB text nz ++ xorB (text.drop ko) bk).length := ⟨_, rfl⟩
    rw [← hm] at hW2 ⊢
    clear hm
    have E1 := hEnv.below b1'
    have hkw2 : KeepsOthers W1 W2 := KeepsOthers.of_grownBy hg2 (fun j o ej hj => by
      obtain ⟨cur, hc⟩ := (hW.below b1').spot ej
      rw [hj] at hc
      cases hc
      rfl)
    have hka2 := E1.beside (hW.below b1') hts hg2
    have hbel2 : Below w.heap.size W1 W2 := (Below.refl _ _).grown hg2 (by omega) (hW.below b1').rows
    have E2 := E1.kept hka2
    have hsz2 := hg2.size
    have HKW := Lib.hid hkw2
    have HKA := Lib.hid hka2
    have HBEL := Lib.hid hbel2
    have HE2 := Lib.hid E2
    have HE3 := Lib.hid E1
    have HB1 := Lib.hid b1'
    have HW2 := Lib.hid hW2
    have HT2 := Lib.hid hT2
    have HO2 := Lib.hid hO2
    clear hkw2 hka2 hbel2 E2 E1 b1' hW2 hT2 hO2 b1 hT hO hRow hEnv hrec hS hu hT1 hO1 hg2 hne hneT hW BT5 BO5 OW5
    go_simp
    refine hK _ _ (.inl rfl) ?_
    refine walkS_done (by kernel_rfl) ?_ _
    have hgs := grownBy_setCell' W2 gO (.slice A2 m cc2)
    have hks : KeepsAt (SEnvAt gk gc gn gm) W2 (W2.setCell ⟨gO, 0, none⟩ (.slice A2 m cc2)) :=
      KeepsAt.of_grown hgs (fun k hk => ⟨HE2.out.lt k hk, by intro e; injection e with e; exact HE1.out k hk e⟩)
    have hxn : xorB text nz ++ xorB (text.drop ko) bk = xorB text (nz ++ bk) := by rw [HKO.out]; exact (xorB_next _ _ _).symm
    refine ⟨?_, ?_, ⟨?_, _, HO2.out.set _, ?_⟩, ?_, ?_, ?_⟩
    · exact (((KeepsOthers.of_below HB1.out).trans HKW.out).trans (KeepsOthers.setCell _ _ _)).from _
    · exact ((KeepsAt.of_below HB1.out (fun k hk => Nat.lt_of_lt_of_le (HEB.out k hk) hsz)).trans HKA.out).trans hks
    · exact HT2.out.other (by omega) _
    · rw [HNZ2.out, ← hxn]
      exact World.ownsRow.kept HW2.out hgs (.inr fun e => HW2.out.other (show W2.heap[gO]? = _ from HO2.out) (by decide) e.symm)
    · exact ((hB.trans (HB1.out.mono hwsz)).trans HBEL.out).setCell (by show w.heap.size ≤ gO; omega) _
    · have := HB1.out.size
      simp
      omega
    · exact HE2.out.kept hks
  case done =>
    rintro D xs W hD rfl ⟨⟨hT, v, hO, hW⟩, hB, hsz, hEnv⟩ hK
    rw [noise_flat] at hW
    have hmix := mixS_more key ctr nonce text N (by rw [HN.out]; exact Nat.le_refl _)
    rw [hmix] at hW
    have c1 := hO.cell
    have HW := Lib.hid hW
    have HB5 := Lib.hid hB
    clear hW hB hmix hT hO hEnv
    go_wp2
    refine ⟨by simp, .inl ⟨_, _, rfl, run_takeDeferred hK, ?_⟩⟩
    have hD2 : ∀ r, some D = some r → ∃ o : Obj, W.heap[r]? = some o ∧ o.isCells = false := by
      rintro r e
      cases e
      exact ⟨_, hK, rfl⟩
    exact ⟨_, results_tmp2 rfl _ _ _, v, rfl, HW.out.grown (grownBy_putObj' W D _) hD2, HB5.out.trans (belowK_b (w := w) (Nat.le_refl _) W D _ _ (by have := B5.size; omega) hK rfl rfl)⟩
  case stop =>
    rintro D c pre W _ _ h _
    exact h.elim

theorem Mix_ok (w : World) (hq : Quar w) (key nonce text : List UInt8) (ctr : UInt32) (v : Value) (hb : Bs w v text) (hk : key.length = 32) (hn : nonce.length = 12) (hl : text.length ≤ 4000) :
    Calls Tryd.prog 25 #[keyV key, .int .u32 (ctr.toNat : Int), keyV nonce, v] w fun e w' => ∃ u, e = .returned (.tuple #[u, .int .i64 0]) ∧ Bs w' u (mixS key ctr nonce text) ∧ Below w.heap.size w w' :=
  (Mix_own w hq key nonce text ctr v hb hk hn hl).mono fun _ _ ⟨u, he, ho, hb⟩ => ⟨u, he, ho.bs, hb⟩

set_option maxHeartbeats 1000000 in
theorem Mix_long (w : World) (key nonce text : List UInt8) (ctr : UInt32) (v : Value) (hb : Bs w v text) (hl : 4000 < text.length) :
    Calls Tryd.prog 25 #[keyV key, .int .u32 (ctr.toNat : Int), keyV nonce, v] w fun e w' => ∃ u, e = .returned (.tuple #[u, .int .i64 2]) ∧ Bs w' u [] ∧ Below w.heap.size w w' := by
  obtain ⟨A, c, rfl, h1, h2, h3⟩ := hb
  unfold maxLen at h2
  have hd : decide (4000 < (text.length : Int)) = true := by simp; omega
  clear h3
  go_enter Tryd.func25, Tryd.ntmps25
  go_wp2_with (first
    | ((with_reducible refine wpList_box_row (o := ⟨some 4, _, _, _, _, _⟩) rfl 23 (.tmp 0) rfl (keyC key) (by with_unfolding_all rfl) ?_); intro g1 w1 n1)
    | ((with_reducible refine wpList_box_row (o := ⟨some 6, _, _, _, _, _⟩) rfl 67 (.tmp 2) rfl (keyC nonce) (by with_unfolding_all rfl) ?_); intro g2 w2 n2))
  go_ret2
  exact ⟨_, rfl, Bs.nil _, (below_size n1.below n2.below).alloc (by have := n1.below.size; have := n2.below.size; omega) _⟩
end Go.Proofs.YtjdbjgaoeijmfaaDoor
end
section
namespace Go.Proofs.YtjdbjgaoeijmfaaDoor
open Go.RowKit

theorem mix_any (w : World) (hq : Quar w) (key nonce text : List UInt8) (ctr : UInt32) (v : Value) (hb : Bs w v text) (hk : key.length = 32) (hn : nonce.length = 12) :
    Calls Tryd.prog 25 #[keyV key, .int .u32 (ctr.toNat : Int), keyV nonce, v] w fun e w' => ∃ u, e = .returned (.tuple #[u, .int .i64 (if text.length ≤ 4000 then 0 else 2)]) ∧ Bs w' u (if text.length ≤ 4000 then mixS key ctr nonce text else []) ∧ Below w.heap.size w w' := by
  by_cases h : text.length ≤ 4000
  · rw [if_pos h, if_pos h]
    exact Mix_ok w hq key nonce text ctr v hb hk hn h
  · rw [if_neg h, if_neg h]
    exact Mix_long w key nonce text ctr v hb (by omega)
end Go.Proofs.YtjdbjgaoeijmfaaDoor
end
