/-
  Texts that belong together, merged: EpcG, Keys, AllocB, Kl, RowN, EpcH, Open, OpenRx, OpenKl, EpcOpen. Conditions: as each theorem names them.
-/
import Derived.Test.YthipdfmaaeoijaaQEpcAK
import Derived.Test.YthipdfmaaeoijaaQEpcAB
import Derived.Test.YthipdfmaaeoijaaQEpcAF
import Derived.Great.BuildSlice
import Derived.Below
import Derived.Laws.Cover3
import Derived.Test.YthipdfmaaeoijaaQEpcAA
import Derived.Laws.Tables
import Derived.Test.YthipdfmaaeoijaaQEpcAE
import Derived.Lib.LaidTab
import Derived.Deep.DeepHandedRow
import Derived.OpenShut
import Derived.ChangeArms
import Derived.Deep.MidRow
section
namespace Go.Proofs.Ythipdfmaaeoijaa
open Go.RowKit
set_option linter.unusedVariables false
set_option maxRecDepth 20000

theorem Us.cell {w : World} {v : Value} {l : List Nat} (h : Us w v l) (hl : 0 < l.length) : ∃ g c, v = .slice (some ⟨g, 0, none⟩) l.length c ∧ ∀ (j : Nat) (hj : j < l.length), w.cell? ⟨g, j, none⟩ = some (.int .u32 ((l[j] : Nat) : Int)) := by
  obtain ⟨A, c, hv, _, h0⟩ := h
  obtain ⟨g, hA, hc⟩ := h0 hl
  exact ⟨g, c, by rw [hv, hA], fun j hj => by rw [hc j hj, cellsU_get l j hj]⟩
set_option maxHeartbeats 2000000 in
theorem numbers_same (w : World) (a b : Value) (l : List Nat) (ha : Us w a l) (hb : Us w b l) (h0 : 0 < l.length) (hl : l.length ≤ 1000000) :
    Calls Try.prog 13 #[a, b] w (RetV w (.bool true)) := by
  obtain ⟨ga, ca, rfl, hca⟩ := ha.cell h0
  obtain ⟨gb, cb, rfl, hcb⟩ := hb.cell h0
  have hcab : ∀ (j : Nat), j < l.length → ∃ x : Nat, w.cell? ⟨ga, j, none⟩ = some (.int .u32 (x : Int)) ∧ w.cell? ⟨gb, j, none⟩ = some (.int .u32 (x : Int)) := fun j hj => ⟨_, hca j hj, hcb j hj⟩
  clear hca hcb ha hb h0
  obtain ⟨N, hN⟩ : ∃ N, N = l.length := ⟨_, rfl⟩
  rw [← hN] at hcab hl ⊢
  have HCA := Lib.hid hcab
  clear hN hcab
  go_enter Try.func13, Try.ntmps13
  go_wp2
  go_loopw [5] (fun i wr => ∃ j q : Nat, i = .int .i64 (j : Int) ∧ j ≤ N ∧ wr = w.drewN q) (fun i _ => N - (intOf i).toNat)
  case atStart => exact ⟨0, 0, rfl, Nat.zero_le _, rfl⟩
  case round =>
    obtain ⟨j, q, rfl, hj, hw⟩ := hrel
    by_cases hlt : j < N
    · obtain ⟨x, c1, c2⟩ := HCA.out j hlt
      have d1 : wr.cell? ⟨ga, j, none⟩ = some (.int .u32 (x : Int)) := by rw [hw]; exact c1
      have d2 : wr.cell? ⟨gb, j, none⟩ = some (.int .u32 (x : Int)) := by rw [hw]; exact c2
      have hltI : (j : Int) < (N : Int) := by omega
      have HW := Lib.hid hw
      clear c1 c2 hw
      go_wp2
      go_quiet (fail)
      go_wp2
      go_roundw
      case rel => exact ⟨j + 1, q + nq, by go_num, by omega, by rw [HW.out]; simp [World.drewN, Nat.add_assoc]⟩
      case measure => simp [intOf]; omega
    · have hge : ¬ (j : Int) < (N : Int) := by omega
      go_wp2
      go_ret
      exact ⟨rfl, below_drewN (Below.refl _ _) _⟩

def epK (x : UInt8) : List UInt8 := x :: List.replicate 31 0
theorem epK_length (x : UInt8) : (epK x).length = 32 := by simp [epK]
theorem Try.builtK1 : Try.prog.built 32 [(0, .int .u8 1)] = some (keyC (epK 1)) := by kernel_rfl
theorem Try.builtK2 : Try.prog.built 32 [(0, .int .u8 2)] = some (keyC (epK 2)) := by kernel_rfl
theorem Try.builtK3 : Try.prog.built 32 [(0, .int .u8 3)] = some (keyC (epK 3)) := by kernel_rfl
theorem Us.lit1 (w : World) (x : Nat) : Us (w.alloc (.cells #[.int .u32 (x : Int)] 22)) (.slice (some ⟨w.heap.size, 0, none⟩) 1 1) [x] := by
  refine ⟨_, 1, rfl, (by decide : 1 ≤ maxLen), fun _ => ⟨_, rfl, fun j hj => ?_⟩⟩
  obtain rfl : j = 0 := by simp at hj; exact hj
  exact (RowAt.new w 22 #[.int .u32 (x : Int)]).cell 0

set_option maxHeartbeats 4000000 in
theorem epochsAwake_any (w : World) : Calls Try.prog 6 #[] w (RetV w (.bool true)) := by
  have E0 := Lib.hid (EnvM.start w)
  obtain ⟨k1, hk1⟩ : ∃ k, k = epK 1 := ⟨_, rfl⟩
  obtain ⟨k2, hk2⟩ : ∃ k, k = epK 2 := ⟨_, rfl⟩
  obtain ⟨k3, hk3⟩ : ∃ k, k = epK 3 := ⟨_, rfl⟩
  have L1 : Hid (k1.length = 32) := by show _ = _; rw [hk1]; exact epK_length _
  have L2 : Hid (k2.length = 32) := by show _ = _; rw [hk2]; exact epK_length _
  have L3 : Hid (k3.length = 32) := by show _ = _; rw [hk3]; exact epK_length _
  have B1 := Try.builtK1
  have B2 := Try.builtK2
  have B3 := Try.builtK3
  rw [← hk1] at B1
  rw [← hk2] at B2
  rw [← hk3] at B3
  have HB1 := Lib.hid B1
  have HB2 := Lib.hid B2
  have HB3 := Lib.hid B3
  clear hk1 hk2 hk3 B1 B2 B3
  go_enter Try.func6, Try.ntmps6
  go_wp2_with (first
    | (with_reducible refine wpList_build0 (o := ⟨some 9, _, _, _, _, _⟩) rfl 28 rfl #[.map none, .int .u32 0] Try.builtT ?_)
    | ((with_reducible refine wpM_box (o := ⟨some 10, _, _, _, _, _⟩) rfl 28 (.tmp 9) rfl #[.map none, .int .u32 0] (by with_unfolding_all rfl) E0.out ?_); intro b w1 q1; have T1 := Lib.hid (Tbl.made (rs := []) q1); clear q1)
    | (with_reducible refine wpList_val (o := ⟨some 12, _, _, _, _, _⟩) rfl (.agg (keyC k1)) (run_builtOp 32 #[(0, .const (.int .u8 1))] rfl (keyC k1) (by with_unfolding_all exact HB1.out)) ?_))
  refine (T1.out.born 3 k1 L1.out (by simp) (.inl rfl) (by simp)).mono ?_
  rintro e w2 ⟨rfl, q2⟩
  have T2 := Lib.hid (show Tbl w [] [] b [(3, k1)] 3 w2 from q2)
  clear q2 T1
  go_wp2_with (first
    | (with_reducible refine wpList_val (o := ⟨some 15, _, _, _, _, _⟩) rfl (.agg (keyC k2)) (run_builtOp 32 #[(0, .const (.int .u8 2))] rfl (keyC k2) (by with_unfolding_all exact HB2.out)) ?_))
  refine (T2.out.born 4 k2 L2.out (by simp) (.inr (by decide)) (by simp)).mono ?_
  rintro e w3 ⟨rfl, q3⟩
  have T3 := Lib.hid (show Tbl w [] [] b [(3, k1), (4, k2)] 4 w3 from q3)
  clear q3 T2
  go_wp2_with (first
    | (with_reducible refine wpList_val (o := ⟨some 18, _, _, _, _, _⟩) rfl (.agg (keyC k3)) (run_builtOp 32 #[(0, .const (.int .u8 3))] rfl (keyC k3) (by with_unfolding_all exact HB3.out)) ?_))
  refine (T3.out.bornArg 6 k3 L3.out (by simp) (by simp) (by decide)).mono ?_
  rintro e w4 ⟨rfl, q4⟩
  have T4 := Lib.hid q4
  clear q4 T3
  go_wp2_with fail
  refine (T4.out.erase 9 (by simp) (by simp) (by simp)).mono ?_
  rintro e w5 ⟨rfl, q5⟩
  have hf : ([(3, k1), (4, k2)] : List (Nat × List UInt8)).filter (fun p => !dead 9 4 p.1) = [(4, k2)] := by simp [dead]
  rw [hf] at q5 ⊢
  have T5 := Lib.hid q5
  clear q5 T4 hf
  simp only [List.length_cons, List.length_nil]
  go_wp2_with fail
  refine (T5.out.ids (by simp)).mono ?_
  rintro e w6 ⟨v, s, rfl, ⟨hp, _⟩, hO, hB⟩
  obtain rfl : s = [4] := List.perm_singleton.1 hp
  have T6 := Lib.hid (T5.out.call hB)
  have U6 := Lib.hid hO.us
  obtain ⟨A, c, rfl⟩ := hO.shape
  clear hp hO hB T5
  go_wp2_with fail
  refine (T6.out.pubOf 3).mono ?_
  rintro e w7 ⟨rfl, hB⟩
  have T7 := Lib.hid (T6.out.call hB)
  have U7 := Lib.hid (U6.out.below hB)
  clear hB T6 U6
  have hkn : kAt 3 [(4, k2)] = none := rfl
  simp only [hkn, eCode, Option.map_none, Option.getD_none, Option.isSome_none, Bool.false_eq_true, if_false]
  clear hkn
  go_wp2_with (first
    | ((with_reducible refine wpList_alloc_row (o := ⟨some 7, _, _, _, _, _⟩) rfl 32 rfl (keyC zeroKey) Try.zeroK ?_); intro g w8 n8; have T8 := Lib.hid (T7.out.new n8); have N8 := Lib.hid n8; clear n8)
    | ((with_reducible refine wpList_store_row (o := ⟨none, _, _, _, _, _⟩) rfl 32 (.tmp 7) (.tmp 27) rfl g 32 (keyC zeroKey) (keyC zeroKey) (by with_unfolding_all rfl) (by with_unfolding_all rfl) (T8.out.row (i := 0) rfl) rfl (Try.sizeKey _ zeroKey_length) (keyC_one _) ?_); intro w9 p9; have T9 := Lib.hid (T8.out.put (i := 0) rfl p9); have B9 := Lib.hid (p9.below N8.out.below N8.out.below.size (by rw [N8.out.spot]; exact Nat.le_refl _)); have U9 := Lib.hid (U7.out.below B9.out); clear p9))
  refine (numbers_same _ _ _ [4] (U9.out.below ((Below.refl _ _).alloc (Nat.le_refl _) _)) (Us.lit1 w9 4) (by simp) (by simp)).mono ?_
  rintro e w10 ⟨rfl, hB⟩
  have T10 := Lib.hid ((T9.out.call ((Below.refl _ _).alloc (Nat.le_refl _) _)).call hB)
  clear hB
  go_wp2
  go_ret
  exact ⟨rfl, T10.out.below⟩
end Go.Proofs.Ythipdfmaaeoijaa
end
section
namespace Go.Proofs.Ythipdfmaaeoijaa
open Go.RowKit
set_option linter.unusedVariables false

theorem flat_length (ls : List (List UInt8)) (h : ∀ l ∈ ls, l.length = 32) : ls.flatten.length = ls.length * 32 := by
  induction ls with
  | nil => rfl
  | cons l ls ih =>
    rw [List.flatten_cons, List.length_append, h l List.mem_cons_self, ih fun m hm => h m (List.mem_cons_of_mem _ hm), List.length_cons, Nat.add_mul]
    omega
theorem flat_part (ls : List (List UInt8)) (h : ∀ l ∈ ls, l.length = 32) : ∀ (k : Nat) (l : List UInt8), ls[k]? = some l → (ls.flatten.drop (k * 32)).take 32 = l := by
  induction ls with
  | nil => intro k l hk; cases hk
  | cons m ls ih =>
    intro k l hk
    have hm := h m List.mem_cons_self
    cases k with
    | zero =>
      obtain rfl : m = l := by simpa using hk
      rw [List.flatten_cons, Nat.zero_mul, List.drop_zero, List.take_left' hm]
    | succ k =>
      rw [List.flatten_cons, List.drop_append, List.drop_of_length_le (by omega), List.nil_append, show (k + 1) * 32 - m.length = k * 32 by omega]
      exact ih (fun x hx => h x (List.mem_cons_of_mem _ hx)) k l (by simpa using hk)
theorem keys_part (ls : List (List UInt8)) (h : ∀ l ∈ ls, l.length = 32) (k : Nat) (l : List UInt8) (hk : ls[k]? = some l) : ((keyC ls.flatten).toList.drop (k * 32)).take (cellsB l).length = cellsB l := by
  have hl : l.length = 32 := h l (List.mem_of_getElem? hk)
  have e : (keyC ls.flatten).toList = cellsB ls.flatten := by simp [keyC]
  rw [e, cellsB_length, hl]
  unfold cellsB
  rw [← List.map_drop, ← List.map_take, flat_part ls h k l hk]
theorem keys_flat : ∀ ls : List (List UInt8), ((ls.map fun l => Value.agg (keyC l)).flatMap fun v => v.cells.toList).toArray = keyC ls.flatten := by
  intro ls
  have key : ((ls.map fun l => Value.agg (keyC l)).flatMap fun v => v.cells.toList) = cellsB ls.flatten := by
    induction ls with
    | nil => rfl
    | cons l ls ih =>
      rw [List.map_cons, List.flatMap_cons, ih, List.flatten_cons]
      simp [Value.cells, keyC, cellsB]
  rw [key]
  rfl

section
variable {P : Program} {w0 w : World} {rs : List (Nat × TypeId × Array Value)} {ops : Array Oper} {rest : List Oper} {o : Oper} {a : Act} {Q : Exit → Act → World → Prop}
/-- A slice of keys is built. -/
theorem wpE_buildKeys (hgd : o.guard = none) (ty e : TypeId) (len : Nat) (parts : Array (Nat × Operand)) (ho : o.op = .buildSlice ty len parts) (ls : List (List UInt8)) (hl : ∀ l ∈ ls, l.length = 32) (hlen : ls.length = len) (hpos : 0 < len) (hsm : len * 32 ≤ 2 ^ 24)
    (hp : (parts.map fun (i, x) => (i, a.eval x)).toList = ((ls.map fun l => Value.agg (keyC l)).zipIdx 0).map fun x => (x.2, x.1))
    (hu : P.underlying ty = some (.slice e)) (hsz : (P.info? e).map (·.size) = some 32) (z : Array Value) (hz : (P.info? e).map (·.zero) = some (some (.agg z)))
    (hE : Env w0 rs w) (h : ∀ g w', Env w0 ((g, e, keyC ls.flatten) :: rs) w' → wpList P ops Q rest (a.put o.dst (.slice (some ⟨g, 0, none⟩) len len)) w') : wpList P ops Q (o :: rest) a w := by
  obtain ⟨ie, hie, hs⟩ := Option.map_eq_some_iff.1 hsz
  obtain ⟨ie2, hie2, hz2⟩ := Option.map_eq_some_iff.1 hz
  obtain rfl : ie = ie2 := by rw [hie] at hie2; exact Option.some.inj hie2
  refine wpList_buildSlice hgd ty e len parts ho (keyC ls.flatten) ie (.agg z) hu hie hz2 (by rw [hs]; omega) (by rw [hs]; omega) ?_ (h _ _ (hE.new (NewRow.mk_ w e _)))
  rw [hp, hs, ← keys_flat ls]
  refine Great.fill_whole (by omega) _ _ (fun v hv => ?_) (by simp [hlen])
  obtain ⟨l, hm, rfl⟩ := List.mem_map.1 hv
  simp [Value.cells, keyC_size, hl l hm]
/-- The address of a slice's key. -/
theorem run_keyAddr (ty e : TypeId) (x y : Operand) (ho : o.op = .indexAddr ty x y) (g n c k : Nat) (hx : a.eval x = .slice (some ⟨g, 0, none⟩) n c) (hy : a.eval y = .int .i64 (k : Int)) (hk : k < n)
    (hu : P.underlying ty = some (.slice e)) (hs : (P.info? e).map (·.size) = some 32) : (execOp a.eval o).run P w = .ok (.value (.pointer (some ⟨g, k * 32, none⟩))) w := by
  obtain ⟨f, hf, hz⟩ := Option.map_eq_some_iff.1 hs
  unfold execOp
  simp only [ho, hx, hy]
  simp [Instr.indexAt, asIntOf, run_underlying hu, sizeOf, typeInfo, hf, hz, hk, Addr.add, go_sem]
  exact fun h0 => h0.symm
/-- A slice's key is read. -/
theorem run_keyOf (ty : TypeId) (x : Operand) (ho : o.op = .load ty x) (g k : Nat) (hx : a.eval x = .pointer (some ⟨g, k * 32, none⟩)) (t : TypeId) (ls : List (List UInt8)) (h : ∀ l ∈ ls, l.length = 32) (l : List UInt8) (hk : ls[k]? = some l) (d : TypeDesc) (hr : RowAt w g t (keyC ls.flatten))
    (hu : P.underlying ty = some d) (hd : d.isRow = true) (hs : (P.info? ty).map (·.size) = some (cellsB l).length) : (execOp a.eval o).run P w = .ok (.value (.agg (keyC l))) w := by
  have hc : w.rangeAt g (k * 32) (cellsB l) := by
    have h1 := rangeAt_row (k := k * 32) (n := (cellsB l).length) hr
    rwa [keys_part ls h k l hk] at h1
  unfold execOp
  simp only [ho, hx, Instr.loadAt, Instr.sureAddr, Sem.run_bind, Sem.run_pure, Result.andThen_ok, run_loadVar_mid w g (k * 32) ty (cellsB l) d hc hu hd hs]
  rfl
end
theorem Env.off {w0 w : World} {r : Nat × TypeId × Array Value} {rs : List (Nat × TypeId × Array Value)} (h : Env w0 (r :: rs) w) : Env w0 rs w := h.less (List.sublist_cons_self _ _)
theorem Try.keyCells (l : List UInt8) (h : l.length = 32) : (Try.prog.info? 32).map (·.size) = some (cellsB l).length := by
  have := Try.sizeKey l h
  rwa [show (keyC l).size = (cellsB l).length by simp [keyC]] at this
theorem Try.key32 : (Try.prog.info? 32).map (·.size) = some 32 := by
  have := Try.keyCells zeroKey zeroKey_length
  rwa [cellsB_length, zeroKey_length] at this
end Go.Proofs.Ythipdfmaaeoijaa
end
section
namespace Go.Proofs.Ythipdfmaaeoijaa
open Go.RowKit
theorem alloc_below (w : World) (o : Obj) : Below w.heap.size w (w.alloc o) := (Below.refl _ w).alloc (Nat.le_refl _) o
end Go.Proofs.Ythipdfmaaeoijaa
end
section
namespace Go.Proofs.Ythipdfmaaeoijaa
open Go.RowKit Go.Shelf
set_option linter.unusedVariables false
set_option maxRecDepth 20000

/-- A slice of keys reads as ls. -/
def Kl (w : World) (v : Value) (ls : List (List UInt8)) : Prop :=
  ∃ A c, v = .slice A ls.length c ∧ ls.length ≤ c ∧ c ≤ maxLen ∧ (∀ l ∈ ls, l.length = 32) ∧ (0 < ls.length → ∃ b o, A = some ⟨b, o, none⟩ ∧ ∀ (k : Nat) (l : List UInt8), ls[k]? = some l → w.rangeAt b (o + k * 32) (cellsB l))
theorem Kl.nil (w : World) : Kl w (.slice none 0 0) [] := ⟨none, 0, rfl, Nat.le_refl _, by simp [maxLen], by simp, fun h => absurd h (by simp)⟩
theorem Kl.keep {w w' : World} {v : Value} {ls : List (List UInt8)} (h : Kl w v ls) (hk : ∀ p : Addr, p.block < w.heap.size → w'.cell? p = w.cell? p) : Kl w' v ls := by
  obtain ⟨A, c, hv, h1, h2, h4, h3⟩ := h
  refine ⟨A, c, hv, h1, h2, h4, fun hl => ?_⟩
  obtain ⟨b, o, hA, hc⟩ := h3 hl
  exact ⟨b, o, hA, fun k l e j u hj => (hk ⟨b, o + k * 32 + j, none⟩ (World.block_lt_of_cell? w _ (hc k l e j u hj))).trans (hc k l e j u hj)⟩
theorem Kl.below {w w' : World} {v : Value} {ls : List (List UInt8)} (h : Kl w v ls) (hb : Below w.heap.size w w') : Kl w' v ls := h.keep fun _ hp => hb.cell hp

theorem run_keyL {P : Program} {w : World} {o : Oper} {a : Act} (ty : TypeId) (x : Operand) (ho : o.op = .load ty x) (g k : Nat) (hx : a.eval x = .pointer (some ⟨g, k, none⟩)) (l : List UInt8) (d : TypeDesc) (hc : w.rangeAt g k (cellsB l))
    (hu : P.underlying ty = some d) (hd : d.isRow = true) (hs : (P.info? ty).map (·.size) = some (cellsB l).length) : (execOp a.eval o).run P w = .ok (.value (.agg (keyC l))) w := by
  unfold execOp
  simp only [ho, hx, Instr.loadAt, Instr.sureAddr, Sem.run_bind, Sem.run_pure, Result.andThen_ok, run_loadVar_mid w g k ty (cellsB l) d hc hu hd hs]
  rfl
theorem wpList_loadK {P : Program} {ops : Array Oper} {rest : List Oper} {o : Oper} {a : Act} {w : World} {Q : Exit → Act → World → Prop} (hgd : o.guard = none) (ty : TypeId) (x : Operand) (ho : o.op = .load ty x) (g k : Nat) (hx : a.eval x = .pointer (some ⟨g, k, none⟩)) (l : List UInt8) (d : TypeDesc) (hc : w.rangeAt g k (cellsB l))
    (hu : P.underlying ty = some d) (hd : d.isRow = true) (hs : (P.info? ty).map (·.size) = some (cellsB l).length) (h : wpList P ops Q rest (a.put o.dst (.agg (keyC l))) w) : wpList P ops Q (o :: rest) a w :=
  wpList_load_mid hgd ty x ho g k hx (cellsB l) d hc hu hd hs h
theorem Try.sizeKeyM (l : List UInt8) (h : l.length = 32) : (Try.prog.info? 32).map (·.size) = some (cellsB l).length := by
  have := Try.sizeKey l h
  rw [keyC_size] at this
  rw [cellsB_length]
  exact this
theorem Try.infoKey : (Try.prog.info? 32).map (fun i => (i.zero, i.size, i.bytes)) = some (some (.agg (keyC zeroKey)), 32, 32) := by kernel_rfl
theorem wp_oneKey {w : World} {o : Oper} {a : Act} {K : Act → World → Prop} {Q : Exit → Act → World → Prop} (x : Operand) (ho : o.op = .buildSlice 23 1 #[(0, x)]) (l : List UInt8) (hl : l.length = 32) (hx : a.eval x = .agg (keyC l))
    (h : K (a.put o.dst (.slice (some ⟨w.heap.size, 0, none⟩) 1 1)) (w.alloc (.cells (keyC l) 32))) : o.wp Try.prog a w K Q := by
  obtain ⟨ie, hie, hs⟩ := Option.map_eq_some_iff.1 Try.key32
  obtain ⟨ie2, hie2, hz2⟩ := Option.map_eq_some_iff.1 Try.zeroK
  obtain rfl : ie = ie2 := by rw [hie] at hie2; exact Option.some.inj hie2
  refine wp_buildSlice 23 32 1 _ ho (keyC l) ie (.agg (keyC zeroKey)) Try.underlying23 hie hz2 (by rw [hs]; omega) (by rw [hs]; omega) ?_ h
  have hp : (#[((0 : Nat), x)].map fun (i, x) => (i, a.eval x)).toList = (([l].map fun l => Value.agg (keyC l)).zipIdx 0).map fun x => (x.2, x.1) := by simp [hx]
  rw [hp, hs, show keyC l = ((([l].map fun l => Value.agg (keyC l)).flatMap fun v => v.cells.toList).toArray) by rw [keys_flat]; simp]
  refine Great.fill_whole (by omega) _ _ (fun v hv => ?_) (by simp)
  obtain ⟨l', hm, rfl⟩ := List.mem_map.1 hv
  obtain rfl : l' = l := by simpa using hm
  simp [Value.cells, keyC_size, hl]
theorem wpList_oneKey {w : World} {ops : Array Oper} {rest : List Oper} {o : Oper} {a : Act} {Q : Exit → Act → World → Prop} (hgd : o.guard = none) (x : Operand) (ho : o.op = .buildSlice 23 1 #[(0, x)]) (l : List UInt8) (hl : l.length = 32) (hx : a.eval x = .agg (keyC l))
    (h : ∀ g w', RowAt w' g 32 (keyC l) → Below w.heap.size w w' → wpList Try.prog ops Q rest (a.put o.dst (.slice (some ⟨g, 0, none⟩) 1 1)) w') : wpList Try.prog ops Q (o :: rest) a w :=
  wpList_plain hgd fun _ hK => wp_oneKey x ho l hl hx (hK _ _ (h w.heap.size _ (RowAt.new w _ _) (alloc_below w _)))
theorem wp_manyKeys {w : World} {o : Oper} {a : Act} {K : Act → World → Prop} {Q : Exit → Act → World → Prop} (len : Nat) (parts : Array (Nat × Operand)) (ho : o.op = .buildSlice 23 len parts) (ls : List (List UInt8)) (hl : ∀ l ∈ ls, l.length = 32) (hlen : ls.length = len) (hpos : 0 < len) (hsm : len * 32 ≤ 2 ^ 24)
    (hp : (parts.map fun (i, x) => (i, a.eval x)).toList = ((ls.map fun l => Value.agg (keyC l)).zipIdx 0).map fun x => (x.2, x.1))
    (h : K (a.put o.dst (.slice (some ⟨w.heap.size, 0, none⟩) len len)) (w.alloc (.cells (keyC ls.flatten) 32))) : o.wp Try.prog a w K Q := by
  obtain ⟨ie, hie, hs⟩ := Option.map_eq_some_iff.1 Try.key32
  obtain ⟨ie2, hie2, hz2⟩ := Option.map_eq_some_iff.1 Try.zeroK
  obtain rfl : ie = ie2 := by rw [hie] at hie2; exact Option.some.inj hie2
  refine wp_buildSlice 23 32 len parts ho (keyC ls.flatten) ie (.agg (keyC zeroKey)) Try.underlying23 hie hz2 (by rw [hs]; omega) (by rw [hs]; omega) ?_ h
  rw [hp, hs, ← keys_flat ls]
  refine Great.fill_whole (by omega) _ _ (fun v hv => ?_) (by simp [hlen])
  obtain ⟨l, hm, rfl⟩ := List.mem_map.1 hv
  simp [Value.cells, keyC_size, hl l hm]
theorem Kl.row {w : World} {g : Nat} {t : TypeId} {ls : List (List UInt8)} (h : RowAt w g t (keyC ls.flatten)) (hls : ∀ l ∈ ls, l.length = 32) (hlen : ls.length ≤ 1000000) : Kl w (.slice (some ⟨g, 0, none⟩) ls.length ls.length) ls := by
  refine ⟨_, _, rfl, Nat.le_refl _, by unfold maxLen; omega, hls, fun _ => ⟨g, 0, rfl, fun k l hk => ?_⟩⟩
  have h1 := rangeAt_row (k := k * 32) (n := (cellsB l).length) h
  rw [keys_part ls hls k l hk] at h1
  rwa [Nat.zero_add]
end Go.Proofs.Ythipdfmaaeoijaa
end
section
namespace Go.Proofs.Ythipdfmaaeoijaa
open Go.RowKit
set_option linter.unusedVariables false
set_option maxRecDepth 20000

section
variable {P : Program} {w : World} {g : Nat}
/-- A part of a row is read. -/
theorem wpStill_val {ops : Array Oper} {rest : List Oper} {o : Oper} {a : Act} {Q : Act → Prop} {v : Value} (hgd : o.guard = none) (hr : (execOp a.eval o).run P w = .ok (.value v) w) (h : wpStill P ops w Q rest (a.put o.dst v)) : wpStill P ops w Q (o :: rest) a := by
  refine wpStill_step fun K hK => ?_
  have hw : Region.wanted o (yielded ops a.tmps) = true := by simp [Region.wanted, hgd]
  rw [if_pos hw]
  unfold Oper.still
  rw [hr]
  exact ⟨rfl, hK _ h⟩
theorem run_load_range {o : Oper} {a : Act} (ty : TypeId) (x : Operand) (ho : o.op = .load ty x) (k : Nat) (ps : List Value) (d : TypeDesc) (hx : a.eval x = .pointer (some ⟨g, k, none⟩)) (hr : w.rangeAt g k ps)
    (hu : P.underlying ty = some d) (hd : d.isRow = true) (hs : (P.info? ty).map (·.size) = some ps.length) : (execOp a.eval o).run P w = .ok (.value (.agg ps.toArray)) w := by
  unfold execOp
  simp only [ho, hx, Instr.loadAt, Instr.sureAddr, Sem.run_bind, Sem.run_pure, Result.andThen_ok, run_loadVar_mid w g k ty ps d hr hu hd hs]
end
theorem run_idxAt {P : Program} {w : World} {o : Oper} {a : Act} (sz : Nat) (ty e : TypeId) (x y : Operand) (ho : o.op = .indexAddr ty x y) (g off n c k : Nat) (hx : a.eval x = .slice (some ⟨g, off, none⟩) n c) (hy : a.eval y = .int .i64 (k : Int)) (hk : k < n)
    (hu : P.underlying ty = some (.slice e)) (hs : (P.info? e).map (·.size) = some sz) : (execOp a.eval o).run P w = .ok (.value (.pointer (some ⟨g, off + k * sz, none⟩))) w := by
  obtain ⟨f, hf, hz⟩ := Option.map_eq_some_iff.1 hs
  unfold execOp
  simp only [ho, hx, hy]
  simp [Instr.indexAt, asIntOf, run_underlying hu, sizeOf, typeInfo, hf, hz, hk, go_sem]
theorem run_idxAt0 {P : Program} {w : World} {o : Oper} {a : Act} (sz : Nat) (ty e : TypeId) (x y : Operand) (ho : o.op = .indexAddr ty x y) (g n c k : Nat) (hx : a.eval x = .slice (some ⟨g, 0, none⟩) n c) (hy : a.eval y = .int .i64 (k : Int)) (hk : k < n)
    (hu : P.underlying ty = some (.slice e)) (hs : (P.info? e).map (·.size) = some sz) : (execOp a.eval o).run P w = .ok (.value (.pointer (some ⟨g, k * sz, none⟩))) w := by
  have := run_idxAt (P := P) (w := w) sz ty e x y ho g 0 n c k hx hy hk hu hs
  rwa [Nat.zero_add] at this
/-- A slice of one element is built. -/
theorem wp_oneRow {P : Program} {w : World} {o : Oper} {a : Act} {K : Act → World → Prop} {Q : Exit → Act → World → Prop} (ty e : TypeId) (x : Operand) (ho : o.op = .buildSlice ty 1 #[(0, x)]) (cs : List Value) (sz bytes : Nat) (z : Value) (hx : a.eval x = .agg cs.toArray) (hl : cs.length = sz) (h0 : 0 < sz) (hsm : sz ≤ 16777216)
    (hu : P.underlying ty = some (.slice e)) (hinfo : (P.info? e).map (fun i => (i.zero, i.size, i.bytes)) = some (some z, sz, bytes))
    (h : ∀ g w', NewRow w g e cs.toArray w' → K (a.put o.dst (.slice (some ⟨g, 0, none⟩) 1 1)) w') : o.wp P a w K Q := by
  obtain ⟨ie, hie, hz0, hz1, hz2⟩ := info_parts hinfo
  refine wp_buildSlice ty e 1 _ ho cs.toArray ie z hu hie hz0 (by rw [hz1]; omega) (by rw [hz1]; omega) ?_ (h _ _ (NewRow.mk_ w e _))
  have hp : (#[((0 : Nat), x)].map fun (i, x) => (i, a.eval x)).toList = ([Value.agg cs.toArray].zipIdx 0).map fun x => (x.2, x.1) := by simp [hx]
  have he : some cs.toArray = some ([Value.agg cs.toArray].flatMap fun v => v.cells.toList).toArray := by
    rw [List.flatMap_cons, List.flatMap_nil, List.append_nil]
    rfl
  rw [hp, hz1, he]
  refine Great.fill_whole h0 _ _ (fun v hv => ?_) (by simp)
  obtain rfl : v = .agg cs.toArray := List.mem_singleton.1 hv
  show cs.toArray.size = sz
  rw [List.size_toArray, hl]
theorem wpList_oneRow {P : Program} {w : World} {ops : Array Oper} {rest : List Oper} {o : Oper} {a : Act} {Q : Exit → Act → World → Prop} (hgd : o.guard = none) (ty e : TypeId) (x : Operand) (ho : o.op = .buildSlice ty 1 #[(0, x)]) (cs : List Value) (sz bytes : Nat) (z : Value) (hx : a.eval x = .agg cs.toArray) (hl : cs.length = sz) (h0 : 0 < sz) (hsm : sz ≤ 16777216)
    (hu : P.underlying ty = some (.slice e)) (hinfo : (P.info? e).map (fun i => (i.zero, i.size, i.bytes)) = some (some z, sz, bytes))
    (h : ∀ g w', NewRow w g e cs.toArray w' → wpList P ops Q rest (a.put o.dst (.slice (some ⟨g, 0, none⟩) 1 1)) w') : wpList P ops Q (o :: rest) a w :=
  wpList_plain hgd fun _ hK => wp_oneRow ty e x ho cs sz bytes z hx hl h0 hsm hu hinfo fun g w' n => hK _ _ (h g w' n)
/-- A part of a row is written. -/
theorem wpList_storeRP {P : Program} {w : World} {ops : Array Oper} {rest : List Oper} {o : Oper} {a : Act} {Q : Exit → Act → World → Prop} (hgd : o.guard = none) (ty : TypeId) (x y : Operand) (ho : o.op = .store ty x y) (g k : Nat) (t : TypeId) (old cs : Array Value) (ps : List Value) (hx : a.eval x = .pointer (some ⟨g, k, none⟩)) (hy : a.eval y = .agg ps.toArray)
    (hr : RowAt w g t old) (hk : k + ps.length ≤ old.size) (hc : (old.toList.take k ++ ps ++ old.toList.drop (k + ps.length)).toArray = cs) (hs : (P.info? ty).map (·.size) = some ps.length) (h1 : ∀ u ∈ ps, u.oneCell' = true)
    (h : ∀ w', PutRow w g t cs w' → wpList P ops Q rest (a.put o.dst undef) w') : wpList P ops Q (o :: rest) a w := by
  refine wpList_plain hgd fun _ hK => ?_
  obtain ⟨f, hf, hz⟩ := Option.map_eq_some_iff.1 hs
  have hrun := run_storeCells_at (P := P) g k t ps 0 old w hr (by simpa using hk) h1
  rw [Nat.add_zero, hc] at hrun
  unfold Oper.wp execOp
  simp [ho, Instr.storeAt, Instr.sureAddr, storeVar, hx, hy, sizeOf, typeInfo, hf, hz, Value.cells, hrun]
  exact hK _ _ (h _ (setRow_put hr))
theorem wpStill_valG {P : Program} {w : World} {ops : Array Oper} {rest : List Oper} {o : Oper} {a : Act} {Q : Act → Prop} {v : Value} (hw : Region.wanted o (yielded ops a.tmps) = true) (hr : (execOp a.eval o).run P w = .ok (.value v) w) (h : wpStill P ops w Q rest (a.put o.dst v)) : wpStill P ops w Q (o :: rest) a := by
  refine wpStill_step fun K hK => ?_
  rw [if_pos hw]
  unfold Oper.still
  rw [hr]
  exact ⟨rfl, hK _ h⟩
theorem wpStill_skip {P : Program} {w : World} {ops : Array Oper} {rest : List Oper} {o : Oper} {a : Act} {Q : Act → Prop} (hw : Region.wanted o (yielded ops a.tmps) = false) (h : wpStill P ops w Q rest (a.put o.dst undef)) : wpStill P ops w Q (o :: rest) a := by
  refine wpStill_step fun K hK => ?_
  rw [if_neg (by rw [hw]; simp)]
  exact hK _ h
theorem run_ixArr {P : Program} {w : World} {o : Oper} {a : Act} (sz : Nat) (ty e : TypeId) (m : Nat) (x y : Operand) (ho : o.op = .indexAddr ty x y) (g off k : Nat) (kd : IntKind) (hx : a.eval x = .pointer (some ⟨g, off, none⟩)) (hy : a.eval y = .int kd (k : Int)) (hk : k < m)
    (hu : P.underlying ty = some (.array m e)) (hs : (P.info? e).map (·.size) = some sz) : (execOp a.eval o).run P w = .ok (.value (.pointer (some ⟨g, off + k * sz, none⟩))) w := by
  obtain ⟨f, hf, hz⟩ := Option.map_eq_some_iff.1 hs
  unfold execOp
  simp only [ho, hx, hy]
  simp [Instr.indexAt, asIntOf, run_underlying hu, sizeOf, typeInfo, hf, hz, hk, go_sem]
theorem run_ixArr0 {P : Program} {w : World} {o : Oper} {a : Act} (sz : Nat) (ty e : TypeId) (m : Nat) (x y : Operand) (ho : o.op = .indexAddr ty x y) (g k : Nat) (kd : IntKind) (hx : a.eval x = .pointer (some ⟨g, 0, none⟩)) (hy : a.eval y = .int kd (k : Int)) (hk : k < m)
    (hu : P.underlying ty = some (.array m e)) (hs : (P.info? e).map (·.size) = some sz) : (execOp a.eval o).run P w = .ok (.value (.pointer (some ⟨g, k * sz, none⟩))) w := by
  have := run_ixArr (P := P) (w := w) sz ty e m x y ho g 0 k kd hx hy hk hu hs
  rwa [Nat.zero_add] at this
/-! Parts of an array in a row, as slices. -/
section
variable {P : Program} {w : World} {o : Oper} {a : Act}
theorem run_slLH (sz : Nat) (ty e : TypeId) (m : Nat) (x lo hi : Operand) (ho : o.op = .slice ty x (some lo) (some hi) none) (g l h : Nat) (k1 k2 : IntKind) (hx : a.eval x = .pointer (some ⟨g, 0, none⟩)) (hl : a.eval lo = .int k1 (l : Int)) (hh : a.eval hi = .int k2 (h : Int)) (h1 : l ≤ h) (h2 : h ≤ m) (h3 : l < m)
    (hu : P.underlying ty = some (.array m e)) (hs : (P.info? e).map (·.size) = some sz) : (execOp a.eval o).run P w = .ok (.value (.slice (some ⟨g, l * sz, none⟩) (h - l) (m - l))) w := by
  obtain ⟨f, hf, hz⟩ := Option.map_eq_some_iff.1 hs
  have hlen : P.arrayLen ty = m := by simp [Program.arrayLen, hu]
  have hel : P.elem ty = e := by simp [Program.elem, hu]
  have hr := run_sliceAt_array_lh (P := P) w ty ⟨g, 0, none⟩ (by rw [hlen, hel]; exact hu) k1 k2 (l : Int) (h : Int) (by omega) (by omega) (by rw [hlen]; omega)
  have hadd : (⟨g, 0, none⟩ : Addr).add (l * sz) = ⟨g, l * sz, none⟩ := by unfold Addr.add; split <;> simp_all
  unfold execOp
  simp only [ho, hx, hl, hh, Option.map_some, Option.map_none, Sem.run_bind, hr]
  simp [hel, hlen, sizeOf, typeInfo, hf, hz, slicedAt, show ¬ m = l by omega, hadd]
theorem run_slH (sz : Nat) (ty e : TypeId) (m : Nat) (x hi : Operand) (ho : o.op = .slice ty x none (some hi) none) (g h : Nat) (k2 : IntKind) (hx : a.eval x = .pointer (some ⟨g, 0, none⟩)) (hh : a.eval hi = .int k2 (h : Int)) (h2 : h ≤ m) (h3 : 0 < m)
    (hu : P.underlying ty = some (.array m e)) (hs : (P.info? e).map (·.size) = some sz) : (execOp a.eval o).run P w = .ok (.value (.slice (some ⟨g, 0, none⟩) h m)) w := by
  obtain ⟨f, hf, hz⟩ := Option.map_eq_some_iff.1 hs
  have hlen : P.arrayLen ty = m := by simp [Program.arrayLen, hu]
  have hel : P.elem ty = e := by simp [Program.elem, hu]
  have hr := run_sliceAt_array_h (P := P) w ty ⟨g, 0, none⟩ (by rw [hlen, hel]; exact hu) k2 (h : Int) (by omega) (by rw [hlen]; omega)
  have hadd : (⟨g, 0, none⟩ : Addr).add 0 = ⟨g, 0, none⟩ := by unfold Addr.add; split <;> simp_all
  unfold execOp
  simp only [ho, hx, hh, Option.map_some, Option.map_none, Sem.run_bind, hr]
  simp [hel, hlen, sizeOf, typeInfo, hf, hz, slicedAt, show ¬ m = 0 by omega, hadd]
theorem run_slAll (sz : Nat) (ty e : TypeId) (m : Nat) (x : Operand) (ho : o.op = .slice ty x none none none) (g : Nat) (hx : a.eval x = .pointer (some ⟨g, 0, none⟩)) (h3 : 0 < m)
    (hu : P.underlying ty = some (.array m e)) (hs : (P.info? e).map (·.size) = some sz) : (execOp a.eval o).run P w = .ok (.value (.slice (some ⟨g, 0, none⟩) m m)) w := by
  obtain ⟨f, hf, hz⟩ := Option.map_eq_some_iff.1 hs
  have hlen : P.arrayLen ty = m := by simp [Program.arrayLen, hu]
  have hel : P.elem ty = e := by simp [Program.elem, hu]
  have hr := run_sliceAt_array_all (P := P) w ty ⟨g, 0, none⟩ (by rw [hlen, hel]; exact hu)
  have hadd : (⟨g, 0, none⟩ : Addr).add 0 = ⟨g, 0, none⟩ := by unfold Addr.add; split <;> simp_all
  unfold execOp
  simp only [ho, hx, Option.map_none, Sem.run_bind, hr]
  simp [hel, hlen, sizeOf, typeInfo, hf, hz, slicedAt, show ¬ m = 0 by omega, hadd]
/-- copy within a row. -/
theorem wp_copyRow {K : Act → World → Prop} {Q : Exit → Act → World → Prop} (d s : Operand) (dT sT : TypeId) (ho : o.op = .call { callee := .builtin .copy, args := #[d, s], argTypes := #[dT, sT] }) (elem : TypeId) (sz : Nat) (hu : P.underlying dT = some (.slice elem)) (hsz : (P.info? elem).map (·.size) = some sz)
    (g : Nat) (t : TypeId) (cs : Array Value) (hr : RowAt w g t cs) (kd nd cd ks ns cap2 n : Nat) (hd : a.eval d = .slice (some ⟨g, kd, none⟩) nd cd) (hs : a.eval s = .slice (some ⟨g, ks, none⟩) ns cap2) (hn : Nat.min ns nd = n)
    (ps : List Value) (hps : (cs.toList.drop ks).take (n * sz) = ps) (hpl : ps.length = n * sz) (h1 : ∀ u ∈ ps, u.oneCell' = true) (hk : kd + ps.length ≤ cs.size) (new : Array Value) (hnew : (cs.toList.take kd ++ ps ++ cs.toList.drop (kd + ps.length)).toArray = new)
    (h : ∀ w', PutRow w g t new w' → K (a.put o.dst (goInt n)) w') : o.wp P a w K Q := by
  have hl := run_loadCells_list (P := P) w ⟨g, ks, none⟩ ps (fun j v hv => by
    have hadd : (⟨g, ks, none⟩ : Addr).add j = ⟨g, ks + j, none⟩ := by unfold Addr.add; split <;> simp_all
    rw [hadd]
    have h2 := rangeAt_row (k := ks) (n := n * sz) hr
    rw [hps] at h2
    exact h2 j v hv)
  rw [hpl] at hl
  have hst := run_storeCells_at (P := P) g kd t ps 0 cs w hr (by simpa using hk) h1
  rw [Nat.add_zero, hnew] at hst
  have hrun : (Builtin.copy_ #[dT, sT] o.type #[.slice (some ⟨g, kd, none⟩) nd cd, .slice (some ⟨g, ks, none⟩) ns cap2]).run P w = .ok (goInt n) (w.setRow g new) := by
    obtain ⟨i, hi, hi2⟩ := Option.map_eq_some_iff.1 hsz
    simp [Builtin.copy_, run_underlying hu, Builtin.lenOf, Builtin.firstCells, sizeOf, typeInfo, hi, hi2, hn, hl, hst]
  unfold Oper.wp execOp
  simp only [ho, resolve, invoke, builtin, Sem.run_bind, Sem.run_pure, Result.andThen_ok, List.map_toArray, List.map_cons, List.map_nil, hd, hs, hrun]
  exact h _ (setRow_put hr)
/-- clear of a part of a row. -/
theorem wp_clearRow {K : Act → World → Prop} {Q : Exit → Act → World → Prop} (d : Operand) (dT : TypeId) (ho : o.op = .call { callee := .builtin .clear, args := #[d], argTypes := #[dT] }) (elem : TypeId) (z : Value) (hu : P.underlying dT = some (.slice elem)) (hzv : (P.info? elem).map (·.zero) = some (some z))
    (g : Nat) (t : TypeId) (cs : Array Value) (hr : RowAt w g t cs) (kd nd cd : Nat) (hd : a.eval d = .slice (some ⟨g, kd, none⟩) nd cd) (hpos : 0 < nd)
    (ps : List Value) (hps : (Builtin.zeroCells z.cells nd).toList = ps) (h1 : ∀ u ∈ ps, u.oneCell' = true) (hk : kd + ps.length ≤ cs.size) (new : Array Value) (hnew : (cs.toList.take kd ++ ps ++ cs.toList.drop (kd + ps.length)).toArray = new)
    (h : ∀ w', PutRow w g t new w' → K (a.put o.dst (.tuple #[])) w') : o.wp P a w K Q := by
  have hst := run_storeCells_at (P := P) g kd t ps 0 cs w hr (by simpa using hk) h1
  rw [Nat.add_zero, hnew] at hst
  obtain ⟨j, hj, hj2⟩ := Option.map_eq_some_iff.1 hzv
  have hrun : (Builtin.clear_ #[dT] o.type #[.slice (some ⟨g, kd, none⟩) nd cd]).run P w = .ok (.tuple #[]) (w.setRow g new) := by
    obtain ⟨m, rfl⟩ : ∃ m, nd = m + 1 := ⟨nd - 1, by omega⟩
    simp [Builtin.clear_, run_underlying hu, zeroValue, typeInfo, hj, hj2, hps, hst]
  unfold Oper.wp execOp
  simp only [ho, resolve, invoke, builtin, Sem.run_bind, Sem.run_pure, Result.andThen_ok, List.map_toArray, List.map_cons, List.map_nil, hd, hrun]
  exact h _ (setRow_put hr)
end
end Go.Proofs.Ythipdfmaaeoijaa
end
section
namespace Go.Proofs.Ythipdfmaaeoijaa
open Go.RowKit
set_option linter.unusedVariables false
set_option maxRecDepth 20000

theorem neqKey_run {o : Oper} {a : Act} {W : World} (x y : Operand) (rt : TypeId) (ho : o.op = .binOp .neq 32 x y rt) (k : List UInt8) (hl : k.length = 32) (hx : a.eval x = .agg (keyC k)) (hy : a.eval y = .agg (keyC k)) :
    (execOp a.eval o).run Try.prog W = .ok (.value (.bool false)) W := by
  have he : ∀ W, (Op.equalIn 10000 32 (.agg (keyC k)) (.agg (keyC k))).run Try.prog W = .ok true W := fun W => by rw [Try.eqKeyIn k k hl hl W, beq_self_eq_true]
  have hgd := Try.eqGuardKey
  unfold execOp
  simp only [ho, hx, hy]
  generalize keyC k = z at *
  go_simp
theorem rangeAt_below {w x : World} {b o : Nat} {cs : List Value} (h : w.rangeAt b o cs) (hb : Below w.heap.size w x) : x.rangeAt b o cs := fun j v hv => (hb.cell (p := ⟨b, o + j, none⟩) (World.block_lt_of_cell? w _ (h j v hv))).trans (h j v hv)

/-- Born in a row, from a number on. -/
def bornL (first : Nat) (l : List (List UInt8)) : List (Nat × List UInt8) := (l.zipIdx first).map fun p => (p.2, p.1)
theorem bornL_nil (first : Nat) : bornL first [] = [] := rfl
theorem bornL_cons (first : Nat) (k : List UInt8) (l : List (List UInt8)) : bornL first (k :: l) = (first, k) :: bornL (first + 1) l := rfl
theorem bornL_snoc (first : Nat) (l : List (List UInt8)) (k : List UInt8) : bornL first (l ++ [k]) = bornL first l ++ [(first + l.length, k)] := by simp [bornL, List.zipIdx_append]
theorem bornL_length (first : Nat) (l : List (List UInt8)) : (bornL first l).length = l.length := by simp [bornL]
theorem bornL_ids (l : List (List UInt8)) : ∀ first, (bornL first l).map (·.1) = List.range' first l.length := by
  induction l with
  | nil => intro _; rfl
  | cons k l ih =>
    intro first
    rw [bornL_cons, List.map_cons, ih, List.length_cons, List.range'_succ]
theorem bornL_at (l : List (List UInt8)) : ∀ (first i : Nat) (k : List UInt8), l[i]? = some k → kAt (first + i) (bornL first l) = some k := by
  induction l with
  | nil => intro _ _ _ h; simp at h
  | cons x l ih =>
    intro first i k h
    rw [bornL_cons, kAt]
    cases i with
    | zero =>
      rw [if_pos (by simp)]
      simpa using h
    | succ i =>
      rw [if_neg (by simp only []; omega), show first + (i + 1) = first + 1 + i by omega]
      exact ih (first + 1) i k (by simpa using h)
theorem kAt_left {p : Nat → Bool} (id : Nat) : ∀ ks : List (Nat × List UInt8), kAt id (ks.filter fun q => p q.1) = if p id then kAt id ks else none
  | [] => by simp [kAt]
  | x :: ks => by
    have ih := kAt_left (p := p) id ks
    by_cases hp : p x.1 = true
    · rw [List.filter_cons_of_pos (p := fun q : Nat × List UInt8 => p q.1) hp, kAt, kAt, ih]
      by_cases he : id = x.1
      · rw [he, if_pos rfl, if_pos rfl, if_pos hp]
      · rw [if_neg he, if_neg he]
    · rw [List.filter_cons_of_neg (p := fun q : Nat × List UInt8 => p q.1) hp, ih, kAt]
      by_cases he : id = x.1
      · rw [he, if_neg hp, if_neg hp]
      · rw [if_neg he]
theorem filter_both {α : Type} (p : α → Bool) : ∀ l : List α, (l.filter p).length + (l.filter fun x => !p x).length = l.length
  | [] => rfl
  | x :: l => by
    have ih := filter_both p l
    by_cases h : p x = true
    · rw [List.filter_cons_of_pos h, List.filter_cons_of_neg (by simp [h])]
      simp only [List.length_cons]
      omega
    · rw [List.filter_cons_of_neg h, List.filter_cons_of_pos (by simpa using h)]
      simp only [List.length_cons]
      omega
end Go.Proofs.Ythipdfmaaeoijaa
end
section
namespace Go.Proofs.Ythipdfmaaeoijaa
open Go.RowKit
set_option linter.unusedVariables false

theorem open_cells {H : Type} {enc : TypeId × Value → H} {P : Program} {W : World} {base b0 : Nat} {sp : Nat → Bool} {held : Bool} {t e : TypeId} {n : Nat} {k : IntKind} {v : Value} {d : DataW H} {ps : List MemPlace}
    (ht : P.underlying t = some (.array n e)) (he : P.underlying e = some (.int k)) (hce : P.cellsOf e = 1) (hval : Value.okWide P W .any b0 t v) (h : DataW.Trod enc P W base sp held t v d ps) :
    ∃ cs : Array Value, v = .agg cs ∧ cs.size = P.cellsOf t ∧ ∀ i, i < n → ∃ a, cs[i]? = some (.int k a) ∧ (Lit.int k a).wf = true := by
  obtain ⟨cs, rfl, hsz, _⟩ : ∃ cs, v = .agg cs ∧ cs.size = P.cellsOf t ∧ Row.okWide P W .any b0 t cs := by simpa [Value.okWide, ht] using hval
  obtain ⟨fuel, hf⟩ := h
  obtain ⟨xs, m, _, _, _, hl, hel⟩ := DataW.trod_array ht hf
  refine ⟨cs, rfl, hsz, fun i hi => ?_⟩
  have h1 := hel i hi
  rw [hce, List.getElem?_eq_getElem (by omega)] at h1
  obtain ⟨a, hc, _, hwf⟩ := DataW.trod_int he h1
  refine ⟨a, ?_, hwf⟩
  have := congrArg (·[0]?) hc
  simpa [List.getElem?_take, List.getElem?_drop, Value.cells] using this

theorem open_words {H : Type} {enc : TypeId × Value → H} {P : Program} {W : World} {base b0 : Nat} {sp : Nat → Bool} {held : Bool} {t e : TypeId} {n : Nat} {v : Value} {d : DataW H} {ps : List MemPlace}
    (ht : P.underlying t = some (.array n e)) (he : P.underlying e = some (.int .u32)) (hce : P.cellsOf e = 1) (hct : P.cellsOf t = n) (hval : Value.okWide P W .any b0 t v) (h : DataW.Trod enc P W base sp held t v d ps) :
    ∃ l : List UInt32, v = .agg (wordsC l) ∧ l.length = n := by
  obtain ⟨cs, rfl, hsz, hel⟩ := open_cells ht he hce hval h
  rw [hct] at hsz
  refine ⟨cs.toList.map fun v => match v with | .int _ a => UInt32.ofNat a.toNat | _ => 0, ?_, by simpa using hsz⟩
  congr 1
  apply Array.toList_inj.1
  simp only [wordsC, cellsW, List.map_map]
  apply List.ext_getElem (by simp)
  intro i h1 h2
  obtain ⟨a, hc, hwf⟩ := hel i (by simpa [hsz] using h1)
  have hb := bounds_u32 hwf
  have hci : cs.toList[i] = .int .u32 a := by
    have : cs[i]? = some cs.toList[i] := by simp [Array.getElem?_eq_getElem (show i < cs.size by simpa using h1)]
    rw [hc] at this
    injection this with this
    exact this.symm
  simp only [List.getElem_map, Function.comp_apply, hci]
  rw [UInt32.toNat_ofNat_of_lt' (by simp [UInt32.size]; omega)]
  congr 1
  omega
theorem open_key {H : Type} {enc : TypeId × Value → H} {P : Program} {W : World} {base b0 : Nat} {sp : Nat → Bool} {held : Bool} {t e : TypeId} {n : Nat} {v : Value} {d : DataW H} {ps : List MemPlace}
    (ht : P.underlying t = some (.array n e)) (he : P.underlying e = some (.int .u8)) (hce : P.cellsOf e = 1) (hct : P.cellsOf t = n) (hval : Value.okWide P W .any b0 t v) (h : DataW.Trod enc P W base sp held t v d ps) :
    ∃ l : List UInt8, v = keyV l ∧ l.length = n := by
  obtain ⟨cs, rfl, hsz, hel⟩ := open_cells ht he hce hval h
  rw [hct] at hsz
  refine ⟨cs.toList.map fun v => match v with | .int _ a => UInt8.ofNat a.toNat | _ => 0, ?_, by simpa using hsz⟩
  unfold keyV
  congr 1
  apply Array.toList_inj.1
  simp only [keyC, cellsB, List.map_map]
  apply List.ext_getElem (by simp)
  intro i h1 h2
  obtain ⟨a, hc, hwf⟩ := hel i (by simpa [hsz] using h1)
  have hb := bounds_u8 hwf
  have hci : cs.toList[i] = .int .u8 a := by
    have : cs[i]? = some cs.toList[i] := by simp [Array.getElem?_eq_getElem (show i < cs.size by simpa using h1)]
    rw [hc] at this
    injection this with this
    exact this.symm
  simp only [List.getElem_map, Function.comp_apply, hci]
  rw [UInt8.toNat_ofNat_of_lt' (by simp [UInt8.size]; omega)]
  congr 1
  omega
theorem u32_of_wf {n : Int} (h : (Lit.int .u32 n).wf = true) : ∃ c : UInt32, n = (c.toNat : Int) := by
  have hb := bounds_u32 h
  exact ⟨UInt32.ofNat n.toNat, by rw [UInt32.toNat_ofNat_of_lt' (by simp [UInt32.size]; omega)]; omega⟩

/-- Cut in pieces of m. -/
theorem chunked {α : Type} (m : Nat) : ∀ (rows : List (List α)) (cs : List α), cs.length = rows.length * m → (∀ i (h : i < rows.length), (cs.drop (i * m)).take m = rows[i]) → cs = rows.flatten := by
  intro rows
  induction rows with
  | nil =>
    intro cs hl _
    exact List.eq_nil_of_length_eq_zero (by simpa using hl)
  | cons r rows ih =>
    intro cs hl h
    have h0 := h 0 (by simp)
    simp only [Nat.zero_mul, List.drop_zero, List.getElem_cons_zero] at h0
    have hrest := ih (cs.drop m) (by rw [List.length_drop, hl, List.length_cons, Nat.succ_mul]; omega) (fun i hi => by
      have := h (i + 1) (by simpa using hi)
      rw [List.getElem_cons_succ] at this
      rw [← this, List.drop_drop, Nat.succ_mul, Nat.add_comm])
    rw [List.flatten_cons, ← h0, ← hrest, List.take_append_drop]
/-- A table of arrays reads as its rows. -/
theorem cells_of_rows {H : Type} {enc : TypeId × Value → H} {P : Program} {w : World} {base : Nat} {sp : Nat → Bool} {held : Bool} {fuel : Nat} {t e b : TypeId} {n m : Nat} {k : IntKind} {cs : List Value} {rows : List (List Int)} {p : List MemPlace}
    (ht : P.underlying t = some (.array n e)) (he : P.underlying e = some (.array m b)) (hb : P.underlying b = some (.int k)) (hcb : P.cellsOf b = 1) (hce : P.cellsOf e = m) (hct : P.cellsOf t = n * m) (hn : rows.length = n)
    (h : DataW.trod enc P w base sp held fuel t cs = some (.agg (rows.map fun zs => Lib.tabData k zs), p)) : cs = rows.flatten.map fun z => Value.int k z := by
  obtain ⟨xs, f, _, hx, hlen, hl, hel⟩ := DataW.trod_array ht h
  have hxs : xs.map (·.1) = rows.map fun zs => (Lib.tabData k zs : DataW H) := by
    have := congrArg Prod.fst hx
    simpa using this.symm
  have hflat := chunked m (rows.map fun zs => zs.map fun z => Value.int k z) cs (by simp [hlen, hct, hn]) (fun i hi => by
    have hi2 : i < rows.length := by simpa using hi
    have hi3 : i < xs.length := by omega
    have h1 := hel i (by omega)
    rw [hce, List.getElem?_eq_getElem hi3] at h1
    have h2 : xs[i].1 = Lib.tabData k rows[i] := by
      have := congrArg (·[i]?) hxs
      simpa [hi2, hi3] using this
    have h3 := Lib.cells_of_tab (zs := rows[i]) (p := xs[i].2) he hb hcb hce (by rw [h1, ← h2])
    rw [List.getElem_map, h3])
  rw [hflat]
  simp [List.map_flatten]
end Go.Proofs.Ythipdfmaaeoijaa
end
section
namespace Go.Proofs.Ythipdfmaaeoijaa
open Go.RowKit
set_option linter.unusedVariables false
set_option maxRecDepth 20000

/-- A slice of elements of sz cells each: element j has the cells f j. -/
def Rx (w : World) (v : Value) (sz n : Nat) (f : Nat → List Value) : Prop :=
  ∃ A c, v = .slice A n c ∧ n ≤ c ∧ c ≤ maxLen ∧ (0 < n → ∃ b off, A = some ⟨b, off, none⟩ ∧ ∀ j, j < n → w.rangeAt b (off + j * sz) (f j))
section
variable {H : Type} {enc : TypeId × Value → H} {P : Program} {W : World} {base : Nat} {sp : Nat → Bool} {held : Bool}
theorem addr_add3 (g off : Nat) (i j : Nat) : ((⟨g, off, none⟩ : Addr).add i).add j = ⟨g, off + i + j, none⟩ := by
  have e1 : (⟨g, off, none⟩ : Addr).add i = ⟨g, off + i, none⟩ := by unfold Addr.add; split <;> simp_all
  rw [e1]
  unfold Addr.add
  split <;> simp_all
/-- A list of elements of sz cells: each element's cells, and that they are read. -/
theorem open_rx {t e : TypeId} {fuel : Nat} {cs : List Value} {x : DataW H × List MemPlace} {sz : Nat} (hs0 : 0 < sz)
    (ht : P.underlying t = some (.slice e)) (hce : P.cellsOf e = sz) (hone : ∀ n (c : List Value) y, c.length = sz → DataW.trod enc P W base sp held n e c = some y → c.length = sz) (h : DataW.trod enc P W base sp held fuel t cs = some x) :
    ∃ (v : Value) (n : Nat) (f : Nat → List Value), cs = [v] ∧ Rx W v sz n f ∧ ∀ j, j < n → (f j).length = sz ∧ ∃ m y, DataW.trod enc P W base sp held m e (f j) = some y := by
  rcases DataW.trod_slice ht h with ⟨rfl, _⟩ | ⟨a, len, cap, elems, rest, n, _, rfl, _, hba, hl, hm, hlen, hel, _, _⟩
  · exact ⟨_, 0, fun _ => [], rfl, ⟨none, 0, rfl, Nat.le_refl _, by simp [maxLen], fun h => by omega⟩, fun j hj => by omega⟩
  · have each : ∀ i, i < len → ∃ c : List Value, c.length = sz ∧ (∀ j, j < sz → W.cell? ((a.add (i * sz)).add j) = c[j]?) ∧ ∃ m y, DataW.trod enc P W base sp held m e c = some y := by
      intro i hi
      have h1 := hel i hi
      rw [hce, List.getElem?_eq_getElem (by omega), Option.bind_eq_some_iff] at h1
      obtain ⟨c, hc, ht2⟩ := h1
      obtain ⟨_, hcl, hcell⟩ := World.cells?_some hc
      exact ⟨c, hcl, hcell, n, _, ht2⟩
    refine ⟨_, len, fun j => if hj : j < len then (each j hj).choose else [], rfl, ⟨some a, cap, rfl, hl, hm, fun h0 => ?_⟩, fun j hj => ?_⟩
    · obtain ⟨g, off, spot⟩ := a
      have h1 := (each 0 h0).choose_spec
      have hc := h1.2.1 0 hs0
      rw [List.getElem?_eq_getElem (by rw [h1.1]; exact hs0)] at hc
      have hspot : spot = none := by simpa [Addr.add] using World.cell?_spot hc
      subst hspot
      refine ⟨g, off, rfl, fun k hk j u hj => ?_⟩
      simp only [dif_pos hk] at hj
      have hs := (each k hk).choose_spec
      have hj2 : j < sz := by
        have := (List.getElem?_eq_some_iff.1 hj).1
        rwa [hs.1] at this
      have h3 := hs.2.1 j hj2
      rw [addr_add3] at h3
      rw [h3, hj]
    · simp only [dif_pos hj]
      have hs := (each j hj).choose_spec
      exact ⟨hs.1, hs.2.2⟩
theorem open_bx {t e : TypeId} {fuel : Nat} {cs : List Value} {x : DataW H × List MemPlace} (ht : P.underlying t = some (.slice e)) (he : P.underlying e = some (.int .u8)) (hce : P.cellsOf e = 1) (h : DataW.trod enc P W base sp held fuel t cs = some x) :
    ∃ (v : Value) (l : List UInt8), cs = [v] ∧ Bs W v l := by
  obtain ⟨v, n, f, hcs, ⟨A, c, rfl, h1, h2, h3⟩, hf⟩ := open_rx (by omega) ht hce (fun _ _ _ h _ => h) h
  have each : ∀ j, j < n → ∃ b : UInt8, f j = [.int .u8 (b.toNat : Int)] := fun j hj => by
    obtain ⟨_, m, y, hy⟩ := hf j hj
    obtain ⟨z, hz, _, hwf⟩ := DataW.trod_int he hy
    exact ⟨UInt8.ofNat z.toNat, by rw [hz, u8_of_wf hwf]⟩
  refine ⟨_, List.ofFn fun i : Fin n => (each i.1 i.2).choose, hcs, A, c, by rw [List.length_ofFn], by rw [List.length_ofFn]; exact h1, h2, fun hl => ?_⟩
  rw [List.length_ofFn] at hl
  obtain ⟨b, off, hA, hc⟩ := h3 hl
  refine ⟨b, off, hA, fun j hj => ?_⟩
  rw [List.length_ofFn] at hj
  rw [List.getElem_ofFn]
  have hs := (each j hj).choose_spec
  have h4 := hc j hj 0 (.int .u8 ((each j hj).choose.toNat : Int)) (by have := congrArg (·[0]?) hs; simpa using this)
  rw [Nat.mul_one, Nat.add_zero] at h4
  exact h4
/-- A key in the midst of other cells. -/
theorem open_keyAt {t e : TypeId} {n fuel : Nat} {cs : List Value} {x : DataW H × List MemPlace} (ht : P.underlying t = some (.array n e)) (he : P.underlying e = some (.int .u8)) (hce : P.cellsOf e = 1) (hl : cs.length = n) (h : DataW.trod enc P W base sp held fuel t cs = some x) :
    ∃ l : List UInt8, cs = cellsB l ∧ l.length = n := by
  obtain ⟨xs, m, _, _, _, hxl, hel⟩ := DataW.trod_array ht h
  have each : ∀ i, i < n → ∃ b : UInt8, cs[i]? = some (.int .u8 (b.toNat : Int)) := fun i hi => by
    have h1 := hel i hi
    rw [hce, List.getElem?_eq_getElem (by omega)] at h1
    obtain ⟨a, hc, _, hwf⟩ := DataW.trod_int he h1
    refine ⟨UInt8.ofNat a.toNat, ?_⟩
    have h2 := congrArg (·[0]?) hc
    rw [u8_of_wf hwf]
    simpa [List.getElem?_take, List.getElem?_drop] using h2
  refine ⟨cs.map fun v => match v with | .int _ a => UInt8.ofNat a.toNat | _ => 0, ?_, by simpa using hl⟩
  simp only [cellsB, List.map_map]
  apply List.ext_getElem (by simp)
  intro i h1 h2
  obtain ⟨b, hb⟩ := each i (by omega)
  have hci : cs[i] = .int .u8 (b.toNat : Int) := by
    rw [List.getElem?_eq_getElem h1] at hb
    exact Option.some.inj hb
  simp [List.getElem_map, hci]
end
theorem cut_at {α : Type} (c : List α) (o n : Nat) : c.drop o = (c.drop o).take n ++ c.drop (o + n) := by
  rw [← List.drop_drop, List.take_append_drop]
end Go.Proofs.Ythipdfmaaeoijaa
end
section
namespace Go.Proofs.Ythipdfmaaeoijaa
open Go.RowKit
set_option linter.unusedVariables false

theorem open_kl {H : Type} {enc : TypeId × Value → H} {P : Program} {W : World} {base : Nat} {sp : Nat → Bool} {held : Bool} {t e b : TypeId} {fuel : Nat} {cs : List Value} {x : DataW H × List MemPlace}
    (ht : P.underlying t = some (.slice e)) (he : P.underlying e = some (.array 32 b)) (hb : P.underlying b = some (.int .u8)) (hcb : P.cellsOf b = 1) (hce : P.cellsOf e = 32) (h : DataW.trod enc P W base sp held fuel t cs = some x) :
    ∃ (v : Value) (L : List (List UInt8)), cs = [v] ∧ Kl W v L := by
  rcases DataW.trod_slice ht h with ⟨rfl, _⟩ | ⟨a, len, cap, elems, rest, n, _, rfl, _, hba, hl, hm, hlen, hel, _, _⟩
  · exact ⟨_, [], rfl, Kl.nil W⟩
  · have each : ∀ i, i < len → ∃ l : List UInt8, l.length = 32 ∧ ∀ j, j < 32 → W.cell? ((a.add (i * 32)).add j) = some (.int .u8 ((l.getD j 0).toNat : Int)) := by
      intro i hi
      have h1 := hel i hi
      rw [hce, List.getElem?_eq_getElem (by omega), Option.bind_eq_some_iff] at h1
      obtain ⟨c, hc, ht2⟩ := h1
      obtain ⟨_, hcl, hcell⟩ := World.cells?_some hc
      obtain ⟨xs, m, _, _, _, hxl, hxe⟩ := DataW.trod_array he ht2
      refine ⟨c.map fun v => match v with | .int _ z => UInt8.ofNat z.toNat | _ => 0, by simpa using hcl, fun j hj => ?_⟩
      have h2 := hxe j hj
      rw [hcb, List.getElem?_eq_getElem (by omega)] at h2
      obtain ⟨z, hz, _, hwf⟩ := DataW.trod_int hb h2
      have hcj : c[j]? = some (.int .u8 z) := by
        have := congrArg (·[0]?) hz
        simpa [List.getElem?_take, List.getElem?_drop] using this
      rw [hcell j hj, hcj, List.getD_eq_getElem?_getD, List.getElem?_map, hcj]
      simp only [Option.map_some, Option.getD_some]
      rw [u8_of_wf hwf]
    refine ⟨_, List.ofFn fun i : Fin len => (each i.1 i.2).choose, rfl, some a, cap, by rw [List.length_ofFn], by rw [List.length_ofFn]; exact hl, hm, fun l hl' => ?_, fun h0 => ?_⟩
    · obtain ⟨i, rfl⟩ := List.mem_ofFn.1 hl'
      exact (each i.1 i.2).choose_spec.1
    · rw [List.length_ofFn] at h0
      obtain ⟨g, off, spot⟩ := a
      have hc := (each 0 h0).choose_spec.2 0 (by omega)
      have hspot : spot = none := by simpa [Addr.add] using World.cell?_spot hc
      subst hspot
      refine ⟨g, off, rfl, fun k l hk j u hj => ?_⟩
      obtain ⟨hk1, hk2⟩ := List.getElem?_eq_some_iff.1 hk
      rw [List.getElem_ofFn] at hk2
      rw [List.length_ofFn] at hk1
      have hs := (each k hk1).choose_spec
      simp only at hk2
      rw [hk2] at hs
      have hj2 : j < 32 := by
        have := (List.getElem?_eq_some_iff.1 hj).1
        rwa [cellsB_length, hs.1] at this
      have h3 := hs.2 j hj2
      have hadd : ((⟨g, off, none⟩ : Addr).add (k * 32)).add j = ⟨g, off + k * 32 + j, none⟩ := by
        have e1 : (⟨g, off, none⟩ : Addr).add (k * 32) = ⟨g, off + k * 32, none⟩ := by unfold Addr.add; split <;> simp_all
        rw [e1]
        unfold Addr.add
        split <;> simp_all
      rw [hadd] at h3
      rw [h3, ← hj, cellsB_get l j (by rw [hs.1]; exact hj2), List.getD_eq_getElem?_getD, List.getElem?_eq_getElem (by rw [hs.1]; exact hj2)]
      rfl
end Go.Proofs.Ythipdfmaaeoijaa
end
section
namespace Go.Proofs.Ythipdfmaaeoijaa
open Go.RowKit
set_option linter.unusedVariables false
set_option maxRecDepth 20000

/-- What the law's list has: one of them. -/
structure OpE where
  do_ : Int
  id : Nat
  key : List UInt8
def opeC (o : OpE) : List Value := [.int .i64 o.do_] ++ ([.int .u32 (o.id : Int)] ++ (cellsB o.key))
def OpEs (w : World) (v : Value) (l : List OpE) : Prop :=
  ∃ A c, v = .slice A l.length c ∧ l.length ≤ c ∧ c ≤ maxLen ∧ (0 < l.length → ∃ b off, A = some ⟨b, off, none⟩ ∧ ∀ j (hj : j < l.length), w.rangeAt b (off + j * 34) (opeC l[j]) ∧ (-9223372036854775808 ≤ l[j].do_ ∧ l[j].do_ ≤ 9223372036854775807) ∧ l[j].id < 4294967296 ∧ l[j].key.length = 32)
theorem open_opes {H : Type} {enc : TypeId × Value → H} {W : World} {base : Nat} {sp : Nat → Bool} {held : Bool} {fuel : Nat} {cs : List Value} {x : DataW H × List MemPlace} (h : DataW.trod enc Try.prog W base sp held fuel 39 cs = some x) :
    ∃ (v : Value) (l : List OpE), cs = [v] ∧ OpEs W v l := by
  obtain ⟨v, n, f, hcs, ⟨A, c, rfl, h1, h2, h3⟩, hf⟩ := open_rx (sz := 34) (by omega) Try.underlying39 (by kernel_rfl) (fun _ _ _ h _ => h) h
  have each : ∀ j, j < n → ∃ (o : OpE), f j = opeC o ∧ (-9223372036854775808 ≤ o.do_ ∧ o.do_ ≤ 9223372036854775807) ∧ o.id < 4294967296 ∧ o.key.length = 32 := fun j hj => by
    obtain ⟨hfl, m, y, hy⟩ := hf j hj
    obtain ⟨xs, m', _, _, _, hxl, hxe⟩ := DataW.trod_struct Try.underlying41 hy
    have f0 := hxe 0 _ rfl
    have f1 := hxe 1 _ rfl
    have f2 := hxe 2 _ rfl
    have hl0 : xs.length = 3 := hxl
    rw [List.getElem?_eq_getElem (by omega)] at f0 f1 f2
    obtain ⟨z0, c0, _, w0⟩ := DataW.trod_int (k := .i64) Try.underlying3 f0
    obtain ⟨z1, c1, _, w1⟩ := DataW.trod_int (k := .u32) Try.underlying22 f1
    obtain ⟨n1, rfl⟩ := u32_of_wf w1
    obtain ⟨l2, c2, hl2⟩ := open_keyAt Try.underlying32 Try.underlying5 (by kernel_rfl) (by show (List.take 32 (List.drop 2 (f j))).length = 32; rw [List.length_take, List.length_drop, hfl]; first | done | omega) f2
    have e : f j = ((f j).drop 0).take 1 ++ (((f j).drop 1).take 1 ++ (((f j).drop 2).take 32 ++ [])) := by
      have e0 := cut_at (f j) 0 1
      have e1 := cut_at (f j) 1 1
      have e2 := cut_at (f j) 2 32
      have ez : (f j).drop 34 = [] := List.drop_eq_nil_of_le (by omega)
      simp only [Nat.zero_add, Nat.reduceAdd] at e0 e1 e2
      rw [← ez]
      rw [← e2]
      rw [← e1]
      exact (List.drop_zero (l := f j)).symm.trans e0
    have q0 : ((f j).drop 0).take 1 = _ := c0
    have q1 : ((f j).drop 1).take 1 = _ := c1
    have q2 : ((f j).drop 2).take 32 = _ := c2
    rw [q0, q1, q2] at e
    exact ⟨⟨z0, n1.toNat, l2⟩, e.trans (by simp [opeC]), i64_of_wf w0, n1.toNat_lt, hl2⟩
  refine ⟨_, List.ofFn fun i : Fin n => (each i.1 i.2).choose, hcs, A, c, by rw [List.length_ofFn], by rw [List.length_ofFn]; exact h1, h2, fun hl => ?_⟩
  rw [List.length_ofFn] at hl
  obtain ⟨b, off, hA, hc⟩ := h3 hl
  refine ⟨b, off, hA, fun j hj => ?_⟩
  rw [List.length_ofFn] at hj
  rw [List.getElem_ofFn]
  have hs := (each j hj).choose_spec
  have h4 := hc j hj
  rw [hs.1] at h4
  exact ⟨h4, hs.2⟩

end Go.Proofs.Ythipdfmaaeoijaa
end
