/-
  Texts that belong together, merged: ShaT, ShaE, Held, J, ShaF, ShaG, ShaH, AllocB, ShaI. Conditions: as each theorem names them.
-/
import Derived.Test.YtlifjlcfoeednaaDoorQTrlAC
import Derived.Test.YtlifjlcfoeednaaDoorQTrlAA
import Derived.Test.YtlifjlcfoeednaaDoorQTrlAB
import Derived.Deep.MidRow
import Derived.Laws.Cover3
import Derived.Laws.LoneSync
import Derived.Stop.BytesEq
import Derived.Below
section
namespace Go.Proofs.YtlifjlcfoeednaaDoor
open Go.RowKit
set_option linter.unusedVariables false
set_option maxRecDepth 20000

theorem OwnB.lit {w : World} {base : Nat} (e : TypeId) (l : List UInt8) (c : Array Value) (hb : base ≤ w.heap.size) (hc : c.toList = cellsB l) (hm : l.length ≤ maxLen) : OwnB (w.alloc (.cells c e)) base e (.slice (some ⟨w.heap.size, 0, none⟩) l.length l.length) l := by
  have h := World.ownsRow_lit (base := base) (e := e) (size := 1) w c l.length hb hm (by rw [← Array.length_toList, hc, cellsB_length]; omega)
  rw [hc] at h
  exact h

def accP (k : Nat) : List UInt8 := 128 :: List.replicate k 0
theorem accP_length (k : Nat) : (accP k).length = k + 1 := by simp [accP]
theorem accP_succ (k : Nat) : accP (k + 1) = accP k ++ [0] := by simp [accP, List.replicate_succ']
theorem accP_all (n : Nat) (hn : 8 * n < 18446744073709551616) : accP ((119 - n % 64) % 64) ++ highI (8 * n) 8 = padB n := by
  rw [padB, accP, highI, show lowI (8 * n) 8 = lowB (8 * n) 8 from lowI_in _ 8 (by omega) (by omega), Nat.mod_eq_of_lt hn]

theorem refPad_neg (w : World) (n : Int) (h : n < 0) :
    Calls Tryd.prog 43 #[.int .i64 n] w (RetBs w []) := by
  have hd : decide (n < 0) = true := by simp; omega
  go_enter Tryd.func43, Tryd.ntmps43
  go_wp2
  go_ret
  exact ⟨_, rfl, Bs.nil _, Below.refl _ _⟩

set_option maxHeartbeats 1000000 in
theorem refPad_any (w : World) (n : Nat) (hn : n ≤ 200000000000000) :
    Calls Tryd.prog 43 #[.int .i64 (n : Int)] w (RetBs w (padB n)) := by
  have hd : decide ((n : Int) < 0) = false := by simp
  have HA : Hid (accP ((119 - n % 64) % 64) ++ highI (8 * n) 8 = padB n) := accP_all n (by omega)
  obtain ⟨z, hz⟩ : ∃ z, z = (119 - n % 64) % 64 := ⟨_, rfl⟩
  rw [← hz] at HA
  have hzl : z < 64 := by omega
  go_enter Tryd.func43, Tryd.ntmps43
  go_wp2
  have ho : OwnB (w.alloc (.cells #[.int .u8 128] 5)) w.heap.size 5 (.slice (some ⟨w.heap.size, 0, none⟩) 1 1) (accP 0) := OwnB.lit _ [128] _ (Nat.le_refl _) rfl (by unfold maxLen; simp)
  have hb0 : Below w.heap.size w (w.alloc (.cells #[.int .u8 128] 5)) := (Below.refl _ w).alloc (Nat.le_refl _) _
  have HO := Lib.hid ho
  have HB := Lib.hid hb0
  clear ho hb0
  go_loopw [3] (fun v wr => ∃ k : Nat, k ≤ z ∧ OwnB wr w.heap.size 5 v (accP k) ∧ Below w.heap.size w wr) (fun v _ => 100 - (match v with | .slice _ n _ => n | _ => 0))
  case atStart => exact ⟨0, by omega, HO.out, HB.out⟩
  case round =>
    clear HO HB
    obtain ⟨k, hk, hown, hb⟩ := hrel
    have HO := Lib.hid hown
    have HB := Lib.hid hb
    obtain ⟨A, c, rfl, hc1, hc2⟩ := hown.shape
    have hsz := hb.size
    have hlen := accP_length k
    obtain ⟨m, hm⟩ : ∃ m, m = (accP k).length := ⟨_, rfl⟩
    rw [← hm] at HO hc1 ⊢
    have hmk : m = k + 1 := by omega
    clear hown hb hlen
    by_cases hlt : k < z
    · have ht : (((n : Int) + (m : Int) + 8) % 64 != 0) = true := by rw [bne_iff_ne]; omega
      have hml : m ≤ 64 := by omega
      have HM := Lib.hid hm
      have HZ := Lib.hid hz
      have HMK := Lib.hid hmk
      clear hm hz hmk
      go_wp2_with (at_builtin; refine wpList_appB _ rfl (.tmp 14) (.tmp 15) 22 rfl w 5 Tryd.infoB Tryd.underlying22 _ _ (accP k) [0] rfl rfl (HO.out.alloc _) (Bs.lit1 _ _ _ _ rfl) (by rw [← HM.out]; simp; omega) (HB.out.alloc hsz _) ?_; intro v1 w1 hown1 hb1)
      go_roundw
      case rel => exact ⟨k + 1, by omega, by rw [accP_succ]; exact hown1, hb1⟩
      case measure =>
        obtain ⟨A1, c1, rfl, _, _⟩ := hown1.shape
        have := HM.out
        have := HMK.out
        simp only [List.length_append, List.length_singleton]
        omega
    · have hkz : k = z := by omega
      have ht : (((n : Int) + (m : Int) + 8) % 64 != 0) = false := by rw [bne_eq_false_iff_eq]; omega
      have e8 : IntKind.u64.wrap (n : Int) * 8 = ((8 * n : Nat) : Int) := by rw [IntKind.wrap_u64]; omega
      have e9 : (n : Int) * 8 = ((8 * n : Nat) : Int) := by omega
      have HE9 := Lib.hid e9
      rw [hkz] at HO
      have HM := Lib.hid hm
      have hml : m ≤ 64 := by omega
      have HML : Hid (m = (accP z).length) := by show _ = _; rw [← hkz]; exact hm
      clear hm hz hmk hkz e8 e9
      go_wp2_with fail
      rw [HE9.out]
      refine (refHigh_any _ (8 * n) (by omega) 8 (by omega)).mono ?_
      intro e w2 h
      obtain ⟨u, he, hu, b2⟩ := h
      subst he
      have HO2 := Lib.hid (HO.out.below b2)
      have HB2 := Lib.hid (below_size HB.out b2)
      have HU := Lib.hid hu
      have hhl : (highI (8 * n) 8).length ≤ 8 := by rw [highI, List.length_reverse]; exact lowI_length _ _
      clear b2 hu HO HB
      go_wp2_with (at_builtin; refine wpList_appB _ rfl (.tmp 17) (.tmp 21) 22 rfl w 5 Tryd.infoB Tryd.underlying22 _ _ (accP z) (highI (8 * n) 8) rfl rfl HO2.out HU.out (by rw [← HML.out]; omega) HB2.out ?_; intro v1 w3 hown1 hb1)
      go_ret
      rw [HA.out] at hown1
      exact ⟨_, rfl, hown1.bs, hb1⟩

theorem refPad_int (w : World) (n : Int) (h : n ≤ 1000000000) :
    Calls Tryd.prog 43 #[.int .i64 n] w (RetBs w (if n < 0 then [] else padB n.toNat)) := by
  by_cases h0 : n < 0
  · rw [if_pos h0]; exact refPad_neg w n h0
  · rw [if_neg h0]
    have := refPad_any w n.toNat (by omega)
    rwa [Int.toNat_of_nonneg (by omega)] at this
theorem Pad_int (w : World) (n : Int) (h : n ≤ 1000000000) :
    Calls Tryd.prog 38 #[.int .i64 n] w (RetBs w (if n < 0 then [] else padB n.toNat)) := by
  by_cases h0 : n < 0
  · rw [if_pos h0]; exact Pad_neg w n h0
  · rw [if_neg h0]
    have := Pad_any w n.toNat (by omega)
    rwa [Int.toNat_of_nonneg (by omega)] at this
end Go.Proofs.YtlifjlcfoeednaaDoor
end
section
namespace Go.Proofs.YtlifjlcfoeednaaDoor
open Go.RowKit Go.Shelf
attribute [local go_sem] Oper.semAt_some
set_option linter.unusedVariables false
set_option maxRecDepth 20000

/-- What Chunk's function has captured: the bytes, and how many each time. -/
structure Cut (w : World) (b1 b2 b off cap N : Nat) : Prop where
  list : Boxed w b1 22 (.slice (some ⟨b, off, none⟩) (64 * N) cap)
  size : Boxed w b2 3 (.int .i64 64)
def CutAt (b1 b2 : Nat) (k : Nat) : Prop := k = b1 ∨ k = b2
theorem Cut.kept {w w' : World} {b1 b2 b off cap N : Nat} (h : Cut w b1 b2 b off cap N) (hk : KeepsAt (CutAt b1 b2) w w') : Cut w' b1 b2 b off cap N :=
  ⟨(hk b1 (.inl rfl)).trans h.list, (hk b2 (.inr rfl)).trans h.size⟩
theorem Cut.lt {w : World} {b1 b2 b off cap N : Nat} (h : Cut w b1 b2 b off cap N) : ∀ k, CutAt b1 b2 k → k < w.heap.size := by
  rintro k (rfl | rfl)
  · exact h.list.lt
  · exact h.size.lt
theorem Cut.below {w w' : World} {b1 b2 b off cap N : Nat} (h : Cut w b1 b2 b off cap N) (hb : Below w.heap.size w w') : Cut w' b1 b2 b off cap N :=
  h.kept (KeepsAt.of_below hb h.lt)

theorem take_fin (N k : Nat) (h : k < N) : (List.finRange N).take (k + 1) = (List.finRange N).take k ++ [⟨k, h⟩] := by
  rw [List.take_succ_eq_append_getElem (by simpa using h)]
  simp

set_option maxHeartbeats 2000000 in
theorem chunk1_stops (n : Nat) (hn : 1 ≤ n) (b1 b2 b off cap N : Nat) (hcap : 64 * N ≤ cap) (hmax : cap ≤ maxLen) (w : World) (env : Cut w b1 b2 b off cap N) :
    SeqStopsK Fence.wide n Tryd.prog 45 #[.pointer (some ⟨b1, 0, none⟩), .pointer (some ⟨b2, 0, none⟩)]
      (fun x : Fin N => #[.slice (some ⟨b, off + 64 * x.val, none⟩) 64 64]) (KeepsAt (CutAt b1 b2)) (fun ys => ys = List.finRange N) (fun _ => True) N w := by
  intro l J Jx W hW hJ hJx hY h0
  unfold maxLen at hmax
  have env0 : Cut W b1 b2 b off cap N := env.below hW
  have EV := Lib.hid env0
  have HJ := Lib.hid hJ
  have HY := Lib.hid hY
  obtain ⟨L, hL⟩ : ∃ L, L = 64 * N := ⟨_, rfl⟩
  rw [← hL] at hcap
  have HL := Lib.hid hL
  clear env env0 hW hJ hJx hY hL
  refine callsIn_of_wp Tryd.func45 rfl trivial ?_ rfl
  simp only [Tryd.ntmps45, List.size_toArray, List.length_cons, List.length_nil, Nat.reduceAdd, Nat.reduceSub, Array.replicate_succ, Array.replicate_zero, List.push_toArray, List.append_toArray, List.nil_append, List.cons_append]
  gi_wp2
  gi_loopw [4] (fun i wr => ∃ k p : Nat, k ≤ N ∧ Hid (p = 64 * k) ∧ i = .int .i64 p ∧ J ((List.finRange N).take k) wr ∧ Cut wr b1 b2 b off cap N) (fun i _ => L - (intOf i).toNat)
  case atStart => exact ⟨0, 0, Nat.zero_le _, rfl, rfl, h0, EV.out⟩
  case round =>
    clear h0 EV
    obtain ⟨k, p, hk, HP, rfl, hJs, hev⟩ := hrel
    have hd1 := hev.list.cell
    have hd2 := hev.size.cell
    rw [← HL.out] at hd1
    have EV := Lib.hid hev
    have HJs := Lib.hid hJs
    clear hev hJs
    by_cases hlt : k < N
    · obtain ⟨fn, tmps, assign, body, hy, hR⟩ := HY.out _ ⟨k, hlt⟩ wr.drew (HJ.out _ _ _ none HJs.out (grown_of_below (Below.refl _ _).drew) (fun r e => by cases e)) (by simp; omega)
      have hpl : p + 64 ≤ L := by have := HP.out; have := HL.out; omega
      have hne : ¬ cap = p := by omega
      have hlt2 : (p : Int) < (L : Int) := by omega
      dsimp only at hy
      have hoff : off + 64 * k = off + p := by have := HP.out; omega
      rw [hoff] at hy
      have hd3 : wr.drew.cell? ⟨b1, 0, none⟩ = some (.slice (some ⟨b, off, none⟩) L cap) := hd1
      have hd4 : wr.drew.cell? ⟨b2, 0, none⟩ = some (.int .i64 64) := hd2
      have hle1 : (p : Int) ≤ (L : Int) := by omega
      have hmin : (64 : Int) ≤ ((L - p : Nat) : Int) := by omega
      have hpl2 := hpl
      gi_wp2
      gi_region
      all_goals (
        have hmn : ¬ (((L - p : Nat) : Int) < 64) := by omega
        try simp only [if_neg hmn]
        gi_wp2
        refine hR.mono ?_
        rintro e W3 (⟨rfl, hJ3, hk3⟩ | ⟨rfl, hJx3⟩)
        · have EV3 := (EV.out.below (Below.refl _ _).drew).kept hk3
          have hd5 := EV3.size.cell
          gi_wp2
          go_roundw
          case rel => exact ⟨k + 1, p + 64, by omega, by have := HP.out; show p + 64 = _; omega, by go_num, by rw [take_fin N k hlt]; exact hJ3, EV3⟩
          case measure => simp [intOf]; omega
        · gi_wp2
          refine bodyPost_ret (results_none rfl _ _ _) rfl ?_
          exact ⟨⟨_, rfl⟩, .inr ⟨_, trivial, hJx3⟩⟩)
    · have hpl : p = L := by
        have h1 := HP.out
        have h2 := HL.out
        have h3 : k = N := by omega
        subst h3; omega
      have hge : ¬ (p : Int) < (L : Int) := by omega
      have hkN : (List.finRange N).take k = List.finRange N := List.take_of_length_le (by simp; omega)
      have HJ5 : Hid (J (List.finRange N) wr) := by rw [← hkN]; exact HJs
      gi_wp2
      go_end0
      exact ⟨⟨_, rfl⟩, .inl HJ5.out⟩

set_option maxHeartbeats 400000 in
theorem chunk_any (w : World) (b off cap N : Nat) :
    Calls Tryd.prog 37 #[.slice (some ⟨b, off, none⟩) (64 * N) cap, .int .i64 64] w fun e w' => ∃ b1 b2 : Nat,
      e = .returned (.func (.func 45) #[] #[.pointer (some ⟨b1, 0, none⟩), .pointer (some ⟨b2, 0, none⟩)]) ∧ Cut w' b1 b2 b off cap N ∧ (w.heap.size ≤ b1 ∧ w.heap.size ≤ b2) ∧ Below w.heap.size w w' := by
  go_enter Tryd.func37, Tryd.ntmps37
  go_wp2
  go_ret
  have bb : Below w.heap.size w (w.alloc (.cells #[.slice (some ⟨b, off, none⟩) (64 * N) cap] 22)) := (Below.refl _ _).alloc (Nat.le_refl _) _
  have h2 := Boxed.new (w.alloc (.cells #[.slice (some ⟨b, off, none⟩) (64 * N) cap] 22)) 3 (.int .i64 64)
  rw [World.size_alloc] at h2
  exact ⟨w.heap.size, w.heap.size + 1, rfl, ⟨(Boxed.new w 22 (.slice (some ⟨b, off, none⟩) (64 * N) cap)).alloc _, h2⟩, ⟨Nat.le_refl _, Nat.le_succ _⟩, bb.alloc bb.size _⟩
end Go.Proofs.YtlifjlcfoeednaaDoor
end
section
namespace Go.Proofs.YtlifjlcfoeednaaDoor
open Go.RowKit
set_option linter.unusedVariables false

theorem plain_region {P : Program} {ops : Array Oper} {Q : Exit → Act → World → Prop} {id : Nat} {a : Act} {w : World} {S : World → Prop} {fin : Nat → Bool} (hm : P.follows .mixedOrders = true)
    (h : walkS P .any ops Q S fin ops.size (Array.replicate ops.size false) a w.drew) : (Code.region id ops true).wp P Q a w := wp_region_any hm (any_of_walkS _ _ _ _ h)
/-- A whole array is read: what the operation yields. -/
theorem run_load_row {P : Program} {o : Oper} {a : Act} {w : World} (ty : TypeId) (x : Operand) (ho : o.op = .load ty x)
    (g : Nat) (hx : a.eval x = .pointer (some ⟨g, 0, none⟩)) (t : TypeId) (cs : Array Value) (fr : Nat × Nat) (d : TypeDesc) (hg : w.heap[g]? = some (.cells cs t fr))
    (hu : P.underlying ty = some d) (hd : (match d with | .struct _ | .array _ _ => true | _ => false) = true) (hi : (P.info? ty).map (·.size) = some cs.size) : (execOp a.eval o).run P w = .ok (.value (.agg cs)) w := by
  unfold execOp
  simp only [ho, hx, Instr.loadAt, Instr.sureAddr, Sem.run_bind, Sem.run_pure, Result.andThen_ok, run_loadVar_row w g t ty cs fr d hg hu hd hi]
end Go.Proofs.YtlifjlcfoeednaaDoor
end
section
namespace Go.Proofs.YtlifjlcfoeednaaDoor
open Go.RowKit
set_option linter.unusedVariables false
set_option maxRecDepth 20000

/-- The slice value v reads as the lists ls. -/
def Bss (w : World) (v : Value) (ls : List (List UInt8)) : Prop :=
  ∃ A c, v = .slice A ls.length c ∧ ls.length ≤ c ∧ c ≤ maxLen ∧
    (0 < ls.length → ∃ b off, A = some ⟨b, off, none⟩ ∧ ∀ j (h : j < ls.length), ∃ u, w.cell? ⟨b, off + j, none⟩ = some u ∧ Bs w u ls[j])

/-- A result that is bytes in a row of the call's own. -/
def RetOwn (w : World) (t : TypeId) (l : List UInt8) (e : Ending) (w' : World) : Prop := ∃ v, e = .returned v ∧ OwnB w' w.heap.size t v l ∧ Below w.heap.size w w'
theorem Bss.keep {w w' : World} {v : Value} {ls : List (List UInt8)} (h : Bss w v ls) (hb : Below w.heap.size w w') : Bss w' v ls := by
  obtain ⟨A, c, hv, h1, h2, h3⟩ := h
  refine ⟨A, c, hv, h1, h2, fun hl => ?_⟩
  obtain ⟨b, off, hA, hc⟩ := h3 hl
  refine ⟨b, off, hA, fun j hj => ?_⟩
  obtain ⟨u, hu, hbu⟩ := hc j hj
  exact ⟨u, (hb.cell (World.block_lt_of_cell? w _ hu)).trans hu, hbu.below hb⟩

/-- A list of lists that a call's own arguments have just made. -/
theorem Bss.lit (w : World) (e : TypeId) (vs : List Value) (ls : List (List UInt8)) (hl : vs.length = ls.length) (hm : ls.length ≤ maxLen) (h : ∀ j (h1 : j < vs.length) (h2 : j < ls.length), Bs w vs[j] ls[j]) :
    Bss (w.alloc (.cells vs.toArray e)) (.slice (some ⟨w.heap.size, 0, none⟩) ls.length ls.length) ls := by
  refine ⟨_, _, rfl, Nat.le_refl _, hm, fun _ => ⟨w.heap.size, 0, rfl, fun j hj => ⟨vs[j]'(by omega), ?_, (h j (by omega) hj).alloc _⟩⟩⟩
  rw [Nat.zero_add, World.cell?_alloc_at _ _ _ _ rfl]
  simp [hl, hj]

theorem Bs.cut {w : World} {A : Option Addr} {n c : Nat} {l : List UInt8} (h : Bs w (.slice A n c) l) (k : Nat) (hk : k ≤ l.length) :
    Bs w (.slice (if c = k then A else Option.map (fun x => x.add k) A) (l.length - k) (c - k)) (l.drop k) := by
  obtain ⟨A', c', hv, h1, h2, h3⟩ := h
  injection hv with e1 e2 e3
  subst e1 e2 e3
  have hl : (l.drop k).length = l.length - k := List.length_drop
  refine ⟨_, c - k, by rw [hl], by rw [hl]; omega, by omega, fun h0 => ?_⟩
  rw [hl] at h0
  obtain ⟨b, off, rfl, hc⟩ := h3 (by omega)
  have hadd : (⟨b, off, none⟩ : Addr).add k = ⟨b, off + k, none⟩ := by unfold Addr.add; split <;> simp_all
  refine ⟨b, off + k, by rw [if_neg (by omega)]; simp [hadd], fun j hj => ?_⟩
  rw [hl] at hj
  rw [Nat.add_assoc, hc (k + j) (by omega), List.getElem_drop]
theorem Bss.drew {w : World} {v : Value} {ls : List (List UInt8)} (h : Bss w v ls) : Bss w.drew v ls := h
theorem Bss.two (w : World) (e : TypeId) (u v : Value) (a b : List UInt8) (ha : Bs w u a) (hb : Bs w v b) :
    Bss (w.alloc (.cells #[u, v] e)) (.slice (some ⟨w.heap.size, 0, none⟩) 2 2) [a, b] :=
  Bss.lit w e [u, v] [a, b] rfl (by simp [maxLen]) (fun j h1 h2 => by
    match j, h1 with
    | 0, _ => exact ha
    | 1, _ => exact hb)
theorem Bss.three (w : World) (e : TypeId) (u v x : Value) (a b c : List UInt8) (ha : Bs w u a) (hb : Bs w v b) (hc : Bs w x c) :
    Bss (w.alloc (.cells #[u, v, x] e)) (.slice (some ⟨w.heap.size, 0, none⟩) 3 3) [a, b, c] :=
  Bss.lit w e [u, v, x] [a, b, c] rfl (by simp [maxLen]) (fun j h1 h2 => by
    match j, h1 with
    | 0, _ => exact ha
    | 1, _ => exact hb
    | 2, _ => exact hc)

theorem flat_take (ls : List (List UInt8)) (k : Nat) (h : k < ls.length) : (ls.take (k + 1)).flatten = (ls.take k).flatten ++ ls[k] := by
  rw [List.take_succ_eq_append_getElem h, List.flatten_append]
  simp
theorem flat_le (ls : List (List UInt8)) (k : Nat) : (ls.take k).flatten.length ≤ ls.flatten.length := by
  have h : ls.flatten = (ls.take k).flatten ++ (ls.drop k).flatten := by rw [← List.flatten_append, List.take_append_drop]
  rw [h, List.length_append]
  omega

set_option maxHeartbeats 1000000 in
theorem Join_own (w : World) (v : Value) (ls : List (List UInt8)) (h : Bss w v ls) (hl : ls.flatten.length ≤ 140737488355328) (hn : ls.length ≤ 1000000000000) :
    Calls Tryd.prog 32 #[v] w (RetOwn w 5 ls.flatten) := by
  obtain ⟨i0, hi, hz0, hz1, hz2⟩ := info_parts Tryd.infoB
  obtain ⟨A, c, rfl, h1, h2, h3⟩ := h
  unfold maxLen at h2
  go_enter Tryd.func32, Tryd.ntmps32
  go_wp2
  go_loop [3, 11] (fun n i => ∃ k q : Nat, k ≤ ls.length ∧ i = .int .i64 k ∧ q = (ls.take k).flatten.length ∧ n = .int .i64 (q : Int)) (fun _ i => ls.length - (intOf i).toNat)
  case atStart => exact ⟨0, 0, Nat.zero_le _, rfl, by simp, rfl⟩
  case round =>
    obtain ⟨k, q, hk, rfl, hq, rfl⟩ := hrel
    have hqb : q ≤ ls.flatten.length := by rw [hq]; exact flat_le ls k
    have HQ := Lib.hid hq
    clear hq
    by_cases hlt : k < ls.length
    · obtain ⟨b0, o0, rfl, hc⟩ := h3 (by omega)
      obtain ⟨u, hcell, ⟨Ak, ck, rfl, hk1, hk2, hk3⟩⟩ := hc k hlt
      have HT : Hid ((ls.take (k + 1)).flatten.length = q + ls[k].length) := by
        show _ = _
        rw [flat_take ls k hlt, List.length_append, ← HQ.out]
      have hb2 : q + ls[k].length ≤ ls.flatten.length := by rw [← HT.out]; exact flat_le ls (k + 1)
      clear hc h3 hk3
      go_wp2
      go_round
      case rel => exact ⟨k + 1, q + ls[k].length, by omega, by go_num, HT.out.symm, by go_num⟩
      case measure => simp [intOf]; omega
    · have hfin : q = ls.flatten.length := by have := HQ.out; rwa [List.take_of_length_le (by omega)] at this
      have HF := Lib.hid hfin
      have hq2 : ls.flatten.length ≤ q := by omega
      clear hfin
      go_wp2_with ((with_reducible refine wpList_make_own _ rfl (.const (.int .i64 0)) (.tmp 20) 22 rfl w.heap.size 5 i0 (.int .u8 0) 1 Tryd.underlying22 hi hz0 hz1 .i64 .i64 (q : Int) q (by with_unfolding_all rfl) (by with_unfolding_all rfl) rfl (by rw [hz2]; omega) (by unfold maxLen; omega) (Nat.le_refl _) ?_); intro w1 hown hgrow)
      have hown0 : OwnB w1 w.heap.size 5 (.slice (some ⟨w.heap.size, 0, none⟩) 0 q) (ls.take 0).flatten := hown
      have hbel : Below w.heap.size w w1 := (Below.refl _ _).grown hgrow (Nat.le_refl _) (fun k h => by cases h)
      clear hown hgrow
      go_loopw [6, 24] (fun v i wr => ∃ k : Nat, k ≤ ls.length ∧ i = .int .i64 k ∧ OwnB wr w.heap.size 5 v (ls.take k).flatten ∧ Below w.heap.size w wr) (fun _ i _ => ls.length - (intOf i).toNat)
      case atStart => exact ⟨0, Nat.zero_le _, rfl, hown0, hbel⟩
      case round =>
        clear hown0 hbel HQ hk
        obtain ⟨j, hj, rfl, hown, hb⟩ := hrel
        have HO := Lib.hid hown
        have HB := Lib.hid hb
        clear hown hb
        by_cases hlt2 : j < ls.length
        · obtain ⟨b0, o0, rfl, hc⟩ := h3 (by omega)
          obtain ⟨u, hcell, hu⟩ := hc j hlt2
          have hcell2 : wr.cell? ⟨b0, o0 + j, none⟩ = some u := (HB.out.cell (p := ⟨b0, o0 + j, none⟩) (World.block_lt_of_cell? w _ hcell)).trans hcell
          have HU := Lib.hid (hu.below HB.out)
          have HT := Lib.hid (flat_take ls j hlt2)
          have HLn : Hid ((ls.take j).flatten.length + ls[j].length ≤ 140737488355328) := by
            show _ ≤ _
            have := flat_le ls (j + 1)
            rw [flat_take ls j hlt2, List.length_append] at this
            omega
          clear hc h3 hcell hu
          go_wp2_with (at_builtin; refine wpList_appB _ rfl (.tmp 28) (.tmp 29) 22 rfl w 5 Tryd.infoB Tryd.underlying22 _ _ (ls.take j).flatten ls[j] rfl rfl HO.out HU.out HLn.out HB.out ?_; intro v2 w2 hown2 hb2)
          go_roundw
          case rel => exact ⟨j + 1, by omega, by go_num, by rw [HT.out]; exact hown2, hb2⟩
          case measure => simp [intOf]; omega
        · have HO2 : Hid (OwnB wr w.heap.size 5 u6 ls.flatten) := by
            have := HO.out; rwa [List.take_of_length_le (by omega)] at this
          go_wp2
          go_ret
          exact ⟨_, rfl, HO2.out, HB.out⟩
theorem Join_any (w : World) (v : Value) (ls : List (List UInt8)) (h : Bss w v ls) (hl : ls.flatten.length ≤ 140737488355328) (hn : ls.length ≤ 1000000000000) :
    Calls Tryd.prog 32 #[v] w (RetBs w ls.flatten) :=
  (Join_own w v ls h hl hn).mono fun _ _ ⟨u, he, ho, hb⟩ => ⟨u, he, ho.bs, hb⟩
end Go.Proofs.YtlifjlcfoeednaaDoor
end
section
namespace Go.Proofs.YtlifjlcfoeednaaDoor
open Go.RowKit Go.Shelf
attribute [local go_sem] Oper.semAt_some
set_option linter.unusedVariables false
set_option maxRecDepth 20000

theorem squares_range {w : World} (h : Tabs w) : w.rangeAt 0 0 (cellsW squaresW) := by
  intro j v hv
  have hj : j < squaresW.length := by
    rcases Nat.lt_or_ge j squaresW.length with hlt | hge
    · exact hlt
    · rw [List.getElem?_eq_none (by rw [cellsW_length]; exact hge)] at hv; cases hv
  have h8 := h.squares j (by rw [squaresW_length] at hj; exact hj)
  rw [Nat.zero_add, h8]
  rw [← hv]
  simp [cellsW, List.getD_eq_getElem?_getD, hj]
theorem block_range {w : World} {b off : Nat} {l : List UInt8} (hc : ∀ j (h : j < l.length), w.cell? ⟨b, off + j, none⟩ = some (.int .u8 (l[j].toNat : Int))) (k : Nat) (hk : 64 * k + 64 ≤ l.length) :
    w.rangeAt b (off + 64 * k) (cellsB ((l.drop (64 * k)).take 64)) := by
  intro j v hv
  have hj : j < 64 := by
    rcases Nat.lt_or_ge j 64 with hlt | hge
    · exact hlt
    · rw [List.getElem?_eq_none (by rw [cellsB_length, List.length_take]; omega)] at hv; cases hv
  rw [Nat.add_assoc, hc (64 * k + j) (by omega), ← hv]
  have hj2 : 64 * k + j < l.length := by omega
  simp [cellsB, hj, hj2]
/-- A post without panics. -/
def NoPanic (Q : Exit → Act → World → Prop) : Exit → Act → World → Prop
  | .panic _, _, _ => False
  | e, a, w => Q e a w
theorem NoPanic.out {Q : Exit → Act → World → Prop} : ∀ (e : Exit) (a : Act) (w : World), NoPanic Q e a w → Q e a w := by
  intro e a w h
  cases e <;> first | exact h | exact h.elim
theorem Tryd.size32F : (Tryd.prog.info? 25).map (·.size) = some 1 := by kernel_rfl
theorem wordsC_same8 {a b : List UInt32} {n : Nat} (ha : a.length = n) (hb : b.length = n) : (wordsC a).size = (wordsC b).size := by rw [wordsC_size, wordsC_size, ha, hb]
theorem bytesOfW_snoc (l : List UInt32) (x : UInt32) : bytesOfW (l ++ [x]) = bytesOfW l ++ (lowB x.toNat 4).reverse := by simp [bytesOfW]
def stepB (all : List UInt8) (N : Nat) (st : List UInt32) (x : Fin N) : List UInt32 := blockW st ((all.drop (64 * x.val)).take 64)
theorem foldl_length (all : List UInt8) (N : Nat) (pre : List (Fin N)) (st : List UInt32) (h : st.length = 8) : (pre.foldl (stepB all N) st).length = 8 := by
  induction pre generalizing st with
  | nil => exact h
  | cons x pre ih => exact ih _ (blockW_length _ _ h)
theorem foldl_all (all : List UInt8) (N : Nat) (st : List UInt32) : (List.finRange N).foldl (stepB all N) st = foldB st all N := by
  have h : ∀ k, k ≤ N → ((List.finRange N).take k).foldl (stepB all N) st = foldB st all k := by
    intro k
    induction k with
    | zero => intro _; simp [foldB]
    | succ k ih =>
      intro hk
      rw [take_fin N k (by omega), List.foldl_append, ih (by omega)]
      rfl
  have h2 := h N (Nat.le_refl _)
  rwa [List.take_of_length_le (by simp)] at h2
theorem run_load_midO {P : Program} {o : Oper} {a : Act} {w : World} (ty : TypeId) (x : Operand) (ho : o.op = .load ty x)
    (b off : Nat) (hx : a.eval x = .pointer (some ⟨b, off, none⟩)) (cs : List Value) (d : TypeDesc) (hc : w.rangeAt b off cs)
    (hu : P.underlying ty = some d) (hd : d.isRow = true) (hi : (P.info? ty).map (·.size) = some cs.length) : (execOp a.eval o).run P w = .ok (.value (.agg cs.toArray)) w := by
  unfold execOp
  simp only [ho, hx, Instr.loadAt, Instr.sureAddr, Sem.run_bind, Sem.run_pure, Result.andThen_ok, run_loadVar_mid w b off ty cs d hc hu hd hi]
theorem paddedB_blocks (l : List UInt8) : ∃ N, (paddedB l).length = 64 * N ∧ 1 ≤ N ∧ 64 * N ≤ l.length + 72 := by
  have h : (paddedB l).length = l.length + (9 + (119 - l.length % 64) % 64) := by rw [paddedB, List.length_append, padB_length]
  exact ⟨(paddedB l).length / 64, by omega, by omega, by omega⟩

set_option maxHeartbeats 2000000 in
theorem digest_any (w : World) (ht : Tabs w) (v : Value) (l : List UInt8) (hb : Bs w v l) (hl : l.length ≤ 140737488355200) :
    Calls Tryd.prog 33 #[v] w (RetV w (keyV (digestB l))) := by
  have HV := Lib.hid hb
  have HT := Lib.hid ht
  obtain ⟨A, c, rfl, h1, h2, h3⟩ := hb
  unfold maxLen at h2
  obtain ⟨N, hN, hN1, hN2⟩ := paddedB_blocks l
  have HN := Lib.hid hN
  have hdig : Hid (digestB l = bytesOfW (foldB squaresW (paddedB l) N)) := by
    show _ = _
    rw [digestB, hN, Nat.mul_div_cancel_left _ (by omega)]
  clear h3 ht hN
  refine (callsIn_wide (n := 3)).1 ?_
  refine callsIn_of_wp_marks Tryd.func33 rfl trivial ?_ rfl
  simp only [Tryd.ntmps33, List.size_toArray, List.length_cons, List.length_nil, Nat.reduceAdd, Nat.reduceSub, Array.replicate_succ, Array.replicate_zero, List.push_toArray, List.append_toArray, List.nil_append, List.cons_append]
  refine wpIn_wide.2 ?_
  go_wp2_with (first
    | ((with_reducible refine wpList_alloc_row (o := ⟨some 2, _, _, _, _, _⟩) rfl 24 rfl (keyC zeroKey) Tryd.zeroK ?_); intro g1 w1 n1)
    | (with_reducible refine wpList_load_mid (op := ⟨some 8, _, _, _, _, _⟩) rfl 90 (.global 0) rfl 0 0 (by with_unfolding_all rfl) (cellsW squaresW) (.array 8 25) (by with_unfolding_all exact squares_range (HT.out.below n1.below)) Tryd.underlying90 rfl (by with_unfolding_all exact Tryd.size8l squaresW squaresW_length) ?_)
    | ((with_reducible refine wpList_alloc_row (o := ⟨some 3, _, _, _, _, _⟩) rfl 90 rfl (wordsC (List.replicate 8 0)) Tryd.zero8 ?_); intro g3 w3 n3)
    | ((with_reducible refine wpList_store_row (o := ⟨none, _, _, _, _, _⟩) rfl 90 (.tmp 3) (.tmp 8) rfl g3 90 _ (wordsC squaresW) (by with_unfolding_all rfl) (by with_unfolding_all rfl) n3.row (wordsC_same8 (by simp) squaresW_length) (Tryd.size8l squaresW squaresW_length) (wordsC_one squaresW) ?_); intro w4 p4))
  have z1 := n1.size
  have z3 := n3.size
  have e1 := n1.spot
  have e3 := n3.spot
  have b3 := (laid_put n3 p4).1
  have R1 := Lib.hid (n1.row.kept b3)
  have R3 := Lib.hid p4.row
  have B4 := Lib.hid (below_size n1.below b3)
  have hg1 : w.heap.size ≤ g1 := by omega
  have h13 : g1 < g3 := by omega
  clear n1 n3 p4 b3 z1 z3 e1 e3
  refine (Pad_any _ l.length (by omega)).mono ?_
  rintro e w5 ⟨u5, rfl, hu5, b5⟩
  have HU5 := Lib.hid hu5
  have HV5 := Lib.hid (HV.out.below (below_size B4.out b5))
  have R15 := Lib.hid (R1.out.kept b5)
  have R35 := Lib.hid (R3.out.kept b5)
  have B5 := Lib.hid (below_size B4.out b5)
  obtain ⟨A5, c5, rfl, m1, m2, _⟩ := hu5
  clear b5 R1 R3 B4
  go_wp2_with fail
  refine (Join_any _ _ [l, padB l.length] (Bss.two _ _ _ _ _ _ HV5.out HU5.out) (by simp [padB_length]; omega) (by simp)).mono ?_
  rintro e w6 ⟨u6, rfl, hu6, b6⟩
  have b6' := below_size ((Below.refl _ w5).alloc (Nat.le_refl _) _) b6
  have hflat : [l, padB l.length].flatten = paddedB l := by simp [paddedB]
  rw [hflat] at hu6
  have R16 := Lib.hid (R15.out.kept b6')
  have R36 := Lib.hid (R35.out.kept b6')
  have B6 := Lib.hid (below_size B5.out b6')
  obtain ⟨A2, c2, rfl, k1, k2, k3⟩ := hu6
  have hNl := HN.out
  obtain ⟨bb, oo, rfl, hcells⟩ := k3 (by omega)
  rw [hNl] at k1 ⊢
  have HC6 := Lib.hid hcells
  clear hcells k3 hflat b6 b6' R15 R35 B5 HU5 HV5
  go_wp2_with fail
  refine (chunk_any _ bb oo c2 N).mono ?_
  rintro e w7 ⟨q1, q2, rfl, cut, ⟨hq1, hq2⟩, b7⟩
  have R17 := Lib.hid (R16.out.kept b7)
  have R37 := Lib.hid (R36.out.kept b7)
  have B7 := Lib.hid (below_size B6.out b7)
  have CUT := Lib.hid cut
  have lt3 := R36.out.lt
  have lt1 := R16.out.lt
  have HC7 : Hid (∀ (x : Nat) (W : World), KeepsAt (fun k => k = bb) w7 W → x < N → W.rangeAt bb (oo + 64 * x) (cellsB (((paddedB l).drop (64 * x)).take 64))) := fun x W hk hx => block_range (fun j hj => (World.cell?_of_block (w := w7) (w' := W) (a := ⟨bb, oo + j, none⟩) (hk bb rfl)).trans ((b7.cell (p := ⟨bb, oo + j, none⟩) (World.block_lt_of_cell? w6 _ (HC6.out j hj))).trans (HC6.out j hj))) x (by rw [HN.out]; omega)
  have ltb : bb < w7.heap.size := Nat.lt_of_lt_of_le (World.block_lt_of_cell? w6 _ (HC6.out 0 (by rw [HN.out]; omega))) b7.size
  have hb3 : bb ≠ g3 := fun e => by
    have h0 := HC6.out 0 (by rw [HN.out]; omega)
    rw [e, R36.out.cell] at h0
    have h1 := Array.mem_of_getElem? h0
    simp [wordsC, cellsW] at h1
  clear cut b7 R16 R36 B6 HC6
  have l3 := R37.out.lt
  have l1 := R17.out.lt
  go_wp2_with fail
  refine (wpIn_wide (n := 3)).1 ?_
  refine wpIn_rangeFunc_ownH (F := Fence.wide) rfl (by omega) (gf := 45) (lb := #[.pointer (some ⟨q1, 0, none⟩), .pointer (some ⟨q2, 0, none⟩)]) rfl trivial (enters_of Tryd.func45 (by kernel_rfl) rfl)
    (chunk1_stops 2 (by omega) q1 q2 bb oo c2 N k1 k2 w7 CUT.out) keepsAt_t (keepsAt_b CUT.out.lt) (Below.refl _ _) (fun _ => rfl)
    (fun pre W => RowAt W g3 90 (wordsC (pre.foldl (stepB (paddedB l) N) squaresW)) ∧ RowAt W g1 24 (keyC zeroKey) ∧ KeepsAt (fun k => k = bb) w7 W ∧ Below w.heap.size w W ∧ w7.heap.size ≤ W.heap.size)
    (fun _ _ _ => False)
    (fun s X Y row hs hg hr => by
      obtain ⟨i1, i2, i3, i4, i5⟩ := hs
      have hne : ∀ g, g < w7.heap.size → some g ≠ row := fun g hgl e => by have := (hr g e.symm).1; omega
      exact ⟨i1.grown hg (hne _ l3), i2.grown hg (hne _ l1), i3.trans (KeepsAt.of_grown hg (fun k hk => by subst hk; exact ⟨by omega, hne _ ltb⟩)), i4.grown hg (by have := B7.out.size; omega) (fun k e => by have := (hr k e).1; have := B7.out.size; omega), Nat.le_trans i5 hg.size⟩)
    (fun _ _ _ _ _ hs _ _ => hs)
    ⟨R37.out, R17.out, KeepsAt.refl _ _, B7.out, Nat.le_refl _⟩
    (fun x a' W => a' = { tmps := #[.slice A l.length c, undef, .pointer (some ⟨g1, 0, none⟩), .pointer (some ⟨g3, 0, none⟩), .slice (some ⟨bb, oo + 64 * x.val, none⟩) 64 64, undef, undef, undef, .agg (cellsW squaresW).toArray, .slice A l.length c, .slice A l.length c, .int .i64 (l.length : Int), .slice A5 (padB l.length).length c5, .slice (some ⟨w5.heap.size, 0, none⟩) 2 2, .slice (some ⟨bb, oo, none⟩) (64 * N) c2, .func (.func 45) #[] #[.pointer (some ⟨q1, 0, none⟩), .pointer (some ⟨q2, 0, none⟩)], .slice (some ⟨bb, oo + 64 * x.val, none⟩) 64 64, undef, undef, undef, undef, undef, undef, undef, undef, undef, undef, undef, undef, undef, undef, undef, undef, undef, undef, undef], defers := [] })
    (fun x a' _ X Y row hs hg hr => hs)
    ?assign ?body ?done ?stop
  case assign =>
    rintro lo pre x W K hI hK
    gi_wp2
    exact hK _ _ ((KeepsOthers.of_below (Below.refl _ _)).from _) (KeepsAt.refl _ _) hI rfl
  case body =>
    rintro lo pre x a' W hlo hrec ⟨i1, i2, i3, i4, i5⟩ rfl hlt
    obtain ⟨st, hst⟩ : ∃ st, st = pre.foldl (stepB (paddedB l) N) squaresW := ⟨_, rfl⟩
    have hsl : st.length = 8 := by rw [hst]; exact foldl_length _ _ _ _ squaresW_length
    obtain ⟨bk, hbk⟩ : ∃ bk, bk = ((paddedB l).drop (64 * x.val)).take 64 := ⟨_, rfl⟩
    have hxN := x.isLt
    have hbl : bk.length = 64 := by rw [hbk, List.length_take, List.length_drop, HN.out]; omega
    have hnext : (pre ++ [x]).foldl (stepB (paddedB l) N) squaresW = blockW st bk := by rw [List.foldl_append, hst, hbk]; rfl
    have HR : Hid (∀ W', KeepsAt (fun k => k = bb) w7 W' → W'.rangeAt bb (oo + 64 * x.val) (cellsB bk)) := fun W' hk => by rw [hbk]; exact HC7.out x.val W' hk hxN
    rw [← hst] at i1
    have HNX := Lib.hid hnext
    have HSL := Lib.hid hsl
    have HBL := Lib.hid hbl
    have I2 := Lib.hid i2
    have I4 := Lib.hid i4
    clear hnext hsl hbl hst hbk i2 i4 hrec hlt
    gi_wp2
    refine round_region (S := fun W' => RowAt W' g3 90 (wordsC st) ∧ KeepsAt (fun k => k = bb) w7 W') (fin := fun j => j == 5) (by kernel_rfl) (by kernel_rfl) (by rintro ⟨_, _, h⟩; exact h) ?_
    have hS : RowAt W.drew g3 90 (wordsC st) ∧ KeepsAt (fun k => k = bb) w7 W.drew := ⟨i1, i3⟩
    change walkS _ _ _ _ _ _ 6 _ _ _
    refine walkS_take (i := 0) (oi := ⟨some 17, _, _, _, _, _⟩) (v := .agg (wordsC st)) rfl (by kernel_rfl) (by kernel_rfl) (fun _ _ _ h => h) _ _ _ _ (by kernel_rfl) (by kernel_rfl) (Or.inl ⟨by rfl, fun w' hS' => run_load_row _ (.tmp 3) rfl g3 rfl _ (wordsC st) (0, 0) (.array 8 25) hS'.1 Tryd.underlying90 rfl (Tryd.size8l st HSL.out)⟩) hS ?_
    simp only [Act.put, List.setIfInBounds_toArray, List.set_cons_zero, List.set_cons_succ]
    refine walkS_take (i := 1) (oi := ⟨some 18, _, _, _, _, _⟩) (v := .slice (some ⟨bb, oo + 64 * x.val, none⟩) 64 64) rfl (by kernel_rfl) (by kernel_rfl) (fun _ _ _ h => h) _ _ _ _ (by kernel_rfl) (by kernel_rfl) (Or.inl ⟨by rfl, fun w' hS' => (by clear hS hS' i1 i3; go_simp)⟩) hS ?_
    simp only [Act.put, List.setIfInBounds_toArray, List.set_cons_zero, List.set_cons_succ]
    refine walkS_take (i := 2) (oi := ⟨some 19, _, _, _, _, _⟩) (v := .pointer (some ⟨bb, oo + 64 * x.val, none⟩)) rfl (by kernel_rfl) (by kernel_rfl) (fun _ _ _ h => h) _ _ _ _ (by kernel_rfl) (by kernel_rfl) (Or.inl ⟨by rfl, fun w' hS' => (by have ha := run_arrayAt (P := Tryd.prog) w' 96 5 64 (some ⟨bb, oo + 64 * x.val, none⟩) 64 64 Tryd.underlying96 (Nat.le_refl _); clear hS hS' i1 i3; go_simp)⟩) hS ?_
    simp only [Act.put, List.setIfInBounds_toArray, List.set_cons_zero, List.set_cons_succ]
    refine walkS_take (i := 3) (oi := ⟨some 20, _, _, _, _, _⟩) (v := .agg (keyC bk)) rfl (by kernel_rfl) (by kernel_rfl) (fun _ _ _ h => h) _ _ _ _ (by kernel_rfl) (by kernel_rfl) (Or.inl ⟨by rfl, fun w' hS' => run_load_midO _ (.tmp 19) rfl bb (oo + 64 * x.val) rfl (cellsB bk) (.array 64 5) (HR.out _ hS'.2) Tryd.underlying96 rfl (by rw [cellsB_length, HBL.out]; exact Tryd.size64b0)⟩) hS ?_
    simp only [Act.put, List.setIfInBounds_toArray, List.set_cons_zero, List.set_cons_succ]
    refine walkS_only (i := 4) (o := ⟨some 21, _, _, _, _, _⟩) (by kernel_rfl) rfl rfl fun K hK => ?_
    clear hS
    have HT4 : Hid (Tabs W.drew) := HT.out.below I4.out.drew
    have J1 := Lib.hid i1
    have J3 := Lib.hid i3
    clear i1 i3
    go_simp
    refine (Block_any _ HT4.out st bk HSL.out HBL.out).mono ?_
    rintro e W1 ⟨rfl, b1⟩
    have b1' : Below W.heap.size W W1 := below_size (Below.refl _ _).drew b1
    have hk1 : KeepsAt (fun k => k = bb) W W1 := KeepsAt.of_below b1' (fun k hk => by subst hk; omega)
    have hR1 := J1.out.kept b1'
    refine hK _ _ (.inr ⟨hR1, J3.out.trans hk1⟩) ?_
    clear hK K
    refine walkS_only (i := 5) (o := ⟨none, _, _, _, _, _⟩) (by kernel_rfl) rfl rfl fun K hK => ?_
    refine wp_store_row 90 (.tmp 3) (.tmp 21) rfl g3 90 (wordsC st) (wordsC (blockW st bk)) rfl rfl hR1 (wordsC_same8 HSL.out (blockW_length _ _ HSL.out)) (Tryd.size8l _ (blockW_length _ _ HSL.out)) (wordsC_one _) ?_
    intro W2 p2
    refine hK _ _ (.inl rfl) ?_
    clear hK K
    refine walkS_done (by kernel_rfl) ?_ _
    have hko : KeepsOthers W1 W2 := KeepsOthers.of_grownBy p2.grown (fun j o ej hj => by
      injection ej with ej
      subst ej
      rw [show W1.heap[g3]? = _ from hR1] at hj
      cases hj
      rfl)
    have hne : ∀ k, k < w7.heap.size → k ≠ g3 → some k ≠ some g3 := fun k _ h e => h (by injection e)
    have hs1 := b1'.size
    refine ⟨((KeepsOthers.of_below b1').trans hko).from _, ?_, ?_, ?_, ?_, ?_, ?_⟩
    · exact (KeepsAt.of_below b1' (fun k hk => Nat.lt_of_lt_of_le (CUT.out.lt k hk) i5)).trans (KeepsAt.of_grown p2.grown (fun k hk => ⟨by have := CUT.out.lt k hk; omega, by
        intro e
        injection e with e
        rcases hk with h | h <;> omega⟩))
    · rw [HNX.out]; exact p2.row
    · exact (I2.out.kept b1').grown p2.grown (by intro e; injection e with e; omega)
    · exact (J3.out.trans hk1).trans (KeepsAt.of_grown p2.grown (fun k hk => ⟨by subst hk; omega, by
        intro e
        injection e with e
        omega⟩))
    · exact p2.below (below_size I4.out b1') (by have := B7.out.size; omega) (by omega)
    · have := p2.size; omega
  case done =>
    rintro D xs W hD rfl ⟨i1, i2, i3, i4, i5⟩ hKD
    rw [foldl_all] at i1
    obtain ⟨ws, hws⟩ : ∃ ws, ws = foldB squaresW (paddedB l) N := ⟨_, rfl⟩
    have hwl : ws.length = 8 := by rw [hws, foldB_length _ _ _ squaresW_length]
    obtain ⟨fin, hfin⟩ : ∃ fin, fin = digestB l := ⟨_, rfl⟩
    have HFIN : Hid (fin = bytesOfW ws) := by show _ = _; rw [hfin, hdig.out, hws]
    have HFL : Hid (fin.length = 32) := by show _ = _; rw [hfin, digestB_length]
    rw [← hws] at i1
    have HFD := Lib.hid hfin
    have HWL := Lib.hid hwl
    have J1 := Lib.hid i1
    have J2 := Lib.hid i2
    have J4 := Lib.hid i4
    have hDW : D < W.heap.size := (Array.getElem?_eq_some_iff.1 hKD).1
    have hgD : g1 ≠ D := by omega
    have JD := Lib.hid hKD
    clear hws hwl hfin hdig HC7 CUT R17 R37 B7 i1 i2 i3 i4 hKD
    go_wp2_with (first
      | ((with_reducible refine wpList_alloc_row (o := ⟨some 5, _, _, _, _, _⟩) rfl 24 rfl (keyC zeroKey) Tryd.zeroK ?_); intro g5 w8 n8)
      | (with_reducible refine wpList_load_row (o := ⟨some 22, _, _, _, _, _⟩) rfl 90 (.tmp 3) rfl g3 (by with_unfolding_all rfl) 90 (wordsC ws) (0, 0) (.array 8 25) (by with_unfolding_all exact J1.out.kept n8.below) Tryd.underlying90 rfl (Tryd.size8l ws HWL.out) ?_))
    have e8 := n8.spot
    have hWs := J4.out.size
    have hg5 : w.heap.size ≤ g5 := by omega
    have hD5 : D < g5 := by omega
    have h15 : g1 < g5 := by omega
    have K5 : Hid (RowAt w8 g5 24 (keyC (fillB (bytesOfW (ws.take 0)) 32))) := n8.row
    have K1 : Hid (RowAt w8 g1 24 (keyC zeroKey)) := J2.out.kept n8.below
    have KD : Hid (w8.heap[D]? = some (.deferred (some []))) := (n8.below.block D hDW).trans JD.out
    have KB : Hid (Below w.heap.size w w8) := below_size J4.out n8.below
    clear n8 e8 J1 J2 J4 JD
    go_loopw [23] (fun i wr => ∃ k : Nat, k ≤ 8 ∧ i = .int .i64 k ∧ RowAt wr g1 24 (keyC zeroKey) ∧ RowAt wr g5 24 (keyC (fillB (bytesOfW (ws.take k)) 32)) ∧ wr.heap[D]? = some (.deferred (some [])) ∧ Below w.heap.size w wr) (fun i _ => 8 - (intOf i).toNat)
    case atStart => exact ⟨0, by omega, rfl, K1.out, K5.out, KD.out, KB.out⟩
    case round =>
      clear K1 K5 KD KB
      obtain ⟨k, hk, rfl, hr1, hr5, hrD, hb⟩ := hrel
      have R1 := Lib.hid hr1
      have R5 := Lib.hid hr5
      have RD := Lib.hid hrD
      have HB := Lib.hid hb
      clear hr1 hr5 hrD hb
      by_cases hlt : k < 8
      · have hln : (bytesOfW (ws.take k)).length = 4 * k := by rw [bytesOfW_length, List.length_take_of_le (by rw [HWL.out]; omega)]
        have htk : bytesOfW (ws.take (k + 1)) = bytesOfW (ws.take k) ++ (lowB (ws.getD k 0).toNat 4).reverse := by
          rw [List.take_succ_eq_append_getElem (by rw [HWL.out]; omega), bytesOfW_snoc]
          simp [HWL.out, hlt]
        have hix := fun x : World => run_index_arr (P := Tryd.prog) x 90 25 8 (wordsC ws) .i64 .u32 k Tryd.underlying90 Tryd.underlying25 Tryd.size32F hlt _ (wordsC_get ws k (by rw [HWL.out]; omega))
        have hsl := fun x : World => run_sliceArrL (P := Tryd.prog) x 24 5 32 Tryd.underlying24 Tryd.sizeB g5 0 (4 * k) (4 * (k : Int)) (by omega) (by omega)
        rw [Nat.zero_add] at hsl
        have HT2 := Lib.hid htk
        have HLN := Lib.hid hln
        generalize ws.getD k 0 = x at hix HT2
        have hx := x.toNat_lt
        clear htk hln
        have hdl : ((lowB x.toNat 4).reverse).length = 4 := by rw [List.length_reverse, lowB_length]
        have HDL := Lib.hid hdl
        have hq : 4 * (k : Int) < 32 := by omega
        have hw64 : IntKind.u64.wrap (x.toNat : Int) = (x.toNat : Int) := by rw [IntKind.wrap_u64]; omega
        clear hdl
        have hw4 : IntKind.i64.wrap (4 * (k : Int)) = 4 * (k : Int) := IntWalk.i64_in _ (by omega)
        have hg5r : g5 ≤ wr.heap.size := by have := R5.out.lt; omega
        go_wp2_with fail
        refine Code.wp_mono NoPanic.out ?_
        go_region_law (first
          | (go_simp; go_at_call 23; refine (High_in _ x.toNat 4 (by omega) (by omega) (by omega)).mono ?_; rintro e w3 ⟨_, rfl, hbs, b3⟩; have HS := Lib.hid hbs; obtain ⟨A9, c9, rfl, h1, h2, h3⟩ := hbs; clear h1 h2 h3)
          | (refine step_copy_splice rfl (.tmp 29) (.tmp 32) 22 22 rfl 5 Tryd.underlying22 Tryd.sizeB (some ⟨g5, 4 * k, none⟩) A9 (32 - 4 * k) (32 - 4 * k) ((lowB x.toNat 4).reverse).length c9 rfl rfl g5 (4 * k) (cellsB (fillB (bytesOfW (ws.take k)) 32)) 24 (R5.out.drew.kept b3) (cellsB ((lowB x.toNat 4).reverse)) (by rw [cellsB_length, HDL.out]; show 4 = min 4 _; omega) (copy_from HS.out) (by rw [cellsB_length, cellsB_length, fillB_length _ _ (by rw [HLN.out]; omega), HDL.out]; omega) (cellsB_one _) g5 wr ((Below.refl g5 wr).drew.trans (b3.mono hg5r)) (Nat.le_refl _) ?_; intro w4 hr4 hb4))
        have hr5 := hr4.out
        rw [splice_bytes] at hr5
        have hst := fillB_step (bytesOfW (ws.take k)) ((lowB x.toNat 4).reverse) 32 (by rw [HLN.out, HDL.out]; omega)
        rw [HLN.out] at hst
        rw [hst, ← HT2.out] at hr5
        have R5n : Hid (RowAt w4 g5 24 (keyC (fillB (bytesOfW (ws.take (k + 1))) 32))) := hr5
        have HB4 : Hid (Below w.heap.size w w4) := HB.out.trans (hb4.mono hg5)
        have R14 : Hid (RowAt w4 g1 24 (keyC zeroKey)) := R1.out.below hb4 h15
        have RD4 : Hid (w4.heap[D]? = some (.deferred (some []))) := (hb4.block D hD5).trans RD.out
        clear hr5 hr4 hst hb4 hix hsl
        simp only [NoPanic]
        go_wp2
        go_roundw
        case rel => exact ⟨k + 1, by omega, by go_num, R14.out, R5n.out, RD4.out, HB4.out⟩
        case measure => simp [intOf]; omega
      · have hk8 : k = 8 := by omega
        have R53 : Hid (RowAt wr g5 24 (keyC fin)) := by
          have := R5.out
          rw [hk8, List.take_of_length_le (by rw [HWL.out]; omega), ← HFIN.out, fillB_all _ _ HFL.out] at this
          exact this
        clear hk8 R5
        go_wp2_with (first
          | (with_reducible refine wpList_load_row (o := ⟨some 35, _, _, _, _, _⟩) rfl 24 (.tmp 5) rfl g5 (by with_unfolding_all rfl) 24 (keyC fin) (0, 0) (.array 32 5) (by with_unfolding_all exact R53.out) Tryd.underlying24 rfl (Tryd.sizeKey fin HFL.out) ?_)
          | ((with_reducible refine wpList_store_row (o := ⟨none, _, _, _, _, _⟩) rfl 24 (.tmp 2) (.tmp 35) rfl g1 24 _ (keyC fin) (by with_unfolding_all rfl) (by with_unfolding_all rfl) R1.out (keyC_same zeroKey_length HFL.out) (Tryd.sizeKey fin HFL.out) (keyC_one fin) ?_); intro w9 p9))
        have hD9 : w9.heap[D]? = some (.deferred (some [])) := (p9.grown.block D (Array.getElem?_eq_some_iff.1 RD.out).1 (by intro e; injection e with e; omega)).trans RD.out
        have B9 : Below w.heap.size w w9 := p9.below HB.out HB.out.size hg1
        refine ⟨by simp, .inl ⟨_, _, rfl, run_takeDeferred hD9, ?_⟩⟩
        have hD2 : ∀ r, some D = some r → ∃ o : Obj, w9.heap[r]? = some o ∧ o.isCells = false := by
          rintro r e
          cases e
          exact ⟨_, hD9, rfl⟩
        exact ⟨_, results_cell_row rfl _ _ g1 24 (keyC fin) (0, 0) (.array 32 5) rfl (p9.row.grown (grownBy_putObj' w9 D _) (by intro e; injection e with e; omega)) Tryd.underlying24 rfl (Tryd.sizeKey fin HFL.out), by rw [← HFD.out]; rfl, B9.trans (belowK_b (w := w) (Nat.le_refl _) w9 D _ _ (by omega) hD9 rfl rfl)⟩
  case stop =>
    rintro D c pre W _ _ h _
    exact h.elim
end Go.Proofs.YtlifjlcfoeednaaDoor
end
section
namespace Go.Proofs.YtlifjlcfoeednaaDoor
open Go.RowKit
set_option linter.unusedVariables false
set_option maxRecDepth 20000

/-- What a Meter holds. -/
def meterC (keep : Bool) (n : Nat) (s : Value) : Array Value := #[.bool keep, .int .i64 (n : Int), .int .i32 0, .int .u32 0, s]

set_option maxHeartbeats 400000 in
theorem New_any (w : World) (keep : Bool) :
    Calls Tryd.prog 7 #[.bool keep] w fun e w' => ∃ g, e = .returned (.pointer (some ⟨g, 0, none⟩)) ∧ NewRow w g 76 (meterC keep 0 (.slice none 0 0)) w' := by
  go_enter Tryd.func7, Tryd.ntmps7
  go_wp2
  go_ret
  exact ⟨_, rfl, NewRow.mk_ w 76 (meterC keep 0 (.slice none 0 0))⟩

set_option maxHeartbeats 400000 in
theorem note_nil (w : World) (v : Value) :
    Calls Tryd.prog 34 #[.pointer none, v] w fun e w' => (∃ x, e = .returned x) ∧ w' = w := by
  go_enter Tryd.func34, Tryd.ntmps34
  go_wp2
  first | go_end0 | refine bodyPost_ret (results_none rfl _ _ _) rfl ?_
  all_goals exact ⟨⟨_, rfl⟩, rfl⟩

set_option maxHeartbeats 400000 in
theorem note_count (w : World) (g n : Nat) (s v : Value) (hn : n ≤ 1000000000) (hr : RowAt w g 76 (meterC false n s)) :
    Calls Tryd.prog 34 #[.pointer (some ⟨g, 0, none⟩), v] w fun e w' => (∃ x, e = .returned x) ∧ RowAt w' g 76 (meterC false (n + 1) s) ∧ w.grownBy w' (some g) := by
  have c0 : w.cell? ⟨g, 0, none⟩ = some (.bool false) := hr.cell 0
  have c1 : w.cell? ⟨g, 1, none⟩ = some (.int .i64 (n : Int)) := hr.cell 1
  have z1 : w.frozen? ⟨g, 1, none⟩ = false := hr.frozen 1
  have hadd := run_call_add (P := Tryd.prog) Tryd.func50 (by kernel_rfl) (by kernel_rfl) (by kernel_rfl) .i64 (by kernel_rfl) (y := 1) (s := ((n + 1 : Nat) : Int)) c1 z1 (by simp [go_sem]; rw [IntWalk.i64_in _ (by omega)])
  have hput := hr.put 1 (.int .i64 ((n + 1 : Nat) : Int))
  have HP : Hid (RowAt (w.setCell ⟨g, 1, none⟩ (.int .i64 ((n + 1 : Nat) : Int))) g 76 (meterC false (n + 1) s)) := hput
  clear hput hr
  go_enter Tryd.func34, Tryd.ntmps34
  go_wp2
  go_end0
  have hp := HP.out
  rw [show ((n + 1 : Nat) : Int) = (n : Int) + 1 by omega] at hp
  exact ⟨⟨_, rfl⟩, hp, ⟨rfl, rfl, rfl, by simp, fun k _ hne => heap_setCell_other w _ k _ (fun h => hne (by rw [h]))⟩⟩

theorem Tabs.grown {w w' : World} {row : Option Nat} (h : Tabs w) (hg : w.grownBy w' row) (h1 : some 1 ≠ row) (h2 : some 0 ≠ row) : Tabs w' :=
  ⟨fun j hj => (World.cell?_of_block (hg.block _ (World.block_lt_of_cell? w _ (h.cubes j hj)) h1)).trans (h.cubes j hj), fun j hj => (World.cell?_of_block (hg.block _ (World.block_lt_of_cell? w _ (h.squares j hj)) h2)).trans (h.squares j hj)⟩
/-- A Meter is no table. -/
theorem Tabs.apart {w : World} (h : Tabs w) {g n : Nat} {t : TypeId} {keep : Bool} {s : Value} (hr : RowAt w g t (meterC keep n s)) : g ≠ 1 ∧ g ≠ 0 := by
  constructor
  · intro e
    subst e
    have h0 := h.cubes 0 (by omega)
    rw [hr.cell 0] at h0
    simp [meterC] at h0
  · intro e
    subst e
    have h0 := h.squares 0 (by omega)
    rw [hr.cell 0] at h0
    simp [meterC] at h0

set_option maxHeartbeats 1000000 in
theorem Sum_count (w : World) (ht : Tabs w) (g n : Nat) (s v : Value) (ls : List (List UInt8)) (hn : n ≤ 1000000000) (hr : RowAt w g 76 (meterC false n s)) (hb : Bss w v ls) (hl : ls.flatten.length ≤ 140737488355200) (hm : ls.length ≤ 1000000) :
    Calls Tryd.prog 24 #[.pointer (some ⟨g, 0, none⟩), v] w fun e w' => e = .returned (keyV (digestB ls.flatten)) ∧ RowAt w' g 76 (meterC false (n + 1) s) ∧ w.grownBy w' (some g) := by
  have HT := Lib.hid ht
  have HR := Lib.hid hr
  have HB := Lib.hid hb
  have hgl := hr.lt
  have HD : Hid (∀ x, Tabs x → ∀ u, Bs x u ls.flatten → Calls Tryd.prog 33 #[u] x (RetV x (.agg (keyC (digestB ls.flatten))))) := fun x hx u hu => digest_any x hx u ls.flatten hu hl
  obtain ⟨fin, hfin⟩ : ∃ fin, fin = digestB ls.flatten := ⟨_, rfl⟩
  have HFL : Hid (fin.length = 32) := by show _ = _; rw [hfin, digestB_length]
  rw [← hfin] at HD ⊢
  have HJ := Lib.hid (fun x u hu => Join_any x u ls hu (by omega) (by omega))
  clear ht hr hb hfin
  go_enter Tryd.func24, Tryd.ntmps24
  go_wp2_with ((with_reducible refine wpList_alloc_row (o := ⟨some 4, _, _, _, _, _⟩) rfl 24 rfl (keyC zeroKey) Tryd.zeroK ?_); intro g1 w1 n1)
  refine (HJ.out _ _ (HB.out.keep n1.below)).mono ?_
  rintro e w2 ⟨u, rfl, hu, b2⟩
  have HU := Lib.hid hu
  have R1 := Lib.hid (n1.row.kept b2)
  have B2 := Lib.hid (below_size n1.below b2)
  have hg1 : w.heap.size ≤ g1 := Nat.le_of_eq n1.spot.symm
  clear n1 b2 hu HB HJ
  go_wp2_with fail
  refine (HD.out _ (HT.out.below B2.out) _ HU.out).mono ?_
  rintro e w3 ⟨rfl, b3⟩
  have R13 := Lib.hid (R1.out.kept b3)
  have B3 := Lib.hid (below_size B2.out b3)
  clear b3 R1 B2 HU HD
  go_wp2_with (first
    | ((with_reducible refine wpList_alloc_row (o := ⟨some 6, _, _, _, _, _⟩) rfl 24 rfl (keyC zeroKey) Tryd.zeroK ?_); intro g4 w4 n4)
    | ((with_reducible refine wpList_store_row (o := ⟨none, _, _, _, _, _⟩) rfl 24 (.tmp 6) (.tmp 10) rfl g4 24 _ (keyC fin) (by with_unfolding_all rfl) (by with_unfolding_all rfl) n4.row (keyC_same zeroKey_length HFL.out) (Tryd.sizeKey fin HFL.out) (keyC_one fin) ?_); intro w5 p5))
  have b5 := (laid_put n4 p5).1
  have B5 := Lib.hid (below_size B3.out b5)
  have R15 := Lib.hid (R13.out.kept b5)
  have R45 := Lib.hid p5.row
  have hg4 : w.heap.size ≤ g4 := by rw [n4.spot]; exact B3.out.size
  clear b5 n4 p5 B3 R13
  refine (note_count _ g n s _ hn (HR.out.kept B5.out)).mono ?_
  rintro e w6 ⟨⟨xe, rfl⟩, hr6, hg6⟩
  have G6 : Hid (w.grownBy w6 (some g)) := ⟨hg6.os.trans B5.out.os, hg6.tape.trans B5.out.tape, hg6.output.trans B5.out.output, Nat.le_trans B5.out.size hg6.size, fun k hk hne => (hg6.block k (Nat.lt_of_lt_of_le hk B5.out.size) hne).trans (B5.out.block k hk)⟩
  have R16 := Lib.hid (R15.out.grown hg6 (by intro e; injection e with e; omega))
  have R46 := Lib.hid (R45.out.grown hg6 (by intro e; injection e with e; omega))
  have HR6 := Lib.hid hr6
  clear hr6 hg6 R15 R45 B5
  go_wp2_with (first
    | (with_reducible refine wpList_load_row (o := ⟨some 14, _, _, _, _, _⟩) rfl 24 (.tmp 6) rfl g4 (by with_unfolding_all rfl) 24 (keyC fin) (0, 0) (.array 32 5) (by with_unfolding_all exact R46.out) Tryd.underlying24 rfl (Tryd.sizeKey fin HFL.out) ?_)
    | ((with_reducible refine wpList_store_row (o := ⟨none, _, _, _, _, _⟩) rfl 24 (.tmp 4) (.tmp 14) rfl g1 24 _ (keyC fin) (by with_unfolding_all rfl) (by with_unfolding_all rfl) R16.out (keyC_same zeroKey_length HFL.out) (Tryd.sizeKey fin HFL.out) (keyC_one fin) ?_); intro w9 p9))
  refine bodyPost_ret (results_cell_row rfl _ _ g1 24 (keyC fin) (0, 0) (.array 32 5) rfl p9.row Tryd.underlying24 rfl (Tryd.sizeKey fin HFL.out)) rfl ⟨rfl, HR6.out.grown p9.grown (by intro e; injection e with e; omega), ?_⟩
  have q := p9.grown
  exact ⟨q.os.trans G6.out.os, q.tape.trans G6.out.tape, q.output.trans G6.out.output, Nat.le_trans G6.out.size q.size, fun k hk hne => (q.block k (Nat.lt_of_lt_of_le hk G6.out.size) (by intro e; injection e with e; omega)).trans (G6.out.block k hk hne)⟩
end Go.Proofs.YtlifjlcfoeednaaDoor
end
section
namespace Go.Proofs.YtlifjlcfoeednaaDoor
open Go.RowKit
set_option linter.unusedVariables false
set_option maxRecDepth 20000

theorem Bs.upto {w : World} {A : Option Addr} {n c : Nat} {l : List UInt8} (h : Bs w (.slice A n c) l) (k : Nat) (hk : k ≤ l.length) : Bs w (.slice A k c) (l.take k) := by
  obtain ⟨A', c', hv, h1, h2, h3⟩ := h
  injection hv with e1 e2 e3
  subst e1 e2 e3
  have hl : (l.take k).length = k := List.length_take_of_le hk
  refine ⟨A, c, by rw [hl], by rw [hl]; omega, h2, fun h0 => ?_⟩
  rw [hl] at h0
  obtain ⟨b, off, hA, hc⟩ := h3 (by omega)
  refine ⟨b, off, hA, fun j hj => ?_⟩
  rw [hl] at hj
  rw [hc j (by omega)]
  simp


theorem abc_a : (ofHighB ((digestB []).take 4) : Int) = 3820012610 := by rw [digest_empty]; rfl
theorem abc_b : (ofHighB (((digestB []).drop 28).take 4) : Int) = 2018687061 := by rw [digest_empty]; rfl
theorem abc_c : (ofHighB ((digestB [97, 98, 99]).take 4) : Int) = 3128432319 := by rw [digest_abc]; rfl
theorem abc_d : (ofHighB (((digestB [97, 98, 99]).drop 28).take 4) : Int) = 4060091821 := by rw [digest_abc]; rfl
theorem Tryd.sizeOfB2 (w : World) : (sizeOf 5).run Tryd.prog w = .ok 1 w := by kernel_rfl
theorem Tryd.eqKeyIn2 (a b : List UInt8) (ha : a.length = 32) (hb : b.length = 32) (w : World) :
    (Op.equalIn 10000 24 (.agg (keyC a)) (.agg (keyC b))).run Tryd.prog w = .ok (a == b) w :=
  run_equalIn_bytes w 9998 24 5 32 Tryd.underlying24 Tryd.underlying5 Tryd.sizeOfB2 a b ha hb
theorem Tryd.eqGuardKey2 : Tryd.prog.eqGuardType Tryd.prog.depth 24 = false := by kernel_rfl
theorem Bss.nil (w : World) : Bss w (.slice none 0 0) [] := ⟨none, 0, rfl, Nat.le_refl _, by simp [maxLen], fun h => absurd h (by simp)⟩
theorem Bss.one (w : World) (e : TypeId) (u : Value) (a : List UInt8) (ha : Bs w u a) : Bss (w.alloc (.cells #[u] e)) (.slice (some ⟨w.heap.size, 0, none⟩) 1 1) [a] :=
  Bss.lit w e [u] [a] rfl (by simp [maxLen]) (fun j h1 h2 => by
    match j, h1 with
    | 0, _ => exact ha)

theorem Sum_is (w : World) (ht : Tabs w) (g n : Nat) (s v : Value) (ls : List (List UInt8)) (d : List UInt8) (hd : d = digestB ls.flatten) (hn : n ≤ 1000000000) (hr : RowAt w g 76 (meterC false n s)) (hb : Bss w v ls) (hl : ls.flatten.length ≤ 140737488355200) (hm : ls.length ≤ 1000000) :
    Calls Tryd.prog 24 #[.pointer (some ⟨g, 0, none⟩), v] w fun e w' => e = .returned (.agg (keyC d)) ∧ RowAt w' g 76 (meterC false (n + 1) s) ∧ w.grownBy w' (some g) := by
  rw [hd]
  exact Sum_count w ht g n s v ls hn hr hb hl hm
/-- Behind a Sum: the tables, and what was there but for the Meter. -/
theorem sum_tabs {w w' : World} {g n : Nat} {t : TypeId} {s : Value} (ht : Tabs w) (hr : RowAt w g t (meterC false n s)) (hg : w.grownBy w' (some g)) : Tabs w' :=
  ht.grown hg (by intro e; injection e with e; exact (ht.apart hr).1 e.symm) (by intro e; injection e with e; exact (ht.apart hr).2 e.symm)
end Go.Proofs.YtlifjlcfoeednaaDoor
end
section
namespace Go.Proofs.YtlifjlcfoeednaaDoor
open Go.RowKit
theorem alloc_below (w : World) (o : Obj) : Below w.heap.size w (w.alloc o) := (Below.refl _ w).alloc (Nat.le_refl _) o
end Go.Proofs.YtlifjlcfoeednaaDoor
end
section
namespace Go.Proofs.YtlifjlcfoeednaaDoor
open Go.RowKit
set_option linter.unusedVariables false
set_option maxRecDepth 20000

theorem Bs.meter {w w' : World} {v : Value} {l : List UInt8} {g n k c : Nat} {t : TypeId} {keep : Bool} {A : Option Addr} (h : Bs w v l) (hr : RowAt w g t (meterC keep n (.slice A k c))) (hg : w.grownBy w' (some g)) : Bs w' v l := by
  obtain ⟨B, d, rfl, h1, h2, h3⟩ := h
  refine ⟨B, d, rfl, h1, h2, fun h0 => ?_⟩
  obtain ⟨b, off, hA, hc⟩ := h3 h0
  refine ⟨b, off, hA, fun j hj => ?_⟩
  have hcj := hc j hj
  have hb : b ≠ g := by
    intro e
    subst e
    rw [hr.cell] at hcj
    simp only [meterC] at hcj
    rcases hx : off + j with _ | _ | _ | _ | _ | m <;> rw [hx] at hcj <;> simp at hcj
  exact (World.cell?_of_block (a := ⟨b, off + j, none⟩) (hg.block _ (World.block_lt_of_cell? w _ hcj) (by intro e; injection e with e; exact hb e))).trans hcj
/-- What a call has of a Meter that it made: the Meter's row, the tables, and what was there before. -/
structure Meet (w0 : World) (g n : Nat) (w : World) : Prop where
  below : Below w0.heap.size w0 w
  row : RowAt w g 76 (meterC false n (.slice none 0 0))
  tabs : Tabs w
  far : w0.heap.size ≤ g
theorem Meet.kept {w0 w w' : World} {g n : Nat} (h : Meet w0 g n w) (hb : Below w.heap.size w w') : Meet w0 g n w' :=
  ⟨below_size h.below hb, h.row.kept hb, h.tabs.below hb, h.far⟩
theorem Meet.new {w0 w w' : World} {g : Nat} (ht : Tabs w) (hb : Below w0.heap.size w0 w) (h : NewRow w g 76 (meterC false 0 (.slice none 0 0)) w') : Meet w0 g 0 w' :=
  ⟨below_size hb h.below, h.row, ht.below h.below, by rw [h.spot]; exact hb.size⟩
/-- What a Sum leaves as it was: every row but the Meter's, and all bytes. -/
structure LeftBut (w w' : World) (g : Nat) : Prop where
  row : ∀ x t cs, x ≠ g → RowAt w x t cs → RowAt w' x t cs
  bs : ∀ v l, Bs w v l → Bs w' v l
  size : w.heap.size ≤ w'.heap.size
theorem LeftBut.of {w0 w w' : World} {g n : Nat} (h : Meet w0 g n w) (hg : w.grownBy w' (some g)) : LeftBut w w' g :=
  ⟨fun x t cs hx hr => hr.grown hg (by intro e; injection e with e; exact hx e), fun v l hv => hv.meter h.row hg, hg.size⟩

theorem Sum_meet (w0 w : World) (g n : Nat) (v : Value) (ls : List (List UInt8)) (d : List UInt8) (h : Meet w0 g n w) (hn : n ≤ 1000000000) (hd : d = digestB ls.flatten) (hb : Bss w v ls) (hl : ls.flatten.length ≤ 140737488355200) (hm : ls.length ≤ 1000000) :
    Calls Tryd.prog 24 #[.pointer (some ⟨g, 0, none⟩), v] w fun e w' => e = .returned (.agg (keyC d)) ∧ Meet w0 g (n + 1) w' ∧ LeftBut w w' g := by
  refine (Sum_is w h.tabs g n _ v ls d hd hn h.row hb hl hm).mono fun e w' hp => ?_
  obtain ⟨he, hr, hg⟩ := hp
  exact ⟨he, ⟨h.below.grown hg h.below.size (fun k e => by injection e with e; rw [← e]; exact h.far), hr, sum_tabs h.tabs h.row hg, h.far⟩, LeftBut.of h hg⟩

theorem Bs.cutAt {w : World} {b off n c : Nat} {l : List UInt8} (h : Bs w (.slice (some ⟨b, off, none⟩) n c) l) (k : Nat) (hk : k ≤ l.length) (hc : c ≠ k) :
    Bs w (.slice (some ⟨b, off + k, none⟩) (l.length - k) (c - k)) (l.drop k) := by
  have h2 := h.cut k hk
  have hadd : (⟨b, off, none⟩ : Addr).add k = ⟨b, off + k, none⟩ := by unfold Addr.add; split <;> simp_all
  rw [if_neg hc, Option.map_some, hadd] at h2
  exact h2
theorem size_alloc (w : World) (o : Obj) : (w.alloc o).heap.size = w.heap.size + 1 := by simp
theorem row32 {w : World} {g : Nat} {t : TypeId} {l : List UInt8} (h : RowAt w g t (keyC l)) (hl : l.length = 32) : Bs w (.slice (some ⟨g, 0, none⟩) 32 32) l := by
  have := row_bs h (by rw [hl]; unfold maxLen; omega)
  rwa [hl] at this
theorem row28 {w : World} {g : Nat} {t : TypeId} {l : List UInt8} (h : RowAt w g t (keyC l)) (hl : l.length = 32) : Bs w (.slice (some ⟨g, 28, none⟩) 4 4) (l.drop 28) := by
  have := Bs.part h 28 4 4 (by omega) (Nat.le_refl _) (by unfold maxLen; omega)
  rwa [List.take_of_length_le (by rw [List.length_drop]; omega)] at this

end Go.Proofs.YtlifjlcfoeednaaDoor
end
