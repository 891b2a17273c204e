/-
  Texts that belong together, merged: WordMath, Words, CodK, CodW, CodX, CodY. Conditions: as each theorem names them.
-/
import Derived.Test.YtjhhpakaemnemaaQCorAA
import Derived.IntWalk
import Derived.Laws.BitsAllLaws
import Derived.StillTailTactics
import Derived.Test.YtjhhpakaemnemaaQCorAD
section
namespace Go.Proofs.Ytjhhpakaemnemaa

/-- A word turned right by n (1 to 31). -/
def rotr (x : UInt32) (n : Nat) : UInt32 := UInt32.ofNat (x.toNat * 2 ^ (32 - n) % 4294967296 ||| x.toNat / 2 ^ n)
/-- A word moved right by n. -/
def movr (x : UInt32) (n : Nat) : UInt32 := UInt32.ofNat (x.toNat / 2 ^ n)

theorem or_lt32 {a b : Nat} (ha : a < 4294967296) (hb : b < 4294967296) : a ||| b < 4294967296 := Nat.or_lt_two_pow (n := 32) ha hb
theorem div_lt32 (x : UInt32) (n : Nat) : x.toNat / 2 ^ n < 4294967296 := Nat.lt_of_le_of_lt (Nat.div_le_self _ _) x.toNat_lt
theorem rotr_toNat (x : UInt32) (n : Nat) : (rotr x n).toNat = (x.toNat * 2 ^ (32 - n) % 4294967296 ||| x.toNat / 2 ^ n) := by
  unfold rotr
  rw [UInt32.toNat_ofNat_of_lt']
  exact or_lt32 (Nat.mod_lt _ (by omega)) (div_lt32 x n)
theorem movr_toNat (x : UInt32) (n : Nat) : (movr x n).toNat = x.toNat / 2 ^ n := by
  unfold movr
  rw [UInt32.toNat_ofNat_of_lt']
  exact div_lt32 x n

theorem add32 (a b : UInt32) : IntKind.u32.wrap ((a.toNat : Int) + (b.toNat : Int)) = ((a + b).toNat : Int) := by
  rw [IntKind.wrap_u32, UInt32.toNat_add]
  omega
theorem xor32 (a b : UInt32) : bits .xor .u32 (a.toNat : Int) (b.toNat : Int) = ((a ^^^ b).toNat : Int) := by
  rw [u32_xor_nat _ _ a.toNat_lt b.toNat_lt, UInt32.toNat_xor]
theorem and32 (a b : UInt32) : bits .and .u32 (a.toNat : Int) (b.toNat : Int) = ((a &&& b).toNat : Int) := by
  rw [u32_and_nat _ _ a.toNat_lt b.toNat_lt, UInt32.toNat_and]
theorem or32 (a b : UInt32) : bits .or .u32 (a.toNat : Int) (b.toNat : Int) = ((a ||| b).toNat : Int) := by
  rw [u32_or_nat _ _ a.toNat_lt b.toNat_lt, UInt32.toNat_or]

/-- A word turned left by n (1 to 31). -/
def rotl (x : UInt32) (n : Nat) : UInt32 := UInt32.ofNat (x.toNat * 2 ^ n % 4294967296 ||| x.toNat / 2 ^ (32 - n))
theorem rotl_toNat (x : UInt32) (n : Nat) : (rotl x n).toNat = (x.toNat * 2 ^ n % 4294967296 ||| x.toNat / 2 ^ (32 - n)) := by
  unfold rotl
  rw [UInt32.toNat_ofNat_of_lt']
  exact or_lt32 (Nat.mod_lt _ (by omega)) (div_lt32 x (32 - n))

/-- Words, the lowest byte of each first. -/
def wordLow (l : List UInt8) (i : Nat) : UInt32 := UInt32.ofNat (ofLowB ((l.drop (4 * i)).take 4))
def bytesLow (l : List UInt32) : List UInt8 := l.flatMap fun x => lowB x.toNat 4
theorem bytesLow_length (l : List UInt32) : (bytesLow l).length = 4 * l.length := by
  induction l with
  | nil => rfl
  | cons x l ih => simp only [bytesLow, List.flatMap_cons, List.length_append, lowB_length, List.length_cons] at *; omega
end Go.Proofs.Ytjhhpakaemnemaa
end
section
namespace Go.Proofs.Ytjhhpakaemnemaa
open Go.RowKit
set_option linter.unusedVariables false

/-- Words, as cells; an array of them. -/
def cellsW (l : List UInt32) : List Value := l.map fun x => Value.int .u32 (x.toNat : Int)
def wordsC (l : List UInt32) : Array Value := (cellsW l).toArray
theorem cellsW_length (l : List UInt32) : (cellsW l).length = l.length := by simp [cellsW]
theorem wordsC_size (l : List UInt32) : (wordsC l).size = l.length := by simp [wordsC, cellsW]
theorem cellsW_one (l : List UInt32) : ∀ u ∈ cellsW l, u.oneCell' = true := by
  intro u hu
  obtain ⟨b, _, rfl⟩ := List.mem_map.1 hu
  rfl
theorem wordsC_one (l : List UInt32) : ∀ u ∈ (wordsC l).toList, u.oneCell' = true := by
  intro u hu
  exact cellsW_one l u (by simpa [wordsC] using hu)
theorem wordsC_get (l : List UInt32) (j : Nat) (h : j < l.length) : (wordsC l)[j]? = some (.int .u32 ((l.getD j 0).toNat : Int)) := by
  simp [wordsC, cellsW, h]
theorem wordsC_cell {w : World} {g : Nat} {t : TypeId} {l : List UInt32} (h : RowAt w g t (wordsC l)) (j : Nat) (hj : j < l.length) : w.cell? ⟨g, j, none⟩ = some (.int .u32 ((l.getD j 0).toNat : Int)) := by
  rw [h.cell, wordsC_get l j hj]
theorem wordsC_put (l : List UInt32) (j : Nat) (x : UInt32) : (wordsC l).setIfInBounds j (.int .u32 (x.toNat : Int)) = wordsC (l.set j x) := by
  apply Array.toList_inj.1
  simp [wordsC, cellsW, List.map_set]
theorem bytesC_cell {w : World} {g : Nat} {t : TypeId} {l : List UInt8} (h : RowAt w g t (keyC l)) (j : Nat) (hj : j < l.length) : w.cell? ⟨g, j, none⟩ = some (.int .u8 (l[j].toNat : Int)) := by
  rw [h.cell]
  have := cellsB_get l j hj
  simpa [keyC] using this

/-- A part of an array of bytes, as a slice. -/
theorem Bs.part {w : World} {g : Nat} {t : TypeId} {l : List UInt8} (h : RowAt w g t (keyC l)) (off n c : Nat) (hn : off + n ≤ l.length) (hc : n ≤ c) (hm : c ≤ maxLen) : Bs w (.slice (some ⟨g, off, none⟩) n c) ((l.drop off).take n) := by
  have hl : ((l.drop off).take n).length = n := by simp; omega
  refine ⟨_, c, by rw [hl], by rw [hl]; exact hc, hm, fun _ => ⟨g, off, rfl, fun j hj => ?_⟩⟩
  rw [hl] at hj
  rw [bytesC_cell h (off + j) (by omega)]
  simp

/-- 'x[l:h]' of an array that lies in a row. -/
theorem run_sliceArr {P : Program} (w : World) (t e : TypeId) (n : Nat) (ht : P.underlying t = some (.array n e)) (hs : (P.info? e).map (·.size) = some 1) (g off l h : Nat) (i j : Int) (hi : i = (l : Int)) (hj : j = (h : Int)) (h1 : l ≤ h) (h2 : h ≤ n) (h3 : l < n) :
    (Instr.sliceAt t (.pointer (some ⟨g, off, none⟩)) (some (.int .i64 i)) (some (.int .i64 j)) none).run P w = .ok (.slice (some ⟨g, off + l, none⟩) (h - l) (n - l)) w := by
  subst hi hj
  obtain ⟨f, hf, hz⟩ := Option.map_eq_some_iff.1 hs
  have hlen : P.arrayLen t = n := by simp [Program.arrayLen, ht]
  have hel : P.elem t = e := by simp [Program.elem, ht]
  rw [run_sliceAt_array_lh w t ⟨g, off, none⟩ (by rw [hlen, hel]; exact ht) .i64 .i64 _ _ (by omega) (by omega) (by rw [hlen]; omega)]
  have hadd : (⟨g, off, none⟩ : Addr).add l = ⟨g, off + l, none⟩ := by unfold Addr.add; split <;> simp_all
  simp [hel, hlen, sizeOf, typeInfo, hf, hz, slicedAt, show ¬ n = l by omega, hadd]
/-- 'x[l:]'. -/
theorem run_sliceArrL {P : Program} (w : World) (t e : TypeId) (n : Nat) (ht : P.underlying t = some (.array n e)) (hs : (P.info? e).map (·.size) = some 1) (g off l : Nat) (i : Int) (hi : i = (l : Int)) (h3 : l < n) :
    (Instr.sliceAt t (.pointer (some ⟨g, off, none⟩)) (some (.int .i64 i)) none none).run P w = .ok (.slice (some ⟨g, off + l, none⟩) (n - l) (n - l)) w := by
  subst hi
  obtain ⟨f, hf, hz⟩ := Option.map_eq_some_iff.1 hs
  have hlen : P.arrayLen t = n := by simp [Program.arrayLen, ht]
  have hel : P.elem t = e := by simp [Program.elem, ht]
  rw [run_sliceAt_array_l w t ⟨g, off, none⟩ (by rw [hlen, hel]; exact ht) .i64 _ (by omega) (by rw [hlen]; omega)]
  have hadd : (⟨g, off, none⟩ : Addr).add l = ⟨g, off + l, none⟩ := by unfold Addr.add; split <;> simp_all
  simp [hel, hlen, sizeOf, typeInfo, hf, hz, slicedAt, show ¬ n = l by omega, hadd]

/-- A row of the call's own that is full is a row as a whole. -/
theorem own_row {w : World} {base : Nat} {e : TypeId} {g n : Nat} {l : List UInt8} (h : w.ownsRow base e 1 (.slice (some ⟨g, 0, none⟩) n n) n (cellsB l)) : RowAt w g e (keyC l) := by
  rcases h.2 with ⟨h1, _⟩ | ⟨g', cap, cur, hv, _, hg, _, _, hs, ht⟩
  · cases h1
  · injection hv with e1 e2 e3
    injection e1 with e1
    injection e1 with e1
    subst e1 e3
    have : cur = keyC l := by
      apply Array.toList_inj.1
      rw [List.take_of_length_le (by simp [hs])] at ht
      rw [ht]
      rfl
    rw [this] at hg
    exact hg
theorem row_bs {w : World} {g : Nat} {t : TypeId} {l : List UInt8} (h : RowAt w g t (keyC l)) (hm : l.length ≤ maxLen) : Bs w (.slice (some ⟨g, 0, none⟩) l.length l.length) l := by
  have := Bs.part h 0 l.length l.length (by omega) (Nat.le_refl _) hm
  simpa using this
theorem bytesC_put (l : List UInt8) (j : Nat) (b : UInt8) : (keyC l).setIfInBounds j (.int .u8 (b.toNat : Int)) = keyC (l.set j b) := by
  apply Array.toList_inj.1
  simp [keyC, cellsB, List.map_set]
theorem splice_bytes (l m : List UInt8) (off : Nat) : splice (cellsB l) off (cellsB m) = cellsB (l.take off ++ m ++ l.drop (off + m.length)) := by
  unfold splice
  simp [cellsB]

theorem copy_from {w : World} {A : Option Addr} {n c : Nat} {l : List UInt8} {d : Option Addr} (h : Bs w (.slice A n c) l) :
    0 < (cellsB l).length → d = d ∧ ∃ ad, A = some ad ∧ ∀ j v, (cellsB l)[j]? = some v → w.cell? (ad.add j) = some v := by
  intro hp
  refine ⟨rfl, ?_⟩
  obtain ⟨A', c', hv, _, _, h3⟩ := h
  injection hv with e1 e2 e3
  subst e1
  rw [cellsB_length] at hp
  obtain ⟨b, off, rfl, hc⟩ := h3 hp
  refine ⟨_, rfl, fun j u hu => ?_⟩
  have hj : j < l.length := by
    have := (List.getElem?_eq_some_iff.1 hu).1
    rwa [cellsB_length] at this
  have hadd : (⟨b, off, none⟩ : Addr).add j = ⟨b, off + j, none⟩ := by unfold Addr.add; split <;> simp_all
  rw [hadd, hc j hj, ← hu, cellsB_get l j hj]

/-- 'x[i]' of an array by value. -/
theorem run_index_arr {P : Program} (w : World) (t e : TypeId) (n : Nat) (cs : Array Value) (kd ek : IntKind) (i : Nat) (ht : P.underlying t = some (.array n e)) (he : P.underlying e = some (.int ek)) (hs : (P.info? e).map (·.size) = some 1) (hi : i < n) (v : Value) (hv : cs[i]? = some v) :
    (Instr.index t (.agg cs) (.int kd (i : Int))).run P w = .ok v w := by
  obtain ⟨f, hf, hz⟩ := Option.map_eq_some_iff.1 hs
  simp [Instr.index, run_underlying ht, asIntOf, hi, part, isAgg, run_underlying he, sizeOf, typeInfo, hf, hz, hv, go_sem]
/-- The same, where the element is an array of m cells. -/
theorem run_index_arr_agg {P : Program} (w : World) (t e e2 : TypeId) (n m k : Nat) (cs : Array Value) (kd : IntKind) (i : Nat) (ht : P.underlying t = some (.array n e)) (he : P.underlying e = some (.array k e2)) (hs : (P.info? e).map (·.size) = some m) (hi : i < n) :
    (Instr.index t (.agg cs) (.int kd (i : Int))).run P w = .ok (.agg (cs.extract (i * m) (i * m + m))) w := by
  obtain ⟨f, hf, hz⟩ := Option.map_eq_some_iff.1 hs
  simp [Instr.index, run_underlying ht, asIntOf, hi, part, isAgg, run_underlying he, sizeOf, typeInfo, hf, hz, go_sem]

/-- Bytes that are there, and zeros behind them. -/
def fillB (a : List UInt8) (n : Nat) : List UInt8 := a ++ List.replicate (n - a.length) 0
theorem fillB_length (a : List UInt8) (n : Nat) (h : a.length ≤ n) : (fillB a n).length = n := by simp [fillB]; omega
theorem fillB_step (a m : List UInt8) (n : Nat) (h : a.length + m.length ≤ n) : (fillB a n).take a.length ++ m ++ (fillB a n).drop (a.length + m.length) = fillB (a ++ m) n := by
  unfold fillB
  rw [List.take_left, List.drop_append, List.drop_of_length_le (by omega), List.nil_append, List.drop_replicate, List.length_append,
    show n - a.length - (a.length + m.length - a.length) = n - (a.length + m.length) by omega]
theorem fillB_set (a : List UInt8) (n : Nat) (x : UInt8) (h : a.length < n) : (fillB a n).set a.length x = fillB (a ++ [x]) n := by
  unfold fillB
  rw [List.set_append_right _ _ (Nat.le_refl _), Nat.sub_self, show n - a.length = (n - (a ++ [x]).length) + 1 by simp; omega, List.replicate_succ, List.set_cons_zero]
  simp
theorem fillB_all (a : List UInt8) (n : Nat) (h : a.length = n) : fillB a n = a := by simp [fillB, h]
theorem fillB_zero (n : Nat) : fillB [] n = List.replicate n 0 := by simp [fillB]
end Go.Proofs.Ytjhhpakaemnemaa
end
section
namespace Go.Proofs.Ytjhhpakaemnemaa
open Go.RowKit
set_option linter.unusedVariables false
set_option maxRecDepth 20000

theorem OutStep.kl {a b : World} {o : Nat} {v v' u : Value} {ls : List (List UInt8)} (h : OutStep a b o v v') (hb : Kl a u ls) (h1 : 0 < ls.length → ∀ k, u.ownBlock = some k → k ≠ o ∧ v.ownBlock ≠ some k) : Kl b u ls := by
  obtain ⟨A, c, rfl, q1, q2, q4, q3⟩ := hb
  refine ⟨A, c, rfl, q1, q2, q4, fun hl => ?_⟩
  obtain ⟨g, off, rfl, hc⟩ := q3 hl
  obtain ⟨h2, h3⟩ := h1 hl g rfl
  exact ⟨g, off, rfl, fun k l e j u hj => (World.cell?_of_block (a := ⟨g, off + k * 32 + j, none⟩) (h.block g (World.block_lt_of_cell? a _ (hc k l e j u hj)) h2 h3)).trans (hc k l e j u hj)⟩
theorem wpList_loadK {P : Program} {ops : Array Oper} {rest : List Oper} {o : Oper} {a : Act} {w : World} {Q : Exit → Act → World → Prop} (hgd : o.guard = none) (ty : TypeId) (x : Operand) (ho : o.op = .load ty x) (g k : Nat) (hx : a.eval x = .pointer (some ⟨g, k, none⟩)) (l : List UInt8) (d : TypeDesc) (hc : w.rangeAt g k (cellsB l))
    (hu : P.underlying ty = some d) (hd : d.isRow = true) (hs : (P.info? ty).map (·.size) = some (cellsB l).length) (h : wpList P ops Q rest (a.put o.dst (.agg (keyC l))) w) : wpList P ops Q (o :: rest) a w :=
  wpList_load_mid hgd ty x ho g k hx (cellsB l) d hc hu hd hs h
theorem Try.sizeKeyM (l : List UInt8) (h : l.length = 32) : (Try.prog.info? 52).map (·.size) = some (cellsB l).length := by
  have := Try.sizeKey l h
  rw [keyC_size] at this
  rw [cellsB_length]
  exact this
theorem St.put_put (s : St) (a b : List UInt8) : (s.put a).put b = s.put (a ++ b) := by
  unfold St.put
  by_cases h : s.e = 0
  · simp [h]
  · simp [h]
theorem flat_len32 (ls : List (List UInt8)) (h : ∀ l ∈ ls, l.length = 32) : ls.flatten.length = ls.length * 32 := flat_length ls h

set_option maxHeartbeats 2000000 in
theorem outKeys_any (w : World) (o : Nat) (v : Value) (s : St) (u : Value) (ls : List (List UInt8)) (h : OutAt w o v s) (hu : Kl w u ls) (hf : 0 < ls.length → Off o v u) (hs : s.l.length ≤ 1000000000) :
    Calls Try.prog 34 #[.pointer (some ⟨o, 0, none⟩), u] w fun e w' => e = .returned (.tuple #[]) ∧ ∃ v', OutAt w' o v' (s.wKey ls) ∧ OutStep w w' o v v' := by
  have HH := Lib.hid h
  have HU := Lib.hid hu
  have HF := Lib.hid hf
  obtain ⟨A, c, rfl, h1, h2, h4, h3⟩ := hu
  unfold maxLen at h2
  have H32 := Lib.hid h4
  clear h hf h4
  by_cases hb : ls.length > 100
  · have hb2 : (100 : Int) < (ls.length : Int) := by omega
    have E : Hid (s.wKey ls = s.fail 2) := by show _ = _; unfold St.wKey; rw [if_pos hb]
    have HX := Lib.hid (fun w h => outFail_any w o v s 2 h)
    clear h3
    go_enter Try.func34, Try.ntmps34
    go_wp2_with fail
    refine (HX.out _ HH.out).mono ?_
    intro e w1 hh
    obtain ⟨he, v1, h1, s1⟩ := hh
    subst he
    have H1 := Lib.hid h1
    have S1 := Lib.hid s1
    clear h1 s1
    go_wp2
    refine bodyPost_ret (results_none rfl _ _ _) rfl ?_
    exact ⟨rfl, v1, by rw [E.out]; exact H1.out, S1.out⟩
  · have hb2 : ¬ ((100 : Int) < (ls.length : Int)) := by omega
    have hw : IntKind.u64.wrap (ls.length : Int) = (ls.length : Int) := by rw [IntKind.wrap_u64]; omega
    have HN : Hid (∀ w, Calls Try.prog 59 #[.int .u64 (ls.length : Int), .int .i64 2] w (RetBs w (lowB ls.length 2).reverse)) := fun w => High_in w ls.length 2 (by omega) (by omega) (by omega)
    have LN : Hid ((lowB ls.length 2).reverse.length = 2) := by show _ = _; rw [List.length_reverse]; exact lowB_length _ _
    obtain ⟨hd, hhd⟩ : ∃ hd, hd = (lowB ls.length 2).reverse := ⟨_, rfl⟩
    have E : Hid (s.wKey ls = s.put (hd ++ ls.flatten)) := by show _ = _; unfold St.wKey; rw [if_neg hb, ← hhd, St.put_put]
    rw [← hhd] at HN LN
    have P1 := Lib.hid (fun w u h hu => outPut_any w o v s u hd h hu (by rw [LN.out]; omega))
    have P2 : Hid (∀ w v j l u, j < ls.length → l.length = 32 → OutAt w o v (s.put (hd ++ (ls.take j).flatten)) → Bs w u l → Calls Try.prog 58 #[.pointer (some ⟨o, 0, none⟩), u] w fun e w' => e = .returned (.tuple #[]) ∧ ∃ v', OutAt w' o v' ((s.put (hd ++ (ls.take j).flatten)).put l) ∧ OutStep w w' o v v') := fun w v j l u hj hl h hu => outPut_any w o v _ u l h hu (by
      have q1 := s.put_length (hd ++ (ls.take j).flatten)
      rw [List.length_append, LN.out, flat_len32 _ (fun l hl => H32.out l (List.mem_of_mem_take hl)), List.length_take_of_le (by omega)] at q1
      omega)
    clear hhd
    go_enter Try.func34, Try.ntmps34
    go_wp2_with fail
    refine (HN.out _).mono ?_
    intro e w1 hh
    obtain ⟨u1, he, hu1, b1⟩ := hh
    subst he
    have HU1 := Lib.hid hu1
    have B1 := Lib.hid b1
    obtain ⟨A1, c1, rfl, _, _, _⟩ := hu1
    clear b1
    go_wp2_with fail
    refine (P1.out _ _ (HH.out.kept B1.out) HU1.out).mono ?_
    intro e w2 hh
    obtain ⟨he, v2, h2, s2⟩ := hh
    subst he
    have S2 := Lib.hid ((OutStep.below B1.out).trans s2)
    have H2 : Hid (OutAt w2 o v2 (s.put (hd ++ (ls.take 0).flatten))) := by show OutAt _ _ _ _; rw [List.take_zero, List.flatten_nil, List.append_nil]; exact h2
    clear h2 s2 B1 HU1 HN P1
    go_wp2_with fail
    go_loopw [19] (fun i wr => ∃ (j : Nat) (v' : Value), j ≤ ls.length ∧ i = .int .i64 (j : Int) ∧ OutAt wr o v' (s.put (hd ++ (ls.take j).flatten)) ∧ OutStep w wr o v v') (fun i _ => ls.length - (intOf i).toNat)
    case atStart => exact ⟨0, v2, by omega, rfl, H2.out, S2.out⟩
    case round =>
      clear H2 S2
      obtain ⟨j, v', hj, rfl, hO, hS⟩ := hrel
      have HO := Lib.hid hO
      have HS := Lib.hid hS
      clear hO hS
      by_cases hlt : j < ls.length
      · have hlt2 : (j : Int) < (ls.length : Int) := by omega
        have hw1 : IntKind.i64.wrap ((j : Int) + 1) = (j : Int) + 1 := IntWalk.i64_in _ (by omega)
        have hq0 : ¬ ((j : Int) < 0) := by omega
        obtain ⟨l, hl⟩ : ∃ l, ls[j]? = some l := ⟨_, List.getElem?_eq_getElem hlt⟩
        have L32 : Hid (l.length = 32) := H32.out l (List.mem_of_getElem? hl)
        have HT : Hid (hd ++ (ls.take j).flatten ++ l = hd ++ (ls.take (j + 1)).flatten) := by
          show _ = _
          rw [List.take_add_one, hl, List.flatten_append, List.append_assoc]
          simp
        obtain ⟨A', c', he, _, _, _, hr⟩ := HS.out.kl HU.out HF.out
        injection he with e1 _ e3
        subst e1 e3
        obtain ⟨b, off, rfl, hr2⟩ := hr (by omega)
        have HR := Lib.hid (hr2 j l hl)
        have P2J := Lib.hid (fun w u h hu => P2.out w v' j l u hlt L32.out h hu)
        clear hr hr2 hl h3 P2
        go_wp2_with (first
          | (with_reducible refine wpList_loadK (o := ⟨some 22, _, _, _, _, _⟩) rfl 52 (.tmp 21) rfl b (off + j * 32) (by with_unfolding_all rfl) l (.array 32 5) (by with_unfolding_all exact HR.out) Try.underlying52 rfl (Try.sizeKeyM l L32.out) ?_)
          | ((with_reducible refine wpList_alloc_row (o := ⟨some 5, _, _, _, _, _⟩) rfl 52 rfl (keyC zeroKey) Try.zeroK ?_); intro g5 w5 n5)
          | ((with_reducible refine wpList_store_row (o := ⟨none, _, _, _, _, _⟩) rfl 52 (.tmp 5) (.tmp 22) rfl g5 52 (keyC zeroKey) (keyC l) (by with_unfolding_all rfl) (by with_unfolding_all rfl) n5.row (keyC_same zeroKey_length L32.out) (Try.sizeKey _ L32.out) (keyC_one _) ?_); intro w6 p6))
        have B6 := (laid_put n5 p6).1
        have HB6 := Lib.hid B6
        have R6 := Lib.hid (row_bs p6.row (by rw [L32.out]; unfold maxLen; omega))
        have SP := n5.spot
        rw [L32.out] at R6
        clear B6 n5 p6
        refine (P2J.out _ _ (HO.out.kept HB6.out) R6.out).mono ?_
        intro e w7 hh
        obtain ⟨he, v7, h7, s7⟩ := hh
        subst he
        rw [St.put_put, HT.out] at h7
        have H7 := Lib.hid h7
        have S7 := Lib.hid ((HS.out.trans (OutStep.below HB6.out)).trans s7)
        clear h7 s7 HR R6 HS HO P2J
        go_wp2_with fail
        go_roundw
        case rel => exact ⟨j + 1, v7, by omega, by go_num, H7.out, S7.out⟩
        case measure => simp [intOf]; omega
      · have hj2 : j = ls.length := by omega
        subst hj2
        rw [List.take_length] at HO
        go_wp2_with fail
        go_end0
        exact ⟨rfl, v', by rw [E.out]; exact HO.out, HS.out⟩
end Go.Proofs.Ytjhhpakaemnemaa
end
section
namespace Go.Proofs.Ytjhhpakaemnemaa
open Go.RowKit
set_option linter.unusedVariables false
set_option maxRecDepth 20000

/-- A slice of elements of sz cells each: element j has the cells f j. -/
def Rw (w : World) (v : Value) (sz n : Nat) (f : Nat → List Value) : Prop :=
  ∃ A c, v = .slice A n c ∧ n ≤ c ∧ c ≤ maxLen ∧ (0 < n → ∃ b off, A = some ⟨b, off, none⟩ ∧ ∀ j, j < n → w.rangeAt b (off + j * sz) (f j))
theorem Rw.below {w w' : World} {v : Value} {sz n : Nat} {f : Nat → List Value} (h : Rw w v sz n f) (hb : Below w.heap.size w w') : Rw w' v sz n f := by
  obtain ⟨A, c, hv, h1, h2, h3⟩ := h
  refine ⟨A, c, hv, h1, h2, fun hl => ?_⟩
  obtain ⟨b, off, hA, hc⟩ := h3 hl
  exact ⟨b, off, hA, fun j hj i u hu => (hb.cell (p := ⟨b, off + j * sz + i, none⟩) (World.block_lt_of_cell? w _ (hc j hj i u hu))).trans (hc j hj i u hu)⟩

def kindAt (j : Nat) : Int := [9, 32, 1, 2, 4, 8].getD j 0
/-- Where the way of a Kind stands. -/
def posK (z : Int) : Int := if z = 9 then 0 else if z = 32 then 1 else if z = 1 then 2 else if z = 2 then 3 else if z = 4 then 4 else if z = 8 then 5 else -1
def wayW (j : Nat) (p : Nat) : Value := if j = 0 then .func (.func 63) #[] #[] else if j = 1 then .func (.func 65) #[] #[] else .func (.func 68) #[] #[.pointer (some ⟨p, 0, none⟩)]
def wayR (j : Nat) (p : Nat) : Value := if j = 0 then .func (.func 64) #[] #[] else if j = 1 then .func (.func 66) #[] #[] else .func (.func 69) #[] #[.pointer (some ⟨p, 0, none⟩)]
/-- The cells of way j, whose size, if it has one, stands at p. -/
def wayC (j p : Nat) : List Value := [.int .i64 (kindAt j), wayW j p, wayR j p]
def waysL (ps : Nat → Nat) : Nat → List Value
  | 0 => []
  | n + 1 => waysL ps n ++ wayC n (ps n)
/-- What ways hands back. -/
def WaysAt (w : World) (v : Value) (ps : Nat → Nat) : Prop := Rw w v 3 6 (fun j => wayC j (ps j)) ∧ ∀ j, 2 ≤ j → j < 6 → Boxed w (ps j) 3 (.int .i64 (kindAt j))
theorem boxed_below {w w' : World} {g : Nat} {t : TypeId} {v : Value} (h : Boxed w g t v) (hb : Below w.heap.size w w') : Boxed w' g t v := (hb.block g (Array.getElem?_eq_some_iff.1 h).1).trans h
theorem WaysAt.below {w w' : World} {v : Value} {ps : Nat → Nat} (h : WaysAt w v ps) (hb : Below w.heap.size w w') : WaysAt w' v ps := ⟨h.1.below hb, fun j h1 h2 => boxed_below (h.2 j h1 h2) hb⟩

theorem waysL_length (ps : Nat → Nat) (n : Nat) : (waysL ps n).length = n * 3 := by
  induction n with
  | zero => rfl
  | succ n ih => rw [waysL, List.length_append, ih, Nat.add_mul]; rfl
theorem waysL_at (ps : Nat → Nat) (n j : Nat) (h : j < n) (i : Nat) (u : Value) (hu : (wayC j (ps j))[i]? = some u) : (waysL ps n)[j * 3 + i]? = some u := by
  have hi : i < 3 := (List.getElem?_eq_some_iff.1 hu).1
  induction n with
  | zero => omega
  | succ n ih =>
    rw [waysL]
    by_cases hj : j < n
    · rw [List.getElem?_append_left (by rw [waysL_length]; omega)]
      exact ih hj
    · obtain rfl : j = n := by omega
      rw [List.getElem?_append_right (by rw [waysL_length]; omega), waysL_length, show j * 3 + i - j * 3 = i by omega]
      exact hu
def kindsC : Array Value := #[.int .i64 1, .int .i64 2, .int .i64 4, .int .i64 8]
theorem numberKinds_row (w : World) : Calls Try.prog 67 #[] w fun e w' => ∃ g, e = .returned (.slice (some ⟨g, 0, none⟩) 4 4) ∧ RowAt w' g 3 kindsC ∧ Below w.heap.size w w' := by
  go_enter Try.func67, Try.ntmps67
  go_wp2
  go_ret
  exact ⟨_, rfl, RowAt.new w 3 kindsC, alloc_below _ _⟩
theorem own_off {w : World} {base n g sz : Nat} {e t : TypeId} {s : Value} {xs : List Value} {cs : Array Value} {f : Nat × Nat} (h : w.ownsRow base e sz s n xs) (hr : w.heap[g]? = some (.cells cs t f)) (ht : t ≠ e) : some g ≠ s.ownBlock := by
  rcases h.2 with ⟨rfl, _⟩ | ⟨k, cap, cur, rfl, _, hk, _⟩
  · simp [Value.ownBlock]
  · intro e2
    have : g = k := by simpa [Value.ownBlock] using e2
    subst this
    rw [hr] at hk
    injection hk with hk
    injection hk with h1 h2
    exact ht h2

theorem waysL_congr (ps qs : Nat → Nat) (n : Nat) (h : ∀ k, k < n → ps k = qs k) : waysL ps n = waysL qs n := by
  induction n with
  | zero => rfl
  | succ n ih => rw [waysL, waysL, ih fun k hk => h k (by omega), h n (by omega)]
theorem kindAt_two (j : Nat) (h : j < 4) : kindsC[j]? = some (.int .i64 (kindAt (2 + j))) := by
  match j, h with
  | 0, _ => rfl
  | 1, _ => rfl
  | 2, _ => rfl
  | 3, _ => rfl
theorem ways_start (w : World) (c : Array Value) (hc : c.toList = waysL (fun _ => 0) 2) : (w.alloc (.cells c 86)).ownsRow w.heap.size 86 3 (.slice (some ⟨w.heap.size, 0, none⟩) 2 2) (2 + 0) (waysL (fun _ => 0) (2 + 0)) := by
  rw [← hc]
  exact World.ownsRow_lit (base := w.heap.size) (e := 86) (size := 3) w c 2 (Nat.le_refl _) (by simp [maxLen]) (by rw [← Array.length_toList, hc, waysL_length])

theorem Try.infoWay : (Try.prog.info? 86).map (fun i => (i.zero, i.size, i.bytes)) = some (some (.agg #[.int .i64 0, Value.nilFunc, Value.nilFunc]), 3, 24) := by kernel_rfl
set_option maxHeartbeats 2000000 in
theorem ways_any (w : World) : Calls Try.prog 38 #[] w fun e w' => ∃ v ps, e = .returned v ∧ WaysAt w' v ps ∧ Below w.heap.size w w' := by
  have HN := Lib.hid (fun w => numberKinds_row w)
  go_enter Try.func38, Try.ntmps38
  have HW := Lib.hid (ways_start w #[.int .i64 9, .func (.func 63) #[] #[], .func (.func 64) #[] #[], .int .i64 32, .func (.func 65) #[] #[], .func (.func 66) #[] #[]] rfl)
  go_wp2_with fail
  refine (HN.out _).mono ?_
  intro e w1 hh
  obtain ⟨gk, he, hz, b1⟩ := hh
  subst he
  have HZ := Lib.hid hz
  have B1 := Lib.hid (below_size (alloc_below _ _) b1)
  have H1 := Lib.hid (World.ownsRow.kept (row := none) HW.out (grown_of_below b1) (by simp [Value.ownBlock]))
  clear hz HW b1 HN
  go_wp2_with fail
  go_loopw [1, 9] (fun v i wr => ∃ (j : Nat) (ps : Nat → Nat), j ≤ 4 ∧ i = .int .i64 (j : Int) ∧ wr.ownsRow w.heap.size 86 3 v (2 + j) (waysL ps (2 + j)) ∧ (∀ k, 2 ≤ k → k < 2 + j → Boxed wr (ps k) 3 (.int .i64 (kindAt k))) ∧ RowAt wr gk 3 kindsC ∧ Below w.heap.size w wr) (fun _ i _ => 4 - (intOf i).toNat)
  case atStart => exact ⟨0, fun _ => 0, by omega, rfl, H1.out, fun k h1 h2 => by omega, HZ.out, B1.out⟩
  case round =>
    clear H1 B1 HZ
    obtain ⟨j, ps, hj, rfl, ho, hbx, hz, hb⟩ := hrel
    have HO := Lib.hid ho
    have HX := Lib.hid hbx
    have HZ := Lib.hid hz
    have HB := Lib.hid hb
    clear ho hbx hb
    by_cases hlt : j < 4
    · have hlt2 : (j : Int) < 4 := by omega
      have hw1 : IntKind.i64.wrap ((j : Int) + 1) = (j : Int) + 1 := IntWalk.i64_in _ (by omega)
      have hq0 : ¬ ((j : Int) < 0) := by omega
      have hcell : wr.cell? ⟨gk, j, none⟩ = some (.int .i64 (kindAt (2 + j))) := by rw [hz.cell, kindAt_two j hlt]
      clear hz
      obtain ⟨y, hy⟩ : ∃ y, y = kindAt (2 + j) := ⟨_, rfl⟩
      rw [← hy] at hcell
      have HY := Lib.hid hy
      clear hy
      obtain ⟨p, hp⟩ : ∃ p, p = wr.heap.size := ⟨_, rfl⟩
      obtain ⟨qs, hqs⟩ : ∃ qs : Nat → Nat, qs = fun k => if k = 2 + j then p else ps k := ⟨_, rfl⟩
      have HQ1 : Hid (waysL ps (2 + j) = waysL qs (2 + j)) := waysL_congr _ _ _ fun k hk => by rw [hqs]; simp only; rw [if_neg (by omega)]
      have HQ2 : Hid (waysL qs (2 + j) ++ wayC (2 + j) p = waysL qs (2 + j + 1)) := by show _ = _; rw [waysL]; congr 2; rw [hqs]; simp
      have HWC : Hid (wayC (2 + j) p = [.int .i64 y, .func (.func 68) #[] #[.pointer (some ⟨wr.heap.size, 0, none⟩)], .func (.func 69) #[] #[.pointer (some ⟨wr.heap.size, 0, none⟩)]]) := by
        show _ = _
        unfold wayC wayW wayR
        rw [if_neg (by omega), if_neg (by omega), if_neg (by omega), if_neg (by omega), HY.out, hp]
      have HBX : Hid (Boxed (wr.alloc (.cells #[.int .i64 y] 3)) p 3 (.int .i64 y)) := hp ▸ Boxed.new wr 3 (.int .i64 y)
      obtain ⟨W2, hW2⟩ : ∃ W2, W2 = wr.alloc (.cells #[.int .i64 y] 3) := ⟨_, rfl⟩
      obtain ⟨W3, hW3⟩ : ∃ W3, W3 = W2.alloc (.cells (wayC (2 + j) p).toArray 86) := ⟨_, rfl⟩
      have HW3 : Hid (W3 = (wr.alloc (.cells #[.int .i64 y] 3)).alloc (.cells #[.int .i64 y, .func (.func 68) #[] #[.pointer (some ⟨wr.heap.size, 0, none⟩)], .func (.func 69) #[] #[.pointer (some ⟨wr.heap.size, 0, none⟩)]] 86)) := by show _ = _; rw [hW3, hW2, HWC.out]
      have B23 : Hid (Below wr.heap.size wr W3) := by
        show Below _ _ _
        rw [hW3]
        exact below_size (hW2 ▸ alloc_below wr _) (alloc_below W2 _)
      have HS : Hid (W2.heap.size = wr.heap.size + 1) := by show _ = _; rw [hW2, World.size_alloc]
      have HR3 : Hid (RowAt W3 (wr.heap.size + 1) 86 (wayC (2 + j) p).toArray) := by
        show RowAt _ _ _ _
        rw [← HS.out, hW3]
        exact RowAt.new W2 _ _
      have HBX3 : Hid (Boxed W3 p 3 (.int .i64 y)) := by
        show Boxed _ _ _ _
        rw [hW3]
        exact (hW2 ▸ HBX.out).alloc _
      have HX3 : Hid (∀ k, 2 ≤ k → k < 2 + (j + 1) → Boxed W3 (qs k) 3 (.int .i64 (kindAt k))) := fun k h1 h2 => by
        rw [hqs]
        by_cases hk : k = 2 + j
        · simp only [hk, if_true]; rw [← HY.out]; exact HBX3.out
        · simp only [if_neg hk]; exact boxed_below (HX.out k h1 (by omega)) B23.out
      have HO3 : Hid (W3.ownsRow w.heap.size 86 3 u1 (2 + j) (waysL qs (2 + j))) := by
        show World.ownsRow _ _ _ _ _ _ _
        rw [← HQ1.out]
        exact World.ownsRow.kept (row := none) HO.out (grown_of_below B23.out) (by cases u1.ownBlock <;> simp)
      obtain ⟨i0, hi, hz0, hz1, hz2⟩ := info_parts Try.infoWay
      have HI := Lib.hid (And.intro hi (And.intro hz0 (And.intro hz1 hz2)))
      have HSZ : Hid (w.heap.size ≤ W3.heap.size) := Nat.le_trans HB.out.size B23.out.size
      have HC3 : Hid (∀ (i : Nat) x, (wayC (2 + j) p)[i]? = some x → W3.cell? ((⟨wr.heap.size + 1, 0, none⟩ : Addr).add i) = some x) := fun i x hx => by
        have hadd : (⟨wr.heap.size + 1, 0, none⟩ : Addr).add i = ⟨wr.heap.size + 1, i, none⟩ := by unfold Addr.add; split <;> simp_all
        rw [hadd, HR3.out.cell]
        simpa using hx
      have H1C : Hid (∀ x ∈ wayC (2 + j) p, x.oneCell' = true) := fun x hx => by
        rw [HWC.out] at hx
        simp only [List.mem_cons, List.not_mem_nil, or_false] at hx
        rcases hx with rfl | rfl | rfl <;> rfl
      clear hW3 hW2 hqs hi hz0 hz1 hz2 hp
      go_wp2_with (at_builtin; rw [← HW3.out]; go_loud (refine wpList_append_own _ (o := ⟨some 19, _, _, _, _, _⟩) rfl (.tmp 13) (.tmp 18) 78 rfl w.heap.size 86 i0 (.agg #[.int .i64 0, Value.nilFunc, Value.nilFunc]) 3 24 Try.underlying78 HI.out.1 HI.out.2.1 HI.out.2.2.1 HI.out.2.2.2 rfl (by decide) _ (2 + j) _ rfl HO3.out ⟨wr.heap.size + 1, 0, none⟩ 1 1 (wayC (2 + j) p) rfl rfl HC3.out H1C.out (by unfold maxLen; omega) (by omega) HSZ.out ?_); intro v5 w5 own5 gr5 _)
      refine ⟨⟨j + 1, qs, by omega, by congr 1, ?_, fun k h1 h2 => ?_, ?_, ?_⟩, ?_⟩
      · rw [show 2 + (j + 1) = 2 + j + 1 by omega, ← HQ2.out]; exact own5
      · have hb := HX3.out k h1 h2
        exact hb.kept gr5 (own_off HO3.out hb (by decide))
      · have hz := HZ.out.kept B23.out
        exact hz.grown gr5 (own_off HO3.out hz (by decide))
      · exact (below_size HB.out B23.out).grown gr5 HSZ.out (fun k hk => (World.ownsRow.lt HO3.out k hk).1)
      · show 4 - ((j : Int) + 1).toNat < 4 - (j : Int).toNat
        omega
    · have hj2 : j = 4 := by omega
      subst hj2
      go_wp2_with fail
      go_ret
      refine ⟨_, ps, rfl, ⟨?_, fun k h1 h2 => HX.out k h1 h2⟩, HB.out⟩
      obtain ⟨g, cap, hv, _⟩ := World.ownsRow.form HO.out (by omega)
      have hcs := World.ownsRow.cells HO.out (g := g) (by rw [hv]; rfl)
      have hcap : 6 ≤ cap ∧ cap ≤ maxLen := by
        rcases HO.out.2 with ⟨_, h0⟩ | ⟨g', cap', cur, hv', _, _, h1, h2, _⟩
        · omega
        · rw [hv] at hv'
          injection hv' with _ _ e3
          subst e3
          exact ⟨h1, h2⟩
      refine ⟨_, cap, hv, hcap.1, hcap.2, fun _ => ⟨g, 0, rfl, fun k hk i x hx => ?_⟩⟩
      have h1 := hcs (k * 3 + i) x (waysL_at ps 6 k hk i x hx)
      have hadd : (⟨g, 0, none⟩ : Addr).add (k * 3 + i) = ⟨g, k * 3 + i, none⟩ := by unfold Addr.add; split <;> simp_all
      rw [hadd] at h1
      rw [Nat.zero_add]
      exact h1
end Go.Proofs.Ytjhhpakaemnemaa
end
section
namespace Go.Proofs.Ytjhhpakaemnemaa
open Go.RowKit
set_option linter.unusedVariables false
set_option maxRecDepth 20000

/-- The first of n that is ok, or -1. -/
def First (n : Nat) (ok : Nat → Bool) (r : Int) : Prop := (∃ j : Nat, j < n ∧ r = j ∧ ok j = true ∧ ∀ i, i < j → ok i = false) ∨ (r = -1 ∧ ∀ i, i < n → ok i = false)
theorem First.any {n : Nat} {ok : Nat → Bool} {r : Int} (h : First n ok r) : decide (0 ≤ r) = (List.range n).any ok := by
  rcases h with ⟨j, hj, rfl, h1, _⟩ | ⟨rfl, h1⟩
  · rw [decide_eq_true (by omega)]
    exact (List.any_eq_true.2 ⟨j, List.mem_range.2 hj, h1⟩).symm
  · rw [decide_eq_false (by omega)]
    symm
    rw [List.any_eq_false]
    intro i hi
    rw [h1 i (List.mem_range.1 hi)]
    simp
theorem wpList_loadR {P : Program} {ops : Array Oper} {rest : List Oper} {o : Oper} {a : Act} {w : World} {Q : Exit → Act → World → Prop} (hgd : o.guard = none) (ty : TypeId) (x : Operand) (ho : o.op = .load ty x) (g k : Nat) (hx : a.eval x = .pointer (some ⟨g, k, none⟩)) (ps : List Value) (d : TypeDesc) (hc : w.rangeAt g k ps)
    (hu : P.underlying ty = some d) (hd : d.isRow = true) (hs : (P.info? ty).map (·.size) = some ps.length) (h : wpList P ops Q rest (a.put o.dst (.agg ps.toArray)) w) : wpList P ops Q (o :: rest) a w :=
  wpList_load_mid hgd ty x ho g k hx ps d hc hu hd hs h
theorem Try.sizeWay : (Try.prog.info? 86).map (·.size) = some 3 := by kernel_rfl
theorem Try.sizeItem : (Try.prog.info? 60).map (·.size) = some 4 := by kernel_rfl

set_option maxHeartbeats 2000000 in
theorem idxWay_any (w : World) (v : Value) (n p : Nat) (f : Nat → List Value) (ok : Nat → Bool) (hv : Rw w v 3 n f) (hl : ∀ j, (f j).length = 3)
    (hC : ∀ j wr, j < n → Below w.heap.size w wr → Calls Try.prog 72 #[.agg (f j).toArray, .pointer (some ⟨p, 0, none⟩)] wr (RetV wr (.bool (ok j)))) :
    Calls Try.prog 71 #[v, .func (.func 72) #[] #[.pointer (some ⟨p, 0, none⟩)]] w fun e w' => ∃ r : Int, e = .returned (.int .i64 r) ∧ First n ok r ∧ Below w.heap.size w w' := by
  have HC := Lib.hid hC
  have HV := Lib.hid hv
  have HL := Lib.hid hl
  obtain ⟨A, c, rfl, h1, h2, h3⟩ := hv
  unfold maxLen at h2
  clear hC hl
  go_enter Try.func71, Try.ntmps71
  go_wp2_with fail
  go_loopw [8] (fun i wr => ∃ j : Nat, j ≤ n ∧ i = .int .i64 (j : Int) ∧ Below w.heap.size w wr ∧ ∀ i, i < j → ok i = false) (fun i _ => n - (intOf i).toNat)
  case atStart => exact ⟨0, by omega, rfl, Below.refl _ _, fun i h => by omega⟩
  case round =>
    obtain ⟨j, hj, rfl, hb, hno⟩ := hrel
    have HB := Lib.hid hb
    have HNO := Lib.hid hno
    clear hb hno
    by_cases hlt : j < n
    · obtain ⟨b, off, rfl, hc⟩ := h3 (by omega)
      have hw1 : IntKind.i64.wrap ((j : Int) + 1) = (j : Int) + 1 := IntWalk.i64_in _ (by omega)
      have hq0 : ¬ ((j : Int) < 0) := by omega
      have hlt2 : (j : Int) < (n : Int) := by omega
      have HCJ := Lib.hid (HC.out j _ hlt HB.out)
      have HR : Hid (wr.rangeAt b (off + j * 3) (f j)) := fun i u hu => (HB.out.cell (p := ⟨b, off + j * 3 + i, none⟩) (World.block_lt_of_cell? w _ (hc j hlt i u hu))).trans (hc j hlt i u hu)
      have HSZ : Hid ((Try.prog.info? 86).map (·.size) = some (f j).length) := by show _ = _; rw [HL.out]; exact Try.sizeWay
      clear hc h3 HV HC
      go_wp2_with (with_reducible refine wpList_loadR (o := ⟨some 15, _, _, _, _, _⟩) rfl 86 (.tmp 14) rfl b (off + j * 3) (by with_unfolding_all rfl) (f j) _ HR.out Try.underlying86 rfl HSZ.out ?_)
      refine HCJ.out.mono ?_
      intro e w1 hh
      obtain ⟨he, b1⟩ := hh
      subst he
      have B1 := Lib.hid (below_size HB.out b1)
      clear b1 HCJ
      cases hok : ok j with
      | true =>
        go_wp2_with fail
        go_ret
        exact ⟨_, rfl, .inl ⟨j, hlt, rfl, hok, HNO.out⟩, B1.out⟩
      | false =>
        go_wp2_with fail
        go_roundw
        case rel => exact ⟨j + 1, by omega, by go_num, B1.out, fun i hi => by
          by_cases hij : i = j
          · rw [hij]; exact hok
          · exact HNO.out i (by omega)⟩
        case measure => simp [intOf]; omega
    · have hj2 : j = n := by omega
      subst hj2
      go_wp2_with fail
      go_ret
      exact ⟨_, rfl, .inr ⟨rfl, HNO.out⟩, HB.out⟩

set_option maxHeartbeats 2000000 in
theorem idxItem_any (w : World) (v : Value) (n p : Nat) (f : Nat → List Value) (ok : Nat → Bool) (hv : Rw w v 4 n f) (hl : ∀ j, (f j).length = 4)
    (hC : ∀ j wr, j < n → Below w.heap.size w wr → Calls Try.prog 40 #[.agg (f j).toArray, .pointer (some ⟨p, 0, none⟩)] wr (RetV wr (.bool (ok j)))) :
    Calls Try.prog 70 #[v, .func (.func 40) #[] #[.pointer (some ⟨p, 0, none⟩)]] w fun e w' => ∃ r : Int, e = .returned (.int .i64 r) ∧ First n ok r ∧ Below w.heap.size w w' := by
  have HC := Lib.hid hC
  have HV := Lib.hid hv
  have HL := Lib.hid hl
  obtain ⟨A, c, rfl, h1, h2, h3⟩ := hv
  unfold maxLen at h2
  clear hC hl
  go_enter Try.func70, Try.ntmps70
  go_wp2_with fail
  go_loopw [8] (fun i wr => ∃ j : Nat, j ≤ n ∧ i = .int .i64 (j : Int) ∧ Below w.heap.size w wr ∧ ∀ i, i < j → ok i = false) (fun i _ => n - (intOf i).toNat)
  case atStart => exact ⟨0, by omega, rfl, Below.refl _ _, fun i h => by omega⟩
  case round =>
    obtain ⟨j, hj, rfl, hb, hno⟩ := hrel
    have HB := Lib.hid hb
    have HNO := Lib.hid hno
    clear hb hno
    by_cases hlt : j < n
    · obtain ⟨b, off, rfl, hc⟩ := h3 (by omega)
      have hw1 : IntKind.i64.wrap ((j : Int) + 1) = (j : Int) + 1 := IntWalk.i64_in _ (by omega)
      have hq0 : ¬ ((j : Int) < 0) := by omega
      have hlt2 : (j : Int) < (n : Int) := by omega
      have HCJ := Lib.hid (HC.out j _ hlt HB.out)
      have HR : Hid (wr.rangeAt b (off + j * 4) (f j)) := fun i u hu => (HB.out.cell (p := ⟨b, off + j * 4 + i, none⟩) (World.block_lt_of_cell? w _ (hc j hlt i u hu))).trans (hc j hlt i u hu)
      have HSZ : Hid ((Try.prog.info? 60).map (·.size) = some (f j).length) := by show _ = _; rw [HL.out]; exact Try.sizeItem
      clear hc h3 HV HC
      go_wp2_with (with_reducible refine wpList_loadR (o := ⟨some 15, _, _, _, _, _⟩) rfl 60 (.tmp 14) rfl b (off + j * 4) (by with_unfolding_all rfl) (f j) _ HR.out Try.underlying60 rfl HSZ.out ?_)
      refine HCJ.out.mono ?_
      intro e w1 hh
      obtain ⟨he, b1⟩ := hh
      subst he
      have B1 := Lib.hid (below_size HB.out b1)
      clear b1 HCJ
      cases hok : ok j with
      | true =>
        go_wp2_with fail
        go_ret
        exact ⟨_, rfl, .inl ⟨j, hlt, rfl, hok, HNO.out⟩, B1.out⟩
      | false =>
        go_wp2_with fail
        go_roundw
        case rel => exact ⟨j + 1, by omega, by go_num, B1.out, fun i hi => by
          by_cases hij : i = j
          · rw [hij]; exact hok
          · exact HNO.out i (by omega)⟩
        case measure => simp [intOf]; omega
    · have hj2 : j = n := by omega
      subst hj2
      go_wp2_with fail
      go_ret
      exact ⟨_, rfl, .inr ⟨rfl, HNO.out⟩, HB.out⟩

set_option maxHeartbeats 2000000 in
theorem idxInt_any (w : World) (v : Value) (n p : Nat) (f : Nat → Int) (ok : Nat → Bool) (hv : Rw w v 1 n (fun j => [.int .i64 (f j)]))
    (hC : ∀ j wr, j < n → Below w.heap.size w wr → Calls Try.prog 44 #[.int .i64 (f j), .pointer (some ⟨p, 0, none⟩)] wr (RetV wr (.bool (ok j)))) :
    Calls Try.prog 73 #[v, .func (.func 44) #[] #[.pointer (some ⟨p, 0, none⟩)]] w fun e w' => ∃ r : Int, e = .returned (.int .i64 r) ∧ First n ok r ∧ Below w.heap.size w w' := by
  have HC := Lib.hid hC
  have HV := Lib.hid hv
  obtain ⟨A, c, rfl, h1, h2, h3⟩ := hv
  unfold maxLen at h2
  clear hC
  go_enter Try.func73, Try.ntmps73
  go_wp2_with fail
  go_loopw [8] (fun i wr => ∃ j : Nat, j ≤ n ∧ i = .int .i64 (j : Int) ∧ Below w.heap.size w wr ∧ ∀ i, i < j → ok i = false) (fun i _ => n - (intOf i).toNat)
  case atStart => exact ⟨0, by omega, rfl, Below.refl _ _, fun i h => by omega⟩
  case round =>
    obtain ⟨j, hj, rfl, hb, hno⟩ := hrel
    have HB := Lib.hid hb
    have HNO := Lib.hid hno
    clear hb hno
    by_cases hlt : j < n
    · obtain ⟨b, off, rfl, hc⟩ := h3 (by omega)
      have hw1 : IntKind.i64.wrap ((j : Int) + 1) = (j : Int) + 1 := IntWalk.i64_in _ (by omega)
      have hq0 : ¬ ((j : Int) < 0) := by omega
      have hlt2 : (j : Int) < (n : Int) := by omega
      have HCJ := Lib.hid (HC.out j _ hlt HB.out)
      have hcell : wr.cell? ⟨b, off + j, none⟩ = some (.int .i64 (f j)) := by
        have h := hc j hlt 0 (.int .i64 (f j)) rfl
        simp only [Nat.mul_one, Nat.add_zero] at h
        exact (HB.out.cell (p := ⟨b, off + j, none⟩) (World.block_lt_of_cell? w _ h)).trans h
      clear hc h3 HV HC
      go_wp2_with fail
      refine HCJ.out.mono ?_
      intro e w1 hh
      obtain ⟨he, b1⟩ := hh
      subst he
      have B1 := Lib.hid (below_size HB.out b1)
      clear b1 HCJ
      cases hok : ok j with
      | true =>
        go_wp2_with fail
        go_ret
        exact ⟨_, rfl, .inl ⟨j, hlt, rfl, hok, HNO.out⟩, B1.out⟩
      | false =>
        go_wp2_with fail
        go_roundw
        case rel => exact ⟨j + 1, by omega, by go_num, B1.out, fun i hi => by
          by_cases hij : i = j
          · rw [hij]; exact hok
          · exact HNO.out i (by omega)⟩
        case measure => simp [intOf]; omega
    · have hj2 : j = n := by omega
      subst hj2
      go_wp2_with fail
      go_ret
      exact ⟨_, rfl, .inr ⟨rfl, HNO.out⟩, HB.out⟩

theorem hasItem_any (w : World) (v : Value) (n p : Nat) (f : Nat → List Value) (ok : Nat → Bool) (hv : Rw w v 4 n f) (hl : ∀ j, (f j).length = 4)
    (hC : ∀ j wr, j < n → Below w.heap.size w wr → Calls Try.prog 40 #[.agg (f j).toArray, .pointer (some ⟨p, 0, none⟩)] wr (RetV wr (.bool (ok j)))) :
    Calls Try.prog 39 #[v, .func (.func 40) #[] #[.pointer (some ⟨p, 0, none⟩)]] w (RetV w (.bool ((List.range n).any ok))) := by
  have HX := Lib.hid (idxItem_any w v n p f ok hv hl hC)
  obtain ⟨A, c, rfl, _, _, _⟩ := hv
  clear hC
  go_enter Try.func39, Try.ntmps39
  go_wp2_with fail
  refine HX.out.mono ?_
  intro e w1 hh
  obtain ⟨r, he, hr, b1⟩ := hh
  subst he
  have HR := Lib.hid hr.any
  have B1 := Lib.hid b1
  clear hr b1
  go_wp2_with fail
  go_ret
  exact ⟨by rw [← HR.out]; rfl, B1.out⟩

theorem hasInt_any (w : World) (v : Value) (n p : Nat) (f : Nat → Int) (ok : Nat → Bool) (hv : Rw w v 1 n (fun j => [.int .i64 (f j)]))
    (hC : ∀ j wr, j < n → Below w.heap.size w wr → Calls Try.prog 44 #[.int .i64 (f j), .pointer (some ⟨p, 0, none⟩)] wr (RetV wr (.bool (ok j)))) :
    Calls Try.prog 43 #[v, .func (.func 44) #[] #[.pointer (some ⟨p, 0, none⟩)]] w (RetV w (.bool ((List.range n).any ok))) := by
  have HX := Lib.hid (idxInt_any w v n p f ok hv  hC)
  obtain ⟨A, c, rfl, _, _, _⟩ := hv
  clear hC
  go_enter Try.func43, Try.ntmps43
  go_wp2_with fail
  refine HX.out.mono ?_
  intro e w1 hh
  obtain ⟨r, he, hr, b1⟩ := hh
  subst he
  have HR := Lib.hid hr.any
  have B1 := Lib.hid b1
  clear hr b1
  go_wp2_with fail
  go_ret
  exact ⟨by rw [← HR.out]; rfl, B1.out⟩

theorem first_pos (z r : Int) (h : First 6 (fun j => kindAt j == z) r) : r = posK z := by
  rcases h with ⟨j, hj, rfl, h1, h2⟩ | ⟨rfl, h1⟩
  · have h1 : kindAt j = z := by simpa using h1
    subst h1
    match j, hj with
    | 0, _ => rfl
    | 1, _ => rfl
    | 2, _ => rfl
    | 3, _ => rfl
    | 4, _ => rfl
    | 5, _ => rfl
  · have n0 : (9 : Int) ≠ z := ne_of_beq_false (h1 0 (by omega))
    have n1 : (32 : Int) ≠ z := ne_of_beq_false (h1 1 (by omega))
    have n2 : (1 : Int) ≠ z := ne_of_beq_false (h1 2 (by omega))
    have n3 : (2 : Int) ≠ z := ne_of_beq_false (h1 3 (by omega))
    have n4 : (4 : Int) ≠ z := ne_of_beq_false (h1 4 (by omega))
    have n5 : (8 : Int) ≠ z := ne_of_beq_false (h1 5 (by omega))
    unfold posK
    rw [if_neg (Ne.symm n0), if_neg (Ne.symm n1), if_neg (Ne.symm n2), if_neg (Ne.symm n3), if_neg (Ne.symm n4), if_neg (Ne.symm n5)]
theorem wayC_length (j p : Nat) : (wayC j p).length = 3 := rfl
set_option maxHeartbeats 1000000 in
theorem find1_any (w : World) (p j q : Nat) (z : Int) (hp : Boxed w p 3 (.int .i64 z)) : Calls Try.prog 72 #[.agg (wayC j q).toArray, .pointer (some ⟨p, 0, none⟩)] w (RetV w (.bool (kindAt j == z))) := by
  have hc := hp.cell
  unfold wayC
  generalize wayW j q = a
  generalize wayR j q = b
  generalize kindAt j = k
  have hpl : p < w.heap.size := (Array.getElem?_eq_some_iff.1 hp).1
  clear hp
  go_enter Try.func72, Try.ntmps72
  go_wp2
  go_ret
  exact ⟨rfl, alloc_below _ _⟩
set_option maxHeartbeats 1000000 in
theorem find_any (w : World) (v : Value) (ps : Nat → Nat) (z : Int) (h : WaysAt w v ps) : Calls Try.prog 41 #[v, .int .i64 z] w (RetV w (.int .i64 (posK z))) := by
  have HX : Hid (∀ w p, WaysAt w v ps → Boxed w p 3 (.int .i64 z) → Calls Try.prog 71 #[v, .func (.func 72) #[] #[.pointer (some ⟨p, 0, none⟩)]] w fun e w' => e = .returned (.int .i64 (posK z)) ∧ Below w.heap.size w w') := fun w p h hp =>
    (idxWay_any w v 6 p (fun j => wayC j (ps j)) (fun j => kindAt j == z) h.1 (fun _ => rfl) fun j wr hj hb => find1_any wr p j (ps j) z (boxed_below hp hb)).mono fun e w' ⟨r, h1, h2, h3⟩ => ⟨by rw [h1, first_pos z r h2], h3⟩
  have HH := Lib.hid h
  obtain ⟨⟨A, c, rfl, _, _, _⟩, _⟩ := h
  go_enter Try.func41, Try.ntmps41
  go_wp2_with fail
  refine (HX.out _ _ (HH.out.below (alloc_below _ _)) (Boxed.new w 3 (.int .i64 z))).mono ?_
  intro e w1 hh
  obtain ⟨he, b1⟩ := hh
  subst he
  have B1 := Lib.hid (below_size (alloc_below _ _) b1)
  clear b1
  go_wp2_with fail
  go_ret
  exact ⟨rfl, B1.out⟩
end Go.Proofs.Ytjhhpakaemnemaa
end
section
namespace Go.Proofs.Ytjhhpakaemnemaa
open Go.RowKit
set_option linter.unusedVariables false
set_option maxRecDepth 20000

structure It where
  k : Int
  n : Nat
  b : List UInt8
  l : List (List UInt8)
instance : Inhabited It := ⟨⟨0, 0, [], []⟩⟩
def itC (x : It) (bv lv : Value) : List Value := [.int .i64 x.k, .int .u64 (x.n : Int), bv, lv]
/-- A slice of items reads as its. -/
def Its (w : World) (v : Value) (its : List It) : Prop :=
  ∃ bv lv : Nat → Value, Rw w v 4 its.length (fun j => itC (its.getD j default) (bv j) (lv j)) ∧ ∀ (j : Nat) x, its[j]? = some x → Bs w (bv j) x.b ∧ Kl w (lv j) x.l ∧ x.n < 18446744073709551616
theorem Its.below {w w' : World} {v : Value} {its : List It} (h : Its w v its) (hb : Below w.heap.size w w') : Its w' v its := by
  obtain ⟨bv, lv, h1, h2⟩ := h
  exact ⟨bv, lv, h1.below hb, fun j x hx => ⟨(h2 j x hx).1.below hb, (h2 j x hx).2.1.below hb, (h2 j x hx).2.2⟩⟩
/-- An item is written. -/
def St.item (s : St) (x : It) : St := if x.k = 9 then s.wByt x.b else if x.k = 32 then s.wKey x.l else s.wNum x.n x.k
def encS (its : List It) : St := its.foldl St.item ⟨[], 0⟩
def badK (z : Int) : Bool := decide (posK z < 0)

theorem St.fail_length (s : St) (x : Int) : (s.fail x).l.length ≤ s.l.length := by
  unfold St.fail
  split <;> simp
theorem St.item_length (s : St) (x : It) (h : ∀ l ∈ x.l, l.length = 32) : (s.item x).l.length ≤ s.l.length + 4002 := by
  unfold St.item
  split
  · unfold St.wByt
    split
    · have := s.fail_length 2; omega
    · have h1 := s.put_length (lowB x.b.length 2).reverse
      have h2 := (s.put (lowB x.b.length 2).reverse).put_length x.b
      rw [List.length_reverse, lowB_length] at h1
      omega
  · split
    · unfold St.wKey
      split
      · have := s.fail_length 2; omega
      · have h1 := s.put_length (lowB x.l.length 2).reverse
        have h2 := (s.put (lowB x.l.length 2).reverse).put_length x.l.flatten
        rw [List.length_reverse, lowB_length] at h1
        rw [flat_len32 _ h] at h2
        omega
    · unfold St.wNum
      split
      · rename_i h3
        have h1 := s.put_length (lowB x.n x.k.toNat).reverse
        rw [List.length_reverse, lowB_length] at h1
        have := inNum_shape x.k h3.1
        omega
      · have := s.fail_length 51; omega

set_option maxHeartbeats 1000000 in
theorem write9_any (w : World) (o : Nat) (v : Value) (s : St) (k : Int) (n : Nat) (bv lv : Value) (b : List UInt8) (h : OutAt w o v s) (hb : Bs w bv b) (hf : 0 < b.length → Off o v bv) (hs : s.l.length ≤ 1000000000) :
    Calls Try.prog 63 #[.pointer (some ⟨o, 0, none⟩), .agg #[.int .i64 k, .int .u64 (n : Int), bv, lv]] w fun e w' => e = .returned (.tuple #[]) ∧ ∃ v', OutAt w' o v' (s.wByt b) ∧ OutStep w w' o v v' := by
  have HX : Hid (∀ w, OutAt w o v s → Bs w bv b → Calls Try.prog 32 #[.pointer (some ⟨o, 0, none⟩), bv] w fun e w' => e = .returned (.tuple #[]) ∧ ∃ v', OutAt w' o v' (s.wByt b) ∧ OutStep w w' o v v') := fun w h hb => outBytes_any w o v s bv b h hb hf hs
  have HH := Lib.hid h
  have HB := Lib.hid hb
  obtain ⟨A, c, rfl, _, _, _⟩ := hb
  clear h hf hs
  go_enter Try.func63, Try.ntmps63
  go_wp2_with fail
  have AL := Lib.hid (alloc_below w (.cells #[.int .i64 k, .int .u64 (n : Int), .slice A b.length c, lv] 60))
  refine (HX.out _ (HH.out.kept AL.out) (HB.out.below AL.out)).mono ?_
  intro e w2 hh
  obtain ⟨he, v2, h2, s2⟩ := hh
  subst he
  have H2 := Lib.hid h2
  have S2 := Lib.hid ((OutStep.below AL.out).trans s2)
  clear h2 s2
  go_wp2
  go_end0
  exact ⟨rfl, v2, H2.out, S2.out⟩

set_option maxHeartbeats 1000000 in
theorem write32_any (w : World) (o : Nat) (v : Value) (s : St) (k : Int) (n : Nat) (bv lv : Value) (ls : List (List UInt8)) (h : OutAt w o v s) (hb : Kl w lv ls) (hf : 0 < ls.length → Off o v lv) (hs : s.l.length ≤ 1000000000) :
    Calls Try.prog 65 #[.pointer (some ⟨o, 0, none⟩), .agg #[.int .i64 k, .int .u64 (n : Int), bv, lv]] w fun e w' => e = .returned (.tuple #[]) ∧ ∃ v', OutAt w' o v' (s.wKey ls) ∧ OutStep w w' o v v' := by
  have HX : Hid (∀ w, OutAt w o v s → Kl w lv ls → Calls Try.prog 34 #[.pointer (some ⟨o, 0, none⟩), lv] w fun e w' => e = .returned (.tuple #[]) ∧ ∃ v', OutAt w' o v' (s.wKey ls) ∧ OutStep w w' o v v') := fun w h hb => outKeys_any w o v s lv ls h hb hf hs
  have HH := Lib.hid h
  have HB := Lib.hid hb
  obtain ⟨A, c, rfl, _, _, _⟩ := hb
  clear h hf hs
  go_enter Try.func65, Try.ntmps65
  go_wp2_with fail
  have AL := Lib.hid (alloc_below w (.cells #[.int .i64 k, .int .u64 (n : Int), bv, .slice A ls.length c] 60))
  refine (HX.out _ (HH.out.kept AL.out) (HB.out.below AL.out)).mono ?_
  intro e w2 hh
  obtain ⟨he, v2, h2, s2⟩ := hh
  subst he
  have H2 := Lib.hid h2
  have S2 := Lib.hid ((OutStep.below AL.out).trans s2)
  clear h2 s2
  go_wp2
  go_end0
  exact ⟨rfl, v2, H2.out, S2.out⟩

set_option maxHeartbeats 1000000 in
theorem writeN_any (w : World) (o p : Nat) (v : Value) (s : St) (k z : Int) (n : Nat) (bv lv : Value) (hn : n < 18446744073709551616) (h : OutAt w o v s) (hp : Boxed w p 3 (.int .i64 z)) (hs : s.l.length ≤ 1000000000) :
    Calls Try.prog 68 #[.pointer (some ⟨o, 0, none⟩), .agg #[.int .i64 k, .int .u64 (n : Int), bv, lv], .pointer (some ⟨p, 0, none⟩)] w fun e w' => e = .returned (.tuple #[]) ∧ ∃ v', OutAt w' o v' (s.wNum n z) ∧ OutStep w w' o v v' := by
  have HX : Hid (∀ w, OutAt w o v s → Calls Try.prog 30 #[.pointer (some ⟨o, 0, none⟩), .int .u64 (n : Int), .int .i64 z] w fun e w' => e = .returned (.tuple #[]) ∧ ∃ v', OutAt w' o v' (s.wNum n z) ∧ OutStep w w' o v v') := fun w h => outNumber_any w o v s n z hn h hs
  have HH := Lib.hid h
  have hc := hp.cell
  have hpl : p < w.heap.size := (Array.getElem?_eq_some_iff.1 hp).1
  clear h hs hp
  go_enter Try.func68, Try.ntmps68
  go_wp2_with fail
  have AL := Lib.hid (alloc_below w (.cells #[.int .i64 k, .int .u64 (n : Int), bv, lv] 60))
  refine (HX.out _ (HH.out.kept AL.out)).mono ?_
  intro e w2 hh
  obtain ⟨he, v2, h2, s2⟩ := hh
  subst he
  have H2 := Lib.hid h2
  have S2 := Lib.hid ((OutStep.below AL.out).trans s2)
  clear h2 s2 hc
  go_wp2
  go_end0
  exact ⟨rfl, v2, H2.out, S2.out⟩

set_option maxHeartbeats 1000000 in
theorem encode1_any (w : World) (q : Nat) (wv : Value) (ps : Nat → Nat) (k : Int) (n : Int) (bv lv : Value) (hq : Boxed w q 78 wv) (hw : WaysAt w wv ps) :
    Calls Try.prog 40 #[.agg #[.int .i64 k, .int .u64 n, bv, lv], .pointer (some ⟨q, 0, none⟩)] w (RetV w (.bool (badK k))) := by
  have HX : Hid (∀ w, WaysAt w wv ps → Calls Try.prog 41 #[wv, .int .i64 k] w (RetV w (.int .i64 (posK k)))) := fun w h => find_any w wv ps k h
  have HH := Lib.hid hw
  have hc := hq.cell
  have hpl : q < w.heap.size := (Array.getElem?_eq_some_iff.1 hq).1
  obtain ⟨⟨A, c, rfl, _, _, _⟩, _⟩ := hw
  clear hq
  go_enter Try.func40, Try.ntmps40
  go_wp2_with fail
  have AL := Lib.hid (alloc_below w (.cells #[.int .i64 k, .int .u64 n, bv, lv] 60))
  refine (HX.out _ (HH.out.below AL.out)).mono ?_
  intro e w2 hh
  obtain ⟨he, b2⟩ := hh
  subst he
  have B2 := Lib.hid (below_size AL.out b2)
  clear b2 hc
  go_wp2
  go_ret
  exact ⟨rfl, B2.out⟩
set_option maxHeartbeats 1000000 in
theorem decode1_any (w : World) (q : Nat) (wv : Value) (ps : Nat → Nat) (k : Int) (hq : Boxed w q 78 wv) (hw : WaysAt w wv ps) :
    Calls Try.prog 44 #[.int .i64 k, .pointer (some ⟨q, 0, none⟩)] w (RetV w (.bool (badK k))) := by
  have HX : Hid (∀ w, WaysAt w wv ps → Calls Try.prog 41 #[wv, .int .i64 k] w (RetV w (.int .i64 (posK k)))) := fun w h => find_any w wv ps k h
  have HH := Lib.hid hw
  have hc := hq.cell
  obtain ⟨⟨A, c, rfl, _, _, _⟩, _⟩ := hw
  clear hq
  go_enter Try.func44, Try.ntmps44
  go_wp2_with fail
  refine (HX.out _ HH.out).mono ?_
  intro e w2 hh
  obtain ⟨he, b2⟩ := hh
  subst he
  have B2 := Lib.hid b2
  clear b2 hc
  go_wp2
  go_ret
  exact ⟨rfl, B2.out⟩
end Go.Proofs.Ytjhhpakaemnemaa
end
