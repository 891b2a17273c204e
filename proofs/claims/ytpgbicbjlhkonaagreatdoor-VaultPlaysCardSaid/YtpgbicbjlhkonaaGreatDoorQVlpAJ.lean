/-
  Texts that belong together, merged: OtsA, CodA, VltA, VltB. Conditions: as each theorem names them.
-/
import Derived.Test.YtpgbicbjlhkonaaGreatDoorQVlpAI
import Derived.Test.YtpgbicbjlhkonaaGreatDoorQVlpAF
import Derived.Test.YtpgbicbjlhkonaaGreatDoorQVlpAB
import Derived.Test.YtpgbicbjlhkonaaGreatDoorQVlpAG
import Derived.Test.YtpgbicbjlhkonaaGreatDoorQVlpAE
import Derived.Test.YtpgbicbjlhkonaaGreatDoorQVlpAH
import Derived.Maps.AppendAt
import Derived.Test.YtpgbicbjlhkonaaGreatDoorQVlpAA
section
namespace Go.Proofs.YtpgbicbjlhkonaaGreatDoor
open Go.RowKit
set_option linter.unusedVariables false
set_option maxRecDepth 20000

def mC (n : Nat) : Array Value := meterC false n (.slice none 0 0)
section
variable {w0 w w' : World} {rs : List (Nat × TypeId × Array Value)} {m g n n' : Nat}
theorem Env.toRun (hE : Env w0 rs w) (ht : Tabs w0) (hm : rs[m]? = some (g, 82, mC n)) : Run w0 w g n w :=
  ⟨hE.below, hE.row m hm, ht, hE.spot m hm, hE.below.size, ⟨n, hE.row m hm⟩, grown_refl _ _⟩
theorem Env.ofRun (hE : Env w0 rs w) (hm : rs[m]? = some (g, 82, mC n)) (h : Run w0 w g n' w') : Env w0 (rs.set m (g, 82, mC n')) w' := hE.turned m hm h.row h.grown
theorem Env.bs (hE : Env w0 rs w) {v : Value} {l : List UInt8} (h : Bs w0 v l) : Bs w v l := h.below hE.below
theorem Env.arr (hE : Env w0 rs w) (i : Nat) {b : Nat} {t : TypeId} {l : List UInt8} (hi : rs[i]? = some (b, t, keyC l)) (k : Nat) (hl : l.length = k) (hk : k ≤ 1000000) : Bs w (.slice (some ⟨b, 0, none⟩) k k) l := by
  subst hl
  exact row_bs (hE.row i hi) (by unfold maxLen; omega)
theorem Sum_env (hE : Env w0 rs w) (ht : Tabs w0) (hm : rs[m]? = some (g, 82, mC n)) (v : Value) (ls : List (List UInt8)) (d : List UInt8) (hn : n ≤ 1000000000) (hd : d = digestB ls.flatten) (hb : Bss w v ls) (hl : ls.flatten.length ≤ 1000000) (hlm : ls.length ≤ 1000000) :
    Calls Tryz.prog 63 #[.pointer (some ⟨g, 0, none⟩), v] w fun e w' => e = .returned (.agg (keyC d)) ∧ Env w0 (rs.set m (g, 82, mC (n + 1))) w' :=
  (Sum_run w0 w g n v ls d (hE.toRun ht hm) hn hd hb hl hlm).mono fun _ _ h => ⟨h.1, hE.ofRun hm h.2⟩
end
theorem Env.tl {w0 w : World} {r : Nat × TypeId × Array Value} {rs : List (Nat × TypeId × Array Value)} (h : Env w0 (r :: rs) w) : Env w0 rs w := h.less (List.sublist_cons_self _ _)
theorem Env.cellV {w0 w : World} {rs : List (Nat × TypeId × Array Value)} {g : Nat} {t : TypeId} {cs : Array Value} (h : Env w0 rs w) (i : Nat) (hi : rs[i]? = some (g, t, cs)) (j : Nat) (v : Value) (hv : cs[j]? = some v) : w.cell? ⟨g, j, none⟩ = some v := by
  rw [(h.row i hi).cell j, hv]
theorem Env.fzV {w0 w : World} {rs : List (Nat × TypeId × Array Value)} {g : Nat} {t : TypeId} {cs : Array Value} (h : Env w0 rs w) (i : Nat) (hi : rs[i]? = some (g, t, cs)) (j : Nat) : w.frozen? ⟨g, j, none⟩ = false := (h.row i hi).frozen j
theorem Tryz.sizeKeyM (l : List UInt8) (h : l.length = 32) : (Tryz.prog.info? 117).map (·.size) = some (cellsB l).length := by
  have := Tryz.sizeKey l h
  rw [keyC_size] at this
  rw [cellsB_length]
  exact this
theorem run_partK {P : Program} {w : World} {o : Oper} {a : Act} (ty : TypeId) (x : Operand) (ho : o.op = .load ty x) (g k : Nat) (hx : a.eval x = .pointer (some ⟨g, k, none⟩)) (t : TypeId) (cs : Array Value) (l : List UInt8) (d : TypeDesc) (hr : RowAt w g t cs) (hp : (cs.toList.drop k).take (cellsB l).length = cellsB l)
    (hu : P.underlying ty = some d) (hd : d.isRow = true) (hs : (P.info? ty).map (·.size) = some (cellsB l).length) : (execOp a.eval o).run P w = .ok (.value (.agg (keyC l))) w := by
  have hc : w.rangeAt g k (cellsB l) := by
    have h := rangeAt_row (k := k) (n := (cellsB l).length) hr
    rwa [hp] at h
  unfold execOp
  simp only [ho, hx, Instr.loadAt, Instr.sureAddr, Sem.run_bind, Sem.run_pure, Result.andThen_ok, run_loadVar_mid w g k ty (cellsB l) d hc hu hd hs]
  rfl
theorem set_at {rs : List (Nat × TypeId × Array Value)} {m : Nat} {x y : Nat × TypeId × Array Value} (h : rs[m]? = some x) : (rs.set m y)[m]? = some y := by
  have := (List.getElem?_eq_some_iff.1 h).1
  simp [this]
/-- Two values that calls hand back, one continuation. -/
theorem share2 {P : Program} {md : Region.Mode} {ops : Array Oper} {Q : Exit → Act → World → Prop} {fin : Nat → Bool} {SS : World → Prop} {w : World} {m m' : Nat} {listed L' : Array Bool} {a : Act} {A : Value → Value → Act} (Φ : Value → Value → World → Prop)
    (hgo : ∀ u v x, Φ u v x → walkS P md ops Q SS fin m' L' (A u v) x) (h : (∀ u v x, Φ u v x → walkS P md ops Q SS fin m' L' (A u v) x) → walkS P md ops Q SS fin m listed a w) : walkS P md ops Q SS fin m listed a w := h hgo
theorem walkS_listed {P : Program} {md : Region.Mode} {ops : Array Oper} {Q : Exit → Act → World → Prop} {fin : Nat → Bool} {SS : World → Prop} {w : World} {m : Nat} {l l' : Array Bool} {a : Act} (h : l = l') (hw : walkS P md ops Q SS fin m l' a w) : walkS P md ops Q SS fin m l a w := h ▸ hw
theorem Bss.lit4 (w : World) (u0 u1 u2 u3 : Value) (a b c d : List UInt8) (h0 : Bs w u0 a) (h1 : Bs w u1 b) (h2 : Bs w u2 c) (h3 : Bs w u3 d) :
    Bss (w.alloc (.cells #[u0, u1, u2, u3] 38)) (.slice (some ⟨w.heap.size, 0, none⟩) 4 4) [a, b, c, d] := by
  have hb := alloc_below w (.cells #[u0, u1, u2, u3] 38)
  refine ⟨_, _, rfl, Nat.le_refl _, by unfold maxLen; simp, fun _ => ⟨w.heap.size, 0, rfl, fun j hj => ?_⟩⟩
  have hr := (RowAt.new w 38 #[u0, u1, u2, u3]).cell
  match j, hj with
  | 0, _ => exact ⟨u0, by rw [Nat.zero_add, hr]; rfl, h0.below hb⟩
  | 1, _ => exact ⟨u1, by rw [Nat.zero_add, hr]; rfl, h1.below hb⟩
  | 2, _ => exact ⟨u2, by rw [Nat.zero_add, hr]; rfl, h2.below hb⟩
  | 3, _ => exact ⟨u3, by rw [Nat.zero_add, hr]; rfl, h3.below hb⟩

end Go.Proofs.YtpgbicbjlhkonaaGreatDoor
end
section
namespace Go.Proofs.YtpgbicbjlhkonaaGreatDoor
open Go.RowKit
set_option linter.unusedVariables false
set_option maxRecDepth 20000

/-- A slice of whole numbers reads as l. -/
def Zs (w : World) (v : Value) (l : List Int) : Prop :=
  ∃ A c, v = .slice A l.length c ∧ l.length ≤ c ∧ c ≤ maxLen ∧ (0 < l.length → ∃ b off, A = some ⟨b, off, none⟩ ∧ ∀ j (h : j < l.length), w.cell? ⟨b, off + j, none⟩ = some (.int .i64 l[j]))
theorem Zs.keep {w w' : World} {v : Value} {l : List Int} (h : Zs w v l) (hk : ∀ p : Addr, p.block < w.heap.size → w'.cell? p = w.cell? p) : Zs w' v l := by
  obtain ⟨A, c, hv, h1, h2, h3⟩ := h
  refine ⟨A, c, hv, h1, h2, fun hl => ?_⟩
  obtain ⟨b, off, hA, hc⟩ := h3 hl
  exact ⟨b, off, hA, fun j hj => (hk _ (World.block_lt_of_cell? w _ (hc j hj))).trans (hc j hj)⟩
theorem Zs.below {w w' : World} {v : Value} {l : List Int} (h : Zs w v l) (hb : Below w.heap.size w w') : Zs w' v l := h.keep fun _ hp => hb.cell hp

/-- A slice of keys reads as ls. -/
def Kl (w : World) (v : Value) (ls : List (List UInt8)) : Prop :=
  ∃ A c, v = .slice A ls.length c ∧ ls.length ≤ c ∧ c ≤ maxLen ∧ (∀ l ∈ ls, l.length = 32) ∧ (0 < ls.length → ∃ b o, A = some ⟨b, o, none⟩ ∧ ∀ (k : Nat) (l : List UInt8), ls[k]? = some l → w.rangeAt b (o + k * 32) (cellsB l))
theorem Kl.nil (w : World) : Kl w (.slice none 0 0) [] := ⟨none, 0, rfl, Nat.le_refl _, by simp [maxLen], by simp, fun h => absurd h (by simp)⟩
theorem Kl.keep {w w' : World} {v : Value} {ls : List (List UInt8)} (h : Kl w v ls) (hk : ∀ p : Addr, p.block < w.heap.size → w'.cell? p = w.cell? p) : Kl w' v ls := by
  obtain ⟨A, c, hv, h1, h2, h4, h3⟩ := h
  refine ⟨A, c, hv, h1, h2, h4, fun hl => ?_⟩
  obtain ⟨b, o, hA, hc⟩ := h3 hl
  exact ⟨b, o, hA, fun k l e j u hj => (hk ⟨b, o + k * 32 + j, none⟩ (World.block_lt_of_cell? w _ (hc k l e j u hj))).trans (hc k l e j u hj)⟩
theorem Kl.below {w w' : World} {v : Value} {ls : List (List UInt8)} (h : Kl w v ls) (hb : Below w.heap.size w w') : Kl w' v ls := h.keep fun _ hp => hb.cell hp

/-- One row may have turned; what is told of bytes and keys stays, where that row holds none. -/
theorem Bs.turn {w w' : World} {g : Nat} {t : TypeId} {cs : Array Value} {v : Value} {l : List UInt8} (h : Bs w v l) (hr : RowAt w g t cs) (hcs : ∀ (j : Nat) (x : Int), cs[j]? ≠ some (Value.int .u8 x)) (hg : w.grownBy w' (some g)) : Bs w' v l := by
  obtain ⟨A, c, hv, h1, h2, h3⟩ := h
  refine ⟨A, c, hv, h1, h2, fun hl => ?_⟩
  obtain ⟨b, off, hA, hc⟩ := h3 hl
  refine ⟨b, off, hA, fun j hj => hg.cell (hc j hj) fun e => ?_⟩
  injection e with e
  have h4 := hc j hj
  simp only at e
  subst e
  rw [hr.cell] at h4
  exact hcs _ _ h4
theorem Kl.turn {w w' : World} {g : Nat} {t : TypeId} {cs : Array Value} {v : Value} {ls : List (List UInt8)} (h : Kl w v ls) (hr : RowAt w g t cs) (hcs : ∀ (j : Nat) (x : Int), cs[j]? ≠ some (Value.int .u8 x)) (hg : w.grownBy w' (some g)) : Kl w' v ls := by
  obtain ⟨A, c, hv, h1, h2, h5, h3⟩ := h
  refine ⟨A, c, hv, h1, h2, h5, fun hl => ?_⟩
  obtain ⟨b, o, hA, hc⟩ := h3 hl
  refine ⟨b, o, hA, fun k l e j u hj => hg.cell (hc k l e j u hj) fun e2 => ?_⟩
  injection e2 with e2
  have h4 := hc k l e j u hj
  simp only at e2
  subst e2
  rw [hr.cell] at h4
  obtain ⟨x, _, rfl⟩ := List.mem_map.1 (List.mem_of_getElem? hj)
  exact hcs _ _ h4

/-- What an In or an Out has: bytes, and an error. -/
structure St where
  l : List UInt8
  e : Int
def St.fail (s : St) (x : Int) : St := if s.e = 0 then ⟨[], x⟩ else s
def isNum (z : Int) : Bool := z == 1 || z == 2 || z == 4 || z == 8
/-! In. -/
def St.taken (s : St) (n : Nat) : St := if s.l.length < n then s.fail 3 else s
def St.take (s : St) (n : Nat) : List UInt8 := if (s.taken n).e = 0 then s.l.take n else []
def St.rest (s : St) (n : Nat) : St := if (s.taken n).e = 0 then ⟨s.l.drop n, 0⟩ else s.taken n
def St.num (s : St) (z : Int) : Nat := if isNum z then ofHighB ((s.take z.toNat).take 8) else 0
def St.numS (s : St) (z : Int) : St := if isNum z then s.rest z.toNat else s.fail 51
def St.cnt (s : St) (most : Int) : Nat := if (s.num 2 : Int) > most then 0 else s.num 2
def St.cntS (s : St) (most : Int) : St := if (s.num 2 : Int) > most then (s.numS 2).fail 2 else s.numS 2
def St.byt (s : St) (most : Int) : List UInt8 := (s.cntS (min most 4000)).take (s.cnt (min most 4000))
def St.bytS (s : St) (most : Int) : St := (s.cntS (min most 4000)).rest (s.cnt (min most 4000))
def St.key (s : St) : List UInt8 := if (s.take 32).length = 32 then s.take 32 else zeroKey
def St.keyB (s : St) (most : Int) : List UInt8 := (s.cntS (min most 100)).take (32 * s.cnt (min most 100))
def St.keyS (s : St) (most : Int) : St := (s.cntS (min most 100)).rest (32 * s.cnt (min most 100))
/-- Bytes, cut into keys. -/
def cut32 : Nat → List UInt8 → List (List UInt8)
  | 0, _ => []
  | n + 1, l => l.take 32 :: cut32 n (l.drop 32)
def St.keys (s : St) (most : Int) : List (List UInt8) := cut32 ((s.keyB most).length / 32) (s.keyB most)
def St.fin (s : St) : Int := if s.e = 0 then (if s.l = [] then 0 else 50) else s.e
/-! Out. -/
def St.put (s : St) (b : List UInt8) : St := if s.e = 0 then ⟨s.l ++ b, 0⟩ else s
def St.wNum (s : St) (n : Nat) (z : Int) : St := if isNum z ∧ n < 256 ^ z.toNat then s.put (lowB n z.toNat).reverse else s.fail 51
def St.wByt (s : St) (b : List UInt8) : St := if b.length > 4000 then s.fail 2 else (s.put (lowB b.length 2).reverse).put b
def St.wKey (s : St) (ls : List (List UInt8)) : St := if ls.length > 100 then s.fail 2 else (s.put (lowB ls.length 2).reverse).put ls.flatten

theorem St.take_length (s : St) (n : Nat) : (s.take n).length ≤ n := by
  unfold St.take
  split <;> simp <;> omega
theorem St.take_short (s : St) (n : Nat) : (s.take n).length = n ∨ s.take n = [] := by
  unfold St.take St.taken St.fail
  by_cases h : s.l.length < n
  · right
    rw [if_pos h]
    by_cases h2 : s.e = 0
    · simp [h2]
    · simp [h2]
  · rw [if_neg h]
    by_cases h2 : s.e = 0
    · left; rw [if_pos h2, List.length_take]; omega
    · right; rw [if_neg h2]

/-- The slice lies in a row of bytes, if anywhere. -/
def U8At (w : World) (v : Value) : Prop := ∀ k, v.ownBlock = some k → ∃ cur, RowAt w k 5 cur
theorem U8At.nil (w : World) (n c : Nat) : U8At w (.slice none n c) := fun k h => by cases h
theorem U8At.below {w w' : World} {v : Value} (h : U8At w v) (hb : Below w.heap.size w w') : U8At w' v := fun k hk => by
  obtain ⟨cur, hr⟩ := h k hk
  exact ⟨cur, hr.kept hb⟩
theorem U8At.of {w : World} {base : Nat} {v : Value} {l : List UInt8} (h : OwnB w base 5 v l) : U8At w v := fun k hk => h.spot hk
theorem U8At.turn {w w' : World} {g : Nat} {t : TypeId} {cs : Array Value} {v : Value} (h : U8At w v) (hr : RowAt w g t cs) (ht : t ≠ 5) (hg : w.grownBy w' (some g)) : U8At w' v := fun k hk => by
  obtain ⟨cur, h2⟩ := h k hk
  refine ⟨cur, h2.grown hg fun e => ?_⟩
  injection e with e
  subst e
  have e2 := hr.symm.trans h2
  injection e2 with e2
  injection e2 with _ e2 _
  exact ht e2
theorem U8At.apart {w : World} {g : Nat} {t : TypeId} {cs : Array Value} {v : Value} (h : U8At w v) (hr : RowAt w g t cs) (ht : t ≠ 5) : v.ownBlock ≠ some g := fun e => by
  obtain ⟨cur, h2⟩ := h g e
  have e2 := hr.symm.trans h2
  injection e2 with e2
  injection e2 with _ e2 _
  exact ht e2
theorem U8At.cut {w : World} {A : Option Addr} {n c n' c' : Nat} (h : U8At w (.slice A n c)) (k : Nat) : U8At w (.slice (if c = k then A else Option.map (fun x => x.add k) A) n' c') := fun j hj => by
  rcases A with _ | ⟨b, o, sp⟩
  · split at hj <;> simp [Value.ownBlock] at hj
  · refine h j ?_
    split at hj
    · exact hj
    · simp only [Option.map_some, Value.ownBlock] at hj ⊢
      rw [← hj]
      unfold Addr.add
      split <;> rfl
theorem Bs.farOf {w w' : World} {g : Nat} {v : Value} {l : List UInt8} (h : Bs w v l) (ha : v.ownBlock ≠ some g) (hg : w.grownBy w' (some g)) : Bs w' v l := by
  obtain ⟨A, c, rfl, h1, h2, h3⟩ := h
  refine ⟨A, c, rfl, h1, h2, fun hl => ?_⟩
  obtain ⟨b, off, rfl, hc⟩ := h3 hl
  refine ⟨b, off, rfl, fun j hj => hg.cell (hc j hj) fun e => ?_⟩
  injection e with e
  simp only at e
  subst e
  exact ha rfl
/-- The slice lies in a row of keys, if anywhere. -/
def KyAt (w : World) (v : Value) : Prop := ∀ k, v.ownBlock = some k → ∃ cur, RowAt w k 117 cur
theorem KyAt.nil (w : World) (n c : Nat) : KyAt w (.slice none n c) := fun k h => by cases h
theorem KyAt.below {w w' : World} {v : Value} (h : KyAt w v) (hb : Below w.heap.size w w') : KyAt w' v := fun k hk => by
  obtain ⟨cur, hr⟩ := h k hk
  exact ⟨cur, hr.kept hb⟩
theorem U8At.grown {w w' : World} {v : Value} {row : Option Nat} (h : U8At w v) (hg : w.grownBy w' row) (hr : v.ownBlock ≠ row ∨ row = none) : U8At w' v := fun k hk => by
  obtain ⟨cur, h2⟩ := h k hk
  refine ⟨cur, h2.grown hg fun e => ?_⟩
  rcases hr with hr | hr
  · exact hr (hk.trans e)
  · rw [hr] at e; cases e
theorem KyAt.grown {w w' : World} {v : Value} {row : Option Nat} (h : KyAt w v) (hg : w.grownBy w' row) (hr : v.ownBlock ≠ row ∨ row = none) : KyAt w' v := fun k hk => by
  obtain ⟨cur, h2⟩ := h k hk
  refine ⟨cur, h2.grown hg fun e => ?_⟩
  rcases hr with hr | hr
  · exact hr (hk.trans e)
  · rw [hr] at e; cases e
theorem Bs.grown2 {w w' : World} {v : Value} {l : List UInt8} {row : Option Nat} (h : Bs w v l) (hg : w.grownBy w' row) (hr : v.ownBlock ≠ row ∨ row = none) : Bs w' v l := by
  obtain ⟨A, c, rfl, h1, h2, h3⟩ := h
  refine ⟨A, c, rfl, h1, h2, fun hl => ?_⟩
  obtain ⟨b, off, rfl, hc⟩ := h3 hl
  refine ⟨b, off, rfl, fun j hj => hg.cell (hc j hj) fun e => ?_⟩
  rcases hr with hr | hr
  · exact hr e
  · rw [hr] at e; cases e
theorem Kl.grown2 {w w' : World} {v : Value} {ls : List (List UInt8)} {row : Option Nat} (h : Kl w v ls) (hg : w.grownBy w' row) (hr : v.ownBlock ≠ row ∨ row = none) : Kl w' v ls := by
  obtain ⟨A, c, rfl, h1, h2, h4, h3⟩ := h
  refine ⟨A, c, rfl, h1, h2, h4, fun hl => ?_⟩
  obtain ⟨b, off, rfl, hc⟩ := h3 hl
  refine ⟨b, off, rfl, fun k l hk j u hj => hg.cell (hc k l hk j u hj) fun e => ?_⟩
  rcases hr with hr | hr
  · exact hr e
  · rw [hr] at e; cases e
theorem U8At.other {w : World} {v : Value} {g : Nat} {t : TypeId} {cs : Array Value} (h : U8At w v) (hr : RowAt w g t cs) (ht : t ≠ 5) : v.ownBlock ≠ some g := h.apart hr ht
theorem KyAt.other {w : World} {v : Value} {g : Nat} {t : TypeId} {cs : Array Value} (h : KyAt w v) (hr : RowAt w g t cs) (ht : t ≠ 117) : v.ownBlock ≠ some g := fun e => by
  obtain ⟨cur, h2⟩ := h g e
  have e2 := hr.symm.trans h2
  injection e2 with e2
  injection e2 with _ e2 _
  exact ht e2
/-- An In at i. -/
def InAt (w : World) (i : Nat) (s : St) : Prop := ∃ v, RowAt w i 156 #[v, .int .i64 s.e] ∧ Bs w v s.l ∧ U8At w v
/-- An Out at o, with what was written in v. -/
def OutAt (w : World) (o : Nat) (v : Value) (s : St) : Prop := RowAt w o 126 #[v, .int .i64 s.e] ∧ OwnB w 0 5 v s.l

theorem no_u8 {w : World} {v : Value} {l : List UInt8} (h : Bs w v l) (e : Int) : ∀ (j : Nat) (x : Int), (#[v, .int .i64 e] : Array Value)[j]? ≠ some (Value.int .u8 x) := by
  obtain ⟨A, c, rfl, _⟩ := h
  intro j x hx
  match j, hx with
  | 0, hx => simp at hx
  | 1, hx => simp at hx
theorem InAt.kept {w w' : World} {i : Nat} {s : St} (h : InAt w i s) (hb : Below w.heap.size w w') : InAt w' i s := by
  obtain ⟨v, hr, hv, hu⟩ := h
  exact ⟨v, hr.kept hb, hv.below hb, hu.below hb⟩
theorem InAt.far {w w' : World} {i g : Nat} {s : St} {t : TypeId} {cs : Array Value} (h : InAt w i s) (hr : RowAt w g t cs) (ht : t ≠ 5) (hne : g ≠ i) (hg : w.grownBy w' (some g)) : InAt w' i s := by
  obtain ⟨v, h1, h2, h3⟩ := h
  exact ⟨v, h1.grown hg (by intro e; injection e with e; exact hne e.symm), h2.farOf (h3.apart hr ht) hg, h3.turn hr ht hg⟩
theorem InAt.lt {w : World} {i : Nat} {s : St} (h : InAt w i s) : i < w.heap.size := by obtain ⟨v, hr, _⟩ := h; exact hr.lt
theorem InAt.drew {w : World} {i : Nat} {s : St} (h : InAt w i s) : InAt w.drew i s := h
theorem InAt.bs {w w' : World} {i : Nat} {s : St} (h : InAt w i s) {v : Value} {l : List UInt8} (hb : Bs w v l) (hg : w.grownBy w' (some i)) : Bs w' v l := by
  obtain ⟨v2, hr, hv, _⟩ := h
  exact hb.turn hr (no_u8 hv _) hg
theorem InAt.kl {w w' : World} {i : Nat} {s : St} (h : InAt w i s) {v : Value} {l : List (List UInt8)} (hb : Kl w v l) (hg : w.grownBy w' (some i)) : Kl w' v l := by
  obtain ⟨v2, hr, hv, _⟩ := h
  exact hb.turn hr (no_u8 hv _) hg
theorem grown_any {w w' : World} (h : Below w.heap.size w w') (r : Option Nat) : w.grownBy w' r := ⟨h.os, h.tape, h.output, h.size, fun k hk _ => h.block k hk⟩
theorem grown_drewN {w w' : World} {r : Option Nat} (h : w.grownBy w' r) (n : Nat) : w.grownBy (w'.drewN n) r := ⟨h.os, h.tape, h.output, h.size, h.block⟩

theorem Bs.low {w : World} {v : Value} {l : List UInt8} (h : Bs w v l) (hl : 0 < l.length) : ∀ k, v.ownBlock = some k → k < w.heap.size := by
  obtain ⟨A, c, rfl, _, _, h3⟩ := h
  obtain ⟨b, off, rfl, hc⟩ := h3 hl
  intro k hk
  obtain rfl : b = k := by simpa [Value.ownBlock] using hk
  exact World.block_lt_of_cell? w _ (hc 0 hl)
theorem Kl.low {w : World} {v : Value} {ls : List (List UInt8)} (h : Kl w v ls) (hl : 0 < ls.length) : ∀ k, v.ownBlock = some k → k < w.heap.size := by
  obtain ⟨A, c, rfl, _, _, h4, h3⟩ := h
  obtain ⟨b, off, rfl, hc⟩ := h3 hl
  intro k hk
  obtain rfl : b = k := by simpa [Value.ownBlock] using hk
  have e : ls[0]? = some ls[0] := List.getElem?_eq_getElem hl
  have h32 := h4 ls[0] (List.getElem_mem hl)
  have h1 := hc 0 ls[0] e 0 _ (cellsB_get ls[0] 0 (by omega))
  exact World.block_lt_of_cell? w _ h1

/-- What a call did to an Out: its row and the row of what was written may have turned; the latter is another one only if it is new. -/
structure OutStep (w w' : World) (o : Nat) (v v' : Value) : Prop where
  os : w'.os = w.os
  tape : w'.tape = w.tape
  output : w'.output = w.output
  size : w.heap.size ≤ w'.heap.size
  block : ∀ k, k < w.heap.size → k ≠ o → v.ownBlock ≠ some k → w'.heap[k]? = w.heap[k]?
  lies : ∀ k, v'.ownBlock = some k → v.ownBlock = some k ∨ w.heap.size ≤ k
theorem OutStep.refl (w : World) (o : Nat) (v : Value) : OutStep w w o v v := ⟨rfl, rfl, rfl, Nat.le_refl _, fun _ _ _ _ => rfl, fun _ h => .inl h⟩
theorem OutStep.trans {a b c : World} {o : Nat} {u v x : Value} (h : OutStep a b o u v) (k : OutStep b c o v x) : OutStep a c o u x where
  os := k.os.trans h.os
  tape := k.tape.trans h.tape
  output := k.output.trans h.output
  size := Nat.le_trans h.size k.size
  block i hi h1 h2 := by
    refine (k.block i (Nat.lt_of_lt_of_le hi h.size) h1 fun e => ?_).trans (h.block i hi h1 h2)
    rcases h.lies i e with h3 | h3
    · exact h2 h3
    · omega
  lies i hi := by
    rcases k.lies i hi with h3 | h3
    · exact h.lies i h3
    · exact .inr (Nat.le_trans h.size h3)
theorem OutStep.below {a b : World} {o : Nat} {v : Value} (h : Below a.heap.size a b) : OutStep a b o v v := ⟨h.os, h.tape, h.output, h.size, fun i hi _ _ => h.block i hi, fun _ h => .inl h⟩
theorem OutStep.row {a b : World} {o : Nat} {v v' : Value} (h : a.grownBy b (some o)) (hl : ∀ k, v'.ownBlock = some k → v.ownBlock = some k ∨ a.heap.size ≤ k) : OutStep a b o v v' :=
  ⟨h.os, h.tape, h.output, h.size, fun i hi h1 _ => h.block i hi (fun e => by injection e with e; exact h1 e), hl⟩
theorem OutStep.own {a b : World} {o : Nat} {v v' : Value} (h : a.grownBy b v.ownBlock) (hl : v'.ownBlock = v.ownBlock ∨ ∀ k, v'.ownBlock = some k → a.heap.size ≤ k) : OutStep a b o v v' :=
  ⟨h.os, h.tape, h.output, h.size, fun i hi _ h2 => h.block i hi (fun e => h2 e.symm), fun k hk => hl.imp (fun e => e.symm.trans hk) fun h => h k hk⟩
/-- Where both lie above B all below it is as it was. -/
theorem OutStep.base {B : Nat} {w0 a b : World} {o : Nat} {v v' : Value} (h : OutStep a b o v v') (h0 : Below B w0 a) (hB : B ≤ a.heap.size) (ho : B ≤ o) (hv : ∀ k, v.ownBlock = some k → B ≤ k) : Below B w0 b ∧ ∀ k, v'.ownBlock = some k → B ≤ k := by
  refine ⟨h0.trans ⟨h.os, h.tape, h.output, h.size, fun k hk => h.block k (Nat.lt_of_lt_of_le hk hB) (by omega) fun e => ?_⟩, fun k hk => ?_⟩
  · have := hv k e; omega
  · rcases h.lies k hk with h1 | h1
    · exact hv k h1
    · omega
theorem OutAt.kept {w w' : World} {o : Nat} {v : Value} {s : St} (h : OutAt w o v s) (hb : Below w.heap.size w w') : OutAt w' o v s := ⟨h.1.kept hb, h.2.below hb⟩
theorem OutAt.far {w : World} {o : Nat} {v : Value} {s : St} (h : OutAt w o v s) : some o ≠ v.ownBlock := h.2.other h.1 (by decide)
/-- A row that is neither of the two. -/
theorem OutStep.keeps {a b : World} {o g : Nat} {v v' : Value} {t : TypeId} {cs : Array Value} (h : OutStep a b o v v') (hr : RowAt a g t cs) (h1 : g ≠ o) (h2 : v.ownBlock ≠ some g) : RowAt b g t cs := (h.block g hr.lt h1 h2).trans hr
theorem OutStep.bs {a b : World} {o : Nat} {v v' u : Value} {l : List UInt8} (h : OutStep a b o v v') (hb : Bs a u l) (h1 : 0 < l.length → ∀ k, u.ownBlock = some k → k ≠ o ∧ v.ownBlock ≠ some k) : Bs b u l := by
  obtain ⟨A, c, rfl, q1, q2, q3⟩ := hb
  refine ⟨A, c, rfl, q1, q2, fun hl => ?_⟩
  obtain ⟨g, off, rfl, hc⟩ := q3 hl
  obtain ⟨h2, h3⟩ := h1 hl g rfl
  exact ⟨g, off, rfl, fun j hj => (World.cell?_of_block (a := ⟨g, off + j, none⟩) (h.block g (World.block_lt_of_cell? a _ (hc j hj)) h2 h3)).trans (hc j hj)⟩
end Go.Proofs.YtpgbicbjlhkonaaGreatDoor
end
section
namespace Go.Proofs.YtpgbicbjlhkonaaGreatDoor
set_option linter.unusedVariables false

/-! Disks: what is sure, and writes that are pending. -/
inductive DAct
  | write (i : Nat) (b : List UInt8)
  | sync
def Dev.act (d : Dev) : DAct → Int × Dev
  | .write i b => (d.writeE i b, d.write i b)
  | .sync => (d.syncE, d.sync)
/-- One thing behind the other, until one tells an error. -/
def Dev.run (d : Dev) : List DAct → Int × Dev
  | [] => (0, d)
  | x :: l => if (d.act x).1 = 0 then (d.act x).2.run l else d.act x
theorem Dev.run_ok {d : Dev} {x : DAct} (l : List DAct) (h : (d.act x).1 = 0) : d.run (x :: l) = (d.act x).2.run l := if_pos h
theorem Dev.run_err {d : Dev} {x : DAct} (l : List DAct) (h : (d.act x).1 ≠ 0) : d.run (x :: l) = d.act x := if_neg h
theorem Dev.run_app {d : Dev} {l : List DAct} (m : List DAct) (h : (d.run l).1 = 0) : d.run (l ++ m) = (d.run l).2.run m := by
  induction l generalizing d with
  | nil => rfl
  | cons x l ih =>
    by_cases hx : (d.act x).1 = 0
    · rw [Dev.run_ok l hx] at h ⊢
      rw [List.cons_append, Dev.run_ok _ hx]
      exact ih h
    · rw [Dev.run_err l hx] at h
      exact absurd h hx
theorem Dev.run_stop {d : Dev} {l : List DAct} (m : List DAct) (h : (d.run l).1 ≠ 0) : d.run (l ++ m) = d.run l := by
  induction l generalizing d with
  | nil => exact absurd rfl h
  | cons x l ih =>
    by_cases hx : (d.act x).1 = 0
    · rw [Dev.run_ok l hx] at h ⊢
      rw [List.cons_append, Dev.run_ok _ hx]
      exact ih h
    · rw [List.cons_append, Dev.run_err _ hx, Dev.run_err _ hx]
theorem Dev.run_keeps_ok {d : Dev} (h : d.Ok) (l : List DAct) : (d.run l).2.Ok := by
  induction l generalizing d with
  | nil => exact h
  | cons x l ih =>
    have hx : (d.act x).2.Ok := by
      cases x with
      | write i b => exact h.write i b
      | sync => exact h.sync
    by_cases h0 : (d.act x).1 = 0
    · rw [Dev.run_ok l h0]; exact ih hx
    · rw [Dev.run_err l h0]; exact hx
theorem Dev.run_keeps_len (d : Dev) (l : List DAct) : (d.run l).2.now.length = d.now.length := by
  induction l generalizing d with
  | nil => rfl
  | cons x l ih =>
    have hx : (d.act x).2.now.length = d.now.length := by
      cases x with
      | write i b => exact Dev.write_now i b
      | sync => exact Dev.sync_now
    by_cases h0 : (d.act x).1 = 0
    · rw [Dev.run_ok l h0, ih, hx]
    · rw [Dev.run_err l h0, hx]
/-! Slots. C: the sectors. -/
section
variable (C : List (List UInt8)) (lo n : Nat)
def sec (i : Nat) : List UInt8 := C.getD i []
/-- A slot's bytes: its head's, and those of the n sectors behind it. -/
def slotB : List UInt8 := ((List.range (n + 1)).map fun i => sec C (lo + i)).flatten
/-- Where slot s begins. -/
def lowOf (at_ n s : Nat) : Nat := at_ + s * (n + 1)
def numOf : Nat := ofHighB ((sec C lo).take 8)
variable (hd : Nat → List UInt8 → List UInt8)
def countsV : List UInt8 × Nat :=
  let all := slotB C lo n
  let seq := ofHighB (all.take 8)
  let size := ofHighB ((all.drop 8).take 8)
  if seq = 0 ∨ 256 * n < size then ([], 0)
  else if all.take 256 = hd seq ((all.drop 256).take size) then ((all.drop 256).take size, seq) else ([], 0)
end
def bestV (C : List (List UInt8)) (at_ n : Nat) (hd : Nat → List UInt8 → List UInt8) : Nat × List UInt8 × Nat :=
  let x := countsV C (lowOf at_ n 0) n hd
  let y := countsV C (lowOf at_ n 1) n hd
  if x.2 = 0 ∨ x.2 < y.2 then (1, y) else (0, x)
def cleanV (C : List (List UInt8)) (lo n : Nat) : Bool := (slotB C lo n).all (· == 0)
/-- What is asked of heads. -/
structure HeadOk (hd : Nat → List UInt8 → List UInt8) : Prop where
  len : ∀ q b, b.length ≤ 60000 → (hd q b).length = 256
  num : ∀ q b, q < 18446744073709551616 → b.length ≤ 60000 → ofHighB ((hd q b).take 8) = q
  size : ∀ q b, b.length ≤ 60000 → ofHighB (((hd q b).drop 8).take 8) = b.length
/-- Chunks of 256 bytes. -/
def chunk (b : List UInt8) (i : Nat) : List UInt8 := (b.drop (256 * i)).take 256
def chunks (b : List UInt8) : Nat := (b.length + 255) / 256
def dataW (lo : Nat) (b : List UInt8) : List (Nat × List UInt8) := (List.range (chunks b)).map fun i => (lo + 1 + i, chunk b i)
def eraseW (lo n : Nat) : List (Nat × List UInt8) := (List.range (n + 1)).map fun i => (lo + i, [])
/-- Writes, then a sync. -/
def phase (ws : List (Nat × List UInt8)) : List DAct := ws.map (fun x => DAct.write x.1 x.2) ++ [.sync]
def saveV (at_ n old seq : Nat) (b : List UInt8) (hd : Nat → List UInt8 → List UInt8) : List DAct :=
  phase (dataW (lowOf at_ n (1 - old)) b) ++ (phase [(lowOf at_ n (1 - old), hd (seq + 1) b)] ++ phase (eraseW (lowOf at_ n old) n))

/-! What a phase leaves. -/
def padW (ws : List (Nat × List UInt8)) : List (Nat × List UInt8) := ws.map fun x => (x.1, pad x.2)
/-- Nothing is pending, and it is not down: all that is read is sure. -/
structure Calm (d : Dev) (C : List (List UInt8)) : Prop where
  ok : d.Ok
  sure : d.sure = C
  now : d.now = C
  pend : d.pend = []
  up : d.burnt = false
def Fits (ws : List (Nat × List UInt8)) (n : Nat) : Prop := ∀ x ∈ ws, x.1 < n ∧ x.2.length ≤ 256
/-- Amid a phase: some of the writes are pending. -/
structure Amids (d : Dev) (C : List (List UInt8)) (ws : List (Nat × List UInt8)) : Prop where
  ok : d.Ok
  sure : d.sure = C
  pend : d.pend = padW ws
  now : d.now = doneTo (fun _ => true) (padW ws) C (padW ws).length
section
variable {d : Dev} {C : List (List UInt8)} {ws vs : List (Nat × List UInt8)}
theorem Calm.amids (h : Calm d C) : Amids d C [] := ⟨h.ok, h.sure, h.pend, h.now⟩
theorem Amids.spend (h : Amids d C ws) : Amids d.spend C ws := ⟨h.ok.spend, h.sure, h.pend, h.now⟩
theorem has_in {i : Nat} (h : i < d.now.length) : d.has i = true := by
  unfold Dev.has
  rw [decide_eq_true (by omega), decide_eq_true (by omega)]
  rfl
theorem Amids.len (h : Amids d C ws) : d.now.length = C.length := by rw [h.now, doneTo_length]
theorem padW_snoc (ws : List (Nat × List UInt8)) (x : Nat × List UInt8) : padW (ws ++ [x]) = padW ws ++ [(x.1, pad x.2)] := by simp [padW]
theorem Amids.put (h : Amids d C ws) {x : Nat × List UInt8} (h1 : x.1 < C.length) (h2 : x.2.length ≤ 256) : Amids (d.put x.1 (pad x.2)) C (ws ++ [x]) := by
  refine ⟨h.ok.put (by rw [h.len]; exact h1) (pad_length h2), h.sure, ?_, ?_⟩
  · show d.pend ++ _ = _
    rw [h.pend, padW_snoc]
  · show d.now.set _ _ = _
    rw [padW_snoc, doneTo_snoc _ _ _ _ rfl, ← h.now]
/-- Writes are done until it goes down. -/
theorem Amids.writes (h : Amids d C ws) (hb : d.burnt = false) (hf : Fits vs C.length) :
    ∃ us rs, vs = us ++ rs ∧ Amids (d.run (vs.map fun x => DAct.write x.1 x.2)).2 C (ws ++ us) ∧
      (((d.run (vs.map fun x => DAct.write x.1 x.2)).1 = 0 ∧ rs = [] ∧ (d.run (vs.map fun x => DAct.write x.1 x.2)).2.burnt = false) ∨
       ((d.run (vs.map fun x => DAct.write x.1 x.2)).1 = 61 ∧ (d.run (vs.map fun x => DAct.write x.1 x.2)).2.burnt = true)) := by
  induction vs generalizing d ws with
  | nil => exact ⟨[], [], rfl, by rw [List.append_nil]; exact h, .inl ⟨rfl, rfl, hb⟩⟩
  | cons x vs ih =>
    obtain ⟨h1, h2⟩ := hf x (List.mem_cons_self ..)
    have hi : d.has x.1 = true := has_in (by rw [h.len]; exact h1)
    have hE : d.writeE x.1 x.2 = if d.goes then 0 else 61 := by
      unfold Dev.writeE
      rw [hi, if_neg (by decide), if_neg (by omega)]
    have hW : d.write x.1 x.2 = if d.goes then d.spend.put x.1 (pad x.2) else d.spend := by
      unfold Dev.write
      rw [hi, if_neg (by decide), if_neg (by omega)]
      rfl
    rw [List.map_cons]
    cases hg : d.goes
    · have ha : d.act (.write x.1 x.2) = (61, d.spend) := by
        show (d.writeE x.1 x.2, d.write x.1 x.2) = _
        rw [hE, hW, hg]
        rfl
      rw [Dev.run_err _ (by rw [ha]; show (61 : Int) ≠ 0; decide), ha]
      refine ⟨[], x :: vs, rfl, by rw [List.append_nil]; exact h.spend, .inr ⟨rfl, ?_⟩⟩
      show (!d.goes) = true
      rw [hg]; rfl
    · have ha : d.act (.write x.1 x.2) = (0, d.spend.put x.1 (pad x.2)) := by
        show (d.writeE x.1 x.2, d.write x.1 x.2) = _
        rw [hE, hW, hg]
        rfl
      rw [Dev.run_ok _ (by rw [ha]), ha]
      have hb2 : (d.spend.put x.1 (pad x.2)).burnt = false := by
        show (!d.goes) = false
        rw [hg]; rfl
      obtain ⟨us, rs, e, hA, hE⟩ := ih (h.spend.put h1 h2) hb2 fun y hy => hf y (List.mem_cons_of_mem _ hy)
      refine ⟨x :: us, rs, by rw [e]; rfl, ?_, hE⟩
      rw [List.append_assoc] at hA
      exact hA
/-- A phase: it goes down amid it, or its writes are done and sure. -/
theorem Calm.run_phase (h : Calm d C) (hf : Fits ws C.length) :
    ((d.run (phase ws)).1 = 0 ∧ Calm (d.run (phase ws)).2 (doneTo (fun _ => true) (padW ws) C (padW ws).length)) ∨
    ((d.run (phase ws)).1 = 61 ∧ (d.run (phase ws)).2.burnt = true ∧ ∃ us rs, ws = us ++ rs ∧ Amids (d.run (phase ws)).2 C us) := by
  obtain ⟨us, rs, e, hA, hE⟩ := h.amids.writes h.up hf
  unfold phase
  rcases hE with ⟨hE, hr, hb⟩ | ⟨hE, hb⟩
  · rw [Dev.run_app _ hE]
    subst hr
    rw [List.append_nil] at e
    subst e
    generalize (d.run (ws.map fun x => DAct.write x.1 x.2)).2 = d2 at hA hb
    rw [List.nil_append] at hA
    cases hg : d2.goes
    · have hS : d2.sync = d2.spend := by unfold Dev.sync; rw [hg]; rfl
      have hSE : d2.syncE = 61 := by unfold Dev.syncE; rw [hg]; rfl
      have ha : d2.act .sync = (61, d2.spend) := by
        show (d2.syncE, d2.sync) = _
        rw [hSE, hS]
      right
      rw [Dev.run_err _ (by rw [ha]; show (61 : Int) ≠ 0; decide), ha]
      refine ⟨rfl, ?_, ws, [], by simp, hA.spend⟩
      show (!d2.goes) = true
      rw [hg]; rfl
    · have hS : d2.sync = { d2.spend with sure := d2.now, pend := [] } := by unfold Dev.sync; rw [hg]; rfl
      have hSE : d2.syncE = 0 := by unfold Dev.syncE; rw [hg]; rfl
      have hk := hA.ok.sync
      have ha : d2.act .sync = (0, { d2.spend with sure := d2.now, pend := [] }) := by
        show (d2.syncE, d2.sync) = _
        rw [hSE, hS]
      left
      rw [Dev.run_ok _ (by rw [ha]), ha]
      rw [hS] at hk
      refine ⟨rfl, hk, hA.now, hA.now, rfl, ?_⟩
      show (!d2.goes) = false
      rw [hg]; rfl
  · rw [Dev.run_stop _ (by rw [hE]; decide)]
    rw [List.nil_append] at hA
    exact .inr ⟨hE, hb, us, rs, e, hA⟩
theorem Amids.kept (h : Amids d C ws) (keep : List Bool) : d.kept keep = doneTo (fun k => keep.getD k false) (padW ws) C (padW ws).length := by
  unfold Dev.kept
  rw [h.pend, h.sure]
theorem Amids.crash (h : Amids d C ws) (keep : List Bool) : Calm (d.crash keep) (doneTo (fun k => keep.getD k false) (padW ws) C (padW ws).length) :=
  ⟨h.ok.crash keep, h.kept keep, h.kept keep, rfl, rfl⟩
theorem Calm.crash (h : Calm d C) (keep : List Bool) : Calm (d.crash keep) C := by
  have := h.amids.crash keep
  exact this
end
theorem doneTo_other (f : Nat → Bool) (p : List (Nat × List UInt8)) (s : List (List UInt8)) (i : Nat) (h : ∀ x ∈ p, x.1 ≠ i) (k : Nat) : (doneTo f p s k)[i]? = s[i]? := by
  rcases doneTo_each f p s k i with h1 | ⟨x, hx, h2, _⟩
  · exact h1
  · exact absurd h2 (h x hx)
end Go.Proofs.YtpgbicbjlhkonaaGreatDoor
end
section
namespace Go.Proofs.YtpgbicbjlhkonaaGreatDoor
set_option linter.unusedVariables false
set_option maxRecDepth 20000

section
variable {C C' : List (List UInt8)} {lo n : Nat} {hd : Nat → List UInt8 → List UInt8}
theorem sec_congr {i : Nat} (h : C'[i]? = C[i]?) : sec C' i = sec C i := by
  unfold sec
  rw [List.getD_eq_getElem?_getD, List.getD_eq_getElem?_getD, h]
theorem slotB_congr (h : ∀ i, i ≤ n → C'[lo + i]? = C[lo + i]?) : slotB C' lo n = slotB C lo n := by
  unfold slotB
  congr 1
  apply List.map_congr_left
  intro i hi
  exact sec_congr (h i (by have := List.mem_range.1 hi; omega))
theorem countsV_congr (h : ∀ i, i ≤ n → C'[lo + i]? = C[lo + i]?) : countsV C' lo n hd = countsV C lo n hd := by
  unfold countsV
  rw [slotB_congr h]
theorem cleanV_congr (h : ∀ i, i ≤ n → C'[lo + i]? = C[lo + i]?) : cleanV C' lo n = cleanV C lo n := by
  unfold cleanV
  rw [slotB_congr h]
theorem numOf_congr (h : C'[lo]? = C[lo]?) : numOf C' lo = numOf C lo := by
  unfold numOf
  rw [sec_congr h]
/-- The sectors behind a head. -/
def restB (C : List (List UInt8)) (lo n : Nat) : List UInt8 := ((List.range n).map fun i => sec C (lo + 1 + i)).flatten
theorem slotB_head (C : List (List UInt8)) (lo n : Nat) : slotB C lo n = sec C lo ++ restB C lo n := by
  unfold slotB restB
  rw [List.range_succ_eq_map, List.map_cons, List.map_map, List.flatten_cons]
  congr 2
  apply List.map_congr_left
  intro i _
  show sec C (lo + (i + 1)) = sec C (lo + 1 + i)
  congr 1
  omega
theorem countsV_num (h : (sec C lo).length = 256) : countsV C lo n hd = ([], 0) ∨ ((countsV C lo n hd).2 = numOf C lo ∧ numOf C lo ≠ 0) := by
  have e : (slotB C lo n).take 8 = (sec C lo).take 8 := by
    rw [slotB_head, List.take_append_of_le_length (by omega)]
  unfold countsV
  simp only [e]
  split
  · exact .inl rfl
  · rename_i h1
    split
    · right
      refine ⟨rfl, fun h0 => h1 (.inl h0)⟩
    · exact .inl rfl
end
/-- Slot s holds the state b, of number q, and counts; the other one's number is less. q is 0: there is none. -/
structure Holds (hd : Nat → List UInt8 → List UInt8) (at_ n : Nat) (C : List (List UInt8)) (s : Nat) (b : List UInt8) (q : Nat) : Prop where
  le : s ≤ 1
  size : at_ + 2 * n + 2 ≤ C.length
  all : ∀ l ∈ C, l.length = 256
  zero : q = 0 → numOf C (lowOf at_ n 0) = 0 ∧ numOf C (lowOf at_ n 1) = 0 ∧ b = [] ∧ s = 1
  more : q ≠ 0 → countsV C (lowOf at_ n s) n hd = (b, q) ∧ numOf C (lowOf at_ n (1 - s)) < q
section
variable {hd : Nat → List UInt8 → List UInt8} {at_ n s q : Nat} {C C' : List (List UInt8)} {b b' : List UInt8}
theorem sec_len (h : ∀ l ∈ C, l.length = 256) {i : Nat} (hi : i < C.length) : (sec C i).length = 256 := by
  unfold sec
  rw [List.getD_eq_getElem?_getD, List.getElem?_eq_getElem hi]
  exact h _ (List.getElem_mem hi)
theorem lowOf_0 (at_ n : Nat) : lowOf at_ n 0 = at_ := by simp [lowOf]
theorem lowOf_1 (at_ n : Nat) : lowOf at_ n 1 = at_ + (n + 1) := by simp [lowOf]
theorem Holds.head_len (h : Holds hd at_ n C s b q) (t : Nat) (ht : t ≤ 1) : (sec C (lowOf at_ n t)).length = 256 := by
  refine sec_len h.all ?_
  have := h.size
  rcases t with _ | _ | t
  · rw [lowOf_0]; omega
  · rw [lowOf_1]; omega
  · omega
theorem Holds.best (h : Holds hd at_ n C s b q) : bestV C at_ n hd = (s, b, q) := by
  have n0 := countsV_num (n := n) (hd := hd) (h.head_len 0 (by omega))
  have n1 := countsV_num (n := n) (hd := hd) (h.head_len 1 (by omega))
  unfold bestV
  by_cases hq : q = 0
  · obtain ⟨z0, z1, rfl, rfl⟩ := h.zero hq
    have e0 : countsV C (lowOf at_ n 0) n hd = ([], 0) := n0.resolve_right fun h => h.2 z0
    have e1 : countsV C (lowOf at_ n 1) n hd = ([], 0) := n1.resolve_right fun h => h.2 z1
    rw [e0, e1, hq]
    rfl
  · obtain ⟨hc, hl⟩ := h.more hq
    have hs := h.le
    by_cases h0 : s = 0
    · subst h0
      have hy : (countsV C (lowOf at_ n 1) n hd).2 < q := by
        rcases n1 with e | ⟨e, _⟩
        · rw [e]; show 0 < q; omega
        · rw [e]; exact hl
      rw [hc]
      show (if q = 0 ∨ q < _ then _ else _) = _
      rw [if_neg (by omega)]
    · obtain rfl : s = 1 := by omega
      have hx : (countsV C (lowOf at_ n 0) n hd).2 < q := by
        rcases n0 with e | ⟨e, _⟩
        · rw [e]; show 0 < q; omega
        · rw [e]; exact hl
      rw [hc]
      show (if _ ∨ _ < q then _ else _) = _
      rw [if_pos (.inr hx)]
/-- What lies apart. -/
theorem low_apart {s i j : Nat} (hs : s ≤ 1) (hi : i ≤ n) (hj : j ≤ n) : lowOf at_ n s + i ≠ lowOf at_ n (1 - s) + j := by
  rcases s with _ | _ | s
  · rw [lowOf_0, show 1 - 0 = 1 from rfl, lowOf_1]; omega
  · rw [lowOf_1, show 1 - (0 + 1) = 0 from rfl, lowOf_0]; omega
  · omega
theorem low_in (h : Holds hd at_ n C s b q) {t i : Nat} (ht : t ≤ 1) (hi : i ≤ n) : lowOf at_ n t + i < C.length := by
  have := h.size
  rcases t with _ | _ | t
  · rw [lowOf_0]; omega
  · rw [lowOf_1]; omega
  · omega
theorem other_other (hs : s ≤ 1) : 1 - (1 - s) = s := by omega
variable (f : Nat → Bool) (p : List (Nat × List UInt8)) (k : Nat)
/-- Writes into the sectors behind the other slot's head. -/
theorem Holds.data (h : Holds hd at_ n C s b q) (hp : ∀ x ∈ p, x.2.length = 256 ∧ ∃ i, 1 ≤ i ∧ i ≤ n ∧ x.1 = lowOf at_ n (1 - s) + i) : Holds hd at_ n (doneTo f p C k) s b q := by
  have same : ∀ i, i ≤ n → (doneTo f p C k)[lowOf at_ n s + i]? = C[lowOf at_ n s + i]? := fun i hi => doneTo_other f p C _ (fun x hx e => by
    obtain ⟨_, j, _, hj, e2⟩ := hp x hx
    exact low_apart h.le hi hj (e.symm.trans e2)) k
  have head : (doneTo f p C k)[lowOf at_ n (1 - s)]? = C[lowOf at_ n (1 - s)]? := doneTo_other f p C _ (fun x hx e => by
    obtain ⟨_, j, hj1, _, e2⟩ := hp x hx
    omega) k
  have heads : ∀ t, t ≤ 1 → (doneTo f p C k)[lowOf at_ n t]? = C[lowOf at_ n t]? := fun t ht => by
    by_cases e : t = s
    · subst e; exact same 0 (Nat.zero_le _)
    · have := h.le
      obtain rfl : t = 1 - s := by omega
      exact head
  refine ⟨h.le, by rw [doneTo_length]; exact h.size, doneTo_all f p C 256 h.all (fun x hx => (hp x hx).1) k, fun hq => ?_, fun hq => ?_⟩
  · rw [numOf_congr (heads 0 (by omega)), numOf_congr (heads 1 (by omega))]
    exact h.zero hq
  · rw [countsV_congr same, numOf_congr head]
    exact h.more hq
theorem num_zero : ofHighB ((pad []).take 8) = 0 := by rfl
/-- Bytes 0 into the other slot. -/
theorem Holds.erase (h : Holds hd at_ n C s b q) (hq : q ≠ 0) (hp : ∀ x ∈ p, x.2 = pad [] ∧ ∃ i, i ≤ n ∧ x.1 = lowOf at_ n (1 - s) + i) : Holds hd at_ n (doneTo f p C k) s b q := by
  have same : ∀ i, i ≤ n → (doneTo f p C k)[lowOf at_ n s + i]? = C[lowOf at_ n s + i]? := fun i hi => doneTo_other f p C _ (fun x hx e => by
    obtain ⟨_, j, hj, e2⟩ := hp x hx
    exact low_apart h.le hi hj (e.symm.trans e2)) k
  refine ⟨h.le, by rw [doneTo_length]; exact h.size, doneTo_all f p C 256 h.all (fun x hx => by rw [(hp x hx).1]; rfl) k, fun h0 => absurd h0 hq, fun hq => ?_⟩
  obtain ⟨hc, hl⟩ := h.more hq
  refine ⟨by rw [countsV_congr same]; exact hc, ?_⟩
  rcases doneTo_each f p C k (lowOf at_ n (1 - s)) with e | ⟨x, hx, _, e⟩
  · rw [numOf_congr e]; exact hl
  · unfold numOf sec
    rw [List.getD_eq_getElem?_getD, e, (hp x hx).1]
    show ofHighB ((pad []).take 8) < q
    rw [num_zero]
    omega
end
/-- Sectors that begin with the chunks of b. -/
theorem flat_chunks (b : List UInt8) (Ls : List (List UInt8)) (h : ∀ i, i < chunks b → Ls[i]? = some (pad (chunk b i))) : Ls.flatten.take b.length = b := by
  induction Ls generalizing b with
  | nil =>
    have hc : chunks b = 0 := by
      rcases Nat.eq_zero_or_pos (chunks b) with h0 | h0
      · exact h0
      · have := h 0 h0
        simp at this
    have : b = [] := List.eq_nil_of_length_eq_zero (by unfold chunks at hc; omega)
    subst this
    rfl
  | cons x Ls ih =>
    by_cases hb : b.length ≤ 256
    · rcases b with _ | ⟨y, b⟩
      · rfl
      · have hx := h 0 (by unfold chunks; simp)
        have e0 : chunk (y :: b) 0 = y :: b := by
          unfold chunk
          rw [Nat.mul_zero, List.drop_zero, List.take_of_length_le hb]
        rw [e0] at hx
        have hx2 : x = pad (y :: b) := Option.some.inj hx
        rw [List.flatten_cons, hx2]
        unfold pad
        rw [List.append_assoc]
        exact List.take_left
    · have hx := h 0 (by unfold chunks; omega)
      have e0 : pad (chunk b 0) = b.take 256 := by
        unfold chunk pad
        rw [Nat.mul_zero, List.drop_zero, List.length_take, show 256 - min 256 b.length = 0 by omega]
        simp
      rw [e0] at hx
      have hx2 : x = b.take 256 := Option.some.inj hx
      have hi := ih (b.drop 256) fun i hi => by
        have hc : chunk (b.drop 256) i = chunk b (i + 1) := by
          unfold chunk
          rw [List.drop_drop]
          congr 2
          omega
        rw [hc]
        refine h (i + 1) ?_
        unfold chunks at hi ⊢
        rw [List.length_drop] at hi
        omega
      rw [List.flatten_cons, hx2]
      have hl : (b.take 256).length = 256 := by rw [List.length_take]; omega
      rw [List.take_append, hl, List.take_of_length_le (by omega)]
      have : b.length - 256 = (b.drop 256).length := by rw [List.length_drop]
      rw [this, hi, List.take_append_drop]
section
variable {hd : Nat → List UInt8 → List UInt8} {at_ n s q : Nat} {C : List (List UInt8)} {b b0 : List UInt8}
/-- A head, ahead of its state. -/
theorem Holds.head (hH : HeadOk hd) (h : Holds hd at_ n C s b0 q) (hn : n ≤ 200) (hb : b.length ≤ 256 * n) (hq : q + 1 < 18446744073709551616)
    (hdat : ∀ i, i < chunks b → C[lowOf at_ n (1 - s) + 1 + i]? = some (pad (chunk b i))) (hold : numOf C (lowOf at_ n s) ≤ q) : Holds hd at_ n (C.set (lowOf at_ n (1 - s)) (hd (q + 1) b)) (1 - s) b (q + 1) := by
  have hs := h.le
  have hb6 : b.length ≤ 60000 := by omega
  have hlt : lowOf at_ n (1 - s) < C.length := low_in h (t := 1 - s) (i := 0) (by omega) (Nat.zero_le _)
  have hhd : sec (C.set (lowOf at_ n (1 - s)) (hd (q + 1) b)) (lowOf at_ n (1 - s)) = hd (q + 1) b := by
    unfold sec
    rw [List.getD_eq_getElem?_getD, List.getElem?_set, if_pos rfl, if_pos hlt]
    rfl
  have hlen := hH.len (q + 1) b hb6
  refine ⟨by omega, by rw [List.length_set]; exact h.size, fun l hl => ?_, fun h0 => by omega, fun _ => ⟨?_, ?_⟩⟩
  · rcases List.mem_or_eq_of_mem_set hl with hl | rfl
    · exact h.all l hl
    · exact hlen
  · have e1 : (slotB (C.set (lowOf at_ n (1 - s)) (hd (q + 1) b)) (lowOf at_ n (1 - s)) n) = hd (q + 1) b ++ restB (C.set (lowOf at_ n (1 - s)) (hd (q + 1) b)) (lowOf at_ n (1 - s)) n := by rw [slotB_head, hhd]
    have e2 : (restB (C.set (lowOf at_ n (1 - s)) (hd (q + 1) b)) (lowOf at_ n (1 - s)) n).take b.length = b := by
      unfold restB
      refine flat_chunks b _ fun i hi => ?_
      have hin : i < n := by unfold chunks at hi; omega
      rw [List.getElem?_map, List.getElem?_range hin]
      show some (sec _ _) = _
      congr 1
      have : (C.set (lowOf at_ n (1 - s)) (hd (q + 1) b))[lowOf at_ n (1 - s) + 1 + i]? = some (pad (chunk b i)) := by
        rw [List.getElem?_set, if_neg (by omega)]
        exact hdat i hi
      unfold sec
      rw [List.getD_eq_getElem?_getD, this]
      rfl
    unfold countsV
    simp only [e1]
    have t8 : (hd (q + 1) b ++ restB (C.set (lowOf at_ n (1 - s)) (hd (q + 1) b)) (lowOf at_ n (1 - s)) n).take 8 = (hd (q + 1) b).take 8 := List.take_append_of_le_length (by omega)
    have t16 : ((hd (q + 1) b ++ restB (C.set (lowOf at_ n (1 - s)) (hd (q + 1) b)) (lowOf at_ n (1 - s)) n).drop 8).take 8 = ((hd (q + 1) b).drop 8).take 8 := by
      rw [List.drop_append_of_le_length (by omega), List.take_append_of_le_length (by rw [List.length_drop]; omega)]
    have t256 : (hd (q + 1) b ++ restB (C.set (lowOf at_ n (1 - s)) (hd (q + 1) b)) (lowOf at_ n (1 - s)) n).take 256 = hd (q + 1) b := List.take_left' hlen
    have d256 : (hd (q + 1) b ++ restB (C.set (lowOf at_ n (1 - s)) (hd (q + 1) b)) (lowOf at_ n (1 - s)) n).drop 256 = restB (C.set (lowOf at_ n (1 - s)) (hd (q + 1) b)) (lowOf at_ n (1 - s)) n := List.drop_left' hlen
    rw [t8, t16, t256, d256, hH.num _ _ hq hb6, hH.size _ _ hb6, e2]
    rw [if_neg (by omega), if_pos rfl]
  · rw [other_other hs]
    have : (C.set (lowOf at_ n (1 - s)) (hd (q + 1) b))[lowOf at_ n s]? = C[lowOf at_ n s]? := by
      rw [List.getElem?_set, if_neg]
      intro e
      exact low_apart (at_ := at_) (n := n) hs (Nat.zero_le n) (Nat.zero_le n) e.symm
    rw [numOf_congr this]
    omega
end
end Go.Proofs.YtpgbicbjlhkonaaGreatDoor
end
