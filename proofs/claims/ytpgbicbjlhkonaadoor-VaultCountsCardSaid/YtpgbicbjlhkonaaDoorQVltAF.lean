/-
  Texts that belong together, merged: DevJ, DevK, ShaR, ShaS, C, ShaD, ShaT, ShaE, J. Conditions: as each theorem names them.
-/
import Derived.Test.YtpgbicbjlhkonaaDoorQVltAE
import Derived.Test.YtpgbicbjlhkonaaDoorQVltAB
import Derived.Test.YtpgbicbjlhkonaaDoorQVltAC
import Derived.StillTailTactics
import Derived.BigQuiet
import Derived.Test.YtpgbicbjlhkonaaDoorQVltAA
section
namespace Go.Proofs.YtpgbicbjlhkonaaDoor
open Go.RowKit
set_option linter.unusedVariables false
set_option maxRecDepth 20000

def DevIn (w : World) (F : Nat → Prop) (g : Nat) (d : Dev) : Prop := ∃ gn cn gs cs vp, DevIs w g gn cn gs cs vp d ∧ ∀ k, Foot g gn gs vp k → F k
/-- The devices ds, no two of which share a block, and bytes bs that lie in none of their blocks. -/
def Devs (w0 w : World) (ds : List (Nat × Dev)) (bs : List (Value × List UInt8)) : Prop :=
  Below w0.heap.size w0 w ∧ ∃ F : Nat → Nat → Prop, (∀ i g d, ds[i]? = some (g, d) → DevIn w (F i) g d) ∧ (∀ i j k, i ≠ j → F i k → ¬ F j k) ∧ (∀ i k, F i k → w0.heap.size ≤ k ∧ k < w.heap.size) ∧ ∀ x ∈ bs, Bs w x.1 x.2 ∧ ∀ i k, x.1.ownBlock = some k → k < w.heap.size ∧ ¬ F i k
section
variable {w0 w w' : World} {g i : Nat} {d d' : Dev} {ds : List (Nat × Dev)} {bs : List (Value × List UInt8)} {F G : Nat → Prop}
theorem DevIn.turned (h : DevIn w F g d) (ht : Turns G w w') (hG : ∀ k, F k → ¬ G k) : DevIn w' F g d := by
  obtain ⟨gn, cn, gs, cs, vp, h, hF⟩ := h
  exact ⟨gn, cn, gs, cs, vp, h.turned ht fun k hk => hG k (hF k hk), hF⟩
theorem Devs.start (w : World) : Devs w w [] [] := ⟨Below.refl _ _, fun _ _ => False, by simp, fun _ _ _ _ h => h.elim, fun _ _ h => h.elim, fun x hx => nomatch hx⟩
theorem Devs.below (h : Devs w0 w ds bs) : Below w0.heap.size w0 w := h.1
theorem Devs.ok (h : Devs w0 w ds bs) (hi : ds[i]? = some (g, d)) : d.Ok := by
  obtain ⟨_, F, h1, _⟩ := h
  obtain ⟨_, _, _, _, _, h, _⟩ := h1 i g d hi
  exact h.ok
theorem Devs.kept (h : Devs w0 w ds bs) (hb : Below w.heap.size w w') : Devs w0 w' ds bs := by
  obtain ⟨b, F, h1, h2, h3, h4⟩ := h
  exact ⟨below_size b hb, F, fun i g d hi => (h1 i g d hi).turned (G := fun _ => False) (Turns.of_below _ hb) fun _ _ h => h, h2, fun i k hk => ⟨(h3 i k hk).1, Nat.lt_of_lt_of_le (h3 i k hk).2 hb.size⟩, fun x hx => ⟨(h4 x hx).1.below hb, fun i k hk => ⟨Nat.lt_of_lt_of_le ((h4 x hx).2 i k hk).1 hb.size, ((h4 x hx).2 i k hk).2⟩⟩⟩
/-- One more. -/
theorem Devs.more (h : Devs w0 w ds bs) (hd : DevOf w w' g d) : Devs w0 w' (ds ++ [(g, d)]) bs := by
  obtain ⟨b, F, h1, h2, h3, h4⟩ := h
  obtain ⟨b2, gn, cn, gs, cs, vp, hd, hF⟩ := hd
  have hl : ∀ i g d, ds[i]? = some (g, d) → i < ds.length := fun i g d hi => (List.getElem?_eq_some_iff.1 hi).1
  refine ⟨below_size b b2, fun j k => if j = ds.length then (w.heap.size ≤ k ∧ k < w'.heap.size) else F j k, fun j g' d' hj => ?_, fun a c k hac ha hc => ?_, fun j k hk => ?_, fun x hx => ⟨(h4 x hx).1.below b2, fun j k hk => ⟨Nat.lt_of_lt_of_le ((h4 x hx).2 j k hk).1 b2.size, fun hf => ?_⟩⟩⟩
  · rw [List.getElem?_append] at hj
    split at hj
    · rename_i hlt
      have e : (fun k => if j = ds.length then (w.heap.size ≤ k ∧ k < w'.heap.size) else F j k) = F j := by
        funext k
        rw [if_neg (by omega)]
      dsimp only
      rw [e]
      exact (h1 j g' d' hj).turned (G := fun _ => False) (Turns.of_below _ b2) fun _ _ h => h
    · rename_i hge
      have e0 : j = ds.length := by
        have := (List.getElem?_eq_some_iff.1 hj).1
        simp at this
        omega
      subst e0
      simp at hj
      obtain ⟨rfl, rfl⟩ := hj
      refine ⟨gn, cn, gs, cs, vp, hd, fun k hk => ?_⟩
      dsimp only
      rw [if_pos rfl]
      exact ⟨hF k hk, hd.lt hk⟩
  · dsimp only at ha hc
    split at ha
    · split at hc
      · omega
      · have := (h3 c k hc).2
        omega
    · split at hc
      · have := (h3 a k ha).2
        omega
      · exact h2 a c k hac ha hc
  · dsimp only at hk
    split at hk
    · have := b.size
      omega
    · have := h3 j k hk
      have := b2.size
      omega
  · have h5 := (h4 x hx).2 j k hk
    dsimp only at hf
    split at hf
    · omega
    · exact h5.2 hf
/-- One of them is turned. -/
theorem Devs.ret (h : Devs w0 w ds bs) (hi : ds[i]? = some (g, d)) {f : FuncId} {args : Array Value} {Pr : Program} {v : Value} (hc : ∀ gn cn gs cs vp, DevIs w g gn cn gs cs vp d → (∀ k, Foot g gn gs vp k → w0.heap.size ≤ k) → Calls Pr f args w (DevRet w g gn cn gs cs vp d' v)) :
    Calls Pr f args w fun e w' => e = .returned v ∧ Devs w0 w' (ds.set i (g, d')) bs := by
  obtain ⟨b, F, h1, h2, h3, h4⟩ := h
  obtain ⟨gn, cn, gs, cs, vp, hd, hF⟩ := h1 i g d hi
  refine (hc gn cn gs cs vp hd fun k hk => (h3 i k (hF k hk)).1).mono fun e w' ⟨vp', he, hd', ht, hv⟩ => ⟨he, ?_⟩
  have ht2 : Turns (F i) w w' := ht.mono fun k _ hk => hF k hk
  have hsz := ht.size
  refine ⟨ht2.below b b.size fun k hk => (h3 i k hk).1, fun j k => if j = i then Wide (F i) w w' k else F j k, fun j g' d2 hj => ?_, fun a c k hac ha hc => ?_, fun j k hk => ?_, fun x hx => ⟨ht2.bs (h4 x hx).1 fun k hk => ((h4 x hx).2 i k hk).2, fun j k hk => ⟨Nat.lt_of_lt_of_le ((h4 x hx).2 j k hk).1 hsz, fun hf => ?_⟩⟩⟩
  · rw [List.getElem?_set] at hj
    split at hj
    · rename_i e
      subst e
      split at hj
      · injection hj with hj
        injection hj with e1 e2
        subst e1 e2
        refine ⟨gn, cn, gs, cs, vp', hd', fun k hk => ?_⟩
        dsimp only
        rw [if_pos rfl]
        rcases hk with hk | hk | hk | hk
        · exact .inl (hF k (.inl hk))
        · exact .inl (hF k (.inr (.inl hk)))
        · exact .inl (hF k (.inr (.inr (.inl hk))))
        · rcases hv k hk with h | h
          · exact .inl (hF k (.inr (.inr (.inr h))))
          · exact .inr ⟨h, hd'.lt (.inr (.inr (.inr hk)))⟩
      · cases hj
    · rename_i hne
      have e : (fun k => if j = i then Wide (F i) w w' k else F j k) = F j := by
        funext k
        rw [if_neg (fun e => hne e.symm)]
      dsimp only
      rw [e]
      exact (h1 j g' d2 hj).turned ht2 fun k hk => h2 j i k (fun e => hne e.symm) hk
  · dsimp only at ha hc
    split at ha
    · rename_i ea
      rw [if_neg (fun e => hac (ea.trans e.symm))] at hc
      rcases ha with ha | ha
      · exact h2 i c k (fun e => hac (ea.trans e)) ha hc
      · have := (h3 c k hc).2
        omega
    · split at hc
      · rename_i ea ec
        rcases hc with hc | hc
        · exact h2 a i k ea ha hc
        · have := (h3 a k ha).2
          omega
      · exact h2 a c k hac ha hc
  · dsimp only at hk
    split at hk
    · rcases hk with hk | hk
      · have := h3 i k hk
        omega
      · have := b.size
        omega
    · have := h3 j k hk
      omega
  · dsimp only at hf
    split at hf
    · rcases hf with hf | hf
      · exact ((h4 x hx).2 i k hk).2 hf
      · have := ((h4 x hx).2 i k hk).1
        omega
    · exact ((h4 x hx).2 j k hk).2 hf
/-- Bytes of a later time. -/
theorem Devs.note (h : Devs w0 w ds bs) {v : Value} {l : List UInt8} (ho : OwnB w' w.heap.size 5 v l) (hb : Below w.heap.size w w') : Devs w0 w' ds ((v, l) :: bs) := by
  obtain ⟨b, F0, g1, g2, g3, g4⟩ := h
  refine ⟨below_size b hb, F0, fun i g d hi => (g1 i g d hi).turned (G := fun _ => False) (Turns.of_below _ hb) fun _ _ h => h, g2, fun i k hk => ⟨(g3 i k hk).1, Nat.lt_of_lt_of_le (g3 i k hk).2 hb.size⟩, fun x hx => ?_⟩
  rcases List.mem_cons.1 hx with rfl | hx
  · refine ⟨ho.bs, fun i k hk => ?_⟩
    have e1 := ho.rows k hk
    obtain ⟨cur, hr⟩ := own_typed ho hk
    exact ⟨hr.lt, fun hf => by have := (g3 i k hf).2; omega⟩
  · exact ⟨(g4 x hx).1.below hb, fun i k hk => ⟨Nat.lt_of_lt_of_le ((g4 x hx).2 i k hk).1 hb.size, ((g4 x hx).2 i k hk).2⟩⟩
theorem Devs.bs_ (h : Devs w0 w ds bs) (i : Nat) {v : Value} {l : List UInt8} (hi : bs[i]? = some (v, l)) : Bs w v l := by
  obtain ⟨_, F, h1, h2, h3, h4⟩ := h
  exact (h4 _ (List.mem_of_getElem? hi)).1
theorem Devs.less {x : Value × List UInt8} (h : Devs w0 w ds (x :: bs)) : Devs w0 w ds bs := by
  obtain ⟨b, F, h1, h2, h3, h4⟩ := h
  exact ⟨b, F, h1, h2, h3, fun y hy => h4 y (List.mem_cons_of_mem _ hy)⟩
theorem Devs.of1 (h : DevOf w0 w g d) : Devs w0 w [(g, d)] [] := by
  obtain ⟨b, gn, cn, gs, cs, vp, h, hF⟩ := h
  refine ⟨b, fun i k => i = 0 ∧ Foot g gn gs vp k, fun i g' d' hi => ?_, fun i j k hij hi hj => hij (hi.1.trans hj.1.symm), fun i k hk => ⟨hF k hk.2, h.lt hk.2⟩, fun x hx => nomatch hx⟩
  match i, hi with
  | 0, hi =>
    injection hi with hi
    injection hi with e1 e2
    subst e1 e2
    exact ⟨gn, cn, gs, cs, vp, h, fun k hk => ⟨rfl, hk⟩⟩
theorem Devs.of (h : Devs w0 w ds bs) (hi : ds[i]? = some (g, d)) : DevOf w0 w g d := by
  obtain ⟨b, F, h1, h2, h3, h4⟩ := h
  obtain ⟨gn, cn, gs, cs, vp, hd, hF⟩ := h1 i g d hi
  exact ⟨b, gn, cn, gs, cs, vp, hd, fun k hk => (h3 i k (hF k hk)).1⟩
theorem devWrite_s (h : Devs w0 w ds bs) (k : Nat) (hi : ds[k]? = some (g, d)) (i : Int) (vb : Value) (b : List UInt8) (hb : Bs w vb b) (hp : d.pend.length ≤ 1000000) :
    Calls Tryd.prog 39 #[.pointer (some ⟨g, 0, none⟩), .int .i64 i, vb] w fun e w' => e = .returned (.int .i64 (d.writeE i b)) ∧ Devs w0 w' (ds.set k (g, d.write i b)) bs :=
  h.ret hi fun gn cn gs cs vp hd _ => devWrite_any w g gn cn gs cs vp d hd i vb b hb hp
theorem devFuse_s (h : Devs w0 w ds bs) (k : Nat) (hi : ds[k]? = some (g, d)) (n : Int) (hn : -9223372036854775808 ≤ n ∧ n ≤ 9223372036854775807) : Calls Tryd.prog 10 #[.pointer (some ⟨g, 0, none⟩), .int .i64 n] w fun e w' => e = .returned (.tuple #[]) ∧ Devs w0 w' (ds.set k (g, d.set n)) bs :=
  h.ret hi fun gn cn gs cs vp hd _ => devFuse_any w g gn cn gs cs vp d hd n hn
theorem devSync_s (h : Devs w0 w ds bs) (k : Nat) (hi : ds[k]? = some (g, d)) : Calls Tryd.prog 29 #[.pointer (some ⟨g, 0, none⟩)] w fun e w' => e = .returned (.int .i64 d.syncE) ∧ Devs w0 w' (ds.set k (g, d.sync)) bs :=
  h.ret hi fun gn cn gs cs vp hd _ => devSync_any w g gn cn gs cs vp d hd
theorem devNew_s (h : Devs w0 w ds bs) (n : Nat) (h1 : 1 ≤ n) (h2 : n ≤ 600) :
    Calls Tryd.prog 18 #[.int .i64 (n : Int)] w fun e w' => ∃ g, e = .returned (.tuple #[.pointer (some ⟨g, 0, none⟩), .int .i64 0]) ∧ Devs w0 w' (ds ++ [(g, Dev.new n)]) bs :=
  (devNew_of w n h1 h2).mono fun e w' ⟨g, he, hd⟩ => ⟨g, he, h.more hd⟩
end
end Go.Proofs.YtpgbicbjlhkonaaDoor
end
section
namespace Go.Proofs.YtpgbicbjlhkonaaDoor
open Go.RowKit
set_option linter.unusedVariables false
set_option maxRecDepth 20000

theorem DevIs.types {w : World} {g gn cn gs cs : Nat} {vp : Value} {d : Dev} (h : DevIs w g gn cn gs cs vp d) {k : Nat} (hk : Foot g gn gs vp k) {t : TypeId} {c : Array Value} (hr : RowAt w k t c) : t = 57 ∨ t = 86 ∨ t = 88 := by
  rcases hk with rfl | rfl | rfl | hk
  · exact .inl (row_typed hr h.row)
  · obtain ⟨cur, h2⟩ := h.nowRow
    exact .inr (.inl (row_typed hr h2))
  · obtain ⟨cur, h2⟩ := h.sureRow
    exact .inr (.inl (row_typed hr h2))
  · obtain ⟨cur, h2⟩ := own_typed h.pend hk
    exact .inr (.inr (row_typed hr h2))
section
variable {w0 w w' : World} {g i : Nat} {d d' : Dev} {ds : List (Nat × Dev)} {bs : List (Value × List UInt8)}
theorem devCrash_s (h : Devs w0 w ds bs) (k : Nat) (hi : ds[k]? = some (g, d)) (vk : Value) (keep : List Bool) (hk : Bls w vk keep) (hF : 0 < keep.length → ∀ k, vk.ownBlock = some k → ∃ c, RowAt w k 4 c) (hp : d.pend.length ≤ 1000000) :
    Calls Tryd.prog 14 #[.pointer (some ⟨g, 0, none⟩), vk] w fun e w' => e = .returned (.tuple #[]) ∧ Devs w0 w' (ds.set k (g, d.crash keep)) bs :=
  h.ret hi fun gn cn gs cs vp hd _ => devCrash_any w g gn cn gs cs vp d hd vk keep hk (fun hl k hk2 hf => by
    obtain ⟨c, hr⟩ := hF hl k hk2
    rcases hd.types hf hr with h | h | h <;> exact absurd h (by decide)) hp
theorem devCrash_o (h : Devs w0 w ds bs) (k : Nat) (hi : ds[k]? = some (g, d)) (vk : Value) (keep : List Bool) (hk : Bls w0 vk keep) (hp : d.pend.length ≤ 1000000) :
    Calls Tryd.prog 14 #[.pointer (some ⟨g, 0, none⟩), vk] w fun e w' => e = .returned (.tuple #[]) ∧ Devs w0 w' (ds.set k (g, d.crash keep)) bs :=
  h.ret hi fun gn cn gs cs vp hd hF => devCrash_any w g gn cn gs cs vp d hd vk keep (hk.below h.below) (fun hl k hk2 hf => by have := hk.low hl k hk2; have := hF k hf; omega) hp
end
theorem all_2048 {ls : List (List UInt8)} (h : ∀ l ∈ ls, l.length = 256) (h8 : ls.length = 8) : ls.flatten.length = 2048 := by rw [dflat_length h, h8]
theorem Ops.below {w w' : World} {v : Value} {l : List OpD} (h : Ops w v l) (hb : Below w.heap.size w w') : Ops w' v l := by
  obtain ⟨A, c, hv, h1, h2, h3⟩ := h
  refine ⟨A, c, hv, h1, h2, fun hl => ?_⟩
  obtain ⟨b, off, hA, hc⟩ := h3 hl
  refine ⟨b, off, hA, fun j hj => ?_⟩
  obtain ⟨vb, vk, ho⟩ := hc j hj
  exact ⟨vb, vk, ho.below hb⟩
theorem Bs.shape2 {w : World} {v : Value} {l : List UInt8} (h : Bs w v l) : ∃ A c, v = .slice A l.length c := by
  obtain ⟨A, c, rfl, _⟩ := h
  exact ⟨A, c, rfl⟩
theorem Bs.fore2 {w : World} {A : Option Addr} {n c : Nat} {l : List UInt8} (h : Bs w (.slice A n c) l) (k : Nat) (hk : k ≤ l.length) : Bs w (.slice A k c) (l.take k) := by
  obtain ⟨A', c', hv, h1, h2, h3⟩ := h
  injection hv with e1 e2 e3
  subst e1 e2 e3
  have hl : (l.take k).length = k := List.length_take_of_le hk
  refine ⟨A, c, by rw [hl], by rw [hl]; omega, h2, fun h0 => ?_⟩
  rw [hl] at h0
  obtain ⟨b, off, hA, hc⟩ := h3 (by omega)
  refine ⟨b, off, hA, fun j hj => ?_⟩
  rw [hl] at hj
  rw [hc j (by omega)]
  simp
theorem Bls.lit2 (w : World) (e : TypeId) (a b : Bool) : Bls (w.alloc (.cells #[.bool a, .bool b] e)) (.slice (some ⟨w.heap.size, 0, none⟩) 2 2) [a, b] := by
  refine ⟨_, 2, rfl, Nat.le_refl _, by simp [maxLen], fun _ => ⟨w.heap.size, 0, rfl, fun j hj => ?_⟩⟩
  have hr := (RowAt.new w e #[.bool a, .bool b]).cell
  match j, hj with
  | 0, _ => exact hr 0
  | 1, _ => exact hr 1
theorem lit_typed (w : World) (zs : Array Value) (e : TypeId) (n m : Nat) : ∀ k, (Value.slice (some ⟨w.heap.size, 0, none⟩) n m).ownBlock = some k → ∃ c, RowAt (w.alloc (.cells zs e)) k e c := fun k hk => by
  obtain rfl : w.heap.size = k := by simpa [Value.ownBlock] using hk
  exact ⟨zs, RowAt.new w e zs⟩
theorem new_below (w : World) (o : Obj) : Below w.heap.size w (w.alloc o) := (Below.refl _ _).alloc (Nat.le_refl _) _

end Go.Proofs.YtpgbicbjlhkonaaDoor
end
section
namespace Go.Proofs.YtpgbicbjlhkonaaDoor
open Go.RowKit
set_option linter.unusedVariables false
set_option maxRecDepth 20000

theorem rot_int2 (x : UInt32) (n m : Nat) (hm : m + n = 32) : bits .or .u32 ((x.toNat : Int) / 2 ^ n) ((x.toNat : Int) * 2 ^ m % 4294967296) = ((rotr x n).toNat : Int) := by
  have e1 : (x.toNat : Int) * 2 ^ m % 4294967296 = ((x.toNat * 2 ^ m % 4294967296 : Nat) : Int) := by simp
  have e2 : (x.toNat : Int) / 2 ^ n = ((x.toNat / 2 ^ n : Nat) : Int) := by simp
  rw [e1, e2, u32_or_nat _ _ (div_lt32 x n) (Nat.mod_lt _ (by omega)), rotr_toNat, Nat.or_comm, show 32 - n = m by omega]

/-- Four bytes as a word, the highest one first. -/
def word4 (a b c d : UInt8) : UInt32 := UInt32.ofNat (((a.toNat * 256 + b.toNat) * 256 + c.toNat) * 256 + d.toNat)
theorem word4_toNat (a b c d : UInt8) : (word4 a b c d).toNat = ((a.toNat * 256 + b.toNat) * 256 + c.toNat) * 256 + d.toNat := by
  have := a.toNat_lt
  have := b.toNat_lt
  have := c.toNat_lt
  have := d.toNat_lt
  exact UInt32.toNat_ofNat_of_lt' (by show _ < 4294967296; omega)
theorem or_sum (x y n : Nat) (hy : y < 2 ^ n) : x * 2 ^ n ||| y = x * 2 ^ n + y := by
  rw [Nat.mul_comm, Nat.two_pow_add_eq_or_of_lt hy]
theorem word4_or (a b c d : UInt8) : ((a.toNat * 16777216 ||| b.toNat * 65536) ||| c.toNat * 256) ||| d.toNat = (word4 a b c d).toNat := by
  have := a.toNat_lt
  have := b.toNat_lt
  have := c.toNat_lt
  have := d.toNat_lt
  rw [word4_toNat, show a.toNat * 16777216 = a.toNat * 2 ^ 24 by omega, or_sum _ _ _ (by omega), show a.toNat * 2 ^ 24 + b.toNat * 65536 = (a.toNat * 256 + b.toNat) * 2 ^ 16 by omega, or_sum _ _ _ (by omega),
    show (a.toNat * 256 + b.toNat) * 2 ^ 16 + c.toNat * 256 = ((a.toNat * 256 + b.toNat) * 256 + c.toNat) * 2 ^ 8 by omega, or_sum _ _ _ (by omega)]
theorem wordOf_four (block : List UInt8) (k : Nat) (h : 4 * k + 4 ≤ block.length) :
    wordOf block k = word4 (block[4 * k]'(by omega)) (block[4 * k + 1]'(by omega)) (block[4 * k + 2]'(by omega)) (block[4 * k + 3]'(by omega)) := by
  have e : (block.drop (4 * k)).take 4 = [block[4 * k]'(by omega), block[4 * k + 1]'(by omega), block[4 * k + 2]'(by omega), block[4 * k + 3]'(by omega)] := by
    rw [List.drop_eq_getElem_cons (by omega), List.drop_eq_getElem_cons (by omega), List.drop_eq_getElem_cons (by omega), List.drop_eq_getElem_cons (by omega)]
    rfl
  rw [wordOf, e, word4]
  congr 1
  simp [ofHighB, ofLowB]
  omega
theorem Tryd.litsK : Value.agg #[.int .u32 1116352408, .int .u32 1899447441, .int .u32 3049323471, .int .u32 3921009573, .int .u32 961987163, .int .u32 1508970993, .int .u32 2453635748, .int .u32 2870763221, .int .u32 3624381080, .int .u32 310598401, .int .u32 607225278, .int .u32 1426881987, .int .u32 1925078388, .int .u32 2162078206, .int .u32 2614888103, .int .u32 3248222580, .int .u32 3835390401, .int .u32 4022224774, .int .u32 264347078, .int .u32 604807628, .int .u32 770255983, .int .u32 1249150122, .int .u32 1555081692, .int .u32 1996064986, .int .u32 2554220882, .int .u32 2821834349, .int .u32 2952996808, .int .u32 3210313671, .int .u32 3336571891, .int .u32 3584528711, .int .u32 113926993, .int .u32 338241895, .int .u32 666307205, .int .u32 773529912, .int .u32 1294757372, .int .u32 1396182291, .int .u32 1695183700, .int .u32 1986661051, .int .u32 2177026350, .int .u32 2456956037, .int .u32 2730485921, .int .u32 2820302411, .int .u32 3259730800, .int .u32 3345764771, .int .u32 3516065817, .int .u32 3600352804, .int .u32 4094571909, .int .u32 275423344, .int .u32 430227734, .int .u32 506948616, .int .u32 659060556, .int .u32 883997877, .int .u32 958139571, .int .u32 1322822218, .int .u32 1537002063, .int .u32 1747873779, .int .u32 1955562222, .int .u32 2024104815, .int .u32 2227730452, .int .u32 2361852424, .int .u32 2428436474, .int .u32 2756734187, .int .u32 3204031479, .int .u32 3329325298] = .agg (wordsC cubesW) := by kernel_rfl
theorem word4_bits (a b c d : UInt8) : bits .or .u32 (bits .or .u32 (bits .or .u32 (IntKind.u32.wrap (IntKind.u32.wrap (a.toNat : Int) * 16777216)) (IntKind.u32.wrap (IntKind.u32.wrap (b.toNat : Int) * 65536))) (IntKind.u32.wrap (IntKind.u32.wrap (c.toNat : Int) * 256))) (IntKind.u32.wrap (d.toNat : Int)) = ((word4 a b c d).toNat : Int) := by
  have ha := a.toNat_lt
  have hb := b.toNat_lt
  have hc := c.toNat_lt
  have hd := d.toNat_lt
  have e1 : IntKind.u32.wrap (IntKind.u32.wrap (a.toNat : Int) * 16777216) = ((a.toNat * 16777216 : Nat) : Int) := by simp only [IntKind.wrap_u32]; omega
  have e2 : IntKind.u32.wrap (IntKind.u32.wrap (b.toNat : Int) * 65536) = ((b.toNat * 65536 : Nat) : Int) := by simp only [IntKind.wrap_u32]; omega
  have e3 : IntKind.u32.wrap (IntKind.u32.wrap (c.toNat : Int) * 256) = ((c.toNat * 256 : Nat) : Int) := by simp only [IntKind.wrap_u32]; omega
  have e4 : IntKind.u32.wrap (d.toNat : Int) = (d.toNat : Int) := by simp only [IntKind.wrap_u32]; omega
  rw [e1, e2, e3, e4, u32_or_nat _ _ (by omega) (by omega), u32_or_nat _ _ (or_lt32 (by omega) (by omega)) (by omega), u32_or_nat _ _ (or_lt32 (or_lt32 (by omega) (by omega)) (by omega)) (by omega), word4_or]
theorem wrap32 (x : UInt32) : IntKind.u32.wrap (x.toNat : Int) = (x.toNat : Int) := by have := x.toNat_lt; rw [IntKind.wrap_u32]; omega
theorem sum5 (a b c d e : UInt32) : (((a.toNat : Int) + b.toNat + c.toNat + d.toNat) % 4294967296 + e.toNat) % 4294967296 = ((a + b + c + d + e).toNat : Int) := by
  simp only [UInt32.toNat_add]
  omega
theorem sum3 (a b c : UInt32) : ((a.toNat : Int) + b.toNat + c.toNat) % 4294967296 = ((a + b + c).toNat : Int) := by
  simp only [UInt32.toNat_add]
  omega
theorem movr8 (x : UInt32) : (x.toNat : Int) / 8 = ((movr x 3).toNat : Int) := by rw [movr_toNat]; simp
theorem movr1024 (x : UInt32) : (x.toNat : Int) / 1024 = ((movr x 10).toNat : Int) := by rw [movr_toNat]; simp
end Go.Proofs.YtpgbicbjlhkonaaDoor
end
section
namespace Go.Proofs.YtpgbicbjlhkonaaDoor
open Go.RowKit
set_option linter.unusedVariables false
set_option maxRecDepth 20000
set_option pp.deepTerms true
set_option pp.maxSteps 100000

end Go.Proofs.YtpgbicbjlhkonaaDoor
end
section
namespace Go.Proofs.YtpgbicbjlhkonaaDoor
open Go.RowKit
set_option linter.unusedVariables false
set_option maxRecDepth 20000



set_option maxHeartbeats 400000 in
theorem High_in (w : World) (n s : Nat) (hn : n < 18446744073709551616) (hs1 : 1 ≤ s) (hs2 : s ≤ 8) :
    Calls Tryd.prog 57 #[.int .u64 (n : Int), .int .i64 (s : Int)] w (RetBs w (lowB n s).reverse) := by
  obtain ⟨i0, hi, hz0, hz1, hz2⟩ := info_parts Tryd.infoB
  have hlen : (lowB n s).reverse.length = s := by rw [List.length_reverse, lowB_length]
  have HL := Lib.hid hlen
  clear hlen
  go_enter Tryd.func57, Tryd.ntmps57
  go_wp2_with (first
    | (go_at_call 71; refine (fits_yes _ _ (by omega) (by omega)).mono ?_; rintro e w' ⟨rfl, rfl⟩)
    | (refine wpList_make_full _ rfl (.tmp 10) (.tmp 10) 23 rfl w.heap.size 5 i0 (.int .u8 0) 1 Tryd.underlying23 hi hz0 hz1 .i64 .i64 _ _ s rfl rfl rfl rfl (by rw [hz2]; omega) (by unfold maxLen; omega) (Nat.le_refl _) ?_; intro w1 hown hgrow))
  rw [made_zeros] at hown
  have hown0 : w1.ownsRow w.heap.size 5 1 (.slice (some ⟨w.heap.size, 0, none⟩) s s) s (cellsB (partlyR (lowB n s).reverse 0)) := by
    rw [partlyR_zero, HL.out]; exact hown
  have hbel : Below w.heap.size w w1 := (Below.refl _ _).grown hgrow (Nat.le_refl _) (fun k h => by cases h)
  clear hown hgrow
  go_loopw [13] (fun i wr => ∃ k : Nat, k ≤ s ∧ i = .int .i64 k ∧ wr.ownsRow w.heap.size 5 1 (.slice (some ⟨w.heap.size, 0, none⟩) s s) s (cellsB (partlyR (lowB n s).reverse k)) ∧ Below w.heap.size w wr) (fun i _ => s - (intOf i).toNat)
  case atStart => exact ⟨0, Nat.zero_le _, rfl, hown0, hbel⟩
  case round =>
    obtain ⟨k, hk, rfl, hown, hb⟩ := hrel
    clear hown0 hbel
    by_cases hlt : k < s
    · obtain ⟨old, hcell⟩ := own_some hown (s - 1 - k) (by omega)
      have hfz := hown.frozenAt (s - 1 - k)
      have hput := own_put hown (s - 1 - k) (byteN n k)
      have hstep := partlyR_step (lowB n s).reverse k (by rw [HL.out]; omega)
      have hget : (lowB n s).reverse[(lowB n s).reverse.length - 1 - k]'(by rw [HL.out]; omega) = byteN n k := by
        rw [List.getElem_reverse]
        have e : (lowB n s).length - 1 - ((lowB n s).reverse.length - 1 - k) = k := by rw [HL.out, lowB_length]; omega
        simp only [e]
        simp [lowB]
      rw [hget, HL.out] at hstep
      rw [hstep] at hput
      have HP := Lib.hid hput
      have HG := Lib.hid hown
      have HB := Lib.hid hb
      clear hput hown hget hb hstep
      go_wp2_with (go_at_call 72; refine (byteAt_any _ n k hn (by omega)).mono ?_; rintro e w' ⟨rfl, rfl⟩)
      go_roundw
      case rel => exact ⟨k + 1, by omega, by go_num, HP.out, HB.out.setCell (by simp) _⟩
      case measure => simp [intOf]; omega
    · have hks : k = s := by omega
      subst hks
      have hown2 : wr.ownsRow w.heap.size 5 1 (.slice (some ⟨w.heap.size, 0, none⟩) k k) k (cellsB (lowB n k).reverse) := by
        have := partlyR_all (lowB n k).reverse; rw [HL.out] at this; rwa [this] at hown
      have HO := Lib.hid hown2
      have HB := Lib.hid hb
      clear hown2 hown hb
      go_wp2
      go_ret
      exact ⟨_, rfl, Bs.of_own HO.out, HB.out⟩

theorem High_out (w : World) (n : Nat) (s : Int) (h : s < 1 ∨ 8 < s) :
    Calls Tryd.prog 57 #[.int .u64 (n : Int), .int .i64 s] w (RetBs w []) := by
  go_enter Tryd.func57, Tryd.ntmps57
  go_wp2_with (go_at_call 71; refine (fits_no _ _ h).mono ?_; rintro e w' ⟨rfl, rfl⟩)
  go_ret
  exact ⟨_, rfl, Bs.nil _, Below.refl _ _⟩

theorem High_any (w : World) (n : Nat) (hn : n < 18446744073709551616) (s : Int) :
    Calls Tryd.prog 57 #[.int .u64 (n : Int), .int .i64 s] w (RetBs w (highI n s)) := by
  unfold highI
  by_cases h : s < 1 ∨ 8 < s
  · rw [lowI_out n s h]
    exact High_out w n s h
  · obtain ⟨t, rfl⟩ := Int.eq_ofNat_of_zero_le (a := s) (by omega)
    rw [lowI_in n t (by omega) (by omega)]
    exact High_in w n t hn (by omega) (by omega)


end Go.Proofs.YtpgbicbjlhkonaaDoor
end
section
namespace Go.Proofs.YtpgbicbjlhkonaaDoor
open Go.RowKit
set_option linter.unusedVariables false
set_option maxRecDepth 20000

theorem Pad_neg (w : World) (n : Int) (h : n < 0) :
    Calls Tryd.prog 73 #[.int .i64 n] w (RetBs w []) := by
  have hd : decide (n < 0) = true := by simp; omega
  go_enter Tryd.func73, Tryd.ntmps73
  go_wp2
  go_ret
  exact ⟨_, rfl, Bs.nil _, Below.refl _ _⟩

theorem pad_spliced (n z m y p : Nat) (hz : (119 - n % 64) % 64 = z) (hm : m = z + 9) (hy : y = z + 1) (hp : p = 8 * n % 18446744073709551616) :
    ((List.replicate m (0 : UInt8)).set 0 128).take y ++ (lowB p 8).reverse ++ ((List.replicate m (0 : UInt8)).set 0 128).drop (y + (lowB p 8).reverse.length) = padB n := by
  subst hm hy
  rw [List.drop_of_length_le (by simp [lowB_length]), padB, hz, ← hp, show z + 9 = (z + 8) + 1 by omega, List.replicate_succ, List.set_cons_zero, List.take_succ_cons, List.take_replicate, Nat.min_eq_left (by omega)]
  simp

theorem eight_mul (n : Nat) (hn : n ≤ 9223372036854775807) : IntKind.u64.wrap (8 * IntKind.u64.wrap (n : Int)) = ((8 * n % 18446744073709551616 : Nat) : Int) := by
  rw [IntKind.wrap_u64, IntKind.wrap_u64]
  omega

set_option maxHeartbeats 1000000 in
theorem Pad_any (w : World) (n : Nat) (hn : n ≤ 9223372036854775807) :
    Calls Tryd.prog 73 #[.int .i64 (n : Int)] w (RetBs w (padB n)) := by
  obtain ⟨i0, hi, hz0, hz1, hz2⟩ := info_parts Tryd.infoB
  have hd : decide ((n : Int) < 0) = false := by simp
  obtain ⟨z, hz⟩ : ∃ z, (119 - n % 64) % 64 = z := ⟨_, rfl⟩
  have hzlt : z < 64 := by omega
  obtain ⟨m, hm⟩ : ∃ m, m = z + 9 := ⟨_, rfl⟩
  have e1 : (119 - (n : Int)) % 64 = (z : Int) := by omega
  have e2 : (119 - (n : Int) % 64) % 64 = (z : Int) := by omega
  have e3 : 1 + (z : Int) + 8 = (m : Int) := by omega
  have e4 : (z : Int) + 9 = (m : Int) := by omega
  obtain ⟨p, hp⟩ : ∃ p, p = 8 * n % 18446744073709551616 := ⟨_, rfl⟩
  have hplt : p < 18446744073709551616 := by omega
  have e5 := eight_mul n hn
  rw [← hp] at e5
  have HZ := Lib.hid hz
  have HM := Lib.hid hm
  have HP := Lib.hid hp
  have hmlt : m < 73 := by omega
  have e6 : 1 + (z : Int) ≤ (m : Int) := by omega
  clear hz hm hp
  go_enter Tryd.func73, Tryd.ntmps73
  go_wp2_with (with_reducible refine wpList_make_full (o := ⟨some 14, _, _, _, _, _⟩) _ rfl (.tmp 13) (.tmp 13) 23 rfl w.heap.size 5 i0 (.int .u8 0) 1 Tryd.underlying23 hi hz0 hz1 .i64 .i64 _ _ m (by with_unfolding_all rfl) (by with_unfolding_all rfl) (by omega) (by omega) (by rw [hz2]; omega) (by unfold maxLen; omega) (Nat.le_refl _) ?_; intro w1 hown hgrow; rw [made_zeros] at hown; have hc := own_cell hown 0 (by simp; omega); have hf := hown.frozenAt 0)
  have hB1 : Below w.heap.size w w1 := (Below.refl _ _).grown hgrow (Nat.le_refl _) (fun k e => by cases e)
  have hB2 := hB1.setCell (p := ⟨w.heap.size, 0, none⟩) (Nat.le_refl _) (.int .u8 128)
  have hrow := (own_row hown).put 0 (.int .u8 ((128 : UInt8).toNat : Int))
  rw [bytesC_put] at hrow
  change RowAt (w1.setCell ⟨w.heap.size, 0, none⟩ (.int .u8 128)) _ _ _ at hrow
  clear hown hgrow hc hf hB1
  generalize w1.setCell ⟨w.heap.size, 0, none⟩ (.int .u8 128) = w2 at hrow hB2 ⊢
  obtain ⟨y, hy⟩ : ∃ y, y = z + 1 := ⟨_, rfl⟩
  have hne : ¬ m = y := by have := HM.out; omega
  have hyl : (y : Int) ≤ (m : Int) := by have := HM.out; omega
  have e8 : IntKind.i64.wrap (1 + (z : Int)) = (y : Int) := by rw [IntWalk.i64_in _ (by omega)]; omega
  have HY := Lib.hid hy
  clear hy
  have HR := Lib.hid hrow
  have HB := Lib.hid hB2
  have hsz := hB2.size
  clear hrow hB2
  go_region_law (first
    | (go_simp; go_at_call 57; refine (High_in _ p 8 hplt (by omega) (by omega)).mono ?_; rintro e w3 ⟨_, rfl, hbs, b3⟩; have HS := Lib.hid hbs; obtain ⟨A, c, rfl, h1, h2, h3⟩ := hbs; clear h1 h2 h3)
    | (refine step_copy_splice rfl (.tmp 20) (.tmp 24) 23 23 rfl 5 Tryd.underlying23 Tryd.sizeB (some ⟨w.heap.size, y, none⟩) A (m - y) (m - y) (lowB p 8).reverse.length c rfl rfl w.heap.size y (cellsB ((List.replicate m 0).set 0 128)) 5 (HR.out.drew.kept b3) (cellsB (lowB p 8).reverse) (by rw [cellsB_length, List.length_reverse, lowB_length, HM.out, HY.out]; show 8 = min 8 _; omega) (copy_from HS.out) (by rw [cellsB_length, cellsB_length, List.length_reverse, lowB_length, List.length_set, List.length_replicate, HM.out, HY.out]; omega) (cellsB_one _) w.heap.size w (below_size HB.out.drew b3) (Nat.le_refl _) ?_; intro w4 hr4 hb4))
  have hr5 := hr4.out
  rw [splice_bytes, pad_spliced n z m y p HZ.out HM.out HY.out HP.out] at hr5
  have HR5 : Hid (RowAt w4 w.heap.size 5 (keyC (padB n))) := hr5
  clear hr5 hr4
  have HL : Hid (m = (padB n).length) := by
    show m = _
    rw [padB_length, HZ.out, HM.out]
    omega
  have HB4 := Lib.hid hb4
  clear hb4
  go_wp2
  go_ret
  refine ⟨_, rfl, ?_, HB4.out⟩
  rw [HL.out]
  exact row_bs HR5.out (by rw [← HL.out]; unfold maxLen; omega)
end Go.Proofs.YtpgbicbjlhkonaaDoor
end
section
namespace Go.Proofs.YtpgbicbjlhkonaaDoor
open Go.RowKit
set_option linter.unusedVariables false
set_option maxRecDepth 20000

theorem OwnB.lit {w : World} {base : Nat} (e : TypeId) (l : List UInt8) (c : Array Value) (hb : base ≤ w.heap.size) (hc : c.toList = cellsB l) (hm : l.length ≤ maxLen) : OwnB (w.alloc (.cells c e)) base e (.slice (some ⟨w.heap.size, 0, none⟩) l.length l.length) l := by
  have h := World.ownsRow_lit (base := base) (e := e) (size := 1) w c l.length hb hm (by rw [← Array.length_toList, hc, cellsB_length]; omega)
  rw [hc] at h
  exact h

def accP (k : Nat) : List UInt8 := 128 :: List.replicate k 0
theorem accP_length (k : Nat) : (accP k).length = k + 1 := by simp [accP]
theorem accP_succ (k : Nat) : accP (k + 1) = accP k ++ [0] := by simp [accP, List.replicate_succ']
theorem accP_all (n : Nat) (hn : 8 * n < 18446744073709551616) : accP ((119 - n % 64) % 64) ++ highI (8 * n) 8 = padB n := by
  rw [padB, accP, highI, show lowI (8 * n) 8 = lowB (8 * n) 8 from lowI_in _ 8 (by omega) (by omega), Nat.mod_eq_of_lt hn]

theorem Pad_int (w : World) (n : Int) (h : n ≤ 1000000000) :
    Calls Tryd.prog 73 #[.int .i64 n] w (RetBs w (if n < 0 then [] else padB n.toNat)) := by
  by_cases h0 : n < 0
  · rw [if_pos h0]; exact Pad_neg w n h0
  · rw [if_neg h0]
    have := Pad_any w n.toNat (by omega)
    rwa [Int.toNat_of_nonneg (by omega)] at this
end Go.Proofs.YtpgbicbjlhkonaaDoor
end
section
namespace Go.Proofs.YtpgbicbjlhkonaaDoor
open Go.RowKit Go.Shelf
attribute [local go_sem] Oper.semAt_some
set_option linter.unusedVariables false
set_option maxRecDepth 20000

/-- What Chunk's function has captured: the bytes, and how many each time. -/
structure Cut (w : World) (b1 b2 b off cap N : Nat) : Prop where
  list : Boxed w b1 23 (.slice (some ⟨b, off, none⟩) (64 * N) cap)
  size : Boxed w b2 3 (.int .i64 64)
def CutAt (b1 b2 : Nat) (k : Nat) : Prop := k = b1 ∨ k = b2
theorem Cut.kept {w w' : World} {b1 b2 b off cap N : Nat} (h : Cut w b1 b2 b off cap N) (hk : KeepsAt (CutAt b1 b2) w w') : Cut w' b1 b2 b off cap N :=
  ⟨(hk b1 (.inl rfl)).trans h.list, (hk b2 (.inr rfl)).trans h.size⟩
theorem Cut.lt {w : World} {b1 b2 b off cap N : Nat} (h : Cut w b1 b2 b off cap N) : ∀ k, CutAt b1 b2 k → k < w.heap.size := by
  rintro k (rfl | rfl)
  · exact h.list.lt
  · exact h.size.lt
theorem Cut.below {w w' : World} {b1 b2 b off cap N : Nat} (h : Cut w b1 b2 b off cap N) (hb : Below w.heap.size w w') : Cut w' b1 b2 b off cap N :=
  h.kept (KeepsAt.of_below hb h.lt)

theorem take_fin (N k : Nat) (h : k < N) : (List.finRange N).take (k + 1) = (List.finRange N).take k ++ [⟨k, h⟩] := by
  rw [List.take_succ_eq_append_getElem (by simpa using h)]
  simp

set_option maxHeartbeats 2000000 in
theorem chunk1_stops (n : Nat) (hn : 1 ≤ n) (b1 b2 b off cap N : Nat) (hcap : 64 * N ≤ cap) (hmax : cap ≤ maxLen) (w : World) (env : Cut w b1 b2 b off cap N) :
    SeqStopsK Fence.wide n Tryd.prog 79 #[.pointer (some ⟨b1, 0, none⟩), .pointer (some ⟨b2, 0, none⟩)]
      (fun x : Fin N => #[.slice (some ⟨b, off + 64 * x.val, none⟩) 64 64]) (KeepsAt (CutAt b1 b2)) (fun ys => ys = List.finRange N) (fun _ => True) N w := by
  intro l J Jx W hW hJ hJx hY h0
  unfold maxLen at hmax
  have env0 : Cut W b1 b2 b off cap N := env.below hW
  have EV := Lib.hid env0
  have HJ := Lib.hid hJ
  have HY := Lib.hid hY
  obtain ⟨L, hL⟩ : ∃ L, L = 64 * N := ⟨_, rfl⟩
  rw [← hL] at hcap
  have HL := Lib.hid hL
  clear env env0 hW hJ hJx hY hL
  refine callsIn_of_wp Tryd.func79 rfl trivial ?_ rfl
  simp only [Tryd.ntmps79, List.size_toArray, List.length_cons, List.length_nil, Nat.reduceAdd, Nat.reduceSub, Array.replicate_succ, Array.replicate_zero, List.push_toArray, List.append_toArray, List.nil_append, List.cons_append]
  gi_wp2
  gi_loopw [4] (fun i wr => ∃ k p : Nat, k ≤ N ∧ Hid (p = 64 * k) ∧ i = .int .i64 p ∧ J ((List.finRange N).take k) wr ∧ Cut wr b1 b2 b off cap N) (fun i _ => L - (intOf i).toNat)
  case atStart => exact ⟨0, 0, Nat.zero_le _, rfl, rfl, h0, EV.out⟩
  case round =>
    clear h0 EV
    obtain ⟨k, p, hk, HP, rfl, hJs, hev⟩ := hrel
    have hd1 := hev.list.cell
    have hd2 := hev.size.cell
    rw [← HL.out] at hd1
    have EV := Lib.hid hev
    have HJs := Lib.hid hJs
    clear hev hJs
    by_cases hlt : k < N
    · obtain ⟨fn, tmps, assign, body, hy, hR⟩ := HY.out _ ⟨k, hlt⟩ wr.drew (HJ.out _ _ _ none HJs.out (grown_of_below (Below.refl _ _).drew) (fun r e => by cases e)) (by simp; omega)
      have hpl : p + 64 ≤ L := by have := HP.out; have := HL.out; omega
      have hne : ¬ cap = p := by omega
      have hlt2 : (p : Int) < (L : Int) := by omega
      dsimp only at hy
      have hoff : off + 64 * k = off + p := by have := HP.out; omega
      rw [hoff] at hy
      have hd3 : wr.drew.cell? ⟨b1, 0, none⟩ = some (.slice (some ⟨b, off, none⟩) L cap) := hd1
      have hd4 : wr.drew.cell? ⟨b2, 0, none⟩ = some (.int .i64 64) := hd2
      have hle1 : (p : Int) ≤ (L : Int) := by omega
      have hmin : (64 : Int) ≤ ((L - p : Nat) : Int) := by omega
      have hpl2 := hpl
      gi_wp2
      gi_region
      all_goals (
        have hmn : ¬ (((L - p : Nat) : Int) < 64) := by omega
        try simp only [if_neg hmn]
        gi_wp2
        refine hR.mono ?_
        rintro e W3 (⟨rfl, hJ3, hk3⟩ | ⟨rfl, hJx3⟩)
        · have EV3 := (EV.out.below (Below.refl _ _).drew).kept hk3
          have hd5 := EV3.size.cell
          gi_wp2
          go_roundw
          case rel => exact ⟨k + 1, p + 64, by omega, by have := HP.out; show p + 64 = _; omega, by go_num, by rw [take_fin N k hlt]; exact hJ3, EV3⟩
          case measure => simp [intOf]; omega
        · gi_wp2
          refine bodyPost_ret (results_none rfl _ _ _) rfl ?_
          exact ⟨⟨_, rfl⟩, .inr ⟨_, trivial, hJx3⟩⟩)
    · have hpl : p = L := by
        have h1 := HP.out
        have h2 := HL.out
        have h3 : k = N := by omega
        subst h3; omega
      have hge : ¬ (p : Int) < (L : Int) := by omega
      have hkN : (List.finRange N).take k = List.finRange N := List.take_of_length_le (by simp; omega)
      have HJ5 : Hid (J (List.finRange N) wr) := by rw [← hkN]; exact HJs
      gi_wp2
      go_end0
      exact ⟨⟨_, rfl⟩, .inl HJ5.out⟩

set_option maxHeartbeats 400000 in
theorem chunk_any (w : World) (b off cap N : Nat) :
    Calls Tryd.prog 67 #[.slice (some ⟨b, off, none⟩) (64 * N) cap, .int .i64 64] w fun e w' => ∃ b1 b2 : Nat,
      e = .returned (.func (.func 79) #[] #[.pointer (some ⟨b1, 0, none⟩), .pointer (some ⟨b2, 0, none⟩)]) ∧ Cut w' b1 b2 b off cap N ∧ (w.heap.size ≤ b1 ∧ w.heap.size ≤ b2) ∧ Below w.heap.size w w' := by
  go_enter Tryd.func67, Tryd.ntmps67
  go_wp2
  go_ret
  have bb : Below w.heap.size w (w.alloc (.cells #[.slice (some ⟨b, off, none⟩) (64 * N) cap] 23)) := (Below.refl _ _).alloc (Nat.le_refl _) _
  have h2 := Boxed.new (w.alloc (.cells #[.slice (some ⟨b, off, none⟩) (64 * N) cap] 23)) 3 (.int .i64 64)
  rw [World.size_alloc] at h2
  exact ⟨w.heap.size, w.heap.size + 1, rfl, ⟨(Boxed.new w 23 (.slice (some ⟨b, off, none⟩) (64 * N) cap)).alloc _, h2⟩, ⟨Nat.le_refl _, Nat.le_succ _⟩, bb.alloc bb.size _⟩
end Go.Proofs.YtpgbicbjlhkonaaDoor
end
section
namespace Go.Proofs.YtpgbicbjlhkonaaDoor
open Go.RowKit
set_option linter.unusedVariables false
set_option maxRecDepth 20000

/-- The slice value v reads as the lists ls. -/
def Bss (w : World) (v : Value) (ls : List (List UInt8)) : Prop :=
  ∃ A c, v = .slice A ls.length c ∧ ls.length ≤ c ∧ c ≤ maxLen ∧
    (0 < ls.length → ∃ b off, A = some ⟨b, off, none⟩ ∧ ∀ j (h : j < ls.length), ∃ u, w.cell? ⟨b, off + j, none⟩ = some u ∧ Bs w u ls[j])

/-- A result that is bytes in a row of the call's own. -/
def RetOwn (w : World) (t : TypeId) (l : List UInt8) (e : Ending) (w' : World) : Prop := ∃ v, e = .returned v ∧ OwnB w' w.heap.size t v l ∧ Below w.heap.size w w'
theorem Bss.keep {w w' : World} {v : Value} {ls : List (List UInt8)} (h : Bss w v ls) (hb : Below w.heap.size w w') : Bss w' v ls := by
  obtain ⟨A, c, hv, h1, h2, h3⟩ := h
  refine ⟨A, c, hv, h1, h2, fun hl => ?_⟩
  obtain ⟨b, off, hA, hc⟩ := h3 hl
  refine ⟨b, off, hA, fun j hj => ?_⟩
  obtain ⟨u, hu, hbu⟩ := hc j hj
  exact ⟨u, (hb.cell (World.block_lt_of_cell? w _ hu)).trans hu, hbu.below hb⟩

/-- A list of lists that a call's own arguments have just made. -/
theorem Bss.lit (w : World) (e : TypeId) (vs : List Value) (ls : List (List UInt8)) (hl : vs.length = ls.length) (hm : ls.length ≤ maxLen) (h : ∀ j (h1 : j < vs.length) (h2 : j < ls.length), Bs w vs[j] ls[j]) :
    Bss (w.alloc (.cells vs.toArray e)) (.slice (some ⟨w.heap.size, 0, none⟩) ls.length ls.length) ls := by
  refine ⟨_, _, rfl, Nat.le_refl _, hm, fun _ => ⟨w.heap.size, 0, rfl, fun j hj => ⟨vs[j]'(by omega), ?_, (h j (by omega) hj).alloc _⟩⟩⟩
  rw [Nat.zero_add, World.cell?_alloc_at _ _ _ _ rfl]
  simp [hl, hj]

theorem Bs.cut {w : World} {A : Option Addr} {n c : Nat} {l : List UInt8} (h : Bs w (.slice A n c) l) (k : Nat) (hk : k ≤ l.length) :
    Bs w (.slice (if c = k then A else Option.map (fun x => x.add k) A) (l.length - k) (c - k)) (l.drop k) := by
  obtain ⟨A', c', hv, h1, h2, h3⟩ := h
  injection hv with e1 e2 e3
  subst e1 e2 e3
  have hl : (l.drop k).length = l.length - k := List.length_drop
  refine ⟨_, c - k, by rw [hl], by rw [hl]; omega, by omega, fun h0 => ?_⟩
  rw [hl] at h0
  obtain ⟨b, off, rfl, hc⟩ := h3 (by omega)
  have hadd : (⟨b, off, none⟩ : Addr).add k = ⟨b, off + k, none⟩ := by unfold Addr.add; split <;> simp_all
  refine ⟨b, off + k, by rw [if_neg (by omega)]; simp [hadd], fun j hj => ?_⟩
  rw [hl] at hj
  rw [Nat.add_assoc, hc (k + j) (by omega), List.getElem_drop]
theorem Bss.drew {w : World} {v : Value} {ls : List (List UInt8)} (h : Bss w v ls) : Bss w.drew v ls := h
theorem Bss.two (w : World) (e : TypeId) (u v : Value) (a b : List UInt8) (ha : Bs w u a) (hb : Bs w v b) :
    Bss (w.alloc (.cells #[u, v] e)) (.slice (some ⟨w.heap.size, 0, none⟩) 2 2) [a, b] :=
  Bss.lit w e [u, v] [a, b] rfl (by simp [maxLen]) (fun j h1 h2 => by
    match j, h1 with
    | 0, _ => exact ha
    | 1, _ => exact hb)
theorem Bss.three (w : World) (e : TypeId) (u v x : Value) (a b c : List UInt8) (ha : Bs w u a) (hb : Bs w v b) (hc : Bs w x c) :
    Bss (w.alloc (.cells #[u, v, x] e)) (.slice (some ⟨w.heap.size, 0, none⟩) 3 3) [a, b, c] :=
  Bss.lit w e [u, v, x] [a, b, c] rfl (by simp [maxLen]) (fun j h1 h2 => by
    match j, h1 with
    | 0, _ => exact ha
    | 1, _ => exact hb
    | 2, _ => exact hc)

theorem flat_take (ls : List (List UInt8)) (k : Nat) (h : k < ls.length) : (ls.take (k + 1)).flatten = (ls.take k).flatten ++ ls[k] := by
  rw [List.take_succ_eq_append_getElem h, List.flatten_append]
  simp
theorem flat_le (ls : List (List UInt8)) (k : Nat) : (ls.take k).flatten.length ≤ ls.flatten.length := by
  have h : ls.flatten = (ls.take k).flatten ++ (ls.drop k).flatten := by rw [← List.flatten_append, List.take_append_drop]
  rw [h, List.length_append]
  omega

set_option maxHeartbeats 1000000 in
theorem Join_own (w : World) (v : Value) (ls : List (List UInt8)) (h : Bss w v ls) (hl : ls.flatten.length ≤ 1000000000000) (hn : ls.length ≤ 1000000000000) :
    Calls Tryd.prog 58 #[v] w (RetOwn w 5 ls.flatten) := by
  obtain ⟨i0, hi, hz0, hz1, hz2⟩ := info_parts Tryd.infoB
  obtain ⟨A, c, rfl, h1, h2, h3⟩ := h
  unfold maxLen at h2
  go_enter Tryd.func58, Tryd.ntmps58
  go_wp2
  go_loop [3, 11] (fun n i => ∃ k q : Nat, k ≤ ls.length ∧ i = .int .i64 k ∧ q = (ls.take k).flatten.length ∧ n = .int .i64 (q : Int)) (fun _ i => ls.length - (intOf i).toNat)
  case atStart => exact ⟨0, 0, Nat.zero_le _, rfl, by simp, rfl⟩
  case round =>
    obtain ⟨k, q, hk, rfl, hq, rfl⟩ := hrel
    have hqb : q ≤ ls.flatten.length := by rw [hq]; exact flat_le ls k
    have HQ := Lib.hid hq
    clear hq
    by_cases hlt : k < ls.length
    · obtain ⟨b0, o0, rfl, hc⟩ := h3 (by omega)
      obtain ⟨u, hcell, ⟨Ak, ck, rfl, hk1, hk2, hk3⟩⟩ := hc k hlt
      have HT : Hid ((ls.take (k + 1)).flatten.length = q + ls[k].length) := by
        show _ = _
        rw [flat_take ls k hlt, List.length_append, ← HQ.out]
      have hb2 : q + ls[k].length ≤ ls.flatten.length := by rw [← HT.out]; exact flat_le ls (k + 1)
      clear hc h3 hk3
      go_wp2
      go_round
      case rel => exact ⟨k + 1, q + ls[k].length, by omega, by go_num, HT.out.symm, by go_num⟩
      case measure => simp [intOf]; omega
    · have hfin : q = ls.flatten.length := by have := HQ.out; rwa [List.take_of_length_le (by omega)] at this
      have HF := Lib.hid hfin
      have hq2 : ls.flatten.length ≤ q := by omega
      clear hfin
      go_wp2_with ((with_reducible refine wpList_make_own _ rfl (.const (.int .i64 0)) (.tmp 20) 23 rfl w.heap.size 5 i0 (.int .u8 0) 1 Tryd.underlying23 hi hz0 hz1 .i64 .i64 (q : Int) q (by with_unfolding_all rfl) (by with_unfolding_all rfl) rfl (by rw [hz2]; omega) (by unfold maxLen; omega) (Nat.le_refl _) ?_); intro w1 hown hgrow)
      have hown0 : OwnB w1 w.heap.size 5 (.slice (some ⟨w.heap.size, 0, none⟩) 0 q) (ls.take 0).flatten := hown
      have hbel : Below w.heap.size w w1 := (Below.refl _ _).grown hgrow (Nat.le_refl _) (fun k h => by cases h)
      clear hown hgrow
      go_loopw [6, 24] (fun v i wr => ∃ k : Nat, k ≤ ls.length ∧ i = .int .i64 k ∧ OwnB wr w.heap.size 5 v (ls.take k).flatten ∧ Below w.heap.size w wr) (fun _ i _ => ls.length - (intOf i).toNat)
      case atStart => exact ⟨0, Nat.zero_le _, rfl, hown0, hbel⟩
      case round =>
        clear hown0 hbel HQ hk
        obtain ⟨j, hj, rfl, hown, hb⟩ := hrel
        have HO := Lib.hid hown
        have HB := Lib.hid hb
        clear hown hb
        by_cases hlt2 : j < ls.length
        · obtain ⟨b0, o0, rfl, hc⟩ := h3 (by omega)
          obtain ⟨u, hcell, hu⟩ := hc j hlt2
          have hcell2 : wr.cell? ⟨b0, o0 + j, none⟩ = some u := (HB.out.cell (p := ⟨b0, o0 + j, none⟩) (World.block_lt_of_cell? w _ hcell)).trans hcell
          have HU := Lib.hid (hu.below HB.out)
          have HT := Lib.hid (flat_take ls j hlt2)
          have HLn : Hid ((ls.take j).flatten.length + ls[j].length ≤ 140737488355328) := by
            show _ ≤ _
            have := flat_le ls (j + 1)
            rw [flat_take ls j hlt2, List.length_append] at this
            omega
          clear hc h3 hcell hu
          go_wp2_with (at_builtin; refine wpList_appB _ rfl (.tmp 28) (.tmp 29) 23 rfl w 5 Tryd.infoB Tryd.underlying23 _ _ (ls.take j).flatten ls[j] rfl rfl HO.out HU.out HLn.out HB.out ?_; intro v2 w2 hown2 hb2)
          go_roundw
          case rel => exact ⟨j + 1, by omega, by go_num, by rw [HT.out]; exact hown2, hb2⟩
          case measure => simp [intOf]; omega
        · have HO2 : Hid (OwnB wr w.heap.size 5 u6 ls.flatten) := by
            have := HO.out; rwa [List.take_of_length_le (by omega)] at this
          go_wp2
          go_ret
          exact ⟨_, rfl, HO2.out, HB.out⟩
theorem Join_any (w : World) (v : Value) (ls : List (List UInt8)) (h : Bss w v ls) (hl : ls.flatten.length ≤ 1000000000000) (hn : ls.length ≤ 1000000000000) :
    Calls Tryd.prog 58 #[v] w (RetBs w ls.flatten) :=
  (Join_own w v ls h hl hn).mono fun _ _ ⟨u, he, ho, hb⟩ => ⟨u, he, ho.bs, hb⟩
end Go.Proofs.YtpgbicbjlhkonaaDoor
end
