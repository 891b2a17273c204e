/-
  Texts that belong together, merged: DevJ, DevK, ShaR, ShaS, C, ShaD, ShaT. Conditions: as each theorem names them.
-/
import Derived.Test.YtpgbicbjlhkonaaGreatDoorQVlpAE
import Derived.Test.YtpgbicbjlhkonaaGreatDoorQVlpAB
import Derived.Test.YtpgbicbjlhkonaaGreatDoorQVlpAC
import Derived.StillTailTactics
import Derived.BigQuiet
import Derived.Test.YtpgbicbjlhkonaaGreatDoorQVlpAA
section
namespace Go.Proofs.YtpgbicbjlhkonaaGreatDoor
open Go.RowKit
set_option linter.unusedVariables false
set_option maxRecDepth 20000

def DevIn (w : World) (F : Nat → Prop) (g : Nat) (d : Dev) : Prop := ∃ gn cn gs cs vp, DevIs w g gn cn gs cs vp d ∧ ∀ k, Foot g gn gs vp k → F k
/-- The devices ds, no two of which share a block, and bytes bs that lie in none of their blocks. -/
def Devs (w0 w : World) (ds : List (Nat × Dev)) (bs : List (Value × List UInt8)) : Prop :=
  Below w0.heap.size w0 w ∧ ∃ F : Nat → Nat → Prop, (∀ i g d, ds[i]? = some (g, d) → DevIn w (F i) g d) ∧ (∀ i j k, i ≠ j → F i k → ¬ F j k) ∧ (∀ i k, F i k → w0.heap.size ≤ k ∧ k < w.heap.size) ∧ ∀ x ∈ bs, Bs w x.1 x.2 ∧ ∀ i k, x.1.ownBlock = some k → k < w.heap.size ∧ ¬ F i k
section
variable {w0 w w' : World} {g i : Nat} {d d' : Dev} {ds : List (Nat × Dev)} {bs : List (Value × List UInt8)} {F G : Nat → Prop}
theorem DevIn.turned (h : DevIn w F g d) (ht : Turns G w w') (hG : ∀ k, F k → ¬ G k) : DevIn w' F g d := by
  obtain ⟨gn, cn, gs, cs, vp, h, hF⟩ := h
  exact ⟨gn, cn, gs, cs, vp, h.turned ht fun k hk => hG k (hF k hk), hF⟩
theorem Devs.start (w : World) : Devs w w [] [] := ⟨Below.refl _ _, fun _ _ => False, by simp, fun _ _ _ _ h => h.elim, fun _ _ h => h.elim, fun x hx => nomatch hx⟩
theorem Devs.below (h : Devs w0 w ds bs) : Below w0.heap.size w0 w := h.1
theorem Devs.ok (h : Devs w0 w ds bs) (hi : ds[i]? = some (g, d)) : d.Ok := by
  obtain ⟨_, F, h1, _⟩ := h
  obtain ⟨_, _, _, _, _, h, _⟩ := h1 i g d hi
  exact h.ok
theorem Devs.kept (h : Devs w0 w ds bs) (hb : Below w.heap.size w w') : Devs w0 w' ds bs := by
  obtain ⟨b, F, h1, h2, h3, h4⟩ := h
  exact ⟨below_size b hb, F, fun i g d hi => (h1 i g d hi).turned (G := fun _ => False) (Turns.of_below _ hb) fun _ _ h => h, h2, fun i k hk => ⟨(h3 i k hk).1, Nat.lt_of_lt_of_le (h3 i k hk).2 hb.size⟩, fun x hx => ⟨(h4 x hx).1.below hb, fun i k hk => ⟨Nat.lt_of_lt_of_le ((h4 x hx).2 i k hk).1 hb.size, ((h4 x hx).2 i k hk).2⟩⟩⟩
/-- One more. -/
theorem Devs.more (h : Devs w0 w ds bs) (hd : DevOf w w' g d) : Devs w0 w' (ds ++ [(g, d)]) bs := by
  obtain ⟨b, F, h1, h2, h3, h4⟩ := h
  obtain ⟨b2, gn, cn, gs, cs, vp, hd, hF⟩ := hd
  have hl : ∀ i g d, ds[i]? = some (g, d) → i < ds.length := fun i g d hi => (List.getElem?_eq_some_iff.1 hi).1
  refine ⟨below_size b b2, fun j k => if j = ds.length then (w.heap.size ≤ k ∧ k < w'.heap.size) else F j k, fun j g' d' hj => ?_, fun a c k hac ha hc => ?_, fun j k hk => ?_, fun x hx => ⟨(h4 x hx).1.below b2, fun j k hk => ⟨Nat.lt_of_lt_of_le ((h4 x hx).2 j k hk).1 b2.size, fun hf => ?_⟩⟩⟩
  · rw [List.getElem?_append] at hj
    split at hj
    · rename_i hlt
      have e : (fun k => if j = ds.length then (w.heap.size ≤ k ∧ k < w'.heap.size) else F j k) = F j := by
        funext k
        rw [if_neg (by omega)]
      dsimp only
      rw [e]
      exact (h1 j g' d' hj).turned (G := fun _ => False) (Turns.of_below _ b2) fun _ _ h => h
    · rename_i hge
      have e0 : j = ds.length := by
        have := (List.getElem?_eq_some_iff.1 hj).1
        simp at this
        omega
      subst e0
      simp at hj
      obtain ⟨rfl, rfl⟩ := hj
      refine ⟨gn, cn, gs, cs, vp, hd, fun k hk => ?_⟩
      dsimp only
      rw [if_pos rfl]
      exact ⟨hF k hk, hd.lt hk⟩
  · dsimp only at ha hc
    split at ha
    · split at hc
      · omega
      · have := (h3 c k hc).2
        omega
    · split at hc
      · have := (h3 a k ha).2
        omega
      · exact h2 a c k hac ha hc
  · dsimp only at hk
    split at hk
    · have := b.size
      omega
    · have := h3 j k hk
      have := b2.size
      omega
  · have h5 := (h4 x hx).2 j k hk
    dsimp only at hf
    split at hf
    · omega
    · exact h5.2 hf
/-- One of them is turned. -/
theorem Devs.ret (h : Devs w0 w ds bs) (hi : ds[i]? = some (g, d)) {f : FuncId} {args : Array Value} {Pr : Program} {v : Value} (hc : ∀ gn cn gs cs vp, DevIs w g gn cn gs cs vp d → (∀ k, Foot g gn gs vp k → w0.heap.size ≤ k) → Calls Pr f args w (DevRet w g gn cn gs cs vp d' v)) :
    Calls Pr f args w fun e w' => e = .returned v ∧ Devs w0 w' (ds.set i (g, d')) bs := by
  obtain ⟨b, F, h1, h2, h3, h4⟩ := h
  obtain ⟨gn, cn, gs, cs, vp, hd, hF⟩ := h1 i g d hi
  refine (hc gn cn gs cs vp hd fun k hk => (h3 i k (hF k hk)).1).mono fun e w' ⟨vp', he, hd', ht, hv⟩ => ⟨he, ?_⟩
  have ht2 : Turns (F i) w w' := ht.mono fun k _ hk => hF k hk
  have hsz := ht.size
  refine ⟨ht2.below b b.size fun k hk => (h3 i k hk).1, fun j k => if j = i then Wide (F i) w w' k else F j k, fun j g' d2 hj => ?_, fun a c k hac ha hc => ?_, fun j k hk => ?_, fun x hx => ⟨ht2.bs (h4 x hx).1 fun k hk => ((h4 x hx).2 i k hk).2, fun j k hk => ⟨Nat.lt_of_lt_of_le ((h4 x hx).2 j k hk).1 hsz, fun hf => ?_⟩⟩⟩
  · rw [List.getElem?_set] at hj
    split at hj
    · rename_i e
      subst e
      split at hj
      · injection hj with hj
        injection hj with e1 e2
        subst e1 e2
        refine ⟨gn, cn, gs, cs, vp', hd', fun k hk => ?_⟩
        dsimp only
        rw [if_pos rfl]
        rcases hk with hk | hk | hk | hk
        · exact .inl (hF k (.inl hk))
        · exact .inl (hF k (.inr (.inl hk)))
        · exact .inl (hF k (.inr (.inr (.inl hk))))
        · rcases hv k hk with h | h
          · exact .inl (hF k (.inr (.inr (.inr h))))
          · exact .inr ⟨h, hd'.lt (.inr (.inr (.inr hk)))⟩
      · cases hj
    · rename_i hne
      have e : (fun k => if j = i then Wide (F i) w w' k else F j k) = F j := by
        funext k
        rw [if_neg (fun e => hne e.symm)]
      dsimp only
      rw [e]
      exact (h1 j g' d2 hj).turned ht2 fun k hk => h2 j i k (fun e => hne e.symm) hk
  · dsimp only at ha hc
    split at ha
    · rename_i ea
      rw [if_neg (fun e => hac (ea.trans e.symm))] at hc
      rcases ha with ha | ha
      · exact h2 i c k (fun e => hac (ea.trans e)) ha hc
      · have := (h3 c k hc).2
        omega
    · split at hc
      · rename_i ea ec
        rcases hc with hc | hc
        · exact h2 a i k ea ha hc
        · have := (h3 a k ha).2
          omega
      · exact h2 a c k hac ha hc
  · dsimp only at hk
    split at hk
    · rcases hk with hk | hk
      · have := h3 i k hk
        omega
      · have := b.size
        omega
    · have := h3 j k hk
      omega
  · dsimp only at hf
    split at hf
    · rcases hf with hf | hf
      · exact ((h4 x hx).2 i k hk).2 hf
      · have := ((h4 x hx).2 i k hk).1
        omega
    · exact ((h4 x hx).2 j k hk).2 hf
/-- Bytes of a later time. -/
theorem Devs.note (h : Devs w0 w ds bs) {v : Value} {l : List UInt8} (ho : OwnB w' w.heap.size 5 v l) (hb : Below w.heap.size w w') : Devs w0 w' ds ((v, l) :: bs) := by
  obtain ⟨b, F0, g1, g2, g3, g4⟩ := h
  refine ⟨below_size b hb, F0, fun i g d hi => (g1 i g d hi).turned (G := fun _ => False) (Turns.of_below _ hb) fun _ _ h => h, g2, fun i k hk => ⟨(g3 i k hk).1, Nat.lt_of_lt_of_le (g3 i k hk).2 hb.size⟩, fun x hx => ?_⟩
  rcases List.mem_cons.1 hx with rfl | hx
  · refine ⟨ho.bs, fun i k hk => ?_⟩
    have e1 := ho.rows k hk
    obtain ⟨cur, hr⟩ := own_typed ho hk
    exact ⟨hr.lt, fun hf => by have := (g3 i k hf).2; omega⟩
  · exact ⟨(g4 x hx).1.below hb, fun i k hk => ⟨Nat.lt_of_lt_of_le ((g4 x hx).2 i k hk).1 hb.size, ((g4 x hx).2 i k hk).2⟩⟩
theorem Devs.bs_ (h : Devs w0 w ds bs) (i : Nat) {v : Value} {l : List UInt8} (hi : bs[i]? = some (v, l)) : Bs w v l := by
  obtain ⟨_, F, h1, h2, h3, h4⟩ := h
  exact (h4 _ (List.mem_of_getElem? hi)).1
theorem Devs.less {x : Value × List UInt8} (h : Devs w0 w ds (x :: bs)) : Devs w0 w ds bs := by
  obtain ⟨b, F, h1, h2, h3, h4⟩ := h
  exact ⟨b, F, h1, h2, h3, fun y hy => h4 y (List.mem_cons_of_mem _ hy)⟩
theorem Devs.of1 (h : DevOf w0 w g d) : Devs w0 w [(g, d)] [] := by
  obtain ⟨b, gn, cn, gs, cs, vp, h, hF⟩ := h
  refine ⟨b, fun i k => i = 0 ∧ Foot g gn gs vp k, fun i g' d' hi => ?_, fun i j k hij hi hj => hij (hi.1.trans hj.1.symm), fun i k hk => ⟨hF k hk.2, h.lt hk.2⟩, fun x hx => nomatch hx⟩
  match i, hi with
  | 0, hi =>
    injection hi with hi
    injection hi with e1 e2
    subst e1 e2
    exact ⟨gn, cn, gs, cs, vp, h, fun k hk => ⟨rfl, hk⟩⟩
theorem Devs.of (h : Devs w0 w ds bs) (hi : ds[i]? = some (g, d)) : DevOf w0 w g d := by
  obtain ⟨b, F, h1, h2, h3, h4⟩ := h
  obtain ⟨gn, cn, gs, cs, vp, hd, hF⟩ := h1 i g d hi
  exact ⟨b, gn, cn, gs, cs, vp, hd, fun k hk => (h3 i k (hF k hk)).1⟩
theorem devWrite_s (h : Devs w0 w ds bs) (k : Nat) (hi : ds[k]? = some (g, d)) (i : Int) (vb : Value) (b : List UInt8) (hb : Bs w vb b) (hp : d.pend.length ≤ 1000000) :
    Calls Tryz.prog 19 #[.pointer (some ⟨g, 0, none⟩), .int .i64 i, vb] w fun e w' => e = .returned (.int .i64 (d.writeE i b)) ∧ Devs w0 w' (ds.set k (g, d.write i b)) bs :=
  h.ret hi fun gn cn gs cs vp hd _ => devWrite_any w g gn cn gs cs vp d hd i vb b hb hp
theorem devFuse_s (h : Devs w0 w ds bs) (k : Nat) (hi : ds[k]? = some (g, d)) (n : Int) (hn : -9223372036854775808 ≤ n ∧ n ≤ 9223372036854775807) : Calls Tryz.prog 14 #[.pointer (some ⟨g, 0, none⟩), .int .i64 n] w fun e w' => e = .returned (.tuple #[]) ∧ Devs w0 w' (ds.set k (g, d.set n)) bs :=
  h.ret hi fun gn cn gs cs vp hd _ => devFuse_any w g gn cn gs cs vp d hd n hn
theorem devSync_s (h : Devs w0 w ds bs) (k : Nat) (hi : ds[k]? = some (g, d)) : Calls Tryz.prog 36 #[.pointer (some ⟨g, 0, none⟩)] w fun e w' => e = .returned (.int .i64 d.syncE) ∧ Devs w0 w' (ds.set k (g, d.sync)) bs :=
  h.ret hi fun gn cn gs cs vp hd _ => devSync_any w g gn cn gs cs vp d hd
theorem devNew_s (h : Devs w0 w ds bs) (n : Nat) (h1 : 1 ≤ n) (h2 : n ≤ 600) :
    Calls Tryz.prog 5 #[.int .i64 (n : Int)] w fun e w' => ∃ g, e = .returned (.tuple #[.pointer (some ⟨g, 0, none⟩), .int .i64 0]) ∧ Devs w0 w' (ds ++ [(g, Dev.new n)]) bs :=
  (devNew_of w n h1 h2).mono fun e w' ⟨g, he, hd⟩ => ⟨g, he, h.more hd⟩
end
end Go.Proofs.YtpgbicbjlhkonaaGreatDoor
end
section
namespace Go.Proofs.YtpgbicbjlhkonaaGreatDoor
open Go.RowKit
set_option linter.unusedVariables false
set_option maxRecDepth 20000

theorem DevIs.types {w : World} {g gn cn gs cs : Nat} {vp : Value} {d : Dev} (h : DevIs w g gn cn gs cs vp d) {k : Nat} (hk : Foot g gn gs vp k) {t : TypeId} {c : Array Value} (hr : RowAt w k t c) : t = 65 ∨ t = 102 ∨ t = 104 := by
  rcases hk with rfl | rfl | rfl | hk
  · exact .inl (row_typed hr h.row)
  · obtain ⟨cur, h2⟩ := h.nowRow
    exact .inr (.inl (row_typed hr h2))
  · obtain ⟨cur, h2⟩ := h.sureRow
    exact .inr (.inl (row_typed hr h2))
  · obtain ⟨cur, h2⟩ := own_typed h.pend hk
    exact .inr (.inr (row_typed hr h2))
section
variable {w0 w w' : World} {g i : Nat} {d d' : Dev} {ds : List (Nat × Dev)} {bs : List (Value × List UInt8)}
theorem devCrash_s (h : Devs w0 w ds bs) (k : Nat) (hi : ds[k]? = some (g, d)) (vk : Value) (keep : List Bool) (hk : Bls w vk keep) (hF : 0 < keep.length → ∀ k, vk.ownBlock = some k → ∃ c, RowAt w k 4 c) (hp : d.pend.length ≤ 1000000) :
    Calls Tryz.prog 12 #[.pointer (some ⟨g, 0, none⟩), vk] w fun e w' => e = .returned (.tuple #[]) ∧ Devs w0 w' (ds.set k (g, d.crash keep)) bs :=
  h.ret hi fun gn cn gs cs vp hd _ => devCrash_any w g gn cn gs cs vp d hd vk keep hk (fun hl k hk2 hf => by
    obtain ⟨c, hr⟩ := hF hl k hk2
    rcases hd.types hf hr with h | h | h <;> exact absurd h (by decide)) hp
theorem devCrash_o (h : Devs w0 w ds bs) (k : Nat) (hi : ds[k]? = some (g, d)) (vk : Value) (keep : List Bool) (hk : Bls w0 vk keep) (hp : d.pend.length ≤ 1000000) :
    Calls Tryz.prog 12 #[.pointer (some ⟨g, 0, none⟩), vk] w fun e w' => e = .returned (.tuple #[]) ∧ Devs w0 w' (ds.set k (g, d.crash keep)) bs :=
  h.ret hi fun gn cn gs cs vp hd hF => devCrash_any w g gn cn gs cs vp d hd vk keep (hk.below h.below) (fun hl k hk2 hf => by have := hk.low hl k hk2; have := hF k hf; omega) hp
end
theorem all_2048 {ls : List (List UInt8)} (h : ∀ l ∈ ls, l.length = 256) (h8 : ls.length = 8) : ls.flatten.length = 2048 := by rw [dflat_length h, h8]
theorem Ops.below {w w' : World} {v : Value} {l : List OpD} (h : Ops w v l) (hb : Below w.heap.size w w') : Ops w' v l := by
  obtain ⟨A, c, hv, h1, h2, h3⟩ := h
  refine ⟨A, c, hv, h1, h2, fun hl => ?_⟩
  obtain ⟨b, off, hA, hc⟩ := h3 hl
  refine ⟨b, off, hA, fun j hj => ?_⟩
  obtain ⟨vb, vk, ho⟩ := hc j hj
  exact ⟨vb, vk, ho.below hb⟩
theorem Bs.shape2 {w : World} {v : Value} {l : List UInt8} (h : Bs w v l) : ∃ A c, v = .slice A l.length c := by
  obtain ⟨A, c, rfl, _⟩ := h
  exact ⟨A, c, rfl⟩
theorem Bs.fore2 {w : World} {A : Option Addr} {n c : Nat} {l : List UInt8} (h : Bs w (.slice A n c) l) (k : Nat) (hk : k ≤ l.length) : Bs w (.slice A k c) (l.take k) := by
  obtain ⟨A', c', hv, h1, h2, h3⟩ := h
  injection hv with e1 e2 e3
  subst e1 e2 e3
  have hl : (l.take k).length = k := List.length_take_of_le hk
  refine ⟨A, c, by rw [hl], by rw [hl]; omega, h2, fun h0 => ?_⟩
  rw [hl] at h0
  obtain ⟨b, off, hA, hc⟩ := h3 (by omega)
  refine ⟨b, off, hA, fun j hj => ?_⟩
  rw [hl] at hj
  rw [hc j (by omega)]
  simp
theorem Bls.lit2 (w : World) (e : TypeId) (a b : Bool) : Bls (w.alloc (.cells #[.bool a, .bool b] e)) (.slice (some ⟨w.heap.size, 0, none⟩) 2 2) [a, b] := by
  refine ⟨_, 2, rfl, Nat.le_refl _, by simp [maxLen], fun _ => ⟨w.heap.size, 0, rfl, fun j hj => ?_⟩⟩
  have hr := (RowAt.new w e #[.bool a, .bool b]).cell
  match j, hj with
  | 0, _ => exact hr 0
  | 1, _ => exact hr 1
theorem lit_typed (w : World) (zs : Array Value) (e : TypeId) (n m : Nat) : ∀ k, (Value.slice (some ⟨w.heap.size, 0, none⟩) n m).ownBlock = some k → ∃ c, RowAt (w.alloc (.cells zs e)) k e c := fun k hk => by
  obtain rfl : w.heap.size = k := by simpa [Value.ownBlock] using hk
  exact ⟨zs, RowAt.new w e zs⟩
theorem new_below (w : World) (o : Obj) : Below w.heap.size w (w.alloc o) := (Below.refl _ _).alloc (Nat.le_refl _) _

end Go.Proofs.YtpgbicbjlhkonaaGreatDoor
end
section
namespace Go.Proofs.YtpgbicbjlhkonaaGreatDoor
open Go.RowKit
set_option linter.unusedVariables false
set_option maxRecDepth 20000

theorem rot_int2 (x : UInt32) (n m : Nat) (hm : m + n = 32) : bits .or .u32 ((x.toNat : Int) / 2 ^ n) ((x.toNat : Int) * 2 ^ m % 4294967296) = ((rotr x n).toNat : Int) := by
  have e1 : (x.toNat : Int) * 2 ^ m % 4294967296 = ((x.toNat * 2 ^ m % 4294967296 : Nat) : Int) := by simp
  have e2 : (x.toNat : Int) / 2 ^ n = ((x.toNat / 2 ^ n : Nat) : Int) := by simp
  rw [e1, e2, u32_or_nat _ _ (div_lt32 x n) (Nat.mod_lt _ (by omega)), rotr_toNat, Nat.or_comm, show 32 - n = m by omega]

theorem turn_any (w : World) (x : UInt32) (n : Nat) (h1 : 1 ≤ n) (h2 : n ≤ 31) :
    Calls Tryz.prog 107 #[.int .u32 (x.toNat : Int), .int .i64 (n : Int)] w fun e w' => e = .returned (.int .u32 ((rotr x n).toNat : Int)) ∧ ∃ n, w' = w.drewN n := by
  have hx := x.toNat_lt
  obtain ⟨m, hm⟩ : ∃ m, m + n = 32 := ⟨32 - n, by omega⟩
  have hs2 : IntKind.i64.wrap (32 - (n : Int)) = (m : Int) := by rw [IntWalk.i64_in _ (by omega)]; omega
  have hle : (n : Int) ≤ 32 := by omega
  go_enter Tryz.func107, Tryz.ntmps107
  go_wp2
  go_quiet (fail)
  go_wp2
  go_ret
  exact ⟨ret_int (rot_int2 x n m hm), _, rfl⟩

/-- Four bytes as a word, the highest one first. -/
def word4 (a b c d : UInt8) : UInt32 := UInt32.ofNat (((a.toNat * 256 + b.toNat) * 256 + c.toNat) * 256 + d.toNat)
theorem word4_toNat (a b c d : UInt8) : (word4 a b c d).toNat = ((a.toNat * 256 + b.toNat) * 256 + c.toNat) * 256 + d.toNat := by
  have := a.toNat_lt
  have := b.toNat_lt
  have := c.toNat_lt
  have := d.toNat_lt
  exact UInt32.toNat_ofNat_of_lt' (by show _ < 4294967296; omega)
theorem or_sum (x y n : Nat) (hy : y < 2 ^ n) : x * 2 ^ n ||| y = x * 2 ^ n + y := by
  rw [Nat.mul_comm, Nat.two_pow_add_eq_or_of_lt hy]
theorem word4_or (a b c d : UInt8) : ((a.toNat * 16777216 ||| b.toNat * 65536) ||| c.toNat * 256) ||| d.toNat = (word4 a b c d).toNat := by
  have := a.toNat_lt
  have := b.toNat_lt
  have := c.toNat_lt
  have := d.toNat_lt
  rw [word4_toNat, show a.toNat * 16777216 = a.toNat * 2 ^ 24 by omega, or_sum _ _ _ (by omega), show a.toNat * 2 ^ 24 + b.toNat * 65536 = (a.toNat * 256 + b.toNat) * 2 ^ 16 by omega, or_sum _ _ _ (by omega),
    show (a.toNat * 256 + b.toNat) * 2 ^ 16 + c.toNat * 256 = ((a.toNat * 256 + b.toNat) * 256 + c.toNat) * 2 ^ 8 by omega, or_sum _ _ _ (by omega)]
theorem wordOf_four (block : List UInt8) (k : Nat) (h : 4 * k + 4 ≤ block.length) :
    wordOf block k = word4 (block[4 * k]'(by omega)) (block[4 * k + 1]'(by omega)) (block[4 * k + 2]'(by omega)) (block[4 * k + 3]'(by omega)) := by
  have e : (block.drop (4 * k)).take 4 = [block[4 * k]'(by omega), block[4 * k + 1]'(by omega), block[4 * k + 2]'(by omega), block[4 * k + 3]'(by omega)] := by
    rw [List.drop_eq_getElem_cons (by omega), List.drop_eq_getElem_cons (by omega), List.drop_eq_getElem_cons (by omega), List.drop_eq_getElem_cons (by omega)]
    rfl
  rw [wordOf, e, word4]
  congr 1
  simp [ofHighB, ofLowB]
  omega
theorem Tryz.litsK : Value.agg #[.int .u32 1116352408, .int .u32 1899447441, .int .u32 3049323471, .int .u32 3921009573, .int .u32 961987163, .int .u32 1508970993, .int .u32 2453635748, .int .u32 2870763221, .int .u32 3624381080, .int .u32 310598401, .int .u32 607225278, .int .u32 1426881987, .int .u32 1925078388, .int .u32 2162078206, .int .u32 2614888103, .int .u32 3248222580, .int .u32 3835390401, .int .u32 4022224774, .int .u32 264347078, .int .u32 604807628, .int .u32 770255983, .int .u32 1249150122, .int .u32 1555081692, .int .u32 1996064986, .int .u32 2554220882, .int .u32 2821834349, .int .u32 2952996808, .int .u32 3210313671, .int .u32 3336571891, .int .u32 3584528711, .int .u32 113926993, .int .u32 338241895, .int .u32 666307205, .int .u32 773529912, .int .u32 1294757372, .int .u32 1396182291, .int .u32 1695183700, .int .u32 1986661051, .int .u32 2177026350, .int .u32 2456956037, .int .u32 2730485921, .int .u32 2820302411, .int .u32 3259730800, .int .u32 3345764771, .int .u32 3516065817, .int .u32 3600352804, .int .u32 4094571909, .int .u32 275423344, .int .u32 430227734, .int .u32 506948616, .int .u32 659060556, .int .u32 883997877, .int .u32 958139571, .int .u32 1322822218, .int .u32 1537002063, .int .u32 1747873779, .int .u32 1955562222, .int .u32 2024104815, .int .u32 2227730452, .int .u32 2361852424, .int .u32 2428436474, .int .u32 2756734187, .int .u32 3204031479, .int .u32 3329325298] = .agg (wordsC cubesW) := by kernel_rfl
theorem word4_bits (a b c d : UInt8) : bits .or .u32 (bits .or .u32 (bits .or .u32 (IntKind.u32.wrap (IntKind.u32.wrap (a.toNat : Int) * 16777216)) (IntKind.u32.wrap (IntKind.u32.wrap (b.toNat : Int) * 65536))) (IntKind.u32.wrap (IntKind.u32.wrap (c.toNat : Int) * 256))) (IntKind.u32.wrap (d.toNat : Int)) = ((word4 a b c d).toNat : Int) := by
  have ha := a.toNat_lt
  have hb := b.toNat_lt
  have hc := c.toNat_lt
  have hd := d.toNat_lt
  have e1 : IntKind.u32.wrap (IntKind.u32.wrap (a.toNat : Int) * 16777216) = ((a.toNat * 16777216 : Nat) : Int) := by simp only [IntKind.wrap_u32]; omega
  have e2 : IntKind.u32.wrap (IntKind.u32.wrap (b.toNat : Int) * 65536) = ((b.toNat * 65536 : Nat) : Int) := by simp only [IntKind.wrap_u32]; omega
  have e3 : IntKind.u32.wrap (IntKind.u32.wrap (c.toNat : Int) * 256) = ((c.toNat * 256 : Nat) : Int) := by simp only [IntKind.wrap_u32]; omega
  have e4 : IntKind.u32.wrap (d.toNat : Int) = (d.toNat : Int) := by simp only [IntKind.wrap_u32]; omega
  rw [e1, e2, e3, e4, u32_or_nat _ _ (by omega) (by omega), u32_or_nat _ _ (or_lt32 (by omega) (by omega)) (by omega), u32_or_nat _ _ (or_lt32 (or_lt32 (by omega) (by omega)) (by omega)) (by omega), word4_or]
theorem wrap32 (x : UInt32) : IntKind.u32.wrap (x.toNat : Int) = (x.toNat : Int) := by have := x.toNat_lt; rw [IntKind.wrap_u32]; omega
theorem sum5 (a b c d e : UInt32) : (((a.toNat : Int) + b.toNat + c.toNat + d.toNat) % 4294967296 + e.toNat) % 4294967296 = ((a + b + c + d + e).toNat : Int) := by
  simp only [UInt32.toNat_add]
  omega
theorem sum3 (a b c : UInt32) : ((a.toNat : Int) + b.toNat + c.toNat) % 4294967296 = ((a + b + c).toNat : Int) := by
  simp only [UInt32.toNat_add]
  omega
theorem movr8 (x : UInt32) : (x.toNat : Int) / 8 = ((movr x 3).toNat : Int) := by rw [movr_toNat]; simp
theorem movr1024 (x : UInt32) : (x.toNat : Int) / 1024 = ((movr x 10).toNat : Int) := by rw [movr_toNat]; simp
end Go.Proofs.YtpgbicbjlhkonaaGreatDoor
end
section
namespace Go.Proofs.YtpgbicbjlhkonaaGreatDoor
open Go.RowKit
set_option linter.unusedVariables false
set_option maxRecDepth 20000
set_option pp.deepTerms true
set_option pp.maxSteps 100000

set_option maxHeartbeats 4000000 in
theorem refBlock_any (w : World) (st : List UInt32) (block : List UInt8) (hs : st.length = 8) (hl : block.length = 64) :
    Calls Tryz.prog 91 #[.agg (wordsC st), keyV block] w (RetV w (.agg (wordsC (blockW st block)))) := by
  obtain ⟨fin, hfin⟩ : ∃ fin, fin = blockW st block := ⟨_, rfl⟩
  obtain ⟨ws, hws⟩ : ∃ ws, ws = wordsTo block 64 := ⟨_, rfl⟩
  obtain ⟨s0, hs0⟩ : ∃ s0, s0 = toE st := ⟨_, rfl⟩
  have hwl : ws.length = 64 := by rw [hws, wordsTo_length]
  have hfl : fin.length = 8 := by rw [hfin]; exact blockW_length _ _ hs
  rw [← hfin]
  have HF : Hid (fin = List.zipWith (· + ·) st (ofE (roundsE ws s0 64))) := by rw [hfin, hws, hs0]; rfl
  have HW := Lib.hid hwl
  have HWS := Lib.hid hws
  have HFL := Lib.hid hfl
  have HS := Lib.hid hs
  have HL := Lib.hid hl
  have HS0 := Lib.hid hs0
  clear hfin hws hwl hfl hs hl hs0
  go_enter Tryz.func91, Tryz.ntmps91
  go_wp2_with (first
    | ((with_reducible refine wpList_box_row (o := ⟨some 2, _, _, _, _, _⟩) rfl 152 (.tmp 0) rfl (wordsC st) (by with_unfolding_all rfl) ?_); intro g2 w2 n2)
    | ((with_reducible refine wpList_box_row (o := ⟨some 3, _, _, _, _, _⟩) rfl 153 (.tmp 1) rfl (keyC block) (by with_unfolding_all rfl) ?_); intro g3 w3 n3)
    | ((with_reducible refine wpList_alloc_row (o := ⟨some 4, _, _, _, _, _⟩) rfl 152 rfl (wordsC (List.replicate 8 0)) Tryz.zero8 ?_); intro g4 w4 n4)
    | ((with_reducible refine wpList_alloc_row (o := ⟨some 5, _, _, _, _, _⟩) rfl 166 rfl (wordsC (List.replicate 64 0)) Tryz.zero64 ?_); intro g5 w5 n5)
    | ((with_reducible refine wpList_store_row (o := ⟨none, _, _, _, _, _⟩) rfl 166 (.tmp 5) (.tmp 21) rfl g5 166 _ (wordsC cubesW) (by with_unfolding_all rfl) (by with_unfolding_all exact Tryz.litsK) n5.row (by rw [wordsC_size, wordsC_size, cubesW_length, List.length_replicate]) (Tryz.size64l cubesW cubesW_length) (wordsC_one _) ?_); intro w6 p6)
    | ((with_reducible refine wpList_alloc_row (o := ⟨some 6, _, _, _, _, _⟩) rfl 166 rfl (wordsC (List.replicate 64 0)) Tryz.zero64 ?_); intro g7 w7 n7))
  have e2 := n2.spot
  have e3 := n3.spot
  have e4 := n4.spot
  have e5 := n5.spot
  have e7 := n7.spot
  have z2 := n2.size
  have z3 := n3.size
  have z4 := n4.size
  have z5 := n5.size
  have z6 := p6.size
  have l5 := (laid_put n5 p6).1
  have B7 : Hid (Below w.heap.size w w7) := below_size (below_size (below_size (below_size n2.below n3.below) n4.below) l5) n7.below
  have R2 : Hid (RowAt w7 g2 152 (wordsC st)) := (((n2.row.kept n3.below).kept n4.below).kept l5).kept n7.below
  have R3 : Hid (RowAt w7 g3 153 (keyC block)) := ((n3.row.kept n4.below).kept l5).kept n7.below
  have R4 : Hid (RowAt w7 g4 152 (wordsC (List.replicate 8 0))) := (n4.row.kept l5).kept n7.below
  have R5 : Hid (RowAt w7 g5 166 (wordsC cubesW)) := p6.row.kept n7.below
  have R6 : Hid (RowAt w7 g7 166 (wordsC (partW block 0))) := n7.row
  have hg7 : w.heap.size ≤ g7 := by omega
  have hg4 : w.heap.size ≤ g4 := by omega
  have h27 : g2 ≠ g7 := by omega
  have h37 : g3 ≠ g7 := by omega
  have h47 : g4 ≠ g7 := by omega
  have h57 : g5 ≠ g7 := by omega
  clear n2 n3 n4 n5 p6 n7 l5 e2 e3 e4 e5 e7 z2 z3 z4 z5 z6
  go_loopw [7] (fun i wr => ∃ k : Nat, k ≤ 64 ∧ i = .int .i64 k ∧ RowAt wr g2 152 (wordsC st) ∧ RowAt wr g3 153 (keyC block) ∧ RowAt wr g4 152 (wordsC (List.replicate 8 0)) ∧ RowAt wr g5 166 (wordsC cubesW) ∧ RowAt wr g7 166 (wordsC (partW block k)) ∧ Below w.heap.size w wr) (fun i _ => 64 - (intOf i).toNat)
  case atStart => exact ⟨0, by omega, rfl, R2.out, R3.out, R4.out, R5.out, R6.out, B7.out⟩
  case round =>
    clear R2 R3 R4 R5 R6 B7
    obtain ⟨k, hk, rfl, hr2, hr3, hr4, hr5, hr6, hb⟩ := hrel
    have R2 := Lib.hid hr2
    have R3 := Lib.hid hr3
    have R4 := Lib.hid hr4
    have R5 := Lib.hid hr5
    have R6 := Lib.hid hr6
    have HB := Lib.hid hb
    clear hr2 hr3 hr4 hr5 hr6 hb
    by_cases hlt : k < 64
    · have hln := partW_length block k (by omega)
      have hcell := wordsC_cell R6.out k (by omega)
      have hfz := R6.out.frozen k
      generalize (partW block k).getD k 0 = old at hcell
      have hps := partW_step block k hlt
      by_cases h16 : k < 16
      · rw [if_pos h16, wordOf_four block k (by rw [HL.out]; omega)] at hps
        have c0 := bytesC_cell R3.out (4 * k) (by rw [HL.out]; omega)
        have c1 := bytesC_cell R3.out (4 * k + 1) (by rw [HL.out]; omega)
        have c2 := bytesC_cell R3.out (4 * k + 2) (by rw [HL.out]; omega)
        have c3 := bytesC_cell R3.out (4 * k + 3) (by rw [HL.out]; omega)
        generalize block[4 * k]'(by rw [HL.out]; omega) = b0 at c0 hps
        generalize block[4 * k + 1]'(by rw [HL.out]; omega) = b1 at c1 hps
        generalize block[4 * k + 2]'(by rw [HL.out]; omega) = b2 at c2 hps
        generalize block[4 * k + 3]'(by rw [HL.out]; omega) = b3 at c3 hps
        have hput := R6.out.put k (.int .u32 ((word4 b0 b1 b2 b3).toNat : Int))
        rw [wordsC_put, hps] at hput
        have HP := Lib.hid hput
        have y0 := b0.toNat_lt
        have y1 := b1.toNat_lt
        have y2 := b2.toNat_lt
        have y3 := b3.toNat_lt
        have q0 : (4 * (k : Int)) < 64 := by omega
        have q1 : (4 * (k : Int) + 1) < 64 := by omega
        have q2 : (4 * (k : Int) + 2) < 64 := by omega
        have q3 : (4 * (k : Int) + 3) < 64 := by omega
        have m0 : (4 * (k : Int)).toNat = 4 * k := by omega
        have m1 : (4 * (k : Int) + 1).toNat = 4 * k + 1 := by omega
        have m2 : (4 * (k : Int) + 2).toNat = 4 * k + 2 := by omega
        have m3 : (4 * (k : Int) + 3).toNat = 4 * k + 3 := by omega
        have v0 : (0 : Int) ≤ 4 * (k : Int) := by omega
        have v1 : (0 : Int) ≤ 4 * (k : Int) + 1 := by omega
        have v2 : (0 : Int) ≤ 4 * (k : Int) + 2 := by omega
        have v3 : (0 : Int) ≤ 4 * (k : Int) + 3 := by omega
        have t0 : IntKind.i64.wrap (4 * (k : Int)) = 4 * (k : Int) := IntWalk.i64_in _ (by omega)
        have t1 : IntKind.i64.wrap (4 * (k : Int) + 1) = 4 * (k : Int) + 1 := IntWalk.i64_in _ (by omega)
        have t2 : IntKind.i64.wrap (4 * (k : Int) + 2) = 4 * (k : Int) + 2 := IntWalk.i64_in _ (by omega)
        have t3 : IntKind.i64.wrap (4 * (k : Int) + 3) = 4 * (k : Int) + 3 := IntWalk.i64_in _ (by omega)
        have q4 : (k : Int) < 64 := by omega
        clear hput hps hln
        go_wp2_with fail
        go_still_tail 31, (by kernel_rfl)
        rw [word4_bits]
        change wpList _ _ _ _ _ wr.drew
        clear c0 c1 c2 c3 m0 m1 m2 m3 t0 t1 t2 t3 v0 v1 v2 v3
        go_wp2
        go_roundw
        case rel => exact ⟨k + 1, by omega, by go_num, (R2.out.far h27 _).drew, (R3.out.far h37 _).drew, (R4.out.far h47 _).drew, (R5.out.far h57 _).drew, HP.out.drew, (HB.out.setCell hg7 _).drew⟩
        case measure => simp [intOf]; omega
      · rw [if_neg h16] at hps
        obtain ⟨p1, hp1⟩ : ∃ p, p + 16 = k := ⟨k - 16, by omega⟩
        obtain ⟨p2, hp2⟩ : ∃ p, p + 15 = k := ⟨k - 15, by omega⟩
        obtain ⟨p3, hp3⟩ : ∃ p, p + 7 = k := ⟨k - 7, by omega⟩
        obtain ⟨p4, hp4⟩ : ∃ p, p + 2 = k := ⟨k - 2, by omega⟩
        have hs1 : IntKind.i64.wrap ((k : Int) - 16) = (p1 : Int) := by rw [IntWalk.i64_in _ (by omega)]; omega
        have hs2 : IntKind.i64.wrap ((k : Int) - 15) = (p2 : Int) := by rw [IntWalk.i64_in _ (by omega)]; omega
        have hs3 : IntKind.i64.wrap ((k : Int) - 7) = (p3 : Int) := by rw [IntWalk.i64_in _ (by omega)]; omega
        have hs4 : IntKind.i64.wrap ((k : Int) - 2) = (p4 : Int) := by rw [IntWalk.i64_in _ (by omega)]; omega
        have i2 : (k : Int) - 15 = (p2 : Int) := by omega
        have i4 : (k : Int) - 2 = (p4 : Int) := by omega
        have hc1 := wordsC_cell R6.out p1 (by omega)
        have hc2 := wordsC_cell R6.out p2 (by omega)
        have hc3 := wordsC_cell R6.out p3 (by omega)
        have hc4 := wordsC_cell R6.out p4 (by omega)
        rw [partW_get _ _ _ (by omega)] at hc1 hc2 hc3 hc4
        rw [nextW, show k - 16 = p1 by omega, show k - 15 = p2 by omega, show k - 7 = p3 by omega, show k - 2 = p4 by omega] at hps
        generalize (wordsTo block k).getD p1 0 = x1 at hc1 hps
        generalize (wordsTo block k).getD p2 0 = x2 at hc2 hps
        generalize (wordsTo block k).getD p3 0 = x3 at hc3 hps
        generalize (wordsTo block k).getD p4 0 = x4 at hc4 hps
        obtain ⟨xs, hxs⟩ : ∃ xs, xs = x1 + smallS x2 7 18 3 + x3 + smallS x4 17 19 10 := ⟨_, rfl⟩
        have HXS := Lib.hid hxs
        have hput := fun n => (R6.out.drewN n).put k (.int .u32 (xs.toNat : Int))
        simp only [wordsC_put, hxs] at hput
        rw [hps, ← hxs] at hput
        have HP := Lib.hid hput
        have hq1 : (p1 : Int) < 64 := by omega
        have hq2 : (p2 : Int) < 64 := by omega
        have hq3 : (p3 : Int) < 64 := by omega
        have hq4 : (p4 : Int) < 64 := by omega
        have hq5 : (k : Int) < 64 := by omega
        have b2 := x2.toNat_lt
        have b4 := x4.toNat_lt
        clear hxs hps hput hln hp1 hp2 hp3 hp4
        go_wp2_with fail
        clear i2 i4
        refine region_quiet_tail 29 (by kernel_rfl) (by kernel_rfl) ?_
        simp only [List.take_succ_cons, List.take_zero, List.drop_succ_cons, List.drop_zero]
        repeat (quiet_step (first
          | ((with_reducible refine Calls.quiet_of (turn_any _ x2 7 (by omega) (by omega))))
          | ((with_reducible refine Calls.quiet_of (turn_any _ x2 18 (by omega) (by omega))))
          | ((with_reducible refine Calls.quiet_of (turn_any _ x4 17 (by omega) (by omega))))
          | ((with_reducible refine Calls.quiet_of (turn_any _ x4 19 (by omega) (by omega))))))
        refine wpQuiet_nil ?_
        rintro w' ⟨nq, rfl⟩
        simp only [movr8, movr1024, wrap32, xor32, add32]
        rw [show x1 + (rotr x2 7 ^^^ rotr x2 18 ^^^ movr x2 3) + x3 + (rotr x4 17 ^^^ rotr x4 19 ^^^ movr x4 10) = xs from HXS.out.symm]
        clear hc1 hc2 hc3 hc4 hs1 hs2 hs3 hs4
        have hcell2 : (wr.drewN nq).cell? ⟨g7, k, none⟩ = some (.int .u32 (old.toNat : Int)) := hcell
        have hfz2 : (wr.drewN nq).frozen? ⟨g7, k, none⟩ = false := hfz
        go_wp2
        go_roundw
        case rel => exact ⟨k + 1, by omega, by go_num, (R2.out.drewN nq).far h27 _, (R3.out.drewN nq).far h37 _, (R4.out.drewN nq).far h47 _, (R5.out.drewN nq).far h57 _, HP.out nq, (below_drewN HB.out nq).setCell hg7 _⟩
        case measure => simp [intOf]; omega
    · have hk64 : k = 64 := by omega
      have R6b : Hid (RowAt wr g7 166 (wordsC ws)) := by
        have := R6.out
        rw [hk64, partW, Nat.sub_self, List.replicate_zero, List.append_nil, ← HWS.out] at this
        exact this
      clear R6 R3 hk64
      have E0 : Hid (st.getD 0 0 = s0.a ∧ st.getD 1 0 = s0.b ∧ st.getD 2 0 = s0.c ∧ st.getD 3 0 = s0.d ∧ st.getD 4 0 = s0.e ∧ st.getD 5 0 = s0.f ∧ st.getD 6 0 = s0.g ∧ st.getD 7 0 = s0.h) := by
        rw [HS0.out]; exact ⟨rfl, rfl, rfl, rfl, rfl, rfl, rfl, rfl⟩
      have c0 := wordsC_cell R2.out 0 (by rw [HS.out]; omega)
      have c1 := wordsC_cell R2.out 1 (by rw [HS.out]; omega)
      have c2 := wordsC_cell R2.out 2 (by rw [HS.out]; omega)
      have c3 := wordsC_cell R2.out 3 (by rw [HS.out]; omega)
      have c4 := wordsC_cell R2.out 4 (by rw [HS.out]; omega)
      have c5 := wordsC_cell R2.out 5 (by rw [HS.out]; omega)
      have c6 := wordsC_cell R2.out 6 (by rw [HS.out]; omega)
      have c7 := wordsC_cell R2.out 7 (by rw [HS.out]; omega)
      rw [E0.out.1] at c0
      rw [E0.out.2.1] at c1
      rw [E0.out.2.2.1] at c2
      rw [E0.out.2.2.2.1] at c3
      rw [E0.out.2.2.2.2.1] at c4
      rw [E0.out.2.2.2.2.2.1] at c5
      rw [E0.out.2.2.2.2.2.2.1] at c6
      rw [E0.out.2.2.2.2.2.2.2] at c7
      go_wp2
      have C0 := Lib.hid (And.intro c0 (And.intro c1 (And.intro c2 (And.intro c3 (And.intro c4 (And.intro c5 (And.intro c6 c7)))))))
      clear c0 c1 c2 c3 c4 c5 c6 c7
      rename World => w8
      go_loopw [10, 11, 12, 13, 14, 15, 16, 17, 18] (fun a b c d e f g h i wx => ∃ (k n : Nat) (s : Eight8), k ≤ 64 ∧ i = .int .i64 k ∧ s = roundsE ws s0 k ∧ a = .int .u32 (s.a.toNat : Int) ∧ b = .int .u32 (s.b.toNat : Int) ∧ c = .int .u32 (s.c.toNat : Int) ∧ d = .int .u32 (s.d.toNat : Int) ∧ e = .int .u32 (s.e.toNat : Int) ∧ f = .int .u32 (s.f.toNat : Int) ∧ g = .int .u32 (s.g.toNat : Int) ∧ h = .int .u32 (s.h.toNat : Int) ∧ wx = w8.drewN n) (fun _ _ _ _ _ _ _ _ i _ => 64 - (intOf i).toNat)
      case atStart => exact ⟨0, 0, s0, by omega, rfl, rfl, rfl, rfl, rfl, rfl, rfl, rfl, rfl, rfl, rfl⟩
      case round =>
        rename_i k0 _ _ _ _
        obtain ⟨k, n, s, hk, rfl, hs, rfl, rfl, rfl, rfl, rfl, rfl, rfl, rfl, hwx⟩ := hrel
        rename World => wx
        have HWX := Lib.hid hwx
        have HSS := Lib.hid hs
        by_cases hlt : k < 64
        · have ck : wx.cell? ⟨g5, k, none⟩ = some (.int .u32 ((cubesW.getD k 0).toNat : Int)) := by rw [hwx]; exact wordsC_cell R5.out k (by rw [cubesW_length]; exact hlt)
          have cw : wx.cell? ⟨g7, k, none⟩ = some (.int .u32 ((ws.getD k 0).toNat : Int)) := by rw [hwx]; exact wordsC_cell R6b.out k (by rw [HW.out]; exact hlt)
          have HSN : Hid (roundsE ws s0 (k + 1) = stepE s (cubesW.getD k 0) (ws.getD k 0)) := by rw [hs]; rfl
          generalize cubesW.getD k 0 = kk at ck HSN
          generalize ws.getD k 0 = ww at cw HSN
          have hq : (k : Int) < 64 := by omega
          have hea := s.a.toNat_lt
          have heb := s.e.toNat_lt
          have hne : IntKind.u32.wrap (4294967295 - (s.e.toNat : Int)) = ((4294967295 - s.e).toNat : Int) := by rw [← not32, IntKind.wrap_u32]; omega
          clear hwx hs
          go_wp2_with fail
          go_quiet (first
            | ((with_reducible refine Calls.quiet_of (turn_any _ s.e 6 (by omega) (by omega))))
            | ((with_reducible refine Calls.quiet_of (turn_any _ s.e 11 (by omega) (by omega))))
            | ((with_reducible refine Calls.quiet_of (turn_any _ s.e 25 (by omega) (by omega)))))
          obtain ⟨t1, ht1⟩ : ∃ t1, s.h + bigS s.e 6 11 25 + ((s.e &&& s.f) ^^^ ((4294967295 - s.e) &&& s.g)) + kk + ww = t1 := ⟨_, rfl⟩
          simp only [and32, xor32, sum5]
          rw [show s.h + (rotr s.e 6 ^^^ rotr s.e 11 ^^^ rotr s.e 25) + ((s.e &&& s.f) ^^^ ((4294967295 - s.e) &&& s.g)) + kk + ww = t1 from ht1]
          have HT1 := Lib.hid ht1
          clear ht1 ck cw heb hne
          go_wp2_with fail
          refine (turn_any _ s.a 2 (by omega) (by omega)).mono ?_
          intro e x h
          obtain ⟨he, m1, hx⟩ := h
          subst he hx
          go_wp2_with fail
          refine (turn_any _ s.a 13 (by omega) (by omega)).mono ?_
          intro e x h
          obtain ⟨he, m2, hx⟩ := h
          subst he hx
          go_wp2_with fail
          refine (turn_any _ s.a 22 (by omega) (by omega)).mono ?_
          intro e x h
          obtain ⟨he, m3, hx⟩ := h
          subst he hx
          go_wp2_with fail
          go_roundw
          case rel =>
            refine ⟨k + 1, n + (nq + m1 + m2 + m3), stepE s kk ww, by omega, by go_num, HSN.out.symm, ?_, rfl, rfl, rfl, ?_, rfl, rfl, rfl, by rw [HWX.out, World.drewN_drewN]⟩
            · show Value.int IntKind.u32 _ = Value.int IntKind.u32 ((tOne s kk ww + tTwo s).toNat : Int)
              rw [show tOne s kk ww = t1 from HT1.out]
              simp only [and32, xor32, tTwo, bigS, UInt32.toNat_add]
              refine congrArg (Value.int IntKind.u32) ?_
              omega
            · show Value.int IntKind.u32 _ = Value.int IntKind.u32 ((s.d + tOne s kk ww).toNat : Int)
              rw [show tOne s kk ww = t1 from HT1.out]
              simp only [UInt32.toNat_add]
              refine congrArg (Value.int IntKind.u32) ?_
              omega
          case measure => simp [intOf]; omega
        · have hk64 : k = 64 := by omega
          rw [hk64] at hs
          have HE : Hid (fin = [s0.a + s.a, s0.b + s.b, s0.c + s.c, s0.d + s.d, s0.e + s.e, s0.f + s.f, s0.g + s.g, s0.h + s.h]) := by
            show _ = _
            rw [HF.out, ← hs]
            have e8 : st = [s0.a, s0.b, s0.c, s0.d, s0.e, s0.f, s0.g, s0.h] := by
              obtain ⟨e0, e1, e2, e3, e4, e5, e6, e7⟩ := E0.out
              rw [← e0, ← e1, ← e2, ← e3, ← e4, ← e5, ← e6, ← e7]
              have h8 := HS.out
              match st, h8 with
              | [_, _, _, _, _, _, _, _], _ => rfl
            rw [e8]
            rfl
          have c0 := C0.out.1
          have c1 := C0.out.2.1
          have c2 := C0.out.2.2.1
          have c3 := C0.out.2.2.2.1
          have c4 := C0.out.2.2.2.2.1
          have c5 := C0.out.2.2.2.2.2.1
          have c6 := C0.out.2.2.2.2.2.2.1
          have c7 := C0.out.2.2.2.2.2.2.2
          have R4x : Hid (RowAt wx g4 152 (wordsC (List.replicate 8 0))) := by rw [hwx]; exact R4.out.drewN n
          have BX : Hid (Below w.heap.size w wx) := by rw [hwx]; exact below_drewN HB.out n
          have hsz : w.heap.size ≤ wx.heap.size := BX.out.size
          clear C0 hk64 hs HSS HF R2 R4 R5 R6b HB
          subst hwx
          have HV : Hid (Value.agg #[.int .u32 (((s0.a.toNat : Int) + (s.a.toNat : Int)) % 4294967296), .int .u32 (((s0.b.toNat : Int) + (s.b.toNat : Int)) % 4294967296), .int .u32 (((s0.c.toNat : Int) + (s.c.toNat : Int)) % 4294967296), .int .u32 (((s0.d.toNat : Int) + (s.d.toNat : Int)) % 4294967296), .int .u32 (((s0.e.toNat : Int) + (s.e.toNat : Int)) % 4294967296), .int .u32 (((s0.f.toNat : Int) + (s.f.toNat : Int)) % 4294967296), .int .u32 (((s0.g.toNat : Int) + (s.g.toNat : Int)) % 4294967296), .int .u32 (((s0.h.toNat : Int) + (s.h.toNat : Int)) % 4294967296)] = .agg (wordsC fin)) := by
            show _ = _
            rw [HE.out]
            simp only [add32m]
            rfl
          clear HE
          go_wp2_with ((with_reducible refine wpList_store_row (o := ⟨none, _, _, _, _, _⟩) rfl 152 (.tmp 4) (.tmp 207) rfl g4 152 _ (wordsC fin) (by with_unfolding_all rfl) (by with_unfolding_all exact HV.out) R4x.out (by rw [wordsC_size, wordsC_size, HFL.out, List.length_replicate]) (Tryz.size8l fin HFL.out) (wordsC_one fin) ?_); intro w9 p9)
          refine bodyPost_ret (results_cell_row rfl _ _ g4 152 (wordsC fin) (0, 0) (.array 8 76) rfl p9.row Tryz.underlying152 rfl (Tryz.size8l fin HFL.out)) rfl ⟨rfl, ?_⟩
          exact p9.below BX.out hsz hg4
end Go.Proofs.YtpgbicbjlhkonaaGreatDoor
end
section
namespace Go.Proofs.YtpgbicbjlhkonaaGreatDoor
open Go.RowKit
set_option linter.unusedVariables false
set_option maxRecDepth 20000



set_option maxHeartbeats 400000 in
theorem High_in (w : World) (n s : Nat) (hn : n < 18446744073709551616) (hs1 : 1 ≤ s) (hs2 : s ≤ 8) :
    Calls Tryz.prog 84 #[.int .u64 (n : Int), .int .i64 (s : Int)] w (RetBs w (lowB n s).reverse) := by
  obtain ⟨i0, hi, hz0, hz1, hz2⟩ := info_parts Tryz.infoB
  have hlen : (lowB n s).reverse.length = s := by rw [List.length_reverse, lowB_length]
  have HL := Lib.hid hlen
  clear hlen
  go_enter Tryz.func84, Tryz.ntmps84
  go_wp2_with (first
    | (go_at_call 99; refine (fits_yes _ _ (by omega) (by omega)).mono ?_; rintro e w' ⟨rfl, rfl⟩)
    | (refine wpList_make_full _ rfl (.tmp 10) (.tmp 10) 38 rfl w.heap.size 5 i0 (.int .u8 0) 1 Tryz.underlying38 hi hz0 hz1 .i64 .i64 _ _ s rfl rfl rfl rfl (by rw [hz2]; omega) (by unfold maxLen; omega) (Nat.le_refl _) ?_; intro w1 hown hgrow))
  rw [made_zeros] at hown
  have hown0 : w1.ownsRow w.heap.size 5 1 (.slice (some ⟨w.heap.size, 0, none⟩) s s) s (cellsB (partlyR (lowB n s).reverse 0)) := by
    rw [partlyR_zero, HL.out]; exact hown
  have hbel : Below w.heap.size w w1 := (Below.refl _ _).grown hgrow (Nat.le_refl _) (fun k h => by cases h)
  clear hown hgrow
  go_loopw [13] (fun i wr => ∃ k : Nat, k ≤ s ∧ i = .int .i64 k ∧ wr.ownsRow w.heap.size 5 1 (.slice (some ⟨w.heap.size, 0, none⟩) s s) s (cellsB (partlyR (lowB n s).reverse k)) ∧ Below w.heap.size w wr) (fun i _ => s - (intOf i).toNat)
  case atStart => exact ⟨0, Nat.zero_le _, rfl, hown0, hbel⟩
  case round =>
    obtain ⟨k, hk, rfl, hown, hb⟩ := hrel
    clear hown0 hbel
    by_cases hlt : k < s
    · obtain ⟨old, hcell⟩ := own_some hown (s - 1 - k) (by omega)
      have hfz := hown.frozenAt (s - 1 - k)
      have hput := own_put hown (s - 1 - k) (byteN n k)
      have hstep := partlyR_step (lowB n s).reverse k (by rw [HL.out]; omega)
      have hget : (lowB n s).reverse[(lowB n s).reverse.length - 1 - k]'(by rw [HL.out]; omega) = byteN n k := by
        rw [List.getElem_reverse]
        have e : (lowB n s).length - 1 - ((lowB n s).reverse.length - 1 - k) = k := by rw [HL.out, lowB_length]; omega
        simp only [e]
        simp [lowB]
      rw [hget, HL.out] at hstep
      rw [hstep] at hput
      have HP := Lib.hid hput
      have HG := Lib.hid hown
      have HB := Lib.hid hb
      clear hput hown hget hb hstep
      go_wp2_with (go_at_call 100; refine (byteAt_any _ n k hn (by omega)).mono ?_; rintro e w' ⟨rfl, rfl⟩)
      go_roundw
      case rel => exact ⟨k + 1, by omega, by go_num, HP.out, HB.out.setCell (by simp) _⟩
      case measure => simp [intOf]; omega
    · have hks : k = s := by omega
      subst hks
      have hown2 : wr.ownsRow w.heap.size 5 1 (.slice (some ⟨w.heap.size, 0, none⟩) k k) k (cellsB (lowB n k).reverse) := by
        have := partlyR_all (lowB n k).reverse; rw [HL.out] at this; rwa [this] at hown
      have HO := Lib.hid hown2
      have HB := Lib.hid hb
      clear hown2 hown hb
      go_wp2
      go_ret
      exact ⟨_, rfl, Bs.of_own HO.out, HB.out⟩

theorem High_out (w : World) (n : Nat) (s : Int) (h : s < 1 ∨ 8 < s) :
    Calls Tryz.prog 84 #[.int .u64 (n : Int), .int .i64 s] w (RetBs w []) := by
  go_enter Tryz.func84, Tryz.ntmps84
  go_wp2_with (go_at_call 99; refine (fits_no _ _ h).mono ?_; rintro e w' ⟨rfl, rfl⟩)
  go_ret
  exact ⟨_, rfl, Bs.nil _, Below.refl _ _⟩

theorem High_any (w : World) (n : Nat) (hn : n < 18446744073709551616) (s : Int) :
    Calls Tryz.prog 84 #[.int .u64 (n : Int), .int .i64 s] w (RetBs w (highI n s)) := by
  unfold highI
  by_cases h : s < 1 ∨ 8 < s
  · rw [lowI_out n s h]
    exact High_out w n s h
  · obtain ⟨t, rfl⟩ := Int.eq_ofNat_of_zero_le (a := s) (by omega)
    rw [lowI_in n t (by omega) (by omega)]
    exact High_in w n t hn (by omega) (by omega)

set_option maxHeartbeats 400000 in
theorem refLow_any (w : World) (n : Nat) (hn : n < 18446744073709551616) (s : Int) (hs : -9223372036854775808 ≤ s ∧ s ≤ 9223372036854775807) :
    Calls Tryz.prog 69 #[.int .u64 (n : Int), .int .i64 s] w (RetBs w (lowI n s)) := by
  obtain ⟨i0, hi, hz0, hz1, hz2⟩ := info_parts Tryz.infoB
  by_cases h8 : 8 < s
  · rw [lowI_out n s (by omega)]
    go_enter Tryz.func69, Tryz.ntmps69
    go_wp2
    go_ret
    exact ⟨_, rfl, Bs.nil _, Below.refl _ _⟩
  · have hlo : lowI n s = lowB n s.toNat := by
      by_cases h : s < 1
      · rw [lowI_out n s (by omega), show s.toNat = 0 by omega, lowB_zero]
      · unfold lowI; rw [if_pos ⟨by omega, by omega⟩]
    rw [hlo]
    clear hlo
    go_enter Tryz.func69, Tryz.ntmps69
    go_wp2
    go_loopw [0, 5, 6] (fun m v i wr => ∃ k q : Nat, k ≤ s.toNat ∧ q = n / 256 ^ k ∧ m = .int .u64 (q : Int) ∧ i = .int .i64 k ∧ OwnB wr w.heap.size 5 v (lowB n k) ∧ Below w.heap.size w wr) (fun _ _ i _ => s.toNat - (intOf i).toNat)
    case atStart => exact ⟨0, n, Nat.zero_le _, by simp, rfl, rfl, OwnB.nil _ _ _, Below.refl _ _⟩
    case round =>
      obtain ⟨k, q, hk, hq, rfl, rfl, hown, hb⟩ := hrel
      have hqn : q < 18446744073709551616 := by rw [hq]; exact Nat.lt_of_le_of_lt (Nat.div_le_self _ _) hn
      have hbi : (q : Int) % 256 = ((byteN n k).toNat : Int) := by rw [byteN_toNat, hq]; omega
      have hqd : q / 256 = n / 256 ^ (k + 1) := by rw [hq, Nat.div_div_eq_div_mul, Nat.pow_succ]
      have HQ := Lib.hid hqd
      have HB := Lib.hid hb
      have HI := Lib.hid hbi
      have HO := Lib.hid hown
      have hsz := hb.size
      clear hq hb hbi hqd hown
      by_cases hlt : (k : Int) < s
      · go_wp2_with (at_builtin; refine wpList_appB _ rfl (.tmp 15) (.tmp 19) 38 rfl w 5 Tryz.infoB Tryz.underlying38 _ _ _ [byteN n k] rfl rfl (HO.out.alloc _) (Bs.lit1 _ _ _ _ HI.out) (by rw [lowB_length]; simp; omega) (HB.out.alloc hsz _) ?_; intro v1 w1 hown1 hb1)
        go_roundw
        case rel => exact ⟨k + 1, q / 256, by omega, HQ.out, by go_num, by go_num, by rw [lowB_succ]; exact hown1, hb1⟩
        case measure => simp [intOf]; omega
      · have hks : k = s.toNat := by omega
        subst hks
        go_wp2
        go_ret
        exact ⟨_, rfl, HO.out.bs, HB.out⟩

set_option maxHeartbeats 400000 in
theorem refHigh_any (w : World) (n : Nat) (hn : n < 18446744073709551616) (s : Int) (hs : -9223372036854775808 ≤ s ∧ s ≤ 9223372036854775807) :
    Calls Tryz.prog 53 #[.int .u64 (n : Int), .int .i64 s] w (RetBs w (highI n s)) := by
  unfold highI
  have hlen := lowI_length n s
  have hc := fun w => refLow_any w n hn s hs
  generalize lowI n s = l at hlen hc ⊢
  have HC := Lib.hid hc
  clear hc
  go_enter Tryz.func53, Tryz.ntmps53
  go_wp2_with (go_at_call 69; refine (HC.out _).mono ?_; rintro e w1 ⟨_, rfl, ⟨A, c, rfl, h1, h2, h3⟩, hb0⟩)
  have HB0 := Lib.hid hb0
  unfold maxLen at h2
  clear hb0
  go_loopw [6, 7] (fun v i wr => ∃ k : Nat, k ≤ l.length ∧ i = .int .i64 ((l.length : Int) - 1 - k) ∧ OwnB wr w1.heap.size 5 v (l.reverse.take k) ∧ Below w1.heap.size w1 wr) (fun _ i _ => (intOf i + 1).toNat)
  case atStart => exact ⟨0, Nat.zero_le _, by simp, OwnB.nil _ _ _, Below.refl _ _⟩
  case round =>
    obtain ⟨k, hk, rfl, hown, hb⟩ := hrel
    have HO := Lib.hid hown
    have HB := Lib.hid hb
    have hsz := hb.size
    clear hown hb
    by_cases hlt : k < l.length
    · obtain ⟨b0, o0, rfl, hc⟩ := h3 (by omega)
      have hcell : wr.cell? ⟨b0, o0 + (l.length - 1 - k), none⟩ = some (.int .u8 ((l[l.length - 1 - k]'(by omega)).toNat : Int)) :=
        (HB.out.cell (p := ⟨b0, o0 + (l.length - 1 - k), none⟩) (World.block_lt_of_cell? w1 _ (hc (l.length - 1 - k) (by omega)))).trans (hc (l.length - 1 - k) (by omega))
      have htk : l.reverse.take (k + 1) = l.reverse.take k ++ [l[l.length - 1 - k]'(by omega)] := by
        rw [List.take_succ_eq_append_getElem (by simpa using hlt), List.getElem_reverse]
      have HT := Lib.hid htk
      clear htk hc h3
      go_wp2_with (at_builtin; refine wpList_appB _ rfl (.tmp 18) (.tmp 23) 38 rfl w1 5 Tryz.infoB Tryz.underlying38 _ _ _ [l[l.length - 1 - k]'(by omega)] rfl rfl (HO.out.alloc _) (Bs.lit1 _ _ _ _ rfl) (by simp; omega) (HB.out.alloc hsz _) ?_; intro v2 w2 hown2 hb2)
      go_roundw
      case rel => exact ⟨k + 1, by omega, by go_num, by rw [HT.out]; exact hown2, hb2⟩
      case measure => simp [intOf]; omega
    · have hks : k = l.length := by omega
      subst hks
      have HO2 : Hid (OwnB wr w1.heap.size 5 u6 l.reverse) := by
        have := HO.out; rwa [List.take_of_length_le (by simp)] at this
      go_wp2
      go_ret
      exact ⟨_, rfl, HO2.out.bs, below_size HB0.out HB.out⟩
end Go.Proofs.YtpgbicbjlhkonaaGreatDoor
end
section
namespace Go.Proofs.YtpgbicbjlhkonaaGreatDoor
open Go.RowKit
set_option linter.unusedVariables false
set_option maxRecDepth 20000

theorem Pad_neg (w : World) (n : Int) (h : n < 0) :
    Calls Tryz.prog 101 #[.int .i64 n] w (RetBs w []) := by
  have hd : decide (n < 0) = true := by simp; omega
  go_enter Tryz.func101, Tryz.ntmps101
  go_wp2
  go_ret
  exact ⟨_, rfl, Bs.nil _, Below.refl _ _⟩

theorem pad_spliced (n z m y p : Nat) (hz : (119 - n % 64) % 64 = z) (hm : m = z + 9) (hy : y = z + 1) (hp : p = 8 * n % 18446744073709551616) :
    ((List.replicate m (0 : UInt8)).set 0 128).take y ++ (lowB p 8).reverse ++ ((List.replicate m (0 : UInt8)).set 0 128).drop (y + (lowB p 8).reverse.length) = padB n := by
  subst hm hy
  rw [List.drop_of_length_le (by simp [lowB_length]), padB, hz, ← hp, show z + 9 = (z + 8) + 1 by omega, List.replicate_succ, List.set_cons_zero, List.take_succ_cons, List.take_replicate, Nat.min_eq_left (by omega)]
  simp

theorem eight_mul (n : Nat) (hn : n ≤ 9223372036854775807) : IntKind.u64.wrap (8 * IntKind.u64.wrap (n : Int)) = ((8 * n % 18446744073709551616 : Nat) : Int) := by
  rw [IntKind.wrap_u64, IntKind.wrap_u64]
  omega

set_option maxHeartbeats 1000000 in
theorem Pad_any (w : World) (n : Nat) (hn : n ≤ 9223372036854775807) :
    Calls Tryz.prog 101 #[.int .i64 (n : Int)] w (RetBs w (padB n)) := by
  obtain ⟨i0, hi, hz0, hz1, hz2⟩ := info_parts Tryz.infoB
  have hd : decide ((n : Int) < 0) = false := by simp
  obtain ⟨z, hz⟩ : ∃ z, (119 - n % 64) % 64 = z := ⟨_, rfl⟩
  have hzlt : z < 64 := by omega
  obtain ⟨m, hm⟩ : ∃ m, m = z + 9 := ⟨_, rfl⟩
  have e1 : (119 - (n : Int)) % 64 = (z : Int) := by omega
  have e2 : (119 - (n : Int) % 64) % 64 = (z : Int) := by omega
  have e3 : 1 + (z : Int) + 8 = (m : Int) := by omega
  have e4 : (z : Int) + 9 = (m : Int) := by omega
  obtain ⟨p, hp⟩ : ∃ p, p = 8 * n % 18446744073709551616 := ⟨_, rfl⟩
  have hplt : p < 18446744073709551616 := by omega
  have e5 := eight_mul n hn
  rw [← hp] at e5
  have HZ := Lib.hid hz
  have HM := Lib.hid hm
  have HP := Lib.hid hp
  have hmlt : m < 73 := by omega
  have e6 : 1 + (z : Int) ≤ (m : Int) := by omega
  clear hz hm hp
  go_enter Tryz.func101, Tryz.ntmps101
  go_wp2_with (with_reducible refine wpList_make_full (o := ⟨some 14, _, _, _, _, _⟩) _ rfl (.tmp 13) (.tmp 13) 38 rfl w.heap.size 5 i0 (.int .u8 0) 1 Tryz.underlying38 hi hz0 hz1 .i64 .i64 _ _ m (by with_unfolding_all rfl) (by with_unfolding_all rfl) (by omega) (by omega) (by rw [hz2]; omega) (by unfold maxLen; omega) (Nat.le_refl _) ?_; intro w1 hown hgrow; rw [made_zeros] at hown; have hc := own_cell hown 0 (by simp; omega); have hf := hown.frozenAt 0)
  have hB1 : Below w.heap.size w w1 := (Below.refl _ _).grown hgrow (Nat.le_refl _) (fun k e => by cases e)
  have hB2 := hB1.setCell (p := ⟨w.heap.size, 0, none⟩) (Nat.le_refl _) (.int .u8 128)
  have hrow := (own_row hown).put 0 (.int .u8 ((128 : UInt8).toNat : Int))
  rw [bytesC_put] at hrow
  change RowAt (w1.setCell ⟨w.heap.size, 0, none⟩ (.int .u8 128)) _ _ _ at hrow
  clear hown hgrow hc hf hB1
  generalize w1.setCell ⟨w.heap.size, 0, none⟩ (.int .u8 128) = w2 at hrow hB2 ⊢
  obtain ⟨y, hy⟩ : ∃ y, y = z + 1 := ⟨_, rfl⟩
  have hne : ¬ m = y := by have := HM.out; omega
  have hyl : (y : Int) ≤ (m : Int) := by have := HM.out; omega
  have e8 : IntKind.i64.wrap (1 + (z : Int)) = (y : Int) := by rw [IntWalk.i64_in _ (by omega)]; omega
  have HY := Lib.hid hy
  clear hy
  have HR := Lib.hid hrow
  have HB := Lib.hid hB2
  have hsz := hB2.size
  clear hrow hB2
  go_region_law (first
    | (go_simp; go_at_call 84; refine (High_in _ p 8 hplt (by omega) (by omega)).mono ?_; rintro e w3 ⟨_, rfl, hbs, b3⟩; have HS := Lib.hid hbs; obtain ⟨A, c, rfl, h1, h2, h3⟩ := hbs; clear h1 h2 h3)
    | (refine step_copy_splice rfl (.tmp 20) (.tmp 24) 38 38 rfl 5 Tryz.underlying38 Tryz.sizeB (some ⟨w.heap.size, y, none⟩) A (m - y) (m - y) (lowB p 8).reverse.length c rfl rfl w.heap.size y (cellsB ((List.replicate m 0).set 0 128)) 5 (HR.out.drew.kept b3) (cellsB (lowB p 8).reverse) (by rw [cellsB_length, List.length_reverse, lowB_length, HM.out, HY.out]; show 8 = min 8 _; omega) (copy_from HS.out) (by rw [cellsB_length, cellsB_length, List.length_reverse, lowB_length, List.length_set, List.length_replicate, HM.out, HY.out]; omega) (cellsB_one _) w.heap.size w (below_size HB.out.drew b3) (Nat.le_refl _) ?_; intro w4 hr4 hb4))
  have hr5 := hr4.out
  rw [splice_bytes, pad_spliced n z m y p HZ.out HM.out HY.out HP.out] at hr5
  have HR5 : Hid (RowAt w4 w.heap.size 5 (keyC (padB n))) := hr5
  clear hr5 hr4
  have HL : Hid (m = (padB n).length) := by
    show m = _
    rw [padB_length, HZ.out, HM.out]
    omega
  have HB4 := Lib.hid hb4
  clear hb4
  go_wp2
  go_ret
  refine ⟨_, rfl, ?_, HB4.out⟩
  rw [HL.out]
  exact row_bs HR5.out (by rw [← HL.out]; unfold maxLen; omega)
end Go.Proofs.YtpgbicbjlhkonaaGreatDoor
end
section
namespace Go.Proofs.YtpgbicbjlhkonaaGreatDoor
open Go.RowKit
set_option linter.unusedVariables false
set_option maxRecDepth 20000

theorem OwnB.lit {w : World} {base : Nat} (e : TypeId) (l : List UInt8) (c : Array Value) (hb : base ≤ w.heap.size) (hc : c.toList = cellsB l) (hm : l.length ≤ maxLen) : OwnB (w.alloc (.cells c e)) base e (.slice (some ⟨w.heap.size, 0, none⟩) l.length l.length) l := by
  have h := World.ownsRow_lit (base := base) (e := e) (size := 1) w c l.length hb hm (by rw [← Array.length_toList, hc, cellsB_length]; omega)
  rw [hc] at h
  exact h

def accP (k : Nat) : List UInt8 := 128 :: List.replicate k 0
theorem accP_length (k : Nat) : (accP k).length = k + 1 := by simp [accP]
theorem accP_succ (k : Nat) : accP (k + 1) = accP k ++ [0] := by simp [accP, List.replicate_succ']
theorem accP_all (n : Nat) (hn : 8 * n < 18446744073709551616) : accP ((119 - n % 64) % 64) ++ highI (8 * n) 8 = padB n := by
  rw [padB, accP, highI, show lowI (8 * n) 8 = lowB (8 * n) 8 from lowI_in _ 8 (by omega) (by omega), Nat.mod_eq_of_lt hn]

theorem refPad_neg (w : World) (n : Int) (h : n < 0) :
    Calls Tryz.prog 90 #[.int .i64 n] w (RetBs w []) := by
  have hd : decide (n < 0) = true := by simp; omega
  go_enter Tryz.func90, Tryz.ntmps90
  go_wp2
  go_ret
  exact ⟨_, rfl, Bs.nil _, Below.refl _ _⟩

set_option maxHeartbeats 1000000 in
theorem refPad_any (w : World) (n : Nat) (hn : n ≤ 200000000000000) :
    Calls Tryz.prog 90 #[.int .i64 (n : Int)] w (RetBs w (padB n)) := by
  have hd : decide ((n : Int) < 0) = false := by simp
  have HA : Hid (accP ((119 - n % 64) % 64) ++ highI (8 * n) 8 = padB n) := accP_all n (by omega)
  obtain ⟨z, hz⟩ : ∃ z, z = (119 - n % 64) % 64 := ⟨_, rfl⟩
  rw [← hz] at HA
  have hzl : z < 64 := by omega
  go_enter Tryz.func90, Tryz.ntmps90
  go_wp2
  have ho : OwnB (w.alloc (.cells #[.int .u8 128] 5)) w.heap.size 5 (.slice (some ⟨w.heap.size, 0, none⟩) 1 1) (accP 0) := OwnB.lit _ [128] _ (Nat.le_refl _) rfl (by unfold maxLen; simp)
  have hb0 : Below w.heap.size w (w.alloc (.cells #[.int .u8 128] 5)) := (Below.refl _ w).alloc (Nat.le_refl _) _
  have HO := Lib.hid ho
  have HB := Lib.hid hb0
  clear ho hb0
  go_loopw [3] (fun v wr => ∃ k : Nat, k ≤ z ∧ OwnB wr w.heap.size 5 v (accP k) ∧ Below w.heap.size w wr) (fun v _ => 100 - (match v with | .slice _ n _ => n | _ => 0))
  case atStart => exact ⟨0, by omega, HO.out, HB.out⟩
  case round =>
    clear HO HB
    obtain ⟨k, hk, hown, hb⟩ := hrel
    have HO := Lib.hid hown
    have HB := Lib.hid hb
    obtain ⟨A, c, rfl, hc1, hc2⟩ := hown.shape
    have hsz := hb.size
    have hlen := accP_length k
    obtain ⟨m, hm⟩ : ∃ m, m = (accP k).length := ⟨_, rfl⟩
    rw [← hm] at HO hc1 ⊢
    have hmk : m = k + 1 := by omega
    clear hown hb hlen
    by_cases hlt : k < z
    · have ht : (((n : Int) + (m : Int) + 8) % 64 != 0) = true := by rw [bne_iff_ne]; omega
      have hml : m ≤ 64 := by omega
      have HM := Lib.hid hm
      have HZ := Lib.hid hz
      have HMK := Lib.hid hmk
      clear hm hz hmk
      go_wp2_with (at_builtin; refine wpList_appB _ rfl (.tmp 14) (.tmp 15) 38 rfl w 5 Tryz.infoB Tryz.underlying38 _ _ (accP k) [0] rfl rfl (HO.out.alloc _) (Bs.lit1 _ _ _ _ rfl) (by rw [← HM.out]; simp; omega) (HB.out.alloc hsz _) ?_; intro v1 w1 hown1 hb1)
      go_roundw
      case rel => exact ⟨k + 1, by omega, by rw [accP_succ]; exact hown1, hb1⟩
      case measure =>
        obtain ⟨A1, c1, rfl, _, _⟩ := hown1.shape
        have := HM.out
        have := HMK.out
        simp only [List.length_append, List.length_singleton]
        omega
    · have hkz : k = z := by omega
      have ht : (((n : Int) + (m : Int) + 8) % 64 != 0) = false := by rw [bne_eq_false_iff_eq]; omega
      have e8 : IntKind.u64.wrap (n : Int) * 8 = ((8 * n : Nat) : Int) := by rw [IntKind.wrap_u64]; omega
      have e9 : (n : Int) * 8 = ((8 * n : Nat) : Int) := by omega
      have HE9 := Lib.hid e9
      rw [hkz] at HO
      have HM := Lib.hid hm
      have hml : m ≤ 64 := by omega
      have HML : Hid (m = (accP z).length) := by show _ = _; rw [← hkz]; exact hm
      clear hm hz hmk hkz e8 e9
      go_wp2_with fail
      rw [HE9.out]
      refine (refHigh_any _ (8 * n) (by omega) 8 (by omega)).mono ?_
      intro e w2 h
      obtain ⟨u, he, hu, b2⟩ := h
      subst he
      have HO2 := Lib.hid (HO.out.below b2)
      have HB2 := Lib.hid (below_size HB.out b2)
      have HU := Lib.hid hu
      have hhl : (highI (8 * n) 8).length ≤ 8 := by rw [highI, List.length_reverse]; exact lowI_length _ _
      clear b2 hu HO HB
      go_wp2_with (at_builtin; refine wpList_appB _ rfl (.tmp 17) (.tmp 21) 38 rfl w 5 Tryz.infoB Tryz.underlying38 _ _ (accP z) (highI (8 * n) 8) rfl rfl HO2.out HU.out (by rw [← HML.out]; omega) HB2.out ?_; intro v1 w3 hown1 hb1)
      go_ret
      rw [HA.out] at hown1
      exact ⟨_, rfl, hown1.bs, hb1⟩

theorem refPad_int (w : World) (n : Int) (h : n ≤ 1000000000) :
    Calls Tryz.prog 90 #[.int .i64 n] w (RetBs w (if n < 0 then [] else padB n.toNat)) := by
  by_cases h0 : n < 0
  · rw [if_pos h0]; exact refPad_neg w n h0
  · rw [if_neg h0]
    have := refPad_any w n.toNat (by omega)
    rwa [Int.toNat_of_nonneg (by omega)] at this
theorem Pad_int (w : World) (n : Int) (h : n ≤ 1000000000) :
    Calls Tryz.prog 101 #[.int .i64 n] w (RetBs w (if n < 0 then [] else padB n.toNat)) := by
  by_cases h0 : n < 0
  · rw [if_pos h0]; exact Pad_neg w n h0
  · rw [if_neg h0]
    have := Pad_any w n.toNat (by omega)
    rwa [Int.toNat_of_nonneg (by omega)] at this
end Go.Proofs.YtpgbicbjlhkonaaGreatDoor
end
