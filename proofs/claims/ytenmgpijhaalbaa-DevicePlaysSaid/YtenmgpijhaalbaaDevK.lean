/-
  The chapter's examples: 'awake' answers true. Conditions: none.
-/
import Derived.Test.YtenmgpijhaalbaaDevJ
namespace Go.Proofs.Ytenmgpijhaalbaa
open Go.RowKit
set_option linter.unusedVariables false
set_option maxRecDepth 20000

theorem DevIs.types {w : World} {g gn cn gs cs : Nat} {vp : Value} {d : Dev} (h : DevIs w g gn cn gs cs vp d) {k : Nat} (hk : Foot g gn gs vp k) {t : TypeId} {c : Array Value} (hr : RowAt w k t c) : t = 59 ∨ t = 67 ∨ t = 69 := by
  rcases hk with rfl | rfl | rfl | hk
  · exact .inl (row_typed hr h.row)
  · obtain ⟨cur, h2⟩ := h.nowRow
    exact .inr (.inl (row_typed hr h2))
  · obtain ⟨cur, h2⟩ := h.sureRow
    exact .inr (.inl (row_typed hr h2))
  · obtain ⟨cur, h2⟩ := own_typed h.pend hk
    exact .inr (.inr (row_typed hr h2))
section
variable {w0 w w' : World} {g i : Nat} {d d' : Dev} {ds : List (Nat × Dev)} {bs : List (Value × List UInt8)}
theorem devCrash_s (h : Devs w0 w ds bs) (k : Nat) (hi : ds[k]? = some (g, d)) (vk : Value) (keep : List Bool) (hk : Bls w vk keep) (hF : 0 < keep.length → ∀ k, vk.ownBlock = some k → ∃ c, RowAt w k 4 c) (hp : d.pend.length ≤ 1000000) :
    Calls Try.prog 15 #[.pointer (some ⟨g, 0, none⟩), vk] w fun e w' => e = .returned (.tuple #[]) ∧ Devs w0 w' (ds.set k (g, d.crash keep)) bs :=
  h.ret hi fun gn cn gs cs vp hd _ => devCrash_any w g gn cn gs cs vp d hd vk keep hk (fun hl k hk2 hf => by
    obtain ⟨c, hr⟩ := hF hl k hk2
    rcases hd.types hf hr with h | h | h <;> exact absurd h (by decide)) hp
theorem devCrash_o (h : Devs w0 w ds bs) (k : Nat) (hi : ds[k]? = some (g, d)) (vk : Value) (keep : List Bool) (hk : Bls w0 vk keep) (hp : d.pend.length ≤ 1000000) :
    Calls Try.prog 15 #[.pointer (some ⟨g, 0, none⟩), vk] w fun e w' => e = .returned (.tuple #[]) ∧ Devs w0 w' (ds.set k (g, d.crash keep)) bs :=
  h.ret hi fun gn cn gs cs vp hd hF => devCrash_any w g gn cn gs cs vp d hd vk keep (hk.below h.below) (fun hl k hk2 hf => by have := hk.low hl k hk2; have := hF k hf; omega) hp
theorem devAll_s (h : Devs w0 w ds bs) (k : Nat) (hi : ds[k]? = some (g, d)) (h8 : d.now.length = 8) :
    Calls Try.prog 23 #[.pointer (some ⟨g, 0, none⟩)] w fun e w' => ∃ v, e = .returned v ∧ Devs w0 w' ds ((v, d.now.flatten) :: bs) :=
  (devAll_any w0 w g d (h.of hi) h8).mono fun e w' ⟨v, he, ho, hb⟩ => ⟨v, he, h.note ho hb⟩
end
theorem all_2048 {ls : List (List UInt8)} (h : ∀ l ∈ ls, l.length = 256) (h8 : ls.length = 8) : ls.flatten.length = 2048 := by rw [flat_length h, h8]
theorem Ops.below {w w' : World} {v : Value} {l : List OpD} (h : Ops w v l) (hb : Below w.heap.size w w') : Ops w' v l := by
  obtain ⟨A, c, hv, h1, h2, h3⟩ := h
  refine ⟨A, c, hv, h1, h2, fun hl => ?_⟩
  obtain ⟨b, off, hA, hc⟩ := h3 hl
  refine ⟨b, off, hA, fun j hj => ?_⟩
  obtain ⟨vb, vk, ho⟩ := hc j hj
  exact ⟨vb, vk, ho.below hb⟩
theorem Bs.shape2 {w : World} {v : Value} {l : List UInt8} (h : Bs w v l) : ∃ A c, v = .slice A l.length c := by
  obtain ⟨A, c, rfl, _⟩ := h
  exact ⟨A, c, rfl⟩
theorem Bs.fore2 {w : World} {A : Option Addr} {n c : Nat} {l : List UInt8} (h : Bs w (.slice A n c) l) (k : Nat) (hk : k ≤ l.length) : Bs w (.slice A k c) (l.take k) := by
  obtain ⟨A', c', hv, h1, h2, h3⟩ := h
  injection hv with e1 e2 e3
  subst e1 e2 e3
  have hl : (l.take k).length = k := List.length_take_of_le hk
  refine ⟨A, c, by rw [hl], by rw [hl]; omega, h2, fun h0 => ?_⟩
  rw [hl] at h0
  obtain ⟨b, off, hA, hc⟩ := h3 (by omega)
  refine ⟨b, off, hA, fun j hj => ?_⟩
  rw [hl] at hj
  rw [hc j (by omega)]
  simp
set_option maxHeartbeats 1000000 in
theorem devTwo_any (w0 w : World) (g : Nat) (d : Dev) (h : DevOf w0 w g d) (k : Nat) (hk : k < d.now.length) (a b : UInt8) (hab : d.now[k].take 2 = [a, b]) :
    Calls Try.prog 28 #[.pointer (some ⟨g, 0, none⟩), .int .i64 (k : Int)] w (RetBs w [a, b]) := by
  have HR : Hid (∀ w1, DevOf w0 w1 g d → Calls Try.prog 25 #[.pointer (some ⟨g, 0, none⟩), .int .i64 (k : Int)] w1 fun e w' => ∃ v, e = .returned (.tuple #[v, .int .i64 (d.readE k)]) ∧ OwnB w' w1.heap.size 5 v (d.readB k) ∧ Below w1.heap.size w1 w') := fun w1 h => devRead_of h k
  have HX : Hid (d.readB k = d.now[k]) := Dev.readB_in hk
  have hlx : d.now[k].length = 256 := h.ok.now _ (List.getElem_mem hk)
  have HH := Lib.hid h
  have HAB := Lib.hid hab
  clear h hab
  generalize d.now[k] = x at HX HAB hlx
  go_enter Try.func28, Try.ntmps28
  go_wp2_with fail
  refine (HR.out w HH.out).mono ?_
  rintro e w1 ⟨v1, rfl, o1, b1⟩
  rw [HX.out] at o1
  have B1 := Lib.hid b1
  have O1 := Lib.hid o1.bs
  obtain ⟨A, c, rfl, h1, h2, _⟩ := o1.bs
  clear o1 b1
  rw [hlx] at O1 h1 ⊢
  unfold maxLen at h2
  go_wp2
  go_ret
  exact ⟨_, rfl, HAB.out ▸ O1.out.fore2 2 (by omega), B1.out⟩
theorem Bls.lit2 (w : World) (e : TypeId) (a b : Bool) : Bls (w.alloc (.cells #[.bool a, .bool b] e)) (.slice (some ⟨w.heap.size, 0, none⟩) 2 2) [a, b] := by
  refine ⟨_, 2, rfl, Nat.le_refl _, by simp [maxLen], fun _ => ⟨w.heap.size, 0, rfl, fun j hj => ?_⟩⟩
  have hr := (RowAt.new w e #[.bool a, .bool b]).cell
  match j, hj with
  | 0, _ => exact hr 0
  | 1, _ => exact hr 1
theorem lit_typed (w : World) (zs : Array Value) (e : TypeId) (n m : Nat) : ∀ k, (Value.slice (some ⟨w.heap.size, 0, none⟩) n m).ownBlock = some k → ∃ c, RowAt (w.alloc (.cells zs e)) k e c := fun k hk => by
  obtain rfl : w.heap.size = k := by simpa [Value.ownBlock] using hk
  exact ⟨zs, RowAt.new w e zs⟩
theorem new_below (w : World) (o : Obj) : Below w.heap.size w (w.alloc o) := (Below.refl _ _).alloc (Nat.le_refl _) _

set_option maxHeartbeats 4000000 in
theorem devAwake_true (w : World) : Calls Try.prog 8 #[] w (RetV w (.bool true)) := by
  go_enter Try.func8, Try.ntmps8
  go_wp2_with fail
  refine (devNew_s (Devs.start w) 2 (by omega) (by omega)).mono ?_
  rintro e w1 ⟨g1, rfl, x1⟩
  have X1 := Lib.hid x1
  clear x1
  go_wp2_with fail
  refine (devNew_s X1.out 2 (by omega) (by omega)).mono ?_
  rintro e w2 ⟨g2, rfl, x2⟩
  have X2 := Lib.hid x2
  clear x2 X1
  go_wp2_with fail
  refine (devNew_s X2.out 2 (by omega) (by omega)).mono ?_
  rintro e w3 ⟨g3, rfl, x3⟩
  have X3 : Hid (Devs w w3 [(g1, Dev.new 2), (g2, Dev.new 2), (g3, Dev.new 2)] []) := x3
  clear x3 X2
  go_wp2_with fail
  refine (devWrite_s (X3.out.kept (new_below _ _)) 0 rfl 0 _ [1, 2] (Bs.lit2 _ _ 1 2 _ _ rfl rfl) (by decide)).mono ?_
  rintro e w4 ⟨rfl, x4⟩
  have X4 := Lib.hid x4
  clear x4 X3
  go_wp2_with fail
  refine (devCrash_s X4.out 0 rfl _ [] (Bls.nil _) (fun h => absurd h (by decide)) (by decide)).mono ?_
  rintro e w5 ⟨rfl, x5⟩
  have X5 := Lib.hid x5
  clear x5 X4
  go_wp2_with fail
  refine (devWrite_s (X5.out.kept (new_below _ _)) 1 rfl 0 _ [1, 2] (Bs.lit2 _ _ 1 2 _ _ rfl rfl) (by decide)).mono ?_
  rintro e w6 ⟨rfl, x6⟩
  have X6 := Lib.hid x6
  clear x6 X5
  go_wp2_with fail
  refine (devWrite_s (X6.out.kept (new_below _ _)) 1 rfl 1 _ [3] (Bs.lit1 _ _ 3 _ rfl) (by decide)).mono ?_
  rintro e w7 ⟨rfl, x7⟩
  have X7 := Lib.hid x7
  clear x7 X6
  go_wp2_with fail
  refine (devCrash_s (X7.out.kept (new_below _ _)) 1 rfl _ [false, true] (Bls.lit2 _ _ false true) (fun _ => lit_typed _ _ _ _ _) (by decide)).mono ?_
  rintro e w8 ⟨rfl, x8⟩
  have X8 := Lib.hid x8
  clear x8 X7
  go_wp2_with fail
  refine (devFuse_s X8.out 2 rfl 1 (by omega)).mono ?_
  rintro e w9 ⟨rfl, x9⟩
  have X9 := Lib.hid x9
  clear x9 X8
  go_wp2_with fail
  refine (devWrite_s (X9.out.kept (new_below _ _)) 2 rfl 0 _ [1] (Bs.lit1 _ _ 1 _ rfl) (by decide)).mono ?_
  rintro e w10 ⟨rfl, x10⟩
  have X10 := Lib.hid x10
  clear x10 X9
  go_wp2_with fail
  refine (devWrite_s (X10.out.kept (new_below _ _)) 2 rfl 1 _ [1] (Bs.lit1 _ _ 1 _ rfl) (by decide)).mono ?_
  rintro e w11 ⟨rfl, x11⟩
  have X11 := Lib.hid x11
  clear x11 X10
  go_wp2_with fail
  have A1 := Lib.hid (X11.out.of (i := 0) rfl)
  have A2 := Lib.hid (X11.out.of (i := 1) rfl)
  have E10 : (((Dev.new 2).set 1).writeE 0 [1]) = 0 := by decide
  have E11 : ((((Dev.new 2).set 1).write 0 [1]).writeE 1 [1]) = 61 := by decide
  have T1 : Hid (∀ w', DevOf w w' g1 (((Dev.new 2).write 0 [1, 2]).crash []) → Calls Try.prog 28 #[.pointer (some ⟨g1, 0, none⟩), .int .i64 0] w' (RetBs w' [0, 0])) := fun w' h => devTwo_any w w' g1 _ h 0 (by decide) 0 0 (by rfl)
  have T2 : Hid (∀ w', DevOf w w' g2 ((((Dev.new 2).write 0 [1, 2]).write 1 [3]).crash [false, true]) → Calls Try.prog 28 #[.pointer (some ⟨g2, 0, none⟩), .int .i64 1] w' (RetBs w' [3, 0])) := fun w' h => devTwo_any w w' g2 _ h 1 (by decide) 3 0 (by rfl)
  clear X11
  refine (T1.out w11 A1.out).mono ?_
  rintro e w12 ⟨v12, rfl, s12, b12⟩
  have S12 := Lib.hid s12
  have B12 := Lib.hid b12
  have A12 := Lib.hid (A2.out.kept b12)
  clear s12 b12 A2
  go_wp2_with fail
  have b13 := new_below w12 (.cells #[.int .u8 0, .int .u8 0] 5)
  refine (same_yes _ _ _ [0, 0] (S12.out.below b13) (Bs.lit2 w12 _ 0 0 _ _ rfl rfl)).mono ?_
  rintro e w14 ⟨rfl, b14⟩
  have B14 := Lib.hid (below_size (below_size B12.out b13) b14)
  have A14 := Lib.hid ((A12.out.kept b13).kept b14)
  clear b14 A12 B12 S12
  go_wp2_with fail
  clear b13
  refine (T2.out w14 A14.out).mono ?_
  rintro e w15 ⟨v15, rfl, s15, b15⟩
  have S15 := Lib.hid s15
  have B15 := Lib.hid (below_size B14.out b15)
  clear s15 b15 A14 B14
  go_wp2_with fail
  have b16 := new_below w15 (.cells #[.int .u8 3, .int .u8 0] 5)
  refine (same_yes _ _ _ [3, 0] (S15.out.below b16) (Bs.lit2 w15 _ 3 0 _ _ rfl rfl)).mono ?_
  rintro e w17 ⟨rfl, b17⟩
  have B17 := Lib.hid (below_size (below_size (below_size A1.out.below B15.out) b16) b17)
  clear b16 b17 B15 S15 A1
  go_wp2
  go_ret
  exact ⟨rfl, B17.out⟩
end Go.Proofs.Ytenmgpijhaalbaa
