/-
  Contract of cablegramlaw01.awake: the chapter's examples hold. Conditions: none.
-/
import Derived.Test.YtemjlolpbbcclaaA
import Derived.Test.YtemjlolpbbcclaaC
import Derived.Test.YtemjlolpbbcclaaE
import Derived.Test.YtemjlolpbbcclaaG
namespace Go.Proofs.Ytemjlolpbbcclaa
open Go.RowKit
set_option linter.unusedVariables false

theorem refSame_ret (w : World) (va vb : Value) (a b : List UInt8) (ha : Bs w va a) (hb : Bs w vb b) :
    Calls Try.prog 15 #[va, vb] w (RetV w (.bool (a == b))) := (refSame w va vb a b ha hb).mono fun _ _ h => RetV.quiet h
theorem refSame_yes (w : World) (va vb : Value) (a : List UInt8) (ha : Bs w va a) (hb : Bs w vb a) :
    Calls Try.prog 15 #[va, vb] w (RetV w (.bool true)) := by
  have := refSame_ret w va vb a a ha hb
  rwa [beq_self_eq_true] at this

theorem low_ex (w : World) : Calls Try.prog 11 #[.int .u64 258, .int .i64 3] w (RetBs w [2, 1, 0]) := by
  have h : lowI 258 3 = [2, 1, 0] := by decide
  have := Low_any w 258 (by omega) 3
  rw [h] at this
  exact this
theorem high_ex (w : World) : Calls Try.prog 12 #[.int .u64 258, .int .i64 3] w (RetBs w [0, 1, 2]) := by
  have h : highI 258 3 = [0, 1, 2] := by decide
  have := High_any w 258 (by omega) 3
  rw [h] at this
  exact this
theorem hex_ex (w : World) (v : Value) (h : Bs w v [10, 255]) : Calls Try.prog 22 #[v] w (RetV w (.string ⟨#[48, 97, 102, 102]⟩)) :=
  Hex_any w v [10, 255] h (by simp)
theorem unhex_ex (w : World) : Calls Try.prog 28 #[.string ⟨#[48, 97, 102, 102]⟩] w fun e w' => ∃ v, e = .returned (.tuple #[v, .int .i64 0]) ∧ Bs w' v [10, 255] ∧ Below w.heap.size w w' := by
  have h : unhexL (ByteArray.mk #[48, 97, 102, 102]).data.toList = some [10, 255] := by decide
  have := Unhex_any w ⟨#[48, 97, 102, 102]⟩ (by decide)
  rw [h] at this
  exact this
theorem unhex_no (w : World) : Calls Try.prog 28 #[.string ⟨#[48, 97, 70]⟩] w fun e w' => ∃ v, e = .returned (.tuple #[v, .int .i64 10]) ∧ Below w.heap.size w w' := by
  have h : unhexL (ByteArray.mk #[48, 97, 70]).data.toList = none := by decide
  have := Unhex_any w ⟨#[48, 97, 70]⟩ (by decide)
  rw [h] at this
  exact this.mono fun e w' ⟨v, h1, _, h3⟩ => ⟨v, h1, h3⟩

theorem lit2 (w : World) (e : TypeId) (g : Nat) (a b : UInt8) (x y : Int) (hg : g = w.heap.size) (hx : x = (a.toNat : Int)) (hy : y = (b.toNat : Int)) : Bs (w.alloc (.cells #[.int .u8 x, .int .u8 y] e)) (.slice (some ⟨g, 0, none⟩) 2 2) [a, b] := by
  subst hg
  exact Bs.lit2 w e a b x y hx hy
theorem lit3 (w : World) (e : TypeId) (g : Nat) (a b c : UInt8) (x y z : Int) (hg : g = w.heap.size) (hx : x = (a.toNat : Int)) (hy : y = (b.toNat : Int)) (hz : z = (c.toNat : Int)) : Bs (w.alloc (.cells #[.int .u8 x, .int .u8 y, .int .u8 z] e)) (.slice (some ⟨g, 0, none⟩) 3 3) [a, b, c] := by
  subst hg hx hy hz
  exact Bs.lit w e [a, b, c] _ rfl (by simp [maxLen])
theorem xor_ex (w : World) (u v : Value) (hu : Bs w u [1, 2, 3]) (hv : Bs w v [3, 3]) : Calls Try.prog 20 #[u, v] w (RetBs w [2, 1]) :=
  Xor_any w u v [1, 2, 3] [3, 3] hu hv (by simp) (by simp)
/-- A literal, and a call behind it, leave what was there. -/
theorem past_lit {w0 w w' : World} {o : Obj} (h : Below w0.heap.size w0 w) (k : Below (w.alloc o).heap.size (w.alloc o) w') : Below w0.heap.size w0 w' :=
  below_size (h.alloc h.size o) k
theorem Bs.past_lit {w w' : World} {o : Obj} {v : Value} {l : List UInt8} (h : Bs w v l) (k : Below (w.alloc o).heap.size (w.alloc o) w') : Bs w' v l := (h.alloc o).below k

set_option maxHeartbeats 2000000 in
theorem awake_true (w : World) : Calls Try.prog 10 #[] w (RetV w (.bool true)) := by
  go_enter Try.func10, Try.ntmps10
  go_wp2_with fail
  refine (low_ex _).mono ?_
  rintro e w1 ⟨va, rfl, ha1, b1⟩
  go_wp2_with fail
  refine (high_ex _).mono ?_
  rintro e w2 ⟨vb, rfl, hb2, b2'⟩
  have ha2 := ha1.below b2'
  have b2 := below_size b1 b2'
  clear ha1 b1 b2'
  go_wp2_with fail
  refine (xor_ex _ _ _ ((lit3 _ _ _ 1 2 3 _ _ _ rfl rfl rfl rfl).alloc _) (lit2 _ _ _ 3 3 _ _ (by simp) rfl rfl)).mono ?_
  rintro e w3 ⟨vc, rfl, hc3, b3'⟩
  have ha3 := (ha2.alloc _).past_lit b3'
  have hb3 := (hb2.alloc _).past_lit b3'
  have b3 := past_lit (b2.alloc b2.size _) b3'
  clear ha2 hb2 b2 b3'
  go_wp2_with fail
  refine (hex_ex _ _ (lit2 _ _ _ 10 255 _ _ rfl rfl rfl)).mono ?_
  rintro e w4 ⟨rfl, b4'⟩
  have ha4 := ha3.past_lit b4'
  have hb4 := hb3.past_lit b4'
  have hc4 := hc3.past_lit b4'
  have b4 := past_lit b3 b4'
  clear ha3 hb3 hc3 b3 b4'
  go_wp2_with fail
  refine (unhex_ex _).mono ?_
  rintro e w5 ⟨vd, rfl, hd5, b5'⟩
  have ha5 := ha4.below b5'
  have hb5 := hb4.below b5'
  have hc5 := hc4.below b5'
  have b5 := below_size b4 b5'
  clear ha4 hb4 hc4 b4 b5'
  go_wp2_with fail
  refine (unhex_no _).mono ?_
  rintro e w6 ⟨ve, rfl, b6'⟩
  have ha6 := ha5.below b6'
  have hb6 := hb5.below b6'
  have hc6 := hc5.below b6'
  have hd6 := hd5.below b6'
  have b6 := below_size b5 b6'
  clear ha5 hb5 hc5 hd5 b5 b6'
  go_wp2_with fail
  refine (refSame_yes _ _ _ [2, 1, 0] (ha6.alloc _) (lit3 _ _ _ 2 1 0 _ _ _ rfl rfl rfl rfl)).mono ?_
  rintro e w7 ⟨rfl, b7'⟩
  have hb7 := hb6.past_lit b7'
  have hc7 := hc6.past_lit b7'
  have hd7 := hd6.past_lit b7'
  have b7 := past_lit b6 b7'
  clear ha6 hb6 hc6 hd6 b6 b7'
  go_wp2_with fail
  refine (refSame_yes _ _ _ [0, 1, 2] (hb7.alloc _) (lit3 _ _ _ 0 1 2 _ _ _ rfl rfl rfl rfl)).mono ?_
  rintro e w8 ⟨rfl, b8'⟩
  have hc8 := hc7.past_lit b8'
  have hd8 := hd7.past_lit b8'
  have b8 := past_lit b7 b8'
  clear hb7 hc7 hd7 b7 b8'
  go_wp2_with fail
  refine (refSame_yes _ _ _ [2, 1] (hc8.alloc _) (lit2 _ _ _ 2 1 _ _ rfl rfl rfl)).mono ?_
  rintro e w9 ⟨rfl, b9'⟩
  have hd9 := hd8.past_lit b9'
  have b9 := past_lit b8 b9'
  clear hc8 hd8 b8 b9'
  go_wp2_with fail
  refine (refSame_yes _ _ _ [10, 255] (hd9.alloc _) (lit2 _ _ _ 10 255 _ _ rfl rfl rfl)).mono ?_
  rintro e w10 ⟨rfl, b10'⟩
  have b10 := past_lit b9 b10'
  clear hd9 b9 b10'
  go_wp2
  go_ret
  exact ⟨rfl, b10⟩
end Go.Proofs.Ytemjlolpbbcclaa
