/-
  mac.Expand where no bytes are asked, or too many; and the chapter's examples. Conditions: the two tables hold what the program's text lays.
-/
import Derived.Test.YtdojaighchgghaaDoorMacB
import Derived.Lib.SlBytesConst
namespace Go.Proofs.YtdojaighchgghaaDoor
open Go.RowKit Go.Shelf
attribute [local go_sem] Oper.semAt_some
set_option linter.unusedVariables false
set_option maxRecDepth 20000

set_option maxHeartbeats 1000000 in
theorem expanded_zero (w : World) (p : Option Addr) (key : List UInt8) :
    Calls Tryd.prog 55 #[.pointer p, .agg (keyC key), .slice none 0 0, .int .i64 0] w fun e w' => ∃ q7 q4 q5 q6 : Nat,
      e = .returned (.func (.func 70) #[] #[.pointer (some ⟨q7, 0, none⟩), .pointer (some ⟨q4, 0, none⟩), .pointer (some ⟨q5, 0, none⟩), .pointer (some ⟨q6, 0, none⟩)]) ∧ Boxed w' q7 3 (.int .i64 0) ∧ w.heap.size ≤ q7 ∧ Below w.heap.size w w' := by
  go_enter Tryd.func55, Tryd.ntmps55
  go_wp2_with ((with_reducible refine wpList_box_row (o := ⟨some 5, _, _, _, _, _⟩) rfl 33 (.tmp 1) rfl (keyC key) (by with_unfolding_all rfl) ?_); intro g1 w1 n1)
  go_ret
  have b1 : Below w.heap.size w w1 := ((alloc_below w _).trans (n1.below.mono (alloc_below w (.cells #[.pointer p] 31)).size))
  have b2 := below_size b1 (alloc_below w1 (.cells #[.slice none 0 0] 27))
  have h2 := Boxed.new (w1.alloc (.cells #[.slice none 0 0] 27)) 3 (.int .i64 0)
  rw [World.size_alloc] at h2
  exact ⟨_, _, _, _, rfl, h2, by have := b2.size; rw [World.size_alloc] at this; omega, below_size b2 (alloc_below _ _)⟩

theorem expanded1_zero (n : Nat) (hn : 1 ≤ n) (q7 q4 q5 q6 : Nat) (w : World) (env : Boxed w q7 3 (.int .i64 0)) :
    SeqStopsK Fence.wide n Tryd.prog 70 #[.pointer (some ⟨q7, 0, none⟩), .pointer (some ⟨q4, 0, none⟩), .pointer (some ⟨q5, 0, none⟩), .pointer (some ⟨q6, 0, none⟩)]
      (fun x : Fin 0 => #[]) (KeepsAt (fun k => k = q7)) (fun ys => ys = []) (fun _ => True) 0 w := by
  intro l J Jx W hW hJ hJx hY h0
  have c0 : W.cell? ⟨q7, 0, none⟩ = some (.int .i64 0) := (hW.cell (p := ⟨q7, 0, none⟩) env.lt).trans env.cell
  have H0 := Lib.hid h0
  clear env hW hJ hJx hY h0
  refine callsIn_of_wp Tryd.func70 rfl trivial ?_ rfl
  simp only [Tryd.ntmps70, List.size_toArray, List.length_cons, List.length_nil, Nat.reduceAdd, Nat.reduceSub, Array.replicate_succ, Array.replicate_zero, List.push_toArray, List.append_toArray, List.nil_append, List.cons_append]
  gi_wp2
  gi_loopw [10] (fun i wr => i = .int .i64 0 ∧ J [] wr) (fun i _ => 0)
  case atStart => exact ⟨rfl, H0.out⟩
  case round =>
    clear c0
    obtain ⟨rfl, hj⟩ := hrel
    have HJ := Lib.hid hj
    clear hj
    gi_wp2
    go_end0
    exact ⟨⟨_, rfl⟩, .inl ⟨_, rfl, HJ.out⟩⟩

set_option maxHeartbeats 1000000 in
theorem Expand_many (w : World) (p : Option Addr) (key : List UInt8) :
    Calls Tryd.prog 34 #[.pointer p, .agg (keyC key), .slice none 0 0, .int .i64 8161] w (RetV w (.tuple #[.slice none 0 0, .int .i64 1])) := by
  go_enter Tryd.func34, Tryd.ntmps34
  go_wp2_with ((with_reducible refine wpList_box_row (o := ⟨some 5, _, _, _, _, _⟩) rfl 33 (.tmp 1) rfl (keyC key) (by with_unfolding_all rfl) ?_); intro g1 w1 n1)
  go_ret2
  exact ⟨rfl, below_size n1.below (alloc_below _ _)⟩

set_option maxHeartbeats 2000000 in
theorem Expand_zero (w : World) (p : Option Addr) (key : List UInt8) (hk : key.length = 32) :
    Calls Tryd.prog 34 #[.pointer p, .agg (keyC key), .slice none 0 0, .int .i64 0] w fun e w' => ∃ A c, e = .returned (.tuple #[.slice A 0 c, .int .i64 0]) ∧ Below w.heap.size w w' := by
  refine (callsIn_wide (n := 3)).1 ?_
  refine callsIn_of_wp_marks Tryd.func34 rfl trivial ?_ rfl
  simp only [Tryd.ntmps34, List.size_toArray, List.length_cons, List.length_nil, Nat.reduceAdd, Nat.reduceSub, Array.replicate_succ, Array.replicate_zero, List.push_toArray, List.append_toArray, List.nil_append, List.cons_append]
  refine wpIn_wide.2 ?_
  obtain ⟨i0, hi, hz0, hz1, hz2⟩ := info_parts Tryd.infoB
  have HKL := Lib.hid hk
  clear hk
  have HI := Lib.hid hi
  have HZ0 := Lib.hid hz0
  have HZ1 := Lib.hid hz1
  have HZ2 := Lib.hid hz2
  clear hi hz0 hz1 hz2
  go_wp2_with (first
    | ((with_reducible refine wpList_box_row (o := ⟨some 5, _, _, _, _, _⟩) rfl 33 (.tmp 1) rfl (keyC key) (by with_unfolding_all rfl) ?_); intro g1 w1 n1; have hw1 := n1.below.size)
    | ((with_reducible refine wpList_make_full (o := ⟨some 19, _, _, _, _, _⟩) _ rfl (.const (.int .i64 0)) (.tmp 18) 27 rfl w.heap.size 5 i0 (.int .u8 0) 1 Tryd.underlying27 HI.out HZ0.out HZ1.out .i64 .i64 _ _ 0 (by with_unfolding_all rfl) (by with_unfolding_all rfl) (by omega) (by omega) (by rw [HZ2.out]; omega) (by unfold maxLen; omega) (by rw [World.size_alloc]; omega) ?_); intro w2 hown hgrow; clear hown; have b2 : Below w1.heap.size w1 w2 := (alloc_below w1 _).grown hgrow (alloc_below w1 _).size (fun k e => by cases e); have c7 : w2.cell? ⟨w1.heap.size, 0, none⟩ = some (.int .i64 0) := (hgrow.cell (a := ⟨w1.heap.size, 0, none⟩) ((RowAt.new w1 3 #[.int .i64 0]).cell 0) (by simp)); have R2 := Lib.hid (n1.row.kept b2); have B2 := Lib.hid (below_size n1.below b2); have hlt2 : w1.heap.size < w2.heap.size := World.block_lt_of_cell? w2 _ c7; clear hgrow b2 n1)
    | (with_reducible refine wpList_load_row (o := ⟨some 21, _, _, _, _, _⟩) rfl 33 (.tmp 5) rfl g1 (by with_unfolding_all rfl) 33 (keyC key) (0, 0) (.array 32 5) (by with_unfolding_all exact R2.out.kept (alloc_below _ _)) Tryd.underlying33 rfl (Tryd.sizeKey key HKL.out) ?_))
  refine (expanded_zero _ p key).mono ?_
  intro e w3 h
  obtain ⟨q7, q4, q5, q6, he, hbx, hq7, b3⟩ := h
  subst he
  have HBX := Lib.hid hbx
  have B3 := Lib.hid (below_size (below_size B2.out (alloc_below _ _)) b3)
  have c10 : w3.cell? ⟨w2.heap.size, 0, none⟩ = some (.slice (some ⟨w1.heap.size + 1, 0, none⟩) 0 0) := (b3.cell (p := ⟨w2.heap.size, 0, none⟩) (by simp)).trans ((RowAt.new w2 27 #[.slice (some ⟨w1.heap.size + 1, 0, none⟩) 0 0]).cell 0)
  have hl10 : w2.heap.size < w3.heap.size := World.block_lt_of_cell? w3 _ c10
  have C10 := Lib.hid c10
  clear hbx b3 c10 c7 R2
  go_wp2_with fail
  refine (wpIn_wide (n := 3)).1 ?_
  refine wpIn_rangeFunc_ownH (F := Fence.wide) rfl (by omega) (gf := 70) (lb := #[.pointer (some ⟨q7, 0, none⟩), .pointer (some ⟨q4, 0, none⟩), .pointer (some ⟨q5, 0, none⟩), .pointer (some ⟨q6, 0, none⟩)]) rfl trivial (enters_of Tryd.func70 (by kernel_rfl) rfl)
    (expanded1_zero 2 (by omega) q7 q4 q5 q6 w3 HBX.out) keepsAt_t (keepsAt_b (fun k hk => by subst hk; exact HBX.out.lt)) (Below.refl _ _) (fun x => x.elim0)
    (fun pre W => W.cell? ⟨w2.heap.size, 0, none⟩ = some (.slice (some ⟨w1.heap.size + 1, 0, none⟩) 0 0) ∧ Below w.heap.size w W)
    (fun _ _ _ => False)
    (fun s X Y row hs hg hr => by
      obtain ⟨i1, i2⟩ := hs
      have hX := World.block_lt_of_cell? X _ i1
      refine ⟨hg.cell i1 (fun e => ?_), i2.grown hg i2.size (fun k e => ?_)⟩
      · have := (hr _ e.symm).1
        simp at this
        omega
      · have := (hr k e).1
        have := B3.out.size
        omega)
    (fun _ _ _ _ _ hs _ _ => hs)
    ⟨C10.out, B3.out⟩
    (fun x a' W => False)
    (fun x a' _ X Y row hs hg hr => hs)
    ?assign ?body ?done ?stop
  case assign =>
    rintro lo pre x W K hI hK
    exact x.elim0
  case body =>
    rintro lo pre x a' W hlo hrec hI hA hlt
    exact x.elim0
  case done =>
    rintro D xs W hD rfl ⟨i1, i2⟩ hKD
    have HB5 := Lib.hid i2
    have hw3 := B3.out.size
    clear i2 C10 HBX
    go_wp2
    refine ⟨by simp, .inl ⟨_, _, rfl, run_takeDeferred hKD, ?_⟩⟩
    exact ⟨_, results_tmp2 rfl _ _ _, _, _, rfl, HB5.out.trans (belowK_b (w := w) (Nat.le_refl _) W D _ _ (by omega) hKD rfl rfl)⟩
  case stop =>
    rintro D c pre W _ _ h _
    exact h.elim

def jefeK : List UInt8 := [74, 101, 102, 101]
def jefeA : List UInt8 := [119, 104, 97, 116, 32, 100, 111, 32, 121, 97, 32, 119, 97, 110, 116, 32]
def jefeB : List UInt8 := [102, 111, 114, 32, 110, 111, 116, 104, 105, 110, 103, 63]
theorem jefe_a : ofHighB ((macB jefeK [jefeA, jefeB].flatten).take 4) = 1541194054 := by decide +kernel
theorem jefe_b : ofHighB (((macB jefeK [jefeA, jefeB].flatten).drop 28).take 4) = 1693202499 := by decide +kernel
theorem Bs.litF (w : World) (e : TypeId) (l : List UInt8) (c : Array Value) (f : Nat × Nat) (hc : c.toList = cellsB l) (hm : l.length ≤ maxLen) : Bs (w.alloc (.cells c e f)) (.slice (some ⟨w.heap.size, 0, none⟩) l.length l.length) l := by
  refine ⟨_, _, rfl, Nat.le_refl _, hm, fun _ => ⟨w.heap.size, 0, rfl, fun j hj => ?_⟩⟩
  have h := cellsB_get l j hj
  rw [← hc] at h
  rw [Nat.zero_add, cell_of_row (w.alloc (.cells c e f)) w.heap.size j c e f (heap_alloc_new w _)]
  simpa using h
theorem row4 {w : World} {g : Nat} {t : TypeId} {l : List UInt8} (h : RowAt w g t (keyC l)) (hl : l.length = 32) : Bs w (.slice (some ⟨g, 0, none⟩) 4 32) (l.take 4) := by
  have := Bs.part h 0 4 32 (by omega) (by omega) (by unfold maxLen; omega)
  rwa [List.drop_zero] at this

set_option maxHeartbeats 2000000 in
theorem macAwake_true (w : World) (hq : Tabs w) : Calls Tryd.prog 30 #[] w (RetV w (.bool true)) := by
  have HQ := Lib.hid hq
  clear hq
  obtain ⟨d, hd⟩ : ∃ d, d = macB jefeK [jefeA, jefeB].flatten := ⟨_, rfl⟩
  have LD : Hid (d.length = 32) := by show _ = _; rw [hd, macB_length]
  have F0 : Hid (∀ x v, Bs x v (d.take 4) → Calls Tryd.prog 29 #[v] x fun e w' => e = .returned (.int .u64 1541194054) ∧ w' = x) := fun x v h => by
    have := refOfHigh_any x v _ h
    rw [List.take_of_length_le (show (d.take 4).length ≤ 8 by rw [List.length_take]; omega), hd, jefe_a] at this
    exact this.mono fun _ _ h => ⟨h.1, h.2.symm⟩
  have F1 : Hid (∀ x v, Bs x v (d.drop 28) → Calls Tryd.prog 29 #[v] x fun e w' => e = .returned (.int .u64 1693202499) ∧ w' = x) := fun x v h => by
    have := refOfHigh_any x v _ h
    have e : (d.drop 28).take 8 = (d.drop 28).take 4 := by
      rw [List.take_of_length_le (by rw [List.length_drop, LD.out]; omega), List.take_of_length_le (by rw [List.length_drop, LD.out]; omega)]
    rw [e, hd, jefe_b] at this
    exact this.mono fun _ _ h => ⟨h.1, h.2.symm⟩
  have HMS : Hid (∀ w0 x g n vk b off c, Run w0 x g n x → n ≤ 100000000 → Bs x vk jefeK → Bss x (.slice (some ⟨b, off, none⟩) 2 c) [jefeA, jefeB] → b ≠ g → Calls Tryd.prog 31 #[.pointer (some ⟨g, 0, none⟩), vk, .slice (some ⟨b, off, none⟩) 2 c] x fun e w' => ∃ n', n' ≤ n + 3 ∧ e = .returned (.agg (keyC d)) ∧ Run w0 x g n' w') := fun w0 x g n vk b off c hr hn hk hv hb => by
    rw [hd]
    exact macSum_any w0 x g n vk jefeK b off c [jefeA, jefeB] hr hn hk (by simp [jefeK]) hv hb (by simp) (by simp [jefeA, jefeB]) (by simp)
  clear hd
  go_enter Tryd.func30, Tryd.ntmps30
  go_wp2_with fail
  refine (New_any _ false).mono ?_
  intro e w1 h
  obtain ⟨g, he, n1⟩ := h
  subst he
  have R1 := Lib.hid (Run.new HQ.out (Below.refl _ _) n1)
  clear n1
  have hcv1 := Go.Lib.run_convert_bytes_const (P := Tryd.prog) (w1.alloc (.cells #[.int .u8 74, .int .u8 101, .int .u8 102, .int .u8 101] 5)) 27 5 #[.int .u8 119, .int .u8 104, .int .u8 97, .int .u8 116, .int .u8 32, .int .u8 100, .int .u8 111, .int .u8 32, .int .u8 121, .int .u8 97, .int .u8 32, .int .u8 119, .int .u8 97, .int .u8 110, .int .u8 116, .int .u8 32] 16 16 Tryd.underlying27 Tryd.underlying5
  have hcv2 := Go.Lib.run_convert_bytes_const (P := Tryd.prog) ((w1.alloc (.cells #[.int .u8 74, .int .u8 101, .int .u8 102, .int .u8 101] 5)).alloc (.cells #[.int .u8 119, .int .u8 104, .int .u8 97, .int .u8 116, .int .u8 32, .int .u8 100, .int .u8 111, .int .u8 32, .int .u8 121, .int .u8 97, .int .u8 32, .int .u8 119, .int .u8 97, .int .u8 110, .int .u8 116, .int .u8 32] 5 (16, 17))) 27 5 #[.int .u8 102, .int .u8 111, .int .u8 114, .int .u8 32, .int .u8 110, .int .u8 111, .int .u8 116, .int .u8 104, .int .u8 105, .int .u8 110, .int .u8 103, .int .u8 63] 12 12 Tryd.underlying27 Tryd.underlying5
  simp only [size_alloc] at hcv1 hcv2
  have bk : Bs (w1.alloc (.cells #[.int .u8 74, .int .u8 101, .int .u8 102, .int .u8 101] 5)) (.slice (some ⟨w1.heap.size, 0, none⟩) 4 4) jefeK := Bs.lit w1 _ jefeK _ rfl (by simp [jefeK, maxLen])
  have ba : Bs ((w1.alloc (.cells #[.int .u8 74, .int .u8 101, .int .u8 102, .int .u8 101] 5)).alloc (.cells #[.int .u8 119, .int .u8 104, .int .u8 97, .int .u8 116, .int .u8 32, .int .u8 100, .int .u8 111, .int .u8 32, .int .u8 121, .int .u8 97, .int .u8 32, .int .u8 119, .int .u8 97, .int .u8 110, .int .u8 116, .int .u8 32] 5 (16, 17))) (.slice (some ⟨(w1.alloc (.cells #[.int .u8 74, .int .u8 101, .int .u8 102, .int .u8 101] 5)).heap.size, 0, none⟩) 16 16) jefeA := Bs.litF _ _ jefeA _ _ rfl (by simp [jefeA, maxLen])
  have bb : Bs (((w1.alloc (.cells #[.int .u8 74, .int .u8 101, .int .u8 102, .int .u8 101] 5)).alloc (.cells #[.int .u8 119, .int .u8 104, .int .u8 97, .int .u8 116, .int .u8 32, .int .u8 100, .int .u8 111, .int .u8 32, .int .u8 121, .int .u8 97, .int .u8 32, .int .u8 119, .int .u8 97, .int .u8 110, .int .u8 116, .int .u8 32] 5 (16, 17))).alloc (.cells #[.int .u8 102, .int .u8 111, .int .u8 114, .int .u8 32, .int .u8 110, .int .u8 111, .int .u8 116, .int .u8 104, .int .u8 105, .int .u8 110, .int .u8 103, .int .u8 63] 5 (12, 13))) (.slice (some ⟨((w1.alloc (.cells #[.int .u8 74, .int .u8 101, .int .u8 102, .int .u8 101] 5)).alloc (.cells #[.int .u8 119, .int .u8 104, .int .u8 97, .int .u8 116, .int .u8 32, .int .u8 100, .int .u8 111, .int .u8 32, .int .u8 121, .int .u8 97, .int .u8 32, .int .u8 119, .int .u8 97, .int .u8 110, .int .u8 116, .int .u8 32] 5 (16, 17))).heap.size, 0, none⟩) 12 12) jefeB := Bs.litF _ _ jefeB _ _ rfl (by simp [jefeB, maxLen])
  have bl := Bss.two _ 27 _ _ _ _ (ba.below (alloc_below _ _)) bb
  simp only [size_alloc] at bl
  have BL := Lib.hid bl
  have BK := Lib.hid (((bk.below (alloc_below _ _)).below (alloc_below _ _)).below (alloc_below _ _) : Bs (((((w1.alloc (.cells #[.int .u8 74, .int .u8 101, .int .u8 102, .int .u8 101] 5)).alloc (.cells #[.int .u8 119, .int .u8 104, .int .u8 97, .int .u8 116, .int .u8 32, .int .u8 100, .int .u8 111, .int .u8 32, .int .u8 121, .int .u8 97, .int .u8 32, .int .u8 119, .int .u8 97, .int .u8 110, .int .u8 116, .int .u8 32] 5 (16, 17))).alloc (.cells #[.int .u8 102, .int .u8 111, .int .u8 114, .int .u8 32, .int .u8 110, .int .u8 111, .int .u8 116, .int .u8 104, .int .u8 105, .int .u8 110, .int .u8 103, .int .u8 63] 5 (12, 13))).alloc (.cells #[.slice (some ⟨w1.heap.size + 1, 0, none⟩) 16 16, .slice (some ⟨w1.heap.size + 1 + 1, 0, none⟩) 12 12] 27))) _ _)
  have hgl := R1.out.glt
  clear bk ba bb bl
  go_wp2_with fail
  refine (HMS.out w _ g 0 _ _ _ _ (by exact ((((R1.out.kept (alloc_below _ _)).kept (alloc_below _ _)).kept (alloc_below _ _)).kept (alloc_below _ _)).self) (by omega) (by exact BK.out) (by exact BL.out) (by omega)).mono ?_
  intro e w2 h
  obtain ⟨na, hna, he, r2⟩ := h
  subst he
  have B2 := Lib.hid r2.below
  clear r2 R1 BL BK HMS hcv1 hcv2
  go_wp2_with (first
    | ((with_reducible refine wpList_alloc_row (o := ⟨some 2, _, _, _, _, _⟩) rfl 33 rfl (keyC zeroKey) Tryd.zeroK ?_); intro g3 w3 n3)
    | ((with_reducible refine wpList_store_row (o := ⟨none, _, _, _, _, _⟩) rfl 33 (.tmp 2) (.tmp 15) rfl g3 33 _ (keyC d) (by with_unfolding_all rfl) (by with_unfolding_all rfl) n3.row (keyC_same zeroKey_length LD.out) (Tryd.sizeKey d LD.out) (keyC_one d) ?_); intro w4 p4))
  have b4 := (laid_put n3 p4).1
  have B4 := Lib.hid (below_size B2.out b4)
  have R4 := Lib.hid p4.row
  clear n3 p4 b4 B2
  rw [zeroKeyLit]
  refine (Expand_many _ _ zeroKey).mono ?_
  intro e w5 h
  obtain ⟨he, b5⟩ := h
  subst he
  have B5 := Lib.hid (below_size B4.out b5)
  have R5 := Lib.hid (R4.out.kept b5)
  clear b5 B4 R4
  go_wp2_with fail
  rw [zeroKeyLit]
  refine (Expand_zero _ _ zeroKey zeroKey_length).mono ?_
  intro e w6 h
  obtain ⟨A, c, he, b6⟩ := h
  subst he
  have B6 := Lib.hid (below_size B5.out b6)
  have R6 := Lib.hid (R5.out.kept b6)
  clear b6 B5 R5
  have hsl := fun x : World => run_sliceArrL (P := Tryd.prog) x 33 5 32 Tryd.underlying33 Tryd.sizeB g3 0 28 28 rfl (by omega)
  have hsl4 := fun x : World => run_sliceArr (P := Tryd.prog) x 33 5 32 Tryd.underlying33 Tryd.sizeB g3 0 0 4 0 4 rfl rfl (by omega) (by omega) (by omega)
  go_wp2_with fail
  refine (F0.out _ _ (row4 R6.out LD.out)).mono ?_
  intro e x h
  obtain ⟨he, hw⟩ := h
  subst he hw
  go_wp2_with fail
  refine (F1.out _ _ (row28 R6.out LD.out)).mono ?_
  intro e x h
  obtain ⟨he, hw⟩ := h
  subst he hw
  clear hsl hsl4
  go_wp2
  go_ret
  exact ⟨rfl, B6.out⟩
end Go.Proofs.YtdojaighchgghaaDoor
