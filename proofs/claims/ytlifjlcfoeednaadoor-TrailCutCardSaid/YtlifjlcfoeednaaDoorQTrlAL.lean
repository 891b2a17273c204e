/-
  Texts that belong together, merged: TrlP, TrlQ, TrlR, OpenRx, OpenW, TrlOpen, ShaOpen. Conditions: as each theorem names them.
-/
import Derived.Test.YtlifjlcfoeednaaDoorQTrlAK
import Derived.Test.YtlifjlcfoeednaaDoorQTrlAJ
import Derived.Test.YtlifjlcfoeednaaDoorQTrlAA
import Derived.OpenShut
import Derived.ChangeArms
import Derived.Deep.MidRow
import Derived.Test.YtlifjlcfoeednaaDoorQTrlAD
import Derived.SizedLaws
import Derived.Test.YtlifjlcfoeednaaDoorQTrlAH
import Derived.ProofKit
import Derived.ShutString
import Derived.ChangeOld
section
namespace Go.Proofs.YtlifjlcfoeednaaDoor
open Go.RowKit
set_option linter.unusedVariables false
set_option maxRecDepth 20000

theorem Tryd.builtPast : Tryd.prog.built 46 [] = some (pastC []) := by kernel_rfl
theorem Tryd.builtDocPast : Tryd.prog.built 50 [] = some #[.slice none 0 0] := by kernel_rfl
/-- Both pasts in memory, behind other rows of the call's own. -/
structure St (w0 : World) (A : List (Nat × TypeId × Array Value)) (gr gp : Nat) (v : Value) (Lp Ld : List (List UInt8 × Nat)) (ex : List (Nat × TypeId × Array Value)) (x : World) : Prop where
  env : Env w0 ((A ++ [(gr, 50, #[v]), (gp, 46, pastC Lp)]) ++ ex) x
  okp : TOk Lp
  okd : TOk Ld
  list : tlEx 36 v Ld ex
section
variable {w0 x y : World} {A : List (Nat × TypeId × Array Value)} {gr gp : Nat} {v : Value} {Lp Ld : List (List UInt8 × Nat)} {ex : List (Nat × TypeId × Array Value)} {t : List UInt8 × Nat} {n : Nat}
theorem at_tail0 {α : Type} (l : List α) (a b : α) : (l ++ [a, b])[l.length]? = some a := by simp
theorem at_tail1 {α : Type} (l : List α) (a b : α) : (l ++ [a, b])[l.length + 1]? = some b := by simp
theorem set_tail0 {α : Type} (l : List α) (a b c : α) : (l ++ [a, b]).set l.length c = l ++ [c, b] := by simp
theorem set_tail1 {α : Type} (l : List α) (a b c : α) : (l ++ [a, b]).set (l.length + 1) c = l ++ [a, c] := by
  rw [List.set_append_right _ _ (by omega), show l.length + 1 - l.length = 1 by omega]
  rfl
theorem St.call (h : St w0 A gr gp v Lp Ld ex x) (b : Below x.heap.size x y) : St w0 A gr gp v Lp Ld ex y := ⟨h.env.call b, h.okp, h.okd, h.list⟩
theorem St.pat (h : St w0 A gr gp v Lp Ld ex x) : ((A ++ [(gr, 50, #[v]), (gp, 46, pastC Lp)]) ++ ex)[A.length + 1]? = some (gp, 46, pastC Lp) := at_left (at_tail1 _ _ _)
theorem St.doc (h : St w0 A gr gp v Lp Ld ex x) : Doc w0 (A ++ [(gr, 50, #[v]), (gp, 46, pastC Lp)]) A.length gr v Ld ex x := ⟨h.env, h.okd, at_tail0 _ _ _, h.list⟩
theorem St.ofDoc {r : Value} {e : Ending} {M : List (List UInt8 × Nat)} (hp : TOk Lp) (h : DocAns w0 (A ++ [(gr, 50, #[v]), (gp, 46, pastC Lp)]) A.length gr r M e x) : ∃ v' ex', e = .returned r ∧ St w0 A gr gp v' Lp M ex' x := by
  obtain ⟨v', ex', he, hd⟩ := h
  refine ⟨v', ex', he, ?_, hp, hd.ok, hd.list⟩
  have h1 := hd.env
  rw [set_tail0] at h1
  exact h1
theorem St.addP (h : St w0 A gr gp v Lp Ld ex x) (ht : t.1.length = 32) (hn : t.2 < 4294967296) :
    Calls Tryd.prog 13 #[.pointer (some ⟨gp, 0, none⟩), .agg (trC t.1 t.2)] x fun e y => e = .returned (.int .i64 (addX Lp t)) ∧ St w0 A gr gp v (addL Lp t) Ld ex y :=
  (pastAdd_env w0 x _ (A.length + 1) gp h.env Lp h.okp h.pat t ht hn).mono fun e y ⟨h1, h2⟩ => ⟨h1, by rw [set_left (at_tail1 _ _ _), set_tail1] at h2; exact h2, h.okp.added t ht hn, h.okd, h.list⟩
theorem St.addD (h : St w0 A gr gp v Lp Ld ex x) (ht : t.1.length = 32) (hn : t.2 < 4294967296) :
    Calls Tryd.prog 14 #[.pointer (some ⟨gr, 0, none⟩), .agg (trC t.1 t.2)] x fun e y => ∃ v' ex', e = .returned (.int .i64 (addX Ld t)) ∧ St w0 A gr gp v' Lp (addL Ld t) ex' y :=
  (refPastAdd_env w0 x _ ex A.length gr v Ld h.doc t ht hn).mono fun e y h1 => St.ofDoc h.okp h1
theorem St.findP (h : St w0 A gr gp v Lp Ld ex x) (hn : n < 4294967296) :
    Calls Tryd.prog 15 #[.pointer (some ⟨gp, 0, none⟩), .int .u32 (n : Int)] x (RetV x (.tuple #[.agg (keyC (findT Lp n).1), .int .i64 (findT Lp n).2])) :=
  pastFind_any w0 x _ (A.length + 1) gp h.env Lp h.okp h.pat n hn
theorem St.findD (h : St w0 A gr gp v Lp Ld ex x) (hn : n < 4294967296) :
    Calls Tryd.prog 16 #[.pointer (some ⟨gr, 0, none⟩), .int .u32 (n : Int)] x (RetV x (.tuple #[.agg (keyC (findT Ld n).1), .int .i64 (findT Ld n).2])) :=
  refPastFind_any w0 x _ ex A.length gr v Ld h.doc n hn
theorem St.forgetP (h : St w0 A gr gp v Lp Ld ex x) (hn : n < 4294967296) :
    Calls Tryd.prog 17 #[.pointer (some ⟨gp, 0, none⟩), .int .u32 (n : Int)] x fun e y => e = .returned (.tuple #[]) ∧ St w0 A gr gp v (Lp.drop (goneT Lp n)) Ld ex y :=
  (pastForget_env w0 x _ (A.length + 1) gp h.env Lp h.okp h.pat n hn).mono fun e y ⟨h1, h2⟩ => ⟨h1, by rw [set_left (at_tail1 _ _ _), set_tail1] at h2; exact h2, h.okp.drop _, h.okd, h.list⟩
theorem St.forgetD (h : St w0 A gr gp v Lp Ld ex x) (hn : n < 4294967296) :
    Calls Tryd.prog 18 #[.pointer (some ⟨gr, 0, none⟩), .int .u32 (n : Int)] x fun e y => ∃ v' ex', e = .returned (.tuple #[]) ∧ St w0 A gr gp v' Lp (Ld.drop (goneT Ld n)) ex' y :=
  (refPastForget_env w0 x _ ex A.length gr v Ld h.doc n hn).mono fun e y h1 => St.ofDoc h.okp h1
theorem St.lenP (h : St w0 A gr gp v Lp Ld ex x) : Calls Tryd.prog 19 #[.pointer (some ⟨gp, 0, none⟩)] x (RetV x (.int .i64 (Lp.length : Int))) :=
  pastLen_any w0 x _ (A.length + 1) gp h.env Lp h.okp h.pat
theorem St.firstP (h : St w0 A gr gp v Lp Ld ex x) : Calls Tryd.prog 20 #[.pointer (some ⟨gp, 0, none⟩)] x (RetV x (.int .u32 (firstN Lp : Int))) :=
  pastFirst_any w0 x _ (A.length + 1) gp h.env Lp h.okp h.pat
theorem St.firstD (h : St w0 A gr gp v Lp Ld ex x) : Calls Tryd.prog 22 #[.pointer (some ⟨gr, 0, none⟩)] x (RetV x (.int .u32 (firstN Ld : Int))) :=
  refPastFirst_any w0 x _ ex A.length gr v Ld h.doc
theorem St.trailsP (h : St w0 A gr gp v Lp Ld ex x) : Calls Tryd.prog 21 #[.pointer (some ⟨gp, 0, none⟩)] x fun e y => ∃ u eu, e = .returned u ∧ tlEx 27 u Lp eu ∧ Env w0 (((A ++ [(gr, 50, #[v]), (gp, 46, pastC Lp)]) ++ ex) ++ eu) y :=
  pastTrails_env w0 x _ (A.length + 1) gp h.env Lp h.okp h.pat
theorem St.tail (h : St w0 A gr gp v Lp Ld ex x) {eu : List (Nat × TypeId × Array Value)} (h2 : Env w0 (((A ++ [(gr, 50, #[v]), (gp, 46, pastC Lp)]) ++ ex) ++ eu) y) : St w0 A gr gp v Lp Ld ex y := ⟨h2.less (List.sublist_append_left _ _), h.okp, h.okd, h.list⟩
theorem St.cell (h : St w0 A gr gp v Lp Ld ex x) : x.cell? ⟨gr, 0, none⟩ = some v := h.doc.cell
theorem St.new {g : Nat} {ty : TypeId} {cs : Array Value} (h : St w0 A gr gp v Lp Ld ex x) (n : NewRow x g ty cs y) : St w0 ((g, ty, cs) :: A) gr gp v Lp Ld ex y := ⟨h.env.new n, h.okp, h.okd, h.list⟩
theorem St.tl {r : Nat × TypeId × Array Value} (h : St w0 (r :: A) gr gp v Lp Ld ex x) : St w0 A gr gp v Lp Ld ex x := ⟨Env.tl h.env, h.okp, h.okd, h.list⟩
end
end Go.Proofs.YtlifjlcfoeednaaDoor
end
section
namespace Go.Proofs.YtlifjlcfoeednaaDoor
open Go.RowKit
set_option linter.unusedVariables false
set_option maxRecDepth 20000

/-- Two lists of bytes in rows, in a list. -/
theorem Bss.rows2 {x : World} {gl ga gb : Nat} {t ta tb : TypeId} {a b : List UInt8} (hl : RowAt x gl t #[.slice (some ⟨ga, 0, none⟩) a.length a.length, .slice (some ⟨gb, 0, none⟩) b.length b.length]) (ha : RowAt x ga ta (keyC a)) (hb : RowAt x gb tb (keyC b)) (la : a.length ≤ maxLen) (lb : b.length ≤ maxLen) : Bss x (.slice (some ⟨gl, 0, none⟩) 2 2) [a, b] := by
  refine ⟨_, 2, rfl, Nat.le_refl _, by simp [maxLen], fun _ => ⟨gl, 0, rfl, fun j hj => ?_⟩⟩
  match j, hj with
  | 0, _ => exact ⟨_, by rw [Nat.zero_add, hl.cell]; rfl, row_bs ha la⟩
  | 1, _ => exact ⟨_, by rw [Nat.zero_add, hl.cell]; rfl, row_bs hb lb⟩
set_option maxHeartbeats 4000000 in
theorem trailAwake_any (w : World) (ht : Tabs w) : Calls Tryd.prog 6 #[] w (RetV w (.bool true)) := by
  have HT := Lib.hid ht
  have E0 := Lib.hid (Env.start w)
  obtain ⟨hs, hhs⟩ : ∃ z, z = startB [1] [] := ⟨_, rfl⟩
  obtain ⟨ha, hha⟩ : ∃ z, z = nextB hs 0 [97] := ⟨_, rfl⟩
  obtain ⟨hb, hhb⟩ : ∃ z, z = nextB ha 1 [98] := ⟨_, rfl⟩
  have LS : Hid (hs.length = 32) := by show _ = _; rw [hhs]; exact startB_length _ _
  have LA : Hid (ha.length = 32) := by show _ = _; rw [hha]; exact nextB_length _ _ _
  have LB : Hid (hb.length = 32) := by show _ = _; rw [hhb]; exact nextB_length _ _ _
  have CS : Hid (∀ x rs m g u, Env w rs x → rs[m]? = some (g, 76, mC 0) → Bs x u [1] → Calls Tryd.prog 8 #[.pointer (some ⟨g, 0, none⟩), u, .slice none 0 0] x fun e y => e = .returned (.agg (trC hs 0)) ∧ Env w (rs.set m (g, 76, mC 1)) y) := fun x rs m g u h1 h2 h3 => by
    rw [hhs]
    exact start_env w x ht rs m g 0 h1 h2 (by omega) u (.slice none 0 0) [1] [] h3 (Bs.nil x) (by simp) (by simp)
  have CA : Hid (∀ x rs m g u, Env w rs x → rs[m]? = some (g, 76, mC 1) → Bs x u [97] → Calls Tryd.prog 11 #[.agg (trC hs 0), .pointer (some ⟨g, 0, none⟩), u] x fun e y => e = .returned (.agg (trC ha 1)) ∧ Env w (rs.set m (g, 76, mC 2)) y) := fun x rs m g u h1 h2 h3 => by
    rw [hha]
    exact nextT_env w x ht rs m g 1 h1 h2 (by omega) hs 0 LS.out (by omega) u [97] h3 (by simp)
  have CB : Hid (∀ x rs m g u, Env w rs x → rs[m]? = some (g, 76, mC 2) → Bs x u [98] → Calls Tryd.prog 11 #[.agg (trC ha 1), .pointer (some ⟨g, 0, none⟩), u] x fun e y => e = .returned (.agg (trC hb 2)) ∧ Env w (rs.set m (g, 76, mC 3)) y) := fun x rs m g u h1 h2 h3 => by
    rw [hhb]
    exact nextT_env w x ht rs m g 2 h1 h2 (by omega) ha 1 LA.out (by omega) u [98] h3 (by simp)
  have hall : allT (hs, 0) [[97], [98]] = (hb, 2) := by rw [hhb, hha]; rfl
  have CC : Hid (∀ x rs m g u, Env w rs x → rs[m]? = some (g, 76, mC 3) → (∀ y n', Env w (rs.set m (g, 76, mC n')) y → Bss y u [[97], [98]]) → Calls Tryd.prog 10 #[.agg (trC hs 0), .pointer (some ⟨g, 0, none⟩), u] x fun e y => e = .returned (.agg (trC hb 2)) ∧ Env w (rs.set m (g, 76, mC 5)) y) := fun x rs m g u h1 h2 h3 => by
    have h := all_env w x ht rs m g 3 h1 h2 (by omega) (hs, 0) LS.out (by show 0 < 4294967296; omega) u [[97], [98]] (by simp) (by simp) h3
    rw [hall] at h
    exact h
  have a1 : addL [] (hs, 0) = [(hs, 0)] := by simp [addL, addX]
  have a2 : addL [(hs, 0)] (ha, 1) = [(hs, 0), (ha, 1)] := by simp [addL, addX, lastN]
  have a3 : addL [(hs, 0), (ha, 1)] (hb, 2) = [(hs, 0), (ha, 1), (hb, 2)] := by simp [addL, addX, lastN]
  have o1 : TOk [(hs, 0)] := by rw [← a1]; exact TOk.nil.added _ LS.out (by show 0 < 4294967296; omega)
  have o2 : TOk [(hs, 0), (ha, 1)] := by rw [← a2]; exact o1.added _ LA.out (by show 1 < 4294967296; omega)
  have o3 : TOk [(hs, 0), (ha, 1), (hb, 2)] := by rw [← a3]; exact o2.added _ LB.out (by show 2 < 4294967296; omega)
  have o4 : TOk [(hb, 2)] := o3.drop 2
  have f1 : findT [(hs, 0), (ha, 1), (hb, 2)] 1 = (ha, 0) := by simp [findT, atN, firstN]
  have f2 : findT [(hb, 2)] 1 = (zeroKey, 62) := by simp [findT, atN, firstN]
  have g1 : goneT [(hs, 0), (ha, 1), (hb, 2)] 2 = 2 := by simp [goneT]
  have D1 : Hid (∀ x rs i b, Env w rs x → rs[i]? = some (b, 46, pastC []) → Calls Tryd.prog 13 #[.pointer (some ⟨b, 0, none⟩), .agg (trC hs 0)] x fun e y => ∃ z, e = .returned z ∧ Env w (rs.set i (b, 46, pastC [(hs, 0)])) y) := fun x rs i b h1 h2 =>
    (pastAdd_env w x rs i b h1 [] TOk.nil h2 (hs, 0) LS.out (by show 0 < 4294967296; omega)).mono fun e y ⟨q1, q2⟩ => ⟨_, q1, by rw [a1] at q2; exact q2⟩
  have D2 : Hid (∀ x rs i b, Env w rs x → rs[i]? = some (b, 46, pastC [(hs, 0)]) → Calls Tryd.prog 13 #[.pointer (some ⟨b, 0, none⟩), .agg (trC ha 1)] x fun e y => ∃ z, e = .returned z ∧ Env w (rs.set i (b, 46, pastC [(hs, 0), (ha, 1)])) y) := fun x rs i b h1 h2 =>
    (pastAdd_env w x rs i b h1 _ o1 h2 (ha, 1) LA.out (by show 1 < 4294967296; omega)).mono fun e y ⟨q1, q2⟩ => ⟨_, q1, by rw [a2] at q2; exact q2⟩
  have D3 : Hid (∀ x rs i b, Env w rs x → rs[i]? = some (b, 46, pastC [(hs, 0), (ha, 1)]) → Calls Tryd.prog 13 #[.pointer (some ⟨b, 0, none⟩), .agg (trC hb 2)] x fun e y => ∃ z, e = .returned z ∧ Env w (rs.set i (b, 46, pastC [(hs, 0), (ha, 1), (hb, 2)])) y) := fun x rs i b h1 h2 =>
    (pastAdd_env w x rs i b h1 _ o2 h2 (hb, 2) LB.out (by show 2 < 4294967296; omega)).mono fun e y ⟨q1, q2⟩ => ⟨_, q1, by rw [a3] at q2; exact q2⟩
  have D4 : Hid (∀ x rs i b, Env w rs x → rs[i]? = some (b, 46, pastC [(hs, 0), (ha, 1), (hb, 2)]) → Calls Tryd.prog 15 #[.pointer (some ⟨b, 0, none⟩), .int .u32 1] x (RetV x (.tuple #[.agg (keyC ha), .int .i64 0]))) := fun x rs i b h1 h2 => by
    have h := pastFind_any w x rs i b h1 _ o3 h2 1 (by omega)
    rw [f1] at h
    exact h
  have D5 : Hid (∀ x rs i b, Env w rs x → rs[i]? = some (b, 46, pastC [(hs, 0), (ha, 1), (hb, 2)]) → Calls Tryd.prog 17 #[.pointer (some ⟨b, 0, none⟩), .int .u32 2] x fun e y => e = .returned (.tuple #[]) ∧ Env w (rs.set i (b, 46, pastC [(hb, 2)])) y) := fun x rs i b h1 h2 =>
    (pastForget_env w x rs i b h1 _ o3 h2 2 (by omega)).mono fun e y ⟨q1, q2⟩ => ⟨q1, by rw [g1] at q2; exact q2⟩
  have D6 : Hid (∀ x rs i b, Env w rs x → rs[i]? = some (b, 46, pastC [(hb, 2)]) → Calls Tryd.prog 15 #[.pointer (some ⟨b, 0, none⟩), .int .u32 1] x (RetV x (.tuple #[.agg (keyC zeroKey), .int .i64 62]))) := fun x rs i b h1 h2 => by
    have h := pastFind_any w x rs i b h1 _ o4 h2 1 (by omega)
    rw [f2] at h
    exact h
  have D7 : Hid (∀ x rs i b, Env w rs x → rs[i]? = some (b, 46, pastC [(hb, 2)]) → Calls Tryd.prog 20 #[.pointer (some ⟨b, 0, none⟩)] x (RetV x (.int .u32 2))) := fun x rs i b h1 h2 => pastFirst_any w x rs i b h1 _ o4 h2
  clear ht hhs hha hhb hall a1 a2 a3 o1 o2 o3 o4 f1 f2 g1
  go_enter Tryd.func6, Tryd.ntmps6
  go_wp2_with fail
  refine (New_any _ false).mono ?_
  intro e w1 h
  obtain ⟨g, he, n1⟩ := h
  subst he
  have E1 : Hid (Env w [(g, 76, mC 0)] w1) := Lib.hid (E0.out.new n1)
  clear n1 E0
  go_wp2_with fail
  have E2 := Lib.hid (E1.out.call (alloc_below _ (.cells #[.int .u8 1] 5)))
  have lb := Bs.lit1 w1 5 1 1 rfl
  refine (CS.out _ _ 0 _ _ E2.out rfl lb).mono ?_
  intro e w2 h
  obtain ⟨he, h⟩ := h
  subst he
  have E3 : Hid (Env w [(g, 76, mC 1)] w2) := Lib.hid h
  clear h E2
  clear lb
  go_wp2_with (first
    | ((with_reducible refine wpE_alloc (o := ⟨some 2, _, _, _, _, _⟩) rfl 27 rfl (trC zeroKey 0) Tryd.zeroT E3.out ?_); intro g2 w3a T1; have E4 := Lib.hid T1; clear T1)
    | ((with_reducible refine wpE_store (o := ⟨none, _, _, _, _, _⟩) rfl 27 (.tmp 2) (.tmp 15) rfl 0 g2 27 (trC zeroKey 0) (trC hs 0) (by with_unfolding_all rfl) (by with_unfolding_all rfl) (by with_unfolding_all rfl) (trC_same zeroKey_length LS.out) (Tryd.sizeT _ _ LS.out) (trC_one _ _) E4.out ?_); intro w3b T1; simp only [List.set_cons_zero] at T1; have E5 := Lib.hid T1; clear T1)
    | (with_reducible refine wpE_load (o := ⟨some 16, _, _, _, _, _⟩) rfl 27 (.tmp 2) rfl 0 g2 27 (trC hs 0) _ (by with_unfolding_all rfl) (by with_unfolding_all rfl) Tryd.underlying27 rfl (Tryd.sizeT _ _ LS.out) E5.out ?_))
  have E6 := Lib.hid (E5.out.call (alloc_below _ (.cells #[.int .u8 97] 5)))
  have lb := Bs.lit1 w3b 5 97 97 rfl
  refine (CA.out _ _ 1 _ _ E6.out rfl lb).mono ?_
  intro e w4 h
  obtain ⟨he, h⟩ := h
  subst he
  have E7 : Hid (Env w [(g2, 27, trC hs 0), (g, 76, mC 2)] w4) := Lib.hid h
  clear h E6
  clear lb
  go_wp2_with (first
    | ((with_reducible refine wpE_alloc (o := ⟨some 3, _, _, _, _, _⟩) rfl 27 rfl (trC zeroKey 0) Tryd.zeroT E7.out ?_); intro g3 w5a T1; have E8 := Lib.hid T1; clear T1)
    | ((with_reducible refine wpE_store (o := ⟨none, _, _, _, _, _⟩) rfl 27 (.tmp 3) (.tmp 19) rfl 0 g3 27 (trC zeroKey 0) (trC ha 1) (by with_unfolding_all rfl) (by with_unfolding_all rfl) (by with_unfolding_all rfl) (trC_same zeroKey_length LA.out) (Tryd.sizeT _ _ LA.out) (trC_one _ _) E8.out ?_); intro w5b T1; simp only [List.set_cons_zero] at T1; have E9 := Lib.hid T1; clear T1)
    | (with_reducible refine wpE_load (o := ⟨some 20, _, _, _, _, _⟩) rfl 27 (.tmp 3) rfl 0 g3 27 (trC ha 1) _ (by with_unfolding_all rfl) (by with_unfolding_all rfl) Tryd.underlying27 rfl (Tryd.sizeT _ _ LA.out) E9.out ?_))
  have E10 := Lib.hid (E9.out.call (alloc_below _ (.cells #[.int .u8 98] 5)))
  have lb := Bs.lit1 w5b 5 98 98 rfl
  refine (CB.out _ _ 2 _ _ E10.out rfl lb).mono ?_
  intro e w6 h
  obtain ⟨he, h⟩ := h
  subst he
  have E11 : Hid (Env w [(g3, 27, trC ha 1), (g2, 27, trC hs 0), (g, 76, mC 3)] w6) := Lib.hid h
  clear h E10
  clear lb
  go_wp2_with (first
    | ((with_reducible refine wpE_alloc (o := ⟨some 4, _, _, _, _, _⟩) rfl 27 rfl (trC zeroKey 0) Tryd.zeroT E11.out ?_); intro g4 w7a T1; have E12 := Lib.hid T1; clear T1)
    | ((with_reducible refine wpE_store (o := ⟨none, _, _, _, _, _⟩) rfl 27 (.tmp 4) (.tmp 23) rfl 0 g4 27 (trC zeroKey 0) (trC hb 2) (by with_unfolding_all rfl) (by with_unfolding_all rfl) (by with_unfolding_all rfl) (trC_same zeroKey_length LB.out) (Tryd.sizeT _ _ LB.out) (trC_one _ _) E12.out ?_); intro w7b T1; simp only [List.set_cons_zero] at T1; have E13 := Lib.hid T1; clear T1)
    | (with_reducible refine wpE_load (o := ⟨some 24, _, _, _, _, _⟩) rfl 27 (.tmp 2) rfl 2 g2 27 (trC hs 0) _ (by with_unfolding_all rfl) (by with_unfolding_all rfl) Tryd.underlying27 rfl (Tryd.sizeT _ _ LS.out) E13.out ?_))
  have n1 := NewRow.mk_ w7b 5 (keyC [97])
  have F1 := E13.out.new n1
  have n2 := NewRow.mk_ (w7b.alloc (.cells #[.int .u8 97] 5)) 5 (keyC [98])
  have F2 := F1.new n2
  have n3 := NewRow.mk_ ((w7b.alloc (.cells #[.int .u8 97] 5)).alloc (.cells #[.int .u8 98] 5)) 22 #[.slice (some ⟨w7b.heap.size, 0, none⟩) 1 1, .slice (some ⟨w7b.heap.size + 1, 0, none⟩) 1 1]
  have F3 := F2.new n3
  simp only [size_alloc] at F3
  have E14 : Hid (Env w [(w7b.heap.size + 1 + 1, 22, #[.slice (some ⟨w7b.heap.size, 0, none⟩) 1 1, .slice (some ⟨w7b.heap.size + 1, 0, none⟩) 1 1]), (w7b.heap.size + 1, 5, keyC [98]), (w7b.heap.size, 5, keyC [97]), (g4, 27, trC hb 2), (g3, 27, trC ha 1), (g2, 27, trC hs 0), (g, 76, mC 3)] (((w7b.alloc (.cells #[.int .u8 97] 5)).alloc (.cells #[.int .u8 98] 5)).alloc (.cells #[.slice (some ⟨w7b.heap.size, 0, none⟩) 1 1, .slice (some ⟨w7b.heap.size + 1, 0, none⟩) 1 1] 22))) := F3
  clear n1 n2 n3 F1 F2 F3 E13
  generalize w7b.heap.size + 1 + 1 = gl at E14 ⊢
  generalize hgb : w7b.heap.size + 1 = gb at E14 ⊢
  generalize w7b.heap.size = ga at E14 ⊢
  refine (CC.out _ _ 6 _ _ E14.out rfl (fun y n' hy => Bss.rows2 (hy.row 0 rfl) (hy.row 2 rfl) (hy.row 1 rfl) (by simp [maxLen]) (by simp [maxLen]))).mono ?_
  intro e w8 h
  obtain ⟨he, h⟩ := h
  subst he
  have E15 : Hid (Env w [(gl, 22, #[.slice (some ⟨ga, 0, none⟩) 1 1, .slice (some ⟨gb, 0, none⟩) 1 1]), (gb, 5, keyC [98]), (ga, 5, keyC [97]), (g4, 27, trC hb 2), (g3, 27, trC ha 1), (g2, 27, trC hs 0), (g, 76, mC 5)] w8) := Lib.hid h
  clear h E14
  clear hgb
  go_wp2_with (first
    | ((with_reducible refine wpE_alloc (o := ⟨some 5, _, _, _, _, _⟩) rfl 27 rfl (trC zeroKey 0) Tryd.zeroT E15.out ?_); intro g5 w9a T1; have E16 := Lib.hid T1; clear T1)
    | ((with_reducible refine wpE_store (o := ⟨none, _, _, _, _, _⟩) rfl 27 (.tmp 5) (.tmp 29) rfl 0 g5 27 (trC zeroKey 0) (trC hb 2) (by with_unfolding_all rfl) (by with_unfolding_all rfl) (by with_unfolding_all rfl) (trC_same zeroKey_length LB.out) (Tryd.sizeT _ _ LB.out) (trC_one _ _) E16.out ?_); intro w9b T1; simp only [List.set_cons_zero] at T1; have E17 := Lib.hid T1; clear T1)
    | (with_reducible refine wpList_build0 (o := ⟨some 30, _, _, _, _, _⟩) rfl 46 rfl (pastC []) Tryd.builtPast ?_)
    | ((with_reducible refine wpE_box (o := ⟨some 31, _, _, _, _, _⟩) rfl 46 (.tmp 30) rfl (pastC []) (by with_unfolding_all rfl) E17.out ?_); intro gp w10 T1; have E18 := Lib.hid T1; clear T1)
    | (with_reducible refine wpE_load (o := ⟨some 33, _, _, _, _, _⟩) rfl 27 (.tmp 2) rfl 7 g2 27 (trC hs 0) _ (by with_unfolding_all rfl) (by with_unfolding_all rfl) Tryd.underlying27 rfl (Tryd.sizeT _ _ LS.out) E18.out ?_))
  refine (D1.out _ _ 0 _ E18.out rfl).mono ?_
  intro e w11 h
  obtain ⟨z1, he, h⟩ := h
  subst he
  have E19 : Hid (Env w [(gp, 46, pastC [(hs, 0)]), (g5, 27, trC hb 2), (gl, 22, #[.slice (some ⟨ga, 0, none⟩) 1 1, .slice (some ⟨gb, 0, none⟩) 1 1]), (gb, 5, keyC [98]), (ga, 5, keyC [97]), (g4, 27, trC hb 2), (g3, 27, trC ha 1), (g2, 27, trC hs 0), (g, 76, mC 5)] w11) := Lib.hid h
  clear h E18
  go_wp2_with (with_reducible refine wpE_load (o := ⟨some 36, _, _, _, _, _⟩) rfl 27 (.tmp 3) rfl 6 g3 27 (trC ha 1) _ (by with_unfolding_all rfl) (by with_unfolding_all rfl) Tryd.underlying27 rfl (Tryd.sizeT _ _ LA.out) E19.out ?_)
  refine (D2.out _ _ 0 _ E19.out rfl).mono ?_
  intro e w12 h
  obtain ⟨z2, he, h⟩ := h
  subst he
  have E20 : Hid (Env w [(gp, 46, pastC [(hs, 0), (ha, 1)]), (g5, 27, trC hb 2), (gl, 22, #[.slice (some ⟨ga, 0, none⟩) 1 1, .slice (some ⟨gb, 0, none⟩) 1 1]), (gb, 5, keyC [98]), (ga, 5, keyC [97]), (g4, 27, trC hb 2), (g3, 27, trC ha 1), (g2, 27, trC hs 0), (g, 76, mC 5)] w12) := Lib.hid h
  clear h E19
  go_wp2_with (with_reducible refine wpE_load (o := ⟨some 39, _, _, _, _, _⟩) rfl 27 (.tmp 4) rfl 5 g4 27 (trC hb 2) _ (by with_unfolding_all rfl) (by with_unfolding_all rfl) Tryd.underlying27 rfl (Tryd.sizeT _ _ LB.out) E20.out ?_)
  refine (D3.out _ _ 0 _ E20.out rfl).mono ?_
  intro e w13 h
  obtain ⟨z3, he, h⟩ := h
  subst he
  have E21 : Hid (Env w [(gp, 46, pastC [(hs, 0), (ha, 1), (hb, 2)]), (g5, 27, trC hb 2), (gl, 22, #[.slice (some ⟨ga, 0, none⟩) 1 1, .slice (some ⟨gb, 0, none⟩) 1 1]), (gb, 5, keyC [98]), (ga, 5, keyC [97]), (g4, 27, trC hb 2), (g3, 27, trC ha 1), (g2, 27, trC hs 0), (g, 76, mC 5)] w13) := Lib.hid h
  clear h E20
  go_wp2_with fail
  refine (D4.out _ _ 0 _ E21.out rfl).mono ?_
  intro e w14 h
  obtain ⟨he, h⟩ := h
  subst he
  have E22 : Hid (Env w [(gp, 46, pastC [(hs, 0), (ha, 1), (hb, 2)]), (g5, 27, trC hb 2), (gl, 22, #[.slice (some ⟨ga, 0, none⟩) 1 1, .slice (some ⟨gb, 0, none⟩) 1 1]), (gb, 5, keyC [98]), (ga, 5, keyC [97]), (g4, 27, trC hb 2), (g3, 27, trC ha 1), (g2, 27, trC hs 0), (g, 76, mC 5)] w14) := Lib.hid (E21.out.call h)
  clear h E21
  go_wp2_with (first
    | ((with_reducible refine wpE_alloc (o := ⟨some 7, _, _, _, _, _⟩) rfl 24 rfl (keyC zeroKey) Tryd.zeroK E22.out ?_); intro g7 w15a T1; have E23 := Lib.hid T1; clear T1)
    | ((with_reducible refine wpE_store (o := ⟨none, _, _, _, _, _⟩) rfl 24 (.tmp 7) (.tmp 44) rfl 0 g7 24 (keyC zeroKey) (keyC ha) (by with_unfolding_all rfl) (by with_unfolding_all rfl) (by with_unfolding_all rfl) (keyC_same zeroKey_length LA.out) (Tryd.sizeKey _ LA.out) (keyC_one _) E23.out ?_); intro w15b T1; simp only [List.set_cons_zero] at T1; have E24 := Lib.hid T1; clear T1))
  refine (D5.out _ _ 1 _ E24.out rfl).mono ?_
  intro e w16 h
  obtain ⟨he, h⟩ := h
  subst he
  have E25 : Hid (Env w [(g7, 24, keyC ha), (gp, 46, pastC [(hb, 2)]), (g5, 27, trC hb 2), (gl, 22, #[.slice (some ⟨ga, 0, none⟩) 1 1, .slice (some ⟨gb, 0, none⟩) 1 1]), (gb, 5, keyC [98]), (ga, 5, keyC [97]), (g4, 27, trC hb 2), (g3, 27, trC ha 1), (g2, 27, trC hs 0), (g, 76, mC 5)] w16) := Lib.hid h
  clear h E24
  go_wp2_with fail
  refine (D6.out _ _ 1 _ E25.out rfl).mono ?_
  intro e w17 h
  obtain ⟨he, h⟩ := h
  subst he
  have E26 : Hid (Env w [(g7, 24, keyC ha), (gp, 46, pastC [(hb, 2)]), (g5, 27, trC hb 2), (gl, 22, #[.slice (some ⟨ga, 0, none⟩) 1 1, .slice (some ⟨gb, 0, none⟩) 1 1]), (gb, 5, keyC [98]), (ga, 5, keyC [97]), (g4, 27, trC hb 2), (g3, 27, trC ha 1), (g2, 27, trC hs 0), (g, 76, mC 5)] w17) := Lib.hid (E25.out.call h)
  clear h E25
  go_wp2_with (first
    | ((with_reducible refine wpE_alloc (o := ⟨some 9, _, _, _, _, _⟩) rfl 24 rfl (keyC zeroKey) Tryd.zeroK E26.out ?_); intro g9 w18a T1; have E27 := Lib.hid T1; clear T1)
    | ((with_reducible refine wpE_store (o := ⟨none, _, _, _, _, _⟩) rfl 24 (.tmp 9) (.tmp 51) rfl 0 g9 24 (keyC zeroKey) (keyC zeroKey) (by with_unfolding_all rfl) (by with_unfolding_all rfl) (by with_unfolding_all rfl) (keyC_same zeroKey_length zeroKey_length) (Tryd.sizeKey _ zeroKey_length) (keyC_one _) E27.out ?_); intro w18b T1; simp only [List.set_cons_zero] at T1; have E28 := Lib.hid T1; clear T1))
  refine (D7.out _ _ 2 _ E28.out rfl).mono ?_
  intro e w19 h
  obtain ⟨he, h⟩ := h
  subst he
  have E29 : Hid (Env w [(g9, 24, keyC zeroKey), (g7, 24, keyC ha), (gp, 46, pastC [(hb, 2)]), (g5, 27, trC hb 2), (gl, 22, #[.slice (some ⟨ga, 0, none⟩) 1 1, .slice (some ⟨gb, 0, none⟩) 1 1]), (gb, 5, keyC [98]), (ga, 5, keyC [97]), (g4, 27, trC hb 2), (g3, 27, trC ha 1), (g2, 27, trC hs 0), (g, 76, mC 5)] w19) := Lib.hid (E28.out.call h)
  clear h E28
  have c1 := E29.out.cellV 7 rfl 32 _ (trC_32 hb 2 LB.out)
  have heq := fun W => Tryd.eqKeyIn ha ha LA.out LA.out W
  rw [beq_self_eq_true] at heq
  have hgd := Tryd.eqGuardKey
  go_wp2_with (first
    | (with_reducible refine wpE_load (o := ⟨some 55, _, _, _, _, _⟩) rfl 27 (.tmp 4) rfl 7 g4 27 (trC hb 2) _ (by with_unfolding_all rfl) (by with_unfolding_all rfl) Tryd.underlying27 rfl (Tryd.sizeT _ _ LB.out) E29.out ?_)
    | (with_reducible refine wpE_load (o := ⟨some 56, _, _, _, _, _⟩) rfl 27 (.tmp 5) rfl 3 g5 27 (trC hb 2) _ (by with_unfolding_all rfl) (by with_unfolding_all rfl) Tryd.underlying27 rfl (Tryd.sizeT _ _ LB.out) E29.out ?_)
    | (with_reducible refine wpList_val (o := ⟨some 57, _, _, _, _, _⟩) rfl _ (eqT_run (.tmp 55) (.tmp 56) _ rfl hb 2 LB.out (by with_unfolding_all rfl) (by with_unfolding_all rfl)) ?_)
    | (with_reducible refine wpListG_load_row (o := ⟨some 68, _, _, _, _, _⟩) 24 (.tmp 7) rfl (by with_unfolding_all rfl) g7 (by with_unfolding_all rfl) 24 (keyC ha) _ (by with_unfolding_all exact E29.out.row 1 rfl) Tryd.underlying24 rfl (Tryd.sizeKey _ LA.out) ?_)
    | (with_reducible refine wpListG_val (o := ⟨some 70, _, _, _, _, _⟩) (by with_unfolding_all rfl) _ (run_partK 24 (.tmp 69) rfl g3 0 (by with_unfolding_all rfl) 27 _ ha _ (E29.out.row 8 rfl) (trC_seed ha 1) Tryd.underlying24 rfl (Tryd.sizeKeyM ha LA.out)) ?_))
  go_ret
  exact E29.out.ret _
end Go.Proofs.YtlifjlcfoeednaaDoor
end
section
namespace Go.Proofs.YtlifjlcfoeednaaDoor
open Go.RowKit
set_option linter.unusedVariables false
set_option maxRecDepth 20000

section
variable {P : Program} {w : World} {o : Oper} {a : Act}
theorem run_sH (sz : Nat) (ty e : TypeId) (x hi : Operand) (ho : o.op = .slice ty x none (some hi) none) (A : Option Addr) (n c h : Nat) (k2 : IntKind) (hx : a.eval x = .slice A n c) (hh : a.eval hi = .int k2 (h : Int)) (h2 : h ≤ c)
    (hu : P.underlying ty = some (.slice e)) (hs : (P.info? e).map (·.size) = some sz) : (execOp a.eval o).run P w = .ok (.value (sliced A 0 h c sz)) w := by
  obtain ⟨f, hf, hz⟩ := Option.map_eq_some_iff.1 hs
  have hel : P.elem ty = e := by simp [Program.elem, hu]
  have hu' : P.underlying ty = some (.slice (P.elem ty)) := by rw [hel]; exact hu
  unfold execOp
  simp only [ho, hx, hh, Option.map_some, Option.map_none, Sem.run_bind, run_sliceAt_slice w ty _ _ _ _ hu', run_slice_h w ty A n c hu' k2 (h : Int) (by omega) (by omega)]
  simp [hel, sizeOf, typeInfo, hf, hz]
theorem run_sL (sz : Nat) (ty e : TypeId) (x lo : Operand) (ho : o.op = .slice ty x (some lo) none none) (A : Option Addr) (n c l : Nat) (k2 : IntKind) (hx : a.eval x = .slice A n c) (hh : a.eval lo = .int k2 (l : Int)) (h2 : l ≤ n)
    (hu : P.underlying ty = some (.slice e)) (hs : (P.info? e).map (·.size) = some sz) : (execOp a.eval o).run P w = .ok (.value (sliced A l n c sz)) w := by
  obtain ⟨f, hf, hz⟩ := Option.map_eq_some_iff.1 hs
  have hel : P.elem ty = e := by simp [Program.elem, hu]
  have hu' : P.underlying ty = some (.slice (P.elem ty)) := by rw [hel]; exact hu
  unfold execOp
  simp only [ho, hx, hh, Option.map_some, Option.map_none, Sem.run_bind, run_sliceAt_slice w ty _ _ _ _ hu', run_slice_l w ty A n c hu' k2 (l : Int) (by omega) (by omega)]
  simp [hel, sizeOf, typeInfo, hf, hz]
end
theorem Bss.upto1 {w : World} {A : Option Addr} {n c : Nat} {l : List (List UInt8)} (h : Bss w (.slice A n c) l) (k : Nat) (hk : k ≤ l.length) : Bss w (sliced A 0 k c 1) (l.take k) := by
  obtain ⟨A', c', hv, h1, h2, h3⟩ := h
  injection hv with e1 e2 e3
  subst e1 e2 e3
  have hl : (l.take k).length = k := List.length_take_of_le hk
  have hadd : ∀ x : Addr, x.add (0 * 1) = x := fun x => by unfold Addr.add; split <;> simp_all
  refine ⟨A, c, ?_, by rw [hl]; omega, h2, fun h0 => ?_⟩
  · unfold sliced
    rw [hl]
    simp only [Nat.sub_zero]
    congr 1
    split
    · rfl
    · cases A with
      | none => rfl
      | some x => rw [Option.map_some, hadd]
  · rw [hl] at h0
    obtain ⟨b, off, hA, hc⟩ := h3 (by omega)
    refine ⟨b, off, hA, fun j hj => ?_⟩
    rw [hl] at hj
    obtain ⟨u, hu, hb⟩ := hc j (by omega)
    exact ⟨u, hu, by rw [List.getElem_take]; exact hb⟩
theorem Bss.from1 {w : World} {A : Option Addr} {n c : Nat} {l : List (List UInt8)} (h : Bss w (.slice A n c) l) (k : Nat) (hk : k ≤ l.length) : Bss w (sliced A k n c 1) (l.drop k) := by
  obtain ⟨A', c', hv, h1, h2, h3⟩ := h
  injection hv with e1 e2 e3
  subst e1 e2 e3
  have hl : (l.drop k).length = l.length - k := List.length_drop
  refine ⟨_, c - k, by rw [hl]; rfl, by rw [hl]; omega, by omega, fun h0 => ?_⟩
  rw [hl] at h0
  obtain ⟨b, off, rfl, hc⟩ := h3 (by omega)
  have hadd : (⟨b, off, none⟩ : Addr).add (k * 1) = ⟨b, off + k, none⟩ := by unfold Addr.add; split <;> simp_all
  refine ⟨b, off + k, by rw [if_neg (by omega), Option.map_some, hadd], fun j hj => ?_⟩
  rw [hl] at hj
  obtain ⟨u, hu, hb⟩ := hc (k + j) (by omega)
  refine ⟨u, by rw [Nat.add_assoc]; exact hu, ?_⟩
  rw [List.getElem_drop]
  exact hb
theorem share1n {P : Program} {md : Region.Mode} {ops : Array Oper} {Q : Exit → Act → World → Prop} {fin : Nat → Bool} {SS : World → Prop} {w : World} {m m' : Nat} {listed L' : Array Bool} {a : Act} {A : Nat → Act} (Φ : Nat → World → Prop)
    (hgo : ∀ g x, Φ g x → walkS P md ops Q SS fin m' L' (A g) x) (h : (∀ g x, Φ g x → walkS P md ops Q SS fin m' L' (A g) x) → walkS P md ops Q SS fin m listed a w) : walkS P md ops Q SS fin m listed a w := h hgo
theorem cellN {w x : World} {p : Addr} {v : Value} (h : Below w.heap.size w x) (hc : w.cell? p = some v) : x.cell? p = some v := (h.cell (World.block_lt_of_cell? w _ hc)).trans hc
end Go.Proofs.YtlifjlcfoeednaaDoor
end
section
namespace Go.Proofs.YtlifjlcfoeednaaDoor
open Go.RowKit
set_option linter.unusedVariables false
set_option maxRecDepth 20000

/-- A slice of elements of sz cells each: element j has the cells f j. -/
def Rx (w : World) (v : Value) (sz n : Nat) (f : Nat → List Value) : Prop :=
  ∃ A c, v = .slice A n c ∧ n ≤ c ∧ c ≤ maxLen ∧ (0 < n → ∃ b off, A = some ⟨b, off, none⟩ ∧ ∀ j, j < n → w.rangeAt b (off + j * sz) (f j))
section
variable {H : Type} {enc : TypeId × Value → H} {P : Program} {W : World} {base : Nat} {sp : Nat → Bool} {held : Bool}
theorem addr_add3 (g off : Nat) (i j : Nat) : ((⟨g, off, none⟩ : Addr).add i).add j = ⟨g, off + i + j, none⟩ := by
  have e1 : (⟨g, off, none⟩ : Addr).add i = ⟨g, off + i, none⟩ := by unfold Addr.add; split <;> simp_all
  rw [e1]
  unfold Addr.add
  split <;> simp_all
/-- A list of elements of sz cells: each element's cells, and that they are read. -/
theorem open_rx {t e : TypeId} {fuel : Nat} {cs : List Value} {x : DataW H × List MemPlace} {sz : Nat} (hs0 : 0 < sz)
    (ht : P.underlying t = some (.slice e)) (hce : P.cellsOf e = sz) (hone : ∀ n (c : List Value) y, c.length = sz → DataW.trod enc P W base sp held n e c = some y → c.length = sz) (h : DataW.trod enc P W base sp held fuel t cs = some x) :
    ∃ (v : Value) (n : Nat) (f : Nat → List Value), cs = [v] ∧ Rx W v sz n f ∧ ∀ j, j < n → (f j).length = sz ∧ ∃ m y, DataW.trod enc P W base sp held m e (f j) = some y := by
  rcases DataW.trod_slice ht h with ⟨rfl, _⟩ | ⟨a, len, cap, elems, rest, n, _, rfl, _, hba, hl, hm, hlen, hel, _, _⟩
  · exact ⟨_, 0, fun _ => [], rfl, ⟨none, 0, rfl, Nat.le_refl _, by simp [maxLen], fun h => by omega⟩, fun j hj => by omega⟩
  · have each : ∀ i, i < len → ∃ c : List Value, c.length = sz ∧ (∀ j, j < sz → W.cell? ((a.add (i * sz)).add j) = c[j]?) ∧ ∃ m y, DataW.trod enc P W base sp held m e c = some y := by
      intro i hi
      have h1 := hel i hi
      rw [hce, List.getElem?_eq_getElem (by omega), Option.bind_eq_some_iff] at h1
      obtain ⟨c, hc, ht2⟩ := h1
      obtain ⟨_, hcl, hcell⟩ := World.cells?_some hc
      exact ⟨c, hcl, hcell, n, _, ht2⟩
    refine ⟨_, len, fun j => if hj : j < len then (each j hj).choose else [], rfl, ⟨some a, cap, rfl, hl, hm, fun h0 => ?_⟩, fun j hj => ?_⟩
    · obtain ⟨g, off, spot⟩ := a
      have h1 := (each 0 h0).choose_spec
      have hc := h1.2.1 0 hs0
      rw [List.getElem?_eq_getElem (by rw [h1.1]; exact hs0)] at hc
      have hspot : spot = none := by simpa [Addr.add] using World.cell?_spot hc
      subst hspot
      refine ⟨g, off, rfl, fun k hk j u hj => ?_⟩
      simp only [dif_pos hk] at hj
      have hs := (each k hk).choose_spec
      have hj2 : j < sz := by
        have := (List.getElem?_eq_some_iff.1 hj).1
        rwa [hs.1] at this
      have h3 := hs.2.1 j hj2
      rw [addr_add3] at h3
      rw [h3, hj]
    · simp only [dif_pos hj]
      have hs := (each j hj).choose_spec
      exact ⟨hs.1, hs.2.2⟩
theorem open_bx {t e : TypeId} {fuel : Nat} {cs : List Value} {x : DataW H × List MemPlace} (ht : P.underlying t = some (.slice e)) (he : P.underlying e = some (.int .u8)) (hce : P.cellsOf e = 1) (h : DataW.trod enc P W base sp held fuel t cs = some x) :
    ∃ (v : Value) (l : List UInt8), cs = [v] ∧ Bs W v l := by
  obtain ⟨v, n, f, hcs, ⟨A, c, rfl, h1, h2, h3⟩, hf⟩ := open_rx (by omega) ht hce (fun _ _ _ h _ => h) h
  have each : ∀ j, j < n → ∃ b : UInt8, f j = [.int .u8 (b.toNat : Int)] := fun j hj => by
    obtain ⟨_, m, y, hy⟩ := hf j hj
    obtain ⟨z, hz, _, hwf⟩ := DataW.trod_int he hy
    exact ⟨UInt8.ofNat z.toNat, by rw [hz, u8_of_wf hwf]⟩
  refine ⟨_, List.ofFn fun i : Fin n => (each i.1 i.2).choose, hcs, A, c, by rw [List.length_ofFn], by rw [List.length_ofFn]; exact h1, h2, fun hl => ?_⟩
  rw [List.length_ofFn] at hl
  obtain ⟨b, off, hA, hc⟩ := h3 hl
  refine ⟨b, off, hA, fun j hj => ?_⟩
  rw [List.length_ofFn] at hj
  rw [List.getElem_ofFn]
  have hs := (each j hj).choose_spec
  have h4 := hc j hj 0 (.int .u8 ((each j hj).choose.toNat : Int)) (by have := congrArg (·[0]?) hs; simpa using this)
  rw [Nat.mul_one, Nat.add_zero] at h4
  exact h4
/-- A key in the midst of other cells. -/
theorem open_keyAt {t e : TypeId} {n fuel : Nat} {cs : List Value} {x : DataW H × List MemPlace} (ht : P.underlying t = some (.array n e)) (he : P.underlying e = some (.int .u8)) (hce : P.cellsOf e = 1) (hl : cs.length = n) (h : DataW.trod enc P W base sp held fuel t cs = some x) :
    ∃ l : List UInt8, cs = cellsB l ∧ l.length = n := by
  obtain ⟨xs, m, _, _, _, hxl, hel⟩ := DataW.trod_array ht h
  have each : ∀ i, i < n → ∃ b : UInt8, cs[i]? = some (.int .u8 (b.toNat : Int)) := fun i hi => by
    have h1 := hel i hi
    rw [hce, List.getElem?_eq_getElem (by omega)] at h1
    obtain ⟨a, hc, _, hwf⟩ := DataW.trod_int he h1
    refine ⟨UInt8.ofNat a.toNat, ?_⟩
    have h2 := congrArg (·[0]?) hc
    rw [u8_of_wf hwf]
    simpa [List.getElem?_take, List.getElem?_drop] using h2
  refine ⟨cs.map fun v => match v with | .int _ a => UInt8.ofNat a.toNat | _ => 0, ?_, by simpa using hl⟩
  simp only [cellsB, List.map_map]
  apply List.ext_getElem (by simp)
  intro i h1 h2
  obtain ⟨b, hb⟩ := each i (by omega)
  have hci : cs[i] = .int .u8 (b.toNat : Int) := by
    rw [List.getElem?_eq_getElem h1] at hb
    exact Option.some.inj hb
  simp [List.getElem_map, hci]
end
theorem cut_at {α : Type} (c : List α) (o n : Nat) : c.drop o = (c.drop o).take n ++ c.drop (o + n) := by
  rw [← List.drop_drop, List.take_append_drop]
end Go.Proofs.YtlifjlcfoeednaaDoor
end
section
namespace Go.Proofs.YtlifjlcfoeednaaDoor
open Go.RowKit
set_option linter.unusedVariables false
set_option maxRecDepth 20000

section
variable {H : Type} {enc : TypeId × Value → H} {P : Program} {W : World} {base : Nat} {sp : Nat → Bool} {held : Bool}
theorem weights_mem_all {e : TypeId} {d : DataW H} : ∀ {l : List (DataW H)}, d ∈ l → ∀ k ∈ d.weights P e, k ∈ DataW.weightsAll P e l
  | x :: r, h, k, hk => by
    simp only [DataW.weightsAll, List.mem_append]
    rcases List.mem_cons.1 h with rfl | h
    · exact .inl hk
    · exact .inr (weights_mem_all h k hk)
/-- Bytes are no longer than what weighs them. -/
theorem open_bxW {t e : TypeId} {fuel M : Nat} {cs : List Value} {x : DataW H × List MemPlace} (ht : P.underlying t = some (.slice e)) (he : P.underlying e = some (.int .u8)) (hce : P.cellsOf e = 1) (hbe : P.bytesOf e = 1) (h : DataW.trod enc P W base sp held fuel t cs = some x) (hM : ∀ k ∈ x.1.weights P t, k ≤ M) :
    ∃ (v : Value) (l : List UInt8), cs = [v] ∧ Bs W v l ∧ l.length ≤ M := by
  obtain ⟨v, l, hcs, hb⟩ := open_bx ht he hce h
  refine ⟨v, l, hcs, hb, ?_⟩
  obtain ⟨A, c, hv, _⟩ := hb
  rcases DataW.trod_slice ht h with ⟨hc, _⟩ | ⟨a, len, cap, elems, rest, n, _, hc, rfl, _, _, _, hlen, _⟩
  · rw [hcs, hv] at hc
    simp at hc
    rw [hc.2.1]
    exact Nat.zero_le _
  · rw [hcs, hv] at hc
    simp at hc
    have := hM ((elems.length + rest.length) * 1) (by simp [DataW.weights, ht, hbe])
    omega
theorem open_rxW {t e : TypeId} {fuel M : Nat} {cs : List Value} {x : DataW H × List MemPlace} {sz : Nat} (hs0 : 0 < sz)
    (ht : P.underlying t = some (.slice e)) (hce : P.cellsOf e = sz) (h : DataW.trod enc P W base sp held fuel t cs = some x) (hM : ∀ k ∈ x.1.weights P t, k ≤ M) :
    ∃ (v : Value) (n : Nat) (f : Nat → List Value), cs = [v] ∧ Rx W v sz n f ∧ ∀ j, j < n → (f j).length = sz ∧ ∃ m y, DataW.trod enc P W base sp held m e (f j) = some y ∧ ∀ k ∈ y.1.weights P e, k ≤ M := by
  rcases DataW.trod_slice ht h with ⟨rfl, _⟩ | ⟨a, len, cap, elems, rest, n, _, rfl, hx, hba, hl, hm, hlen, hel, _, _⟩
  · exact ⟨_, 0, fun _ => [], rfl, ⟨none, 0, rfl, Nat.le_refl _, by simp [maxLen], fun h => by omega⟩, fun j hj => by omega⟩
  · have hME : ∀ d ∈ elems.map (·.1), ∀ k ∈ d.weights P e, k ≤ M := fun d hd k hk => hM k (by
      rw [hx]
      simp only [DataW.weights, ht, List.mem_cons, List.mem_append]
      exact .inr (.inl (weights_mem_all hd k hk)))
    have each : ∀ i, i < len → ∃ c : List Value, c.length = sz ∧ (∀ j, j < sz → W.cell? ((a.add (i * sz)).add j) = c[j]?) ∧ ∃ m y, DataW.trod enc P W base sp held m e c = some y ∧ ∀ k ∈ y.1.weights P e, k ≤ M := by
      intro i hi
      have h1 := hel i hi
      rw [hce, List.getElem?_eq_getElem (by omega), Option.bind_eq_some_iff] at h1
      obtain ⟨c, hc, ht2⟩ := h1
      obtain ⟨_, hcl, hcell⟩ := World.cells?_some hc
      exact ⟨c, hcl, hcell, n, _, ht2, hME _ (List.mem_map_of_mem (List.getElem_mem _))⟩
    refine ⟨_, len, fun j => if hj : j < len then (each j hj).choose else [], rfl, ⟨some a, cap, rfl, hl, hm, fun h0 => ?_⟩, fun j hj => ?_⟩
    · obtain ⟨g, off, spot⟩ := a
      have h1 := (each 0 h0).choose_spec
      have hc := h1.2.1 0 hs0
      rw [List.getElem?_eq_getElem (by rw [h1.1]; exact hs0)] at hc
      have hspot : spot = none := by simpa [Addr.add] using World.cell?_spot hc
      subst hspot
      refine ⟨g, off, rfl, fun k hk j u hj => ?_⟩
      simp only [dif_pos hk] at hj
      have hs := (each k hk).choose_spec
      have hj2 : j < sz := by
        have := (List.getElem?_eq_some_iff.1 hj).1
        rwa [hs.1] at this
      have h3 := hs.2.1 j hj2
      rw [addr_add3] at h3
      rw [h3, hj]
    · simp only [dif_pos hj]
      have hs := (each j hj).choose_spec
      exact ⟨hs.1, hs.2.2⟩
end
/-- Lists of bytes, none longer than the reach. -/
theorem open_bssW {H : Type} {enc : TypeId × Value → H} {P : Program} {W : World} {base : Nat} {sp : Nat → Bool} {held : Bool} {t e b : TypeId} {fuel M : Nat} {cs : List Value} {x : DataW H × List MemPlace}
    (ht : P.underlying t = some (.slice e)) (he : P.underlying e = some (.slice b)) (hb : P.underlying b = some (.int .u8)) (hcb : P.cellsOf b = 1) (hbb : P.bytesOf b = 1) (hce : P.cellsOf e = 1) (h : DataW.trod enc P W base sp held fuel t cs = some x) (hM : ∀ k ∈ x.1.weights P t, k ≤ M) :
    ∃ (v : Value) (L : List (List UInt8)), cs = [v] ∧ Bss W v L ∧ ∀ l ∈ L, l.length ≤ M := by
  obtain ⟨v, n, f, hcs, ⟨A, c, rfl, h1, h2, h3⟩, hf⟩ := open_rxW (sz := 1) (by omega) ht hce h hM
  have each : ∀ j, j < n → ∃ (u : Value) (l : List UInt8), f j = [u] ∧ Bs W u l ∧ l.length ≤ M := fun j hj => by
    obtain ⟨_, m, y, hy, hyM⟩ := hf j hj
    obtain ⟨u, l, q1, q2, q3⟩ := open_bxW he hb hcb hbb hy hyM
    exact ⟨u, l, q1, q2, q3⟩
  refine ⟨_, List.ofFn fun i : Fin n => (each i.1 i.2).choose_spec.choose, hcs, ⟨A, c, by rw [List.length_ofFn], by rw [List.length_ofFn]; exact h1, h2, fun hl => ?_⟩, fun l hl => ?_⟩
  · rw [List.length_ofFn] at hl
    obtain ⟨b, off, hA, hc⟩ := h3 hl
    refine ⟨b, off, hA, fun j hj => ?_⟩
    rw [List.length_ofFn] at hj
    have hs := (each j hj).choose_spec.choose_spec
    refine ⟨(each j hj).choose, ?_, by rw [List.getElem_ofFn]; exact hs.2.1⟩
    have h4 := hc j hj
    rw [hs.1] at h4
    have h5 := h4 0 _ rfl
    rwa [Nat.mul_one, Nat.add_zero] at h5
  · obtain ⟨i, rfl⟩ := List.mem_ofFn.1 hl
    exact (each i.1 i.2).choose_spec.choose_spec.2.2
end Go.Proofs.YtlifjlcfoeednaaDoor
end
section
namespace Go.Proofs.YtlifjlcfoeednaaDoor
open Go.ChangeShapes Go.WideShapes Go.ChangeAt Go.RowKit
set_option linter.unusedVariables false
set_option maxRecDepth 20000

theorem Tryd.cellsT : Tryd.prog.cellsOf 27 = 33 := by kernel_rfl
theorem Tryd.cellsTK : Tryd.prog.cellsOf 24 = 32 := by kernel_rfl
theorem Tryd.cellsTN : Tryd.prog.cellsOf 25 = 1 := by kernel_rfl
theorem open_tr {H : Type} {enc : TypeId × Value → H} {W : World} {base b0 : Nat} {sp : Nat → Bool} {held : Bool} {v : Value} {d : DataW H} {ps : List MemPlace} (hval : Value.okWide Tryd.prog W .any b0 27 v) (h : DataW.Trod enc Tryd.prog W base sp held 27 v d ps) :
    ∃ (s : List UInt8) (n : Nat), v = .agg (trC s n) ∧ s.length = 32 ∧ n < 4294967296 := by
  obtain ⟨cs, rfl, hsz⟩ := okWide_struct Tryd.underlying27 hval
  rw [Tryd.cellsT] at hsz
  obtain ⟨fuel, hf⟩ := h
  obtain ⟨xs, m', _, _, _, hxl, hxe⟩ := DataW.trod_struct Tryd.underlying27 hf
  have hl4 : xs.length = 2 := hxl
  have f0 := hxe 0 _ rfl
  have f1 := hxe 1 _ rfl
  have hcs : (Value.agg cs).cells.toList = cs.toList := rfl
  rw [List.getElem?_eq_getElem (by omega), hcs] at f0 f1
  have hL : cs.toList.length = 33 := by rw [Array.length_toList]; exact hsz
  have g0 : DataW.trod enc Tryd.prog W base sp held m' 24 ((cs.toList.drop 0).take (Tryd.prog.cellsOf 24)) = some xs[0] := f0
  rw [Tryd.cellsTK] at g0
  have g1 : DataW.trod enc Tryd.prog W base sp held m' 25 ((cs.toList.drop 32).take (Tryd.prog.cellsOf 25)) = some xs[1] := f1
  rw [Tryd.cellsTN] at g1
  clear f0 f1 hf hxe
  obtain ⟨s, e0, c0⟩ := open_keyAt Tryd.underlying24 Tryd.underlying5 (by kernel_rfl) (by rw [List.length_take, List.length_drop, hL]; omega) g0
  obtain ⟨z, e1, _, w1⟩ := DataW.trod_int (k := .u32) Tryd.underlying25 g1
  obtain ⟨n, rfl⟩ := u32_of_wf w1
  refine ⟨s, n.toNat, ?_, c0, n.toNat_lt⟩
  have z0 : cs.toList = (cs.toList.drop 0).take 32 ++ (cs.toList.drop 32).take 1 := by
    rw [List.drop_zero, List.take_of_length_le (l := cs.toList.drop 32) (by rw [List.length_drop, hL]; omega), List.take_append_drop]
  rw [e0, e1] at z0
  rw [trC, trL, ← z0]
/-- What the law's list has: one of them. -/
structure OpT where
  act : Int
  n : Nat
  head : List UInt8
def optC (o : OpT) : List Value := [.int .i64 o.act] ++ ([.int .u32 (o.n : Int)] ++ (cellsB o.head))
def OpTs (w : World) (v : Value) (l : List OpT) : Prop :=
  ∃ A c, v = .slice A l.length c ∧ l.length ≤ c ∧ c ≤ maxLen ∧ (0 < l.length → ∃ b off, A = some ⟨b, off, none⟩ ∧ ∀ j (hj : j < l.length), w.rangeAt b (off + j * 34) (optC l[j]) ∧ (-9223372036854775808 ≤ l[j].act ∧ l[j].act ≤ 9223372036854775807) ∧ l[j].n < 4294967296 ∧ l[j].head.length = 32)
theorem open_opts {H : Type} {enc : TypeId × Value → H} {W : World} {base : Nat} {sp : Nat → Bool} {held : Bool} {fuel : Nat} {cs : List Value} {x : DataW H × List MemPlace} (h : DataW.trod enc Tryd.prog W base sp held fuel 42 cs = some x) :
    ∃ (v : Value) (l : List OpT), cs = [v] ∧ OpTs W v l := by
  obtain ⟨v, n, f, hcs, ⟨A, c, rfl, h1, h2, h3⟩, hf⟩ := open_rx (sz := 34) (by omega) Tryd.underlying42 (by kernel_rfl) (fun _ _ _ h _ => h) h
  have each : ∀ j, j < n → ∃ (o : OpT), f j = optC o ∧ (-9223372036854775808 ≤ o.act ∧ o.act ≤ 9223372036854775807) ∧ o.n < 4294967296 ∧ o.head.length = 32 := fun j hj => by
    obtain ⟨hfl, m, y, hy⟩ := hf j hj
    obtain ⟨xs, m', _, _, _, hxl, hxe⟩ := DataW.trod_struct Tryd.underlying52 hy
    have f0 := hxe 0 _ rfl
    have f1 := hxe 1 _ rfl
    have f2 := hxe 2 _ rfl
    have hl0 : xs.length = 3 := hxl
    rw [List.getElem?_eq_getElem (by omega)] at f0 f1 f2
    obtain ⟨z0, c0, _, w0⟩ := DataW.trod_int (k := .i64) Tryd.underlying3 f0
    obtain ⟨z1, c1, _, w1⟩ := DataW.trod_int (k := .u32) Tryd.underlying25 f1
    obtain ⟨n1, rfl⟩ := u32_of_wf w1
    obtain ⟨l2, c2, hl2⟩ := open_keyAt Tryd.underlying24 Tryd.underlying5 (by kernel_rfl) (by show (List.take 32 (List.drop 2 (f j))).length = 32; rw [List.length_take, List.length_drop, hfl]; first | done | omega) f2
    have e : f j = ((f j).drop 0).take 1 ++ (((f j).drop 1).take 1 ++ (((f j).drop 2).take 32 ++ [])) := by
      have e0 := cut_at (f j) 0 1
      have e1 := cut_at (f j) 1 1
      have e2 := cut_at (f j) 2 32
      have ez : (f j).drop 34 = [] := List.drop_eq_nil_of_le (by omega)
      simp only [Nat.zero_add, Nat.reduceAdd] at e0 e1 e2
      rw [← ez]
      rw [← e2]
      rw [← e1]
      exact (List.drop_zero (l := f j)).symm.trans e0
    have q0 : ((f j).drop 0).take 1 = _ := c0
    have q1 : ((f j).drop 1).take 1 = _ := c1
    have q2 : ((f j).drop 2).take 32 = _ := c2
    rw [q0, q1, q2] at e
    exact ⟨⟨z0, n1.toNat, l2⟩, e.trans (by simp [optC]), i64_of_wf w0, n1.toNat_lt, hl2⟩
  refine ⟨_, List.ofFn fun i : Fin n => (each i.1 i.2).choose, hcs, A, c, by rw [List.length_ofFn], by rw [List.length_ofFn]; exact h1, h2, fun hl => ?_⟩
  rw [List.length_ofFn] at hl
  obtain ⟨b, off, hA, hc⟩ := h3 hl
  refine ⟨b, off, hA, fun j hj => ?_⟩
  rw [List.length_ofFn] at hj
  rw [List.getElem_ofFn]
  have hs := (each j hj).choose_spec
  have h4 := hc j hj
  rw [hs.1] at h4
  exact ⟨h4, hs.2⟩

end Go.Proofs.YtlifjlcfoeednaaDoor
end
section
namespace Go.Proofs.YtlifjlcfoeednaaDoor
open Go.ChangeShapes Go.WideShapes Go.ChangeAt Go.RowKit
set_option linter.unusedVariables false

theorem addr_one (g off k : Nat) : (⟨g, off, none⟩ : Addr).add k = ⟨g, off + k, none⟩ := by unfold Addr.add; split <;> simp_all
theorem open_one {H : Type} {enc : TypeId × Value → H} {P : Program} {W : World} {base : Nat} {held : Bool} {e b : TypeId} {fuel : Nat} {u : Value} {x : DataW H × List MemPlace}
    (he : P.underlying e = some (.slice b)) (hb : P.underlying b = some (.int .u8)) (hcb : P.cellsOf b = 1) (h : DataW.trod enc P W base (fun _ => true) held fuel e [u] = some x) : ∃ l : List UInt8, Bs W u l := by
  rcases open_ints he hb hcb h with ⟨hcs, _⟩ | ⟨x, l, c, zs, hcs, _, hl, hm, hz, _, hcell, hwz⟩
  · simp at hcs
    subst hcs
    exact ⟨[], Bs.nil W⟩
  · simp at hcs
    subst hcs
    exact bs_of_ints hl hm (by simpa using hz) hcell hwz
theorem open_bss {H : Type} {enc : TypeId × Value → H} {P : Program} {W : World} {base : Nat} {held : Bool} {t e b : TypeId} {fuel : Nat} {cs : List Value} {x : DataW H × List MemPlace}
    (ht : P.underlying t = some (.slice e)) (he : P.underlying e = some (.slice b)) (hb : P.underlying b = some (.int .u8)) (hcb : P.cellsOf b = 1) (hce : P.cellsOf e = 1) (h : DataW.trod enc P W base (fun _ => true) held fuel t cs = some x) :
    ∃ (v : Value) (L : List (List UInt8)), cs = [v] ∧ Bss W v L := by
  rcases DataW.trod_slice ht h with ⟨rfl, _⟩ | ⟨a, len, cap, elems, rest, n, _, rfl, _, hba, hl, hm, hlen, hel, _, _⟩
  · exact ⟨_, [], rfl, ⟨none, 0, rfl, Nat.le_refl _, by simp [maxLen], fun h => by simp at h⟩⟩
  · have each : ∀ i, i < len → ∃ (u : Value) (l : List UInt8), W.cell? (a.add i) = some u ∧ Bs W u l := by
      intro i hi
      have h1 := hel i hi
      rw [hce, List.getElem?_eq_getElem (by omega), Option.bind_eq_some_iff] at h1
      obtain ⟨c, hc, ht2⟩ := h1
      obtain ⟨_, hcl, hcell⟩ := World.cells?_some hc
      obtain ⟨u, rfl⟩ : ∃ u, c = [u] := by
        match c, hcl with
        | [u], _ => exact ⟨u, rfl⟩
      obtain ⟨l, hl2⟩ := open_one he hb hcb ht2
      refine ⟨u, l, ?_, hl2⟩
      have := hcell 0 (by omega)
      rw [Nat.mul_one] at this
      rw [show (a.add i).add 0 = a.add i by obtain ⟨g, off, spot⟩ := a; unfold Addr.add; split <;> simp_all] at this
      simpa using this
    refine ⟨_, List.ofFn fun i : Fin len => (each i.1 i.2).choose_spec.choose, rfl, some a, cap, by rw [List.length_ofFn], by rw [List.length_ofFn]; exact hl, hm, fun h0 => ?_⟩
    rw [List.length_ofFn] at h0
    obtain ⟨g, off, spot⟩ := a
    have hc := (each 0 h0).choose_spec.choose_spec.1
    have hspot : spot = none := by simpa [Addr.add] using World.cell?_spot hc
    subst hspot
    refine ⟨g, off, rfl, fun k hk => ?_⟩
    rw [List.length_ofFn] at hk
    have hs := (each k hk).choose_spec.choose_spec
    refine ⟨(each k hk).choose, ?_, ?_⟩
    · exact (by rw [addr_one] : W.cell? ⟨g, off + k, none⟩ = W.cell? ((⟨g, off, none⟩ : Addr).add k)).trans hs.1
    · rw [List.getElem_ofFn]
      exact hs.2
end Go.Proofs.YtlifjlcfoeednaaDoor
end
