/-
  A region that draws its order and makes a variable in it: each order of the calls and of what is made. Conditions: as each law names them.
-/
import Derived.Test.YtenmgpijhaalbaaEnv
namespace Go.Proofs.Ytenmgpijhaalbaa
open Go.RowKit
set_option linter.unusedVariables false

/-- However a region's operations came about, one continuation serves. -/
theorem loose_share {P : Program} {md : Region.Mode} {ops : Array Oper} {Q : Exit → Act → World → Prop} {fin : Nat → Bool} {w0 w : World} {rs : List (Nat × TypeId × Array Value)} {m : Nat} {listed : Array Bool} {a : Act} {A : Nat → Act} (ty : TypeId) (cs : Array Value)
    (hgo : ∀ g w', Env w0 ((g, ty, cs) :: rs) w' → Q .normal (A g) w') (h : (∀ g w', Env w0 ((g, ty, cs) :: rs) w' → Q .normal (A g) w') → walkS P md ops Q (Env w0 rs) fin m listed a w) : walkS P md ops Q (Env w0 rs) fin m listed a w := h hgo

section
variable {P : Program} {md : Region.Mode} {ops : Array Oper} {Q : Exit → Act → World → Prop} {S : World → Prop} {fin : Nat → Bool}
theorem walkS_two {i j m : Nat} {oi oj : Oper} {listed : Array Bool} {a : Act} {w : World} (hr : Region.ready md ops listed = [i, j]) (hi : ops[i]? = some oi) (hj : ops[j]? = some oj) (hgi : oi.guard = none) (hgj : oj.guard = none)
    (h1 : ∀ K : Act → World → Prop, (∀ a' w', (fin i = true ∨ S w') → walkS P md ops Q S fin m (listed.setIfInBounds i true) a' w' → K a' w') → oi.wp P a w K Q)
    (h2 : ∀ K : Act → World → Prop, (∀ a' w', (fin j = true ∨ S w') → walkS P md ops Q S fin m (listed.setIfInBounds j true) a' w' → K a' w') → oj.wp P a w K Q) : walkS P md ops Q S fin (m + 1) listed a w := by
  refine ⟨fun h0 => (by rw [hr] at h0; cases h0), fun k hk => ?_⟩
  rw [hr] at hk
  rcases List.mem_cons.1 hk with rfl | hk
  · unfold wpOp
    rw [hi]
    have hw : Region.wanted oi (yielded ops a.tmps) = true := by simp [Region.wanted, hgi]
    simp only [hw, if_true]
    exact .inl (h1 _ (fun a' w' h1 h2 => ⟨h1, h2⟩))
  · obtain rfl : k = j := by simpa using hk
    unfold wpOp
    rw [hj]
    have hw : Region.wanted oj (yielded ops a.tmps) = true := by simp [Region.wanted, hgj]
    simp only [hw, if_true]
    exact .inl (h2 _ (fun a' w' h1 h2 => ⟨h1, h2⟩))
/-- Into the walk, with the rows of the call as what abides. -/
theorem region_rows {id : Nat} {w0 w : World} {rs : List (Nat × TypeId × Array Value)} {a : Act} (_ : Env w0 rs w) (hm : P.follows .mixedOrders = true) (h : walkS P .any ops Q (Env w0 rs) fin ops.size (Array.replicate ops.size false) a w.drew) : (Code.region id ops true).wp P Q a w := plain_region hm h
theorem takeE_load {w0 : World} {rs : List (Nat × TypeId × Array Value)} {k : Nat} {oi : Oper} (hi : ops[k]? = some oi) (hs : Region.noSelect ops = true)
    (hw : ((List.range ops.size).all fun j => !fin j || (match ops[j]? with | some oj => oj.after.any (fun e => Region.binds md e && e.on == k) | none => true)) = true)
    (hQ : ∀ v c a w, Q (.panic c) (a.put oi.dst v) w → Q (.panic c) a w) (m : Nat) (listed : Array Bool) (a : Act) (w : World) (hf : Region.free md ops listed k = true) (hr : (Region.ready md ops listed).contains k = true)
    (hgw : Region.wanted oi (yielded ops a.tmps) = true) (ty : TypeId) (x : Operand) (ho : oi.op = .load ty x) (i g : Nat) (t : TypeId) (cs : Array Value) (d : TypeDesc) (hi2 : rs[i]? = some (g, t, cs)) (hx : a.eval x = .pointer (some ⟨g, 0, none⟩))
    (hu : P.underlying ty = some d) (hd : (match d with | .struct _ | .array _ _ => true | _ => false) = true) (hsz : (P.info? ty).map (·.size) = some cs.size) (hE : Env w0 rs w)
    (h : walkS P md ops Q (Env w0 rs) fin m (listed.setIfInBounds k true) (a.put oi.dst (.agg cs)) w) : walkS P md ops Q (Env w0 rs) fin (m + 1) listed a w :=
  walkS_take hi hs hw (hQ _) m listed a w hf hr (.inl ⟨hgw, fun w' hS => run_load_row ty x ho g hx t cs (0, 0) d (hS.row i hi2) hu hd hsz⟩) hE h
end
end Go.Proofs.Ytenmgpijhaalbaa
