/- A region that draws its order, within a round: calls of functions too. -/
import Derived.Test.YtfmkjdfidenfkaaDoorYx
import Derived.Test.YtfmkjdfidenfkaaDoorYw
import Derived.OrdersHeld
import Derived.OrdersIn
import Derived.Deep.RegionHeld
namespace Go.Proofs.YtfmkjdfidenfkaaDoor
open Go.RowKit Go.Shelf

/-- An operation that defers nothing and calls for no row. -/
structure Calm (P : Program) (o : Oper) : Prop where
  defer : ∀ c, o.op ≠ .defer c
  row : ∀ w (a : Act), ∀ r args w', (execOp a.eval o).run P w ≠ .ok (.row r args) w'
theorem upon_inR {l n : Nat} {P : Program} {o : Oper} {a : Act} {K : Act → World → Prop} {Q : Exit → Act → World → Prop} {r : Result Next} (hp : ∀ rw args w', r ≠ .ok (.row rw args) w') (h : o.upon P a K Q r) : o.uponIn (Fence.wide.inRound l) n P a K Q r := by
  cases r with
  | ok x w' =>
    cases x with
    | value v => exact h
    | skip => exact h
    | defer d => exact h
    | enter f args => exact ⟨fun e => (by cases e), (callsIn_wide.2 h).inRound l⟩
    | row rw args => exact absurd rfl (hp rw args w')
    | _ => exact h.elim
  | halt x w' => cases x <;> exact h
theorem calm_in {l n : Nat} {P : Program} {o : Oper} {a : Act} {w : World} {K : Act → World → Prop} {Q : Exit → Act → World → Prop} (hs : Calm P o) (h : o.wp P a w K Q) : o.wpIn (Fence.wide.inRound l) n P a w K Q := by
  refine ⟨fun f _ => trivial, ?_⟩
  rw [Oper.semAt_eq _ _ _ hs.defer]
  exact upon_inR (hs.row w a) h
theorem any_inR {l n : Nat} {P : Program} {md : Region.Mode} {ops : Array Oper} {Q : Exit → Act → World → Prop} (hQ : ¬ LetsOut Q) (hs : ∀ (i : Nat) (o : Oper), ops[i]? = some o → Calm P o) : ∀ (fuel : Nat) (listed : Array Bool) (a : Act) (w : World), wpAny P md ops Q fuel listed a w → wpAnyIn (Fence.wide.inRound l) n P md ops Q fuel listed a w
  | 0, _, _, _, h => h
  | fuel + 1, listed, a, w, h => ⟨h.1, fun i hi => by
    have h1 := wpOp_mono (fun a' w' h' => any_inR (l := l) (n := n) hQ hs fuel (listed.setIfInBounds i true) a' w' h') (h.2 i hi)
    unfold wpOp at h1
    unfold wpOpIn
    cases e : ops[i]? with
    | none => simpa only [e] using h1
    | some o =>
      simp only [e] at h1 ⊢
      split
      · rename_i hw
        rw [if_pos hw] at h1
        rcases h1 with h1 | ⟨_, h1⟩
        · exact calm_in (hs i o e) h1
        · exact absurd h1 hQ
      · rename_i hw
        rw [if_neg hw] at h1
        exact ⟨fun f e' => trivial, h1⟩⟩
theorem region_inR (S : World → Prop) {l n : Nat} {P : Program} {id : Nat} {ops : Array Oper} {Q : Exit → Act → World → Prop} {a : Act} {w : World} (hm : P.follows .mixedOrders = true) (hQ : ¬ LetsOut Q) (hs : ∀ (i : Nat) (o : Oper), ops[i]? = some o → Calm P o)
    (h : wpAnyH P .any ops Q S ops.size (Array.replicate ops.size false) a w.drew) : (Code.region id ops true).wpIn (Fence.wide.inRound l) n P Q a w :=
  wpIn_region_any hm (any_inR hQ hs _ _ _ _ (wpAny_of_held _ _ _ _ h))
theorem calm_list {P : Program} {l : List Oper} (h : ∀ o ∈ l, Calm P o) (i : Nat) (o : Oper) (e : l.toArray[i]? = some o) : Calm P o := h o (List.mem_of_getElem? (by rwa [List.getElem?_toArray] at e))
theorem wpAnyH_takeL {P : Program} {md : Region.Mode} {Q : Exit → Act → World → Prop} {S : World → Prop} {l : List Oper} {i : Nat} {oi : Oper} {v : Value} {fuel : Nat} {listed : Array Bool} {a : Act} {w : World} (hi : l[i]? = some oi)
    (hs : Region.noSelect l.toArray = true) (hf : Region.free md l.toArray listed i = true) (hr : (Region.ready md l.toArray listed).contains i = true)
    (hQ : ∀ c a w, Q (.panic c) (a.put oi.dst v) w → Q (.panic c) a w) (hw : Region.wanted oi (yielded l.toArray a.tmps) = true) (hy : ∀ w, S w → (execOp a.eval oi).run P w = .ok (.value v) w) (hS : S w)
    (h : wpAnyH P md l.toArray Q S fuel (listed.setIfInBounds i true) (a.put oi.dst v) w) : wpAnyH P md l.toArray Q S (fuel + 1) listed a w :=
  wpAnyH_take (by simpa using hi) hs hf hr hQ (.inl ⟨hw, hy⟩) hS h
theorem wpAnyH_one {P : Program} {md : Region.Mode} {ops : Array Oper} {Q : Exit → Act → World → Prop} {S : World → Prop} {i : Nat} {o : Oper} {fuel : Nat} {listed : Array Bool} {a : Act} {w : World} (hr : Region.ready md ops listed = [i]) (ho : ops[i]? = some o)
    (h : ∀ K' : Act → World → Prop, Shut (∀ a w, S w → wpAnyH P md ops Q S fuel (listed.setIfInBounds i true) a w → K' a w) → if Region.wanted o (yielded ops a.tmps) = true then Oper.wp P o a w K' Q else K' (a.put o.dst undef) w) : wpAnyH P md ops Q S (fuel + 1) listed a w :=
  wpAnyH_all hr (by simp) fun j hj => by
    rw [List.mem_singleton] at hj
    subst hj
    exact wpOp_step ho (fun K' hK => h K' (fun a w hS hW => hK a w ⟨hS, hW⟩))
theorem calm_v {P : Program} {o : Oper} (hd : ∀ c, o.op ≠ .defer c) (s : (Operand → Value) → Sem Value) (h : ∀ ρ, execOp ρ o = (do pure (.value (← s ρ)))) : Calm P o := ⟨hd, fun w a r args w' e => by
  rw [h a.eval, Sem.run_bind] at e
  cases hs : (s a.eval).run P w <;> rw [hs] at e <;> cases e⟩
theorem calm_move {P : Program} {o : Oper} (x : Operand) (h : o.op = .move x) : Calm P o := ⟨fun c e => (by rw [h] at e; cases e), fun w a r args w' e => by unfold execOp at e; simp only [h] at e; cases e⟩
theorem calm_load {P : Program} {o : Oper} (t : TypeId) (x : Operand) (h : o.op = .load t x) : Calm P o := calm_v (fun c e => (by rw [h] at e; cases e)) _ (fun ρ => by unfold execOp; simp only [h]; rfl)
theorem calm_index {P : Program} {o : Oper} (t : TypeId) (x y : Operand) (h : o.op = .indexAddr t x y) : Calm P o := calm_v (fun c e => (by rw [h] at e; cases e)) _ (fun ρ => by unfold execOp; simp only [h]; rfl)
theorem calm_field {P : Program} {o : Oper} (t : TypeId) (x : Operand) (n : Nat) (h : o.op = .fieldAddr t x n) : Calm P o := calm_v (fun c e => (by rw [h] at e; cases e)) _ (fun ρ => by unfold execOp; simp only [h]; rfl)
def NoRow (r : Result Next) : Prop := ∀ rw args w', r ≠ .ok (.row rw args) w'
theorem noRow_panic (P : Program) (w : World) : NoRow ((runtimePanic .nilDeref : Sem Next).run P w) := fun rw args w' h => by simp [go_sem, runtimePanic] at h
theorem noRow_pure (P : Program) (w : World) (v : Value) : NoRow ((pure (.value v) : Sem Next).run P w) := fun rw args w' h => by cases h
theorem noRow_bind {α : Type} (P : Program) (w : World) (s : Sem α) (k : α → Sem Next) (h : ∀ x w, NoRow ((k x).run P w)) : NoRow ((s >>= k).run P w) := by
  rw [Sem.run_bind]
  intro rw args w' e
  cases hs : s.run P w with
  | ok x w1 => rw [hs] at e; exact h x w1 rw args w' e
  | halt x w1 => rw [hs] at e; cases e
theorem calm_nil {P : Program} {o : Oper} (x : Operand) (h : o.op = .nilCheck x) : Calm P o := ⟨fun c e => (by rw [h] at e; cases e), fun w a => by
  show NoRow _
  unfold execOp
  simp only [h]
  split
  · exact noRow_panic _ _
  · exact noRow_panic _ _
  · exact noRow_panic _ _
  · split
    · exact noRow_panic _ _
    · refine noRow_bind _ _ _ _ fun x w => noRow_bind _ _ _ _ fun y w => ?_
      split
      · exact noRow_bind _ _ _ _ fun z w => noRow_pure _ _ _
      · exact noRow_pure _ _ _
    · exact noRow_pure _ _ _
  · exact noRow_pure _ _ _⟩
theorem calm_copy {P : Program} {o : Oper} (x y : Operand) (t u : TypeId) (h : o.op = .call { callee := .builtin .copy, args := #[x, y], argTypes := #[t, u] }) : Calm P o := by
  refine ⟨fun c e => (by rw [h] at e; cases e), fun w a r args w' e => ?_⟩
  unfold execOp at e
  generalize a.eval = ρ at e
  simp only [h, resolve, invoke, builtin, Sem.run_bind, Sem.run_pure, Result.andThen_ok, List.map_toArray, List.map_cons, List.map_nil] at e
  generalize (Builtin.copy_ #[t, u] o.type #[ρ x, ρ y]).run P w = q at e
  cases q <;> cases e
theorem calm_call {P : Program} {o : Oper} (f : FuncId) (ars : Array Operand) (ts : Array TypeId) (h : o.op = .call { callee := .value (.func f), args := ars, argTypes := ts }) (he : ∀ args w, (callFunc f args).run P w = .ok (.enter f args) w) : Calm P o := by
  refine ⟨fun c e => (by rw [h] at e; cases e), fun w a r args w' e => ?_⟩
  unfold execOp at e
  simp [h, resolve, invoke, go_sem, he] at e
end Go.Proofs.YtfmkjdfidenfkaaDoor
