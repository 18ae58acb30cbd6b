/- A loop over an iterator that reads, between two rounds, what the body writes. -/
import Derived.RangeFuncNested
import Derived.RangeFuncBound
import Derived.RangeFuncCalls
import Derived.RangeFuncLeaves
import Derived.RangeFuncBox
import Derived.Shelf.Abstract
import Derived.Shelf.RegionOpen
import Derived.WalkKit
import Derived.OwnWalkIn
import Derived.TacticsInMore
import Derived.LoopNIn
import Derived.LoopIn
import Derived.Test.YtfmkjdfidenfkaaDoorNf
import Derived.Test.YtfmkjdfidenfkaaDoorUq
namespace Go.Proofs.YtfmkjdfidenfkaaDoor
open Go.RowKit Go.Shelf Go.Lib
attribute [local go_sem] Oper.semAt_some

/-- How deep calls may go does not matter behind the wide fence. -/
theorem round_any {m m' l : Nat} {f : FuncId} {tmps : Array Value} {assign body : Code} {w : World} {R : Ending → World → Prop} (h : RoundIn Fence.wide m Tryd.prog l f tmps assign body w R) : RoundIn Fence.wide m' Tryd.prog l f tmps assign body w R :=
  ⟨h.1, fun c cs _ => h.2 c cs (room_wide _)⟩
theorem calls_any {m m' : Nat} {f : FuncId} {args : Array Value} {w : World} {R : Ending → World → Prop} (h : CallsIn Fence.wide m Tryd.prog f args w R) : CallsIn Fence.wide m' Tryd.prog f args w R :=
  callsIn_wide.2 (callsIn_wide.1 h)

/-- What an iterator promises to a body, which reads between two rounds what the body leaves: the elements of T in their order, as far as the body goes on. -/
def SeqJ {α : Type} (gf : Nat) (lb : Array Value) (encs : α → Array Value) (Rd : List α → World → Prop) (T : List α) (w0 : World) : Prop :=
  ∀ (l : Nat) (J Jx : List α → World → Prop) (W : World), Below w0.heap.size w0 W → OwnFrom W.heap.size J → OwnFrom W.heap.size Jx → (∀ pre W1, J pre W1 → Rd pre W1) →
    (∀ pre x W1, J pre W1 → (pre ++ [x]) <+: T → YieldAt Fence.wide 0 Tryd.prog l (encs x) W1 fun e W' =>
      (e = .returned (.bool true) ∧ J (pre ++ [x]) W') ∨ (e = .returned (.bool false) ∧ Jx (pre ++ [x]) W')) →
    J [] W → CallsIn Fence.wide 0 Tryd.prog gf (#[.func (.yield l) #[] #[]] ++ lb) W fun e W' => (∃ v, e = .returned v) ∧ (J T W' ∨ ∃ pre, pre <+: T ∧ Jx pre W')

theorem own_up {β : Type} {B B' : Nat} {I : β → World → Prop} (h : OwnFrom B I) (hB : B ≤ B') : OwnFrom B' I :=
  fun s W W' row hs hg hr => h s W W' row hs hg (fun r e => ⟨Nat.le_trans hB (hr r e).1, (hr r e).2⟩)
/-- A block ahead of B stays. -/
theorem ownFrom_lies {β : Type} {B k : Nat} {o : Obj} (hk : k < B) : OwnFrom B (fun (_ : β) W => W.heap[k]? = some o) :=
  fun _ X Y row hs hg hr => (hg.block k (Array.getElem?_eq_some_iff.1 hs).1 (fun e => by have := (hr k e.symm).1; omega)).trans hs

/-- One round: the record was ready; the assignment leaves it; the body is left in one of the ways that a body may be left. -/
theorem one_round {m l : Nat} {r : Loop} {W : World} {args : Array Value} {R : Ending → World → Prop} (hl : W.heap[l]? = some (.loop r)) (hr : r.state = .ready) (hs : args.size = r.params.size)
    (h : r.assign.wpIn (Fence.wide.inRound l) m Tryd.prog (Exit.then (fun a' W' => W'.heap[l]? = some (.loop r) ∧ r.body.wpIn (Fence.wide.inRound l) m Tryd.prog (fun e _ W3 => W3.heap[l]? = some (.loop { r with state := .busy }) ∧
        (match e with
         | .normal => R (.returned (.bool true)) (W3.putObj l (.loop { r with pending := none }))
         | .ret => R (.returned (.bool false)) (W3.putObj l (.loop { r with state := .done, pending := some .ret }))
         | .exit id => R (.returned (.bool false)) (W3.putObj l (.loop { r with state := .done, pending := some (.exit id) }))
         | .goto t => R (.returned (.bool false)) (W3.putObj l (.loop { r with state := .done, pending := some (.goto t) }))
         | .panic _ => False
         | .outgrown => False)) a' (W'.putObj l (.loop { r with state := .busy }))) (fun _ _ _ => False))
      { tmps := (r.params.zip args).foldl (fun t (p, v) => t.setIfInBounds p v) r.tmps, defers := [] } W) :
    YieldAt Fence.wide 0 Tryd.prog l args W R := by
  refine ⟨r.fn, _, r.assign, r.body, run_yield hl hs, round_any (m := m) (roundIn_of_wpIn trivial (wpIn_mono h ?_))⟩
  intro e a1 W1 h1
  cases e with
  | normal =>
    obtain ⟨h2, h3⟩ := h1
    refine ⟨_, run_beginRound h2 hr, wpIn_mono h3 ?_⟩
    rintro e a3 W3 ⟨hb, h4⟩
    cases e with
    | normal =>
      have := run_endRound (P := Tryd.prog) none hb
      refine ⟨_, _, this, ?_⟩
      have he : (Loop.mk .ready none r.fn r.tmps r.params r.assign r.body r.defers) = { r with pending := none } := by rw [← hr]
      exact (show R _ (W3.putObj l (.loop (Loop.mk .ready none r.fn r.tmps r.params r.assign r.body r.defers))) from he ▸ h4)
    | ret => exact ⟨_, _, run_endRound (P := Tryd.prog) (some .ret) hb, h4⟩
    | exit id => exact ⟨_, _, run_endRound (P := Tryd.prog) (some (.exit id)) hb, h4⟩
    | goto t => exact ⟨_, _, run_endRound (P := Tryd.prog) (some (.goto t)) hb, h4⟩
    | panic _ => exact h4.elim
    | outgrown => exact h4.elim
  | ret => exact h1.elim
  | exit _ => exact h1.elim
  | goto _ => exact h1.elim
  | panic _ => exact h1.elim
  | outgrown => exact h1.elim


/-- How a body may be left. -/
def postJ {α : Type} (B : Nat) (I : List α → World → Prop) (Ix : Code → List α → World → Prop) (xs : List α) (W : World) (e : Exit) (_ : Act) (W' : World) : Prop :=
  KeepsFrom B W W' ∧
    (match e with
     | .normal => I xs W'
     | .ret => Ix .ret xs W'
     | .exit id => Ix (.exit id) xs W'
     | .goto t => Ix (.goto t) xs W'
     | .panic _ => False
     | .outgrown => False)

/-- The loop's statement. -/
theorem range_j {α : Type} {n m : Nat} {g : Operand} {ps : Array Tmp} {assign body : Code} {Q : Exit → Act → World → Prop} {a : Act} {w : World}
    {gf : Nat} {lb : Array Value} (hg : a.eval g = .func (.func gf) #[] lb) (eg : ∀ args w, (callFunc gf args).run Tryd.prog w = .ok (.enter gf args) w)
    {encs : α → Array Value} {Rd : List α → World → Prop} {T : List α} {w0 : World} (hseq : SeqJ gf lb encs Rd T w0) (hb0 : Below w0.heap.size w0 w) (hps : ∀ x, (encs x).size = ps.size)
    (I : List α → World → Prop) (Ix : Code → List α → World → Prop) (hI : OwnFrom w.heap.size I) (hIx : ∀ c, OwnFrom w.heap.size (Ix c)) (hRd : ∀ pre W, I pre W → Rd pre W) (h0 : I [] w) (Ax : α → Act → World → Prop) (hAx : ∀ x a', OwnFrom w.heap.size (fun (_ : Unit) W => Ax x a' W))
    (hassign : ∀ (l : Nat) (pre : List α) (x : α) (W : World), I pre W → (pre ++ [x]) <+: T →
      assign.wpIn (Fence.wide.inRound l) m Tryd.prog (Exit.then (fun a' W' => KeepsFrom w.heap.size W W' ∧ I pre W' ∧ Ax x a' W') (fun _ _ _ => False)) { tmps := (ps.zip (encs x)).foldl (fun t (p, v) => t.setIfInBounds p v) a.tmps, defers := [] } W)
    (hbody : ∀ (l : Nat) (pre : List α) (x : α) (a' : Act) (W : World), I pre W → Ax x a' W → (pre ++ [x]) <+: T → body.wpIn (Fence.wide.inRound l) m Tryd.prog (postJ w.heap.size I Ix (pre ++ [x]) W) a' W)
    (hdone : ∀ (W : World), I T W → W.heap[w.heap.size]? = some (.deferred (some [])) → Q .normal { a with defers := { target := .collected w.heap.size, args := #[] } :: a.defers } W)
    (hstop : ∀ (c : Code) (pre : List α) (W : World), pre <+: T → Ix c pre W → W.heap[w.heap.size]? = some (.deferred (some [])) → c.wpIn Fence.wide n Tryd.prog Q { a with defers := { target := .collected w.heap.size, args := #[] } :: a.defers } W) :
    (Code.rangeFunc g ps assign body).wpIn Fence.wide n Tryd.prog Q a w := by
  refine wpIn_rangeFunc fun fn _ => ?_
  obtain ⟨r, hr⟩ : ∃ r : Loop, r = { state := .ready, pending := none, fn, tmps := a.tmps, params := ps, assign, body, defers := w.heap.size } := ⟨_, rfl⟩
  obtain ⟨W1, hW1⟩ : ∃ W1, W1 = (w.alloc (.deferred (some []))).alloc (.loop r) := ⟨_, rfl⟩
  have hsz : W1.heap.size = w.heap.size + 1 + 1 := by rw [hW1]; simp
  have hL : W1.heap[w.heap.size + 1]? = some (.loop r) := by
    rw [hW1]; have := World.alloc_heap_new (w.alloc (.deferred (some []))) (.loop r); rwa [World.size_alloc] at this
  have hD : W1.heap[w.heap.size]? = some (.deferred (some [])) := by
    rw [hW1]; exact (Below.heap_alloc _ _ _ (by simp)).trans (World.alloc_heap_new w _)
  have hI1 : I [] W1 := by rw [hW1]; exact hI.alloc _ (hI.alloc _ h0)
  have hb1 : Below w0.heap.size w0 W1 := by
    rw [hW1]; exact (hb0.alloc hb0.size _).alloc (by have := hb0.size; simp; omega) _
  refine ⟨w.heap.size + 1, [{ target := .collected w.heap.size, args := #[] }], W1, { target := .fn (.func gf) lb, args := #[.func (.yield (w.heap.size + 1)) #[] #[]] }, W1, gf, #[.func (.yield (w.heap.size + 1)) #[] #[]] ++ lb, W1, ?_, ?_, fun _ _ => trivial, ?_, (fun h => by cases h), ?_⟩
  · rw [hW1, hr]; exact run_enterLoop_outer _ _ _ _ _
  · simp only [resolve, hg]
    simp [go_sem]
  · simp [invoke, go_sem, eg]
  have other : ∀ {o' : Obj} {X : World}, X.heap[w.heap.size]? = some (.deferred (some [])) → (X.putObj (w.heap.size + 1) o').heap[w.heap.size]? = some (.deferred (some [])) := fun h => (World.putObj_heap_other (by omega)).trans h
  refine (calls_any (hseq (w.heap.size + 1)
    (fun pre W => I pre W ∧ W.heap[w.heap.size + 1]? = some (.loop r) ∧ W.heap[w.heap.size]? = some (.deferred (some [])))
    (fun pre W => ∃ c, Ix c pre W ∧ W.heap[w.heap.size + 1]? = some (.loop { r with state := .done, pending := some c }) ∧ W.heap[w.heap.size]? = some (.deferred (some []))) W1 hb1
    ((own_up hI (by omega)).and ((ownFrom_lies (by omega)).and (ownFrom_lies (by omega)))) ?ownx (fun pre W1 h => hRd pre W1 h.1) ?rounds ⟨hI1, hL, hD⟩)).mono ?behind
  case ownx =>
    rintro p X Y row ⟨c, h1, h2, h3⟩ hg' hr'
    exact ⟨c, own_up (hIx c) (by omega) p X Y row h1 hg' hr', ownFrom_lies (by omega) p X Y row h2 hg' hr', ownFrom_lies (by omega) p X Y row h3 hg' hr'⟩
  case rounds =>
    rintro pre x W ⟨hi, hl, hd⟩ hpx
    refine one_round (m := m) hl (by rw [hr]) (by rw [hr]; exact hps x) ?_
    have ha' := hassign (w.heap.size + 1) pre x W hi hpx
    have hb' := fun a' W' h1 h2 => hbody (w.heap.size + 1) pre x a' W' h1 h2 hpx
    rw [show assign = r.assign by rw [hr], show ps = r.params by rw [hr], show a.tmps = r.tmps by rw [hr]] at ha'
    rw [show body = r.body by rw [hr]] at hb'
    refine wpIn_mono ha' ?_
    intro e a1 Wa ha
    cases e with
    | normal =>
      obtain ⟨k1, i1, x1⟩ := ha
      have hla := k1.same _ _ (by omega) hl rfl
      have hda := k1.same _ _ (Nat.le_refl _) hd rfl
      have hlt : w.heap.size + 1 < Wa.heap.size := (Array.getElem?_eq_some_iff.1 hla).1
      refine ⟨hla, wpIn_mono (hb' a1 _ (hI.putObj _ i1 (by omega) hla rfl) ((hAx x a1).putObj (s := ()) _ x1 (by omega) hla rfl)) ?_⟩
      have hlb : (Wa.putObj (w.heap.size + 1) (.loop { r with state := .busy })).heap[w.heap.size + 1]? = some (.loop { r with state := .busy }) := World.putObj_heap_same hlt
      rintro e a3 W3 ⟨q1, q3⟩
      have hl3 := q1.same (w.heap.size + 1) _ (by omega) hlb rfl
      have h3 : w.heap.size + 1 < W3.heap.size := (Array.getElem?_eq_some_iff.1 hl3).1
      have hd3 := q1.same _ _ (Nat.le_refl _) (other hda) rfl
      refine ⟨hl3, ?_⟩
      cases e with
      | normal =>
        refine .inl ⟨rfl, hI.putObj _ q3 (by omega) hl3 rfl, ?_, other hd3⟩
        rw [World.putObj_heap_same h3, hr]
      | ret => exact .inr ⟨rfl, .ret, (hIx _).putObj _ q3 (by omega) hl3 rfl, World.putObj_heap_same h3, other hd3⟩
      | exit id => exact .inr ⟨rfl, .exit id, (hIx _).putObj _ q3 (by omega) hl3 rfl, World.putObj_heap_same h3, other hd3⟩
      | goto t => exact .inr ⟨rfl, .goto t, (hIx _).putObj _ q3 (by omega) hl3 rfl, World.putObj_heap_same h3, other hd3⟩
      | panic _ => exact q3.elim
      | outgrown => exact q3.elim
    | ret => exact ha.elim
    | exit _ => exact ha.elim
    | goto _ => exact ha.elim
    | panic _ => exact ha.elim
    | outgrown => exact ha.elim
  case behind =>
    rintro e W2 ⟨⟨v, rfl⟩, ⟨hi, hl, hd⟩ | ⟨pre, hp, c, hi, hl, hd⟩⟩
    · refine ⟨_, _, run_endLoop (P := Tryd.prog) hl (by rw [hr]; simp), ?_⟩
      rw [show r.pending = none by rw [hr]]
      exact hdone _ (hI.putObj _ hi (by omega) hl rfl) (other hd)
    · exact ⟨_, _, run_endLoop (P := Tryd.prog) hl (by simp), hstop c pre _ hp ((hIx c).putObj _ hi (by omega) hl rfl) (other hd)⟩
end Go.Proofs.YtfmkjdfidenfkaaDoor
