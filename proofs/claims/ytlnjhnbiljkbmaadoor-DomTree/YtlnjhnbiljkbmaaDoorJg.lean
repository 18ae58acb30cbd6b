/- dom.Dominates. -/
import Derived.Test.YtlnjhnbiljkbmaaDoorQo
import Derived.Test.YtlnjhnbiljkbmaaDoorNk
namespace Go.Proofs.YtlnjhnbiljkbmaaDoor
open Go.RowKit Go.Shelf

/-- Whether one number's instruction dominates another's. -/
def domB (l : List Is) (a b : Int) : Prop := 0 < l.length ∧ l.length ≤ 1024 ∧ 0 ≤ a ∧ 0 ≤ b ∧ Dm l a.toNat b.toNat
noncomputable def domb (l : List Is) (a b : Int) : Bool := @decide (domB l a b) (Classical.propDecidable _)
theorem domb_true {l : List Is} {a b : Int} : domb l a b = true ↔ domB l a b := @decide_eq_true_iff _ (Classical.propDecidable _)
theorem domb_false {l : List Is} {a b : Int} (h : ¬ domB l a b) : domb l a b = false := by
  cases e : domb l a b with
  | false => rfl
  | true => exact absurd (domb_true.1 e) h
def DmP (l : List Is) (a b : Int) (w : World) (e : Ending) (w' : World) : Prop := e = .returned (.bool (domb l a b)) ∧ Below w.heap.size w w'
theorem out_no {l : List Is} {S : List (List Nat)} (h : IsD l S) {a b : Int} (ho : a < 0 ∨ (S.length : Int) ≤ a ∨ b < 0 ∨ (S.length : Int) ≤ b) : domb l a b = false := by
  refine domb_false fun hd => ?_
  obtain ⟨h1, h2, h3, h4, h5⟩ := hd
  rcases h with ⟨h, rfl⟩ | ⟨_, _, e, _⟩
  · omega
  · have := h5.left.lt h1
    have := h5.1.lt h1
    omega
theorem in_yes {l : List Is} {S : List (List Nat)} (h : IsD l S) {a b : Nat} (hb : b < S.length) : domb l (a : Int) (b : Int) = hasA S b a := by
  rcases h with ⟨h, rfl⟩ | ⟨h1, h2, h3, _, h5⟩
  · simp at hb
  · rw [Bool.eq_iff_iff, domb_true, h5 b (by omega)]
    unfold domB
    simp only [Int.toNat_natCast]
    exact ⟨fun h => h.2.2.2.2, fun h => ⟨h1, h2, by omega, by omega, h⟩⟩
theorem getN {ws : List Nat} {i : Nat} (h : i < ws.length) : ws.getD i 0 = ws[i] := by rw [List.getD_eq_getElem?_getD, List.getElem?_eq_getElem h]; rfl
set_option maxRecDepth 100000 in
set_option maxHeartbeats 4000000 in
theorem dominates_any (f : Fn) (a b : Int) (w : World) (hi : Iss w f.ca f.code) (hc : f.code.length ≤ f.cc) : Calls Tryd.prog 8 #[f.val, .int .i64 a, .int .i64 b] w (DmP f.code a b w) := by
  have HLE : Hid (∀ w', Below w.heap.size w w' → Calls Tryd.prog 18 #[f.val] w' (DoP f.code w')) := fun w' hb => dominators_any f w' (hi.stay hb) hc
  clear hi hc
  obtain ⟨fn, fpa, fpc, fps, frg, fwd, fca, fcc, fl⟩ := f
  unfold Fn.val at *
  simp only at HLE ⊢
  have HB := Hid.mk' (Below.one (Below.refl _ w) (.cells #[.string fn, .slice fpa fps.length fpc, .int .i64 frg, .int .i64 fwd, .slice fca fl.length fcc] 25))
  go_enter Tryd.func8, Tryd.ntmps8
  go_wp2_with fail
  refine (HLE.out _ HB.out).mono ?_
  rintro e W1 ⟨R, S, rfl, hd, hR, hbk, bb1⟩
  have HD := Hid.mk' hd
  have HBK := Hid.mk' hbk
  have HB1 := Hid.mk' (Below.on HB.out bb1)
  have hsl := hd.len
  clear hd hR hbk bb1 HB HLE
  by_cases h1 : a < 0
  · have HN := Hid.mk' (out_no HD.out (a := a) (b := b) (.inl h1))
    go_wp2_with fail
    go_ret
    exact ⟨by rw [HN.out]; rfl, HB1.out⟩
  by_cases h2 : (S.length : Int) ≤ a
  · have HN := Hid.mk' (out_no HD.out (a := a) (b := b) (.inr (.inl h2)))
    go_wp2_with fail
    go_ret
    exact ⟨by rw [HN.out]; rfl, HB1.out⟩
  by_cases h3 : b < 0
  · have HN := Hid.mk' (out_no HD.out (a := a) (b := b) (.inr (.inr (.inl h3))))
    go_wp2_with fail
    go_ret
    exact ⟨by rw [HN.out]; rfl, HB1.out⟩
  by_cases h4 : (S.length : Int) ≤ b
  · have HN := Hid.mk' (out_no HD.out (a := a) (b := b) (.inr (.inr (.inr h4))))
    go_wp2_with fail
    go_ret
    exact ⟨by rw [HN.out]; rfl, HB1.out⟩
  obtain ⟨x, rfl⟩ : ∃ x : Nat, a = x := ⟨a.toNat, by omega⟩
  obtain ⟨y, rfl⟩ : ∃ y : Nat, b = y := ⟨b.toNat, by omega⟩
  have hx : x < 1024 := by omega
  have hy : y < S.length := by omega
  have HY := Hid.mk' (in_yes HD.out (a := x) hy)
  have hyi : (y : Int) < (S.length : Int) := by omega
  have HOK := getD_ok HD.out.ok hy
  have hd64 : x / 64 < (S.getD y []).length := by rw [HOK.len]; omega
  have hcell := flat_range HBK.out (fun ws hw => (HD.out.ok ws hw).len) hy (x / 64) (uV (S.getD y [])[x / 64]) (by rw [← getD_at hy, List.getElem?_map, List.getElem?_eq_getElem hd64]; rfl)
  have HSH := Hid.mk' (shas_any R (y * 16) x (S.getD y [])[x / 64] W1 hx (HOK.lt _ (List.getElem_mem hd64)) hcell)
  have HHS : Hid ((S.getD y [])[x / 64].testBit (x % 64) = hasA S y x) := by
    show _ = _
    unfold hasA hasW
    rw [getN hd64]
  clear hcell HOK
  generalize (S.getD y [])[x / 64] = z at *
  clear hd64
  go_wp2_with (go_at_call 19; refine HSH.out.mono ?_; rintro e w3 ⟨rfl, rfl⟩)
  go_ret
  exact ⟨by rw [HY.out, ← HHS.out]; rfl, HB1.out⟩
end Go.Proofs.YtlnjhnbiljkbmaaDoor

/- A loop over a method's value. -/
namespace Go.Proofs.YtlnjhnbiljkbmaaDoor
open Go.RowKit Go.Shelf Go.Lib
attribute [local go_sem] Oper.semAt_some

/-- What a method that is ranged over promises to a body: the elements of T in their order, as far as the body goes on; a body's word need only bear changes of blocks behind the call that are no cells. -/
def SeqM {α : Type} (gf : Nat) (fst : Array Value) (encs : α → Array Value) (Kp : Nat → World → World → Prop) (T : List α) (w0 : World) : Prop :=
  ∀ (l : Nat) (J Jx : List α → World → Prop) (W : World), Below w0.heap.size w0 W → OwnFrom W.heap.size J → OwnFrom W.heap.size Jx →
    (∀ pre x W1, J pre W1 → (pre ++ [x]) <+: T → YieldAt Fence.wide 0 Tryd.prog l (encs x) W1 fun e W' =>
      Kp W.heap.size W1 W' ∧ ((e = .returned (.bool true) ∧ J (pre ++ [x]) W') ∨ (e = .returned (.bool false) ∧ Jx (pre ++ [x]) W'))) →
    J [] W → CallsIn Fence.wide 0 Tryd.prog gf (fst ++ #[.func (.yield l) #[] #[]]) W fun e W' => (∃ v, e = .returned v) ∧ (J T W' ∨ ∃ pre, pre <+: T ∧ Jx pre W')

/-- The loop's statement, over such a method. -/
theorem range_m {α : Type} {n m : Nat} {g : Operand} {ps : Array Tmp} {assign body : Code} {Q : Exit → Act → World → Prop} {a : Act} {w : World}
    {gf : Nat} {fst : Array Value} (hg : a.eval g = .func (.func gf) fst #[]) (eg : ∀ args w, (callFunc gf args).run Tryd.prog w = .ok (.enter gf args) w)
    {encs : α → Array Value} {Kp : Nat → World → World → Prop} {T : List α} {w0 : World} (hseq : SeqM gf fst encs Kp T w0) (hb0 : Below w0.heap.size w0 w) (hps : ∀ x, (encs x).size = ps.size)
    (hKt : ∀ {X Y Z : World}, Kp (w.heap.size + 1 + 1) X Y → Kp (w.heap.size + 1 + 1) Y Z → Kp (w.heap.size + 1 + 1) X Z) (hKb : ∀ (W : World) (o' : Obj), w.heap.size + 1 < W.heap.size → Kp (w.heap.size + 1 + 1) W (W.putObj (w.heap.size + 1) o'))
    (I : List α → World → Prop) (Ix : Code → List α → World → Prop) (hI : OwnFrom w.heap.size I) (hIx : ∀ c, OwnFrom w.heap.size (Ix c)) (h0 : I [] w) (Ax : α → Act → World → Prop) (hAx : ∀ x a', OwnFrom w.heap.size (fun (_ : Unit) W => Ax x a' W))
    (hassign : ∀ (l : Nat) (pre : List α) (x : α) (W : World), I pre W → (pre ++ [x]) <+: T →
      assign.wpIn (Fence.wide.inRound l) m Tryd.prog (Exit.then (fun a' W' => KeepsFrom w.heap.size W W' ∧ Kp (w.heap.size + 1 + 1) W W' ∧ I pre W' ∧ Ax x a' W') (fun _ _ _ => False)) { tmps := (ps.zip (encs x)).foldl (fun t (p, v) => t.setIfInBounds p v) a.tmps, defers := [] } W)
    (hbody : ∀ (l : Nat) (pre : List α) (x : α) (a' : Act) (W : World), I pre W → Ax x a' W → (pre ++ [x]) <+: T → body.wpIn (Fence.wide.inRound l) m Tryd.prog (postO w.heap.size (Kp (w.heap.size + 1 + 1)) I Ix (pre ++ [x]) W) a' W)
    (hdone : ∀ (W : World), I T W → W.heap[w.heap.size]? = some (.deferred (some [])) → Q .normal { a with defers := { target := .collected w.heap.size, args := #[] } :: a.defers } W)
    (hstop : ∀ (c : Code) (pre : List α) (W : World), pre <+: T → Ix c pre W → W.heap[w.heap.size]? = some (.deferred (some [])) → c.wpIn Fence.wide n Tryd.prog Q { a with defers := { target := .collected w.heap.size, args := #[] } :: a.defers } W) :
    (Code.rangeFunc g ps assign body).wpIn Fence.wide n Tryd.prog Q a w := by
  refine wpIn_rangeFunc fun fn _ => ?_
  obtain ⟨r, hr⟩ : ∃ r : Loop, r = { state := .ready, pending := none, fn, tmps := a.tmps, params := ps, assign, body, defers := w.heap.size } := ⟨_, rfl⟩
  obtain ⟨W1, hW1⟩ : ∃ W1, W1 = (w.alloc (.deferred (some []))).alloc (.loop r) := ⟨_, rfl⟩
  have hsz : W1.heap.size = w.heap.size + 1 + 1 := by rw [hW1]; simp
  have hL : W1.heap[w.heap.size + 1]? = some (.loop r) := by
    rw [hW1]; have := World.alloc_heap_new (w.alloc (.deferred (some []))) (.loop r); rwa [World.size_alloc] at this
  have hD : W1.heap[w.heap.size]? = some (.deferred (some [])) := by
    rw [hW1]; exact (Below.heap_alloc _ _ _ (by simp)).trans (World.alloc_heap_new w _)
  have hI1 : I [] W1 := by rw [hW1]; exact hI.alloc _ (hI.alloc _ h0)
  have hb1 : Below w0.heap.size w0 W1 := by
    rw [hW1]; exact (hb0.alloc hb0.size _).alloc (by have := hb0.size; simp; omega) _
  refine ⟨w.heap.size + 1, [{ target := .collected w.heap.size, args := #[] }], W1, { target := .fn (.func gf) #[], args := fst ++ #[.func (.yield (w.heap.size + 1)) #[] #[]] }, W1, gf, fst ++ #[.func (.yield (w.heap.size + 1)) #[] #[]], W1, ?_, ?_, fun _ _ => trivial, ?_, (fun h => by cases h), ?_⟩
  · rw [hW1, hr]; exact run_enterLoop_outer _ _ _ _ _
  · simp only [resolve, hg]
    simp [go_sem]
  · simp [invoke, go_sem, eg]
  have other : ∀ {o' : Obj} {X : World}, X.heap[w.heap.size]? = some (.deferred (some [])) → (X.putObj (w.heap.size + 1) o').heap[w.heap.size]? = some (.deferred (some [])) := fun h => (World.putObj_heap_other (by omega)).trans h
  refine (calls_any (hseq (w.heap.size + 1)
    (fun pre W => I pre W ∧ W.heap[w.heap.size + 1]? = some (.loop r) ∧ W.heap[w.heap.size]? = some (.deferred (some [])))
    (fun pre W => ∃ c, Ix c pre W ∧ W.heap[w.heap.size + 1]? = some (.loop { r with state := .done, pending := some c }) ∧ W.heap[w.heap.size]? = some (.deferred (some []))) W1 hb1
    ((own_up hI (by omega)).and ((ownFrom_lies (by omega)).and (ownFrom_lies (by omega)))) ?ownx ?rounds ⟨hI1, hL, hD⟩)).mono ?behind
  case ownx =>
    rintro p X Y row ⟨c, h1, h2, h3⟩ hg' hr'
    exact ⟨c, own_up (hIx c) (by omega) p X Y row h1 hg' hr', ownFrom_lies (by omega) p X Y row h2 hg' hr', ownFrom_lies (by omega) p X Y row h3 hg' hr'⟩
  case rounds =>
    rintro pre x W ⟨hi, hl, hd⟩ hpx
    refine one_round (m := m) hl (by rw [hr]) (by rw [hr]; exact hps x) ?_
    have ha' := hassign (w.heap.size + 1) pre x W hi hpx
    have hb' := fun a' W' h1 h2 => hbody (w.heap.size + 1) pre x a' W' h1 h2 hpx
    rw [show assign = r.assign by rw [hr], show ps = r.params by rw [hr], show a.tmps = r.tmps by rw [hr]] at ha'
    rw [show body = r.body by rw [hr]] at hb'
    refine wpIn_mono ha' ?_
    intro e a1 Wa ha
    cases e with
    | normal =>
      obtain ⟨k1, k2, i1, x1⟩ := ha
      have hla := k1.same _ _ (by omega) hl rfl
      have hda := k1.same _ _ (Nat.le_refl _) hd rfl
      have hlt : w.heap.size + 1 < Wa.heap.size := (Array.getElem?_eq_some_iff.1 hla).1
      refine ⟨hla, wpIn_mono (hb' a1 _ (hI.putObj _ i1 (by omega) hla rfl) ((hAx x a1).putObj (s := ()) _ x1 (by omega) hla rfl)) ?_⟩
      have hlb : (Wa.putObj (w.heap.size + 1) (.loop { r with state := .busy })).heap[w.heap.size + 1]? = some (.loop { r with state := .busy }) := World.putObj_heap_same hlt
      have kb := hKb Wa (.loop { r with state := .busy }) hlt
      rintro e a3 W3 ⟨q1, q2, q3⟩
      have hl3 := q1.same (w.heap.size + 1) _ (by omega) hlb rfl
      have h3 : w.heap.size + 1 < W3.heap.size := (Array.getElem?_eq_some_iff.1 hl3).1
      have hd3 := q1.same _ _ (Nat.le_refl _) (other hda) rfl
      have hk3 : ∀ o', Kp W1.heap.size W (W3.putObj (w.heap.size + 1) o') := fun o' => by rw [hsz]; exact hKt k2 (hKt kb (hKt q2 (hKb W3 _ h3)))
      refine ⟨hl3, ?_⟩
      cases e with
      | normal =>
        refine ⟨hk3 _, .inl ⟨rfl, hI.putObj _ q3 (by omega) hl3 rfl, ?_, other hd3⟩⟩
        rw [World.putObj_heap_same h3, hr]
      | ret => exact ⟨hk3 _, .inr ⟨rfl, .ret, (hIx _).putObj _ q3 (by omega) hl3 rfl, World.putObj_heap_same h3, other hd3⟩⟩
      | exit id => exact ⟨hk3 _, .inr ⟨rfl, .exit id, (hIx _).putObj _ q3 (by omega) hl3 rfl, World.putObj_heap_same h3, other hd3⟩⟩
      | goto t => exact ⟨hk3 _, .inr ⟨rfl, .goto t, (hIx _).putObj _ q3 (by omega) hl3 rfl, World.putObj_heap_same h3, other hd3⟩⟩
      | panic _ => exact q3.elim
      | outgrown => exact q3.elim
    | ret => exact ha.elim
    | exit _ => exact ha.elim
    | goto _ => exact ha.elim
    | panic _ => exact ha.elim
    | outgrown => exact ha.elim
  case behind =>
    rintro e W2 ⟨⟨v, rfl⟩, ⟨hi, hl, hd⟩ | ⟨pre, hp, c, hi, hl, hd⟩⟩
    · refine ⟨_, _, run_endLoop (P := Tryd.prog) hl (by rw [hr]; simp), ?_⟩
      rw [show r.pending = none by rw [hr]]
      exact hdone _ (hI.putObj _ hi (by omega) hl rfl) (other hd)
    · exact ⟨_, _, run_endLoop (P := Tryd.prog) hl (by simp), hstop c pre _ hp ((hIx c).putObj _ hi (by omega) hl rfl) (other hd)⟩

end Go.Proofs.YtlnjhnbiljkbmaaDoor
