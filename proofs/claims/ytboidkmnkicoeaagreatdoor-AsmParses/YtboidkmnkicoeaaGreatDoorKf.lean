/- A loop over a function that itself loops over a function: what a body keeps may speak of all blocks that are no cells, as long as they lay ahead of the call. -/
import Derived.Test.YtboidkmnkicoeaaGreatDoorJh
import Derived.Sort.CutIn
import Derived.BigRegionIn
namespace Go.Proofs.YtboidkmnkicoeaaGreatDoor
open Go.RowKit Go.Shelf Go.Lib
attribute [local go_sem] Oper.semAt_some

/-- How deep calls may go does not matter behind the wide fence. -/
theorem round_any {m m' l : Nat} {f : FuncId} {tmps : Array Value} {assign body : Code} {w : World} {R : Ending → World → Prop} (h : RoundIn Fence.wide m Tryz.prog l f tmps assign body w R) : RoundIn Fence.wide m' Tryz.prog l f tmps assign body w R :=
  ⟨h.1, fun c cs _ => h.2 c cs (room_wide _)⟩
theorem calls_any {m m' : Nat} {f : FuncId} {args : Array Value} {w : World} {R : Ending → World → Prop} (h : CallsIn Fence.wide m Tryz.prog f args w R) : CallsIn Fence.wide m' Tryz.prog f args w R :=
  callsIn_wide.2 (callsIn_wide.1 h)

/-- What an iterator promises to a body: the elements of T in their order, as far as the body goes on; a body's word need only bear changes of blocks behind the call that are no cells. -/
def SeqO {α : Type} (gf : Nat) (lb : Array Value) (encs : α → Array Value) (Kp : Nat → World → World → Prop) (T : List α) (w0 : World) : Prop :=
  ∀ (l : Nat) (J Jx : List α → World → Prop) (W : World), Below w0.heap.size w0 W → OwnFrom W.heap.size J → OwnFrom W.heap.size Jx →
    (∀ pre x W1, J pre W1 → (pre ++ [x]) <+: T → YieldAt Fence.wide 0 Tryz.prog l (encs x) W1 fun e W' =>
      Kp W.heap.size W1 W' ∧ ((e = .returned (.bool true) ∧ J (pre ++ [x]) W') ∨ (e = .returned (.bool false) ∧ Jx (pre ++ [x]) W'))) →
    J [] W → CallsIn Fence.wide 0 Tryz.prog gf (#[.func (.yield l) #[] #[]] ++ lb) W fun e W' => (∃ v, e = .returned v) ∧ (J T W' ∨ ∃ pre, pre <+: T ∧ Jx pre W')

theorem own_up {β : Type} {B B' : Nat} {I : β → World → Prop} (h : OwnFrom B I) (hB : B ≤ B') : OwnFrom B' I :=
  fun s W W' row hs hg hr => h s W W' row hs hg (fun r e => ⟨Nat.le_trans hB (hr r e).1, (hr r e).2⟩)
/-- A block ahead of B stays. -/
theorem ownFrom_lies {β : Type} {B k : Nat} {o : Obj} (hk : k < B) : OwnFrom B (fun (_ : β) W => W.heap[k]? = some o) :=
  fun _ X Y row hs hg hr => (hg.block k (Array.getElem?_eq_some_iff.1 hs).1 (fun e => by have := (hr k e.symm).1; omega)).trans hs

/-- One round: the record was ready; the assignment leaves it; the body is left in one of the ways that a body may be left. -/
theorem one_round {m l : Nat} {r : Loop} {W : World} {args : Array Value} {R : Ending → World → Prop} (hl : W.heap[l]? = some (.loop r)) (hr : r.state = .ready) (hs : args.size = r.params.size)
    (h : r.assign.wpIn (Fence.wide.inRound l) m Tryz.prog (Exit.then (fun a' W' => W'.heap[l]? = some (.loop r) ∧ r.body.wpIn (Fence.wide.inRound l) m Tryz.prog (fun e _ W3 => W3.heap[l]? = some (.loop { r with state := .busy }) ∧
        (match e with
         | .normal => R (.returned (.bool true)) (W3.putObj l (.loop { r with pending := none }))
         | .ret => R (.returned (.bool false)) (W3.putObj l (.loop { r with state := .done, pending := some .ret }))
         | .exit id => R (.returned (.bool false)) (W3.putObj l (.loop { r with state := .done, pending := some (.exit id) }))
         | .goto t => R (.returned (.bool false)) (W3.putObj l (.loop { r with state := .done, pending := some (.goto t) }))
         | .panic _ => False
         | .outgrown => False)) a' (W'.putObj l (.loop { r with state := .busy }))) (fun _ _ _ => False))
      { tmps := (r.params.zip args).foldl (fun t (p, v) => t.setIfInBounds p v) r.tmps, defers := [] } W) :
    YieldAt Fence.wide 0 Tryz.prog l args W R := by
  refine ⟨r.fn, _, r.assign, r.body, run_yield hl hs, round_any (m := m) (roundIn_of_wpIn trivial (wpIn_mono h ?_))⟩
  intro e a1 W1 h1
  cases e with
  | normal =>
    obtain ⟨h2, h3⟩ := h1
    refine ⟨_, run_beginRound h2 hr, wpIn_mono h3 ?_⟩
    rintro e a3 W3 ⟨hb, h4⟩
    cases e with
    | normal =>
      have := run_endRound (P := Tryz.prog) none hb
      refine ⟨_, _, this, ?_⟩
      have he : (Loop.mk .ready none r.fn r.tmps r.params r.assign r.body r.defers) = { r with pending := none } := by rw [← hr]
      exact (show R _ (W3.putObj l (.loop (Loop.mk .ready none r.fn r.tmps r.params r.assign r.body r.defers))) from he ▸ h4)
    | ret => exact ⟨_, _, run_endRound (P := Tryz.prog) (some .ret) hb, h4⟩
    | exit id => exact ⟨_, _, run_endRound (P := Tryz.prog) (some (.exit id)) hb, h4⟩
    | goto t => exact ⟨_, _, run_endRound (P := Tryz.prog) (some (.goto t)) hb, h4⟩
    | panic _ => exact h4.elim
    | outgrown => exact h4.elim
  | ret => exact h1.elim
  | exit _ => exact h1.elim
  | goto _ => exact h1.elim
  | panic _ => exact h1.elim
  | outgrown => exact h1.elim


/-- How a body may be left: what it keeps is kept whichever way it is left. -/
def postO {α : Type} (B : Nat) (Kp : World → World → Prop) (I : List α → World → Prop) (Ix : Code → List α → World → Prop) (xs : List α) (W : World) (e : Exit) (_ : Act) (W' : World) : Prop :=
  KeepsFrom B W W' ∧ Kp W W' ∧
    (match e with
     | .normal => I xs W'
     | .ret => Ix .ret xs W'
     | .exit id => Ix (.exit id) xs W'
     | .goto t => Ix (.goto t) xs W'
     | .panic _ => False
     | .outgrown => False)

/-- The loop's statement: the iterator is one that SeqO speaks of. -/
theorem range_o {α : Type} {n m : Nat} {g : Operand} {ps : Array Tmp} {assign body : Code} {Q : Exit → Act → World → Prop} {a : Act} {w : World}
    {gf : Nat} {lb : Array Value} (hg : a.eval g = .func (.func gf) #[] lb) (eg : ∀ args w, (callFunc gf args).run Tryz.prog w = .ok (.enter gf args) w)
    {encs : α → Array Value} {Kp : Nat → World → World → Prop} {T : List α} {w0 : World} (hseq : SeqO gf lb encs Kp T w0) (hb0 : Below w0.heap.size w0 w) (hps : ∀ x, (encs x).size = ps.size)
    (hKt : ∀ {X Y Z : World}, Kp (w.heap.size + 1 + 1) X Y → Kp (w.heap.size + 1 + 1) Y Z → Kp (w.heap.size + 1 + 1) X Z) (hKb : ∀ (W : World) (o' : Obj), w.heap.size + 1 < W.heap.size → Kp (w.heap.size + 1 + 1) W (W.putObj (w.heap.size + 1) o'))
    (I : List α → World → Prop) (Ix : Code → List α → World → Prop) (hI : OwnFrom w.heap.size I) (hIx : ∀ c, OwnFrom w.heap.size (Ix c)) (h0 : I [] w) (Ax : α → Act → World → Prop) (hAx : ∀ x a', OwnFrom w.heap.size (fun (_ : Unit) W => Ax x a' W))
    (hassign : ∀ (l : Nat) (pre : List α) (x : α) (W : World), I pre W → (pre ++ [x]) <+: T →
      assign.wpIn (Fence.wide.inRound l) m Tryz.prog (Exit.then (fun a' W' => KeepsFrom w.heap.size W W' ∧ Kp (w.heap.size + 1 + 1) W W' ∧ I pre W' ∧ Ax x a' W') (fun _ _ _ => False)) { tmps := (ps.zip (encs x)).foldl (fun t (p, v) => t.setIfInBounds p v) a.tmps, defers := [] } W)
    (hbody : ∀ (l : Nat) (pre : List α) (x : α) (a' : Act) (W : World), I pre W → Ax x a' W → (pre ++ [x]) <+: T → body.wpIn (Fence.wide.inRound l) m Tryz.prog (postO w.heap.size (Kp (w.heap.size + 1 + 1)) I Ix (pre ++ [x]) W) a' W)
    (hdone : ∀ (W : World), I T W → W.heap[w.heap.size]? = some (.deferred (some [])) → Q .normal { a with defers := { target := .collected w.heap.size, args := #[] } :: a.defers } W)
    (hstop : ∀ (c : Code) (pre : List α) (W : World), pre <+: T → Ix c pre W → W.heap[w.heap.size]? = some (.deferred (some [])) → c.wpIn Fence.wide n Tryz.prog Q { a with defers := { target := .collected w.heap.size, args := #[] } :: a.defers } W) :
    (Code.rangeFunc g ps assign body).wpIn Fence.wide n Tryz.prog Q a w := by
  refine wpIn_rangeFunc fun fn _ => ?_
  obtain ⟨r, hr⟩ : ∃ r : Loop, r = { state := .ready, pending := none, fn, tmps := a.tmps, params := ps, assign, body, defers := w.heap.size } := ⟨_, rfl⟩
  obtain ⟨W1, hW1⟩ : ∃ W1, W1 = (w.alloc (.deferred (some []))).alloc (.loop r) := ⟨_, rfl⟩
  have hsz : W1.heap.size = w.heap.size + 1 + 1 := by rw [hW1]; simp
  have hL : W1.heap[w.heap.size + 1]? = some (.loop r) := by
    rw [hW1]; have := World.alloc_heap_new (w.alloc (.deferred (some []))) (.loop r); rwa [World.size_alloc] at this
  have hD : W1.heap[w.heap.size]? = some (.deferred (some [])) := by
    rw [hW1]; exact (Below.heap_alloc _ _ _ (by simp)).trans (World.alloc_heap_new w _)
  have hI1 : I [] W1 := by rw [hW1]; exact hI.alloc _ (hI.alloc _ h0)
  have hb1 : Below w0.heap.size w0 W1 := by
    rw [hW1]; exact (hb0.alloc hb0.size _).alloc (by have := hb0.size; simp; omega) _
  refine ⟨w.heap.size + 1, [{ target := .collected w.heap.size, args := #[] }], W1, { target := .fn (.func gf) lb, args := #[.func (.yield (w.heap.size + 1)) #[] #[]] }, W1, gf, #[.func (.yield (w.heap.size + 1)) #[] #[]] ++ lb, W1, ?_, ?_, fun _ _ => trivial, ?_, (fun h => by cases h), ?_⟩
  · rw [hW1, hr]; exact run_enterLoop_outer _ _ _ _ _
  · simp only [resolve, hg]
    simp [go_sem]
  · simp [invoke, go_sem, eg]
  have other : ∀ {o' : Obj} {X : World}, X.heap[w.heap.size]? = some (.deferred (some [])) → (X.putObj (w.heap.size + 1) o').heap[w.heap.size]? = some (.deferred (some [])) := fun h => (World.putObj_heap_other (by omega)).trans h
  refine (calls_any (hseq (w.heap.size + 1)
    (fun pre W => I pre W ∧ W.heap[w.heap.size + 1]? = some (.loop r) ∧ W.heap[w.heap.size]? = some (.deferred (some [])))
    (fun pre W => ∃ c, Ix c pre W ∧ W.heap[w.heap.size + 1]? = some (.loop { r with state := .done, pending := some c }) ∧ W.heap[w.heap.size]? = some (.deferred (some []))) W1 hb1
    ((own_up hI (by omega)).and ((ownFrom_lies (by omega)).and (ownFrom_lies (by omega)))) ?ownx ?rounds ⟨hI1, hL, hD⟩)).mono ?behind
  case ownx =>
    rintro p X Y row ⟨c, h1, h2, h3⟩ hg' hr'
    exact ⟨c, own_up (hIx c) (by omega) p X Y row h1 hg' hr', ownFrom_lies (by omega) p X Y row h2 hg' hr', ownFrom_lies (by omega) p X Y row h3 hg' hr'⟩
  case rounds =>
    rintro pre x W ⟨hi, hl, hd⟩ hpx
    refine one_round (m := m) hl (by rw [hr]) (by rw [hr]; exact hps x) ?_
    have ha' := hassign (w.heap.size + 1) pre x W hi hpx
    have hb' := fun a' W' h1 h2 => hbody (w.heap.size + 1) pre x a' W' h1 h2 hpx
    rw [show assign = r.assign by rw [hr], show ps = r.params by rw [hr], show a.tmps = r.tmps by rw [hr]] at ha'
    rw [show body = r.body by rw [hr]] at hb'
    refine wpIn_mono ha' ?_
    intro e a1 Wa ha
    cases e with
    | normal =>
      obtain ⟨k1, k2, i1, x1⟩ := ha
      have hla := k1.same _ _ (by omega) hl rfl
      have hda := k1.same _ _ (Nat.le_refl _) hd rfl
      have hlt : w.heap.size + 1 < Wa.heap.size := (Array.getElem?_eq_some_iff.1 hla).1
      refine ⟨hla, wpIn_mono (hb' a1 _ (hI.putObj _ i1 (by omega) hla rfl) ((hAx x a1).putObj (s := ()) _ x1 (by omega) hla rfl)) ?_⟩
      have hlb : (Wa.putObj (w.heap.size + 1) (.loop { r with state := .busy })).heap[w.heap.size + 1]? = some (.loop { r with state := .busy }) := World.putObj_heap_same hlt
      have kb := hKb Wa (.loop { r with state := .busy }) hlt
      rintro e a3 W3 ⟨q1, q2, q3⟩
      have hl3 := q1.same (w.heap.size + 1) _ (by omega) hlb rfl
      have h3 : w.heap.size + 1 < W3.heap.size := (Array.getElem?_eq_some_iff.1 hl3).1
      have hd3 := q1.same _ _ (Nat.le_refl _) (other hda) rfl
      have hk3 : ∀ o', Kp W1.heap.size W (W3.putObj (w.heap.size + 1) o') := fun o' => by rw [hsz]; exact hKt k2 (hKt kb (hKt q2 (hKb W3 _ h3)))
      refine ⟨hl3, ?_⟩
      cases e with
      | normal =>
        refine ⟨hk3 _, .inl ⟨rfl, hI.putObj _ q3 (by omega) hl3 rfl, ?_, other hd3⟩⟩
        rw [World.putObj_heap_same h3, hr]
      | ret => exact ⟨hk3 _, .inr ⟨rfl, .ret, (hIx _).putObj _ q3 (by omega) hl3 rfl, World.putObj_heap_same h3, other hd3⟩⟩
      | exit id => exact ⟨hk3 _, .inr ⟨rfl, .exit id, (hIx _).putObj _ q3 (by omega) hl3 rfl, World.putObj_heap_same h3, other hd3⟩⟩
      | goto t => exact ⟨hk3 _, .inr ⟨rfl, .goto t, (hIx _).putObj _ q3 (by omega) hl3 rfl, World.putObj_heap_same h3, other hd3⟩⟩
      | panic _ => exact q3.elim
      | outgrown => exact q3.elim
    | ret => exact ha.elim
    | exit _ => exact ha.elim
    | goto _ => exact ha.elim
    | panic _ => exact ha.elim
    | outgrown => exact ha.elim
  case behind =>
    rintro e W2 ⟨⟨v, rfl⟩, ⟨hi, hl, hd⟩ | ⟨pre, hp, c, hi, hl, hd⟩⟩
    · refine ⟨_, _, run_endLoop (P := Tryz.prog) hl (by rw [hr]; simp), ?_⟩
      rw [show r.pending = none by rw [hr]]
      exact hdone _ (hI.putObj _ hi (by omega) hl rfl) (other hd)
    · exact ⟨_, _, run_endLoop (P := Tryz.prog) hl (by simp), hstop c pre _ hp ((hIx c).putObj _ hi (by omega) hl rfl) (other hd)⟩

/-- What a round keeps: what walks there are from i on, and the box of the line. -/
def KpO (B i : Nat) (W W' : World) : Prop := W.heap.size ≤ W'.heap.size ∧ (∀ (k : Nat) (o : Obj), i ≤ k → W.heap[k]? = some o → o.isWalk = true → W'.heap[k]? = some o) ∧ W'.heap[B]? = W.heap[B]?
theorem kpO_t {B i : Nat} {X Y Z : World} (h : KpO B i X Y) (k : KpO B i Y Z) : KpO B i X Z := ⟨Nat.le_trans h.1 k.1, fun j o hj h1 h2 => k.2.1 j o hj (h.2.1 j o hj h1 h2) h2, k.2.2.trans h.2.2⟩
theorem kpO_b {B i l : Nat} (hB : B < l) (hl : l < i) (W : World) (o' : Obj) : KpO B i W (W.putObj l o') := ⟨by simp, fun k o hk h _ => (World.putObj_heap_other (by omega)).trans h, World.putObj_heap_other (by omega)⟩
theorem own_abides {β : Type} {B : Nat} {I : β → World → Prop} (h : OwnFrom B I) : AbidesFrom B I := fun s W W' row hs hg hr => h s W W' row hs hg (fun r e => by obtain ⟨h1, o, h2, h3⟩ := hr r e; exact ⟨h1, o, h2, Obj.not_cells_of_walk h3⟩)
set_option maxRecDepth 100000 in
set_option maxHeartbeats 2000000 in
theorem words1_o (n l B : Nat) (hn : 1 ≤ n) (s : ByteArray) (hs : s.size ≤ 140737488351232) (L : List (Nat × Bt)) (hL : L = plc 0 (spl 32 s.data.toList)) (J Jx : List (Nat × Bt) → World → Prop) (W : World) (hJ : AbidesFrom W.heap.size J)
    (hY : ∀ pre x W1, J pre W1 → (pre ++ [x]) <+: L → YieldAt Fence.wide (n - 1) Tryz.prog l (encW x) W1 fun e W' =>
      KpO B W.heap.size W1 W' ∧ ((e = .returned (.bool true) ∧ J (pre ++ [x]) W') ∨ (e = .returned (.bool false) ∧ Jx (pre ++ [x]) W')))
    (hB : W.heap[B]? = some (.cells #[.string s] 9)) (h0 : J [] W) :
    CallsIn Fence.wide n Tryz.prog 24 #[.func (.yield l) #[] #[], .pointer (some ⟨B, 0, none⟩)] W fun e W' => (∃ v, e = .returned v) ∧
      (J L W' ∨ ∃ pre, pre <+: L ∧ Jx pre W') := by
  have c0 := cell_of_obj hB (j := 0) (v := .string s) rfl
  have hlt : B < W.heap.size := (Array.getElem?_eq_some_iff.1 hB).1
  have b1 : (W.iter s 0).heap[B]? = some (.cells #[.string s] 9) := (Below.heap_alloc W _ B hlt).trans hB
  have j1 : J [] (W.iter s 0) := hJ [] W _ none h0 (grown_alloc W _) (by simp)
  have i1 := World.iter_heap W s 0
  have HL := Hid.mk' hL
  have HJ := Hid.mk' hJ
  have HY := Hid.mk' hY
  clear hL hJ hY h0 hB
  refine callsIn_of_wp Tryz.func24 rfl trivial ?_ rfl
  simp only [Tryz.ntmps24, List.size_toArray, List.length_cons, List.length_nil, Nat.reduceAdd, Nat.reduceSub, Array.replicate_succ, Array.replicate_zero, List.push_toArray, List.append_toArray, List.nil_append, List.cons_append]
  gi_wp2_with fail
  generalize hW1 : W.iter s 0 = W1 at *
  clear hW1 c0
  gi_loopw [3] (fun t3 wr => ∃ (i p : Nat) (pre : List (Nat × Bt)), t3 = .int .i64 i ∧ i ≤ p ∧ p ≤ s.size ∧ wr.heap[W.heap.size]? = some (.stringIter s p) ∧ wr.heap[B]? = some (.cells #[.string s] 9) ∧ noB s.data.toList i p ∧ L = pre ++ plc i (spl 32 (s.data.toList.drop i)) ∧ J pre wr) (fun _ wr => s.size - wr.iterPos W.heap.size)
  case atStart => exact ⟨0, 0, [], rfl, Nat.le_refl _, Nat.zero_le _, i1, b1, noB_self _ _, by rw [HL.out]; rfl, j1⟩
  case round =>
    obtain ⟨i, p, pre, rfl, hip, hps, hit, hbx, hno, hLp, hJs⟩ := hrel
    have c1 := cell_of_obj hbx (j := 0) (v := .string s) rfl
    have HM := Hid.mk' (iterPos_of hit)
    have HNO := Hid.mk' hno
    have HLP := Hid.mk' hLp
    clear hno hLp i1 b1 j1
    by_cases hp : p < s.size
    · have hnx0 : ∀ ty, (Instr.next (.pointer (some ⟨W.heap.size, 0, none⟩)) true ty).run Tryz.prog wr = _ := fun ty => run_next_any_at wr W.heap.size s p ty hit hp
      have hJt := fun q => HJ.out pre wr (wr.iterAt W.heap.size s q) (some W.heap.size) hJs (grown_iterAt s q) (fun r e => by cases e; exact ⟨Nat.le_refl _, _, hit, rfl⟩)
      have hbt : ∀ q, (wr.iterAt W.heap.size s q).heap[B]? = some (.cells #[.string s] 9) := fun q => (iterAt_other _ _ _ _ _ (by omega)).trans hbx
      have hitt := fun q => iterAt_heap wr W.heap.size s p q hit
      by_cases hc : (Utf8.decode s p).1 = 32
      · obtain ⟨h32, hw1⟩ := blank_at hp hc
        rw [hc, hw1] at hnx0
        have HWN := Hid.mk' (words_next HNO.out hip h32)
        have hJ1 := hJt (p + 1)
        have hb1 := hbt (p + 1)
        have hi1 := hitt (p + 1)
        have c2 := cell_of_obj hb1 (j := 0) (v := .string s) rfl
        have hnx : ∀ ty, (Instr.next (.pointer (some ⟨W.heap.size, 0, none⟩)) true ty).run Tryz.prog wr = .ok (.tuple #[.bool true, .int .i64 p, .int .i32 32]) (wr.iterAt W.heap.size s (p + 1)) := hnx0
        generalize wr.iterAt W.heap.size s (p + 1) = W2 at *
        have HPX : Hid (pre ++ [(i, cutB s.data.toList i p)] <+: L) := ⟨plc (p + 1) (spl 32 (s.data.toList.drop (p + 1))), by rw [HLP.out, HWN.out]; simp⟩
        obtain ⟨fn, tmps, assign, body, hy, hR⟩ := HY.out pre (i, cutB s.data.toList i p) W2 hJ1 HPX.out
        simp only [encW] at hy
        rw [← ext_tb] at hy
        have k1 : (0 : Int) ≤ (i : Int) := by omega
        have k2 : (i : Int) ≤ (p : Int) := by omega
        have k3 : (p : Int) ≤ (s.size : Int) := by omega
        clear hnx0 hbt hitt hJt hbx hit hJs h32 hw1 hc
        gi_wp2_with fail
        refine hR.mono ?_
        rintro e W3 ⟨hk3, ⟨rfl, hJ3⟩ | ⟨rfl, hJx3⟩⟩
        · have hb3 : W3.heap[B]? = _ := hk3.2.2.trans hb1
          have hi3 : W3.heap[W.heap.size]? = _ := hk3.2.1 _ _ (Nat.le_refl _) hi1 rfl
          clear hk3 hR hy
          gi_wp2_with fail
          go_roundw
          case rel => exact ⟨p + 1, p + 1, _, by go_num, Nat.le_refl _, by omega, hi3, hb3, noB_self _ _, by rw [HLP.out, HWN.out]; simp, hJ3⟩
          case measure => rw [HM.out, iterPos_of hi3]; omega
        · gi_wp2_with fail
          exact bodyPost_ret (results_none rfl _ _ _) rfl ⟨⟨_, rfl⟩, .inr ⟨_, HPX.out, hJx3⟩⟩
      · obtain ⟨n1, n2, n3⟩ := noB_next HNO.out hp hc
        have hJ1 := hJt (p + (Utf8.decode s p).2)
        have hb1 := hbt (p + (Utf8.decode s p).2)
        have hi1 := hitt (p + (Utf8.decode s p).2)
        have hq : (((Utf8.decode s p).1 : Int) != 32) = true := bne_of (by omega)
        clear hbt hitt hJt hbx hit hJs hc
        generalize (Utf8.decode s p).2 = q at *
        generalize wr.iterAt W.heap.size s (p + q) = W2 at *
        generalize (Utf8.decode s p).1 = c at *
        gi_wp2_with fail
        go_roundw
        case rel => exact ⟨i, p + q, pre, rfl, by omega, n2, hi1, hb1, n1, HLP.out, hJ1⟩
        case measure => rw [HM.out, iterPos_of hi1]; omega
    · have hpe : p = s.size := by omega
      have hnx : ∀ ty, (Instr.next (.pointer (some ⟨W.heap.size, 0, none⟩)) true ty).run Tryz.prog wr = _ := fun ty => run_next_end_at wr W.heap.size s p ty hit hp
      have HWL := Hid.mk' (words_last (l := s.data.toList) (i := i) (by have := HNO.out; rw [hpe] at this; rw [Array.length_toList]; exact this))
      have HLL : Hid (pre ++ [(i, s.data.toList.drop i)] = L) := (by rw [HLP.out, HWL.out] : _ = _)
      obtain ⟨fn, tmps, assign, body, hy, hR⟩ := HY.out pre (i, s.data.toList.drop i) wr hJs (by rw [HLL.out]; exact List.prefix_refl _)
      simp only [encW] at hy
      have e1 : s.data.toList.drop i = cutB s.data.toList i s.size := by unfold cutB; rw [List.take_of_length_le (by rw [List.length_drop, Array.length_toList]; exact Nat.le_refl _)]
      rw [e1, ← ext_tb] at hy
      have k1 : (0 : Int) ≤ (i : Int) := by omega
      have k2 : (i : Int) ≤ (s.size : Int) := by omega
      clear hpe hit hbx
      gi_wp2_with fail
      refine hR.mono ?_
      rintro e W3 ⟨hk3, ⟨rfl, hJ3⟩ | ⟨rfl, hJx3⟩⟩
      · gi_wp2_with fail
        go_end0
        rw [HLL.out] at hJ3
        exact ⟨⟨_, rfl⟩, .inl hJ3⟩
      · gi_wp2_with fail
        go_end0
        rw [HLL.out] at hJx3
        exact ⟨⟨_, rfl⟩, .inr ⟨_, List.prefix_refl _, hJx3⟩⟩
theorem words_o (B : Nat) (s : ByteArray) (hs : s.size ≤ 140737488351232) (w : World) (hB : w.heap[B]? = some (.cells #[.string s] 9)) : SeqO 24 #[.pointer (some ⟨B, 0, none⟩)] encW (KpO B) (plc 0 (spl 32 s.data.toList)) w :=
  fun l J Jx W hW hJ _ hY h0 => calls_any (words1_o 1 l B (Nat.le_refl _) s hs _ rfl J Jx W (own_abides hJ) hY ((hW.block _ (Array.getElem?_eq_some_iff.1 hB).1).trans hB) h0)
end Go.Proofs.YtboidkmnkicoeaaGreatDoor

/- asm.Parse: what follows the loop. -/
namespace Go.Proofs.YtboidkmnkicoeaaGreatDoor
open Go.RowKit Go.Shelf
attribute [local go_sem] Oper.semAt_some

noncomputable def sR : Code → Code | .seq _ b => b | c => c

noncomputable def inn : Code → Code | .block _ c => c | .loop c => c | .scope c => c | c => c
noncomputable def tailC : Code := sR (sR (sR (sR (inn (sR (Tryz.f4.body.getD .skip))))))
theorem setCell_id {W : World} {B j : Nat} {cs : Array Value} {t : TypeId} {v : Value} (h : W.heap[B]? = some (.cells cs t)) (hj : cs[j]? = some v) : W.setCell ⟨B, j, none⟩ v = W := by
  have hh : (W.setCell ⟨B, j, none⟩ v).heap = W.heap := by
    refine Array.ext_getElem? (fun k => ?_)
    by_cases e : k = B
    · subst e
      rw [heap_setCell_same W k j cs t v h, h]
      congr 2
      refine Array.ext_getElem? (fun i => ?_)
      rw [Array.getElem?_setIfInBounds]
      split
      · rename_i e; subst e
        rw [if_pos (Array.getElem?_eq_some_iff.1 hj).1, hj]
      · rfl
    · exact Below.heap_setCell _ _ _ _ e
  have h2 : W.setCell ⟨B, j, none⟩ v = { W with heap := (W.setCell ⟨B, j, none⟩ v).heap } := rfl
  rw [h2, hh]
set_option maxRecDepth 100000 in
set_option maxHeartbeats 4000000 in
theorem tail_err (W : World) (D : List Deferred) (b0 b1 b2 b3 : Nat) (ev nn av : Int) (u0 u1 u3 u4 u5 u10 u11 u12 u13 u14 u15 u16 u17 u18 u19 u20 u21 u22 u23 u24 u25 u26 u27 u28 u29 u30 u31 u32 u33 u34 u35 u36 u37 u38 u39 u40 u41 u42 u43 u44 u45 u46 u47 u48 u49 u50 u51 u52 u53 u54 u55 u56 u57 u58 u59 u60 u61 u62 u63 u64 u65 u66 : Value) (Q : Exit → Act → World → Prop) (n02 : ¬ (b2 = b0)) (n03 : ¬ (b3 = b0))
    (hm : W.heap[b0]? = some (.cells #[.slice none 0 0, .slice none 0 0] 25)) (he : Boxed W b2 26 (.int .i64 ev)) (ha : Boxed W b3 3 (.int .i64 av)) (hne : ev ≠ 0)
    (hQ : Hid (∀ (x53 x54 x59 x60 x61 x62 x63 x64 : Value), Q .ret { tmps := #[u0, u1, .pointer (some ⟨b0, 0, none⟩), .int .i64 ev, .int .i64 nn, .int .i64 av, .pointer (some ⟨b1, 0, none⟩), .pointer (some ⟨b2, 0, none⟩), .int .i64 nn, .pointer (some ⟨b3, 0, none⟩), u10, u11, u12, u13, u14, u15, u16, u17, u18, u19, u20, u21, u22, u23, u24, u25, u26, u27, u28, u29, u30, u31, u32, u33, u34, u35, u36, u37, u38, u39, u40, u41, u42, u43, u44, u45, u46, u47, u48, u49, u50, u51, u52, x53, x54, u55, u56, u57, u58, x59, x60, x61, x62, x63, x64, u65, u66], defers := D } W.drew)) :
    tailC.wpIn Fence.wide 6 Tryz.prog Q { tmps := #[u0, u1, .pointer (some ⟨b0, 0, none⟩), u3, u4, u5, .pointer (some ⟨b1, 0, none⟩), .pointer (some ⟨b2, 0, none⟩), .int .i64 nn, .pointer (some ⟨b3, 0, none⟩), u10, u11, u12, u13, u14, u15, u16, u17, u18, u19, u20, u21, u22, u23, u24, u25, u26, u27, u28, u29, u30, u31, u32, u33, u34, u35, u36, u37, u38, u39, u40, u41, u42, u43, u44, u45, u46, u47, u48, u49, u50, u51, u52, u53, u54, u55, u56, u57, u58, u59, u60, u61, u62, u63, u64, u65, u66], defers := D } W := by
  have e2 := he.cell
  have e3 := ha.cell
  have m0 := cell_of_obj hm (j := 0) (v := .slice none 0 0) rfl
  have m1 := cell_of_obj hm (j := 1) (v := .slice none 0 0) rfl
  have f0 := Lib.frozen_of_heap hm 0
  have f1 := Lib.frozen_of_heap hm 1
  have e2' : W.drew.cell? ⟨b2, 0, none⟩ = some (.int .i64 ev) := e2
  have e3' : W.drew.cell? ⟨b3, 0, none⟩ = some (.int .i64 av) := e3
  have m0' : W.drew.cell? ⟨b0, 0, none⟩ = some (.slice none 0 0) := m0
  have m1' : W.drew.cell? ⟨b0, 1, none⟩ = some (.slice none 0 0) := m1
  have f0' : W.drew.frozen? ⟨b0, 0, none⟩ = false := f0
  have f1' : W.drew.frozen? ⟨b0, 1, none⟩ = false := f1
  have hq1 : (ev == 0) = false := beq_no hne
  have hq2 : (ev != 0) = true := bne_of hne
  have HM := Hid.mk' hm
  clear hm he ha hne
  simp only [tailC, Tryz.f4, Option.getD_some, sR, inn]
  gi_wp2_with fail
  gi_region
  all_goals
    gi_wp2_with fail
    rw [setCell_id HM.out (j := 0) (v := .slice none 0 0) rfl, setCell_id HM.out (j := 1) (v := .slice none 0 0) rfl]
    exact hQ.out _ _ _ _ _ _ _ _
set_option maxRecDepth 100000 in
set_option maxHeartbeats 4000000 in
theorem tail_ok (W : World) (D : List Deferred) (N b0 b1 b2 b3 : Nat) (nn : Int) (n : Nat) (d : Dr) (vt vf vh : Value) (gs : List Fn) (B : Nat) (u0 u1 u3 u4 u5 u10 u11 u12 u13 u14 u15 u16 u17 u18 u19 u20 u21 u22 u23 u24 u25 u26 u27 u28 u29 u30 u31 u32 u33 u34 u35 u36 u37 u38 u39 u40 u41 u42 u43 u44 u45 u46 u47 u48 u49 u50 u51 u52 u53 u54 u55 u56 u57 u58 u59 u60 u61 u62 u63 u64 u65 u66 : Value) (Q : Exit → Act → World → Prop) (n02 : ¬ (b2 = b0)) (n03 : ¬ (b3 = b0)) (n12 : ¬ (b1 = b2)) (n23 : ¬ (b3 = b2))
    (h : Env W) (hd : DrAt N b1 d vt vf vh gs B W) (hn : n ≤ 1000000000000000) (hk : DOk n d)
    (hm : W.heap[b0]? = some (.cells #[.slice none 0 0, .slice none 0 0] 25)) (he : Boxed W b2 26 (.int .i64 0)) (ha : Boxed W b3 3 (.int .i64 0))
    (hQ1 : Hid (ckE d ≠ 0 → ∀ (x53 x54 x55 x56 x57 x58 x59 x60 x61 x62 x63 x64 : Value) (W1 : World), Below W.heap.size W W1 → Q .ret { tmps := #[u0, u1, .pointer (some ⟨b0, 0, none⟩), .int .i64 (ckE d), .int .i64 (ckL d), .int .i64 0, .pointer (some ⟨b1, 0, none⟩), .pointer (some ⟨b2, 0, none⟩), .int .i64 (ckL d), .pointer (some ⟨b3, 0, none⟩), u10, u11, u12, u13, u14, u15, u16, u17, u18, u19, u20, u21, u22, u23, u24, u25, u26, u27, u28, u29, u30, u31, u32, u33, u34, u35, u36, u37, u38, u39, u40, u41, u42, u43, u44, u45, u46, u47, u48, u49, u50, u51, u52, x53, x54, x55, x56, x57, x58, x59, x60, x61, x62, x63, x64, u65, u66], defers := D } (W1.setCell ⟨b2, 0, none⟩ (.int .i64 (ckE d))).drew))
    (hQ0 : Hid (ckE d = 0 → ∀ (x53 x54 x55 x56 x57 x58 x59 x60 x65 x66 : Value) (W1 : World), Below W.heap.size W W1 → Q .ret { tmps := #[u0, u1, .pointer (some ⟨b0, 0, none⟩), .int .i64 0, .int .i64 0, .int .i64 0, .pointer (some ⟨b1, 0, none⟩), .pointer (some ⟨b2, 0, none⟩), .int .i64 (ckL d), .pointer (some ⟨b3, 0, none⟩), u10, u11, u12, u13, u14, u15, u16, u17, u18, u19, u20, u21, u22, u23, u24, u25, u26, u27, u28, u29, u30, u31, u32, u33, u34, u35, u36, u37, u38, u39, u40, u41, u42, u43, u44, u45, u46, u47, u48, u49, u50, u51, u52, x53, x54, x55, x56, x57, x58, x59, x60, u61, u62, u63, u64, x65, x66], defers := D } ((W1.setCell ⟨b0, 0, none⟩ vt).setCell ⟨b0, 1, none⟩ vf))) :
    tailC.wpIn Fence.wide 6 Tryz.prog Q { tmps := #[u0, u1, .pointer (some ⟨b0, 0, none⟩), u3, u4, u5, .pointer (some ⟨b1, 0, none⟩), .pointer (some ⟨b2, 0, none⟩), .int .i64 nn, .pointer (some ⟨b3, 0, none⟩), u10, u11, u12, u13, u14, u15, u16, u17, u18, u19, u20, u21, u22, u23, u24, u25, u26, u27, u28, u29, u30, u31, u32, u33, u34, u35, u36, u37, u38, u39, u40, u41, u42, u43, u44, u45, u46, u47, u48, u49, u50, u51, u52, u53, u54, u55, u56, u57, u58, u59, u60, u61, u62, u63, u64, u65, u66], defers := D } W := by
  have e2 := he.cell
  have HCK := Hid.mk' (check_any N b1 d vt vf vh gs B W h hd n hn hk)
  have HKP : Hid (∀ W1, Below W.heap.size W W1 → Boxed W1 b2 26 (.int .i64 0) ∧ Boxed W1 b3 3 (.int .i64 0) ∧ W1.heap[b0]? = some (.cells #[.slice none 0 0, .slice none 0 0] 25) ∧ W1.heap[b1]? = some (.cells #[vt, vf, vh] 42)) := fun W1 hb => ⟨boxed_stay he hb, boxed_stay ha hb, (hb.block _ (Array.getElem?_eq_some_iff.1 hm).1).trans hm, (hd.stay hb).bk⟩
  obtain ⟨ta, tc, rfl⟩ := gown_form hd.ot
  obtain ⟨fa, fc, rfl⟩ := gown_form hd.of
  generalize (d.ths.take 20).length = tl at *
  clear h hd hk hm he ha hn
  generalize ckE d = E at *
  generalize ckL d = L at *
  simp only [tailC, Tryz.f4, Option.getD_some, sR, inn]
  gi_wp2_with fail
  refine ⟨trivial, ?_⟩
  refine (callsIn_wide.2 HCK.out).mono ?_
  rintro e W1 ⟨rfl, hb1⟩
  obtain ⟨k2, k3, km, kd⟩ := HKP.out W1 hb1
  replace e2 := k2.cell
  have f2 := k2.frozen
  by_cases hz : E = 0
  · subst hz
    have HZ := Hid.mk' (setCell_same k2)
    have HQ := Hid.mk' (hQ0.out rfl)
    clear hQ0 hQ1
    have d0 := cell_of_obj kd (j := 0) (v := .slice ta tl tc) rfl
    have d1 := cell_of_obj kd (j := 1) (v := .slice fa gs.length fc) rfl
    have m0 := cell_of_obj km (j := 0) (v := .slice none 0 0) rfl
    have m1 := cell_of_obj km (j := 1) (v := .slice none 0 0) rfl
    have f0 := Lib.frozen_of_heap km 0
    have f1 := Lib.frozen_of_heap km 1
    have HB := Hid.mk' hb1
    clear hb1 k2 k3 km kd HCK HKP
    gi_wp2_with fail
    rw [HZ.out]
    exact HQ.out _ _ _ _ _ _ _ _ _ _ _ HB.out
  · have hq1 : (E == 0) = false := beq_no hz
    have hq2 : (E != 0) = true := bne_of hz
    have z2 := k2.set (.int .i64 E)
    have z3 := k3.other (B' := b2) n23 (.int .i64 E)
    have zm : (W1.setCell ⟨b2, 0, none⟩ (.int .i64 E)).heap[b0]? = _ := (Below.heap_setCell _ _ _ _ (fun e => n02 e.symm)).trans km
    have HB := Hid.mk' hb1
    have HE := Hid.mk' hz
    clear hb1 k2 k3 km kd HCK HKP hz
    have y2 := z2.cell
    have y3 := z3.cell
    have m0 := cell_of_obj zm (j := 0) (v := .slice none 0 0) rfl
    have m1 := cell_of_obj zm (j := 1) (v := .slice none 0 0) rfl
    have f0 := Lib.frozen_of_heap zm 0
    have f1 := Lib.frozen_of_heap zm 1
    have HM := Hid.mk' zm
    have H1 := Hid.mk' (hQ1.out HE.out)
    clear zm z2 z3
    gi_wp2_with fail
    generalize hW2 : W1.setCell ⟨b2, 0, none⟩ (.int .i64 E) = W2 at *
    have HW2 := Hid.mk' hW2
    clear hW2
    have e2' : W2.drew.cell? ⟨b2, 0, none⟩ = some (.int .i64 E) := y2
    have e3' : W2.drew.cell? ⟨b3, 0, none⟩ = some (.int .i64 0) := y3
    have m0' : W2.drew.cell? ⟨b0, 0, none⟩ = some (.slice none 0 0) := m0
    have m1' : W2.drew.cell? ⟨b0, 1, none⟩ = some (.slice none 0 0) := m1
    have f0' : W2.drew.frozen? ⟨b0, 0, none⟩ = false := f0
    have f1' : W2.drew.frozen? ⟨b0, 1, none⟩ = false := f1
    gi_region
    all_goals
      gi_wp2_with fail
      rw [setCell_id HM.out (j := 0) (v := .slice none 0 0) rfl, setCell_id HM.out (j := 1) (v := .slice none 0 0) rfl]
      rw [← HW2.out]
      exact H1.out _ _ _ _ _ _ _ _ _ _ _ _ _ HB.out
end Go.Proofs.YtboidkmnkicoeaaGreatDoor
