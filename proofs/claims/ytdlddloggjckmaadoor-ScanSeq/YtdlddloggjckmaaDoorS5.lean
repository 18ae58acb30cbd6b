/- ScanSeq: ranged over, Tokens gives the tokens ahead of the first error; left at any token; again from the beginning. -/
import Derived.Test.YtdlddloggjckmaaDoorS4
import Derived.Test.YtdlddloggjckmaaDoorS6
namespace Go.Proofs.YtdlddloggjckmaaDoor
open Go.RowKit Go.Shelf
attribute [local go_sem] Oper.semAt_some

/-- A loop over tokens: the token lies in the parameter and in a new box. -/
theorem range_t {n m t d : Nat} {g : Operand} {assign body : Code} {Q : Exit → Act → World → Prop} {a : Act} {w : World}
    {gf : Nat} {lb : Array Value} (hg : a.eval g = .func (.func gf) #[] lb) (eg : ∀ args w, (callFunc gf args).run Tryd.prog w = .ok (.enter gf args) w)
    {Bo : Nat} {T : List It} {w0 : World} (hseq : SeqO gf lb encT (KpA Bo) T w0) (hb0 : Below w0.heap.size w0 w) (hBo : Bo < w.heap.size) (h1 : 1 < w.heap.size)
    (I : List It → World → Prop) (Ix : Code → List It → World → Prop) (hI : OwnFrom w.heap.size I) (hIx : ∀ c, OwnFrom w.heap.size (Ix c)) (h0 : I [] w)
    (hassign : ∀ (l : Nat) (x : It) (W : World), assign.wpIn (Fence.wide.inRound l) m Tryd.prog (Exit.then (fun a' W' => W' = W.alloc (.cells #[.int .i64 x.kind, .int .i64 x.at_, .string x.text, .int .i64 x.n] 33) ∧ a' = { tmps := (a.tmps.setIfInBounds t (tokV x.kind x.at_ x.text x.n)).setIfInBounds d (.pointer (some ⟨W.heap.size, 0, none⟩)), defers := [] }) (fun _ _ _ => False)) { tmps := a.tmps.setIfInBounds t (tokV x.kind x.at_ x.text x.n), defers := [] } W)
    (hbody : ∀ (l : Nat) (pre : List It) (x : It) (Bx : Nat) (W : World), I pre W → TBox W Bx x → (pre ++ [x]) <+: T → body.wpIn (Fence.wide.inRound l) m Tryd.prog (postO w.heap.size (KpA Bo (w.heap.size + 1 + 1)) I Ix (pre ++ [x]) W) { tmps := (a.tmps.setIfInBounds t (tokV x.kind x.at_ x.text x.n)).setIfInBounds d (.pointer (some ⟨Bx, 0, none⟩)), defers := [] } W)
    (hdone : ∀ (W : World), I T W → W.heap[w.heap.size]? = some (.deferred (some [])) → Q .normal { a with defers := { target := .collected w.heap.size, args := #[] } :: a.defers } W)
    (hstop : ∀ (c : Code) (pre : List It) (W : World), pre <+: T → Ix c pre W → W.heap[w.heap.size]? = some (.deferred (some [])) → c.wpIn Fence.wide n Tryd.prog Q { a with defers := { target := .collected w.heap.size, args := #[] } :: a.defers } W) :
    (Code.rangeFunc g #[t] assign body).wpIn Fence.wide n Tryd.prog Q a w := by
  refine range_o (m := m) hg eg hseq hb0 (fun _ => rfl) (fun h k => h.trans k) (kpA_put (by omega) (by omega) (by omega)) I Ix hI hIx h0
    (fun x a' X => ∃ Bx, TBox X Bx x ∧ a' = { tmps := (a.tmps.setIfInBounds t (tokV x.kind x.at_ x.text x.n)).setIfInBounds d (.pointer (some ⟨Bx, 0, none⟩)), defers := [] })
    ?_ ?_ ?_ hdone hstop
  · rintro x a' _ X X' row ⟨Bx, h2, h3⟩ hg hr
    refine ⟨Bx, (hg.block Bx (Array.getElem?_eq_some_iff.1 h2).1 (fun e => ?_)).trans h2, h3⟩
    obtain ⟨_, o, ho, hc⟩ := hr Bx e.symm
    rw [show X.heap[Bx]? = _ from h2] at ho; cases ho; cases hc
  · intro l pre x X hi _
    have he : (#[t].zip (encT x)).foldl (fun t (p, v) => t.setIfInBounds p v) a.tmps = a.tmps.setIfInBounds t (tokV x.kind x.at_ x.text x.n) := by simp [encT]
    rw [he]
    refine wpIn_mono (hassign l x X) ?_
    intro e a1 W1 h
    cases e with
    | normal =>
      obtain ⟨rfl, rfl⟩ := h
      exact ⟨(KeepsOthers.alloc _ _).from _, kpA_alloc _ _, hI.alloc _ hi, _, World.alloc_heap_new X _, rfl⟩
    | ret => exact h.elim
    | exit _ => exact h.elim
    | goto _ => exact h.elim
    | panic _ => exact h.elim
    | outgrown => exact h.elim
  · rintro l pre x a' X hi ⟨Bx, h2, rfl⟩ hpx
    exact hbody l pre x Bx X hi h2 hpx

theorem aheadXs_len (s : ByteArray) : (aheadXs s).length ≤ 65537 := by
  unfold aheadXs
  split
  · have h1 := List.length_filter_le (fun y : It => y.err == 0) (items s)
    have h2 := items_len s
    omega
  · simp
/-- The count's box is set anew: all else stays. -/
theorem step_n {Bo B Bn nq K0 : Nat} {u : Value} (u' : Value) {W0 X : World} (hn : Boxed X Bn 3 u) (hb : Below Bn W0 X) (h1 : Bn < B) (h2 : Bn ≠ Bo) (h3 : Bn ≠ 1) :
    KeepsFrom K0 X ((X.drewN nq).setCell ⟨Bn, 0, none⟩ u') ∧ KpA Bo B X ((X.drewN nq).setCell ⟨Bn, 0, none⟩ u') ∧ Boxed ((X.drewN nq).setCell ⟨Bn, 0, none⟩ u') Bn 3 u' ∧ Below Bn W0 ((X.drewN nq).setCell ⟨Bn, 0, none⟩ u') ∧ ∀ k, k ≠ Bn → ((X.drewN nq).setCell ⟨Bn, 0, none⟩ u').heap[k]? = X.heap[k]? := by
  have hn' : Boxed (X.drewN nq) Bn 3 u := hn
  have hb' : Below Bn W0 (X.drewN nq) := ⟨hb.os, hb.tape, hb.output, hb.size, hb.block⟩
  have hg := grownBy_setCell' (X.drewN nq) Bn u'
  have hk : KeepsOthers (X.drewN nq) ((X.drewN nq).setCell ⟨Bn, 0, none⟩ u') := KeepsOthers.setCell _ _ _
  refine ⟨⟨hk.size, fun k o _ h0 ho => hk.same k o h0 ho⟩, ⟨hg.size, fun k hk hc => hg.block k hk (fun e => ?_)⟩, hn'.set u', hb'.setCell (p := ⟨Bn, 0, none⟩) (Nat.le_refl _) u', fun k hk => Below.heap_setCell _ _ _ k hk⟩
  cases e
  rcases hc with h | h | h <;> omega

/-- The cells of the token that comes next, in the row that is compared with. -/
theorem want_at {s : ByteArray} {w2 W0 Y : World} {vo : Option Addr} {vc n3 : Nat} (h2W : Below w2.heap.size w2 W0)
    (hv : 0 < (aheadXs s).length → ∃ g, vo = some ⟨g, 0, none⟩ ∧ g < w2.heap.size ∧ ∀ j u, (rowCells (aheadXs s))[j]? = some u → w2.cell? ⟨g, j, none⟩ = some u)
    (bW : Boxed W0 w2.heap.size 23 (.slice vo (aheadXs s).length vc)) (h3 : w2.heap.size < n3) (hb : Below n3 W0 Y) {pre : List It} {x : It} (hpx : (pre ++ [x]) <+: aheadXs s) :
    pre.length < (aheadXs s).length ∧ ∃ g, (vo = some ⟨g, 0, none⟩ ∧ Y.cell? ⟨g, pre.length * 4, none⟩ = some (.int .i64 x.kind)) ∧ Y.cell? ⟨g, pre.length * 4 + 1, none⟩ = some (.int .i64 x.at_) ∧ Y.cell? ⟨g, pre.length * 4 + 2, none⟩ = some (.string x.text) ∧ Y.cell? ⟨g, pre.length * 4 + 3, none⟩ = some (.int .i64 x.n) ∧
      Y.cell? ⟨w2.heap.size, 0, none⟩ = some (.slice (some ⟨g, 0, none⟩) (aheadXs s).length vc) := by
  have hlt : pre.length < (aheadXs s).length := by
    obtain ⟨r, hr⟩ := hpx
    rw [← hr]; simp
  have hxk : (aheadXs s)[pre.length] = x := by
    obtain ⟨r, hr⟩ := hpx
    simp [← hr]
  obtain ⟨g, rfl, hgl, hcs⟩ := hv (by omega)
  have rc := rowCells_at (aheadXs s) pre.length hlt
  rw [hxk] at rc
  obtain ⟨c0, c1, c2, c3⟩ := rc
  have hcell : ∀ j, Y.cell? ⟨g, j, none⟩ = w2.cell? ⟨g, j, none⟩ := fun j => (hb.cell (p := ⟨g, j, none⟩) (show g < _ by omega)).trans (h2W.cell (p := ⟨g, j, none⟩) hgl)
  exact ⟨hlt, g, ⟨rfl, (hcell _).trans (hcs _ _ c0)⟩, (hcell _).trans (hcs _ _ c1), (hcell _).trans (hcs _ _ c2), (hcell _).trans (hcs _ _ c3), (hb.cell (p := ⟨w2.heap.size, 0, none⟩) (show w2.heap.size < _ by omega)).trans bW.cell⟩

set_option maxRecDepth 100000 in
set_option maxHeartbeats 2000000 in
theorem scanSeq_in (s : ByteArray) (stop : Int) (w : World) (hv : VarOk w) : CallsIn Fence.wide 6 Tryd.prog 5 #[.string s, .int .i64 stop] w fun e w' => e = .returned (.bool true) ∧ Below w.heap.size w w' := by
  refine callsIn_of_wp_marks Tryd.func5 rfl trivial ?_ rfl
  simp only [Tryd.ntmps5, List.size_toArray, List.length_cons, List.length_nil, Nat.reduceAdd, Nat.reduceSub, Array.replicate_succ, Array.replicate_zero, List.push_toArray, List.append_toArray, List.nil_append, List.cons_append]
  gi_wp2_with fail
  refine ⟨trivial, ?_⟩
  refine (callsIn_wide.2 (awake_any _ ((hv.alloc _).alloc _))).mono ?_
  rintro e w1 ⟨rfl, hb1⟩
  have hv1 := ((hv.alloc _).alloc _).below hb1
  gi_wp2_with fail
  refine ⟨trivial, ?_⟩
  refine (callsIn_wide.2 (ahead_ans _ _)).mono ?_
  rintro e w2 ⟨v, rfl, hb2, hr2⟩
  obtain ⟨vo, vc, rfl, hvc, hvr⟩ := id hr2
  have HV : Hid (0 < (aheadXs s).length → ∃ g, vo = some ⟨g, 0, none⟩ ∧ g < w2.heap.size ∧ ∀ j u, (rowCells (aheadXs s))[j]? = some u → w2.cell? ⟨g, j, none⟩ = some u) := hvr
  clear hvr
  have hv2 := (hv1.below hb2).alloc (.cells #[.slice vo (aheadXs s).length vc] 23)
  gi_wp2_with fail
  refine ⟨trivial, ?_⟩
  refine (callsIn_wide.2 (tokens_any _ _ hv2)).mono ?_
  rintro e w3 ⟨gf, lb, Bo, rfl, hb3, hen, hBo, hsq⟩
  gi_wp2_with fail
  obtain ⟨W0, hW0⟩ : ∃ W0, w3.alloc (.cells #[.int .i64 0] 3) = W0 := ⟨_, rfl⟩
  have hsz : W0.heap.size = w3.heap.size + 1 := by rw [← hW0]; simp
  have bN : Boxed W0 w3.heap.size 3 (.int .i64 0) := by rw [← hW0]; exact Boxed.new w3 3 _
  have hz1 := hb1.size
  have hz2 := hb2.size
  have hz3 := hb3.size
  simp only [World.size_alloc] at hz1 hz3
  have h3W : Below w3.heap.size w3 W0 := by rw [← hW0]; exact (Below.refl _ _).alloc (Nat.le_refl _) _
  have bW3 : Boxed w3 w2.heap.size 23 (.slice vo (aheadXs s).length vc) := (hb3.block _ (by simp)).trans (Boxed.new w2 23 _)
  have h23 : Below w2.heap.size w2 w3 := (((Below.refl _ w2).alloc (Nat.le_refl _) _).trans (hb3.mono (by simp)))
  have h2W : Below w2.heap.size w2 W0 := h23.trans (h3W.mono (by omega))
  have h1W : Below w1.heap.size w1 W0 := hb2.trans (h2W.mono hz2)
  have bS : Boxed W0 w.heap.size 3 (.int .i64 stop) := (h1W.block _ (by omega)).trans ((hb1.block _ (by simp; omega)).trans ((Boxed.new w 3 _).alloc _))
  have bR : Boxed W0 (w.heap.size + 1) 4 (.bool false) := (h1W.block _ (by omega)).trans ((hb1.block _ (by simp)).trans (by have := Boxed.new (w.alloc (.cells #[.int .i64 stop] 3)) 4 (.bool false); rw [World.size_alloc] at this; exact this))
  have bW : Boxed W0 w2.heap.size 23 (.slice vo (aheadXs s).length vc) := (h3W.block _ (by omega)).trans bW3
  have hBw : Below w.heap.size w W0 := ((((Below.refl _ w).alloc (Nat.le_refl _) _).alloc (by simp) _).trans (hb1.mono (by simp; omega))).trans (h1W.mono (by omega))
  have hB1 : Bo < w3.heap.size := by
    have := hv2.lt
    simp only [World.size_alloc] at this hBo
    omega
  have h1w := hv.lt
  have hal := aheadXs_len s
  rw [hW0]
  clear hW0
  refine range_t (m := 6) (t := 23) (d := 10) rfl hen hsq h3W (by omega) (by omega)
    (fun pre X => Boxed X w3.heap.size 3 (.int .i64 pre.length) ∧ Below w3.heap.size W0 X)
    (fun c pre X => c = .exit 0 ∧ Boxed X w3.heap.size 3 (.int .i64 stop) ∧ Below w3.heap.size W0 X)
    ?ownI ?ownX ⟨bN, Below.refl _ _⟩ ?assign ?body ?done ?stop
  case ownI => exact OwnFrom.and (Own.from (boxed_own _ _ _) _) (ownFrom_below (by omega) (by omega))
  case ownX =>
    intro c
    exact OwnFrom.and (ownFrom_pure _ _) (OwnFrom.and (Own.from (boxed_own _ _ (fun _ => _)) _) (ownFrom_below (by omega) (by omega)))
  case assign =>
    intro l x X
    gi_wp2
    exact ⟨trivial, rfl⟩
  case body =>
    rintro l pre x Bx X ⟨hn, hb⟩ hT hpx
    have hlt : pre.length < (aheadXs s).length := by
      obtain ⟨r, hr⟩ := hpx
      rw [← hr]; simp
    have hxk : (aheadXs s)[pre.length] = x := by
      obtain ⟨r, hr⟩ := hpx
      simp [← hr]
    obtain ⟨g, rfl, hgl, hcs⟩ := HV.out (by omega)
    have rc := rowCells_at (aheadXs s) pre.length hlt
    rw [hxk] at rc
    obtain ⟨c0, c1, c2, c3⟩ := rc
    have hcell : ∀ j, X.cell? ⟨g, j, none⟩ = w2.cell? ⟨g, j, none⟩ := fun j => (hb.cell (p := ⟨g, j, none⟩) (show g < _ by omega)).trans (h2W.cell (p := ⟨g, j, none⟩) hgl)
    have r0 := (hcell _).trans (hcs _ _ c0)
    have r1 := (hcell _).trans (hcs _ _ c1)
    have r2 := (hcell _).trans (hcs _ _ c2)
    have r3 := (hcell _).trans (hcs _ _ c3)
    have t0 : X.cell? ⟨Bx, 0, none⟩ = some (.int .i64 x.kind) := by simp [World.cell?, show X.heap[Bx]? = _ from hT]
    have t1 : X.cell? ⟨Bx, 1, none⟩ = some (.int .i64 x.at_) := by simp [World.cell?, show X.heap[Bx]? = _ from hT]
    have t2 : X.cell? ⟨Bx, 2, none⟩ = some (.string x.text) := by simp [World.cell?, show X.heap[Bx]? = _ from hT]
    have t3 : X.cell? ⟨Bx, 3, none⟩ = some (.int .i64 x.n) := by simp [World.cell?, show X.heap[Bx]? = _ from hT]
    have eN := hn.cell
    have fN := hn.frozen
    have eW : X.cell? ⟨w2.heap.size, 0, none⟩ = some (.slice (some ⟨g, 0, none⟩) (aheadXs s).length vc) := (hb.cell (p := ⟨w2.heap.size, 0, none⟩) (show w2.heap.size < _ by omega)).trans bW.cell
    have eS : X.cell? ⟨w.heap.size, 0, none⟩ = some (.int .i64 stop) := (hb.cell (p := ⟨w.heap.size, 0, none⟩) (show w.heap.size < _ by omega)).trans bS.cell
    have hli : (pre.length : Int) < ((aheadXs s).length : Int) := by omega
    have hdn : decide ((aheadXs s).length ≤ pre.length) = false := by simpa using hlt
    simp only [List.setIfInBounds_toArray, List.set_cons_succ, List.set_cons_zero]
    clear hcell hcs c0 c1 c2 c3 hxk HV
    gi_wp2_with fail
    refine quiet_round (by kernel_rfl) (by kernel_rfl) (by kernel_rfl) ?_
    repeat (gi_big_quiet_step (fail))
    refine wpQuietIn_nil ?_
    intro _ hw'
    obtain ⟨nq, hw''⟩ := hw'
    subst hw''
    have hw1 : wrap64 ((pre.length : Int) + 1) = (pre.length : Int) + 1 := by unfold wrap64; omega
    have HZ := fun (_ : Unit) => step_n (Bo := Bo) (B := W0.heap.size + 1 + 1) (nq := nq) (K0 := W0.heap.size) (.int .i64 ((pre.length : Int) + 1)) hn hb (by omega) (by omega) (by omega)
    clear hal
    by_cases hst : (pre.length : Int) + 1 = stop
    · have hq : ((pre.length : Int) + 1 == stop) = true := by simpa using hst
      have HS : Hid ((pre.length : Int) + 1 = stop) := hst
      clear hst
      gi_wp2_with fail
      obtain ⟨z1, z2, z3, z4, _⟩ := HZ ()
      exact ⟨z1, z2, rfl, by rw [← HS.out]; exact z3, z4⟩
    · have hq : ((pre.length : Int) + 1 == stop) = false := by simpa using hst
      clear hst
      gi_wp2_with fail
      obtain ⟨z1, z2, z3, z4, _⟩ := HZ ()
      exact ⟨z1, z2, by simpa using z3, z4⟩
  case done =>
    rintro X ⟨hn, hb⟩ hD
    have eN := hn.cell
    have fN := hn.frozen
    have eW : X.cell? ⟨w2.heap.size, 0, none⟩ = some (.slice vo (aheadXs s).length vc) := (hb.cell (p := ⟨w2.heap.size, 0, none⟩) (show w2.heap.size < _ by omega)).trans bW.cell
    have eS : X.cell? ⟨w.heap.size, 0, none⟩ = some (.int .i64 stop) := (hb.cell (p := ⟨w.heap.size, 0, none⟩) (show w.heap.size < _ by omega)).trans bS.cell
    gi_wp2_with fail
    obtain ⟨X1, hX1⟩ : ∃ X1, X.setCell ⟨w3.heap.size, 0, none⟩ (.int .i64 0) = X1 := ⟨_, rfl⟩
    obtain ⟨bN1, hb1', hD1⟩ : Boxed X1 w3.heap.size 3 (.int .i64 0) ∧ Below w3.heap.size W0 X1 ∧ X1.heap[W0.heap.size]? = some (.deferred (some [])) := by
      rw [← hX1]
      exact ⟨hn.set _, hb.setCell (p := ⟨w3.heap.size, 0, none⟩) (Nat.le_refl _) _, (Below.heap_setCell _ _ _ _ (by show W0.heap.size ≠ w3.heap.size; omega)).trans hD⟩
    have hlX : W0.heap.size < X1.heap.size := (Array.getElem?_eq_some_iff.1 hD1).1
    rw [hX1]
    clear hX1 eN fN eW eS
    refine range_t (m := 6) (t := 51) (d := 11) rfl hen hsq (h3W.trans hb1') (by omega) (by omega)
      (fun pre Y => (Boxed Y w3.heap.size 3 (.int .i64 pre.length) ∧ Below w3.heap.size W0 Y) ∧ Y.heap[W0.heap.size]? = some (.deferred (some [])))
      (fun _ _ _ => False) ?ownI2 ?ownX2 ⟨⟨bN1, hb1'⟩, hD1⟩ ?assign2 ?body2 ?done2 ?stop2
    case ownI2 => exact OwnFrom.and (OwnFrom.and (Own.from (boxed_own _ _ _) _) (ownFrom_below (by omega) (by omega))) (ownFrom_lies hlX)
    case ownX2 => exact fun _ _ _ _ _ h _ _ => h.elim
    case assign2 =>
      intro l x Y
      gi_wp2
      exact ⟨trivial, rfl⟩
    case body2 =>
      rintro l pre2 x Bx Y ⟨⟨hn2, hb2'⟩, hDY⟩ hT hpx
      obtain ⟨hlt, g, r0, r1, r2, r3, eW⟩ := want_at (s := s) h2W HV.out bW (by omega) hb2' hpx
      obtain ⟨rfl, r0⟩ := r0
      have t0 : Y.cell? ⟨Bx, 0, none⟩ = some (.int .i64 x.kind) := by simp [World.cell?, show Y.heap[Bx]? = _ from hT]
      have t1 : Y.cell? ⟨Bx, 1, none⟩ = some (.int .i64 x.at_) := by simp [World.cell?, show Y.heap[Bx]? = _ from hT]
      have t2 : Y.cell? ⟨Bx, 2, none⟩ = some (.string x.text) := by simp [World.cell?, show Y.heap[Bx]? = _ from hT]
      have t3 : Y.cell? ⟨Bx, 3, none⟩ = some (.int .i64 x.n) := by simp [World.cell?, show Y.heap[Bx]? = _ from hT]
      have eN := hn2.cell
      have fN := hn2.frozen
      have hli : (pre2.length : Int) < ((aheadXs s).length : Int) := by omega
      have hdn : decide ((aheadXs s).length ≤ pre2.length) = false := by simpa using hlt
      have hw1 : wrap64 ((pre2.length : Int) + 1) = (pre2.length : Int) + 1 := by unfold wrap64; omega
      simp only [List.setIfInBounds_toArray, List.set_cons_succ, List.set_cons_zero]
      clear HV hal
      gi_wp2_with fail
      refine quiet_round (by kernel_rfl) (by kernel_rfl) (by kernel_rfl) ?_
      repeat (gi_big_quiet_step (fail))
      refine wpQuietIn_nil ?_
      intro _ hw'
      obtain ⟨nq, hw''⟩ := hw'
      subst hw''
      have HZ := fun (_ : Unit) => step_n (Bo := Bo) (B := X1.heap.size + 1 + 1) (nq := nq) (K0 := X1.heap.size) (.int .i64 ((pre2.length : Int) + 1)) hn2 hb2' (by omega) (by omega) (by omega)
      gi_wp2_with fail
      obtain ⟨z1, z2, z3, z4, z5⟩ := HZ ()
      exact ⟨z1, z2, ⟨by simpa using z3, z4⟩, (z5 _ (by omega)).trans hDY⟩
    case done2 =>
      rintro Y ⟨⟨hn2, hb2'⟩, hDY⟩ hD2
      have eN := hn2.cell
      have eW : Y.cell? ⟨w2.heap.size, 0, none⟩ = some (.slice vo (aheadXs s).length vc) := (hb2'.cell (p := ⟨w2.heap.size, 0, none⟩) (show w2.heap.size < _ by omega)).trans bW.cell
      have bRY : Boxed Y (w.heap.size + 1) 4 (.bool false) := (hb2'.block _ (by omega)).trans bR
      have eR := bRY.cell
      have fR := bRY.frozen
      gi_wp2_with fail
      obtain ⟨Z, hZ⟩ : ∃ Z, Y.setCell ⟨w.heap.size + 1, 0, none⟩ (.bool true) = Z := ⟨_, rfl⟩
      rw [hZ]
      have bZ : Boxed Z (w.heap.size + 1) 4 (.bool true) := by rw [← hZ]; exact bRY.set _
      have k2 : Z.heap[X1.heap.size]? = some (.deferred (some [])) := by rw [← hZ]; exact (Below.heap_setCell _ _ _ _ (by show X1.heap.size ≠ w.heap.size + 1; omega)).trans hD2
      have k1 : Z.heap[W0.heap.size]? = some (.deferred (some [])) := by rw [← hZ]; exact (Below.heap_setCell _ _ _ _ (by show W0.heap.size ≠ w.heap.size + 1; omega)).trans hDY
      have hBZ : Below w.heap.size w Z := by rw [← hZ]; exact (hBw.trans (hb2'.mono (by omega))).setCell (p := ⟨w.heap.size + 1, 0, none⟩) (by show w.heap.size ≤ w.heap.size + 1; omega) _
      have k1' : (Z.putObj X1.heap.size (.deferred none)).heap[W0.heap.size]? = some (.deferred (some [])) := (World.putObj_heap_other (by omega)).trans k1
      refine ⟨by simp, .inl ⟨_, _, rfl, run_takeDeferred k2, by simp, .inl ⟨_, _, rfl, run_takeDeferred k1', ?_⟩⟩⟩
      have eZ := (put_boxed (put_boxed bZ (.deferred none) k2 rfl) (.deferred none) k1' rfl).cell
      refine ⟨_, by simp [results, Tryd.results5, go_sem, eZ], rfl, ?_⟩
      exact (hBZ.trans (belowK_b (w := w) (Nat.le_refl _) _ X1.heap.size _ _ (by omega) k2 rfl rfl)).trans (belowK_b (w := w) (Nat.le_refl _) _ W0.heap.size _ _ (by omega) k1' rfl rfl)
    case stop2 => rintro _ _ _ _ h; exact h.elim
  case stop =>
    rintro c pre X hp ⟨rfl, hn, hb⟩ hD
    have eN := hn.cell
    have fN := hn.frozen
    have eW : X.cell? ⟨w2.heap.size, 0, none⟩ = some (.slice vo (aheadXs s).length vc) := (hb.cell (p := ⟨w2.heap.size, 0, none⟩) (show w2.heap.size < _ by omega)).trans bW.cell
    have eS : X.cell? ⟨w.heap.size, 0, none⟩ = some (.int .i64 stop) := (hb.cell (p := ⟨w.heap.size, 0, none⟩) (show w.heap.size < _ by omega)).trans bS.cell
    by_cases hsl : stop = ((aheadXs s).length : Int)
    · have hq : (stop != ((aheadXs s).length : Int)) = false := by simpa using hsl
      clear hsl
      gi_wp2_with fail
      obtain ⟨X1, hX1⟩ : ∃ X1, X.setCell ⟨w3.heap.size, 0, none⟩ (.int .i64 0) = X1 := ⟨_, rfl⟩
      obtain ⟨bN1, hb1', hD1⟩ : Boxed X1 w3.heap.size 3 (.int .i64 0) ∧ Below w3.heap.size W0 X1 ∧ X1.heap[W0.heap.size]? = some (.deferred (some [])) := by
        rw [← hX1]
        exact ⟨hn.set _, hb.setCell (p := ⟨w3.heap.size, 0, none⟩) (Nat.le_refl _) _, (Below.heap_setCell _ _ _ _ (by show W0.heap.size ≠ w3.heap.size; omega)).trans hD⟩
      have hlX : W0.heap.size < X1.heap.size := (Array.getElem?_eq_some_iff.1 hD1).1
      rw [hX1]
      clear hX1 eN fN eW eS
      refine range_t (m := 6) (t := 51) (d := 11) rfl hen hsq (h3W.trans hb1') (by omega) (by omega)
        (fun pre Y => (Boxed Y w3.heap.size 3 (.int .i64 pre.length) ∧ Below w3.heap.size W0 Y) ∧ Y.heap[W0.heap.size]? = some (.deferred (some [])))
        (fun _ _ _ => False) ?ownI2 ?ownX2 ⟨⟨bN1, hb1'⟩, hD1⟩ ?assign2 ?body2 ?done2 ?stop2
      case ownI2 => exact OwnFrom.and (OwnFrom.and (Own.from (boxed_own _ _ _) _) (ownFrom_below (by omega) (by omega))) (ownFrom_lies hlX)
      case ownX2 => exact fun _ _ _ _ _ h _ _ => h.elim
      case assign2 =>
        intro l x Y
        gi_wp2
        exact ⟨trivial, rfl⟩
      case body2 =>
        rintro l pre2 x Bx Y ⟨⟨hn2, hb2'⟩, hDY⟩ hT hpx
        obtain ⟨hlt, g, r0, r1, r2, r3, eW⟩ := want_at (s := s) h2W HV.out bW (by omega) hb2' hpx
        obtain ⟨rfl, r0⟩ := r0
        have t0 : Y.cell? ⟨Bx, 0, none⟩ = some (.int .i64 x.kind) := by simp [World.cell?, show Y.heap[Bx]? = _ from hT]
        have t1 : Y.cell? ⟨Bx, 1, none⟩ = some (.int .i64 x.at_) := by simp [World.cell?, show Y.heap[Bx]? = _ from hT]
        have t2 : Y.cell? ⟨Bx, 2, none⟩ = some (.string x.text) := by simp [World.cell?, show Y.heap[Bx]? = _ from hT]
        have t3 : Y.cell? ⟨Bx, 3, none⟩ = some (.int .i64 x.n) := by simp [World.cell?, show Y.heap[Bx]? = _ from hT]
        have eN := hn2.cell
        have fN := hn2.frozen
        have hli : (pre2.length : Int) < ((aheadXs s).length : Int) := by omega
        have hdn : decide ((aheadXs s).length ≤ pre2.length) = false := by simpa using hlt
        have hw1 : wrap64 ((pre2.length : Int) + 1) = (pre2.length : Int) + 1 := by unfold wrap64; omega
        simp only [List.setIfInBounds_toArray, List.set_cons_succ, List.set_cons_zero]
        clear HV hal hq
        gi_wp2_with fail
        refine quiet_round (by kernel_rfl) (by kernel_rfl) (by kernel_rfl) ?_
        repeat (gi_big_quiet_step (fail))
        refine wpQuietIn_nil ?_
        intro _ hw'
        obtain ⟨nq, hw''⟩ := hw'
        subst hw''
        have HZ := fun (_ : Unit) => step_n (Bo := Bo) (B := X1.heap.size + 1 + 1) (nq := nq) (K0 := X1.heap.size) (.int .i64 ((pre2.length : Int) + 1)) hn2 hb2' (by omega) (by omega) (by omega)
        gi_wp2_with fail
        obtain ⟨z1, z2, z3, z4, z5⟩ := HZ ()
        exact ⟨z1, z2, ⟨by simpa using z3, z4⟩, (z5 _ (by omega)).trans hDY⟩
      case done2 =>
        rintro Y ⟨⟨hn2, hb2'⟩, hDY⟩ hD2
        have eN := hn2.cell
        have eW : Y.cell? ⟨w2.heap.size, 0, none⟩ = some (.slice vo (aheadXs s).length vc) := (hb2'.cell (p := ⟨w2.heap.size, 0, none⟩) (show w2.heap.size < _ by omega)).trans bW.cell
        have bRY : Boxed Y (w.heap.size + 1) 4 (.bool false) := (hb2'.block _ (by omega)).trans bR
        have eR := bRY.cell
        have fR := bRY.frozen
        gi_wp2_with fail
        obtain ⟨Z, hZ⟩ : ∃ Z, Y.setCell ⟨w.heap.size + 1, 0, none⟩ (.bool true) = Z := ⟨_, rfl⟩
        rw [hZ]
        have bZ : Boxed Z (w.heap.size + 1) 4 (.bool true) := by rw [← hZ]; exact bRY.set _
        have k2 : Z.heap[X1.heap.size]? = some (.deferred (some [])) := by rw [← hZ]; exact (Below.heap_setCell _ _ _ _ (by show X1.heap.size ≠ w.heap.size + 1; omega)).trans hD2
        have k1 : Z.heap[W0.heap.size]? = some (.deferred (some [])) := by rw [← hZ]; exact (Below.heap_setCell _ _ _ _ (by show W0.heap.size ≠ w.heap.size + 1; omega)).trans hDY
        have hBZ : Below w.heap.size w Z := by rw [← hZ]; exact (hBw.trans (hb2'.mono (by omega))).setCell (p := ⟨w.heap.size + 1, 0, none⟩) (by show w.heap.size ≤ w.heap.size + 1; omega) _
        have k1' : (Z.putObj X1.heap.size (.deferred none)).heap[W0.heap.size]? = some (.deferred (some [])) := (World.putObj_heap_other (by omega)).trans k1
        refine ⟨by simp, .inl ⟨_, _, rfl, run_takeDeferred k2, by simp, .inl ⟨_, _, rfl, run_takeDeferred k1', ?_⟩⟩⟩
        have eZ := (put_boxed (put_boxed bZ (.deferred none) k2 rfl) (.deferred none) k1' rfl).cell
        refine ⟨_, by simp [results, Tryd.results5, go_sem, eZ], rfl, ?_⟩
        exact (hBZ.trans (belowK_b (w := w) (Nat.le_refl _) _ X1.heap.size _ _ (by omega) k2 rfl rfl)).trans (belowK_b (w := w) (Nat.le_refl _) _ W0.heap.size _ _ (by omega) k1' rfl rfl)
      case stop2 => rintro _ _ _ _ h; exact h.elim
    · have hq : (stop != ((aheadXs s).length : Int)) = true := by simpa using hsl
      clear hsl
      gi_wp2_with fail
      obtain ⟨X1, hX1⟩ : ∃ X1, X.setCell ⟨w3.heap.size, 0, none⟩ (.int .i64 0) = X1 := ⟨_, rfl⟩
      obtain ⟨bN1, hb1', hD1⟩ : Boxed X1 w3.heap.size 3 (.int .i64 0) ∧ Below w3.heap.size W0 X1 ∧ X1.heap[W0.heap.size]? = some (.deferred (some [])) := by
        rw [← hX1]
        exact ⟨hn.set _, hb.setCell (p := ⟨w3.heap.size, 0, none⟩) (Nat.le_refl _) _, (Below.heap_setCell _ _ _ _ (by show W0.heap.size ≠ w3.heap.size; omega)).trans hD⟩
      have hlX : W0.heap.size < X1.heap.size := (Array.getElem?_eq_some_iff.1 hD1).1
      rw [hX1]
      clear hX1 eN fN eW eS
      refine range_t (m := 6) (t := 51) (d := 11) rfl hen hsq (h3W.trans hb1') (by omega) (by omega)
        (fun pre Y => (Boxed Y w3.heap.size 3 (.int .i64 pre.length) ∧ Below w3.heap.size W0 Y) ∧ Y.heap[W0.heap.size]? = some (.deferred (some [])))
        (fun _ _ _ => False) ?ownI2 ?ownX2 ⟨⟨bN1, hb1'⟩, hD1⟩ ?assign2 ?body2 ?done2 ?stop2
      case ownI2 => exact OwnFrom.and (OwnFrom.and (Own.from (boxed_own _ _ _) _) (ownFrom_below (by omega) (by omega))) (ownFrom_lies hlX)
      case ownX2 => exact fun _ _ _ _ _ h _ _ => h.elim
      case assign2 =>
        intro l x Y
        gi_wp2
        exact ⟨trivial, rfl⟩
      case body2 =>
        rintro l pre2 x Bx Y ⟨⟨hn2, hb2'⟩, hDY⟩ hT hpx
        obtain ⟨hlt, g, r0, r1, r2, r3, eW⟩ := want_at (s := s) h2W HV.out bW (by omega) hb2' hpx
        obtain ⟨rfl, r0⟩ := r0
        have t0 : Y.cell? ⟨Bx, 0, none⟩ = some (.int .i64 x.kind) := by simp [World.cell?, show Y.heap[Bx]? = _ from hT]
        have t1 : Y.cell? ⟨Bx, 1, none⟩ = some (.int .i64 x.at_) := by simp [World.cell?, show Y.heap[Bx]? = _ from hT]
        have t2 : Y.cell? ⟨Bx, 2, none⟩ = some (.string x.text) := by simp [World.cell?, show Y.heap[Bx]? = _ from hT]
        have t3 : Y.cell? ⟨Bx, 3, none⟩ = some (.int .i64 x.n) := by simp [World.cell?, show Y.heap[Bx]? = _ from hT]
        have eN := hn2.cell
        have fN := hn2.frozen
        have hli : (pre2.length : Int) < ((aheadXs s).length : Int) := by omega
        have hdn : decide ((aheadXs s).length ≤ pre2.length) = false := by simpa using hlt
        have hw1 : wrap64 ((pre2.length : Int) + 1) = (pre2.length : Int) + 1 := by unfold wrap64; omega
        simp only [List.setIfInBounds_toArray, List.set_cons_succ, List.set_cons_zero]
        clear HV hal hq
        gi_wp2_with fail
        refine quiet_round (by kernel_rfl) (by kernel_rfl) (by kernel_rfl) ?_
        repeat (gi_big_quiet_step (fail))
        refine wpQuietIn_nil ?_
        intro _ hw'
        obtain ⟨nq, hw''⟩ := hw'
        subst hw''
        have HZ := fun (_ : Unit) => step_n (Bo := Bo) (B := X1.heap.size + 1 + 1) (nq := nq) (K0 := X1.heap.size) (.int .i64 ((pre2.length : Int) + 1)) hn2 hb2' (by omega) (by omega) (by omega)
        gi_wp2_with fail
        obtain ⟨z1, z2, z3, z4, z5⟩ := HZ ()
        exact ⟨z1, z2, ⟨by simpa using z3, z4⟩, (z5 _ (by omega)).trans hDY⟩
      case done2 =>
        rintro Y ⟨⟨hn2, hb2'⟩, hDY⟩ hD2
        have eN := hn2.cell
        have eW : Y.cell? ⟨w2.heap.size, 0, none⟩ = some (.slice vo (aheadXs s).length vc) := (hb2'.cell (p := ⟨w2.heap.size, 0, none⟩) (show w2.heap.size < _ by omega)).trans bW.cell
        have bRY : Boxed Y (w.heap.size + 1) 4 (.bool false) := (hb2'.block _ (by omega)).trans bR
        have eR := bRY.cell
        have fR := bRY.frozen
        gi_wp2_with fail
        obtain ⟨Z, hZ⟩ : ∃ Z, Y.setCell ⟨w.heap.size + 1, 0, none⟩ (.bool true) = Z := ⟨_, rfl⟩
        rw [hZ]
        have bZ : Boxed Z (w.heap.size + 1) 4 (.bool true) := by rw [← hZ]; exact bRY.set _
        have k2 : Z.heap[X1.heap.size]? = some (.deferred (some [])) := by rw [← hZ]; exact (Below.heap_setCell _ _ _ _ (by show X1.heap.size ≠ w.heap.size + 1; omega)).trans hD2
        have k1 : Z.heap[W0.heap.size]? = some (.deferred (some [])) := by rw [← hZ]; exact (Below.heap_setCell _ _ _ _ (by show W0.heap.size ≠ w.heap.size + 1; omega)).trans hDY
        have hBZ : Below w.heap.size w Z := by rw [← hZ]; exact (hBw.trans (hb2'.mono (by omega))).setCell (p := ⟨w.heap.size + 1, 0, none⟩) (by show w.heap.size ≤ w.heap.size + 1; omega) _
        have k1' : (Z.putObj X1.heap.size (.deferred none)).heap[W0.heap.size]? = some (.deferred (some [])) := (World.putObj_heap_other (by omega)).trans k1
        refine ⟨by simp, .inl ⟨_, _, rfl, run_takeDeferred k2, by simp, .inl ⟨_, _, rfl, run_takeDeferred k1', ?_⟩⟩⟩
        have eZ := (put_boxed (put_boxed bZ (.deferred none) k2 rfl) (.deferred none) k1' rfl).cell
        refine ⟨_, by simp [results, Tryd.results5, go_sem, eZ], rfl, ?_⟩
        exact (hBZ.trans (belowK_b (w := w) (Nat.le_refl _) _ X1.heap.size _ _ (by omega) k2 rfl rfl)).trans (belowK_b (w := w) (Nat.le_refl _) _ W0.heap.size _ _ (by omega) k1' rfl rfl)
      case stop2 => rintro _ _ _ _ h; exact h.elim

theorem scanSeq_any (s : ByteArray) (stop : Int) (w : World) (hv : VarOk w) : Calls Tryd.prog 5 #[.string s, .int .i64 stop] w fun e w' => e = .returned (.bool true) ∧ Below w.heap.size w w' :=
  callsIn_wide.1 (scanSeq_in s stop w hv)
end Go.Proofs.YtdlddloggjckmaaDoor
