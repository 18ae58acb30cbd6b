/- asm.Parse: what is kept of boxes, rows and marks. -/
import Derived.Test.YtboidkmnkicoeaaGreatDoorJl
import Derived.Test.YtboidkmnkicoeaaGreatDoorYx
import Derived.Test.YtboidkmnkicoeaaGreatDoorJx
import Derived.Scope
namespace Go.Proofs.YtboidkmnkicoeaaGreatDoor
open Go.RowKit Go.Shelf

theorem cells_grown {W W' : World} {k : Nat} {cs : Array Value} {t : TypeId} {row : Option Nat} (h : W.heap[k]? = some (.cells cs t)) (hg : W.grownBy W' row) (hr : ∀ r, row = some r → ∃ o : Obj, W.heap[r]? = some o ∧ o.isCells = false) : W'.heap[k]? = some (.cells cs t) := by
  refine (hg.block k (Array.getElem?_eq_some_iff.1 h).1 (fun e => ?_)).trans h
  obtain ⟨o, ho, hc⟩ := hr k e.symm
  rw [h] at ho; cases ho; cases hc
theorem boxed_grown {W W' : World} {B : Nat} {t : TypeId} {v : Value} {row : Option Nat} (h : Boxed W B t v) (hg : W.grownBy W' row) (hr : ∀ r, row = some r → ∃ o : Obj, W.heap[r]? = some o ∧ o.isCells = false) : Boxed W' B t v := cells_grown h hg hr
theorem own_grown {W W' : World} {N n sz : Nat} {T : TypeId} {v : Value} {xs : List Value} {row : Option Nat} (h : W.ownsRow N T sz v n xs) (hg : W.grownBy W' row) (hr : ∀ r, row = some r → ∃ o : Obj, W.heap[r]? = some o ∧ o.isCells = false) : W'.ownsRow N T sz v n xs := by
  refine h.kept hg ?_
  rcases h.2 with ⟨rfl, _⟩ | ⟨g, cap, cur, rfl, _, hgb, _⟩
  · exact .inl rfl
  · refine .inr fun e' => ?_
    obtain ⟨o, ho, hc⟩ := hr g (by simpa [Value.ownBlock] using e'.symm)
    rw [hgb] at ho; cases ho; cases hc
theorem boxed_stay {W W' : World} {B : Nat} {t : TypeId} {v : Value} (h : Boxed W B t v) (hb : Below W.heap.size W W') : Boxed W' B t v := (hb.block _ h.lt).trans h
theorem setCell_same {W : World} {B : Nat} {t : TypeId} {v : Value} (h : Boxed W B t v) : W.setCell ⟨B, 0, none⟩ v = W := by
  have hh : (W.setCell ⟨B, 0, none⟩ v).heap = W.heap := by
    refine Array.ext_getElem? (fun k => ?_)
    by_cases e : k = B
    · subst e; exact (h.set v).trans h.symm
    · exact Below.heap_setCell _ _ _ _ e
  have h2 : W.setCell ⟨B, 0, none⟩ v = { W with heap := (W.setCell ⟨B, 0, none⟩ v).heap } := rfl
  rw [h2, hh]
theorem DrAt.grown {N b : Nat} {d : Dr} {vt vf vh : Value} {gs : List Fn} {B : Nat} {W W' : World} {row : Option Nat} (h : DrAt N b d vt vf vh gs B W) (hg : W.grownBy W' row) (hr : ∀ r, row = some r → ∃ o : Obj, W.heap[r]? = some o ∧ o.isCells = false) : DrAt N b d vt vf vh gs B W' :=
  ⟨cells_grown h.bk hg hr, own_grown h.ot hg hr, own_grown h.of hg hr, own_grown h.oh hg hr, h.tr, fun g hgs => ⟨⟨own_grown (h.og g hgs).1.1 hg hr, own_grown (h.og g hgs).1.2 hg hr⟩, (h.og g hgs).2⟩, h.nB, Nat.le_trans h.lB hg.size, fun hd g e => ⟨(h.sp hd g e).1, own_grown (h.sp hd g e).2 hg hr⟩, h.di⟩
theorem RwAt.grown {N b n : Nat} {r : Rs} {v : Value} {W W' : World} {row : Option Nat} (h : RwAt N b n r v W) (hg : W.grownBy W' row) (hr : ∀ r, row = some r → ∃ o : Obj, W.heap[r]? = some o ∧ o.isCells = false) : RwAt N b n r v W' :=
  ⟨cells_grown h.bk hg hr, own_grown h.ow hg hr, h.nb⟩
theorem foot_others {M b n : Nat} {r : Rs} {v : Value} {W W' : World} (h : Foot b v W W') (hr : RwAt M b n r v W) : KeepsOthers W W' :=
  ⟨h.1, fun k o hk hc => by
    refine (h.2 k (Array.getElem?_eq_some_iff.1 hk).1 (fun e => ?_) (fun e => ?_)).trans hk
    · subst e; have := hr.bk; rw [hk] at this; cases this; cases hc
    · rcases hr.ow.2 with ⟨rfl, _⟩ | ⟨g, cap, cur, rfl, _, hgb, _⟩
      · cases e
      · have e2 : g = k := by simpa [Value.ownBlock] using e
        subst e2; rw [hk] at hgb; cases hgb; cases hc⟩
theorem foot_cells {M b n : Nat} {r : Rs} {v : Value} {W W' : World} (h : Foot b v W W') (hr : RwAt M b n r v W) {k : Nat} {cs : Array Value} {t : TypeId} (hk : W.heap[k]? = some (.cells cs t)) (h1 : t ≠ 46) (h2 : t ≠ 2) : W'.heap[k]? = some (.cells cs t) := by
  refine (h.2 k (Array.getElem?_eq_some_iff.1 hk).1 (fun e => ?_) (fun e => ?_)).trans hk
  · subst e; have := hr.bk; rw [hk] at this; cases this; exact h1 rfl
  · rcases hr.ow.2 with ⟨rfl, _⟩ | ⟨g, cap, cur, rfl, _, hgb, _⟩
    · cases e
    · have e2 : g = k := by simpa [Value.ownBlock] using e
      subst e2; rw [hk] at hgb; cases hgb; exact h2 rfl
def mkD (d : Nat) : Deferred := { target := .collected d, args := #[] }
/-- The deferred records are marks of blocks of their own. -/
def Mk (N : Nat) (D : List Deferred) (W : World) : Prop := ∃ ds : List Nat, D = ds.map mkD ∧ ds.Nodup ∧ ∀ d ∈ ds, N ≤ d ∧ W.heap[d]? = some (.deferred (some []))
theorem Mk.nil (N : Nat) (W : World) : Mk N [] W := ⟨[], rfl, List.nodup_nil, by simp⟩
theorem Mk.keep {N : Nat} {D : List Deferred} {W W' : World} (h : Mk N D W) (hb : ∀ (k : Nat) (o : Obj), W.heap[k]? = some o → o.isCells = false → W'.heap[k]? = some o) : Mk N D W' := by
  obtain ⟨ds, e, hn, hd⟩ := h
  exact ⟨ds, e, hn, fun d hm => ⟨(hd d hm).1, hb _ _ (hd d hm).2 rfl⟩⟩
theorem Mk.stay {N : Nat} {D : List Deferred} {W W' : World} (h : Mk N D W) (hb : Below W.heap.size W W') : Mk N D W' := h.keep fun _ _ hk _ => (hb.block _ (Array.getElem?_eq_some_iff.1 hk).1).trans hk
theorem Mk.cons {N : Nat} {D : List Deferred} {W W' : World} (h : Mk N D W) (hb : ∀ (k : Nat) (o : Obj), W.heap[k]? = some o → o.isCells = false → W'.heap[k]? = some o) {d : Nat} (hN : N ≤ W.heap.size) (hd : W.heap.size ≤ d) (hK : W'.heap[d]? = some (.deferred (some []))) : Mk N (mkD d :: D) W' := by
  obtain ⟨ds, rfl, hn, hs⟩ := h
  have hlt : ∀ x ∈ ds, x < W.heap.size := fun x hx => (Array.getElem?_eq_some_iff.1 (hs x hx).2).1
  refine ⟨d :: ds, rfl, List.nodup_cons.2 ⟨fun hm => by have := hlt d hm; omega, hn⟩, fun x hx => ?_⟩
  rcases List.mem_cons.1 hx with rfl | hx
  · exact ⟨by omega, hK⟩
  · exact ⟨(hs x hx).1, hb _ _ (hs x hx).2 rfl⟩
theorem leaves_any {n N : Nat} {fn : Func} {tmps : Array Value} {R : Ending → World → Prop} (Φ : World → Prop) (hΦ : ∀ W d, N ≤ d → W.heap[d]? = some (.deferred (some [])) → Φ W → Φ (W.putObj d (.deferred none))) (hend : ∀ W', Φ W' → LeavesIn Fence.wide n Tryz.prog fn tmps R [] .returning W') : ∀ (ds : List Nat) (W : World), ds.Nodup → (∀ d ∈ ds, N ≤ d ∧ W.heap[d]? = some (.deferred (some []))) → Φ W → LeavesInM Fence.wide n Tryz.prog fn tmps R (ds.map mkD) .returning W
  | [], W, _, _, h => hend W h
  | d :: ds, W, hn, hs, h => by
    obtain ⟨hd, hK⟩ := hs d (by simp)
    obtain ⟨hn1, hn2⟩ := List.nodup_cons.1 hn
    have hne : ∀ x ∈ ds, x ≠ d := fun x hx e => hn1 (e ▸ hx)
    refine ⟨by simp, .inl ⟨d, _, rfl, run_takeDeferred hK, leaves_any Φ hΦ hend ds _ hn2 (fun x hx => ⟨(hs x (by simp [hx])).1, ?_⟩) (hΦ W d hd hK h)⟩⟩
    exact (World.putObj_heap_other (hne x hx)).trans (hs x (by simp [hx])).2
theorem Mk.leaves {n N : Nat} {fn : Func} {tmps : Array Value} {R : Ending → World → Prop} {W : World} {D : List Deferred} (h : Mk N D W) (Φ : World → Prop) (hΦ : ∀ W d, N ≤ d → W.heap[d]? = some (.deferred (some [])) → Φ W → Φ (W.putObj d (.deferred none))) (h0 : Φ W) (hend : ∀ W', Φ W' → LeavesIn Fence.wide n Tryz.prog fn tmps R [] .returning W') : LeavesInM Fence.wide n Tryz.prog fn tmps R D .returning W := by
  obtain ⟨ds, rfl, hn, hd⟩ := h
  exact leaves_any Φ hΦ hend ds W hn hd h0
theorem keepsFrom_refl' (B : Nat) (W : World) : KeepsFrom B W W := (KeepsOthers.refl W).from B
theorem BB.others {N b : Nat} {w w' : World} (h : BB N b w w') : ∀ (k : Nat) (o : Obj), w.heap[k]? = some o → o.isCells = false → w'.heap[k]? = some o := h.oth
theorem BB.cells {N b : Nat} {w w' : World} (h : BB N b w w') {k : Nat} {cs : Array Value} {t : TypeId} (hk : w.heap[k]? = some (.cells cs t)) (h1 : k < N) (h2 : k ≠ b) : w'.heap[k]? = some (.cells cs t) := (h.block k (Array.getElem?_eq_some_iff.1 hk).1 h1 h2).trans hk
theorem BB.below {N M b : Nat} {w0 w w' : World} (h : BB N b w w') (hb : Below M w0 w) (hM : M ≤ w.heap.size) (h1 : M ≤ N) (h2 : M ≤ b) : Below M w0 w' :=
  ⟨h.os.trans hb.os, h.tape.trans hb.tape, h.output.trans hb.output, Nat.le_trans hb.size h.size, fun k hk => (h.block k (by omega) (by omega) (by omega)).trans (hb.block k hk)⟩
end Go.Proofs.YtboidkmnkicoeaaGreatDoor

/- A scope inside a fence, through which the run goes without a goto. -/
namespace Go.Proofs.YtboidkmnkicoeaaGreatDoor
open Go.RowKit

section
variable {F : Fence} {n : Nat} {P : Program} {b : Frame} {a : Act} {k : List Item} {cs : List Frame} {w : World} {Q : Exit → Act → World → Prop}
theorem stepR_scope {c : Code} : step P (lone (b.atR a (.code (.scope c) :: k)) cs w) = .next (lone (b.atR a (.code c :: .inScope c :: k)) cs w) :=
  step_lone_go (by simp [stepG, stepG.exec, Frame.atR])
theorem stepR_inScope {c : Code} : step P (lone (b.atR a (.inScope c :: k)) cs w) = .next (lone (b.atR a k) cs w) :=
  step_lone_go (by simp [stepG, stepG.exec, Frame.atR])
theorem wpIn_scope {c : Code} (h : c.wpIn F n P (Exit.noGoto Q) a w) : (Code.scope c).wpIn F n P Q a w := by
  intro b k cs hro hb hr
  have h0 : (lone (b.atR a (.code (.scope c) :: k)) cs w).fenced P F := fenced_calm hb hr rfl
  obtain ⟨e, a₁, w₁, hq, harr⟩ := h b (.inScope c :: k) cs hro hb hr
  cases e with
  | normal => exact ⟨.normal, a₁, w₁, hq, .head h0 stepR_scope (StepsIn.trans harr (.one (fenced_calm hb hr rfl) stepR_inScope))⟩
  | exit id =>
    have hx : exitTo id (.inScope c :: k) = exitTo id k := by simp [exitTo]
    exact ⟨.exit id, a₁, w₁, hq, fun k' hk => .head h0 stepR_scope (harr.1 k' (by rw [hx]; exact hk)), fun hr' hk => let ⟨k₁, h1, h2⟩ := harr.2 hr' (by rw [hx]; exact hk); ⟨k₁, h1, .head h0 stepR_scope h2⟩⟩
  | goto l => exact hq.elim
  | ret => exact ⟨.ret, a₁, w₁, hq, fun h => let ⟨t, ht⟩ := harr.1 h; ⟨t, .head h0 stepR_scope ht⟩, fun h => let ⟨t, ht⟩ := harr.2 h; ⟨t, .head h0 stepR_scope ht⟩⟩
  | panic ch =>
    obtain ⟨t, ht⟩ := harr
    exact ⟨.panic ch, a₁, w₁, hq, t, .head h0 stepR_scope ht⟩
  | outgrown => exact ⟨_, a₁, w₁, hq, .of_steps (.one h0 stepR_scope) harr⟩
end
end Go.Proofs.YtboidkmnkicoeaaGreatDoor
