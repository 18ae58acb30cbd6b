/- tree.Same: are two programs the same? -/
import Derived.Test.YtbpemackmadhgaaDoorS7
namespace Go.Proofs.YtbpemackmadhgaaDoor
open Go.RowKit

def samPr (p q : Pr) : Bool := samI p.widen q.widen && samFs p.funcs q.funcs
theorem Pr.In.thr {w : World} {p : Pr} (h : p.In w) : Thr w p.wa p.wc p.widen := ⟨h.1, h.2.1, h.2.2.2.1⟩
theorem Pr.In.haveF {w : World} {p : Pr} (h : p.In w) : HaveF w p.fa p.fc p.funcs := by
  obtain ⟨_, _, _, _, _, h6, h7, _, h9, h10⟩ := h
  exact ⟨⟨h6, h7, h9⟩, h10⟩
set_option maxRecDepth 100000 in
set_option maxHeartbeats 4000000 in
theorem same_any (p q : Pr) (w : World) (hx : p.In w) (hy : q.In w) : Calls Tryd.prog 12 #[p.val, q.val] w fun e w' => e = .returned (.bool (samPr p q)) ∧ Below w.heap.size w w' := by
  have hb1 := ((Below.refl _ w).alloc (Nat.le_refl _) (.cells #[.slice p.wa p.widen.length p.wc, .slice p.fa p.funcs.length p.fc] 26)).alloc (by simp) (.cells #[.slice q.wa q.widen.length q.wc, .slice q.fa q.funcs.length q.fc] 26)
  have HP : Hid (∀ w', Below w.heap.size w w' → Calls Tryd.prog 19 #[.slice p.wa p.widen.length p.wc, .slice q.wa q.widen.length q.wc] w' fun e w'' => e = .returned (.bool (samI p.widen q.widen)) ∧ Below w'.heap.size w' w'') := fun w' hb => equalI_any _ _ _ _ _ _ w' (hx.stay hb).thr (hy.stay hb).thr
  have HS : Hid (∀ w', Below w.heap.size w w' → Calls Tryd.prog 20 #[.slice p.fa p.funcs.length p.fc, .slice q.fa q.funcs.length q.fc, .func (.func 21) #[] #[]] w' fun e w'' => e = .returned (.bool (samFs p.funcs q.funcs)) ∧ Below w'.heap.size w' w'') := fun w' hb => eqF_step (fun x y w hx hy => sameFn_any x y w hx hy) _ _ _ _ _ _ w' (hx.stay hb).haveF (hy.stay hb).haveF
  have HE : Hid (samPr p q = (samI p.widen q.widen && samFs p.funcs q.funcs)) := (rfl : samPr p q = _)
  clear hx hy
  generalize samPr p q = res at HE ⊢
  generalize samI p.widen q.widen = ri at HE HP
  generalize samFs p.funcs q.funcs = rf at HE HS
  unfold Pr.val
  go_enter Tryd.func12, Tryd.ntmps12
  go_wp2_with fail
  refine (HP.out _ hb1).mono ?_
  rintro e w1 ⟨rfl, k0⟩
  obtain ⟨hX, hY, _⟩ := two_cells k0
  have c1 := hX 1 _ rfl
  have d1 := hY 1 _ rfl
  have hb2 : Below w.heap.size w w1 := hb1.trans (k0.mono hb1.size)
  clear hX hY k0 hb1
  cases ri
  · go_wp2_with fail
    go_ret
    exact ⟨ret_bool (by rw [HE.out]; rfl), hb2⟩
  · go_wp2_with fail
    refine (HS.out _ hb2).mono ?_
    rintro e w2 ⟨rfl, k1⟩
    go_wp2_with fail
    go_ret
    exact ⟨ret_bool (by rw [HE.out]; rfl), hb2.trans (k1.mono hb2.size)⟩
end Go.Proofs.YtbpemackmadhgaaDoor
