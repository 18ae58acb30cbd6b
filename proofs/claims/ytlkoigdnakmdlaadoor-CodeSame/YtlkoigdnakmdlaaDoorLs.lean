/- CodeSame. -/
import Derived.Test.YtlkoigdnakmdlaaDoorFb
import Derived.Test.YtlkoigdnakmdlaaDoorEd
import Derived.Test.YtlkoigdnakmdlaaDoorEe
import Derived.Test.YtlkoigdnakmdlaaDoorDf
import Derived.Deep.RegionHeld3
namespace Go.Proofs.YtlkoigdnakmdlaaDoor
open Go.RowKit Go.Sort

set_option maxRecDepth 100000 in
set_option maxHeartbeats 8000000 in
theorem codeSame_any (p q : Mo) (w : World) (ht : Tab w) (hp : p.In w) (hq : q.In w) : Calls Tryd.prog 7 #[p.val, q.val] w fun e w' => e = .returned (.bool true) ∧ Below w.heap.size w w' := by
  have HA : Hid (∀ w', Below w.heap.size w w' → Calls Tryd.prog 9 #[] w' fun e w'' => e = .returned (.bool true) ∧ Below w'.heap.size w' w'') := fun w' h => fixed_any w' (ht.stay h)
  have HRS : Hid (∀ w', Below w.heap.size w w' → Calls Tryd.prog 21 #[p.val, q.val] w' fun e w'' => e = .returned (.bool (samM p q)) ∧ Below w'.heap.size w' w'') := fun w' h => rsame_any p q w' (hp.stay h) (hq.stay h)
  have HS1 : Hid (∀ w', Below w.heap.size w w' → Calls Tryd.prog 25 #[p.val, q.val] w' fun e w'' => e = .returned (.bool (samM p q)) ∧ Below w'.heap.size w' w'') := fun w' h => same_any p q w' (hp.stay h) (hq.stay h)
  have HS2 : Hid (∀ w', Below w.heap.size w w' → Calls Tryd.prog 25 #[q.val, p.val] w' fun e w'' => e = .returned (.bool (samM p q)) ∧ Below w'.heap.size w' w'') := fun w' h => by rw [samM_comm]; exact same_any q p w' (hq.stay h) (hp.stay h)
  have HS3 : Hid (∀ (pc : Mo) (w' : World), Below w.heap.size w w' → pc.In w' → pc.er = p.er → Calls Tryd.prog 25 #[p.val, pc.val] w' fun e w'' => e = .returned (.bool true) ∧ Below w'.heap.size w' w'') := fun pc w' h hc he => by
    have := same_any p pc w' (hp.stay h) hc
    rwa [samM_same he.symm] at this
  have HCP : Hid (∀ w', Below w.heap.size w w' → Calls Tryd.prog 19 #[p.val] w' fun e w'' => ∃ q : Mo, e = .returned q.val ∧ q.In w'' ∧ q.er = p.er ∧ Below w'.heap.size w' w'') := fun w' h => copy_any p w' (hp.stay h)
  clear hp hq ht
  generalize samM p q = is at *
  unfold Mo.val at *
  have hb1 : Below w.heap.size w ((w.alloc (.cells #[.slice p.ta p.ths.length p.tc, .slice p.fa p.funcs.length p.fc] 33)).alloc (.cells #[.slice q.ta q.ths.length q.tc, .slice q.fa q.funcs.length q.fc] 33)) := Below.one (Below.one (Below.refl _ _) _) _
  obtain ⟨hX, hY⟩ := two_new w #[.slice p.ta p.ths.length p.tc, .slice p.fa p.funcs.length p.fc] #[.slice q.ta q.ths.length q.tc, .slice q.fa q.funcs.length q.fc] 33
  have a0 := hX 0 (.slice p.ta p.ths.length p.tc) rfl
  have a1 := hX 1 (.slice p.fa p.funcs.length p.fc) rfl
  have b0 := hY 0 (.slice q.ta q.ths.length q.tc) rfl
  have b1 := hY 1 (.slice q.fa q.funcs.length q.fc) rfl
  clear hX hY
  go_enter Tryd.func7, Tryd.ntmps7
  go_wp2_with fail
  generalize (w.alloc (.cells #[.slice p.ta p.ths.length p.tc, .slice p.fa p.funcs.length p.fc] 33)).alloc (.cells #[.slice q.ta q.ths.length q.tc, .slice q.fa q.funcs.length q.fc] 33) = W1 at *
  have p0 : ∀ w', Below W1.heap.size W1 w' → w'.cell? _ = some _ := fun w' h => cell_kept_below a0 h
  have p1 : ∀ w', Below W1.heap.size W1 w' → w'.cell? _ = some _ := fun w' h => cell_kept_below a1 h
  have q0 : ∀ w', Below W1.heap.size W1 w' → w'.cell? _ = some _ := fun w' h => cell_kept_below b0 h
  have q1 : ∀ w', Below W1.heap.size W1 w' → w'.cell? _ = some _ := fun w' h => cell_kept_below b1 h
  have B5 := Hid.mk' hb1
  clear a0 a1 b0 b1 hb1
  cases is
  all_goals
    go_region_held3 (fun w' => Below W1.heap.size W1 w') (first | exact Below.drew (Below.refl _ _) | exact Below.on (by assumption) (by assumption) | exact Below.one (by assumption) _)
      (first
        | (go_at_call 9; with_reducible refine (HA.out _ (Below.on B5.out (by assumption))).mono ?_; rintro e w' ⟨rfl, hb⟩)
        | (go_at_call 19; refine (HCP.out _ (Below.on B5.out (by assumption))).mono ?_; rintro e w' ⟨pc, rfl, hcp, her, hb⟩)
        | (go_at_call 21; with_reducible refine (HRS.out _ (Below.on B5.out (by assumption))).mono ?_; rintro e w' ⟨rfl, hb⟩)
        | (go_at_call 25; with_reducible refine (HS1.out _ (Below.on B5.out (by assumption))).mono ?_; rintro e w' ⟨rfl, hb⟩)
        | (go_at_call 25; with_reducible refine (HS2.out _ (Below.on B5.out (by assumption))).mono ?_; rintro e w' ⟨rfl, hb⟩)
        | (go_at_call 25; with_reducible refine (HS3.out pc _ (Below.on B5.out (by assumption)) hcp her).mono ?_; rintro e w' ⟨rfl, hb⟩))
  all_goals go_wp2_with fail
  all_goals go_ret
  all_goals exact ⟨rfl, Below.on B5.out (by assumption)⟩
end Go.Proofs.YtlkoigdnakmdlaaDoor
