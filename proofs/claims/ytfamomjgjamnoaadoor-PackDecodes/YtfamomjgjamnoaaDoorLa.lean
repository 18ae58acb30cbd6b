/- pack.Decode. -/
import Derived.Test.YtfamomjgjamnoaaDoorKz
namespace Go.Proofs.YtfamomjgjamnoaaDoor
open Go.RowKit Go.Sort

def mo0 : Mo := ⟨none, 0, [], none, 0, []⟩
theorem own0 (W : World) (N : Nat) : OwnM W N mo0 := ⟨World.ownsRow_nil _ _ _ _, World.ownsRow_nil _ _ _ _, fun _ h => (by cases h), by decide, by decide, fun _ h => (by cases h)⟩
/-- What Decode tells, as it stands. -/
def DecR (bs : Bt) (q : Mo) (e p : Int) : Prop := match decZ bs with
  | .error (e', p') => q = mo0 ∧ e = e' ∧ p = p' ∧ e' ≠ 0
  | .ok m => q.er = m ∧ e = 0 ∧ p = 0
def DeP (bs : Bt) (w : World) (en : Ending) (w' : World) : Prop :=
  ∃ (q : Mo) (e p : Int), en = .returned (.tuple #[q.val, .int .i64 e, .int .i64 p]) ∧ DecR bs q e p ∧ OwnM w' w.heap.size q ∧ Below w.heap.size w w'
theorem decR_long {bs : Bt} (h : 1048576 < bs.length) : DecR bs mo0 4 1048576 := by
  unfold DecR decZ
  rw [if_pos h]
  exact ⟨rfl, rfl, rfl, by decide⟩
theorem decR_bad {bs : Bt} (h : ¬ 1048576 < bs.length) {x : Mo} {e p : Int} (hr : Rn moR bs (.at 0) x (.bad e p)) (he : e ≠ 0) : DecR bs mo0 e p := by
  unfold DecR decZ
  rw [if_neg h]
  simp only [Rn] at hr
  cases hm : moR bs 0 with
  | error ep => rw [hm] at hr; simp only at hr ⊢; injection hr with h1 h2; subst h1; subst h2; simpa using he
  | ok xa => rw [hm] at hr; exact absurd hr.2 (by simp)
theorem decR_ok {bs : Bt} (h : ¬ 1048576 < bs.length) {q : Mo} {a : Nat} (hr : Rn moR bs (.at 0) q.er (.at a)) : DecR bs q 0 0 := by
  unfold DecR decZ
  rw [if_neg h]
  simp only [Rn] at hr
  cases hm : moR bs 0 with
  | error ep => rw [hm] at hr; simp at hr
  | ok xa => rw [hm] at hr; exact ⟨hr.1, rfl, rfl⟩
set_option maxRecDepth 100000 in
set_option maxHeartbeats 4000000 in
theorem decode_any (bs : Bt) (va : Option Addr) (vc : Nat) (w : World) (hr : RowIn w va 1 (bs.map bC)) (hv : ∀ a, va = some a → a.block < w.heap.size) (hc : bs.length ≤ vc) :
    Calls Tryd.prog 13 #[.slice va bs.length vc] w (DeP bs w) := by
  have b1 := Below.one (Below.refl _ w) (.cells #[.slice none 0 0, .slice none 0 0] 25)
  have x0 := heap_alloc_new w (.cells #[.slice none 0 0, .slice none 0 0] 25)
  by_cases hl : 1048576 < bs.length
  · have hli : (1048576 : Int) < (bs.length : Int) := by omega
    have HB := Hid.mk' b1
    have z0 := cell_of_obj x0 (j := 0) (v := .slice none 0 0) rfl
    have z1 := cell_of_obj x0 (j := 1) (v := .slice none 0 0) rfl
    have ff := fun j => Lib.frozen_of_heap x0 j
    have HD := Hid.mk' (decR_long hl)
    clear hr hv hc b1 x0 hl
    go_enter Tryd.func13, Tryd.ntmps13
    go_wp2_with fail
    exact bodyPost_ret (v := .tuple #[.agg #[.slice none 0 0, .slice none 0 0], .int .i64 4, .int .i64 1048576]) (by simp [results, Tryd.results13, go_sem, *]) rfl ⟨mo0, 4, 1048576, rfl, HD.out, own0 _ _, HB.out⟩
  · have hli : ¬ (1048576 : Int) < (bs.length : Int) := by omega
    have b2 := Below.one b1 (.cells #[.slice va bs.length vc, .int .i64 0, .int .i64 0, .int .i64 0] 63)
    have x1 := heap_alloc_new (w.alloc (.cells #[.slice none 0 0, .slice none 0 0] 25)) (.cells #[.slice va bs.length vc, .int .i64 0, .int .i64 0, .int .i64 0] 63)
    rw [World.size_alloc] at x1
    have HX0 := Hid.mk' (blk_stay x0 (Below.one (Below.refl _ _) (.cells #[.slice va bs.length vc, .int .i64 0, .int .i64 0, .int .i64 0] 63)))
    have HR : Hid (RdAt 63 (w.heap.size + 1) bs va vc (.at 0) ((w.alloc (.cells #[.slice none 0 0, .slice none 0 0] 25)).alloc (.cells #[.slice va bs.length vc, .int .i64 0, .int .i64 0, .int .i64 0] 63))) := ⟨⟨0, 0, 0, x1, Nat.zero_le _, rfl, rfl⟩, hr.below b2, fun a e => by have := hv a e; omega, by omega, hc⟩
    have HMO := Hid.mk' (rdMod_any _ bs va vc _ _ HR.out (fun a e => by have := hv a e; simp; omega))
    have HB := Hid.mk' b2
    have HL := Hid.mk' hl
    have hsz : ((w.alloc (.cells #[.slice none 0 0, .slice none 0 0] 25)).alloc (.cells #[.slice va bs.length vc, .int .i64 0, .int .i64 0, .int .i64 0] 63)).heap.size = w.heap.size + 1 + 1 := by simp
    have HSZ := Hid.mk' hsz
    clear hr hv hc b1 b2 x0 x1 hl HR hsz
    go_enter Tryd.func13, Tryd.ntmps13
    go_wp2_with fail
    generalize (w.alloc (.cells #[.slice none 0 0, .slice none 0 0] 25)).alloc (.cells #[.slice va bs.length vc, .int .i64 0, .int .i64 0, .int .i64 0] 63) = W0 at *
    refine HMO.out.mono ?_
    rintro e W1 ⟨q, s', rfl, r1, q1, o1, m1⟩
    have hs1 := o1.size
    rw [HSZ.out] at hs1 m1
    have HBW := Hid.mk' (HB.out.trans (o1.below (N := w.heap.size) (by rw [HSZ.out]; omega) (by omega)))
    have b3 := Below.one (Below.refl _ W1) (.cells #[.slice q.ta q.ths.length q.tc, .slice q.fa q.funcs.length q.fc] 25)
    have HX2 := Hid.mk' (heap_alloc_new W1 (.cells #[.slice q.ta q.ths.length q.tc, .slice q.fa q.funcs.length q.fc] 25))
    replace HX0 := Hid.mk' (blk_stay (o1.blk HX0.out (by omega)) b3)
    have q2 := q1.stay b3
    have HM := Hid.mk' ((m1.low (N' := w.heap.size) (by omega)).stay b3)
    replace HB := Hid.mk' (HBW.out.trans (b3.mono (by omega)))
    have HR := Hid.mk' r1
    obtain ⟨ra, re, rp, hrb, _, hrs⟩ := q2.ex
    have e2 := cell_of_obj hrb (j := 2) (v := .int .i64 re) rfl
    have e3 := cell_of_obj hrb (j := 3) (v := .int .i64 rp) rfl
    have z0 := cell_of_obj HX0.out (j := 0) (v := .slice none 0 0) rfl
    have z1 := cell_of_obj HX0.out (j := 1) (v := .slice none 0 0) rfl
    have f0 := Lib.frozen_of_heap HX0.out 0
    have f1 := Lib.frozen_of_heap HX0.out 1
    have y0 := cell_of_obj HX2.out (j := 0) (v := .slice q.ta q.ths.length q.tc) rfl
    have y1 := cell_of_obj HX2.out (j := 1) (v := .slice q.fa q.funcs.length q.fc) rfl
    have hg : ¬ W1.heap.size = w.heap.size := by omega
    clear HMO o1 q1 r1 m1 HSZ hs1 b3 q2 hrb HBW
    unfold Mo.val
    cases s' with
    | bad eb pb =>
      obtain ⟨rfl, rfl, hne⟩ := ss_bad hrs
      have hq : (re != 0) = true := bne_of hne
      have HD := Hid.mk' (decR_bad HL.out HR.out hne)
      clear hrs HR HL
      go_upto_region 6 with fail
      generalize W1.alloc (.cells #[.slice q.ta q.ths.length q.tc, .slice q.fa q.funcs.length q.fc] 25) = W2 at *
      go_region
      all_goals go_wp2_with fail
      all_goals exact bodyPost_ret (v := .tuple #[.agg #[.slice none 0 0, .slice none 0 0], .int .i64 re, .int .i64 rp]) (by simp [results, Tryd.results13, go_sem, *]) rfl ⟨mo0, re, rp, rfl, HD.out, own0 _ _, ((Below.drew HB.out).setCell (by simp) _).setCell (by simp) _⟩
    | «at» aa =>
      obtain ⟨rfl, rfl⟩ := ss_at hrs
      have HD := Hid.mk' (decR_ok HL.out HR.out)
      clear hrs HR HL
      go_wp2_with fail
      exact bodyPost_ret (v := .tuple #[.agg #[.slice q.ta q.ths.length q.tc, .slice q.fa q.funcs.length q.fc], .int .i64 0, .int .i64 0]) (by simp [results, Tryd.results13, go_sem, *]) rfl ⟨q, 0, 0, rfl, HD.out, HM.out.put HX0.out (by decide) (by decide) (by decide) (by decide) (set2 _ _ _ _), (HB.out.setCell (by simp) _).setCell (by simp) _⟩
end Go.Proofs.YtfamomjgjamnoaaDoor
