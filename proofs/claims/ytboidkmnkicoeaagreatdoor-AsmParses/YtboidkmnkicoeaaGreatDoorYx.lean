/- asm.draft.add: a whole line is put behind what has been read. -/
import Derived.Test.YtboidkmnkicoeaaGreatDoorYr
namespace Go.Proofs.YtboidkmnkicoeaaGreatDoor
open Go.RowKit Go.Sort

set_option maxRecDepth 100000 in
set_option maxHeartbeats 2000000 in
theorem add_any (N b : Nat) (d : Dr) (vt vf vh : Value) (gs : List Fn) (B : Nat) (w : World) (n : Nat) (hn : n ≤ 9223372036854775807) (r : Rs) (v : Value) (hE : Env w) (hN : N ≤ w.heap.size) (hd : DrAt N b d vt vf vh gs B w) (hh : d.hs.length = d.fs.length)
    (hr : w.ownsRow N 2 1 v (r.ns.take 20).length ((r.ns.take 20).flatMap thC)) (hk : r.kind = -1 ∨ r.kind = -2 ∨ (0 ≤ r.kind ∧ r.kind ≤ 19)) (hw : whole r = true) (hnl : r.kind = -2 → r.ns.length + 2 = r.words) (hni : 0 ≤ r.kind → r.ns.length + 1 = r.words) (hf : 0 ≤ r.kind → d.fs ≠ []) (hns : ∀ z ∈ r.ns, I64 z) (hnm : r.name.length ≤ 140737488351232) :
    Calls Tryz.prog 12 #[.pointer (some ⟨b, 0, none⟩), .agg (rowV n r.words r.kind (tb r.name) v)] w (DrP N b (addZ d n r) w) := by
  have hb0 := Below.one (Below.refl _ w) (.cells (rowV n r.words r.kind (tb r.name) v) 46)
  have D0 := hd.stay hb0
  have hr0 := own_stay hr hb0
  have hb0N : Below w.heap.size w (w.alloc (.cells (rowV n r.words r.kind (tb r.name) v) 46)) := hb0
  have hN0 : N ≤ (w.alloc (.cells (rowV n r.words r.kind (tb r.name) v) 46)).heap.size := Nat.le_trans hN hb0.size
  have xr := heap_alloc_new w (.cells (rowV n r.words r.kind (tb r.name) v) 46)
  have x0 := cell_of_obj xr (j := 0) (v := .int .i64 (n : Int)) rfl
  have x1 := cell_of_obj xr (j := 1) (v := .int .i64 (r.words : Int)) rfl
  have x2 := cell_of_obj xr (j := 2) (v := .int .i64 r.kind) rfl
  have x3 := cell_of_obj xr (j := 3) (v := .string (tb r.name)) rfl
  have x4 := cell_of_obj xr (j := 4) (v := v) rfl
  rcases hk with hk | hk | ⟨hk0, hk1⟩
  · have hz : addZ d n r = { d with ths := r.ns } := by unfold addZ; rw [if_pos hk]
    rw [hz]
    obtain ⟨p0, p1, p2⟩ := D0.cell
    have f0 := D0.frozen 0
    have HD := Hid.mk' (D0.ths hr0)
    have HB := Hid.mk' ((BB.of (N := N) (b := b) hb0N).set (j := 0) D0.bk (.inr rfl) v)
    obtain ⟨av, cv, rfl⟩ := gown_form hr
    rw [hk] at *
    clear hz hE hd D0 hr hr0 hb0 hb0N xr hN0
    generalize (r.ns.take 20).length = tl at *
    go_enter Tryz.func12, Tryz.ntmps12
    go_wp2_with fail
    go_end0
    exact ⟨rfl, HB.out, _, _, _, _, _, HD.out⟩
  · have hz : addZ d n r = { d with hs := d.hs ++ [n], fs := d.fs ++ [hdF r] } := by unfold addZ; rw [if_neg (by omega), if_pos hk]
    rw [hz]
    obtain ⟨L, hL⟩ : ∃ L, r.ns.take 20 = L := ⟨_, rfl⟩
    rw [hL] at hr hr0
    obtain ⟨av, cv, rfl⟩ := gown_form hr
    have hwd : 4 ≤ r.words ∧ r.words % 2 = 0 := by
      unfold whole at hw
      rw [if_neg (by omega), if_pos hk] at hw
      exact of_decide_eq_true hw
    have hl := hnl hk
    have HA := Hid.mk' (addHead_any N b d vt vf vh gs B _ n hn r.words r.kind r av cv L hL hN0 D0 hh hr0 (by omega) (by omega) hns hnm)
    have HB := Hid.mk' hb0N
    rw [hk] at *
    clear hz hE hd D0 hr hr0 hb0 hb0N xr hN0 hL hns hnl hni hf hwd hl
    go_enter Tryz.func12, Tryz.ntmps12
    go_wp2_with fail
    refine HA.out.mono ?_
    rintro e w1 ⟨rfl, hb1, hd1⟩
    go_wp2_with fail
    go_end0
    exact ⟨rfl, BB.on HB.out hb1, hd1⟩
  · obtain ⟨k, hkk⟩ : ∃ k : Nat, r.kind = k := ⟨r.kind.toNat, by omega⟩
    have hz : addZ d n r = { d with fs := d.fs.modify (d.fs.length - 1) (moreI (insF k r.ns)) } := by unfold addZ; rw [if_neg (by omega), if_neg (by omega), hkk]
    rw [hz]
    have hwd : r.words = 1 + (hasL k).length := by
      unfold whole at hw
      rw [if_neg (by omega), if_neg (by omega), hkk] at hw
      exact of_decide_eq_true hw
    have hl := hni hk0
    have hlen : (hasL k).length ≤ 4 := by
      unfold hasL
      split <;> split <;> split <;> split <;> simp
    rw [List.take_of_length_le (by omega)] at hr hr0
    obtain ⟨av, cv, rfl⟩ := gown_form hr
    have HA := Hid.mk' (addIns_any N b d vt vf vh gs B _ n r.words (tb r.name) k (by omega) av cv r.ns (hE.stay hb0N) D0 (hf hk0) hr0 (by omega) hns)
    have HB := Hid.mk' hb0N
    have hm1 : ((k : Int) == -1) = false := beq_no (by omega)
    have hm2 : ((k : Int) == -2) = false := beq_no (by omega)
    rw [hkk] at *
    clear hz hE hd D0 hr hr0 hb0 hb0N xr hN0 hns hnl hni hf hwd hl hlen hk0 hk1
    go_enter Tryz.func12, Tryz.ntmps12
    go_wp2_with fail
    refine HA.out.mono ?_
    rintro e w1 ⟨rfl, hb1, hd1⟩
    go_wp2_with fail
    go_end0
    exact ⟨rfl, BB.on HB.out hb1, hd1⟩
end Go.Proofs.YtboidkmnkicoeaaGreatDoor
