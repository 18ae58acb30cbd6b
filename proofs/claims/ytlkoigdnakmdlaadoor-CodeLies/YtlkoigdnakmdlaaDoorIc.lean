/- code.Reads: the function value that it hands back tells the registers that are read. -/
import Derived.Test.YtlkoigdnakmdlaaDoorIb
namespace Go.Proofs.YtlkoigdnakmdlaaDoor
open Go.RowKit Go.Shelf

/-- A function value tells a list. -/
structure Tells (W : World) (gf B C : Nat) (L : List Int) (N : Nat) : Prop where
  lb : B < W.heap.size
  lc : C < W.heap.size
  nb : N ≤ B
  nc : N ≤ C
  enters : ∀ args w, (callFunc gf args).run Tryd.prog w = .ok (.enter gf args) w
  stops : ∀ n, 1 ≤ n → SeqStopsK Fence.wide n Tryd.prog gf #[.pointer (some ⟨B, 0, none⟩), .pointer (some ⟨C, 0, none⟩)] encN (KpB B C) (fun ys => ys = L) (fun pre => pre <+: L) L.length W
theorem reads_stops (n Bx Br : Nat) (hn : 1 ≤ n) (x : Is) (r : Int) (w : World) (h0 : w.cell? ⟨Bx, 0, none⟩ = some (.int .i64 x.op)) (h1 : w.cell? ⟨Bx, 1, none⟩ = some (.int .i64 x.a)) (h2 : w.cell? ⟨Bx, 2, none⟩ = some (.int .i64 x.b)) (h3 : w.cell? ⟨Bx, 3, none⟩ = some (.int .i64 x.c)) (h4 : w.cell? ⟨Bx, 4, none⟩ = some (.int .i64 x.n)) (hr : w.cell? ⟨Br, 0, none⟩ = some (.int .i64 r)) (L : List Int) (hL : L = bl (bt r 0) x.a ++ bl (bt r 1) x.b ++ bl (bt r 2) x.c) :
    SeqStopsK Fence.wide n Tryd.prog 42 #[.pointer (some ⟨Bx, 0, none⟩), .pointer (some ⟨Br, 0, none⟩)] encN (KpB Bx Br) (fun ys => ys = L) (fun pre => pre <+: L) L.length w :=
  fun l J Jx W hW hJ _ hY j0 => reads1_in n l Bx Br hn x r L hL J Jx _ hJ hY W ((hW.cell (p := ⟨Bx, 0, none⟩) (lt_of_cell h0)).trans h0) ((hW.cell (p := ⟨Bx, 1, none⟩) (lt_of_cell h1)).trans h1) ((hW.cell (p := ⟨Bx, 2, none⟩) (lt_of_cell h2)).trans h2) ((hW.cell (p := ⟨Bx, 3, none⟩) (lt_of_cell h3)).trans h3) ((hW.cell (p := ⟨Bx, 4, none⟩) (lt_of_cell h4)).trans h4) ((hW.cell (p := ⟨Br, 0, none⟩) (lt_of_cell hr)).trans hr) j0

set_option maxHeartbeats 1000000 in
theorem reads_any (x : Is) (p : Int) (w : World) (ht : Tab w) : Calls Tryd.prog 26 #[x.val, .int .i64 p] w fun e w' => ∃ gf B C, e = .returned (.func (.func gf) #[] #[.pointer (some ⟨B, 0, none⟩), .pointer (some ⟨C, 0, none⟩)]) ∧ Below w.heap.size w w' ∧ Tells w' gf B C (rdL x p) w.heap.size := by
  have hb := Below.one (Below.refl _ w) (oX x)
  have x0 := new_cell w #[.int .i64 x.op, .int .i64 x.a, .int .i64 x.b, .int .i64 x.c, .int .i64 x.n] 27 0 (.int .i64 x.op) rfl
  have x1 := new_cell w #[.int .i64 x.op, .int .i64 x.a, .int .i64 x.b, .int .i64 x.c, .int .i64 x.n] 27 1 (.int .i64 x.a) rfl
  have x2 := new_cell w #[.int .i64 x.op, .int .i64 x.a, .int .i64 x.b, .int .i64 x.c, .int .i64 x.n] 27 2 (.int .i64 x.b) rfl
  have x3 := new_cell w #[.int .i64 x.op, .int .i64 x.a, .int .i64 x.b, .int .i64 x.c, .int .i64 x.n] 27 3 (.int .i64 x.c) rfl
  have x4 := new_cell w #[.int .i64 x.op, .int .i64 x.a, .int .i64 x.b, .int .i64 x.c, .int .i64 x.n] 27 4 (.int .i64 x.n) rfl
  unfold Is.val
  by_cases h : x.op = 19
  · have HA := Hid.mk' (arguments_any x.b p)
    have HL : Hid (rdL x p = argL x.b p) := if_pos h
    have hq : (x.op == 19) = true := by simp [h]
    clear h ht
    go_enter Tryd.func26, Tryd.ntmps26
    go_wp2_with (go_at_call 41; refine (HA.out _).mono ?_; rintro e w1 ⟨rfl, rfl⟩)
    go_ret
    refine ⟨_, _, _, rfl, Below.one (Below.one hb _) _, ⟨by simp, by simp, by omega, by omega, enters_of Tryd.func52 (by kernel_rfl) rfl, fun n hn => ?_⟩⟩
    rw [HL.out]
    refine args_stops n _ _ hn x.b p _ ?_ ?_
    · have := new_cell ((w.alloc (oX x)).alloc (.cells #[.int .i64 x.b] 3)) #[.int .i64 p] 3 0 (.int .i64 p) rfl
      rwa [World.size_alloc, World.size_alloc] at this
    · have := cell_kept_below (new_cell (w.alloc (oX x)) #[.int .i64 x.b] 3 0 (.int .i64 x.b) rfl) (Below.one (Below.refl _ _) (.cells #[.int .i64 p] 3))
      rwa [World.size_alloc] at this
  · have HR := Hid.mk' (rowOf_any x.op _ (ht.stay hb))
    have HL : Hid (rdL x p = bl (bt (rwOf x.op).reads 0) x.a ++ bl (bt (rwOf x.op).reads 1) x.b ++ bl (bt (rwOf x.op).reads 2) x.c) := (by unfold rdL; rw [if_neg h, fldL_eq] : rdL x p = _)
    have hq : (x.op == 19) = false := beq_no h
    unfold Rw.val at HR
    generalize rwOf x.op = r at *
    obtain ⟨r0, r1, r2, r3, r4, r5⟩ := r
    simp only at HR HL
    have hfd := fld_row3
    clear h ht
    go_enter Tryd.func26, Tryd.ntmps26
    go_wp2_with (go_at_call 28; refine HR.out.mono ?_; rintro e w1 ⟨rfl, hb1⟩)
    go_ret
    have hs1 := hb1.size
    rw [World.size_alloc] at hs1
    have hb2 := Below.one hb1 (.cells #[.int .i64 r3] 3)
    refine ⟨_, _, _, rfl, Below.on hb hb2, ⟨by simp; omega, by simp, Nat.le_refl _, by omega, enters_of Tryd.func42 (by kernel_rfl) rfl, fun n hn => ?_⟩⟩
    exact reads_stops n _ _ hn x r3 _ (cell_kept_below x0 hb2) (cell_kept_below x1 hb2) (cell_kept_below x2 hb2) (cell_kept_below x3 hb2) (cell_kept_below x4 hb2) (new_cell w1 #[.int .i64 r3] 3 0 _ rfl) _ HL.out
end Go.Proofs.YtlkoigdnakmdlaaDoor
