/- The function that code.Reads hands back: the registers that are read, in their order. -/
import Derived.Test.YtlkoigdnakmdlaaDoorIa
import Derived.Test.YtlkoigdnakmdlaaDoorCh
namespace Go.Proofs.YtlkoigdnakmdlaaDoor
open Go.RowKit Go.Shelf
attribute [local go_sem] Oper.semAt_some

def bl (b : Bool) (x : Int) : List Int := if b then [x] else []
theorem fldL_eq (x : Is) : fldL x = bl (bt (rwOf x.op).reads 0) x.a ++ bl (bt (rwOf x.op).reads 1) x.b ++ bl (bt (rwOf x.op).reads 2) x.c := rfl

theorem one_way {e : Ending} {A B : Prop} (h : (e = .returned (.bool true) ∧ A) ∨ (e = .returned (.bool false) ∧ B)) : ∃ t : Bool, e = .returned (.bool t) ∧ Hid ((t = true → A) ∧ (t = false → B)) := by
  rcases h with ⟨h1, h2⟩ | ⟨h1, h2⟩
  · exact ⟨true, h1, (fun _ => h2), (fun h => by cases h)⟩
  · exact ⟨false, h1, (fun h => by cases h), fun _ => h2⟩
theorem grown_drewN (w : World) (n : Nat) : w.grownBy (w.drewN n) none := ⟨rfl, rfl, rfl, Nat.le_refl _, fun _ _ _ => rfl⟩
set_option maxRecDepth 100000 in
set_option maxHeartbeats 2000000 in
theorem reads1_in (n l Bx Br : Nat) (hn : 1 ≤ n) (x : Is) (r : Int) (L : List Int) (hL : L = bl (bt r 0) x.a ++ bl (bt r 1) x.b ++ bl (bt r 2) x.c) (J Jx : List Int → World → Prop) (B0 : Nat) (hJ : AbidesFrom B0 J)
    (hY : ∀ pre x W, J pre W → pre.length < L.length → YieldAt Fence.wide (n - 1) Tryd.prog l (encN x) W fun e W' =>
      (e = .returned (.bool true) ∧ J (pre ++ [x]) W' ∧ KpB Bx Br W W') ∨ (e = .returned (.bool false) ∧ Jx (pre ++ [x]) W'))
    (W : World) (hBx0 : W.cell? ⟨Bx, 0, none⟩ = some (.int .i64 x.op)) (hBx1 : W.cell? ⟨Bx, 1, none⟩ = some (.int .i64 x.a)) (hBx2 : W.cell? ⟨Bx, 2, none⟩ = some (.int .i64 x.b)) (hBx3 : W.cell? ⟨Bx, 3, none⟩ = some (.int .i64 x.c)) (hBx4 : W.cell? ⟨Bx, 4, none⟩ = some (.int .i64 x.n))
    (hBr : W.cell? ⟨Br, 0, none⟩ = some (.int .i64 r)) (h0 : J [] W) :
    CallsIn Fence.wide n Tryd.prog 42 #[.func (.yield l) #[] #[], .pointer (some ⟨Bx, 0, none⟩), .pointer (some ⟨Br, 0, none⟩)] W fun e W' => (∃ v, e = .returned v) ∧
      ((∃ ys, ys = L ∧ J ys W') ∨ (∃ pre, pre <+: L ∧ Jx pre W')) := by
  have HF := Hid.mk' (fields_any x)
  unfold Is.val at HF
  have hi0 := ix_0
  have hi1 := ix_1
  have hi2 := ix_2
  have mixed : Tryd.prog.follows Departure.mixedOrders = true := by kernel_rfl
  refine callsIn_of_wp Tryd.func42 rfl trivial ?_ rfl
  simp only [Tryd.ntmps42, List.size_toArray, List.length_cons, List.length_nil, Nat.reduceAdd, Nat.reduceSub, Array.replicate_succ, Array.replicate_zero, List.push_toArray, List.append_toArray, List.nil_append, List.cons_append]
  gi_wp2_with (refine ⟨trivial, ?_⟩; gi_at_call 43; refine (callsIn_wide.2 (HF.out _)).mono ?_; rintro e w' ⟨rfl, hb'⟩)
  have hBr' := cell_kept_below hBr hb'
  have hJ0 := hJ [] W w' none h0 (below_grown hb') (by simp)
  clear h0 hBr hBx0 hBx1 hBx2 hBx3 hBx4 hb' HF
  gi_loopw [8] (fun t wr => ((t = .int .i64 0 ∧ J [] wr) ∨ (t = .int .i64 1 ∧ J (bl (bt r 0) x.a) wr) ∨ (t = .int .i64 2 ∧ J (bl (bt r 0) x.a ++ bl (bt r 1) x.b) wr) ∨ (t = .int .i64 3 ∧ J L wr)) ∧ wr.cell? ⟨Br, 0, none⟩ = some (.int .i64 r)) (fun t _ => 3 - (intOf t).toNat)
  case atStart => exact ⟨.inl ⟨rfl, hJ0⟩, hBr'⟩
  case round =>
    obtain ⟨hrel, hB⟩ := hrel
    clear hJ0 hBr'
    rcases hrel with ⟨rfl, hJs⟩ | ⟨rfl, hJs⟩ | ⟨rfl, hJs⟩ | ⟨rfl, hJs⟩
    · obtain ⟨bb, hb⟩ : ∃ bb, bt r 0 = bb := ⟨_, rfl⟩
      have hbx : (bits .and .i64 r 1 != 0) = bt r 0 := rfl
      have hby : (bits .and .i64 r (IntKind.i64.wrap 1) != 0) = bt r 0 := rfl
      rw [hb] at hbx hby
      cases bb
      · have hJN : J (bl (bt r 0) x.a) wr := by rw [show bl (bt r 0) x.a = [] by rw [hb]; simp [bl]]; exact hJs
        clear hJs hb
        have hJD := fun n => hJ _ wr (wr.drewN n) none hJN (grown_drewN wr n) (by simp)
        have HD := Hid.mk' hJD
        clear hJD hJN hY hJ
        gi_wp2_with fail
        refine wpIn_region_quiet_lit rfl (by kernel_rfl) (by kernel_rfl) ?_
        repeat (gi_big_quiet_step (fail))
        refine Go.BigFrame.wpQuietIn_skip ?ask rfl ?_
        case ask => exact fun _ _ _ _ => trivial
        simp only [Act.put, List.setIfInBounds_toArray, List.set_cons_succ, List.set_cons_zero]
        repeat (gi_big_quiet_step (fail))
        refine wpQuietIn_nil ?_
        rintro _ ⟨nq, rfl⟩
        gi_wp2_with fail
        go_roundw
        case rel => exact ⟨.inr (.inl ⟨rfl, HD.out _⟩), hB⟩
        case measure => simp [intOf]
      · have hJd := hJ _ wr wr.drew none hJs (grown_drewN wr 1) (by simp)
        obtain ⟨fn, tmps, assign, body, hy, hR⟩ := hY _ x.a _ hJd (by rw [hL, hb]; simp [bl])
        have HNX := Hid.mk' (show bl (bt r 0) x.a = [] ++ [x.a] by rw [hb]; simp [bl])
        have HPX : Hid ([] ++ [x.a] <+: L) := (by rw [show [] ++ [x.a] = bl (bt r 0) x.a from HNX.out.symm]; rw [hL]; exact ⟨bl (bt r 1) x.b ++ bl (bt r 2) x.c, by simp⟩ : [] ++ [x.a] <+: L)
        clear hb hJd hY hJ hJs
        gi_wp2_with fail
        gi_region_with_o (refine hR.mono ?_; rintro e W3 h3; obtain ⟨tt, rfl, h4⟩ := one_way h3; clear h3)
        all_goals
          cases tt
          · have hJx3 := h4.out.2 rfl
            clear h4
            gi_wp2_with fail
            refine bodyPost_ret (results_none rfl _ _ _) rfl ⟨⟨_, rfl⟩, .inr ⟨_, HPX.out, hJx3⟩⟩
          · obtain ⟨hJ3, hk3⟩ := h4.out.1 rfl
            have hB3 := kpC_cell hk3 (show wr.drew.cell? ⟨Br, 0, none⟩ = some (.int .i64 r) from hB)
            clear h4 hk3
            gi_wp2_with fail
            go_roundw
            case rel => exact ⟨.inr (.inl ⟨rfl, by rw [HNX.out]; exact hJ3⟩), hB3⟩
            case measure => simp [intOf]
    · obtain ⟨bb, hb⟩ : ∃ bb, bt r 1 = bb := ⟨_, rfl⟩
      have hbx : (bits .and .i64 r 2 != 0) = bt r 1 := rfl
      have hby : (bits .and .i64 r (IntKind.i64.wrap 2) != 0) = bt r 1 := rfl
      rw [hb] at hbx hby
      cases bb
      · have hJN : J (bl (bt r 0) x.a ++ bl (bt r 1) x.b) wr := by rw [show bl (bt r 0) x.a ++ bl (bt r 1) x.b = bl (bt r 0) x.a by rw [hb]; simp [bl]]; exact hJs
        clear hJs hb
        have hJD := fun n => hJ _ wr (wr.drewN n) none hJN (grown_drewN wr n) (by simp)
        have HD := Hid.mk' hJD
        clear hJD hJN hY hJ
        gi_wp2_with fail
        refine wpIn_region_quiet_lit rfl (by kernel_rfl) (by kernel_rfl) ?_
        repeat (gi_big_quiet_step (fail))
        refine Go.BigFrame.wpQuietIn_skip ?ask rfl ?_
        case ask => exact fun _ _ _ _ => trivial
        simp only [Act.put, List.setIfInBounds_toArray, List.set_cons_succ, List.set_cons_zero]
        repeat (gi_big_quiet_step (fail))
        refine wpQuietIn_nil ?_
        rintro _ ⟨nq, rfl⟩
        gi_wp2_with fail
        go_roundw
        case rel => exact ⟨.inr (.inr (.inl ⟨rfl, HD.out _⟩)), hB⟩
        case measure => simp [intOf]
      · have hJd := hJ _ wr wr.drew none hJs (grown_drewN wr 1) (by simp)
        obtain ⟨fn, tmps, assign, body, hy, hR⟩ := hY _ x.b _ hJd (by rw [hL, hb]; simp [bl]; try omega)
        have HNX := Hid.mk' (show bl (bt r 0) x.a ++ bl (bt r 1) x.b = bl (bt r 0) x.a ++ [x.b] by rw [hb]; simp [bl])
        have HPX : Hid (bl (bt r 0) x.a ++ [x.b] <+: L) := (by rw [show bl (bt r 0) x.a ++ [x.b] = bl (bt r 0) x.a ++ bl (bt r 1) x.b from HNX.out.symm]; rw [hL]; exact ⟨bl (bt r 2) x.c, by simp⟩ : bl (bt r 0) x.a ++ [x.b] <+: L)
        clear hb hJd hY hJ hJs
        gi_wp2_with fail
        gi_region_with_o (refine hR.mono ?_; rintro e W3 h3; obtain ⟨tt, rfl, h4⟩ := one_way h3; clear h3)
        all_goals
          cases tt
          · have hJx3 := h4.out.2 rfl
            clear h4
            gi_wp2_with fail
            refine bodyPost_ret (results_none rfl _ _ _) rfl ⟨⟨_, rfl⟩, .inr ⟨_, HPX.out, hJx3⟩⟩
          · obtain ⟨hJ3, hk3⟩ := h4.out.1 rfl
            have hB3 := kpC_cell hk3 (show wr.drew.cell? ⟨Br, 0, none⟩ = some (.int .i64 r) from hB)
            clear h4 hk3
            gi_wp2_with fail
            go_roundw
            case rel => exact ⟨.inr (.inr (.inl ⟨rfl, by rw [HNX.out]; exact hJ3⟩)), hB3⟩
            case measure => simp [intOf]
    · obtain ⟨bb, hb⟩ : ∃ bb, bt r 2 = bb := ⟨_, rfl⟩
      have hbx : (bits .and .i64 r 4 != 0) = bt r 2 := rfl
      have hby : (bits .and .i64 r (IntKind.i64.wrap 4) != 0) = bt r 2 := rfl
      rw [hb] at hbx hby
      cases bb
      · have hJN : J (L) wr := by rw [show L = bl (bt r 0) x.a ++ bl (bt r 1) x.b by rw [hL, hb]; simp [bl]]; exact hJs
        clear hJs hb
        have hJD := fun n => hJ _ wr (wr.drewN n) none hJN (grown_drewN wr n) (by simp)
        have HD := Hid.mk' hJD
        clear hJD hJN hY hJ
        gi_wp2_with fail
        refine wpIn_region_quiet_lit rfl (by kernel_rfl) (by kernel_rfl) ?_
        repeat (gi_big_quiet_step (fail))
        refine Go.BigFrame.wpQuietIn_skip ?ask rfl ?_
        case ask => exact fun _ _ _ _ => trivial
        simp only [Act.put, List.setIfInBounds_toArray, List.set_cons_succ, List.set_cons_zero]
        repeat (gi_big_quiet_step (fail))
        refine wpQuietIn_nil ?_
        rintro _ ⟨nq, rfl⟩
        gi_wp2_with fail
        go_roundw
        case rel => exact ⟨.inr (.inr (.inr ⟨rfl, HD.out _⟩)), hB⟩
        case measure => simp [intOf]
      · have hJd := hJ _ wr wr.drew none hJs (grown_drewN wr 1) (by simp)
        obtain ⟨fn, tmps, assign, body, hy, hR⟩ := hY _ x.c _ hJd (by rw [hL, hb]; simp [bl]; try omega)
        have HNX := Hid.mk' (show L = (bl (bt r 0) x.a ++ bl (bt r 1) x.b) ++ [x.c] by rw [hL, hb]; simp [bl])
        have HPX : Hid (bl (bt r 0) x.a ++ bl (bt r 1) x.b ++ [x.c] <+: L) := (by rw [show bl (bt r 0) x.a ++ bl (bt r 1) x.b ++ [x.c] = L from HNX.out.symm]; exact List.prefix_refl _ : bl (bt r 0) x.a ++ bl (bt r 1) x.b ++ [x.c] <+: L)
        clear hb hJd hY hJ hJs
        gi_wp2_with fail
        gi_region_with_o (refine hR.mono ?_; rintro e W3 h3; obtain ⟨tt, rfl, h4⟩ := one_way h3; clear h3)
        all_goals
          cases tt
          · have hJx3 := h4.out.2 rfl
            clear h4
            gi_wp2_with fail
            refine bodyPost_ret (results_none rfl _ _ _) rfl ⟨⟨_, rfl⟩, .inr ⟨_, HPX.out, hJx3⟩⟩
          · obtain ⟨hJ3, hk3⟩ := h4.out.1 rfl
            have hB3 := kpC_cell hk3 (show wr.drew.cell? ⟨Br, 0, none⟩ = some (.int .i64 r) from hB)
            clear h4 hk3
            gi_wp2_with fail
            go_roundw
            case rel => exact ⟨.inr (.inr (.inr ⟨rfl, by rw [HNX.out]; exact hJ3⟩)), hB3⟩
            case measure => simp [intOf]
    · gi_wp2_with fail
      go_end0
      exact ⟨⟨_, rfl⟩, .inl ⟨_, rfl, hJs⟩⟩
end Go.Proofs.YtlkoigdnakmdlaaDoor
