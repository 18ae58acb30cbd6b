/- The document's own Edges. -/
import Derived.Test.YtlnjhnbiljkbmaaDoorNj
import Derived.Test.YtlnjhnbiljkbmaaDoorJk
namespace Go.Proofs.YtlnjhnbiljkbmaaDoor
open Go.RowKit Go.Sort

def edC (x : Nat × Nat) : List Value := [.int .i64 (x.1 : Int), .int .i64 (x.2 : Int)]
theorem edB_len (l : List Is) (rs : List Bool) (u : Nat) : (edB l rs u).length ≤ 2 := by
  unfold edB
  split
  · rw [List.length_map]; exact nxt_len _ _
  · simp
theorem edU_len (l : List Is) (rs : List Bool) : ∀ u, (edU l rs u).length ≤ 2 * u
  | 0 => by simp [edU]
  | u + 1 => by rw [edU_succ, List.length_append]; have := edU_len l rs u; have := edB_len l rs u; omega
/-- Edges of the call's own. -/
abbrev Oe (N : Nat) (l : List (Nat × Nat)) (v : Value) (W : World) : Prop := W.ownsRow N 44 2 v l.length (l.flatMap edC)
theorem Tryd.infoE : (Tryd.prog.info? 44).map (fun i => (i.zero, i.size, i.bytes)) = some (some (.agg #[.int .i64 0, .int .i64 0]), 2, 16) := by kernel_rfl
theorem oe_app {N : Nat} {l : List (Nat × Nat)} {v : Value} {W : World} (h : Oe N l v W) (hN : N ≤ W.heap.size) (hl : l.length ≤ 1000000) (x y : Nat) (ty : TypeId) :
    ∃ v' W', (Builtin.append_ #[41, 41] ty #[v, .slice (some ⟨W.heap.size, 0, none⟩) 1 1]).run Tryd.prog (W.alloc (.cells #[.int .i64 (x : Int), .int .i64 (y : Int)] 44)) = .ok v' W' ∧ Oe N (l ++ [(x, y)]) v' W' ∧ W.grownBy W' v.ownBlock := by
  obtain ⟨v', W', h1, h2, h3⟩ := app_one (t := 41) Tryd.underlying41 Tryd.infoE rfl (by decide) h hN (by unfold maxLen; omega) (by omega) #[.int .i64 (x : Int), .int .i64 (y : Int)] rfl (by simp [Value.oneCell']) ty
  refine ⟨v', W', h1, ?_, h3⟩
  unfold Oe
  rw [List.length_append, List.flatMap_append]
  exact h2
/-- What the loops hold. -/
structure EI (w w1 : World) (rs : List Bool) (vc : Value) (es : List (Nat × Nat)) (v : Value) (W : World) : Prop where
  r : Ob (w.heap.size + 1) rs vc W
  q : Oe (w.heap.size + 1) es v W
  b : Below (w.heap.size + 1) w1 W
theorem EI.stay {w w1 : World} {rs : List Bool} {vc : Value} {es : List (Nat × Nat)} {v : Value} {W W' : World} (h : EI w w1 rs vc es v W) (hs : w.heap.size + 1 ≤ W.heap.size) (hb : Below W.heap.size W W') : EI w w1 rs vc es v W' := ⟨own_stay h.r hb, own_stay h.q hb, h.b.trans (hb.mono hs)⟩
theorem EI.grow {w w1 : World} {rs : List Bool} {vc : Value} {es es' : List (Nat × Nat)} {v v' : Value} {W W' : World} (h : EI w w1 rs vc es v W) (hs : w.heap.size + 1 ≤ W.heap.size) (hg : W.grownBy W' v.ownBlock) (ho : Oe (w.heap.size + 1) es' v' W') : EI w w1 rs vc es' v' W' :=
  ⟨h.r.kept hg (own_ne h.r h.q (by decide)), ho, h.b.grown hg hs (fun k e => own_base h.q k e)⟩
def REP (l : List Is) (w : World) (e : Ending) (w' : World) : Prop := ∃ v rs, e = .returned v ∧ IsR l rs ∧ Oe w.heap.size (edg l rs) v w' ∧ Below w.heap.size w w'
set_option maxRecDepth 100000 in
set_option maxHeartbeats 4000000 in
theorem redges_any (f : Fn) (w : World) (hi : Iss w f.ca f.code) : Calls Tryd.prog 17 #[f.val] w (REP f.code w) := by
  have HN : Hid (∀ (k : Nat) w', Below w.heap.size w w' → Calls Tryd.prog 24 #[f.val, .int .i64 (k : Int)] w' (NxP (nxt f.code k) w')) := fun k w' hb => by
    have := rnext_any f k w' (hi.stay hb)
    rwa [nxZ_nat] at this
  have HR : Hid (∀ w', Below w.heap.size w w' → Calls Tryd.prog 15 #[f.val] w' (ReP f.code w')) := fun w' hb => rreach_any f w' (hi.stay hb)
  obtain ⟨fn, fpa, fpc, fps, frg, fwd, fca, fcc, fl⟩ := f
  unfold Fn.val at *
  simp only at hi HN HR ⊢
  have HB := Hid.mk' (Below.one (Below.refl _ w) (.cells #[.string fn, .slice fpa fps.length fpc, .int .i64 frg, .int .i64 fwd, .slice fca fl.length fcc] 25))
  have HX := Hid.mk' (heap_alloc_new w (.cells #[.string fn, .slice fpa fps.length fpc, .int .i64 frg, .int .i64 fwd, .slice fca fl.length fcc] 25))
  clear hi
  go_enter Tryd.func17, Tryd.ntmps17
  go_wp2_with fail
  refine (HR.out _ HB.out).mono ?_
  rintro e w2 ⟨vc, rs, rfl, hir, ho, bb2⟩
  obtain ⟨ra, rc, rfl⟩ := gown_form ho
  rw [World.size_alloc] at ho bb2
  have hs2 := bb2.size
  have HSZ : Hid (w.heap.size + 1 ≤ (w2.alloc (.cells #[] 44)).heap.size) := (by rw [World.size_alloc] at hs2 ⊢; omega : _ ≤ _)
  have HRL := Hid.mk' hir.len
  have HIR := Hid.mk' hir
  have HE0 : Hid (EI w (w.alloc (.cells #[.string fn, .slice fpa fps.length fpc, .int .i64 frg, .int .i64 fwd, .slice fca fl.length fcc] 25)) rs (.slice ra rs.length rc) (edU fl rs 0) (.slice (some ⟨w2.heap.size, 0, none⟩) 0 0) (w2.alloc (.cells #[] 44))) := by
    rw [World.size_alloc] at hs2
    exact ⟨own_stay ho (Below.one (Below.refl _ w2) _), own_mono (row_new w2 44 2) hs2, bb2.alloc hs2 _⟩
  have HW1 : Hid (∀ W : World, Below (w.heap.size + 1) (w.alloc (.cells #[.string fn, .slice fpa fps.length fpc, .int .i64 frg, .int .i64 fwd, .slice fca fl.length fcc] 25)) W → W.heap[w.heap.size]? = some (.cells #[.string fn, .slice fpa fps.length fpc, .int .i64 frg, .int .i64 fwd, .slice fca fl.length fcc] 25) ∧ Below w.heap.size w W ∧ w.heap.size + 1 ≤ W.heap.size) := by
    intro W hb
    have h1 := (hb.block _ (Nat.lt_succ_self _)).trans HX.out
    exact ⟨h1, HB.out.trans (hb.mono (Nat.le_succ _)), (Array.getElem?_eq_some_iff.1 h1).1⟩
  clear hir ho bb2 hs2 HR HB HX
  go_wp2_with fail
  generalize w2.alloc (.cells #[] 44) = W0 at *
  generalize w.alloc (.cells #[.string fn, .slice fpa fps.length fpc, .int .i64 frg, .int .i64 fwd, .slice fca fl.length fcc] 25) = w1 at *
  generalize w2.heap.size = R at *
  go_loopw [4, 5] (fun t4 t5 wr => ∃ (u : Nat) (v : Value), t4 = v ∧ t5 = .int .i64 (u : Int) ∧ u ≤ rs.length ∧ EI w w1 rs (.slice ra rs.length rc) (edU fl rs u) v wr) (fun _ t5 _ => rs.length - (intOf t5).toNat)
  case atStart => exact ⟨0, _, rfl, rfl, Nat.zero_le _, HE0.out⟩
  case round =>
    obtain ⟨u, v, rfl, rfl, hu, hei⟩ := hrel
    have HEI := Hid.mk' hei
    obtain ⟨av, cv, rfl⟩ := gown_form hei.q
    have hrl := HRL.out
    clear hei HE0
    by_cases hlt : u < rs.length
    · obtain ⟨bu, hbu⟩ : ∃ b, rs[u]? = some b := ⟨_, List.getElem?_eq_getElem hlt⟩
      obtain ⟨gr, rfl, d0, k1, k2⟩ := ob_at HEI.out.r hbu
      clear k1 k2
      have hlti : (u : Int) < (rs.length : Int) := by omega
      have HBU := Hid.mk' hbu
      have HEL := Hid.mk' (edU_len fl rs u)
      clear hbu
      cases bu
      · have HES : Hid (edU fl rs (u + 1) = edU fl rs u) := (by rw [edU_succ, edB_no HBU.out, List.append_nil] : _ = _)
        go_wp2_with fail
        go_roundw
        case rel => exact ⟨u + 1, _, rfl, by go_num, by omega, by rw [HES.out]; exact HEI.out⟩
        case measure => simp [intOf]; omega
      · obtain ⟨hx, hbw, hsz⟩ := HW1.out _ HEI.out.b
        have HBW := Hid.mk' hbw
        have HSZ1 := Hid.mk' hsz
        have z0 := cell_of_obj hx (j := 0) (v := .string fn) rfl
        have z1 := cell_of_obj hx (j := 1) (v := .slice fpa fps.length fpc) rfl
        have z2 := cell_of_obj hx (j := 2) (v := .int .i64 frg) rfl
        have z3 := cell_of_obj hx (j := 3) (v := .int .i64 fwd) rfl
        have z4 := cell_of_obj hx (j := 4) (v := .slice fca fl.length fcc) rfl
        clear hx hbw hsz
        go_wp2_with fail
        refine (HN.out u _ HBW.out).mono ?_
        rintro e W2 ⟨v2, rfl, on2, bb2⟩
        obtain ⟨a2, c2, rfl⟩ := gown_form on2
        have HE2 := Hid.mk' (HEI.out.stay HSZ1.out bb2)
        have HS2 : Hid (w.heap.size + 1 ≤ W2.heap.size) := Nat.le_trans HSZ1.out bb2.size
        have HO2 := Hid.mk' on2
        have hn2 := nxt_len fl u
        obtain ⟨Wo, hWo⟩ : ∃ Wo, Wo = wr := ⟨_, rfl⟩
        subst hWo
        clear z0 z1 z2 z3 z4 on2 bb2 d0 HEI HBW HSZ1
        go_wp2_with fail
        go_loopw [4, 7] (fun t4 t7 wr => ∃ (k : Nat) (v : Value), t4 = v ∧ t7 = .int .i64 (k : Int) ∧ k ≤ (nxt fl u).length ∧ EI w w1 rs (.slice (some ⟨gr, 0, none⟩) rs.length rc) (edU fl rs u ++ ((nxt fl u).take k).map fun v => (u, v)) v wr ∧ w.heap.size + 1 ≤ wr.heap.size ∧ On Wo.heap.size (nxt fl u) (.slice a2 (nxt fl u).length c2) wr) (fun _ t7 _ => (nxt fl u).length - (intOf t7).toNat)
        case atStart => exact ⟨0, _, rfl, rfl, Nat.zero_le _, by simpa using HE2.out, HS2.out, HO2.out⟩
        case round =>
          obtain ⟨k, v, rfl, rfl, hk, hei, hsz, hon⟩ := hrel
          have HEI := Hid.mk' hei
          have HSZ1 := Hid.mk' hsz
          have HON := Hid.mk' hon
          obtain ⟨av, cv, rfl⟩ := gown_form hei.q
          clear hei hsz hon HE2 HS2 HO2
          by_cases hkl : k < (nxt fl u).length
          · obtain ⟨x, hx⟩ : ∃ x, (nxt fl u)[k]? = some x := ⟨_, List.getElem?_eq_getElem hkl⟩
            obtain ⟨gn, rfl, d0, k1, k2⟩ := on_at HON.out hx
            clear k1 k2
            obtain ⟨_, hp2⟩ := ed_part HBU.out hx
            have HP2 := Hid.mk' hp2
            have hkli : (k : Int) < ((nxt fl u).length : Int) := by omega
            have HLE : Hid ((edU fl rs u ++ ((nxt fl u).take k).map fun v => (u, v)).length ≤ 1000000) := by
              show _ ≤ _
              have := HEL.out
              simp only [List.length_append, List.length_map, List.length_take]
              omega
            have HAP := Hid.mk' (oe_app HEI.out.q HSZ1.out HLE.out u x 41)
            clear hx hp2
            go_wp2_with (at_builtin; refine wpl_app rfl _ _ 41 41 _ _ rfl rfl rfl HAP.out ?_; rintro v3 W3 ⟨oe3, gr3⟩)
            have HE3 := Hid.mk' (HEI.out.grow HSZ1.out gr3 oe3)
            have HO3 := Hid.mk' (HON.out.kept gr3 (own_ne HON.out HEI.out.q (by decide)))
            have HS3 : Hid (w.heap.size + 1 ≤ W3.heap.size) := Nat.le_trans HSZ1.out gr3.size
            obtain ⟨a3, c3, rfl⟩ := gown_form oe3
            clear oe3 gr3
            rw [HP2.out] at HE3 ⊢
            go_roundw
            case rel => exact ⟨k + 1, _, rfl, by go_num, hkl, HE3.out, HS3.out, HO3.out⟩
            case measure => simp [intOf]; omega
          · have HA := Hid.mk' (ed_all HBU.out hkl)
            go_wp2_with fail
            go_roundw
            case rel => exact ⟨u + 1, _, rfl, by go_num, by omega, by rw [← HA.out]; exact HEI.out⟩
            case measure => simp [intOf]; omega
    · have hue : u = rs.length := by omega
      go_wp2_with fail
      go_ret
      refine ⟨_, rs, rfl, HIR.out, ?_, (HW1.out _ HEI.out.b).2.1⟩
      unfold edg
      rw [← hue]
      exact own_mono HEI.out.q (Nat.le_succ _)
end Go.Proofs.YtlnjhnbiljkbmaaDoor
