/- The function that flow.Edges hands back: all edges, in their order. -/
import Derived.Test.YtgiokognngllcaaDoorGgaf
namespace Go.Proofs.YtgiokognngllcaaDoor
open Go.RowKit Go.Shelf
attribute [local go_sem] Oper.semAt_some

theorem ed_part {l : List Is} {rs : List Bool} {u k x : Nat} (hu : rs[u]? = some true) (hx : (nxt l u)[k]? = some x) : (edU l rs u ++ ((nxt l u).take k).map fun v => (u, v)) ++ [(u, x)] <+: edg l rs ∧
    (edU l rs u ++ ((nxt l u).take k).map fun v => (u, v)) ++ [(u, x)] = edU l rs u ++ ((nxt l u).take (k + 1)).map fun v => (u, v) := by
  obtain ⟨hk, e⟩ := List.getElem?_eq_some_iff.1 hx
  have e2 : (edU l rs u ++ ((nxt l u).take k).map fun v => (u, v)) ++ [(u, x)] = edU l rs u ++ ((nxt l u).take (k + 1)).map fun v => (u, v) := by
    rw [List.take_succ_eq_append_getElem hk, e, List.map_append, List.append_assoc]; rfl
  refine ⟨?_, e2⟩
  rw [e2]
  refine List.IsPrefix.trans ?_ (edU_pre l rs (n := rs.length) (u := u + 1) (List.getElem?_eq_some_iff.1 hu).1)
  rw [edU_succ, edB_yes hu]
  exact (List.prefix_append_right_inj _).2 (List.IsPrefix.map _ (List.take_prefix _ _))
theorem ed_all {l : List Is} {rs : List Bool} {u k : Nat} (hu : rs[u]? = some true) (hk : ¬ k < (nxt l u).length) : (edU l rs u ++ ((nxt l u).take k).map fun v => (u, v)) = edU l rs (u + 1) := by
  rw [edU_succ, edB_yes hu, List.take_of_length_le (by omega)]
theorem row_iss {W : World} {N n c : Nat} {a : Option Addr} {l : List Is} (h : W.ownsRow N 52 5 (.slice a n c) n (l.flatMap Is.cells)) (hl : l.length ≤ 1000000) : Iss W a l := ⟨by omega, own_row h (fun _ => rfl) (by omega)⟩
set_option maxRecDepth 100000 in
set_option maxHeartbeats 4000000 in
theorem edges1_o (lq A B B1 B2 : Nat) (rs : List Bool) (l : List Is) (ra : Option Addr) (rc : Nat) (ca : Option Addr) (cc : Nat) (hrl : rs.length ≤ 1024) (J Jx : List (Nat × Nat) → World → Prop) (W : World) (hJ : OwnFrom W.heap.size J)
    (hY : ∀ pre x W1, J pre W1 → (pre ++ [x]) <+: edg l rs → YieldAt Fence.wide 0 Tryd.prog lq (encE x) W1 fun e W' =>
      KpE A B W.heap.size W1 W' ∧ ((e = .returned (.bool true) ∧ J (pre ++ [x]) W') ∨ (e = .returned (.bool false) ∧ Jx (pre ++ [x]) W')))
    (hE : EdAt A B B1 B2 rs l ra rc ca cc W) (h0 : J [] W) :
    CallsIn Fence.wide 1 Tryd.prog 53 #[.func (.yield lq) #[] #[], .pointer (some ⟨B1, 0, none⟩), .pointer (some ⟨B2, 0, none⟩)] W fun e W' => (∃ v, e = .returned v) ∧
      (J (edg l rs) W' ∨ ∃ pre, pre <+: edg l rs ∧ Jx pre W') := by
  have HN : Hid (∀ (u : Nat) w', Iss w' ca l → Calls Tryd.prog 54 #[.agg #[.string ⟨#[]⟩, .slice none 0 0, .int .i64 0, .int .i64 0, .slice ca rs.length cc], .int .i64 (u : Int)] w' (NxP (nxt l u) w')) := fun u w' hi => by
    have := next_any ⟨⟨#[]⟩, none, 0, [], 0, 0, ca, cc, l⟩ u w' hi
    rw [nxZ_nat] at this
    unfold Fn.val at this
    simp only [hE.n] at this
    exact this
  have HJ := Hid.mk' hJ
  have HY := Hid.mk' hY
  have HE := Hid.mk' hE
  have c0 := cell_of_obj hE.b1 (j := 0) (v := .slice ra rs.length rc) rfl
  have HSS : Hid (W.heap.size ≤ W.heap.size) := Nat.le_refl _
  clear hJ hY hE
  refine callsIn_of_wp Tryd.func53 rfl trivial ?_ rfl
  simp only [Tryd.ntmps53, List.size_toArray, List.length_cons, List.length_nil, Nat.reduceAdd, Nat.reduceSub, Array.replicate_succ, Array.replicate_zero, List.push_toArray, List.append_toArray, List.nil_append, List.cons_append]
  gi_wp2_with fail
  clear c0
  gi_loopw [10] (fun t wr => ∃ (u : Nat), t = .int .i64 u ∧ u ≤ rs.length ∧ W.heap.size ≤ wr.heap.size ∧ EdAt A B B1 B2 rs l ra rc ca cc wr ∧ J (edU l rs u) wr) (fun t _ => rs.length - (intOf t).toNat)
  case atStart => exact ⟨0, rfl, Nat.zero_le _, HSS.out, HE.out, h0⟩
  case round =>
    obtain ⟨u, rfl, hu, hsz, hed, hJs⟩ := hrel
    clear HE
    have HE := Hid.mk' hed
    have HSZ := Hid.mk' hsz
    have HJS := Hid.mk' hJs
    clear hed hsz hJs
    by_cases hlt : u < rs.length
    · obtain ⟨bu, hbu⟩ : ∃ b, rs[u]? = some b := ⟨_, List.getElem?_eq_getElem hlt⟩
      obtain ⟨gr, rfl, d0, k1, k2⟩ := ob_at HE.out.r hbu
      clear k1 k2
      have hlti : (u : Int) < (rs.length : Int) := by omega
      have HBU := Hid.mk' hbu
      clear hbu
      cases bu
      · have HES : Hid (edU l rs (u + 1) = edU l rs u) := (by rw [edU_succ, edB_no HBU.out, List.append_nil] : _ = _)
        gi_wp2_with fail
        go_roundw
        case rel => exact ⟨u + 1, by go_num, by omega, HSZ.out, HE.out, by rw [HES.out]; exact HJS.out⟩
        case measure => simp [intOf]; omega
      · have z0 := cell_of_obj HE.out.b2 (j := 0) (v := .string ⟨#[]⟩) rfl
        have z1 := cell_of_obj HE.out.b2 (j := 1) (v := .slice none 0 0) rfl
        have z2 := cell_of_obj HE.out.b2 (j := 2) (v := .int .i64 0) rfl
        have z3 := cell_of_obj HE.out.b2 (j := 3) (v := .int .i64 0) rfl
        have z4 := cell_of_obj HE.out.b2 (j := 4) (v := .slice ca rs.length cc) rfl
        have HIS := Hid.mk' (row_iss HE.out.c (by rw [HE.out.n]; omega))
        gi_wp2_with fail
        refine ⟨trivial, ?_⟩
        refine (callsIn_wide.2 (HN.out u _ HIS.out)).mono ?_
        rintro e W2 ⟨v2, rfl, on2, bb2⟩
        obtain ⟨a2, c2, rfl⟩ := gown_form on2
        have HE2 := Hid.mk' (HE.out.keep (i := 0) (kpE_below bb2))
        have HS2 : Hid (W.heap.size ≤ W2.heap.size) := Nat.le_trans HSZ.out bb2.size
        have HJ2 := Hid.mk' (HJ.out _ _ _ none HJS.out (below_grown bb2) (fun r e => by cases e))
        have HO2 := Hid.mk' (own_mono on2 HSZ.out)
        have hn2 := nxt_len l u
        clear z0 z1 z2 z3 z4 on2 bb2 d0 HIS HE HJS
        gi_wp2_with fail
        gi_loopw [21] (fun t wr => ∃ (k : Nat), t = .int .i64 k ∧ k ≤ (nxt l u).length ∧ W.heap.size ≤ wr.heap.size ∧ EdAt A B B1 B2 rs l (some ⟨gr, 0, none⟩) rc ca cc wr ∧ On W.heap.size (nxt l u) (.slice a2 (nxt l u).length c2) wr ∧ J (edU l rs u ++ ((nxt l u).take k).map fun v => (u, v)) wr) (fun t _ => (nxt l u).length - (intOf t).toNat)
        case atStart => exact ⟨0, rfl, Nat.zero_le _, HS2.out, HE2.out, HO2.out, by simpa using HJ2.out⟩
        case round =>
          obtain ⟨k, rfl, hk, hsz, hed, hon, hJs⟩ := hrel
          clear HE2 HS2 HJ2 HO2
          have HE := Hid.mk' hed
          have HSZ2 := Hid.mk' hsz
          have HJS := Hid.mk' hJs
          have HON := Hid.mk' hon
          clear hed hsz hJs hon
          by_cases hkl : k < (nxt l u).length
          · obtain ⟨x, hx⟩ : ∃ x, (nxt l u)[k]? = some x := ⟨_, List.getElem?_eq_getElem hkl⟩
            obtain ⟨gn, rfl, d0, k1, k2⟩ := on_at HON.out hx
            clear k1 k2
            obtain ⟨hp1, hp2⟩ := ed_part HBU.out hx
            have HP1 := Hid.mk' hp1
            have HP2 := Hid.mk' hp2
            have hkli : (k : Int) < ((nxt l u).length : Int) := by omega
            obtain ⟨fn, tmps, assign, body, hy, hR⟩ := HY.out _ (u, x) _ HJS.out hp1
            clear hx hp1 hp2
            gi_wp2_with fail
            refine hR.mono ?_
            rintro e W3 ⟨hk3, ⟨rfl, hJ3⟩ | ⟨rfl, hJx3⟩⟩
            · have HE3 := Hid.mk' (HE.out.keep hk3)
              have HO3 := Hid.mk' (own_high HON.out (Nat.le_refl _) hk3)
              have HS3 : Hid (W.heap.size ≤ W3.heap.size) := Nat.le_trans HSZ2.out hk3.1
              rw [HP2.out] at hJ3
              have HJ3 := Hid.mk' hJ3
              clear hk3 hR hy hJ3
              gi_wp2_with fail
              go_roundw
              case rel => exact ⟨k + 1, by go_num, hkl, HS3.out, HE3.out, HO3.out, HJ3.out⟩
              case measure => simp [intOf]; omega
            · gi_wp2_with fail
              exact bodyPost_ret (results_none rfl _ _ _) rfl ⟨⟨_, rfl⟩, .inr ⟨_, HP1.out, hJx3⟩⟩
          · have HA := Hid.mk' (ed_all HBU.out hkl)
            gi_wp2_with fail
            go_roundw
            case rel => exact ⟨u + 1, by go_num, by omega, HSZ2.out, HE.out, by rw [← HA.out]; exact HJS.out⟩
            case measure => simp [intOf]; omega
    · have hue : u = rs.length := by omega
      subst hue
      gi_wp2_with fail
      go_end0
      exact ⟨⟨_, rfl⟩, .inl HJS.out⟩
theorem edges_o (A B B1 B2 : Nat) (rs : List Bool) (l : List Is) (ra : Option Addr) (rc : Nat) (ca : Option Addr) (cc : Nat) (hrl : rs.length ≤ 1024) (w : World) (hE : EdAt A B B1 B2 rs l ra rc ca cc w) : SeqO 53 #[.pointer (some ⟨B1, 0, none⟩), .pointer (some ⟨B2, 0, none⟩)] encE (KpE A B) (edg l rs) w :=
  fun lq J Jx W hW hJ _ hY h0 => calls_any (edges1_o lq A B B1 B2 rs l ra rc ca cc hrl J Jx W hJ hY (hE.keep (i := W.heap.size) (kpE_below hW)) h0)
end Go.Proofs.YtgiokognngllcaaDoor

/- flow.Edges: the function value that it hands back tells all edges. -/
namespace Go.Proofs.YtgiokognngllcaaDoor
open Go.RowKit Go.Shelf

theorem nil_no (a : Addr) (n c : Nat) (w : World) : (binOp BinOp.eql 23 (.slice (some a) n c) (.slice none 0 0)).run Tryd.prog w = .ok (.bool false) w := by kernel_rfl
theorem nil_yes (n c : Nat) (w : World) : (binOp BinOp.eql 23 (.slice none n c) (.slice none 0 0)).run Tryd.prog w = .ok (.bool true) w := by kernel_rfl
set_option maxHeartbeats 1000000 in
theorem clone_any (l : List Is) (a : Option Addr) (c : Nat) (w : World) (h : RowIn w a 5 (l.map Is.cells)) (hl : l.length ≤ 1000000) : Calls Tryd.prog 52 #[.slice a l.length c] w fun e w' => ∃ v, e = .returned v ∧ w'.ownsRow w.heap.size 52 5 v l.length (l.flatMap Is.cells) ∧ Below w.heap.size w w' := by
  have HB := Hid.mk' (Below.refl w.heap.size w)
  cases a with
  | none =>
    have e := rowIn_none h rfl
    have hl0 : l = [] := List.eq_nil_of_length_eq_zero e
    subst hl0
    have hn := nil_yes
    clear e h hl
    go_enter Tryd.func52, Tryd.ntmps52
    go_wp2_with fail
    go_ret
    exact ⟨_, rfl, World.ownsRow_nil _ _ _ _, HB.out⟩
  | some a =>
    have HNW := Hid.mk' (src_news (h.below (Below.one HB.out (.cells #[] 52))) (fun _ => rfl) (by decide))
    have HO := Hid.mk' (row_new w 52 5)
    have HAP : Hid (∃ v' W', (Builtin.append_ #[23, 23] 23 #[.slice (some ⟨w.heap.size, 0, none⟩) 0 0, .slice (some a) l.length c]).run Tryd.prog (w.alloc (.cells #[] 52)) = .ok v' W' ∧ W'.ownsRow w.heap.size 52 5 v' l.length (l.flatMap Is.cells) ∧ Below w.heap.size w W') := by
      obtain ⟨i0, hi, hz0, hz1, hz2⟩ := info_parts Tryd.infoX
      obtain ⟨v', W', h1, h2, h3⟩ := run_append_ownS (P := Tryd.prog) (w.alloc (.cells #[] 52)) w.heap.size 23 23 52 i0 _ 5 40 Tryd.underlying23 hi hz0 hz1 hz2 rfl (by decide) _ 0 [] HO.out (some a) l.length c (l.flatMap Is.cells) (by rw [flat_len (f := Is.cells) (k := 5) (fun _ => rfl)]) (fun e => by cases e) HNW.out (one_is l) (by unfold maxLen; omega) (by omega) (by simp)
      refine ⟨v', W', h1, ?_, (Below.one HB.out (.cells #[] 52)).grown h3 (by simp) (fun k e => by simp [Value.ownBlock] at e; omega)⟩
      rw [Nat.zero_add, List.nil_append] at h2
      exact h2
    have hn := nil_no a
    clear h hl
    go_enter Tryd.func52, Tryd.ntmps52
    go_wp2_with (at_builtin; refine wpl_app rfl _ _ 23 23 _ _ rfl rfl rfl HAP.out ?_; rintro v3 W3 ⟨on3, bb3⟩; have HO3 := Hid.mk' on3; clear on3)
    go_ret
    exact ⟨_, rfl, HO3.out, bb3⟩
theorem Tryd.elemX : Tryd.prog.elem 23 = 52 := by kernel_rfl
/-- The first ones of a function's code. -/
theorem slice_code (w : World) (a : Option Addr) (l : List Is) (c n : Nat) (h : RowIn w a 5 (l.map Is.cells)) (hn : n ≤ l.length) (hc : l.length ≤ c) : ∃ a', (∀ W, (Instr.slice 23 (.slice a l.length c) none (some (.int .i64 (n : Int))) none).run Tryd.prog W = .ok (.slice a' n c) W) ∧ RowIn w a' 5 ((l.take n).map Is.cells) := by
  have hu : Tryd.prog.underlying 23 = some (.slice (Tryd.prog.elem 23)) := by rw [Tryd.elemX]; exact Tryd.underlying23
  obtain ⟨i0, hi, hz0, hz1, hz2⟩ := info_parts Tryd.infoX
  refine ⟨if c = 0 then a else a.map (·.add 0), fun W => ?_, ?_⟩
  · rw [run_slice_h W 23 _ _ c hu .i64 (n : Int) (by omega) (by omega), Tryd.elemX, Int.toNat_natCast]
    simp [sizeOf, typeInfo, hi, hz1, sliced]
  · intro i cs hi
    rw [List.getElem?_map, Option.map_eq_some_iff] at hi
    obtain ⟨x, hx, rfl⟩ := hi
    rw [List.getElem?_take] at hx
    split at hx
    · obtain ⟨b, o, e, hcell⟩ := h i x.cells (by rw [List.getElem?_map, hx]; rfl)
      refine ⟨b, o, ?_, hcell⟩
      rw [e, if_neg (by omega)]
      simp [Addr.add_lit]
    · cases hx
/-- What Edges hands back. -/
def EdP (l : List Is) (w : World) (e : Ending) (w' : World) : Prop := ∃ B1 B2 rs, e = .returned (.func (.func 53) #[] #[.pointer (some ⟨B1, 0, none⟩), .pointer (some ⟨B2, 0, none⟩)]) ∧ IsR l rs ∧ SeqO 53 #[.pointer (some ⟨B1, 0, none⟩), .pointer (some ⟨B2, 0, none⟩)] encE (KpE w.heap.size w'.heap.size) (edg l rs) w' ∧ Below w.heap.size w w'
theorem edg_take {l : List Is} {rs : List Bool} (h : IsR l rs) : edg (l.take rs.length) rs = edg l rs := by
  rcases h with ⟨_, rfl⟩ | ⟨h1, h2, h3, _⟩
  · rfl
  · rw [h3, List.take_length]
set_option maxRecDepth 100000 in
set_option maxHeartbeats 4000000 in
theorem edges_any (f : Fn) (w : World) (hi : Iss w f.ca f.code) (hc : f.code.length ≤ f.cc) : Calls Tryd.prog 36 #[f.val] w (EdP f.code w) := by
  have HR : Hid (∀ w', Below w.heap.size w w' → Calls Tryd.prog 51 #[f.val] w' (ReP f.code w')) := fun w' hb => reach_any f w' (hi.stay hb)
  obtain ⟨fn, fpa, fpc, fps, frg, fwd, fca, fcc, fl⟩ := f
  unfold Fn.val at *
  simp only at hi HR hc ⊢
  have HB := Hid.mk' (Below.one (Below.refl _ w) (.cells #[.string fn, .slice fpa fps.length fpc, .int .i64 frg, .int .i64 fwd, .slice fca fl.length fcc] 25))
  have HX := Hid.mk' (heap_alloc_new w (.cells #[.string fn, .slice fpa fps.length fpc, .int .i64 frg, .int .i64 fwd, .slice fca fl.length fcc] 25))
  have HI := Hid.mk' hi
  have HC := Hid.mk' hc
  clear hi hc
  go_enter Tryd.func36, Tryd.ntmps36
  go_wp2_with fail
  refine (HR.out _ HB.out).mono ?_
  rintro e W1 ⟨v1, rs, rfl, hir, ho, bb1⟩
  obtain ⟨ra, rc, rfl⟩ := gown_form ho
  have hbw := Below.on HB.out bb1
  have hrs := hir.len
  obtain ⟨a', hsl, hrow⟩ := slice_code (W1.alloc (.cells #[.slice ra rs.length rc] 45)) fca fl fcc rs.length ((HI.out.stay (Below.one hbw (.cells #[.slice ra rs.length rc] 45))).2) hir.le HC.out
  have hx1 := blk_stay HX.out (Below.one bb1 (.cells #[.slice ra rs.length rc] 45))
  have z4 := cell_of_obj hx1 (j := 4) (v := .slice fca fl.length fcc) rfl
  have hx2 := heap_alloc_new W1 (.cells #[.slice ra rs.length rc] 45)
  have z5 := cell_of_obj hx2 (j := 0) (v := .slice ra rs.length rc) rfl
  have hle := hir.le
  have HCL := Hid.mk' (clone_any (fl.take rs.length) a' fcc _ hrow (by rw [List.length_take]; omega))
  have hlt : (fl.take rs.length).length = rs.length := by rw [List.length_take]; omega
  rw [hlt] at HCL
  have HLT := Hid.mk' hlt
  have HIR := Hid.mk' hir
  have HO := Hid.mk' ho
  have HB1 := Hid.mk' hbw
  have HX2 := Hid.mk' hx2
  clear hir ho hbw hrow hx1 hx2 hlt hle bb1 HR HI HX
  go_wp2_with fail
  refine HCL.out.mono ?_
  rintro e W2 ⟨v2, rfl, ow2, bb2⟩
  obtain ⟨ca, cc, rfl⟩ := gown_form ow2
  have hs1 := bb2.size
  rw [World.size_alloc] at hs1
  have hs0 := HB1.out.size
  have HE : Hid (EdAt w.heap.size (W2.heap.size + 1) W1.heap.size W2.heap.size rs (fl.take rs.length) ra rc ca cc (W2.alloc (.cells #[.string ⟨#[]⟩, .slice none 0 0, .int .i64 0, .int .i64 0, .slice ca rs.length cc] 25))) := by
    have bo := Below.one (Below.refl _ W2) (.cells #[.string ⟨#[]⟩, .slice none 0 0, .int .i64 0, .int .i64 0, .slice ca rs.length cc] 25)
    have bo2 := Below.one bb2 (.cells #[.string ⟨#[]⟩, .slice none 0 0, .int .i64 0, .int .i64 0, .slice ca rs.length cc] 25)
    refine ⟨⟨by omega, by omega⟩, ⟨by omega, by omega⟩, blk_stay HX2.out bo2, heap_alloc_new _ _, ?_, fun k e => ?_, ?_, fun k e => ?_, HLT.out⟩
    · have h1 := own_stay (own_mono HO.out (by simp : w.heap.size ≤ _)) (Below.one (Below.refl _ W1) (.cells #[.slice ra rs.length rc] 45))
      exact own_stay h1 bo2
    · have := (HO.out.lt k e).2; omega
    · exact own_stay (own_mono ow2 (by rw [World.size_alloc]; omega)) bo
    · have := (ow2.lt k e).2; omega
  clear ow2 z4 z5 HCL HX2
  go_wp2_with fail
  go_ret
  refine ⟨_, _, rs, rfl, HIR.out, ?_, Below.one (Below.on (Below.one HB1.out _) bb2) _⟩
  rw [← edg_take HIR.out]
  have := edges_o w.heap.size (W2.heap.size + 1) W1.heap.size W2.heap.size rs (fl.take rs.length) ra rc ca cc hrs _ HE.out
  rw [World.size_alloc]
  exact this
end Go.Proofs.YtgiokognngllcaaDoor

/- The document's own Edges. -/
namespace Go.Proofs.YtgiokognngllcaaDoor
open Go.RowKit Go.Sort

def edC (x : Nat × Nat) : List Value := [.int .i64 (x.1 : Int), .int .i64 (x.2 : Int)]
theorem edB_len (l : List Is) (rs : List Bool) (u : Nat) : (edB l rs u).length ≤ 2 := by
  unfold edB
  split
  · rw [List.length_map]; exact nxt_len _ _
  · simp
theorem edU_len (l : List Is) (rs : List Bool) : ∀ u, (edU l rs u).length ≤ 2 * u
  | 0 => by simp [edU]
  | u + 1 => by rw [edU_succ, List.length_append]; have := edU_len l rs u; have := edB_len l rs u; omega
/-- Edges of the call's own. -/
abbrev Oe (N : Nat) (l : List (Nat × Nat)) (v : Value) (W : World) : Prop := W.ownsRow N 49 2 v l.length (l.flatMap edC)
theorem Tryd.infoE : (Tryd.prog.info? 49).map (fun i => (i.zero, i.size, i.bytes)) = some (some (.agg #[.int .i64 0, .int .i64 0]), 2, 16) := by kernel_rfl
theorem oe_app {N : Nat} {l : List (Nat × Nat)} {v : Value} {W : World} (h : Oe N l v W) (hN : N ≤ W.heap.size) (hl : l.length ≤ 1000000) (x y : Nat) (ty : TypeId) :
    ∃ v' W', (Builtin.append_ #[46, 46] ty #[v, .slice (some ⟨W.heap.size, 0, none⟩) 1 1]).run Tryd.prog (W.alloc (.cells #[.int .i64 (x : Int), .int .i64 (y : Int)] 49)) = .ok v' W' ∧ Oe N (l ++ [(x, y)]) v' W' ∧ W.grownBy W' v.ownBlock := by
  obtain ⟨v', W', h1, h2, h3⟩ := app_one (t := 46) Tryd.underlying46 Tryd.infoE rfl (by decide) h hN (by unfold maxLen; omega) (by omega) #[.int .i64 (x : Int), .int .i64 (y : Int)] rfl (by simp [Value.oneCell']) ty
  refine ⟨v', W', h1, ?_, h3⟩
  unfold Oe
  rw [List.length_append, List.flatMap_append]
  exact h2
/-- What the loops hold. -/
structure EI (w w1 : World) (rs : List Bool) (vc : Value) (es : List (Nat × Nat)) (v : Value) (W : World) : Prop where
  r : Ob (w.heap.size + 1) rs vc W
  q : Oe (w.heap.size + 1) es v W
  b : Below (w.heap.size + 1) w1 W
theorem EI.stay {w w1 : World} {rs : List Bool} {vc : Value} {es : List (Nat × Nat)} {v : Value} {W W' : World} (h : EI w w1 rs vc es v W) (hs : w.heap.size + 1 ≤ W.heap.size) (hb : Below W.heap.size W W') : EI w w1 rs vc es v W' := ⟨own_stay h.r hb, own_stay h.q hb, h.b.trans (hb.mono hs)⟩
theorem EI.grow {w w1 : World} {rs : List Bool} {vc : Value} {es es' : List (Nat × Nat)} {v v' : Value} {W W' : World} (h : EI w w1 rs vc es v W) (hs : w.heap.size + 1 ≤ W.heap.size) (hg : W.grownBy W' v.ownBlock) (ho : Oe (w.heap.size + 1) es' v' W') : EI w w1 rs vc es' v' W' :=
  ⟨h.r.kept hg (own_ne h.r h.q (by decide)), ho, h.b.grown hg hs (fun k e => own_base h.q k e)⟩
def REP (l : List Is) (w : World) (e : Ending) (w' : World) : Prop := ∃ v rs, e = .returned v ∧ IsR l rs ∧ Oe w.heap.size (edg l rs) v w' ∧ Below w.heap.size w w'
set_option maxRecDepth 100000 in
set_option maxHeartbeats 4000000 in
theorem redges_any (f : Fn) (w : World) (hi : Iss w f.ca f.code) : Calls Tryd.prog 15 #[f.val] w (REP f.code w) := by
  have HN : Hid (∀ (k : Nat) w', Below w.heap.size w w' → Calls Tryd.prog 33 #[f.val, .int .i64 (k : Int)] w' (NxP (nxt f.code k) w')) := fun k w' hb => by
    have := rnext_any f k w' (hi.stay hb)
    rwa [nxZ_nat] at this
  have HR : Hid (∀ w', Below w.heap.size w w' → Calls Tryd.prog 19 #[f.val] w' (ReP f.code w')) := fun w' hb => rreach_any f w' (hi.stay hb)
  obtain ⟨fn, fpa, fpc, fps, frg, fwd, fca, fcc, fl⟩ := f
  unfold Fn.val at *
  simp only at hi HN HR ⊢
  have HB := Hid.mk' (Below.one (Below.refl _ w) (.cells #[.string fn, .slice fpa fps.length fpc, .int .i64 frg, .int .i64 fwd, .slice fca fl.length fcc] 25))
  have HX := Hid.mk' (heap_alloc_new w (.cells #[.string fn, .slice fpa fps.length fpc, .int .i64 frg, .int .i64 fwd, .slice fca fl.length fcc] 25))
  clear hi
  go_enter Tryd.func15, Tryd.ntmps15
  go_wp2_with fail
  refine (HR.out _ HB.out).mono ?_
  rintro e w2 ⟨vc, rs, rfl, hir, ho, bb2⟩
  obtain ⟨ra, rc, rfl⟩ := gown_form ho
  rw [World.size_alloc] at ho bb2
  have hs2 := bb2.size
  have HSZ : Hid (w.heap.size + 1 ≤ (w2.alloc (.cells #[] 49)).heap.size) := (by rw [World.size_alloc] at hs2 ⊢; omega : _ ≤ _)
  have HRL := Hid.mk' hir.len
  have HIR := Hid.mk' hir
  have HE0 : Hid (EI w (w.alloc (.cells #[.string fn, .slice fpa fps.length fpc, .int .i64 frg, .int .i64 fwd, .slice fca fl.length fcc] 25)) rs (.slice ra rs.length rc) (edU fl rs 0) (.slice (some ⟨w2.heap.size, 0, none⟩) 0 0) (w2.alloc (.cells #[] 49))) := by
    rw [World.size_alloc] at hs2
    exact ⟨own_stay ho (Below.one (Below.refl _ w2) _), own_mono (row_new w2 49 2) hs2, bb2.alloc hs2 _⟩
  have HW1 : Hid (∀ W : World, Below (w.heap.size + 1) (w.alloc (.cells #[.string fn, .slice fpa fps.length fpc, .int .i64 frg, .int .i64 fwd, .slice fca fl.length fcc] 25)) W → W.heap[w.heap.size]? = some (.cells #[.string fn, .slice fpa fps.length fpc, .int .i64 frg, .int .i64 fwd, .slice fca fl.length fcc] 25) ∧ Below w.heap.size w W ∧ w.heap.size + 1 ≤ W.heap.size) := by
    intro W hb
    have h1 := (hb.block _ (Nat.lt_succ_self _)).trans HX.out
    exact ⟨h1, HB.out.trans (hb.mono (Nat.le_succ _)), (Array.getElem?_eq_some_iff.1 h1).1⟩
  clear hir ho bb2 hs2 HR HB HX
  go_wp2_with fail
  generalize w2.alloc (.cells #[] 49) = W0 at *
  generalize w.alloc (.cells #[.string fn, .slice fpa fps.length fpc, .int .i64 frg, .int .i64 fwd, .slice fca fl.length fcc] 25) = w1 at *
  generalize w2.heap.size = R at *
  go_loopw [4, 5] (fun t4 t5 wr => ∃ (u : Nat) (v : Value), t4 = v ∧ t5 = .int .i64 (u : Int) ∧ u ≤ rs.length ∧ EI w w1 rs (.slice ra rs.length rc) (edU fl rs u) v wr) (fun _ t5 _ => rs.length - (intOf t5).toNat)
  case atStart => exact ⟨0, _, rfl, rfl, Nat.zero_le _, HE0.out⟩
  case round =>
    obtain ⟨u, v, rfl, rfl, hu, hei⟩ := hrel
    have HEI := Hid.mk' hei
    obtain ⟨av, cv, rfl⟩ := gown_form hei.q
    have hrl := HRL.out
    clear hei HE0
    by_cases hlt : u < rs.length
    · obtain ⟨bu, hbu⟩ : ∃ b, rs[u]? = some b := ⟨_, List.getElem?_eq_getElem hlt⟩
      obtain ⟨gr, rfl, d0, k1, k2⟩ := ob_at HEI.out.r hbu
      clear k1 k2
      have hlti : (u : Int) < (rs.length : Int) := by omega
      have HBU := Hid.mk' hbu
      have HEL := Hid.mk' (edU_len fl rs u)
      clear hbu
      cases bu
      · have HES : Hid (edU fl rs (u + 1) = edU fl rs u) := (by rw [edU_succ, edB_no HBU.out, List.append_nil] : _ = _)
        go_wp2_with fail
        go_roundw
        case rel => exact ⟨u + 1, _, rfl, by go_num, by omega, by rw [HES.out]; exact HEI.out⟩
        case measure => simp [intOf]; omega
      · obtain ⟨hx, hbw, hsz⟩ := HW1.out _ HEI.out.b
        have HBW := Hid.mk' hbw
        have HSZ1 := Hid.mk' hsz
        have z0 := cell_of_obj hx (j := 0) (v := .string fn) rfl
        have z1 := cell_of_obj hx (j := 1) (v := .slice fpa fps.length fpc) rfl
        have z2 := cell_of_obj hx (j := 2) (v := .int .i64 frg) rfl
        have z3 := cell_of_obj hx (j := 3) (v := .int .i64 fwd) rfl
        have z4 := cell_of_obj hx (j := 4) (v := .slice fca fl.length fcc) rfl
        clear hx hbw hsz
        go_wp2_with fail
        refine (HN.out u _ HBW.out).mono ?_
        rintro e W2 ⟨v2, rfl, on2, bb2⟩
        obtain ⟨a2, c2, rfl⟩ := gown_form on2
        have HE2 := Hid.mk' (HEI.out.stay HSZ1.out bb2)
        have HS2 : Hid (w.heap.size + 1 ≤ W2.heap.size) := Nat.le_trans HSZ1.out bb2.size
        have HO2 := Hid.mk' on2
        have hn2 := nxt_len fl u
        obtain ⟨Wo, hWo⟩ : ∃ Wo, Wo = wr := ⟨_, rfl⟩
        subst hWo
        clear z0 z1 z2 z3 z4 on2 bb2 d0 HEI HBW HSZ1
        go_wp2_with fail
        go_loopw [4, 7] (fun t4 t7 wr => ∃ (k : Nat) (v : Value), t4 = v ∧ t7 = .int .i64 (k : Int) ∧ k ≤ (nxt fl u).length ∧ EI w w1 rs (.slice (some ⟨gr, 0, none⟩) rs.length rc) (edU fl rs u ++ ((nxt fl u).take k).map fun v => (u, v)) v wr ∧ w.heap.size + 1 ≤ wr.heap.size ∧ On Wo.heap.size (nxt fl u) (.slice a2 (nxt fl u).length c2) wr) (fun _ t7 _ => (nxt fl u).length - (intOf t7).toNat)
        case atStart => exact ⟨0, _, rfl, rfl, Nat.zero_le _, by simpa using HE2.out, HS2.out, HO2.out⟩
        case round =>
          obtain ⟨k, v, rfl, rfl, hk, hei, hsz, hon⟩ := hrel
          have HEI := Hid.mk' hei
          have HSZ1 := Hid.mk' hsz
          have HON := Hid.mk' hon
          obtain ⟨av, cv, rfl⟩ := gown_form hei.q
          clear hei hsz hon HE2 HS2 HO2
          by_cases hkl : k < (nxt fl u).length
          · obtain ⟨x, hx⟩ : ∃ x, (nxt fl u)[k]? = some x := ⟨_, List.getElem?_eq_getElem hkl⟩
            obtain ⟨gn, rfl, d0, k1, k2⟩ := on_at HON.out hx
            clear k1 k2
            obtain ⟨_, hp2⟩ := ed_part HBU.out hx
            have HP2 := Hid.mk' hp2
            have hkli : (k : Int) < ((nxt fl u).length : Int) := by omega
            have HLE : Hid ((edU fl rs u ++ ((nxt fl u).take k).map fun v => (u, v)).length ≤ 1000000) := by
              show _ ≤ _
              have := HEL.out
              simp only [List.length_append, List.length_map, List.length_take]
              omega
            have HAP := Hid.mk' (oe_app HEI.out.q HSZ1.out HLE.out u x 46)
            clear hx hp2
            go_wp2_with (at_builtin; refine wpl_app rfl _ _ 46 46 _ _ rfl rfl rfl HAP.out ?_; rintro v3 W3 ⟨oe3, gr3⟩)
            have HE3 := Hid.mk' (HEI.out.grow HSZ1.out gr3 oe3)
            have HO3 := Hid.mk' (HON.out.kept gr3 (own_ne HON.out HEI.out.q (by decide)))
            have HS3 : Hid (w.heap.size + 1 ≤ W3.heap.size) := Nat.le_trans HSZ1.out gr3.size
            obtain ⟨a3, c3, rfl⟩ := gown_form oe3
            clear oe3 gr3
            rw [HP2.out] at HE3 ⊢
            go_roundw
            case rel => exact ⟨k + 1, _, rfl, by go_num, hkl, HE3.out, HS3.out, HO3.out⟩
            case measure => simp [intOf]; omega
          · have HA := Hid.mk' (ed_all HBU.out hkl)
            go_wp2_with fail
            go_roundw
            case rel => exact ⟨u + 1, _, rfl, by go_num, by omega, by rw [← HA.out]; exact HEI.out⟩
            case measure => simp [intOf]; omega
    · have hue : u = rs.length := by omega
      go_wp2_with fail
      go_ret
      refine ⟨_, rs, rfl, HIR.out, ?_, (HW1.out _ HEI.out.b).2.1⟩
      unfold edg
      rw [← hue]
      exact own_mono HEI.out.q (Nat.le_succ _)
end Go.Proofs.YtgiokognngllcaaDoor

/- The law's own question: are edges told as they are to be? -/
namespace Go.Proofs.YtgiokognngllcaaDoor
open Go.RowKit Go.Shelf
attribute [local go_sem] Oper.semAt_some

theorem boxed_grown {W W' : World} {B : Nat} {t : TypeId} {v : Value} {row : Option Nat} (h : Boxed W B t v) (hg : W.grownBy W' row) (hr : ∀ r, row = some r → ∃ o : Obj, W.heap[r]? = some o ∧ o.isCells = false) : Boxed W' B t v :=
  h.kept hg (fun e => by
    obtain ⟨o, ho, hc⟩ := hr B e.symm
    rw [show W.heap[B]? = _ from h] at ho; cases ho; cases hc)
theorem own_grown {W W' : World} {N n sz : Nat} {T : TypeId} {v : Value} {xs : List Value} {row : Option Nat} (h : W.ownsRow N T sz v n xs) (hg : W.grownBy W' row) (hr : ∀ r, row = some r → ∃ o : Obj, W.heap[r]? = some o ∧ o.isCells = false) : W'.ownsRow N T sz v n xs := by
  refine h.kept hg ?_
  rcases h.2 with ⟨rfl, _⟩ | ⟨g, cap, cur, rfl, _, hgb, _⟩
  · exact .inl rfl
  · refine .inr fun e' => ?_
    obtain ⟨o, ho, hc⟩ := hr g (by simpa [Value.ownBlock] using e'.symm)
    rw [hgb] at ho; cases ho; cases hc
theorem boxed_stay {W W' : World} {B : Nat} {t : TypeId} {v : Value} (h : Boxed W B t v) (hb : Below W.heap.size W W') : Boxed W' B t v := (hb.block _ h.lt).trans h
theorem put_boxed {W : World} {B : Nat} {t : TypeId} {v : Value} (h : Boxed W B t v) {D : Nat} {o : Obj} (o' : Obj) (hD : W.heap[D]? = some o) (hc : o.isCells = false) : Boxed (W.putObj D o') B t v :=
  boxed_grown h (grownBy_putObj' W D o') (fun r e => by cases e; exact ⟨o, hD, hc⟩)
theorem pre_at {α : Type} {L pre : List α} {x : α} (h : pre ++ [x] <+: L) : L[pre.length]? = some x := by
  obtain ⟨r, rfl⟩ := h
  simp
theorem keepsFrom_refl' (B : Nat) (W : World) : KeepsFrom B W W := (KeepsOthers.refl W).from B
theorem es_at {W : World} {a : Option Addr} {l : List (Nat × Nat)} (h : RowIn W a 2 (l.map edC)) {j : Nat} {x : Nat × Nat} (hj : l[j]? = some x) : ∃ b o, a = some ⟨b, o, none⟩ ∧ W.cell? ⟨b, o + j * 2, none⟩ = some (.int .i64 (x.1 : Int)) ∧ W.cell? ⟨b, o + j * 2 + 1, none⟩ = some (.int .i64 (x.2 : Int)) := by
  obtain ⟨b, o, e, hc⟩ := h j (edC x) (by rw [List.getElem?_map, hj]; rfl)
  exact ⟨b, o, e, hc 0 _ rfl, hc 1 _ rfl⟩
/-- What the loop holds. -/
structure TlI (w : World) (N : Nat) (v : Value) (stop : Int) (pre : List (Nat × Nat)) (W : World) : Prop where
  v : Boxed W (N + 1) 46 v
  s : Boxed W (N + 1 + 1) 3 (.int .i64 stop)
  r : Boxed W (N + 1 + 1 + 1) 4 (.bool false)
  a : Boxed W (N + 1 + 1 + 1 + 1) 3 (.int .i64 (pre.length : Nat))
  b : Below w.heap.size w W
def TlX (w : World) (N : Nat) (c : Code) (_ : List (Nat × Nat)) (W : World) : Prop := c = .ret ∧ Boxed W (N + 1 + 1 + 1) 4 (.bool true) ∧ Below w.heap.size w W
theorem TlI.own (w : World) {N B : Nat} (v : Value) (stop : Int) (hB : w.heap.size ≤ B) : OwnFrom B (TlI w N v stop) := fun _ _ _ _ h hg hr =>
  ⟨boxed_grown h.v hg (fun r e => (hr r e).2), boxed_grown h.s hg (fun r e => (hr r e).2), boxed_grown h.r hg (fun r e => (hr r e).2), boxed_grown h.a hg (fun r e => (hr r e).2), h.b.grown hg h.b.size (fun k e => Nat.le_trans hB (hr k e).1)⟩
theorem TlX.own (w : World) {N B : Nat} (c : Code) (hB : w.heap.size ≤ B) : OwnFrom B (TlX w N c) := fun _ _ _ _ ⟨h1, h2, h3⟩ hg hr =>
  ⟨h1, boxed_grown h2 hg (fun r e => (hr r e).2), h3.grown hg h3.size (fun k e => Nat.le_trans hB (hr k e).1)⟩
theorem TlI.next {w : World} {N : Nat} {v : Value} {stop : Int} {pre : List (Nat × Nat)} {W : World} (h : TlI w N v stop pre W) (hN : w.heap.size ≤ N) (x : Nat × Nat) : TlI w N v stop (pre ++ [x]) (W.setCell ⟨N + 1 + 1 + 1 + 1, 0, none⟩ (.int .i64 ((pre.length : Int) + 1))) :=
  ⟨h.v.other (by omega) _, h.s.other (by omega) _, h.r.other (by omega) _, by have := h.a.set (.int .i64 ((pre.length : Int) + 1)); simpa using this, h.b.setCell (by simp only; omega) _⟩
end Go.Proofs.YtgiokognngllcaaDoor
