/- ref14.Split, walked. -/
import Derived.Test.YtgiokognngllcaaDoorWd
import Derived.Test.YtgiokognngllcaaDoorTw
namespace Go.Proofs.YtgiokognngllcaaDoor
open Go.RowKit Go.Sort

theorem isw_bit {l : List Is} {u v : Nat} {ws : List Bool} (h : IsW l (v : Int) ws) (h0 : 0 < l.length) (h1 : l.length ≤ 1024) (hu : u < l.length) (hr : Rch l u) : ws[u]? = some (!pD (Dm l v u)) := by
  rcases h with ⟨h, _⟩ | ⟨_, _, hl, hb⟩
  · omega
  · have hul : u < ws.length := by omega
    rw [List.getElem?_eq_getElem hul]
    have hk := hb u
    rw [List.getElem?_eq_getElem hul] at hk
    congr 1
    cases e : ws[u] with
    | true =>
      have : ¬ Dm l v u := fun hd => hd.2 (hk.1 (by rw [e]))
      rw [pD_f.2 this]; rfl
    | false =>
      have : Dm l v u := ⟨hr, fun hw => by have := hk.2 hw; rw [e] at this; cases this⟩
      rw [pD_t.2 this]; rfl
set_option maxRecDepth 100000 in
set_option maxHeartbeats 4000000 in
theorem split_any (f : Fn) (w : World) (hi : Iss w f.ca f.code) : Calls Tryd.prog 26 #[f.val] w (SpP f.code w) := by
  have HRE : Hid (∀ W, Below w.heap.size w W → Calls Tryd.prog 15 #[f.val] W (REP f.code W)) := fun W hb => redges_any f W (hi.stay hb)
  have HWO : Hid (∀ (v : Nat) W, Below w.heap.size w W → Calls Tryd.prog 34 #[f.val, .int .i64 (v : Int)] W (WoP f.code v W)) := fun v W hb => without_any f v W (hi.stay hb)
  clear hi
  obtain ⟨fn, fpa, fpc, fps, frg, fwd, fca, fcc, fl⟩ := f
  unfold Fn.val at *
  simp only at HRE HWO ⊢
  obtain ⟨w1, hw1⟩ : ∃ X, X = w.alloc (.cells #[.string fn, .slice fpa fps.length fpc, .int .i64 frg, .int .i64 fwd, .slice fca fl.length fcc] 25) := ⟨_, rfl⟩
  have hs1 : w1.heap.size = w.heap.size + 1 := by rw [hw1, World.size_alloc]
  have hx1 : w1.heap[w.heap.size]? = some (.cells #[.string fn, .slice fpa fps.length fpc, .int .i64 frg, .int .i64 fwd, .slice fca fl.length fcc] 25) := by rw [hw1]; exact heap_alloc_new w _
  have hb1 : Below w.heap.size w w1 := by rw [hw1]; exact Below.one (Below.refl _ w) _
  have HW1 : Hid (∀ W, Below (w.heap.size + 1) w1 W → W.heap[w.heap.size]? = some (.cells #[.string fn, .slice fpa fps.length fpc, .int .i64 frg, .int .i64 fwd, .slice fca fl.length fcc] 25) ∧ Below w.heap.size w W ∧ w.heap.size + 1 ≤ W.heap.size) := fun W hb =>
    ⟨(hb.block _ (Nat.lt_succ_self _)).trans hx1, hb1.trans (hb.mono (Nat.le_succ _)), hs1 ▸ hb.size⟩
  obtain ⟨W0, hW0⟩ : ∃ X, X = (w1.alloc (.cells #[] 49)).alloc (.cells #[] 49) := ⟨_, rfl⟩
  have hbA : Below (w.heap.size + 1) w1 W0 := by rw [hW0, ← hs1]; exact Below.one (Below.one (Below.refl _ _) _) _
  have hA0 : Oe (w.heap.size + 1) [] (.slice (some ⟨w.heap.size + 1, 0, none⟩) 0 0) W0 := by
    have := row_new w1 49 2
    rw [hs1] at this
    rw [hW0]
    exact own_stay this (Below.one (Below.refl _ _) _)
  have hB0 : Oe (w.heap.size + 1) [] (.slice (some ⟨w.heap.size + 1 + 1, 0, none⟩) 0 0) W0 := by
    have := row_new (w1.alloc (.cells #[] 49)) 49 2
    rw [World.size_alloc, hs1] at this
    rw [hW0]
    exact own_mono this (Nat.le_succ _)
  have HST : Hid (∀ es ve W, Oe W0.heap.size es ve W → Below W0.heap.size W0 W → SI fl (w.heap.size + 1) es [] ve (.slice (some ⟨w.heap.size + 1, 0, none⟩) 0 0) (.slice (some ⟨w.heap.size + 1 + 1, 0, none⟩) 0 0) w1 W) := fun es ve W ho hb =>
    ⟨own_mono ho (hs1 ▸ hbA.size), own_stay hA0 hb, own_stay hB0 hb, apart_new ho hA0 (Nat.le_refl _), apart_new ho hB0 (Nat.le_refl _), .inr (by simp [Value.ownBlock]), hbA.trans (hb.mono (hs1 ▸ hbA.size))⟩
  have hw0b : Below w.heap.size w W0 := (HW1.out _ hbA).2.1
  have HBA := Hid.mk' hw0b
  have HE := Hid.mk' hW0
  have HEW := Hid.mk' hw1
  have z0 := cell_of_obj (HW1.out _ hbA).1 (j := 0) (v := .string fn) rfl
  have z1 := cell_of_obj (HW1.out _ hbA).1 (j := 1) (v := .slice fpa fps.length fpc) rfl
  have z2 := cell_of_obj (HW1.out _ hbA).1 (j := 2) (v := .int .i64 frg) rfl
  have z3 := cell_of_obj (HW1.out _ hbA).1 (j := 3) (v := .int .i64 fwd) rfl
  have z4 := cell_of_obj (HW1.out _ hbA).1 (j := 4) (v := .slice fca fl.length fcc) rfl
  rw [hW0, hw1] at z0 z1 z2 z3 z4
  have HS1 := Hid.mk' hs1
  clear hx1 hb1 hbA hA0 hB0 hw0b hW0 hw1 hs1
  go_enter Tryd.func26, Tryd.ntmps26
  go_wp2_with fail
  rw [← HEW.out, ← HE.out]
  refine (HRE.out _ HBA.out).mono ?_
  rintro e W1 ⟨ve, rs, rfl, hir, hoe, bb1⟩
  have HSI0 := Hid.mk' (HST.out _ _ _ hoe bb1)
  have HIR := Hid.mk' hir
  have HME : Hid (∀ u v, (u, v) ∈ edg fl rs → Rch fl u ∧ v ∈ nxt fl u ∧ u < fl.length ∧ v < fl.length ∧ 0 < fl.length ∧ fl.length ≤ 1024) := fun u v hm => mem_edg' hir hm
  have hel : (edg fl rs).length ≤ 3000 := Nat.le_trans (edg_len hir) (by decide)
  obtain ⟨ea, ec, rfl⟩ := gown_form hoe
  clear hir hoe bb1 z0 z1 z2 z3 z4 HE HEW HST HBA HRE
  generalize hes : edg fl rs = es at *
  have HES := Hid.mk' hes
  clear hes
  go_wp2_with fail
  go_loopw [4, 5, 7] (fun t4 t5 t7 wr => ∃ (k : Nat) (va vb : Value), k ≤ es.length ∧ t4 = va ∧ t5 = vb ∧ t7 = .int .i64 (k : Int) ∧ SI fl (w.heap.size + 1) es (es.take k) (.slice ea es.length ec) va vb w1 wr) (fun _ _ t7 _ => es.length - (intOf t7).toNat)
  case atStart => exact ⟨0, _, _, Nat.zero_le _, rfl, rfl, rfl, HSI0.out⟩
  case round =>
    clear HSI0
    obtain ⟨k, va, vb, hk, rfl, rfl, rfl, hsi⟩ := hrel
    have HSI := Hid.mk' hsi
    obtain ⟨aa, ac, rfl⟩ := gown_form hsi.a
    obtain ⟨ab, bc, rfl⟩ := gown_form hsi.b
    clear hsi
    by_cases hlt : k < es.length
    · obtain ⟨g, rfl⟩ : ∃ g, ea = some ⟨g, 0, none⟩ := by
        rcases HSI.out.e.2 with ⟨_, e⟩ | ⟨g, cap, cur, e, _⟩
        · have h1 := HSI.out.e.1
          omega
        · injection e with e1 _ _
          exact ⟨g, e1⟩
      obtain ⟨⟨u, v⟩, hx⟩ : ∃ x, es[k]? = some x := ⟨_, List.getElem?_eq_getElem hlt⟩
      have hcell : ∀ j y, (edC (u, v))[j]? = some y → wr.cell? ⟨g, k * 2 + j, none⟩ = some y := fun j y hj => by
        have := HSI.out.e.cells (g := g) rfl _ _ (flat_at (f := edC) (k := 2) (fun _ => rfl) es k j (u, v) y hx hj)
        rw [Addr.add_lit, Nat.zero_add] at this
        exact this
      have c0 : wr.cell? ⟨g, k * 2, none⟩ = some (.int .i64 (u : Int)) := hcell 0 _ rfl
      have c1 : wr.cell? ⟨g, k * 2 + 1, none⟩ = some (.int .i64 (v : Int)) := hcell 1 _ rfl
      have HTK : Hid (es.take (k + 1) = es.take k ++ [(u, v)]) := by
        show _ = _
        rw [List.take_succ_eq_append_getElem hlt, (List.getElem?_eq_some_iff.1 hx).2]
      obtain ⟨m1, m2, m3, m4, m5, m6⟩ := HME.out u v (List.mem_of_getElem? hx)
      have HBIT : Hid (∀ ws, IsW fl (v : Int) ws → ws[u]? = some (!pD (Dm fl v u))) := fun ws h => isw_bit h m5 m6 m3 m1
      have hki : (k : Int) < (es.length : Int) := by omega
      obtain ⟨hxo, hbw, hsz⟩ := HW1.out _ HSI.out.bl
      have HBW := Hid.mk' hbw
      have HSZ := Hid.mk' hsz
      have z0 := cell_of_obj hxo (j := 0) (v := .string fn) rfl
      have z1 := cell_of_obj hxo (j := 1) (v := .slice fpa fps.length fpc) rfl
      have z2 := cell_of_obj hxo (j := 2) (v := .int .i64 frg) rfl
      have z3 := cell_of_obj hxo (j := 3) (v := .int .i64 fwd) rfl
      have z4 := cell_of_obj hxo (j := 4) (v := .slice fca fl.length fcc) rfl
      clear hx hcell m1 m2 m3 m4 m5 m6 hxo hbw hsz
      go_upto_region 7 with fail
      have p0 : ∀ w', Below wr.heap.size wr w' → w'.cell? _ = some _ := fun w' h => cell_kept_below z0 h
      have p1 : ∀ w', Below wr.heap.size wr w' → w'.cell? _ = some _ := fun w' h => cell_kept_below z1 h
      have p2 : ∀ w', Below wr.heap.size wr w' → w'.cell? _ = some _ := fun w' h => cell_kept_below z2 h
      have p3 : ∀ w', Below wr.heap.size wr w' → w'.cell? _ = some _ := fun w' h => cell_kept_below z3 h
      have p4 : ∀ w', Below wr.heap.size wr w' → w'.cell? _ = some _ := fun w' h => cell_kept_below z4 h
      have q0 : ∀ w', Below wr.heap.size wr w' → w'.cell? _ = some _ := fun w' h => cell_kept_below c0 h
      have q1 : ∀ w', Below wr.heap.size wr w' → w'.cell? _ = some _ := fun w' h => cell_kept_below c1 h
      clear z0 z1 z2 z3 z4 c0 c1
      go_region_held3 (fun w' => Below wr.heap.size wr w') (first | exact Below.drew (Below.refl _ _) | exact Below.on (by assumption) (by assumption) | exact Below.one (by assumption) _)
        (first
          | (go_at_call 34; refine (HWO.out v _ (Below.on HBW.out (by assumption))).mono ?_; rintro e w' ⟨vw, ws, rfl, hiw, obw, hb⟩))
      have hB : Below wr.heap.size wr w' := by assumption
      have hbit := HBIT.out ws hiw
      obtain ⟨wa, wc, rfl⟩ := gown_form obw
      obtain ⟨gw, rfl, d0, _, _⟩ := ob_at obw hbit
      have hul := (List.getElem?_eq_some_iff.1 hbit).1
      have hui : (u : Int) < (ws.length : Int) := by omega
      have c0 := q0 _ hB
      have c1 := q1 _ hB
      have HSI2 := Hid.mk' (HSI.out.stay HSZ.out hB)
      have hsz2 : w.heap.size + 1 ≤ w'.heap.size := Nat.le_trans HSZ.out hB.size
      have HSZ2 := Hid.mk' hsz2
      have hpl : (es.take k).length ≤ 3000 := by rw [List.length_take]; omega
      have hla := ahdE_len fl (es.take k)
      have hlb := bacE_len fl (es.take k)
      clear p0 p1 p2 p3 p4 q0 q1 hB hb obw hbit hiw HSI HBIT HBW
      cases hd : pD (Dm fl v u)
      · rw [hd] at d0
        have HAP := Hid.mk' (oe_app_at HSI2.out.a hsz2 (by omega) u v 46)
        have HND : Hid (¬ pD (Dm fl v u) = true) := by intro h; rw [h] at hd; cases hd
        clear hd hsz2
        go_wp2_with (at_builtin; refine wpl_app rfl _ _ 46 46 _ _ rfl rfl rfl HAP.out ?_; rintro v5 W5 ⟨on5, gr5, bv5⟩)
        have HS5 := Hid.mk' (HSI2.out.ahead HSZ2.out gr5 on5 bv5 HND.out)
        clear on5 gr5 bv5 HAP HSI2
        go_roundw
        case rel => exact ⟨k + 1, _, _, hlt, rfl, rfl, by go_num, by rw [HTK.out]; exact HS5.out⟩
        case measure => simp [intOf]; omega
      · rw [hd] at d0
        have HAP := Hid.mk' (oe_app_at HSI2.out.b hsz2 (by omega) u v 46)
        have HDD : Hid (pD (Dm fl v u) = true) := hd
        clear hd hsz2
        go_wp2_with (at_builtin; refine wpl_app rfl _ _ 46 46 _ _ rfl rfl rfl HAP.out ?_; rintro v5 W5 ⟨on5, gr5, bv5⟩)
        have HS5 := Hid.mk' (HSI2.out.back HSZ2.out gr5 on5 bv5 HDD.out)
        clear on5 gr5 bv5 HAP HSI2
        go_roundw
        case rel => exact ⟨k + 1, _, _, hlt, rfl, rfl, by go_num, by rw [HTK.out]; exact HS5.out⟩
        case measure => simp [intOf]; omega
    · have hki : ¬ (k : Int) < (es.length : Int) := by omega
      have ht : es.take k = es := List.take_of_length_le (by omega)
      rw [ht] at HSI ⊢
      have HR : Hid (Oe w.heap.size (ahdE fl es) (.slice aa (ahdE fl es).length ac) wr ∧ Oe w.heap.size (bacE fl es) (.slice ab (bacE fl es).length bc) wr ∧ Apart (.slice aa (ahdE fl es).length ac) (.slice ab (bacE fl es).length bc) ∧ Below w.heap.size w wr) :=
        ⟨own_mono HSI.out.a (Nat.le_succ _), own_mono HSI.out.b (Nat.le_succ _), HSI.out.ab, (HW1.out _ HSI.out.bl).2.1⟩
      clear HSI ht
      go_wp2_with fail
      exact bodyPost_ret (v := .tuple #[.slice aa (ahdE fl es).length ac, .slice ab (bacE fl es).length bc]) (by simp [results, Tryd.results26, go_sem]) rfl ⟨_, _, rs, rfl, HIR.out, by rw [HES.out]; exact HR.out.1, by rw [HES.out]; exact HR.out.2.1, HR.out.2.2⟩
end Go.Proofs.YtgiokognngllcaaDoor
