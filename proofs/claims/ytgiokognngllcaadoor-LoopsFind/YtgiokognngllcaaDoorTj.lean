/- The document's own round and Members. -/
import Derived.Test.YtgiokognngllcaaDoorTg
namespace Go.Proofs.YtgiokognngllcaaDoor
open Go.RowKit Go.Sort

/-- A list that lies somewhere, put behind a row of the call's own. -/
theorem on_cat {N : Nat} {l xs : List Nat} {v : Value} {W : World} {a : Option Addr} {c : Nat} (h : On N l v W) (hx : Lst W a (xs.map nV)) (hN : N ≤ W.heap.size) (hl : l.length + xs.length ≤ 10000000000) (ty : TypeId) :
    ∃ v' W', (Builtin.append_ #[38, 38] ty #[v, .slice a xs.length c]).run Tryd.prog W = .ok v' W' ∧ On N (l ++ xs) v' W' ∧ W.grownBy W' v.ownBlock := by
  obtain ⟨i0, hi, hz0, hz1, hz2⟩ := info_parts Tryd.infoN
  obtain ⟨v', W', hr, h2, h3⟩ := run_append_ownS (P := Tryd.prog) W N 38 ty 3 i0 (.int .i64 0) 1 8 Tryd.underlying38 hi hz0 hz1 hz2 rfl (by decide) v _ _ h a xs.length c (xs.map nV) (by simp) (fun e => by
    cases xs with
    | nil => rfl
    | cons x r =>
      obtain ⟨b, o, e', _⟩ := hx 0 (nV x) rfl
      rw [e] at e'; cases e') (fun ad e j u hu => by
    obtain ⟨b, o, e', hc⟩ := hx j u hu
    rw [e] at e'
    cases e'
    rw [Addr.add_lit]
    exact hc) (by intro u hu; obtain ⟨x, _, rfl⟩ := List.mem_map.1 hu; rfl) (by unfold maxLen; omega) (by omega) hN
  refine ⟨v', W', hr, ?_, h3⟩
  unfold On
  rw [List.length_append, List.map_append]
  exact h2
structure Ro (l : List Is) (n at' : Nat) (bs : List Bool) (td : List Nat) (i : Nat) : Prop where
  len : bs.length = n
  q : ∀ v ∈ td, Awy l at' v
  c : ∀ v, bs[v]? = some true → ∀ y, Ah l v y → y ∈ td
  s : ∀ y, Ah l at' y → y ∈ td
  p : ∀ v ∈ td.take i, v ≠ at' ∧ bs[v]? = some true
  n : td.length + 3000 * unm bs ≤ 3000 * n + 3000
  il : i ≤ td.length
theorem take_app_le {α : Type} {a b : List α} {i : Nat} (h : i ≤ a.length) : (a ++ b).take i = a.take i := List.take_append_of_le_length h
theorem Ro.skip {l : List Is} {n at' i v : Nat} {bs : List Bool} {td : List Nat} (h : Ro l n at' bs td i) (hv : td[i]? = some v) (hn : v ≠ at') (hb : bs[v]? = some true) : Ro l n at' bs td (i + 1) :=
  ⟨h.len, h.q, h.c, h.s, fun x hx => by
    rw [take_snoc hv, List.mem_append, List.mem_singleton] at hx
    rcases hx with hx | rfl
    · exact h.p x hx
    · exact ⟨hn, hb⟩, h.n, (List.getElem?_eq_some_iff.1 hv).1⟩
theorem Ro.add {l : List Is} {n at' i v : Nat} {bs : List Bool} {td ys : List Nat} (h : Ro l n at' bs td i) (hv : td[i]? = some v) (hn : v ≠ at') (hb : bs[v]? = some false) (hy : ∀ y, y ∈ ys ↔ Ah l v y) (hl : ys.length ≤ 3000) : Ro l n at' (bs.set v true) (td ++ ys) (i + 1) := by
  have hil := (List.getElem?_eq_some_iff.1 hv).1
  have hvl := (List.getElem?_eq_some_iff.1 hb).1
  have hu := unm_set hb
  have hc := h.n
  refine ⟨by rw [List.length_set]; exact h.len, fun x hx => ?_, fun x hx y hxy => ?_, fun y hy => List.mem_append_left _ (h.s y hy), fun x hx => ?_, by rw [List.length_append]; omega, by rw [List.length_append]; omega⟩
  · rcases List.mem_append.1 hx with hx | hx
    · exact h.q x hx
    · exact .step (h.q v (List.mem_of_getElem? hv)) ((hy x).1 hx)
  · rcases set_true.1 hx with e | ⟨rfl, _⟩
    · exact List.mem_append_left _ (h.c x e y hxy)
    · exact List.mem_append_right _ ((hy y).2 hxy)
  · rw [take_app_le (by omega), take_snoc hv, List.mem_append, List.mem_singleton] at hx
    rcases hx with hx | rfl
    · exact ⟨(h.p x hx).1, set_true.2 (.inl (h.p x hx).2)⟩
    · exact ⟨hn, set_true.2 (.inr ⟨rfl, hvl⟩)⟩
theorem Ro.no {l : List Is} {n at' i : Nat} {bs : List Bool} {td : List Nat} (h : Ro l n at' bs td i) (hi : ¬ i < td.length) : ¬ Awy l at' at' := by
  have hp : ∀ v ∈ td, v ≠ at' ∧ bs[v]? = some true := fun v hv => h.p v (by rw [List.take_of_length_le (by omega)]; exact hv)
  have key : ∀ y, Awy l at' y → y ∈ td := by
    intro y hy
    induction hy with
    | one ha => exact h.s _ ha
    | step _ ha ih => exact h.c _ (hp _ ih).2 _ ha
  exact fun ha => (hp at' (key at' ha)).1 rfl
/-- Where it lies. -/
structure RJ (w : World) (R : Nat) (bs : List Bool) (td : List Nat) (vt : Value) (W : World) : Prop where
  r : Ob w.heap.size bs (.slice (some ⟨R, 0, none⟩) bs.length bs.length) W
  q : On w.heap.size td vt W
  b : Below w.heap.size w W
theorem RJ.put {w : World} {R : Nat} {bs : List Bool} {td : List Nat} {vt : Value} {W : World} (h : RJ w R bs td vt W) (i : Nat) (b : Bool) : RJ w R (bs.set i b) td vt (W.setCell ⟨R, i, none⟩ (.bool b)) := by
  obtain ⟨cur, hc, hR⟩ := own_blk h.r
  exact ⟨by have := ob_put h.r i b; rwa [List.length_set], own_set h.q hc (by decide) i _, h.b.setCell (by simp only; omega) _⟩
theorem RJ.grow {w : World} {R : Nat} {bs : List Bool} {td td' : List Nat} {vt vt' : Value} {W W' : World} (h : RJ w R bs td vt W) (hg : W.grownBy W' vt.ownBlock) (ho : On w.heap.size td' vt' W') : RJ w R bs td' vt' W' :=
  ⟨h.r.kept hg (own_ne h.r h.q (by decide)), ho, h.b.grown hg h.b.size (fun k e => own_base h.q k e)⟩
set_option maxRecDepth 100000 in
set_option maxHeartbeats 4000000 in
theorem rround_any (l : List Is) (n at' : Nat) (fr : Nat → List Nat) (wa : Option Addr) (wc : Nat) (w : World) (hn : n ≤ 1024) (ha : at' < n) (hA : ∀ u, u < n → ∀ v, v ∈ fr u ↔ Ah l u v) (hlt : ∀ u v, Ah l u v → v < n) (hR : LsR w wa n fr) (hln : ∀ j, (fr j).length ≤ 3000) :
    Calls Tryd.prog 27 #[.slice wa n wc, .int .i64 (at' : Int)] w fun e w' => e = .returned (.bool (pD (Awy l at' at'))) ∧ Below w.heap.size w w' := by
  have HR := Hid.mk' hR
  have HA := Hid.mk' hA
  have HLT := Hid.mk' hlt
  have HLN := Hid.mk' hln
  have HAT := Hid.mk' ha
  have hmk : ∀ W, _ := fun W => run_mkB W n (by omega)
  have hai : (at' : Int) < (n : Int) := by omega
  have HB1 := Hid.mk' (Below.one (Below.refl w.heap.size w) (.cells (mkB n) 4))
  have HB2 := Hid.mk' (Below.one HB1.out (.cells #[] 3))
  have HO1 := Hid.mk' (own_mkB w n (by omega))
  have HQ1 : Hid (On w.heap.size [] (.slice (some ⟨w.heap.size + 1, 0, none⟩) 0 0) ((w.alloc (.cells (mkB n) 4)).alloc (.cells #[] 3))) := by
    have := own_mono (row_new (w.alloc (.cells (mkB n) 4)) 3 1) HB1.out.size
    rw [World.size_alloc] at this
    exact this
  obtain ⟨b, o, aj, cj, rfl, e0, hl0⟩ := hR at' ha
  have e1 := cell_kept_below e0 HB2.out
  have HAP := Hid.mk' (on_cat (c := cj) HQ1.out (hl0.stay HB2.out) HB2.out.size (by have := hln at'; simp; omega) 38)
  have HJ0 : Hid (∀ v' W', On w.heap.size ([] ++ fr at') v' W' → ((w.alloc (.cells (mkB n) 4)).alloc (.cells #[] 3)).grownBy W' (Value.slice (some ⟨w.heap.size + 1, 0, none⟩) 0 0).ownBlock → RJ w w.heap.size (List.replicate n false) (fr at') v' W') := fun v' W' ho hg => by
    have h1 : Ob w.heap.size (List.replicate n false) (.slice (some ⟨w.heap.size, 0, none⟩) n n) ((w.alloc (.cells (mkB n) 4)).alloc (.cells #[] 3)) := own_stay HO1.out (Below.one (Below.refl _ _) _)
    have h2 : RJ w w.heap.size (List.replicate n false) [] (.slice (some ⟨w.heap.size + 1, 0, none⟩) 0 0) ((w.alloc (.cells (mkB n) 4)).alloc (.cells #[] 3)) := ⟨by rw [List.length_replicate]; exact h1, HQ1.out, HB2.out⟩
    exact h2.grow hg ho
  have HS0 : Hid (Ro l n at' (List.replicate n false) (fr at') 0) := by
    refine ⟨by simp, fun v hv => .one ((hA at' ha v).1 hv), fun v h => absurd h rep_no, fun y hy => (hA at' ha y).2 hy, by simp, ?_, Nat.zero_le _⟩
    rw [unm_rep]
    have := hln at'
    omega
  have HN := Hid.mk' hn
  clear hR hA hlt hln ha e0 hl0 hn
  generalize fr at' = ys at *
  go_enter Tryd.func27, Tryd.ntmps27
  go_wp2_with (at_builtin; refine wpl_app rfl _ _ 38 38 _ _ rfl rfl rfl HAP.out ?_; rintro v3 W3 ⟨on3, gr3⟩)
  have HJ := Hid.mk' (HJ0.out _ _ on3 gr3)
  clear on3 gr3 HJ0 HAP HQ1 HO1 HB1 HB2 e1 hmk
  go_loopw [6, 7] (fun t6 t7 wr => ∃ (bs : List Bool) (td : List Nat) (vt : Value) (i : Nat), t6 = vt ∧ t7 = .int .i64 (i : Int) ∧ Ro l n at' bs td i ∧ RJ w w.heap.size bs td vt wr) (fun _ t7 _ => (3000 * n + 3000) - (intOf t7).toNat)
  case atStart => exact ⟨_, _, _, 0, rfl, rfl, HS0.out, HJ.out⟩
  case round =>
    clear HS0 HJ
    obtain ⟨bs, td, vt, i, rfl, rfl, hro, hrj⟩ := hrel
    have HRO := Hid.mk' hro
    have HRJ := Hid.mk' hrj
    obtain ⟨av, cv, rfl⟩ := gown_form hrj.q
    have hbl := hro.len
    have htn := hro.n
    have htb : td.length ≤ 4000000 := by have := HN.out; omega
    clear hro hrj
    by_cases hit : i < td.length
    · obtain ⟨u, hu⟩ : ∃ u, td[i]? = some u := ⟨_, List.getElem?_eq_getElem hit⟩
      obtain ⟨gt, rfl, d0, k1, k2⟩ := on_at HRJ.out.q hu
      have hiti : (i : Int) < (td.length : Int) := by omega
      have HU := Hid.mk' hu
      have HIM : Hid (i < 3000 * n + 3000) := (by omega : _ < _)
      have HW : Hid (Awy l at' u) := HRO.out.q u (List.mem_of_getElem? hu)
      clear k1 k2 hu
      by_cases hua : u = at'
      · have HG : Hid (pD (Awy l at' at') = true) := pD_t.2 (by have := HW.out; rwa [hua] at this)
        have hq : ((u : Int) == (at' : Int)) = true := by rw [hua]; simp
        clear hua
        go_wp2_with fail
        go_ret
        exact ⟨ret_bool HG.out.symm, HRJ.out.b⟩
      · have hq : ((u : Int) == (at' : Int)) = false := beq_no (by omega)
        have HUA := Hid.mk' hua
        have hun : u < n := by
          cases HW.out with
          | one h => exact HLT.out _ _ h
          | step _ h => exact HLT.out _ _ h
        obtain ⟨bk, hbk⟩ : ∃ b, bs[u]? = some b := ⟨_, List.getElem?_eq_getElem (by omega)⟩
        obtain ⟨g', e', d1, k1, k2⟩ := ob_at HRJ.out.r hbk
        cases e'
        have f1 := World.ownsRow.frozenAt HRJ.out.r u
        have huni : (u : Int) < (n : Int) := by omega
        have HBK := Hid.mk' hbk
        clear k1 k2 hbk hua
        cases bk
        · obtain ⟨b2, o2, ak, ck, e2, e3, hlk⟩ := HR.out u hun
          cases e2
          have HRJ1 := Hid.mk' (HRJ.out.put u true)
          have HADD := Hid.mk' (HRO.out.add HU.out HUA.out HBK.out (HA.out u hun) (HLN.out u))
          have HLK := Hid.mk' (hlk.stay HRJ1.out.b)
          have hyl := HLN.out u
          have e4 := cell_kept_below e3 HRJ1.out.b
          have hkn := HN.out
          have HAP := Hid.mk' (on_cat (c := ck) HRJ1.out.q HLK.out HRJ1.out.b.size (by omega) 38)
          have d2 := (on_at HRJ1.out.q (j := i) (k := u) HU.out)
          obtain ⟨g5, e5, d2, k1, k2⟩ := d2
          cases e5
          clear k1 k2 hlk e3 hun
          go_upto_region 10 with fail
          generalize wr.setCell ⟨w.heap.size, u, none⟩ (.bool true) = W1 at *
          clear d0 d1 f1
          generalize fr u = zs at *
          go_wp2_with (at_builtin; refine wpl_app rfl _ _ 38 38 _ _ rfl rfl rfl HAP.out ?_; rintro v3 W3 ⟨on3, gr3⟩)
          have HJ3 := Hid.mk' (HRJ1.out.grow gr3 on3)
          obtain ⟨a3, c3, rfl⟩ := gown_form on3
          clear gr3 on3
          go_roundw
          case rel => exact ⟨_, _, _, i + 1, rfl, by go_num, HADD.out, HJ3.out⟩
          case measure => have := HIM.out; simp [intOf]; omega
        · have HSK := Hid.mk' (HRO.out.skip HU.out HUA.out HBK.out)
          clear hun
          go_wp2_with fail
          go_roundw
          case rel => exact ⟨_, _, _, i + 1, rfl, by go_num, HSK.out, HRJ.out⟩
          case measure => have := HIM.out; simp [intOf]; omega
    · have HG : Hid (pD (Awy l at' at') = false) := pD_f.2 (HRO.out.no hit)
      go_wp2_with fail
      go_ret
      exact ⟨ret_bool HG.out.symm, HRJ.out.b⟩
end Go.Proofs.YtgiokognngllcaaDoor
