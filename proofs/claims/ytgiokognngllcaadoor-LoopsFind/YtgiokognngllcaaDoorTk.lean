/- The document's own Members. -/
import Derived.Test.YtgiokognngllcaaDoorTj
namespace Go.Proofs.YtgiokognngllcaaDoor
open Go.RowKit Go.Sort

structure Rm (l : List Is) (n h : Nat) (bs : List Bool) (td : List Nat) (i : Nat) : Prop where
  len : bs.length = n
  z : bs[h]? = some true
  m : ∀ v, bs[v]? = some true → Mbr l h v
  q : ∀ v ∈ td, Mbr l h v
  c : ∀ v, bs[v]? = some true → v ≠ h → ∀ u, Rch l u → v ∈ nxt l u → u ∈ td
  s : ∀ u, Ba l u h → u ∈ td
  p : ∀ v ∈ td.take i, bs[v]? = some true
  n : td.length + 3000 * unm bs ≤ 3000 * n + 3000
  il : i ≤ td.length
theorem Rm.skip {l : List Is} {n h i v : Nat} {bs : List Bool} {td : List Nat} (r : Rm l n h bs td i) (hv : td[i]? = some v) (hb : bs[v]? = some true) : Rm l n h bs td (i + 1) :=
  ⟨r.len, r.z, r.m, r.q, r.c, r.s, fun x hx => by
    rw [take_snoc hv, List.mem_append, List.mem_singleton] at hx
    rcases hx with hx | rfl
    · exact r.p x hx
    · exact hb, r.n, (List.getElem?_eq_some_iff.1 hv).1⟩
theorem Rm.add {l : List Is} {n h i v : Nat} {bs : List Bool} {td ys : List Nat} (r : Rm l n h bs td i) (hv : td[i]? = some v) (hb : bs[v]? = some false) (hy : ∀ u, u ∈ ys ↔ Rch l u ∧ v ∈ nxt l u) (hl : ys.length ≤ 3000) : Rm l n h (bs.set v true) (td ++ ys) (i + 1) := by
  have hil := (List.getElem?_eq_some_iff.1 hv).1
  have hvl := (List.getElem?_eq_some_iff.1 hb).1
  have hu := unm_set hb
  have hc := r.n
  have hvh : v ≠ h := fun e => by rw [e, r.z] at hb; cases hb
  have hvm := r.q v (List.mem_of_getElem? hv)
  refine ⟨by rw [List.length_set]; exact r.len, set_true.2 (.inl r.z), fun x hx => ?_, fun x hx => ?_, fun x hx hxh u hru hxu => ?_, fun u hu => List.mem_append_left _ (r.s u hu), fun x hx => ?_, by rw [List.length_append]; omega, by rw [List.length_append]; omega⟩
  · rcases set_true.1 hx with e | ⟨rfl, _⟩
    · exact r.m x e
    · exact hvm
  · rcases List.mem_append.1 hx with hx | hx
    · exact r.q x hx
    · exact .step hvm hvh ((hy x).1 hx).1 ((hy x).1 hx).2
  · rcases set_true.1 hx with e | ⟨rfl, _⟩
    · exact List.mem_append_left _ (r.c x e hxh u hru hxu)
    · exact List.mem_append_right _ ((hy u).2 ⟨hru, hxu⟩)
  · rw [take_app_le (by omega), take_snoc hv, List.mem_append, List.mem_singleton] at hx
    rcases hx with hx | rfl
    · exact set_true.2 (.inl (r.p x hx))
    · exact set_true.2 (.inr ⟨rfl, hvl⟩)
theorem Rm.end {l : List Is} {n h i : Nat} {bs : List Bool} {td : List Nat} (r : Rm l n h bs td i) (hi : ¬ i < td.length) (v : Nat) : bs[v]? = some true ↔ Mbr l h v := by
  have hp : ∀ v ∈ td, bs[v]? = some true := fun v hv => r.p v (by rw [List.take_of_length_le (by omega)]; exact hv)
  refine ⟨r.m v, fun hv => ?_⟩
  induction hv with
  | head => exact r.z
  | back hu => exact hp _ (r.s _ hu)
  | step _ hn hu hv ih => exact hp _ (r.c _ ih hn _ hu hv)
def RmP (l : List Is) (n h : Nat) (w : World) (e : Ending) (w' : World) : Prop := ∃ v bs, e = .returned v ∧ bs.length = n ∧ (∀ x, bs[x]? = some true ↔ Mbr l h x) ∧ Ob w.heap.size bs v w' ∧ Below w.heap.size w w'
set_option maxRecDepth 100000 in
set_option maxHeartbeats 4000000 in
theorem rmembers_any (l : List Is) (n h : Nat) (fr : Nat → List Nat) (bl : List Nat) (fa ba : Option Addr) (fc bc : Nat) (w : World) (hn : n ≤ 1024) (hh : h < n) (hml : ∀ v, Mbr l h v → v < n)
    (hF : ∀ x, x < n → ∀ u, u ∈ fr x ↔ Rch l u ∧ x ∈ nxt l u) (hK : ∀ u, u ∈ bl ↔ Ba l u h) (hR : LsR w fa n fr) (hB : Lst w ba (bl.map nV)) (hln : ∀ j, (fr j).length ≤ 3000) (hbl : bl.length ≤ 3000) :
    Calls Tryd.prog 28 #[.int .i64 (n : Int), .slice fa n fc, .int .i64 (h : Int), .slice ba bl.length bc] w (RmP l n h w) := by
  have HR := Hid.mk' hR
  have HF := Hid.mk' hF
  have HML := Hid.mk' hml
  have HLN := Hid.mk' hln
  have hmk : ∀ W, _ := fun W => run_mkB W n (by omega)
  have hhi : (h : Int) < (n : Int) := by omega
  have HB1 := Hid.mk' (Below.one (Below.refl w.heap.size w) (.cells (mkB n) 4))
  have HO1 := Hid.mk' (own_mkB w n (by omega))
  have HO2 : Hid (Ob w.heap.size ((List.replicate n false).set h true) (.slice (some ⟨w.heap.size, 0, none⟩) n n) ((w.alloc (.cells (mkB n) 4)).setCell ⟨w.heap.size, h, none⟩ (.bool true))) := ob_put HO1.out h true
  obtain ⟨g', e', d0, k1, k2⟩ := ob_at HO1.out (j := h) (k := false) (by rw [List.getElem?_replicate, if_pos hh])
  cases e'
  have f0 := World.ownsRow.frozenAt (by have := HO1.out; unfold Ob at this; rw [List.length_replicate] at this; exact this) h
  have HBS : Hid (Below w.heap.size w ((w.alloc (.cells (mkB n) 4)).setCell ⟨w.heap.size, h, none⟩ (.bool true))) := HB1.out.setCell (Nat.le_refl _) _
  have hu0 := unm_set (rs := List.replicate n false) (k := h) (by rw [List.getElem?_replicate, if_pos hh])
  rw [unm_rep] at hu0
  have HS0 : Hid (Rm l n h ((List.replicate n false).set h true) bl 0) :=
    ⟨by simp, set_true.2 (.inr ⟨rfl, by rw [List.length_replicate]; exact hh⟩), fun v hv => by
      rcases set_true.1 hv with e | ⟨rfl, _⟩
      · exact absurd e rep_no
      · exact .head, fun v hv => .back ((hK v).1 hv), fun v hv hvh => by
      rcases set_true.1 hv with e | ⟨e, _⟩
      · exact absurd e rep_no
      · exact absurd e hvh, fun u hu => (hK u).2 hu, by simp, by omega, Nat.zero_le _⟩
  have HBL := Hid.mk' hB
  have HN := Hid.mk' hn
  have HBN := Hid.mk' hbl
  clear hR hF hml hln hK k1 k2 hu0 hB hn hbl hh
  go_enter Tryd.func28, Tryd.ntmps28
  go_upto_region 2 with fail
  clear hmk
  generalize w.alloc (.cells (mkB n) 4) = Wa at *
  go_upto_region 3 with fail
  have HSZ : Hid (w.heap.size ≤ (Wa.setCell ⟨w.heap.size, h, none⟩ (.bool true)).heap.size) := HBS.out.size
  generalize Wa.setCell ⟨w.heap.size, h, none⟩ (.bool true) = W1 at *
  clear d0 f0 HO1 HB1
  have HQ1 := Hid.mk' (own_mono (row_new W1 3 1) HSZ.out)
  have HB2 := Hid.mk' (Below.one HBS.out (.cells #[] 3))
  have hbn := HBN.out
  have HAP := Hid.mk' (on_cat (l := []) (c := bc) (HQ1.out : On _ [] _ _) (HBL.out.stay HB2.out) HB2.out.size (by simp; omega) 38)
  have HJ0 : Hid (∀ v' W', On w.heap.size ([] ++ bl) v' W' → (W1.alloc (.cells #[] 3)).grownBy W' (Value.slice (some ⟨W1.heap.size, 0, none⟩) 0 0).ownBlock → RJ w w.heap.size ((List.replicate n false).set h true) bl v' W') := fun v' W' ho hg => by
    have h2 : RJ w w.heap.size ((List.replicate n false).set h true) [] (.slice (some ⟨W1.heap.size, 0, none⟩) 0 0) (W1.alloc (.cells #[] 3)) := ⟨by rw [List.length_set, List.length_replicate]; exact own_stay HO2.out (Below.one (Below.refl _ _) _), HQ1.out, HB2.out⟩
    exact h2.grow hg ho
  go_wp2_with (at_builtin; refine wpl_app rfl _ _ 38 38 _ _ rfl rfl rfl HAP.out ?_; rintro v3 W3 ⟨on3, gr3⟩)
  have HJ := Hid.mk' (HJ0.out _ _ on3 gr3)
  clear on3 gr3 HJ0 HAP HQ1 HBS HB2 HO2 HBL
  go_loopw [10, 11] (fun t10 t11 wr => ∃ (bs : List Bool) (td : List Nat) (vt : Value) (i : Nat), t10 = vt ∧ t11 = .int .i64 (i : Int) ∧ Rm l n h bs td i ∧ RJ w w.heap.size bs td vt wr) (fun _ t11 _ => (3000 * n + 3000) - (intOf t11).toNat)
  case atStart => exact ⟨_, _, _, 0, rfl, rfl, HS0.out, HJ.out⟩
  case round =>
    clear HS0 HJ
    obtain ⟨bs, td, vt, i, rfl, rfl, hro, hrj⟩ := hrel
    have HRO := Hid.mk' hro
    have HRJ := Hid.mk' hrj
    obtain ⟨av, cv, rfl⟩ := gown_form hrj.q
    have hbl := hro.len
    have htn := hro.n
    have htb : td.length ≤ 4000000 := by have := HN.out; omega
    clear hro hrj
    by_cases hit : i < td.length
    · obtain ⟨u, hu⟩ : ∃ u, td[i]? = some u := ⟨_, List.getElem?_eq_getElem hit⟩
      obtain ⟨gt, rfl, d0, k1, k2⟩ := on_at HRJ.out.q hu
      have hiti : (i : Int) < (td.length : Int) := by omega
      have HU := Hid.mk' hu
      have HIM : Hid (i < 3000 * n + 3000) := (by omega : _ < _)
      have hun : u < n := HML.out u (HRO.out.q u (List.mem_of_getElem? hu))
      clear k1 k2 hu
      obtain ⟨bk, hbk⟩ : ∃ b, bs[u]? = some b := ⟨_, List.getElem?_eq_getElem (by omega)⟩
      obtain ⟨g', e', d1, k1, k2⟩ := ob_at HRJ.out.r hbk
      cases e'
      have f1 := World.ownsRow.frozenAt HRJ.out.r u
      have huni : (u : Int) < (n : Int) := by omega
      have HBK := Hid.mk' hbk
      clear k1 k2 hbk
      cases bk
      · obtain ⟨b2, o2, ak, ck, rfl, e3, hlk⟩ := HR.out u hun
        have HRJ1 := Hid.mk' (HRJ.out.put u true)
        have HADD := Hid.mk' (HRO.out.add HU.out HBK.out (HF.out u hun) (HLN.out u))
        have HLK := Hid.mk' (hlk.stay HRJ1.out.b)
        have hyl := HLN.out u
        have e4 := cell_kept_below e3 HRJ1.out.b
        have hkn := HN.out
        have HAP := Hid.mk' (on_cat (c := ck) HRJ1.out.q HLK.out HRJ1.out.b.size (by omega) 38)
        have d2 := (on_at HRJ1.out.q (j := i) (k := u) HU.out)
        obtain ⟨g5, e5, d2, k1, k2⟩ := d2
        cases e5
        clear k1 k2 hlk e3 hun
        go_upto_region 9 with fail
        generalize wr.setCell ⟨w.heap.size, u, none⟩ (.bool true) = W2 at *
        clear d0 d1 f1
        generalize fr u = zs at *
        go_wp2_with (at_builtin; refine wpl_app rfl _ _ 38 38 _ _ rfl rfl rfl HAP.out ?_; rintro v3 W3 ⟨on3, gr3⟩)
        have HJ3 := Hid.mk' (HRJ1.out.grow gr3 on3)
        obtain ⟨a3, c3, rfl⟩ := gown_form on3
        clear gr3 on3
        go_roundw
        case rel => exact ⟨_, _, _, i + 1, rfl, by go_num, HADD.out, HJ3.out⟩
        case measure => have := HIM.out; simp [intOf]; omega
      · have HSK := Hid.mk' (HRO.out.skip HU.out HBK.out)
        clear hun
        go_wp2_with fail
        go_roundw
        case rel => exact ⟨_, _, _, i + 1, rfl, by go_num, HSK.out, HRJ.out⟩
        case measure => have := HIM.out; simp [intOf]; omega
    · have HE := Hid.mk' (HRO.out.end hit)
      go_wp2_with fail
      go_ret
      refine ⟨_, bs, rfl, HRO.out.len, HE.out, ?_, HRJ.out.b⟩
      have := HRJ.out.r
      rw [HRO.out.len] at this
      exact this
end Go.Proofs.YtgiokognngllcaaDoor
