/- Does a way ahead lead from an instruction to itself: graph.returns. -/
import Derived.Test.YtgiokognngllcaaDoorTc
import Derived.Test.YtgiokognngllcaaDoorGgaf
namespace Go.Proofs.YtgiokognngllcaaDoor
open Go.RowKit Go.Sort

/-- Rows of numbers, read. -/
def LsR (W : World) (a : Option Addr) (n : Nat) (fr : Nat → List Nat) : Prop := ∀ j, j < n → ∃ b o aj cj, a = some ⟨b, o, none⟩ ∧ W.cell? ⟨b, o + j, none⟩ = some (.slice aj (fr j).length cj) ∧ Lst W aj ((fr j).map nV)
theorem LsR.stay {W W' : World} {a : Option Addr} {n : Nat} {fr : Nat → List Nat} (h : LsR W a n fr) (hb : Below W.heap.size W W') : LsR W' a n fr := fun j hj => by
  obtain ⟨b, o, aj, cj, e, hc, hl⟩ := h j hj
  exact ⟨b, o, aj, cj, e, cell_kept_below hc hb, hl.stay hb⟩
/-- What the search holds. -/
structure Rt (l : List Is) (n f : Nat) (bs : List Bool) (wt : List Nat) : Prop where
  len : bs.length = n
  m : ∀ v, bs[v]? = some true → f < v ∧ Gwy l f v
  q : ∀ v ∈ wt, v < n ∧ (v = f ∨ bs[v]? = some true)
  c : ∀ x, (x = f ∨ bs[x]? = some true) → x ∉ wt → ∀ y, Ah l x y → y ≠ f ∧ (f < y → bs[y]? = some true)
structure Ri (l : List Is) (n f : Nat) (at' : Nat) (ys : List Nat) (k : Nat) (bs : List Bool) (wt : List Nat) : Prop where
  len : bs.length = n
  m : ∀ v, bs[v]? = some true → f < v ∧ Gwy l f v
  q : ∀ v ∈ wt, v < n ∧ (v = f ∨ bs[v]? = some true)
  c : ∀ x, (x = f ∨ bs[x]? = some true) → x ∉ wt → x ≠ at' → ∀ y, Ah l x y → y ≠ f ∧ (f < y → bs[y]? = some true)
  a : at' < n ∧ (at' = f ∨ bs[at']? = some true)
  p : ∀ y ∈ ys.take k, y ≠ f ∧ (f < y → bs[y]? = some true)
theorem Rt.start {l : List Is} {n f : Nat} (hf : f < n) : Rt l n f (List.replicate n false) [f] :=
  ⟨by simp, fun v h => absurd h rep_no, fun v h => by rw [List.mem_singleton] at h; subst h; exact ⟨hf, .inl rfl⟩, fun x h hx => by
    rcases h with rfl | h
    · exact absurd (List.mem_singleton.2 rfl) hx
    · exact absurd h rep_no⟩
theorem Rt.pop {l : List Is} {n f k : Nat} {bs : List Bool} {wt : List Nat} (h : Rt l n f bs (wt ++ [k])) (ys : List Nat) : Ri l n f k ys 0 bs wt :=
  ⟨h.len, h.m, fun v hv => h.q v (List.mem_append_left _ hv), fun x hx hn hk => h.c x hx fun hm => by
    rcases List.mem_append.1 hm with hm | hm
    · exact hn hm
    · exact hk (List.mem_singleton.1 hm), h.q k (List.mem_append_right _ (by simp)), by simp⟩
theorem take_snoc {α : Type} {ys : List α} {k : Nat} {y : α} (h : ys[k]? = some y) : ys.take (k + 1) = ys.take k ++ [y] := by
  obtain ⟨h1, h2⟩ := List.getElem?_eq_some_iff.1 h
  rw [List.take_succ_eq_append_getElem h1, h2]
theorem Ri.skip {l : List Is} {n f at' k y : Nat} {ys : List Nat} {bs : List Bool} {wt : List Nat} (h : Ri l n f at' ys k bs wt) (hy : ys[k]? = some y) (hn : y ≠ f) (hs : f < y → bs[y]? = some true) : Ri l n f at' ys (k + 1) bs wt :=
  ⟨h.len, h.m, h.q, h.c, h.a, fun z hz => by
    rw [take_snoc hy, List.mem_append, List.mem_singleton] at hz
    rcases hz with hz | rfl
    · exact h.p z hz
    · exact ⟨hn, hs⟩⟩
theorem Ri.way {l : List Is} {n f at' k : Nat} {ys : List Nat} {bs : List Bool} {wt : List Nat} (h : Ri l n f at' ys k bs wt) {y : Nat} (hy : Ah l at' y) : Gwy l f y := by
  rcases h.a.2 with e | e
  · rw [e] at hy; exact .one hy
  · exact .step (h.m _ e).2 (h.m _ e).1 hy
theorem Ri.mark {l : List Is} {n f at' k y : Nat} {ys : List Nat} {bs : List Bool} {wt : List Nat} (h : Ri l n f at' ys k bs wt) (hy : ys[k]? = some y) (ha : Ah l at' y) (hn : f < y) (hl : y < n) : Ri l n f at' ys (k + 1) (bs.set y true) (wt ++ [y]) := by
  have hs : ∀ v, bs[v]? = some true → (bs.set y true)[v]? = some true := fun v e => set_true.2 (.inl e)
  have hy2 : (bs.set y true)[y]? = some true := set_true.2 (.inr ⟨rfl, by rw [h.len]; exact hl⟩)
  have hk : ∀ z, (z ≠ f ∧ (f < z → bs[z]? = some true)) → z ≠ f ∧ (f < z → (bs.set y true)[z]? = some true) := fun z hz => ⟨hz.1, fun e => hs z (hz.2 e)⟩
  refine ⟨by rw [List.length_set]; exact h.len, fun v hv => ?_, fun v hv => ?_, fun x hx hw hxa z hz => ?_, ⟨h.a.1, h.a.2.imp id (hs _)⟩, fun z hz => ?_⟩
  · rcases set_true.1 hv with e | ⟨rfl, _⟩
    · exact h.m v e
    · exact ⟨hn, h.way ha⟩
  · rcases List.mem_append.1 hv with hv | hv
    · exact ⟨(h.q v hv).1, (h.q v hv).2.imp id (hs v)⟩
    · rw [List.mem_singleton] at hv; subst hv; exact ⟨hl, .inr hy2⟩
  · have hw1 : x ∉ wt := fun e => hw (List.mem_append_left _ e)
    have hxy : x ≠ y := fun e => hw (List.mem_append_right _ (by rw [e]; simp))
    refine hk z (h.c x ?_ hw1 hxa z hz)
    rcases hx with e | e
    · exact .inl e
    · rcases set_true.1 e with e | ⟨e, _⟩
      · exact .inr e
      · exact absurd e hxy
  · rw [take_snoc hy, List.mem_append, List.mem_singleton] at hz
    rcases hz with hz | rfl
    · exact hk z (h.p z hz)
    · exact ⟨by omega, fun _ => hy2⟩
theorem Ri.done {l : List Is} {n f at' k : Nat} {ys : List Nat} {bs : List Bool} {wt : List Nat} (h : Ri l n f at' ys k bs wt) (hk : ys.length ≤ k) (hy : ∀ y, Ah l at' y → y ∈ ys) : Rt l n f bs wt :=
  ⟨h.len, h.m, h.q, fun x hx hw y ha => by
    by_cases e : x = at'
    · subst e
      exact h.p y (by rw [List.take_of_length_le hk]; exact hy y ha)
    · exact h.c x hx hw e y ha⟩
theorem Rt.no {l : List Is} {n f : Nat} {bs : List Bool} (h : Rt l n f bs []) : ¬ Gwy l f f := by
  have key : ∀ y, Gwy l f y → y ≠ f ∧ (f < y → bs[y]? = some true) := by
    intro y hy
    induction hy with
    | one ha => exact h.c f (.inl rfl) (by simp) _ ha
    | step _ hu ha ih => exact h.c _ (.inr (ih.2 hu)) (by simp) _ ha
  exact fun hf => (key f hf).1 rfl
set_option maxRecDepth 100000 in
set_option maxHeartbeats 4000000 in
theorem greturns_any (l : List Is) (n f : Nat) (fr : Nat → List Nat) (fa ba aa va : Option Addr) (fc bc ac vc : Nat) (w : World) (hn : n ≤ 1024) (hf : f < n) (hA : ∀ u, u < n → ∀ v, v ∈ fr u ↔ Ah l u v) (hlt : ∀ u v, Ah l u v → v < n) (hR : LsR w aa n fr) (hln : ∀ j, (fr j).length ≤ 3000) :
    Calls Tryd.prog 38 #[.agg #[.slice fa n fc, .slice ba n bc, .slice aa n ac, .slice va n vc], .int .i64 (f : Int)] w fun e w' => e = .returned (.bool (pD (Gwy l f f))) ∧ Below w.heap.size w w' := by
  have HR := Hid.mk' hR
  have HA := Hid.mk' hA
  have HLT := Hid.mk' hlt
  have HLN := Hid.mk' hln
  have HF := Hid.mk' hf
  have HN := Hid.mk' hn
  have HB := Hid.mk' (Below.one (Below.refl _ w) (.cells #[.slice fa n fc, .slice ba n bc, .slice aa n ac, .slice va n vc] 58))
  have HX := Hid.mk' (heap_alloc_new w (.cells #[.slice fa n fc, .slice ba n bc, .slice aa n ac, .slice va n vc] 58))
  have y2 := cell_of_obj HX.out (j := 2) (v := .slice aa n ac) rfl
  have hmk : ∀ W, _ := fun W => run_mkB W n (by omega)
  clear hR hA hlt hln hf hn
  have HR0 : Hid (RI w (w.alloc (.cells #[.slice fa n fc, .slice ba n bc, .slice aa n ac, .slice va n vc] 58)) (w.heap.size + 1) (List.replicate n false) [f] (.slice (some ⟨w.heap.size + 1 + 1, 0, none⟩) 1 1) (((w.alloc (.cells #[.slice fa n fc, .slice ba n bc, .slice aa n ac, .slice va n vc] 58)).alloc (.cells (mkB n) 4)).alloc (.cells #[.int .i64 (f : Int)] 3))) := by
    generalize hw1 : w.alloc (.cells #[.slice fa n fc, .slice ba n bc, .slice aa n ac, .slice va n vc] 58) = w1
    have hs : w1.heap.size = w.heap.size + 1 := by rw [← hw1]; simp
    have h1 := own_mkB w1 n (by have := HN.out; omega)
    have h2 := own_lit (w1.alloc (.cells (mkB n) 4)) f
    have b1 := Below.one (Below.refl _ w1) (.cells (mkB n) 4)
    have b2 := Below.one (Below.refl _ (w1.alloc (.cells (mkB n) 4))) (.cells #[.int .i64 (f : Int)] 3)
    rw [World.size_alloc] at h2
    rw [hs] at h1 h2 b1
    refine ⟨?_, own_mono h2 (Nat.le_succ _), ?_⟩
    · rw [List.length_replicate]; exact own_stay h1 b2
    · exact b1.trans (b2.mono (by rw [World.size_alloc, hs]; omega))
  have HZ : Hid (Rt l n f (List.replicate n false) [f]) := Rt.start HF.out
  have HU : Hid (2 * unm (List.replicate n false) + ([f] : List Nat).length ≤ 3000) := by
    have := HN.out
    rw [unm_rep]
    show _ ≤ _
    simp only [List.length_cons, List.length_nil]
    omega
  have HW1 : Hid (∀ W : World, Below (w.heap.size + 1) (w.alloc (.cells #[.slice fa n fc, .slice ba n bc, .slice aa n ac, .slice va n vc] 58)) W → W.heap[w.heap.size]? = some (.cells #[.slice fa n fc, .slice ba n bc, .slice aa n ac, .slice va n vc] 58) ∧ Below w.heap.size w W ∧ w.heap.size + 1 ≤ W.heap.size) := by
    intro W hb
    have h1 := (hb.block _ (Nat.lt_succ_self _)).trans HX.out
    exact ⟨h1, HB.out.trans (hb.mono (Nat.le_succ _)), (Array.getElem?_eq_some_iff.1 h1).1⟩
  clear HX HB
  go_enter Tryd.func38, Tryd.ntmps38
  go_wp2_with fail
  generalize w.alloc (.cells #[.slice fa n fc, .slice ba n bc, .slice aa n ac, .slice va n vc] 58) = w1 at *
  generalize (w1.alloc (.cells (mkB n) 4)).alloc (.cells #[.int .i64 (f : Int)] 3) = W0 at *
  clear y2 hmk
  go_loopw [6] (fun t6 wr => ∃ (bs : List Bool) (wt : List Nat) (vw : Value), t6 = vw ∧ Rt l n f bs wt ∧ RI w w1 (w.heap.size + 1) bs wt vw wr ∧ 2 * unm bs + wt.length ≤ 3000) (fun t6 wr => 2 * ctF wr (w.heap.size + 1) + lenV t6)
  case atStart => exact ⟨_, _, _, rfl, HZ.out, HR0.out, HU.out⟩
  case round =>
    obtain ⟨bs, wt, vw, rfl, hrt, hri, hun⟩ := hrel
    have HRT := Hid.mk' hrt
    have HRI := Hid.mk' hri
    have HUN := Hid.mk' hun
    obtain ⟨aw, cw, rfl⟩ := gown_form hri.q
    clear hrt hri hun HZ HR0 HU
    by_cases hwt : wt = []
    · subst hwt
      have HNO : Hid (pD (Gwy l f f) = false) := pD_f.2 HRT.out.no
      go_wp2_with fail
      go_ret
      exact ⟨ret_bool HNO.out.symm, (HW1.out _ HRI.out.b).2.1⟩
    · obtain ⟨wt, k0, rfl⟩ := concat_of hwt
      obtain ⟨gw, rfl, d0, hcw, _⟩ := on_at HRI.out.q (j := wt.length) (k := k0) (by simp)
      have hlw : (wt ++ [k0]).length = wt.length + 1 := by simp
      have hun := HUN.out
      rw [hlw] at hcw hun ⊢
      obtain ⟨M, hM⟩ : ∃ M, M = 2 * unm bs + wt.length := ⟨_, rfl⟩
      have HMM : Hid (2 * unm bs + wt.length ≤ M) := Nat.le_of_eq hM.symm
      have HM0 : Hid (2 * ctF wr (w.heap.size + 1) + lenV (.slice (some ⟨gw, 0, none⟩) (wt.length + 1) cw) = M + 1) := by
        show _ = _
        rw [ct_own HRI.out.r, hM]; rfl
      have hw3 : wt.length ≤ 3000 := by omega
      have HM3 : Hid (M ≤ 3000) := (by omega : M ≤ 3000)
      clear hM
      have hsl : ∀ W, _ := fun W => slice_first W gw (wt.length + 1) cw wt.length (by omega)
      have HRI2 : Hid (RI w w1 (w.heap.size + 1) bs wt (.slice (some ⟨gw, 0, none⟩) wt.length cw) wr) := ⟨HRI.out.r, on_pop HRI.out.q, HRI.out.b⟩
      have HPO := Hid.mk' (HRT.out.pop (fr k0))
      have hk0 := HPO.out.a.1
      obtain ⟨hx, hbw, hsz⟩ := HW1.out _ HRI.out.b
      have z2 := cell_of_obj hx (j := 2) (v := .slice aa n ac) rfl
      obtain ⟨rb, ro, raj, rcj, rfl, e0, hlst⟩ := HR.out k0 hk0
      have e1 := cell_kept_below e0 hbw
      have HLS := Hid.mk' hlst
      have hk0i : (k0 : Int) < (n : Int) := by omega
      have HFK : Hid (∀ y, y ∈ fr k0 ↔ Ah l k0 y) := HA.out k0 hk0
      have HLK : Hid ((fr k0).length ≤ 3000) := HLN.out k0
      generalize fr k0 = ys at *
      clear HRI HRT HUN hun hlw hwt hcw hx hbw hsz hlst e0
      have hyl := HLK.out
      go_wp2_with fail
      obtain ⟨Wo, hWo⟩ : ∃ Wo, Wo = wr := ⟨_, rfl⟩
      subst hWo
      clear e1 z2 d0 hsl
      go_loopw [6, 36] (fun t6 t36 wr => ∃ (bs : List Bool) (wt : List Nat) (vw : Value) (k : Nat), t6 = vw ∧ t36 = .int .i64 (k : Int) ∧ k ≤ ys.length ∧ Ri l n f k0 ys k bs wt ∧ RI w w1 (w.heap.size + 1) bs wt vw wr ∧ 2 * unm bs + wt.length ≤ M) (fun _ t36 _ => ys.length - (intOf t36).toNat)
      case atStart => exact ⟨_, _, _, 0, rfl, rfl, Nat.zero_le _, HPO.out, HRI2.out, HMM.out⟩
      case round =>
        clear HRI2 HPO HMM hw3
        obtain ⟨bs, wt, vw, k, rfl, rfl, hk, hrj, hri, hun⟩ := hrel
        obtain ⟨aw, cw, rfl⟩ := gown_form hri.q
        have HRJ := Hid.mk' hrj
        have HRI := Hid.mk' hri
        have HUN := Hid.mk' hun
        have hbl := hrj.len
        clear hrj hri hun
        by_cases hkl : k < ys.length
        · obtain ⟨y, hy⟩ : ∃ y, ys[k]? = some y := ⟨_, List.getElem?_eq_getElem hkl⟩
          have HY := Hid.mk' hy
          have HAY : Hid (Ah l k0 y) := (HFK.out y).1 (List.mem_of_getElem? hy)
          obtain ⟨hx, hbw, hsz⟩ := HW1.out _ HRI.out.b
          obtain ⟨b3, o3, rfl, c0⟩ := lst_n (HLS.out.stay hbw) hkl
          rw [show ys[k] = y from (List.getElem?_eq_some_iff.1 hy).2] at c0
          have hkli : (k : Int) < (ys.length : Int) := by omega
          have hyn : y < n := HLT.out _ _ HAY.out
          clear hx hbw hsz hy
          by_cases hyf : y = f
          · have HG : Hid (pD (Gwy l f f) = true) := pD_t.2 (by have := HRJ.out.way HAY.out; rwa [hyf] at this)
            have hq : ((y : Int) == (f : Int)) = true := by rw [hyf]; simp
            clear hyf
            go_wp2_with fail
            go_ret
            exact ⟨ret_bool HG.out.symm, (HW1.out _ HRI.out.b).2.1⟩
          · have hq : ((y : Int) == (f : Int)) = false := beq_no (by omega)
            have HYF := Hid.mk' hyf
            by_cases hfy : f < y
            · have hfyi : (f : Int) < (y : Int) := by omega
              obtain ⟨bk, hbk⟩ : ∃ b, bs[y]? = some b := ⟨_, List.getElem?_eq_getElem (by omega)⟩
              obtain ⟨g', e', d1, k1, k2⟩ := ob_at HRI.out.r hbk
              cases e'
              have f1 := World.ownsRow.frozenAt HRI.out.r y
              have hyi : (y : Int) < (n : Int) := by omega
              have hyb : (y : Int) < (bs.length : Int) := by omega
              have HBK := Hid.mk' hbk
              have HFY := Hid.mk' hfy
              have HYN := Hid.mk' hyn
              rw [hbl] at k1
              clear k1 k2 hbk hyf hfy hyn
              cases bk
              · have HRI1 := Hid.mk' (HRI.out.put y true)
                have HADD := Hid.mk' (HRJ.out.mark HY.out HAY.out HFY.out HYN.out)
                have HUM := Hid.mk' (unm_set HBK.out)
                have HS1 : Hid (w.heap.size + 1 ≤ (wr.setCell ⟨w.heap.size + 1, y, none⟩ (.bool true)).heap.size) := by
                  have := (HW1.out _ HRI.out.b).2.2
                  show _ ≤ _
                  simpa using this
                have hwl : wt.length ≤ 3000 := by have := HUN.out; have := HM3.out; omega
                have HAPP := Hid.mk' (on_app HRI1.out.q HS1.out (by omega) y 38)
                go_upto_region 14 with fail
                generalize wr.setCell ⟨w.heap.size + 1, y, none⟩ (.bool true) = W1 at *
                clear d1 f1
                go_wp2_with (at_builtin; refine wpl_app rfl _ _ 38 38 _ _ rfl rfl rfl HAPP.out ?_; rintro v3 W3 ⟨on3, gr3⟩)
                obtain ⟨a3, c3, rfl⟩ := gown_form on3
                have HR3 := Hid.mk' (HRI1.out.grow HS1.out gr3 on3)
                clear gr3
                go_roundw
                case rel => exact ⟨_, _, _, k + 1, rfl, by go_num, hkl, HADD.out, HR3.out, by rw [List.length_append]; have := HUM.out; have := HUN.out; simp only [List.length_cons, List.length_nil]; omega⟩
                case measure => simp [intOf]; omega
              · have HSK := Hid.mk' (HRJ.out.skip HY.out HYF.out fun _ => HBK.out)
                go_wp2_with fail
                go_roundw
                case rel => exact ⟨_, _, _, k + 1, rfl, by go_num, hkl, HSK.out, HRI.out, HUN.out⟩
                case measure => simp [intOf]; omega
            · have hfyi : ¬ (f : Int) < (y : Int) := by omega
              have HSK := Hid.mk' (HRJ.out.skip HY.out HYF.out fun h => absurd h hfy)
              clear hyf hfy
              go_wp2_with fail
              go_roundw
              case rel => exact ⟨_, _, _, k + 1, rfl, by go_num, hkl, HSK.out, HRI.out, HUN.out⟩
              case measure => simp [intOf]; omega
        · have HD := Hid.mk' (HRJ.out.done (by omega) fun y hy => (HFK.out y).2 hy)
          go_wp2_with fail
          go_roundw
          case rel => exact ⟨_, _, _, rfl, HD.out, HRI.out, Nat.le_trans HUN.out HM3.out⟩
          case measure =>
            show 2 * ctF wr _ + wt.length < _
            rw [HM0.out, ct_own HRI.out.r]
            have := HUN.out; omega
end Go.Proofs.YtgiokognngllcaaDoor
