/- A head's members: graph.members. -/
import Derived.Test.YtgiokognngllcaaDoorTg
import Derived.Test.YtgiokognngllcaaDoorTe
namespace Go.Proofs.YtgiokognngllcaaDoor
open Go.RowKit Go.Sort

/-- What the search holds. -/
structure Mb1 (h : Nat) (M : Nat → Prop) (fr : Nat → List Nat) (s wt : List Nat) : Prop where
  h : h ∈ s
  m : ∀ v ∈ s, M v
  q : ∀ v ∈ wt, v ∈ s
  c : ∀ x ∈ s, x ∉ wt → ∀ u ∈ fr x, u ∈ s
structure Mb2 (h : Nat) (M : Nat → Prop) (fr : Nat → List Nat) (at' : Nat) (k : Nat) (s wt : List Nat) : Prop where
  h : h ∈ s
  m : ∀ v ∈ s, M v
  q : ∀ v ∈ wt, v ∈ s
  c : ∀ x ∈ s, x ∉ wt → x ≠ at' → ∀ u ∈ fr x, u ∈ s
  p : ∀ u ∈ (fr at').take k, u ∈ s
  a : at' ∈ s
theorem Mb1.start {h : Nat} {M : Nat → Prop} {fr : Nat → List Nat} (hm : M h) : Mb1 h M fr [h] [h] :=
  ⟨by simp, fun v hv => by rw [List.mem_singleton] at hv; subst hv; exact hm, fun _ h => h, fun x hx hn => absurd hx hn⟩
theorem Mb1.pop {h k : Nat} {M : Nat → Prop} {fr : Nat → List Nat} {s wt : List Nat} (hb : Mb1 h M fr s (wt ++ [k])) : Mb2 h M fr k 0 s wt :=
  ⟨hb.h, hb.m, fun v hv => hb.q v (List.mem_append_left _ hv), fun x hx hn hk => hb.c x hx fun hm => by
    rcases List.mem_append.1 hm with hm | hm
    · exact hn hm
    · exact hk (List.mem_singleton.1 hm), by simp, hb.q k (List.mem_append_right _ (by simp))⟩
theorem Mb2.skip {h at' k u : Nat} {M : Nat → Prop} {fr : Nat → List Nat} {s wt : List Nat} (hb : Mb2 h M fr at' k s wt) (hu : (fr at')[k]? = some u) (hs : u ∈ s) : Mb2 h M fr at' (k + 1) s wt :=
  ⟨hb.h, hb.m, hb.q, hb.c, fun z hz => by
    rw [take_snoc hu, List.mem_append, List.mem_singleton] at hz
    rcases hz with hz | rfl
    · exact hb.p z hz
    · exact hs, hb.a⟩
theorem Mb2.add {h at' k u : Nat} {M : Nat → Prop} {fr : Nat → List Nat} {s wt : List Nat} (hb : Mb2 h M fr at' k s wt) (hu : (fr at')[k]? = some u) (hm : M u) : Mb2 h M fr at' (k + 1) (u :: s) (wt ++ [u]) := by
  refine ⟨List.mem_cons_of_mem _ hb.h, fun v hv => ?_, fun v hv => ?_, fun x hx hw hxa z hz => ?_, fun z hz => ?_, List.mem_cons_of_mem _ hb.a⟩
  · rcases List.mem_cons.1 hv with rfl | hv
    · exact hm
    · exact hb.m v hv
  · rcases List.mem_append.1 hv with hv | hv
    · exact List.mem_cons_of_mem _ (hb.q v hv)
    · rw [List.mem_singleton] at hv; subst hv; exact List.mem_cons_self ..
  · have hw1 : x ∉ wt := fun e => hw (List.mem_append_left _ e)
    have hxu : x ≠ u := fun e => hw (List.mem_append_right _ (by rw [e]; simp))
    rcases List.mem_cons.1 hx with e | hx
    · exact absurd e hxu
    · exact List.mem_cons_of_mem _ (hb.c x hx hw1 hxa z hz)
  · rw [take_snoc hu, List.mem_append, List.mem_singleton] at hz
    rcases hz with hz | rfl
    · exact List.mem_cons_of_mem _ (hb.p z hz)
    · exact List.mem_cons_self ..
theorem Mb2.done {h at' k : Nat} {M : Nat → Prop} {fr : Nat → List Nat} {s wt : List Nat} (hb : Mb2 h M fr at' k s wt) (hk : (fr at').length ≤ k) : Mb1 h M fr s wt :=
  ⟨hb.h, hb.m, hb.q, fun x hx hw u hu => by
    by_cases e : x = at'
    · subst e
      exact hb.p u (by rw [List.take_of_length_le hk]; exact hu)
    · exact hb.c x hx hw e u hu⟩
/-- At the end they are the members. -/
theorem Mb1.end {l : List Is} {h : Nat} {fr : Nat → List Nat} {s : List Nat} (hb : Mb1 h (Mbr l h) fr s []) (hf : ∀ u, Ba l u h → u ∈ fr h) (hg : ∀ x u, x ≠ h → Mbr l h x → Rch l u → x ∈ nxt l u → u ∈ fr x) (v : Nat) : v ∈ s ↔ Mbr l h v := by
  refine ⟨hb.m v, fun hv => ?_⟩
  induction hv with
  | head => exact hb.h
  | back hu => exact hb.c h hb.h (by simp) _ (hf _ hu)
  | step hx hn hu hv ih => exact hb.c _ ih (by simp) _ (hg _ _ hn hx hu hv)
/-- How many entries a map has. -/
def mpN (W : World) (b : Nat) : Nat := match W.heap[b]? with | some (.map es _) => es.size | _ => 0
theorem Mst.size {W : World} {b : Nat} {s : List Nat} (h : Mst W b s) : mpN W b = s.length := by
  obtain ⟨D, ⟨es, clock, hb, F, hs, rfl⟩, hz, _⟩ := h
  unfold mpN
  rw [hb]
  simpa [Maps.size, DataW.length_sorted] using hz
theorem nd_len {s : List Nat} {n : Nat} (h : s.Nodup) (hl : ∀ v ∈ s, v < n) : s.length ≤ n := by
  have := sub_len h (b := List.range n) fun x hx => List.mem_range.2 (hl x hx)
  rwa [List.length_range] at this
/-- And where it lies. -/
structure MI (w w1 : World) (b : Nat) (s wt : List Nat) (vw : Value) (W : World) : Prop where
  s : Mst W b s
  q : On (w.heap.size + 1) wt vw W
  b : Below (w.heap.size + 1) w1 W
theorem MI.stay {w w1 : World} {b : Nat} {s wt : List Nat} {vw : Value} {W W' : World} (h : MI w w1 b s wt vw W) (hs : w.heap.size + 1 ≤ W.heap.size) (hb : Below W.heap.size W W') : MI w w1 b s wt vw W' := ⟨h.s.stay hb, own_stay h.q hb, h.b.trans (hb.mono hs)⟩
theorem MI.grow {w w1 : World} {b : Nat} {s wt wt' : List Nat} {vw vw' : Value} {W W' : World} (h : MI w w1 b s wt vw W) (hs : w.heap.size + 1 ≤ W.heap.size) (hg : W.grownBy W' vw.ownBlock) (ho : On (w.heap.size + 1) wt' vw' W') : MI w w1 b s wt' vw' W' :=
  ⟨h.s.kept hg (h.s.row h.q), ho, h.b.grown hg hs (fun k e => own_base h.q k e)⟩
theorem MI.put {w w1 : World} {b : Nat} {s s' wt : List Nat} {vw : Value} {W W' : World} (h : MI w w1 b s wt vw W) (hs : w.heap.size + 1 ≤ W.heap.size) (hbw : w.heap.size + 1 ≤ b) (hg : W.grownBy W' (some b)) (hm : Mst W' b s') : MI w w1 b s' wt vw W' :=
  ⟨hm, h.s.own hg h.q, h.b.grown hg hs (fun k e => by cases e; exact hbw)⟩
def MeP (l : List Is) (h : Nat) (w : World) (e : Ending) (w' : World) : Prop := ∃ b s, e = .returned (.map (some b)) ∧ w.heap.size ≤ b ∧ Mst w' b s ∧ (∀ v, v ∈ s ↔ Mbr l h v) ∧ Below w.heap.size w w'
set_option maxRecDepth 100000 in
set_option maxHeartbeats 4000000 in
theorem gmembers_any (l : List Is) (n h : Nat) (fr bk : Nat → List Nat) (fa ba aa va : Option Addr) (fc bc ac vc : Nat) (w : World) (hn : n ≤ 1024) (hh : h < n) (hml : ∀ v, Mbr l h v → v < n)
    (hF : ∀ x, x < n → ∀ u, u ∈ fr x ↔ Rch l u ∧ x ∈ nxt l u) (hK : ∀ u, u ∈ bk h ↔ Ba l u h) (hR : LsR w fa n fr) (hB : LsR w ba n bk) (hln : ∀ j, (fr j).length ≤ 3000) (hln2 : ∀ j, (bk j).length ≤ 3000) :
    Calls Tryd.prog 22 #[.agg #[.slice fa n fc, .slice ba n bc, .slice aa n ac, .slice va n vc], .int .i64 (h : Int)] w (MeP l h w) := by
  have HR := Hid.mk' hR
  have HBK := Hid.mk' hB
  have HML := Hid.mk' hml
  obtain ⟨ff, hff⟩ : ∃ ff : Nat → List Nat, ff = fun x => if x = h then bk h else fr x := ⟨_, rfl⟩
  have HFH : Hid (ff h = bk h) := (by rw [hff]; simp : _ = _)
  have HFN : Hid (∀ x, x ≠ h → ff x = fr x) := fun x hx => by rw [hff]; simp [hx]
  have HFL : Hid (∀ x, (ff x).length ≤ 3000) := fun x => by
    by_cases e : x = h
    · rw [e, HFH.out]; exact hln2 h
    · rw [HFN.out x e]; exact hln x
  have HST : Hid (∀ x u, Mbr l h x → u ∈ ff x → Mbr l h u) := fun x u hx hu => by
    by_cases e : x = h
    · rw [e, HFH.out, hK] at hu; exact .back hu
    · rw [HFN.out x e, hF x (hml x hx)] at hu; exact .step hx e hu.1 hu.2
  have HEND : Hid (∀ s, Mb1 h (Mbr l h) ff s [] → ∀ v, v ∈ s ↔ Mbr l h v) := fun s hb v => hb.end (fun u hu => by rw [HFH.out]; exact (hK u).2 hu) (fun x u hx hm hu hv => by rw [HFN.out x hx]; exact (hF x (hml x hm) u).2 ⟨hu, hv⟩) v
  have HH := Hid.mk' hh
  have HN := Hid.mk' hn
  clear hff hR hB hml hF hK hln hln2 hn hh
  have HB := Hid.mk' (Below.one (Below.refl _ w) (.cells #[.slice fa n fc, .slice ba n bc, .slice aa n ac, .slice va n vc] 58))
  have HX := Hid.mk' (heap_alloc_new w (.cells #[.slice fa n fc, .slice ba n bc, .slice aa n ac, .slice va n vc] 58))
  have hmm := @run_makeMap Tryd.prog
  have HW1 : Hid (∀ W : World, Below (w.heap.size + 1) (w.alloc (.cells #[.slice fa n fc, .slice ba n bc, .slice aa n ac, .slice va n vc] 58)) W → W.heap[w.heap.size]? = some (.cells #[.slice fa n fc, .slice ba n bc, .slice aa n ac, .slice va n vc] 58) ∧ Below w.heap.size w W ∧ w.heap.size + 1 ≤ W.heap.size) := by
    intro W hb
    have h1 := (hb.block _ (Nat.lt_succ_self _)).trans HX.out
    exact ⟨h1, HB.out.trans (hb.mono (Nat.le_succ _)), (Array.getElem?_eq_some_iff.1 h1).1⟩
  have HM0 : Hid (Mst ((w.alloc (.cells #[.slice fa n fc, .slice ba n bc, .slice aa n ac, .slice va n vc] 58)).alloc (.map #[] 0)) (w.heap.size + 1) []) := by
    have := mst_made (w.alloc (.cells #[.slice fa n fc, .slice ba n bc, .slice aa n ac, .slice va n vc] 58))
    rw [World.size_alloc] at this
    exact this
  have HBM := Hid.mk' (Below.one (Below.refl (w.alloc (.cells #[.slice fa n fc, .slice ba n bc, .slice aa n ac, .slice va n vc] 58)).heap.size (w.alloc (.cells #[.slice fa n fc, .slice ba n bc, .slice aa n ac, .slice va n vc] 58))) (.map #[] 0))
  rw [World.size_alloc] at HBM
  have HAD := Hid.mk' (ladd_any (w.heap.size + 1) [] h _ HM0.out (by simp) (by have := HH.out; have := HN.out; omega) (by simp))
  have HSW1 : Hid (w.heap.size + 1 ≤ ((w.alloc (.cells #[.slice fa n fc, .slice ba n bc, .slice aa n ac, .slice va n vc] 58)).alloc (.map #[] 0)).heap.size) := (by simp : _ ≤ _)
  clear HX HB
  go_enter Tryd.func22, Tryd.ntmps22
  go_wp2_with fail
  refine HAD.out.mono ?_
  rintro e Wa ⟨rfl, hma, hga⟩
  have HMA := Hid.mk' hma
  have HBA := Hid.mk' (HBM.out.grown hga (by simp) (fun k e => by cases e; exact Nat.le_refl _))
  have HSA : Hid (w.heap.size + 1 ≤ Wa.heap.size) := Nat.le_trans HSW1.out hga.size
  clear hma hga HAD HM0 HBM HSW1
  generalize w.alloc (.cells #[.slice fa n fc, .slice ba n bc, .slice aa n ac, .slice va n vc] 58) = w1 at *
  have HI0 : Hid (MI w w1 (w.heap.size + 1) [h] [h] (.slice (some ⟨Wa.heap.size, 0, none⟩) 1 1) (Wa.alloc (.cells #[.int .i64 (h : Int)] 3))) :=
    ⟨HMA.out.stay (Below.one (Below.refl _ _) _), own_mono (own_lit Wa h) HSA.out, HBA.out.trans ((Below.one (Below.refl _ Wa) (.cells #[.int .i64 (h : Int)] 3)).mono HSA.out)⟩
  have HS0 : Hid (Mb1 h (Mbr l h) ff [h] [h]) := Mb1.start .head
  have HM0 : Hid (2 * (n - ([h] : List Nat).length) + ([h] : List Nat).length ≤ 3000) := by
    have := HN.out
    show _ ≤ _
    simp only [List.length_cons, List.length_nil]
    omega
  go_wp2_with fail
  clear HMA HBA HSA
  generalize Wa.alloc (.cells #[.int .i64 (h : Int)] 3) = W0 at *
  go_loopw [6] (fun t6 wr => ∃ (s wt : List Nat) (vw : Value), t6 = vw ∧ Mb1 h (Mbr l h) ff s wt ∧ MI w w1 (w.heap.size + 1) s wt vw wr ∧ 2 * (n - s.length) + wt.length ≤ 3000) (fun t6 wr => 2 * (n - mpN wr (w.heap.size + 1)) + lenV t6)
  case atStart => exact ⟨_, _, _, rfl, HS0.out, HI0.out, HM0.out⟩
  case round =>
    obtain ⟨s, wt, vw, rfl, hmb, hmi, hun⟩ := hrel
    have HMB := Hid.mk' hmb
    have HMI := Hid.mk' hmi
    have HUN := Hid.mk' hun
    obtain ⟨aw, cw, rfl⟩ := gown_form hmi.q
    clear hmb hmi hun HS0 HI0 HM0
    by_cases hwt : wt = []
    · subst hwt
      go_wp2_with fail
      go_ret
      exact ⟨_, s, rfl, Nat.le_succ _, HMI.out.s, HEND.out s HMB.out, (HW1.out _ HMI.out.b).2.1⟩
    · obtain ⟨wt, k0, rfl⟩ := concat_of hwt
      obtain ⟨gw, rfl, d0, hcw, _⟩ := on_at HMI.out.q (j := wt.length) (k := k0) (by simp)
      have hlw : (wt ++ [k0]).length = wt.length + 1 := by simp
      have hun := HUN.out
      rw [hlw] at hcw hun ⊢
      obtain ⟨M, hM⟩ : ∃ M, M = 2 * (n - s.length) + wt.length := ⟨_, rfl⟩
      have HMM : Hid (2 * (n - s.length) + wt.length ≤ M) := Nat.le_of_eq hM.symm
      have HM0 : Hid (2 * (n - mpN wr (w.heap.size + 1)) + lenV (.slice (some ⟨gw, 0, none⟩) (wt.length + 1) cw) = M + 1) := by
        show _ = _
        rw [HMI.out.s.size, hM]; rfl
      have hw3 : wt.length ≤ 3000 := by omega
      have HM3 : Hid (M ≤ 3000) := (by omega : M ≤ 3000)
      clear hM
      have hsl : ∀ W, _ := fun W => slice_first W gw (wt.length + 1) cw wt.length (by omega)
      have HMI2 : Hid (MI w w1 (w.heap.size + 1) s wt (.slice (some ⟨gw, 0, none⟩) wt.length cw) wr) := ⟨HMI.out.s, on_pop HMI.out.q, HMI.out.b⟩
      have HPO := Hid.mk' HMB.out.pop
      have hk0 := HML.out k0 (HMB.out.m k0 HPO.out.a)
      have HMK : Hid (Mbr l h k0) := HMB.out.m k0 HPO.out.a
      obtain ⟨hx, hbw, hsz⟩ := HW1.out _ HMI.out.b
      have z0 := cell_of_obj hx (j := 0) (v := .slice fa n fc) rfl
      have z1 := cell_of_obj hx (j := 1) (v := .slice ba n bc) rfl
      have hk0i : (k0 : Int) < (n : Int) := by omega
      have hhi : (h : Int) < (n : Int) := by have := HH.out; omega
      have HBW := Hid.mk' hbw
      have HLK : Hid ((ff k0).length ≤ 3000) := HFL.out k0
      have HSK : Hid (∀ u, u ∈ ff k0 → Mbr l h u) := fun u hu => HST.out k0 u HMK.out hu
      clear HMI HMB HUN hun hlw hwt hcw hx hbw hsz
      -- the row that is gone through
      have HROW : Hid (∃ aj cj, Lst w aj ((ff k0).map nV) ∧ ((k0 ≠ h → ∃ b o, fa = some ⟨b, o, none⟩ ∧ wr.cell? ⟨b, o + k0, none⟩ = some (.slice aj (ff k0).length cj)) ∧ (k0 = h → ∃ b o, ba = some ⟨b, o, none⟩ ∧ wr.cell? ⟨b, o + h, none⟩ = some (.slice aj (ff k0).length cj)))) := by
        by_cases e : k0 = h
        · obtain ⟨b, o, aj, cj, e1, e2, e3⟩ := HBK.out h HH.out
          replace e2 := cell_kept_below e2 HBW.out
          refine ⟨aj, cj, by rw [e, HFH.out]; exact e3, fun h => absurd e h, fun _ => ⟨b, o, e1, by rw [e, HFH.out]; exact e2⟩⟩
        · obtain ⟨b, o, aj, cj, e1, e2, e3⟩ := HR.out k0 hk0
          replace e2 := cell_kept_below e2 HBW.out
          exact ⟨aj, cj, by rw [HFN.out k0 e]; exact e3, fun _ => ⟨b, o, e1, by rw [HFN.out k0 e]; exact e2⟩, fun h => absurd h e⟩
      obtain ⟨aj, cj, hlst, hne, heq⟩ := HROW.out
      obtain ⟨b1, o1, aj1, cj1, e1, e2, _⟩ := (HR.out.stay HBW.out) k0 hk0
      have HLS := Hid.mk' hlst
      have HNE := Hid.mk' hne
      have HEQ := Hid.mk' heq
      clear hlst hne heq HROW HR
      subst e1
      go_upto_if 38 with fail
      go_cut [9] from 18 to 61 (fun t9 wx => t9 = .slice aj (ff k0).length cj ∧ wx = wr)
      case first =>
        by_cases e : k0 = h
        · obtain ⟨b, o, e1, e3⟩ := HEQ.out e
          have hq : ((k0 : Int) == (h : Int)) = true := by rw [e]; simp
          subst e1
          clear e
          go_wp2_with fail
          go_meet
          case rel => exact ⟨rfl, rfl⟩
        · obtain ⟨b, o, e1, e3⟩ := HNE.out e
          have hq : ((k0 : Int) == (h : Int)) = false := beq_no (by omega)
          cases e1
          rw [e3] at e2
          injection e2 with e2
          injection e2 with e2 e4 e5
          subst e2 e5
          have HE4 := Hid.mk' e4
          clear e e4
          go_wp2_with fail
          go_meet
          case rel => exact ⟨by rw [HE4.out], rfl⟩
      case rest =>
        obtain ⟨rfl, hwx⟩ := hcut
        subst hwx
        clear z0 z1 d0 hsl e2 HNE HEQ
        generalize hys : ff k0 = ys at *
        have HYS := Hid.mk' hys
        have hyl := HLK.out
        clear hys
        go_wp2_with fail
        obtain ⟨Wo, hWo⟩ : ∃ Wo, Wo = wc := ⟨_, rfl⟩
        subst hWo
        go_loopw [6, 46] (fun t6 t46 wr => ∃ (s wt : List Nat) (vw : Value) (k : Nat), t6 = vw ∧ t46 = .int .i64 (k : Int) ∧ k ≤ ys.length ∧ Mb2 h (Mbr l h) ff k0 k s wt ∧ MI w w1 (w.heap.size + 1) s wt vw wr ∧ 2 * (n - s.length) + wt.length ≤ M) (fun _ t46 _ => ys.length - (intOf t46).toNat)
        case atStart => exact ⟨_, _, _, 0, rfl, rfl, Nat.zero_le _, HPO.out, HMI2.out, HMM.out⟩
        case round =>
          clear HMI2 HPO HMM hw3
          obtain ⟨s, wt, vw, k, rfl, rfl, hk, hmb, hmi, hun⟩ := hrel
          obtain ⟨aw, cw, rfl⟩ := gown_form hmi.q
          have HMB := Hid.mk' hmb
          have HMI := Hid.mk' hmi
          have HUN := Hid.mk' hun
          have HSL : Hid (s.length ≤ n) := nd_len hmi.s.nd fun v hv => HML.out v (hmb.m v hv)
          clear hmb hmi hun
          obtain ⟨hx, hbw, hsz⟩ := HW1.out _ HMI.out.b
          have HSZ := Hid.mk' hsz
          by_cases hkl : k < ys.length
          · obtain ⟨u, hu⟩ : ∃ u, ys[k]? = some u := ⟨_, List.getElem?_eq_getElem hkl⟩
            have HU := Hid.mk' (show (ff k0)[k]? = some u by rw [HYS.out]; exact hu)
            have HMU : Hid (Mbr l h u) := HSK.out u (List.mem_of_getElem? hu)
            obtain ⟨b3, o3, rfl, c0⟩ := lst_n (HLS.out.stay hbw) hkl
            rw [show ys[k] = u from (List.getElem?_eq_some_iff.1 hu).2] at c0
            have hkli : (k : Int) < (ys.length : Int) := by omega
            have hun' : u < n := HML.out _ HMU.out
            have HUN2 := Hid.mk' hun'
            have HHS := Hid.mk' (lhas_any (w.heap.size + 1) s (u : Int) wr HMI.out.s ⟨by omega, by have := HN.out; omega⟩)
            rw [hasI_nat] at HHS
            have hnn := HN.out
            clear hx hbw hsz hun'
            clear hu
            by_cases hus : u ∈ s
            · have HSK2 := Hid.mk' (HMB.out.skip HU.out hus)
              rw [decide_eq_true hus] at HHS
              clear hus
              go_wp2_with (go_at_call 40; refine HHS.out.mono ?_; rintro e W2 ⟨rfl, bb2⟩; have HM2 := Hid.mk' (HMI.out.stay HSZ.out bb2); clear bb2)
              go_roundw
              case rel => exact ⟨_, _, _, k + 1, rfl, by go_num, hkl, HSK2.out, HM2.out, HUN.out⟩
              case measure => simp [intOf]; omega
            · have HADD := Hid.mk' (HMB.out.add HU.out HMU.out)
              have HNS := Hid.mk' hus
              rw [decide_eq_false hus] at HHS
              clear hus
              have hwl : wt.length ≤ 3000 := by have := HUN.out; have := HM3.out; omega
              go_wp2_with (go_at_call 40; refine HHS.out.mono ?_; rintro e W2 ⟨rfl, bb2⟩; have HM2 := Hid.mk' (HMI.out.stay HSZ.out bb2); have HS2 : Hid (w.heap.size + 1 ≤ W2.heap.size) := Nat.le_trans HSZ.out bb2.size; clear bb2)
              refine (ladd_any (w.heap.size + 1) s u W2 HM2.out.s HNS.out (by have := HUN2.out; omega) (by have := HSL.out; omega)).mono ?_
              rintro e W3 ⟨rfl, hm3, hg3⟩
              have HM3b := Hid.mk' (HM2.out.put HS2.out (Nat.le_refl _) hg3 hm3)
              have HS3 : Hid (w.heap.size + 1 ≤ W3.heap.size) := Nat.le_trans HS2.out hg3.size
              have HAPP := Hid.mk' (on_app HM3b.out.q HS3.out (by omega) u 38)
              have HLE : Hid (s.length + 1 ≤ n) := by
                have := nd_len (s := u :: s) hm3.nd fun v hv => HML.out v (HADD.out.m v hv)
                show _ ≤ _
                simpa using this
              clear hm3 hg3
              go_wp2_with (at_builtin; refine wpl_app rfl _ _ 38 38 _ _ rfl rfl rfl HAPP.out ?_; rintro v4 W4 ⟨on4, gr4⟩)
              have HM4 := Hid.mk' (HM3b.out.grow HS3.out gr4 on4)
              obtain ⟨a4, c4, rfl⟩ := gown_form on4
              clear gr4
              go_roundw
              case rel => exact ⟨_, _, _, k + 1, rfl, by go_num, hkl, HADD.out, HM4.out, by rw [List.length_append]; have := HLE.out; have := HUN.out; simp only [List.length_cons, List.length_nil]; omega⟩
              case measure => simp [intOf]; omega
          · have HD := Hid.mk' (HMB.out.done (by rw [HYS.out]; omega))
            clear hx hbw hsz
            go_wp2_with fail
            go_roundw
            case rel => exact ⟨_, _, _, rfl, HD.out, HMI.out, Nat.le_trans HUN.out HM3.out⟩
            case measure =>
              show 2 * (n - mpN wr _) + wt.length < _
              rw [HM0.out, HMI.out.s.size]
              have := HUN.out; omega
end Go.Proofs.YtgiokognngllcaaDoor
