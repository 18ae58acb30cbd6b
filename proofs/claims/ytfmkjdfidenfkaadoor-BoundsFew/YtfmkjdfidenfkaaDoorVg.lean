/- Bounds: a round. -/
import Derived.Test.YtfmkjdfidenfkaaDoorVf
import Derived.Test.YtfmkjdfidenfkaaDoorYy
import Derived.Sort.CutIn
namespace Go.Proofs.YtfmkjdfidenfkaaDoor
open Go.RowKit Go.Shelf
open S8 (meetB meetS joinS widS belA belB belC allS doR doB doS emB pot sv join_any widen_any)
attribute [local go_sem] Oper.semAt_some

theorem tlI_len (bs : Nat → Bool) (k : Nat) : (tlI bs k).length = k := by unfold tlI; simp
/-- What lies behind so many turns of a round. -/
def RoI (N : Nat) (m : Mo) (f : Fn) (r : Nat) (L : Lay) (st : Wk) (w : World) (pre : List (Nat × Bool)) (W : World) : Prop :=
  W.heap[w.heap.size]? = some (.cells #[.pointer (some ⟨L.B, 0, none⟩)] 59) ∧ W.heap[w.heap.size + 1]? = some (.cells #[.pointer (some ⟨L.B, 0, none⟩)] 59) ∧ Below N w W ∧ ∃ (b' : Nat → Nat) (sd cm : List Sp), sd.length = r ∧ cm.length = r ∧ WkAt N f.code.length r m f { L with bI := b' } (stN m f st pre.length) sd cm W
theorem RoI.own {N : Nat} {m : Mo} {f : Fn} {r : Nat} {L : Lay} {st : Wk} {w : World} {B : Nat} (hN : N ≤ w.heap.size) (hB : N ≤ B) : OwnFrom B (RoI N m f r L st w) := by
  rintro pre X Y row ⟨h1, h0, h2, b', sd, cm, h3, h4, h5⟩ hg hr
  have hr' : ∀ q, row = some q → ∃ o : Obj, X.heap[q]? = some o ∧ o.isCells = false := fun q e => (hr q e).2
  exact ⟨cells_grow h1 hg hr', cells_grow h0 hg hr', ownFrom_below (β := Unit) hN hB () X Y row h2 hg hr, b', sd, cm, h3, h4, h5.grown hg hr'⟩
/-- What the iterator reads of it. -/
theorem RoI.rd {N : Nat} {m : Mo} {f : Fn} {r : Nat} {L : Lay} {st : Wk} {w : World} {pre : List (Nat × Bool)} {W : World} (H : FnR m f r) (hI : WkI m.ths f.code.length r st) (h : RoI N m f r L st w pre W) (bs : Nat → Bool) (hbs : ∀ k, bs k = mkA (stN m f st k) k) : ∀ k, k ≤ f.code.length → pre = tlI bs k → RdI f.code.length (w.heap.size + 1) L.B L.gM bs k W := by
  intro k hk hp
  obtain ⟨h1, h0, h2, b', sd, cm, h3, h4, h5⟩ := h
  have hl : pre.length = k := by rw [hp, tlI_len]
  rw [hl] at h5
  have hwi := (stN_inv H hI k hk).1
  exact ⟨h0, h5.k9, fun hlt => by rw [hbs]; exact cell_of_obj h5.mb (bVs_at (by rw [hwi.lm]; exact hlt))⟩
def RdP (N : Nat) (w : World) (e : Ending) (w' : World) (Pw : World → Prop) : Prop := (∃ v, e = .returned v) ∧ Below N w w' ∧ Pw w'
theorem tlI_at (bs : Nat → Bool) {k n : Nat} (h : k < n) : (tlI bs n)[k]? = some (k, bs k) := by
  unfold tlI
  rw [List.getElem?_map, List.getElem?_range h]
  rfl
theorem tlI_next {bs : Nat → Bool} {n : Nat} {pre : List (Nat × Bool)} {x : Nat × Bool} (h : pre ++ [x] <+: tlI bs n) : pre.length < n ∧ x = (pre.length, bs pre.length) ∧ pre = tlI bs pre.length := by
  have hl := h.length_le
  rw [List.length_append, tlI_len, List.length_singleton] at hl
  have h1 : pre.length < n := by omega
  obtain ⟨t, ht⟩ := h
  have h2 := tlI_at bs h1
  rw [← ht, List.append_assoc, List.getElem?_append_right (Nat.le_refl _)] at h2
  simp at h2
  refine ⟨h1, h2, ?_⟩
  apply List.ext_getElem?
  intro j
  by_cases hj : j < pre.length
  · rw [tlI_at bs hj, ← tlI_at bs (show j < n by omega), ← ht, List.append_assoc, List.getElem?_append_left hj]
  · rw [List.getElem?_eq_none (by omega), List.getElem?_eq_none (by rw [tlI_len]; omega)]

set_option maxRecDepth 100000 in
set_option maxHeartbeats 8000000 in
theorem wround_any {N : Nat} {w0 : World} (hN0 : N = w0.heap.size) {m : Mo} (hm0 : m.In w0) {f : Fn} {r : Nat} (H : FnR m f r) {L : Lay} {st : Wk} {sd cm : List Sp} (w : World) (h : WkAt N f.code.length r m f L st sd cm w) (hI : WkI m.ths f.code.length r st) (hsd : sd.length = r) (hcm : cm.length = r) (htl : m.ths.length ≤ 16) (hb0 : Below N w0 w) (hf : f ∈ m.funcs) : CallsIn Fence.wide 4 Tryd.prog 22 #[.pointer (some ⟨L.B, 0, none⟩)] w fun e w' => RdP N w e w' fun w' => ∃ (b' : Nat → Nat) (sd' cm' : List Sp), sd'.length = r ∧ cm'.length = r ∧ WkAt N f.code.length r m f { L with bI := b' } (rndZ m f st) sd' cm' w' := by
  have hNw := h.lt.1
  have HH := Hid.mk' h
  have HHI := Hid.mk' hI
  have HM : Hid (∀ W, Below N w W → m.In W) := fun W hW => hm0.stay (hN0 ▸ (hb0.trans hW))
  have HBN : Hid ((∀ ad, m.fa = some ad → ad.block < N) ∧ (∀ ad, f.ca = some ad → ad.block < N) ∧ ∀ h ∈ m.funcs, h.params ≠ [] → ∀ ad, h.pa = some ad → ad.block < N) := by
    refine ⟨fun ad ha => ?_, fun ad ha => ?_, fun h hh hne ad ha => ?_⟩
    · obtain ⟨j, hj, _⟩ := List.getElem_of_mem hf
      obtain ⟨b, o, e, c0, -⟩ := fns_at hm0.2.2.1 hj
      rw [e] at ha; injection ha with ha; subst ha
      have := S8.lt_of_cell c0
      rw [hN0]; exact this
    · obtain ⟨b, o, e, c0, -⟩ := iss_at (hm0.2.2.2 f hf).2.2.2.2.2.1 (i := 0) (by have := H.ok.len; omega)
      rw [e] at ha; injection ha with ha; subst ha
      have := S8.lt_of_cell c0
      rw [hN0]; exact this
    · obtain ⟨b, o, e, c0, -⟩ := sps_at (hm0.2.2.2 h hh).2.2.2.1 (i := 0) (by rcases hp : h.params with _ | ⟨p, ps⟩; exact absurd hp hne; simp)
      rw [e] at ha; injection ha with ha; subst ha
      have := S8.lt_of_cell c0
      rw [hN0]; exact this
  have HIN := Hid.mk' fun B W => instructions_any B W
  clear h hI hm0 hb0 hN0
  refine callsIn_of_wp_marks Tryd.func22 rfl trivial ?_ rfl
  simp only [Tryd.ntmps22, List.size_toArray, List.length_cons, List.length_nil, Nat.reduceAdd, Nat.reduceSub, Array.replicate_succ, Array.replicate_zero, List.push_toArray, List.append_toArray, List.nil_append, List.cons_append]
  gi_wp2_with fail
  refine wpIn_scope ?_
  gi_wp2_with fail
  refine wpIn_label ?_
  gi_wp2_with fail
  refine ⟨trivial, ?_⟩
  refine (callsIn_wide.2 (HIN.out _ _)).mono ?_
  rintro e W1 ⟨rfl, hW1⟩
  gi_wp2_with fail
  have hsz1 : W1.heap.size = w.heap.size + 2 := by rw [hW1]; simp
  have hI0 : RoI N m f r L st w [] W1 := by
    have b1 := Below.one (Below.refl _ w) (.cells #[.pointer (some ⟨L.B, 0, none⟩)] 59)
    have b2 := Below.one b1 (.cells #[.pointer (some ⟨L.B, 0, none⟩)] 59)
    have x0 := heap_alloc_new w (.cells #[.pointer (some ⟨L.B, 0, none⟩)] 59)
    have x1 := heap_alloc_new (w.alloc (.cells #[.pointer (some ⟨L.B, 0, none⟩)] 59)) (.cells #[.pointer (some ⟨L.B, 0, none⟩)] 59)
    rw [World.size_alloc] at x1
    rw [hW1]
    exact ⟨blk_stay x0 (Below.one (Below.refl _ _) _), x1, b2.mono hNw, L.bI, sd, cm, hsd, hcm, HH.out.stay b2⟩
  rw [← hW1]
  have hlen := H.ok.len.2
  have HI0 := Hid.mk' hI0
  have HW1 := Hid.mk' hW1
  have HSZ := Hid.mk' hsz1
  clear hI0 hW1 hsz1
  refine range_j (m := 4) (gf := 74) (lb := #[.pointer (some ⟨w.heap.size + 1, 0, none⟩)]) rfl (enters_of Tryd.func74 (by kernel_rfl) rfl) (instr_seq f.code.length (w.heap.size + 1) L.B L.gM (fun k => mkA (stN m f st k) k) hlen W1) (Below.refl _ _) (fun _ => rfl)
    (RoI N m f r L st w) (fun _ _ _ => False) (RoI.own hNw (by have := HSZ.out; omega)) (fun _ _ _ _ _ h _ _ => h) (fun pre W h => RoI.rd H HHI.out h _ (fun _ => rfl)) HI0.out (fun x a' _ => a' = { tmps := #[.pointer (some ⟨L.B, 0, none⟩), .pointer (some ⟨w.heap.size, 0, none⟩), .int .i64 (x.1 : Int), .bool x.2, undef, undef, .pointer (some ⟨L.B, 0, none⟩), .func (.func 74) #[] #[.pointer (some ⟨w.heap.size + 1, 0, none⟩)], .int .i64 (x.1 : Int), .bool x.2, undef, undef, undef, undef, undef, undef, undef, undef, undef, undef, undef, undef, undef, undef, undef, undef, undef, undef, undef, undef, undef, undef, undef, undef, undef, undef, undef, undef, undef, undef, undef, undef, undef, undef, undef, undef, undef, undef, undef, undef, undef, undef, undef, undef, undef, undef, undef, undef, undef, undef, undef, undef, undef, undef, undef, undef, undef, undef, undef, undef], defers := [] }) (fun x a' _ W W' row h _ _ => h) ?assign ?body ?done ?stop
  case assign =>
    intro l pre x W hi _
    gi_wp2
    exact ⟨KeepsFrom.refl _ _, hi, trivial⟩
  case stop =>
    rintro c pre W _ h _
    exact h.elim
  case done =>
    rintro W4 ⟨h1, h0, h2, b', sd', cm', h3, h4, h5⟩ hK4
    have HI := Hid.mk' h2
    have HJ : Hid (WkAt N f.code.length r m f { L with bI := b' } (rndZ m f st) sd' cm' W4) := by rw [tlI_len] at h5; exact h5
    clear h0 h1 h2 h5
    have hkm : W4.heap.size ≥ W1.heap.size := by have := (Array.getElem?_eq_some_iff.1 hK4).1; omega
    gi_wp2
    show bodyPostM Fence.wide 4 Tryd.prog Tryd.f22 _ Exit.normal _ _
    refine ⟨by simp, .inl ⟨_, _, rfl, run_takeDeferred hK4, ?_⟩⟩
    have hg := grownBy_putObj' W4 W1.heap.size (.deferred none)
    have hr : ∀ q, some W1.heap.size = some q → ∃ o : Obj, W4.heap[q]? = some o ∧ o.isCells = false := fun q e => by cases e; exact ⟨_, hK4, rfl⟩
    refine ⟨.tuple #[], results_none rfl _ _ _, ⟨_, rfl⟩, ownFrom_below (β := Unit) hNw (show N ≤ W1.heap.size by have := HSZ.out; omega) () _ _ _ HI.out hg (fun q e => by cases e; exact ⟨Nat.le_refl _, _, hK4, rfl⟩), b', sd', cm', h3, h4, HJ.out.grown hg hr⟩
  case body =>
    rintro l pre x a' W hi rfl hpx
    obtain ⟨hk, rfl, hp⟩ := tlI_next hpx
    obtain ⟨h1, h0, h2, b', sd', cm', h3, h4, h5⟩ := hi
    have hL1 : (pre ++ [(pre.length, mkA (stN m f st pre.length) pre.length)]).length = pre.length + 1 := by simp
    obtain ⟨hwi, hmu, hmk, hmlt⟩ := stN_inv H HHI.out pre.length (Nat.le_of_lt hk)
    unfold postJ RoI
    rw [hL1, stN_succ]
    generalize pre.length = k at *
    generalize stN m f st k = S at *
    simp only
    cases hb : mkA S k
    · have hS : stZ m f S k = S := by
        unfold stZ
        rw [List.getElem?_eq_getElem hk]
        simp only
        rw [if_neg (by rw [hb]; decide)]
      rw [hS]
      have H123 := Hid.mk' (And.intro h1 (And.intro h0 h2))
      have H5 := Hid.mk' h5
      clear h1 h0 h2 h5 hS hp hpx hL1
      gi_wp2_with fail
      exact ⟨KeepsFrom.refl _ _, H123.out.1, H123.out.2.1, H123.out.2.2, b', sd', h3, cm', h4, H5.out⟩
    · have hx : f.code[k]? = some f.code[k] := List.getElem?_eq_getElem hk
      have hS : stZ m f S k = (nxt f.code k).foldl (wayZ m f f.code[k] k (insA S k)) (offZ S k) := by
        unfold stZ
        rw [hx]
        simp only
        rw [if_pos hb]
      rw [hS]
      have hpt := hwi.pt k hk
      have hne : insA S k ≠ [] := fun e => by have := (hpt.none e).1; rw [hb] at this; cases this
      obtain ⟨hsl, hsg⟩ := hpt.some hne
      have hki : (k : Int) < (f.code.length : Int) := by omega
      have e9 := h5.k9
      have eM := cell_of_obj h5.mb (bVs_at (by rw [hwi.lm]; exact hk : k < S.mar.length))
      have fM := Lib.frozen_of_heap h5.mb k
      have hc1 := cell_of_obj h1 (j := 0) (v := .pointer (some ⟨L.B, 0, none⟩)) rfl
      have h6 := h5.putM k false
      have HB6 : Hid (Below N w (W.setCell ⟨L.gM, k, none⟩ (.bool false))) := h2.setCell (by exact h5.lo.2.2.2.1) _
      have HW5 := Hid.mk' h5
      have H1 := Hid.mk' h1
      have H0 := Hid.mk' h0
      dsimp only at e9 eM fM h6
      have HWI := Hid.mk' hwi
      have HPR := Hid.mk' hp
      have HL1 := Hid.mk' hL1
      clear h1 h0 h2 h5 hS hp hpx hL1 hwi hpt hmk hmlt hmu
      have hK6 : KpO (OwnB f.code.length { L with bI := b' } S) W (W.setCell ⟨L.gM, k, none⟩ (.bool false)) := KpO.put .gM _ _
      have HK6 := Hid.mk' hK6
      have c1 : (W.setCell ⟨L.gM, k, none⟩ (.bool false)).cell? ⟨w.heap.size, 0, none⟩ = some (.pointer (some ⟨L.B, 0, none⟩)) := cell_of_obj (HW5.out.box hK6 H1.out) rfl
      clear hK6
      gi_upto_region 6 with fail
      generalize W.setCell ⟨L.gM, k, none⟩ (.bool false) = W6 at *
      have H6 := Hid.mk' h6
      have HNE := Hid.mk' hne
      have HSL := Hid.mk' hsl
      have HSG := Hid.mk' hsg
      have e7 := h6.k7
      have e11 := h6.k11
      have eI := cell_of_obj h6.ib (inV_at (by rw [HWI.out.li]; exact hk : k < S.ins.length))
      rw [rowV, if_neg (show insA ({ S with mar := S.mar.set k false } : Wk) k ≠ [] from hne)] at eI
      dsimp only at e7 e11 eI
      have hdr := Below.drew (Below.refl W6.heap.size W6)
      have hcp := fun ty => run_copyR 63 34 ty Tryd.underlying63 (h6.stay hdr).sb (show RgB W6.drew (b' k) (insA S k) from (h6.stay hdr).iv k hk hne) h3 hsl
      dsimp only at hcp
      have hop := cpW_only W6.drew L.gs (insA S k)
      have h7 := (h6.stay hdr).setS hop (cpW_rgb (h6.stay hdr).sb (insA S k))
      have hK7 : KpO (OwnB f.code.length { L with bI := b' } S) W (cpW W6.drew L.gs (insA S k)) := (HK6.out.trans (KpO.of_below hdr)).trans (KpO.of_only hop .gs)
      have HB7 : Hid (Below N w (cpW W6.drew L.gs (insA S k))) := (HB6.out.trans (hdr.mono (by have := HB6.out.size; omega))).trans (hop.below h6.lo.2.2.2.2.2.1 (by have := HB6.out.size; simp; omega))
      have hS0 : (fun w' => w'.cell? ⟨w.heap.size, 0, none⟩ = some (.pointer (some ⟨L.B, 0, none⟩)) ∧ w'.cell? ⟨L.B, 11, none⟩ = some (.slice (some ⟨L.gs, 0, none⟩) r r) ∧ w'.cell? ⟨L.B, 7, none⟩ = some (.slice (some ⟨L.gI, 0, none⟩) f.code.length f.code.length) ∧ w'.cell? ⟨L.gI, k, none⟩ = some (.slice (some ⟨b' k, 0, none⟩) r r)) W6.drew := ⟨c1, e11, e7, eI⟩
      have c17 := cell_of_obj (HW5.out.box hK7 H1.out) (j := 0) (v := .pointer (some ⟨L.B, 0, none⟩)) rfl
      have hS7 : (fun w' => w'.cell? ⟨w.heap.size, 0, none⟩ = some (.pointer (some ⟨L.B, 0, none⟩)) ∧ w'.cell? ⟨L.B, 11, none⟩ = some (.slice (some ⟨L.gs, 0, none⟩) r r) ∧ w'.cell? ⟨L.B, 7, none⟩ = some (.slice (some ⟨L.gI, 0, none⟩) f.code.length f.code.length) ∧ w'.cell? ⟨L.gI, k, none⟩ = some (.slice (some ⟨b' k, 0, none⟩) r r)) (cpW W6.drew L.gs (insA S k)) := ⟨c17, h7.k11, h7.k7, by
        have := cell_of_obj h7.ib (inV_at (by show k < S.ins.length; rw [HWI.out.li]; exact hk))
        rw [rowV, if_neg (show insA ({ S with mar := S.mar.set k false } : Wk) k ≠ [] from hne)] at this
        exact this⟩
      have HK7 := Hid.mk' hK7
      have HS7 := Hid.mk' hS7
      have H7 := Hid.mk' h7
      clear hK7 hS7 h7 hop h6 e9 eM fM hc1 hne hsl hsg c17
      refine region_inR (fun w' => w'.cell? ⟨w.heap.size, 0, none⟩ = some (.pointer (some ⟨L.B, 0, none⟩)) ∧ w'.cell? ⟨L.B, 11, none⟩ = some (.slice (some ⟨L.gs, 0, none⟩) r r) ∧ w'.cell? ⟨L.B, 7, none⟩ = some (.slice (some ⟨L.gI, 0, none⟩) f.code.length f.code.length) ∧ w'.cell? ⟨L.gI, k, none⟩ = some (.slice (some ⟨b' k, 0, none⟩) r r)) (by kernel_rfl) ?hqa (calm_list ?hsa) ?_
      case hqa =>
        rintro ⟨a, w', h⟩
        exact h.2
      case hsa =>
        intro o ho
        simp only [List.mem_cons, List.not_mem_nil, or_false] at ho
        rcases ho with rfl | rfl | rfl | rfl | rfl | rfl | rfl | rfl | rfl | rfl | rfl | rfl | rfl
        all_goals first | exact calm_load _ _ rfl | exact calm_nil _ rfl | exact calm_field _ _ _ rfl | exact calm_move _ rfl | exact calm_index _ _ _ rfl | exact calm_copy _ _ _ _ rfl 
      simp only [List.size_toArray, List.length_cons, List.length_nil, Nat.reduceAdd]
      refine wpAnyH_takeL (i := 0) (v := ?tva0) rfl (by kernel_rfl) (by kernel_rfl) (by kernel_rfl) (fun _ _ _ h => h) (by rfl) ?tya0 hS0 ?tra0
      case tya0 => (intro w' hSw; (try dsimp only at hSw); go_split_ands; go_simp; try with_reducible rfl)
      simp only [Act.put, List.setIfInBounds_toArray, List.set_cons_zero, List.set_cons_succ]
      refine wpAnyH_takeL (i := 1) (v := ?tva1) rfl (by kernel_rfl) (by kernel_rfl) (by kernel_rfl) (fun _ _ _ h => h) (by rfl) ?tya1 hS0 ?tra1
      case tya1 => (intro w' hSw; (try dsimp only at hSw); go_split_ands; go_simp; try with_reducible rfl)
      simp only [Act.put, List.setIfInBounds_toArray, List.set_cons_zero, List.set_cons_succ]
      refine wpAnyH_takeL (i := 2) (v := ?tva2) rfl (by kernel_rfl) (by kernel_rfl) (by kernel_rfl) (fun _ _ _ h => h) (by rfl) ?tya2 hS0 ?tra2
      case tya2 => (intro w' hSw; (try dsimp only at hSw); go_split_ands; go_simp; try with_reducible rfl)
      simp only [Act.put, List.setIfInBounds_toArray, List.set_cons_zero, List.set_cons_succ]
      refine wpAnyH_takeL (i := 3) (v := ?tva3) rfl (by kernel_rfl) (by kernel_rfl) (by kernel_rfl) (fun _ _ _ h => h) (by rfl) ?tya3 hS0 ?tra3
      case tya3 => (intro w' hSw; (try dsimp only at hSw); go_split_ands; go_simp; try with_reducible rfl)
      simp only [Act.put, List.setIfInBounds_toArray, List.set_cons_zero, List.set_cons_succ]
      refine wpAnyH_takeL (i := 4) (v := ?tva4) rfl (by kernel_rfl) (by kernel_rfl) (by kernel_rfl) (fun _ _ _ h => h) (by rfl) ?tya4 hS0 ?tra4
      case tya4 => (intro w' hSw; (try dsimp only at hSw); go_split_ands; go_simp; try with_reducible rfl)
      simp only [Act.put, List.setIfInBounds_toArray, List.set_cons_zero, List.set_cons_succ]
      refine wpAnyH_takeL (i := 5) (v := ?tva5) rfl (by kernel_rfl) (by kernel_rfl) (by kernel_rfl) (fun _ _ _ h => h) (by rfl) ?tya5 hS0 ?tra5
      case tya5 => (intro w' hSw; (try dsimp only at hSw); go_split_ands; go_simp; try with_reducible rfl)
      simp only [Act.put, List.setIfInBounds_toArray, List.set_cons_zero, List.set_cons_succ]
      refine wpAnyH_takeL (i := 6) (v := ?tva6) rfl (by kernel_rfl) (by kernel_rfl) (by kernel_rfl) (fun _ _ _ h => h) (by rfl) ?tya6 hS0 ?tra6
      case tya6 => (intro w' hSw; (try dsimp only at hSw); go_split_ands; go_simp; try with_reducible rfl)
      simp only [Act.put, List.setIfInBounds_toArray, List.set_cons_zero, List.set_cons_succ]
      refine wpAnyH_takeL (i := 7) (v := ?tva7) rfl (by kernel_rfl) (by kernel_rfl) (by kernel_rfl) (fun _ _ _ h => h) (by rfl) ?tya7 hS0 ?tra7
      case tya7 => (intro w' hSw; (try dsimp only at hSw); go_split_ands; go_simp; try with_reducible rfl)
      simp only [Act.put, List.setIfInBounds_toArray, List.set_cons_zero, List.set_cons_succ]
      refine wpAnyH_takeL (i := 8) (v := ?tva8) rfl (by kernel_rfl) (by kernel_rfl) (by kernel_rfl) (fun _ _ _ h => h) (by rfl) ?tya8 hS0 ?tra8
      case tya8 => (intro w' hSw; (try dsimp only at hSw); go_split_ands; go_simp; try with_reducible rfl)
      simp only [Act.put, List.setIfInBounds_toArray, List.set_cons_zero, List.set_cons_succ]
      refine wpAnyH_takeL (i := 9) (v := ?tva9) rfl (by kernel_rfl) (by kernel_rfl) (by kernel_rfl) (fun _ _ _ h => h) (by rfl) ?tya9 hS0 ?tra9
      case tya9 => (intro w' hSw; (try dsimp only at hSw); go_split_ands; go_simp; try with_reducible rfl)
      simp only [Act.put, List.setIfInBounds_toArray, List.set_cons_zero, List.set_cons_succ]
      refine wpAnyH_takeL (i := 10) (v := ?tva10) rfl (by kernel_rfl) (by kernel_rfl) (by kernel_rfl) (fun _ _ _ h => h) (by rfl) ?tya10 hS0 ?tra10
      case tya10 => (intro w' hSw; (try dsimp only at hSw); go_split_ands; go_simp; try with_reducible rfl)
      simp only [Act.put, List.setIfInBounds_toArray, List.set_cons_zero, List.set_cons_succ]
      refine wpAnyH_takeL (i := 11) (v := ?tva11) rfl (by kernel_rfl) (by kernel_rfl) (by kernel_rfl) (fun _ _ _ h => h) (by rfl) ?tya11 hS0 ?tra11
      case tya11 => (intro w' hSw; (try dsimp only at hSw); go_split_ands; go_simp; try with_reducible rfl)
      simp only [Act.put, List.setIfInBounds_toArray, List.set_cons_zero, List.set_cons_succ]
      refine wpAnyH_one (i := 12) (by kernel_rfl) rfl (fun K hK => ?_)
      go_simp
      refine hK.out _ _ HS7.out ?_
      clear hK K hcp
      refine wpAnyH_done (by kernel_rfl) ?_ _
      have hc17 := HS7.out.1
      have p2 := H7.out.k2
      have p3 := H7.out.k3
      have p4 := H7.out.k4
      have p5 := H7.out.k5
      have p6 := H7.out.k6
      dsimp only at p2 p3 p4 p5 p6
      have HNX : Hid (∀ W, Below N w W → Calls Tryd.prog 38 #[.agg #[.string f.name, .slice f.pa f.params.length f.pc, .int .i64 f.regs, .int .i64 f.words, .slice f.ca f.code.length f.cc], .int .i64 (k : Int)] W (NxP (nxt f.code k) W)) := fun W hW => by
        have := next_any f k W ((HM.out W hW).2.2.2 f hf).2.2.2.2.2.1
        rwa [nxZ_nat] at this
      have HNL : Hid (∀ v ∈ nxt f.code k, v < f.code.length) := fun v hv => nxt_lt hv
      have HN2 : Hid ((nxt f.code k).length ≤ 2) := nxt_len f.code k
      clear hS0 c1 e7 e11 eI H6 HB6 HK6
      obtain ⟨W7, hW7⟩ : ∃ W7, cpW W6.drew L.gs (insA S k) = W7 := ⟨_, rfl⟩
      rw [hW7] at HB7 HK7 HS7 H7 hc17 p2 p3 p4 p5 p6 ⊢
      obtain ⟨sd, hsd2⟩ : ∃ sd, insA S k = sd := ⟨_, rfl⟩
      obtain ⟨nx, hnx⟩ : ∃ nx, nxt f.code k = nx := ⟨_, rfl⟩
      rw [hsd2] at H7 HSL HSG
      rw [hnx] at HNX HNL HN2
      clear hW7
      gi_wp2_with fail
      refine ⟨trivial, ?_⟩
      refine ((callsIn_wide.2 (HNX.out _ HB7.out)).inRound l).mono ?_
      rintro e W8 ⟨v8, rfl, on8, hb8⟩
      obtain ⟨na, nc, rfl⟩ := gown_form on8
      have HB8 := Hid.mk' (HB7.out.trans (hb8.mono (by have := H7.out.lt.1; omega)))
      have HR8 := Hid.mk' (rown_of on8)
      have H8 := Hid.mk' (H7.out.stay hb8)
      have HK8 := Hid.mk' (HK7.out.trans (KpO.of_below hb8))
      have HQ8 : Hid (∀ q, W7.heap.size ≤ q → ¬ OwnB f.code.length { L with bI := b' } S q) := fun q hq hO => by
        have := H7.out.own_lt (k := q) hO
        omega
      have hc8 := cell_kept_below hc17 hb8
      clear on8 hb8 HB7 HS7 HK7 HNX hc17 p2 p3 p4 p5 p6
      gi_wp2_with fail
      gi_loopw [38] (fun t38 wr => ∃ j : Nat, j ≤ nx.length ∧ t38 = .int .i64 (j : Int) ∧ KpO (OwnB f.code.length { L with bI := b' } S) W8 wr ∧ Below N w wr ∧ ∃ (b2 : Nat → Nat) (cm2 : List Sp), cm2.length = r ∧ WkAt N f.code.length r m f { L with bI := b2 } ((nx.take j).foldl (wayZ m f f.code[k] k sd) (offZ S k)) sd cm2 wr ∧ ∀ q, OwnB f.code.length { L with bI := b2 } ((nx.take j).foldl (wayZ m f f.code[k] k sd) (offZ S k)) q → OwnB f.code.length { L with bI := b' } S q ∨ W8.heap.size ≤ q) (fun t38 _ => nx.length - (intOf t38).toNat)
      case atStart => exact ⟨0, Nat.zero_le _, rfl, KpO.refl _ _, HB8.out, b', cm', h4, H8.out, fun q hq => .inl hq⟩
      case round =>
        obtain ⟨j, hj, rfl, hkr, hbr, b2, cm2, hc2, hat, hown⟩ := hrel
        have hboxr := HW5.out.box (HK8.out.trans hkr) H1.out
        by_cases hlt : j < nx.length
        · obtain ⟨tv, htv⟩ : ∃ tv, nx[j]? = some tv := ⟨_, List.getElem?_eq_getElem hlt⟩
          have HTV := Hid.mk' (HNL.out tv (List.mem_of_getElem? htv))
          obtain ⟨g8, rfl, d0⟩ := (HR8.out.keep hkr HQ8.out).at htv
          have hji : (j : Int) < (nx.length : Int) := by omega
          have htk : (nx.take (j + 1)).foldl (wayZ m f f.code[k] k sd) (offZ S k) = wayZ m f f.code[k] k sd ((nx.take j).foldl (wayZ m f f.code[k] k sd) (offZ S k)) tv := by
            have : nx[j] = tv := (List.getElem?_eq_some_iff.1 htv).2
            rw [List.take_succ_eq_append_getElem hlt, List.foldl_append, this]; rfl
          have HWT := Hid.mk' (way_inv H hx HSL.out HSG.out (nx.take j) (offZ S k) (fun v hv => HNL.out v (List.mem_of_mem_take hv)) (off_inv HWI.out hk).1).1
          obtain ⟨T, hT⟩ : ∃ T, (nx.take j).foldl (wayZ m f f.code[k] k sd) (offZ S k) = T := ⟨_, rfl⟩
          rw [hT] at htk HWT hat hown
          have HTK := Hid.mk' htk
          have HLT := Hid.mk' hlt
          have HKR := Hid.mk' hkr
          have HOW := Hid.mk' hown
          have HBR := Hid.mk' hbr
          have hc9 := cell_of_obj hboxr (j := 0) (v := .pointer (some ⟨L.B, 0, none⟩)) rfl
          clear htk hT htv hlt hkr hown hbr hc8
          have e11 := hat.k11
          have e12 := hat.k12
          dsimp only at e11 e12
          have hdr := Below.drew (Below.refl wr.heap.size wr)
          have hcp := fun ty => run_copyR 63 63 ty Tryd.underlying63 (hat.stay hdr).db (hat.stay hdr).sb hc2 HSL.out
          dsimp only at hcp
          have hop := cpW_only wr.drew L.gc sd
          have ha := (hat.stay hdr).setD hop (cpW_rgb (hat.stay hdr).db sd)
          have hka : KpO (OwnB f.code.length { L with bI := b' } S) W8 (cpW wr.drew L.gc sd) := (HKR.out.trans (KpO.of_below hdr)).trans (KpO.of_only hop .gc)
          have HBA : Hid (Below N w (cpW wr.drew L.gc sd)) := (HBR.out.trans (hdr.mono hat.lt.1)).trans (hop.below hat.lo.2.2.2.2.2.2 (by have := hat.lt.1; simpa using this))
          have hca := cell_of_obj (HW5.out.box (HK8.out.trans hka) H1.out) (j := 0) (v := .pointer (some ⟨L.B, 0, none⟩)) rfl
          have hS0 : (fun w' => w'.cell? ⟨w.heap.size, 0, none⟩ = some (.pointer (some ⟨L.B, 0, none⟩)) ∧ w'.cell? ⟨L.B, 12, none⟩ = some (.slice (some ⟨L.gc, 0, none⟩) r r) ∧ w'.cell? ⟨L.B, 11, none⟩ = some (.slice (some ⟨L.gs, 0, none⟩) r r)) wr.drew := ⟨hc9, e12, e11⟩
          have hSa : (fun w' => w'.cell? ⟨w.heap.size, 0, none⟩ = some (.pointer (some ⟨L.B, 0, none⟩)) ∧ w'.cell? ⟨L.B, 12, none⟩ = some (.slice (some ⟨L.gc, 0, none⟩) r r) ∧ w'.cell? ⟨L.B, 11, none⟩ = some (.slice (some ⟨L.gs, 0, none⟩) r r)) (cpW wr.drew L.gc sd) := ⟨hca, ha.k12, ha.k11⟩
          have HSa := Hid.mk' hSa
          have HA := Hid.mk' ha
          have HKA := Hid.mk' hka
          clear hSa ha hka hop hboxr
          gi_upto_region 10 with fail
          refine region_inR (fun w' => w'.cell? ⟨w.heap.size, 0, none⟩ = some (.pointer (some ⟨L.B, 0, none⟩)) ∧ w'.cell? ⟨L.B, 12, none⟩ = some (.slice (some ⟨L.gc, 0, none⟩) r r) ∧ w'.cell? ⟨L.B, 11, none⟩ = some (.slice (some ⟨L.gs, 0, none⟩) r r)) (by kernel_rfl) ?hqb (calm_list ?hsb) ?_
          case hqb =>
            rintro ⟨a, w', h⟩
            exact h.2
          case hsb =>
            intro o ho
            simp only [List.mem_cons, List.not_mem_nil, or_false] at ho
            rcases ho with rfl | rfl | rfl | rfl | rfl | rfl | rfl | rfl | rfl
            all_goals first | exact calm_load _ _ rfl | exact calm_nil _ rfl | exact calm_field _ _ _ rfl | exact calm_move _ rfl | exact calm_index _ _ _ rfl | exact calm_copy _ _ _ _ rfl 
          simp only [List.size_toArray, List.length_cons, List.length_nil, Nat.reduceAdd]
          refine wpAnyH_takeL (i := 0) (v := ?tvb0) rfl (by kernel_rfl) (by kernel_rfl) (by kernel_rfl) (fun _ _ _ h => h) (by rfl) ?tyb0 hS0 ?trb0
          case tyb0 => (intro w' hSw; (try dsimp only at hSw); go_split_ands; go_simp; try with_reducible rfl)
          simp only [Act.put, List.setIfInBounds_toArray, List.set_cons_zero, List.set_cons_succ]
          refine wpAnyH_takeL (i := 1) (v := ?tvb1) rfl (by kernel_rfl) (by kernel_rfl) (by kernel_rfl) (fun _ _ _ h => h) (by rfl) ?tyb1 hS0 ?trb1
          case tyb1 => (intro w' hSw; (try dsimp only at hSw); go_split_ands; go_simp; try with_reducible rfl)
          simp only [Act.put, List.setIfInBounds_toArray, List.set_cons_zero, List.set_cons_succ]
          refine wpAnyH_takeL (i := 2) (v := ?tvb2) rfl (by kernel_rfl) (by kernel_rfl) (by kernel_rfl) (fun _ _ _ h => h) (by rfl) ?tyb2 hS0 ?trb2
          case tyb2 => (intro w' hSw; (try dsimp only at hSw); go_split_ands; go_simp; try with_reducible rfl)
          simp only [Act.put, List.setIfInBounds_toArray, List.set_cons_zero, List.set_cons_succ]
          refine wpAnyH_takeL (i := 3) (v := ?tvb3) rfl (by kernel_rfl) (by kernel_rfl) (by kernel_rfl) (fun _ _ _ h => h) (by rfl) ?tyb3 hS0 ?trb3
          case tyb3 => (intro w' hSw; (try dsimp only at hSw); go_split_ands; go_simp; try with_reducible rfl)
          simp only [Act.put, List.setIfInBounds_toArray, List.set_cons_zero, List.set_cons_succ]
          refine wpAnyH_takeL (i := 4) (v := ?tvb4) rfl (by kernel_rfl) (by kernel_rfl) (by kernel_rfl) (fun _ _ _ h => h) (by rfl) ?tyb4 hS0 ?trb4
          case tyb4 => (intro w' hSw; (try dsimp only at hSw); go_split_ands; go_simp; try with_reducible rfl)
          simp only [Act.put, List.setIfInBounds_toArray, List.set_cons_zero, List.set_cons_succ]
          refine wpAnyH_takeL (i := 5) (v := ?tvb5) rfl (by kernel_rfl) (by kernel_rfl) (by kernel_rfl) (fun _ _ _ h => h) (by rfl) ?tyb5 hS0 ?trb5
          case tyb5 => (intro w' hSw; (try dsimp only at hSw); go_split_ands; go_simp; try with_reducible rfl)
          simp only [Act.put, List.setIfInBounds_toArray, List.set_cons_zero, List.set_cons_succ]
          refine wpAnyH_takeL (i := 6) (v := ?tvb6) rfl (by kernel_rfl) (by kernel_rfl) (by kernel_rfl) (fun _ _ _ h => h) (by rfl) ?tyb6 hS0 ?trb6
          case tyb6 => (intro w' hSw; (try dsimp only at hSw); go_split_ands; go_simp; try with_reducible rfl)
          simp only [Act.put, List.setIfInBounds_toArray, List.set_cons_zero, List.set_cons_succ]
          refine wpAnyH_takeL (i := 7) (v := ?tvb7) rfl (by kernel_rfl) (by kernel_rfl) (by kernel_rfl) (fun _ _ _ h => h) (by rfl) ?tyb7 hS0 ?trb7
          case tyb7 => (intro w' hSw; (try dsimp only at hSw); go_split_ands; go_simp; try with_reducible rfl)
          simp only [Act.put, List.setIfInBounds_toArray, List.set_cons_zero, List.set_cons_succ]
          refine wpAnyH_one (i := 8) (by kernel_rfl) rfl (fun K hK => ?_)
          go_simp
          refine hK.out _ _ HSa.out ?_
          clear hK K hcp
          refine wpAnyH_done (by kernel_rfl) ?_ _
          obtain ⟨Wa, hWa⟩ : ∃ Wa, cpW wr.drew L.gc sd = Wa := ⟨_, rfl⟩
          rw [hWa] at HA HKA HSa HBA hca ⊢
          clear hWa hS0 e11 e12 hc9 hat hdr
          have hdr := Below.drew (Below.refl Wa.heap.size Wa)
          have HPS : Hid (∀ W', Below N w W' → RgB W' L.gc sd → Calls Tryd.prog 40 #[.slice (some ⟨L.gc, 0, none⟩) r r, .agg #[.slice m.ta m.ths.length m.tc, .slice m.fa m.funcs.length m.fc], .agg #[.string f.name, .slice f.pa f.params.length f.pc, .int .i64 f.regs, .int .i64 f.words, .slice f.ca f.code.length f.cc], .int .i64 (k : Int), .int .i64 (tv : Int)] W' (RgP W' L.gc (psZ m f f.code[k] k tv sd).2 (psZ m f f.code[k] k tv sd).1)) := fun W' hW' hR' => by
            have hgc := HA.out.lo.2.2.2.2.2.2
            dsimp only at hgc
            have := pass_any m f f.code[k] k tv sd L.gc r hx (H.ok.ins k _ hx) (H.code _ (List.getElem_mem hk)) H.ok.len.2 H.ok.words.1 H.ok.words.2 (by rw [HSL.out]; exact H.r) (by rw [HSL.out]; exact H.r1.2) HSG.out.ok W' (HM.out W' hW') ((HM.out W' hW').2.2.2 f hf) (fun ad h => by have := HBN.out.1 ad h; omega) (fun ad h => by have := HBN.out.2.1 ad h; omega) (fun h hh hn ad e => by have := HBN.out.2.2 h hh hn ad e; omega) hR'
            rwa [HSL.out] at this
          have HPL : Hid ((psZ m f f.code[k] k tv sd).2.length = r) := by show _ = _; rw [psZ_len]; exact HSL.out
          have HTW : Hid (wayZ m f f.code[k] k sd T tv = if (psZ m f f.code[k] k tv sd).1 = true then mgZ m.ths T tv (psZ m f f.code[k] k tv sd).2 else T) := rfl
          obtain ⟨R, hR⟩ : ∃ R, psZ m f f.code[k] k tv sd = R := ⟨_, rfl⟩
          rw [hR] at HPS HPL HTW
          obtain ⟨Rb, Rl⟩ := R
          simp only at HPS HPL HTW
          clear hR
          have hd := HA.out.stay hdr
          have hS0 : (fun w' => w'.cell? ⟨w.heap.size, 0, none⟩ = some (.pointer (some ⟨L.B, 0, none⟩)) ∧ w'.cell? ⟨L.B, 12, none⟩ = some (.slice (some ⟨L.gc, 0, none⟩) r r) ∧ w'.cell? ⟨L.B, 0, none⟩ = some (.slice m.ta m.ths.length m.tc) ∧ w'.cell? ⟨L.B, 1, none⟩ = some (.slice m.fa m.funcs.length m.fc) ∧ w'.cell? ⟨L.B, 2, none⟩ = some (.string f.name) ∧ w'.cell? ⟨L.B, 3, none⟩ = some (.slice f.pa f.params.length f.pc) ∧ w'.cell? ⟨L.B, 4, none⟩ = some (.int .i64 f.regs) ∧ w'.cell? ⟨L.B, 5, none⟩ = some (.int .i64 f.words) ∧ w'.cell? ⟨L.B, 6, none⟩ = some (.slice f.ca f.code.length f.cc)) Wa.drew := ⟨hca, hd.k12, hd.k0, hd.k1, hd.k2, hd.k3, hd.k4, hd.k5, hd.k6⟩
          have HSW : Hid (∀ w5, OnlyB L.gc Wa.drew w5 → RgB w5 L.gc Rl → (fun w' => w'.cell? ⟨w.heap.size, 0, none⟩ = some (.pointer (some ⟨L.B, 0, none⟩)) ∧ w'.cell? ⟨L.B, 12, none⟩ = some (.slice (some ⟨L.gc, 0, none⟩) r r) ∧ w'.cell? ⟨L.B, 0, none⟩ = some (.slice m.ta m.ths.length m.tc) ∧ w'.cell? ⟨L.B, 1, none⟩ = some (.slice m.fa m.funcs.length m.fc) ∧ w'.cell? ⟨L.B, 2, none⟩ = some (.string f.name) ∧ w'.cell? ⟨L.B, 3, none⟩ = some (.slice f.pa f.params.length f.pc) ∧ w'.cell? ⟨L.B, 4, none⟩ = some (.int .i64 f.regs) ∧ w'.cell? ⟨L.B, 5, none⟩ = some (.int .i64 f.words) ∧ w'.cell? ⟨L.B, 6, none⟩ = some (.slice f.ca f.code.length f.cc)) w5 ∧ WkAt N f.code.length r m f { L with bI := b2 } T sd Rl w5 ∧ KpO (OwnB f.code.length { L with bI := b' } S) W8 w5 ∧ Below N w w5) := fun w5 ho hr5 => by
            have h5 := (HA.out.stay hdr).setD ho hr5
            have hk5 : KpO (OwnB f.code.length { L with bI := b' } S) W8 w5 := (HKA.out.trans (KpO.of_below hdr)).trans (KpO.of_only ho .gc)
            exact ⟨⟨cell_of_obj (HW5.out.box (HK8.out.trans hk5) H1.out) rfl, h5.k12, h5.k0, h5.k1, h5.k2, h5.k3, h5.k4, h5.k5, h5.k6⟩, h5, hk5, (HBA.out.trans (hdr.mono HA.out.lt.1)).trans (ho.below HA.out.lo.2.2.2.2.2.2 (by have := HA.out.lt.1; simpa using this))⟩
          have HRD := Hid.mk' hd.db
          clear hd hca
          gi_upto_region 11 with fail
          refine region_inR (fun w' => w'.cell? ⟨w.heap.size, 0, none⟩ = some (.pointer (some ⟨L.B, 0, none⟩)) ∧ w'.cell? ⟨L.B, 12, none⟩ = some (.slice (some ⟨L.gc, 0, none⟩) r r) ∧ w'.cell? ⟨L.B, 0, none⟩ = some (.slice m.ta m.ths.length m.tc) ∧ w'.cell? ⟨L.B, 1, none⟩ = some (.slice m.fa m.funcs.length m.fc) ∧ w'.cell? ⟨L.B, 2, none⟩ = some (.string f.name) ∧ w'.cell? ⟨L.B, 3, none⟩ = some (.slice f.pa f.params.length f.pc) ∧ w'.cell? ⟨L.B, 4, none⟩ = some (.int .i64 f.regs) ∧ w'.cell? ⟨L.B, 5, none⟩ = some (.int .i64 f.words) ∧ w'.cell? ⟨L.B, 6, none⟩ = some (.slice f.ca f.code.length f.cc)) (by kernel_rfl) ?hqc (calm_list ?hsc) ?_
          case hqc =>
            rintro ⟨a, w', h⟩
            exact h.2
          case hsc =>
            intro o ho
            simp only [List.mem_cons, List.not_mem_nil, or_false] at ho
            rcases ho with rfl | rfl | rfl | rfl | rfl | rfl | rfl | rfl | rfl | rfl | rfl | rfl | rfl | rfl | rfl
            all_goals first | exact calm_load _ _ rfl | exact calm_nil _ rfl | exact calm_field _ _ _ rfl | exact calm_move _ rfl | exact calm_index _ _ _ rfl | exact calm_copy _ _ _ _ rfl | exact calm_call _ _ _ rfl (enters_of Tryd.func40 (by kernel_rfl) rfl) 
          simp only [List.size_toArray, List.length_cons, List.length_nil, Nat.reduceAdd]
          refine wpAnyH_takeL (i := 0) (v := ?tvc0) rfl (by kernel_rfl) (by kernel_rfl) (by kernel_rfl) (fun _ _ _ h => h) (by rfl) ?tyc0 hS0 ?trc0
          case tyc0 => (intro w' hSw; (try dsimp only at hSw); go_split_ands; go_simp; try with_reducible rfl)
          simp only [Act.put, List.setIfInBounds_toArray, List.set_cons_zero, List.set_cons_succ]
          refine wpAnyH_takeL (i := 1) (v := ?tvc1) rfl (by kernel_rfl) (by kernel_rfl) (by kernel_rfl) (fun _ _ _ h => h) (by rfl) ?tyc1 hS0 ?trc1
          case tyc1 => (intro w' hSw; (try dsimp only at hSw); go_split_ands; go_simp; try with_reducible rfl)
          simp only [Act.put, List.setIfInBounds_toArray, List.set_cons_zero, List.set_cons_succ]
          refine wpAnyH_takeL (i := 2) (v := ?tvc2) rfl (by kernel_rfl) (by kernel_rfl) (by kernel_rfl) (fun _ _ _ h => h) (by rfl) ?tyc2 hS0 ?trc2
          case tyc2 => (intro w' hSw; (try dsimp only at hSw); go_split_ands; go_simp; try with_reducible rfl)
          simp only [Act.put, List.setIfInBounds_toArray, List.set_cons_zero, List.set_cons_succ]
          refine wpAnyH_takeL (i := 3) (v := ?tvc3) rfl (by kernel_rfl) (by kernel_rfl) (by kernel_rfl) (fun _ _ _ h => h) (by rfl) ?tyc3 hS0 ?trc3
          case tyc3 => (intro w' hSw; (try dsimp only at hSw); go_split_ands; go_simp; try with_reducible rfl)
          simp only [Act.put, List.setIfInBounds_toArray, List.set_cons_zero, List.set_cons_succ]
          refine wpAnyH_takeL (i := 4) (v := ?tvc4) rfl (by kernel_rfl) (by kernel_rfl) (by kernel_rfl) (fun _ _ _ h => h) (by rfl) ?tyc4 hS0 ?trc4
          case tyc4 => (intro w' hSw; (try dsimp only at hSw); go_split_ands; go_simp; try with_reducible rfl)
          simp only [Act.put, List.setIfInBounds_toArray, List.set_cons_zero, List.set_cons_succ]
          refine wpAnyH_takeL (i := 5) (v := ?tvc5) rfl (by kernel_rfl) (by kernel_rfl) (by kernel_rfl) (fun _ _ _ h => h) (by rfl) ?tyc5 hS0 ?trc5
          case tyc5 => (intro w' hSw; (try dsimp only at hSw); go_split_ands; go_simp; try with_reducible rfl)
          simp only [Act.put, List.setIfInBounds_toArray, List.set_cons_zero, List.set_cons_succ]
          refine wpAnyH_takeL (i := 6) (v := ?tvc6) rfl (by kernel_rfl) (by kernel_rfl) (by kernel_rfl) (fun _ _ _ h => h) (by rfl) ?tyc6 hS0 ?trc6
          case tyc6 => (intro w' hSw; (try dsimp only at hSw); go_split_ands; go_simp; try with_reducible rfl)
          simp only [Act.put, List.setIfInBounds_toArray, List.set_cons_zero, List.set_cons_succ]
          refine wpAnyH_takeL (i := 7) (v := ?tvc7) rfl (by kernel_rfl) (by kernel_rfl) (by kernel_rfl) (fun _ _ _ h => h) (by rfl) ?tyc7 hS0 ?trc7
          case tyc7 => (intro w' hSw; (try dsimp only at hSw); go_split_ands; go_simp; try with_reducible rfl)
          simp only [Act.put, List.setIfInBounds_toArray, List.set_cons_zero, List.set_cons_succ]
          refine wpAnyH_takeL (i := 8) (v := ?tvc8) rfl (by kernel_rfl) (by kernel_rfl) (by kernel_rfl) (fun _ _ _ h => h) (by rfl) ?tyc8 hS0 ?trc8
          case tyc8 => (intro w' hSw; (try dsimp only at hSw); go_split_ands; go_simp; try with_reducible rfl)
          simp only [Act.put, List.setIfInBounds_toArray, List.set_cons_zero, List.set_cons_succ]
          refine wpAnyH_takeL (i := 9) (v := ?tvc9) rfl (by kernel_rfl) (by kernel_rfl) (by kernel_rfl) (fun _ _ _ h => h) (by rfl) ?tyc9 hS0 ?trc9
          case tyc9 => (intro w' hSw; (try dsimp only at hSw); go_split_ands; go_simp; try with_reducible rfl)
          simp only [Act.put, List.setIfInBounds_toArray, List.set_cons_zero, List.set_cons_succ]
          refine wpAnyH_takeL (i := 10) (v := ?tvc10) rfl (by kernel_rfl) (by kernel_rfl) (by kernel_rfl) (fun _ _ _ h => h) (by rfl) ?tyc10 hS0 ?trc10
          case tyc10 => (intro w' hSw; (try dsimp only at hSw); go_split_ands; go_simp; try with_reducible rfl)
          simp only [Act.put, List.setIfInBounds_toArray, List.set_cons_zero, List.set_cons_succ]
          refine wpAnyH_takeL (i := 11) (v := ?tvc11) rfl (by kernel_rfl) (by kernel_rfl) (by kernel_rfl) (fun _ _ _ h => h) (by rfl) ?tyc11 hS0 ?trc11
          case tyc11 => (intro w' hSw; (try dsimp only at hSw); go_split_ands; go_simp; try with_reducible rfl)
          simp only [Act.put, List.setIfInBounds_toArray, List.set_cons_zero, List.set_cons_succ]
          refine wpAnyH_takeL (i := 12) (v := ?tvc12) rfl (by kernel_rfl) (by kernel_rfl) (by kernel_rfl) (fun _ _ _ h => h) (by rfl) ?tyc12 hS0 ?trc12
          case tyc12 => (intro w' hSw; (try dsimp only at hSw); go_split_ands; go_simp; try with_reducible rfl)
          simp only [Act.put, List.setIfInBounds_toArray, List.set_cons_zero, List.set_cons_succ]
          refine wpAnyH_takeL (i := 13) (v := ?tvc13) rfl (by kernel_rfl) (by kernel_rfl) (by kernel_rfl) (fun _ _ _ h => h) (by rfl) ?tyc13 hS0 ?trc13
          case tyc13 => (intro w' hSw; (try dsimp only at hSw); go_split_ands; go_simp; try with_reducible rfl)
          simp only [Act.put, List.setIfInBounds_toArray, List.set_cons_zero, List.set_cons_succ]
          refine wpAnyH_one (i := 14) (by kernel_rfl) rfl (fun K hK => ?_)
          go_simp
          go_at_call 40
          refine (HPS.out _ (HBA.out.trans (hdr.mono HA.out.lt.1)) HRD.out).mono ?_
          rintro e w5 ⟨rfl, hr5, ho5⟩
          obtain ⟨hs5, hat5, hk5, hb5⟩ := HSW.out w5 ho5 hr5
          refine hK.out _ _ hs5 ?_
          clear hK K hS0
          refine wpAnyH_done (by kernel_rfl) ?_ _
          have hb2 : j < 2 := by have := HLT.out; have := HN2.out; omega
          have hjw : IntKind.i64.wrap ((j : Int) + 1) = ((j + 1 : Nat) : Int) := by rw [IntKind.wrap_i64]; omega
          have HK5 := Hid.mk' hk5
          have HB5 := Hid.mk' hb5
          have HA5 := Hid.mk' hat5
          have hbx5 := hs5.1
          clear hk5 hb5 hat5 hs5 hr5 ho5 HSW HPS
          cases Rb
          · have HF : Hid ((nx.take (j + 1)).foldl (wayZ m f f.code[k] k sd) (offZ S k) = T) := HTK.out.trans (HTW.out.trans (if_neg (by decide)))
            gi_wp2_with fail
            go_roundw
            case rel => exact ⟨j + 1, (by have := HLT.out; omega), by go_num, HK5.out, HB5.out, b2, Rl, HPL.out, by rw [HF.out]; exact HA5.out, by rw [HF.out]; exact HOW.out⟩
            case measure => (have := HLT.out; simp [intOf]; omega)
          · have HF : Hid ((nx.take (j + 1)).foldl (wayZ m f f.code[k] k sd) (offZ S k) = mgZ m.ths T tv Rl) := HTK.out.trans (HTW.out.trans (if_pos rfl))
            have HMG := Hid.mk' (merge_any w5 HA5.out HWT.out HTV.out H.r1.1 H.r1.2 HPL.out htl (fun W' hW' => (HM.out W' (HB5.out.trans hW')).1))
            gi_wp2_with fail
            refine ⟨trivial, ?_⟩
            refine ((callsIn_wide.2 HMG.out).inRound l).mono ?_
            rintro e w6 ⟨⟨v, rfl⟩, hb6, hk6, b3, hat6, hown6⟩
            have HK6 := Hid.mk' (KpO.step HK5.out HOW.out hk6)
            have HB6 := Hid.mk' (HB5.out.trans hb6)
            have HA6 := Hid.mk' hat6
            have HO6 : Hid (∀ q, OwnB f.code.length { L with bI := b3 } (mgZ m.ths T tv Rl) q → OwnB f.code.length { L with bI := b' } S q ∨ W8.heap.size ≤ q) := fun q hq => by
              rcases hown6 q hq with h | h
              · exact HOW.out q h
              · exact .inr (Nat.le_trans HK5.out.1 h)
            clear hb6 hk6 hat6 hown6 HMG
            gi_wp2_with fail
            go_roundw
            case rel => exact ⟨j + 1, (by have := HLT.out; omega), by go_num, HK6.out, HB6.out, b3, Rl, HPL.out, by rw [HF.out]; exact HA6.out, by rw [HF.out]; exact HO6.out⟩
            case measure => (have := HLT.out; simp [intOf]; omega)
        · obtain rfl : j = nx.length := by omega
          rw [List.take_length] at hat
          have hji : ¬ (nx.length : Int) < (nx.length : Int) := by omega
          have HK5 := Hid.mk' (HK8.out.trans hkr)
          have HBR := Hid.mk' hbr
          have HA5 := Hid.mk' hat
          clear hkr hbr hat hown hc8 hboxr
          gi_wp2_with fail
          exact ⟨(HW5.out.kf HK5.out).from _, HW5.out.box HK5.out H1.out, HW5.out.box HK5.out H0.out, HBR.out, b2, sd, HSL.out, cm2, hc2, HA5.out⟩
end Go.Proofs.YtfmkjdfidenfkaaDoor
