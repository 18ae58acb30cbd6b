/- Bounds: the beginning of an analysis. -/
import Derived.Test.YtfmkjdfidenfkaaDoorVf
import Derived.Test.YtfmkjdfidenfkaaDoorVi
import Derived.Deep.RegionHeld3
namespace Go.Proofs.YtfmkjdfidenfkaaDoor
open Go.RowKit
open S8 (meetB meetS joinS widS belA belB belC allS doR doB doS emB pot sv join_any widen_any)

/-- The cells of an analysis, four of them open. -/
def wkP (m : Mo) (f : Fn) (n gM gJ : Nat) (vI vC vs vc : Value) : Array Value := #[.slice m.ta m.ths.length m.tc, .slice m.fa m.funcs.length m.fc, .string f.name, .slice f.pa f.params.length f.pc, .int .i64 f.regs, .int .i64 f.words, .slice f.ca n f.cc, vI, vC, .slice (some ⟨gM, 0, none⟩) n n, .slice (some ⟨gJ, 0, none⟩) n n, vs, vc]
/-- What begin tells. -/
def BgP (m : Mo) (f : Fn) (r : Nat) (w : World) (e : Ending) (w' : World) : Prop := ∃ (L : Lay) (sd cm : List Sp), e = .returned (.pointer (some ⟨L.B, 0, none⟩)) ∧ Below w.heap.size w w' ∧ sd.length = r ∧ cm.length = r ∧ WkAt w.heap.size f.code.length r m f L (begW f) sd cm w'

theorem BgP.drew {m : Mo} {f : Fn} {r : Nat} {w : World} {e : Ending} {W : World} (h : BgP m f r w e W) : BgP m f r w e W.drew := by
  obtain ⟨L, sd, cm, h1, h2, h3, h4, h5⟩ := h
  exact ⟨L, sd, cm, h1, h2.drew, h3, h4, h5.stay (Below.drew (Below.refl _ _))⟩
theorem three_new (W : World) (o1 o2 o3 : Obj) : (((W.alloc o1).alloc o2).alloc o3).heap[W.heap.size]? = some o1 ∧ (((W.alloc o1).alloc o2).alloc o3).heap[W.heap.size + 1]? = some o2 ∧ (((W.alloc o1).alloc o2).alloc o3).heap[W.heap.size + 1 + 1]? = some o3 ∧ Below W.heap.size W (((W.alloc o1).alloc o2).alloc o3) := by
  have h1 := heap_alloc_new W o1
  have h2 := heap_alloc_new (W.alloc o1) o2
  have h3 := heap_alloc_new ((W.alloc o1).alloc o2) o3
  rw [World.size_alloc] at h2 h3
  rw [World.size_alloc] at h3
  exact ⟨blk_stay h1 (Below.one (Below.one (Below.refl _ _) _) _), blk_stay h2 (Below.one (Below.refl _ _) _), h3, Below.one (Below.one (Below.one (Below.refl _ _) _) _) _⟩
theorem two_nw (W : World) (o1 o2 : Obj) : ((W.alloc o1).alloc o2).heap[W.heap.size]? = some o1 ∧ ((W.alloc o1).alloc o2).heap[W.heap.size + 1]? = some o2 ∧ Below W.heap.size W ((W.alloc o1).alloc o2) := by
  have h1 := heap_alloc_new W o1
  have h2 := heap_alloc_new (W.alloc o1) o2
  rw [World.size_alloc] at h2
  exact ⟨blk_stay h1 (Below.one (Below.refl _ _) _), h2, Below.one (Below.one (Below.refl _ _) _) _⟩
/-- All stays but a row, which stays a row. -/
def KB (B : Nat) (T : TypeId) (W X : World) : Prop := OnlyB B W X ∧ ∃ cs, X.heap[B]? = some (.cells cs T)
theorem KB.drew {B : Nat} {T : TypeId} {W X : World} (h : KB B T W X) : KB B T W X.drew := ⟨h.1.drew, h.2⟩
theorem KB.one {B : Nat} {T : TypeId} {W X : World} (h : KB B T W X) (o : Obj) : KB B T W (X.alloc o) := by
  obtain ⟨h1, cs, h2⟩ := h
  have hb := Below.one (Below.refl X.heap.size X) o
  exact ⟨h1.trans (OnlyB.of_below hb), cs, blk_stay h2 hb⟩
theorem KB.set {B : Nat} {T : TypeId} {W X : World} (h : KB B T W X) (i : Nat) (v : Value) : KB B T W (X.setCell ⟨B, i, none⟩ v) := by
  obtain ⟨h1, cs, h2⟩ := h
  exact ⟨h1.set i v, _, heap_setCell_same X B i cs T v h2⟩

theorem two_put (wc : World) (B : Nat) (cs : Array Value) (T : TypeId) (hB : wc.heap[B]? = some (.cells cs T)) (Z : Obj) (v u : Value) (X : World) (hX : X = (((wc.alloc Z).alloc Z).setCell ⟨B, 11, none⟩ v).setCell ⟨B, 12, none⟩ u ∨ X = (((wc.alloc Z).setCell ⟨B, 11, none⟩ v).alloc Z).setCell ⟨B, 12, none⟩ u) : X.heap[B]? = some (.cells ((cs.setIfInBounds 11 v).setIfInBounds 12 u) T) ∧ X.heap[wc.heap.size]? = some Z ∧ X.heap[wc.heap.size + 1]? = some Z ∧ OnlyB B wc X := by
  have hlt := (Array.getElem?_eq_some_iff.1 hB).1
  have b1 := Below.one (Below.refl _ wc) Z
  have n1 := heap_alloc_new wc Z
  rcases hX with rfl | rfl
  · obtain ⟨t1, t2, t3⟩ := two_nw wc Z Z
    have h1 := heap_setCell_same _ B 11 cs T v (blk_stay hB t3)
    have ho := ((OnlyB.refl B ((wc.alloc Z).alloc Z)).set 11 v).set 12 u
    exact ⟨heap_setCell_same _ B 12 _ T u h1, ho.blk t1 (by omega), ho.blk t2 (by omega), (OnlyB.of_below t3).trans ho⟩
  · have h1 := heap_setCell_same _ B 11 cs T v (blk_stay hB b1)
    have ho := (OnlyB.refl B (wc.alloc Z)).set 11 v
    have hs : ((wc.alloc Z).setCell ⟨B, 11, none⟩ v).heap.size = wc.heap.size + 1 := by simp [World.setCell]
    have b2 := Below.one (Below.refl _ ((wc.alloc Z).setCell ⟨B, 11, none⟩ v)) Z
    have n2 := heap_alloc_new ((wc.alloc Z).setCell ⟨B, 11, none⟩ v) Z
    rw [hs] at n2
    have ho2 := (OnlyB.refl B (((wc.alloc Z).setCell ⟨B, 11, none⟩ v).alloc Z)).set 12 u
    exact ⟨heap_setCell_same _ B 12 _ T u (blk_stay h1 b2), ho2.blk (blk_stay (ho.blk n1 (by omega)) b2) (by omega), ho2.blk n2 (by omega), (((OnlyB.of_below b1).trans ho).trans (OnlyB.of_below b2)).trans ho2⟩

set_option maxRecDepth 100000 in
set_option maxHeartbeats 8000000 in
theorem begin_any {m : Mo} {f : Fn} {r : Nat} (H : FnR m f r) (w : World) (hm : m.In w) (hf : f ∈ m.funcs) : Calls Tryd.prog 20 #[m.val, f.val] w (BgP m f r w) := by
  have hlen := H.ok.len
  have hr1 := H.r1
  have hrr := H.r
  obtain ⟨n, hn⟩ : ∃ n, f.code.length = n := ⟨_, rfl⟩
  rw [hn] at hlen
  have hmkB := fun W => run_mkB W n (by omega)
  have hmkN := fun W => run_mkN W n (by omega)
  have hmkS : ∀ W, (Instr.makeSlice 63 (.int .i64 f.regs) (.int .i64 f.regs)).run Tryd.prog W = .ok (.slice (some ⟨W.heap.size, 0, none⟩) r r) (W.alloc (.cells ((zS r).flatMap spC).toArray 54)) := fun W => by
    have := run_mkS 63 Tryd.underlying63 W r (by omega)
    rwa [hrr] at this
  have hmkI := fun W => run_mkI W n (by omega)
  have hmkC := fun W => run_mkC W n (by omega)
  have hmkR : ∀ W, (Instr.makeSlice 38 (.int .i64 f.regs) (.int .i64 f.regs)).run Tryd.prog W = .ok (.slice (some ⟨W.heap.size, 0, none⟩) r r) (W.alloc (.cells (mkN r) 3)) := fun W => by
    have := run_mkN W r (by omega)
    rwa [hrr] at this
  have hmkQ : ∀ W, (Instr.makeSlice 34 (.int .i64 f.regs) (.int .i64 f.regs)).run Tryd.prog W = .ok (.slice (some ⟨W.heap.size, 0, none⟩) r r) (W.alloc (.cells ((zS r).flatMap spC).toArray 54)) := fun W => by
    have := run_mkS 34 Tryd.underlying34 W r (by omega)
    rwa [hrr] at this
  unfold Mo.val Fn.val
  rw [hn]
  go_enter Tryd.func20, Tryd.ntmps20
  go_upto_region 2 with fail
  have B2 := Below.one (Below.one (Below.refl _ w) (.cells #[.slice m.ta m.ths.length m.tc, .slice m.fa m.funcs.length m.fc] 25)) (.cells #[.string f.name, .slice f.pa f.params.length f.pc, .int .i64 f.regs, .int .i64 f.words, .slice f.ca n f.cc] 37)
  have hM := blk_stay (heap_alloc_new w (.cells #[.slice m.ta m.ths.length m.tc, .slice m.fa m.funcs.length m.fc] 25)) (Below.one (Below.refl _ _) (.cells #[.string f.name, .slice f.pa f.params.length f.pc, .int .i64 f.regs, .int .i64 f.words, .slice f.ca n f.cc] 37))
  have hF := heap_alloc_new (w.alloc (.cells #[.slice m.ta m.ths.length m.tc, .slice m.fa m.funcs.length m.fc] 25)) (.cells #[.string f.name, .slice f.pa f.params.length f.pc, .int .i64 f.regs, .int .i64 f.words, .slice f.ca n f.cc] 37)
  rw [World.size_alloc] at hF
  have HMB := Hid.mk' hM
  have HFB := Hid.mk' hF
  have HB2 := Hid.mk' B2
  have hsz : ((w.alloc (.cells #[.slice m.ta m.ths.length m.tc, .slice m.fa m.funcs.length m.fc] 25)).alloc (.cells #[.string f.name, .slice f.pa f.params.length f.pc, .int .i64 f.regs, .int .i64 f.words, .slice f.ca n f.cc] 37)).heap.size = w.heap.size + 2 := by simp
  generalize (w.alloc (.cells #[.slice m.ta m.ths.length m.tc, .slice m.fa m.funcs.length m.fc] 25)).alloc (.cells #[.string f.name, .slice f.pa f.params.length f.pc, .int .i64 f.regs, .int .i64 f.words, .slice f.ca n f.cc] 37) = W at *
  have x0 := cell_of_obj hM (j := 0) (v := .slice m.ta m.ths.length m.tc) rfl
  have x1 := cell_of_obj hM (j := 1) (v := .slice m.fa m.funcs.length m.fc) rfl
  have y0 := cell_of_obj hF (j := 0) (v := .string f.name) rfl
  have y1 := cell_of_obj hF (j := 1) (v := .slice f.pa f.params.length f.pc) rfl
  have y2 := cell_of_obj hF (j := 2) (v := .int .i64 f.regs) rfl
  have y3 := cell_of_obj hF (j := 3) (v := .int .i64 f.words) rfl
  have y4 := cell_of_obj hF (j := 4) (v := .slice f.ca n f.cc) rfl
  clear hM hF B2
  have HSZ := Hid.mk' hsz
  clear hsz
  go_cut [6] from 12 to 19 (fun t6 wx => ∃ B gM gJ : Nat, t6 = .pointer (some ⟨B, 0, none⟩) ∧ wx.heap[B]? = some (.cells (wkP m f n gM gJ (.slice none 0 0) (.slice none 0 0) (.slice none 0 0) (.slice none 0 0)) 65) ∧ wx.heap[gM]? = some (.cells (mkB n) 4) ∧ wx.heap[gJ]? = some (.cells (mkN n) 3) ∧ w.heap.size ≤ B ∧ w.heap.size ≤ gM ∧ w.heap.size ≤ gJ ∧ Below W.heap.size W wx)
  case first =>
    have HKS : Hid (∀ X, Below W.heap.size W X → (fun w' => w'.cell? ⟨w.heap.size, 0, none⟩ = some (.slice m.ta m.ths.length m.tc) ∧ w'.cell? ⟨w.heap.size, 1, none⟩ = some (.slice m.fa m.funcs.length m.fc) ∧ w'.cell? ⟨w.heap.size + 1, 0, none⟩ = some (.string f.name) ∧ w'.cell? ⟨w.heap.size + 1, 1, none⟩ = some (.slice f.pa f.params.length f.pc) ∧ w'.cell? ⟨w.heap.size + 1, 2, none⟩ = some (.int .i64 f.regs) ∧ w'.cell? ⟨w.heap.size + 1, 3, none⟩ = some (.int .i64 f.words) ∧ w'.cell? ⟨w.heap.size + 1, 4, none⟩ = some (.slice f.ca n f.cc)) X) := fun X h => ⟨cell_kept_below x0 h, cell_kept_below x1 h, cell_kept_below y0 h, cell_kept_below y1 h, cell_kept_below y2 h, cell_kept_below y3 h, cell_kept_below y4 h⟩
    go_region_held3 (fun w' => w'.cell? ⟨w.heap.size, 0, none⟩ = some (.slice m.ta m.ths.length m.tc) ∧ w'.cell? ⟨w.heap.size, 1, none⟩ = some (.slice m.fa m.funcs.length m.fc) ∧ w'.cell? ⟨w.heap.size + 1, 0, none⟩ = some (.string f.name) ∧ w'.cell? ⟨w.heap.size + 1, 1, none⟩ = some (.slice f.pa f.params.length f.pc) ∧ w'.cell? ⟨w.heap.size + 1, 2, none⟩ = some (.int .i64 f.regs) ∧ w'.cell? ⟨w.heap.size + 1, 3, none⟩ = some (.int .i64 f.words) ∧ w'.cell? ⟨w.heap.size + 1, 4, none⟩ = some (.slice f.ca n f.cc)) ((refine HKS.out _ ?_; repeat (first | exact Below.refl _ _ | refine Below.drew ?_ | refine Below.one ?_ _))) (fail)
    all_goals go_wp2_with fail
    · go_meet
      case rel =>
        obtain ⟨h1, h2, h3, h4⟩ := three_new W (.cells (mkB n) 4) (.cells (mkN n) 3) (.cells (wkP m f n W.heap.size (W.heap.size + 1) (.slice none 0 0) (.slice none 0 0) (.slice none 0 0) (.slice none 0 0)) 65)
        have := HSZ.out
        exact ⟨_, _, _, rfl, h3, h1, h2, by omega, by omega, by omega, h4.drew⟩
    · go_meet
      case rel =>
        obtain ⟨h1, h2, h3, h4⟩ := three_new W (.cells (mkN n) 3) (.cells (mkB n) 4) (.cells (wkP m f n (W.heap.size + 1) W.heap.size (.slice none 0 0) (.slice none 0 0) (.slice none 0 0) (.slice none 0 0)) 65)
        have := HSZ.out
        exact ⟨_, _, _, rfl, h3, h2, h1, by omega, by omega, by omega, h4.drew⟩
  case rest =>
    obtain ⟨B, gM, gJ, rfl, hB, hM, hJ, lB, lM, lJ, hb⟩ := hcut
    generalize wc = Wc at *
    have z2 := cell_kept_below y2 hb
    have a11 := cell_of_obj hB (j := 11) (v := .slice none 0 0) rfl
    have a12 := cell_of_obj hB (j := 12) (v := .slice none 0 0) rfl
    have hF := blk_stay HFB.out hb
    have HF2 := Hid.mk' hF
    have HBB := Hid.mk' hB
    have HMM := Hid.mk' hM
    have HJJ := Hid.mk' hJ
    have HL := Hid.mk' (And.intro lB (And.intro lM lJ))
    have HB3 := Hid.mk' (Below.on HB2.out hb)
    have HKB : Hid (KB B 65 Wc Wc) := ⟨OnlyB.refl _ _, _, hB⟩
    have HKS : Hid (∀ X, KB B 65 Wc X → (fun w' => w'.cell? ⟨w.heap.size + 1, 2, none⟩ = some (.int .i64 f.regs) ∧ w'.frozen? ⟨B, 11, none⟩ = false ∧ w'.frozen? ⟨B, 12, none⟩ = false) X) := fun X h => ⟨cell_of_obj (h.1.blk hF (ne_ty hF hB (by decide))) rfl, by obtain ⟨cs, e⟩ := h.2; exact Lib.frozen_of_heap e 11, by obtain ⟨cs, e⟩ := h.2; exact Lib.frozen_of_heap e 12⟩
    have fB := HKS.out _ HKB.out
    obtain ⟨t1, t2, t3⟩ := two_nw Wc (.cells ((zS r).flatMap spC).toArray 54) (.cells ((zS r).flatMap spC).toArray 54)
    have g11 := cell_kept_below a11 t3
    have g12 := cell_kept_below a12 t3
    have kf := fun j => Lib.frozen_of_heap (blk_stay hB t3) j
    have b1 := Below.one (Below.refl _ Wc) (.cells ((zS r).flatMap spC).toArray 54)
    have g1 := cell_kept_below a11 b1
    have kf1 := fun j => Lib.frozen_of_heap (blk_stay hB b1) j
    have g2 : ∀ v, (((Wc.alloc (.cells ((zS r).flatMap spC).toArray 54)).setCell ⟨B, 11, none⟩ v).alloc (.cells ((zS r).flatMap spC).toArray 54)).cell? ⟨B, 12, none⟩ = some (.slice none 0 0) := fun v => by
      have h1 := heap_setCell_same _ B 11 _ _ v (blk_stay hB b1)
      exact cell_of_obj (blk_stay h1 (Below.one (Below.refl _ _) _)) rfl
    have kf2 : ∀ v j, (((Wc.alloc (.cells ((zS r).flatMap spC).toArray 54)).setCell ⟨B, 11, none⟩ v).alloc (.cells ((zS r).flatMap spC).toArray 54)).frozen? ⟨B, j, none⟩ = false := fun v j => by
      have h1 := heap_setCell_same _ B 11 _ _ v (blk_stay hB b1)
      exact Lib.frozen_of_heap (blk_stay h1 (Below.one (Below.refl _ _) _)) j
    have hsz1 : ∀ v, ((Wc.alloc (.cells ((zS r).flatMap spC).toArray 54)).setCell ⟨B, 11, none⟩ v).heap.size = Wc.heap.size + 1 := fun v => by simp [World.setCell]
    have HP := Hid.mk' fun v u X hX => two_put Wc B _ _ hB (.cells ((zS r).flatMap spC).toArray 54) v u X hX
    clear b1
    clear x0 x1 y0 y1 y2 y3 y4 hB hM hJ lB lM lJ hb hF t1 t2 t3
    go_upto_region 3 with fail
    go_cut [] from 20 to 31 (fun wx => ∃ gs gc : Nat, wx.heap[B]? = some (.cells (wkP m f n gM gJ (.slice none 0 0) (.slice none 0 0) (.slice (some ⟨gs, 0, none⟩) r r) (.slice (some ⟨gc, 0, none⟩) r r)) 65) ∧ RgB wx gs (zS r) ∧ RgB wx gc (zS r) ∧ gs ≠ gc ∧ w.heap.size ≤ gs ∧ w.heap.size ≤ gc ∧ OnlyB B Wc wx)
    case first =>
      go_region_held3 (fun w' => w'.cell? ⟨w.heap.size + 1, 2, none⟩ = some (.int .i64 f.regs) ∧ w'.frozen? ⟨B, 11, none⟩ = false ∧ w'.frozen? ⟨B, 12, none⟩ = false) ((refine HKS.out _ ?_; repeat (first | exact HKB.out | refine KB.drew ?_ | refine KB.one ?_ _ | refine KB.set ?_ _ _))) (fail)
      all_goals go_wp2_with fail
      all_goals have hs0 := HB3.out.size
      · go_meet
        case rel =>
          obtain ⟨p1, p2, p3, p4⟩ := HP.out (.slice (some ⟨Wc.heap.size, 0, none⟩) r r) (.slice (some ⟨Wc.heap.size + 1, 0, none⟩) r r) _ (.inl rfl)
          exact ⟨Wc.heap.size, Wc.heap.size + 1, p1, p2, p3, by omega, by omega, by omega, p4.drew⟩
      · go_meet
        case rel =>
          obtain ⟨p1, p2, p3, p4⟩ := HP.out (.slice (some ⟨Wc.heap.size, 0, none⟩) r r) (.slice (some ⟨Wc.heap.size + 1, 0, none⟩) r r) _ (.inr rfl)
          exact ⟨Wc.heap.size, Wc.heap.size + 1, p1, p2, p3, by omega, by omega, by omega, p4.drew⟩
      · go_meet
        case rel =>
          obtain ⟨p1, p2, p3, p4⟩ := HP.out (.slice (some ⟨Wc.heap.size + 1, 0, none⟩) r r) (.slice (some ⟨Wc.heap.size, 0, none⟩) r r) _ (.inl rfl)
          exact ⟨Wc.heap.size + 1, Wc.heap.size, p1, p3, p2, by omega, by omega, by omega, p4.drew⟩
    case rest =>
      obtain ⟨gs, gc, hB, hs, hc, hne, ls, lc, ho⟩ := hcut
      generalize wc = Wd at *
      have hlB := (Array.getElem?_eq_some_iff.1 HBB.out).1
      have HO := Hid.mk' ho
      have hF3 := ho.blk HF2.out (ne_ty HF2.out HBB.out (by decide))
      have hM3 := ho.blk HMM.out (ne_ty HMM.out HBB.out (by decide))
      have hJ3 := ho.blk HJJ.out (ne_ty HJJ.out HBB.out (by decide))
      have HBd : Hid (Below w.heap.size w Wd) := HB3.out.trans (ho.below HL.out.1 HB3.out.size)
      have HD := Hid.mk' (And.intro hs (And.intro hc (And.intro hne (And.intro ls (And.intro lc (And.intro (ne_ty hs hB (by decide)) (ne_ty hc hB (by decide))))))))
      have b4 := Below.one (Below.refl _ Wd) (.cells (mkZ n) 34)
      have n4 := heap_alloc_new Wd (.cells (mkZ n) 34)
      have a7 := cell_kept_below (cell_of_obj hB (j := 7) (v := .slice none 0 0) rfl) b4
      have f7 := fun j => Lib.frozen_of_heap (blk_stay hB b4) j
      have o4 := (OnlyB.refl B (Wd.alloc (.cells (mkZ n) 34))).set 7 (.slice (some ⟨Wd.heap.size, 0, none⟩) n n)
      have hB4 := heap_setCell_same _ B 7 _ _ (.slice (some ⟨Wd.heap.size, 0, none⟩) n n) (blk_stay hB b4)
      have HG4 := Hid.mk' (And.intro (o4.blk n4 (by have := hB; have := (Array.getElem?_eq_some_iff.1 this).1; omega)) ((OnlyB.of_below b4).trans o4))
      have HB4 := Hid.mk' hB4
      clear HP g1 g11 g12 kf kf1 kf2 g2 hsz1 fB a11 a12 z2 hB hs hc hne ls lc ho hF3 hM3 hJ3 b4 n4 o4 hB4
      go_upto_region 5 with fail
      generalize (Wd.alloc (.cells (mkZ n) 34)).setCell ⟨B, 7, none⟩ (.slice (some ⟨Wd.heap.size, 0, none⟩) n n) = W4 at *
      have hB4 : W4.heap[B]? = some (.cells (wkP m f n gM gJ (.slice (some ⟨Wd.heap.size, 0, none⟩) n n) (.slice none 0 0) (.slice (some ⟨gs, 0, none⟩) r r) (.slice (some ⟨gc, 0, none⟩) r r)) 65) := HB4.out
      have b5 := Below.one (Below.refl _ W4) (.cells (mkZ n) 38)
      have n5 := heap_alloc_new W4 (.cells (mkZ n) 38)
      have a8 := cell_kept_below (cell_of_obj hB4 (j := 8) (v := .slice none 0 0) rfl) b5
      have f8 := fun j => Lib.frozen_of_heap (blk_stay hB4 b5) j
      have hlB4 := (Array.getElem?_eq_some_iff.1 hB4).1
      have o5 := (OnlyB.refl B (W4.alloc (.cells (mkZ n) 38))).set 8 (.slice (some ⟨W4.heap.size, 0, none⟩) n n)
      have hB5 := heap_setCell_same _ B 8 _ _ (.slice (some ⟨W4.heap.size, 0, none⟩) n n) (blk_stay hB4 b5)
      have o45 := (OnlyB.of_below b5).trans o5
      have hI5 := o45.blk HG4.out.1 (by have := HO.out.size; omega)
      have hC5 := o5.blk n5 (by omega)
      have HO5 := Hid.mk' (HG4.out.2.trans o45)
      have HI5 := Hid.mk' hI5
      have HC5 := Hid.mk' hC5
      have HB5 := Hid.mk' hB5
      clear b5 n5 o5 hB5 o45 hI5 hC5 hB4 a7 f7 hlB4 hlB
      go_upto_region 6 with fail
      generalize (W4.alloc (.cells (mkZ n) 38)).setCell ⟨B, 8, none⟩ (.slice (some ⟨W4.heap.size, 0, none⟩) n n) = W5 at *
      have HGI : Hid (w.heap.size ≤ Wd.heap.size ∧ w.heap.size ≤ W4.heap.size ∧ Wd.heap.size < W5.heap.size) := by
        have h1 := HBd.out.size
        have h2 := HG4.out.2.size
        have h3 := (Array.getElem?_eq_some_iff.1 HI5.out).1
        exact ⟨h1, by omega, h3⟩
      generalize Wd.heap.size = gI at *
      generalize W4.heap.size = gC at *
      have hB5 : W5.heap[B]? = some (.cells (wkP m f n gM gJ (.slice (some ⟨gI, 0, none⟩) n n) (.slice (some ⟨gC, 0, none⟩) n n) (.slice (some ⟨gs, 0, none⟩) r r) (.slice (some ⟨gc, 0, none⟩) r r)) 65) := HB5.out
      have hO := HO.out.trans HO5.out
      have hF5 := hO.blk HF2.out (ne_ty HF2.out HBB.out (by decide))
      have hM5 := hO.blk HMM.out (ne_ty HMM.out HBB.out (by decide))
      have hJ5 := hO.blk HJJ.out (ne_ty HJJ.out HBB.out (by decide))
      have hs5 := HD.out.1.only HO5.out HD.out.2.2.2.2.2.1
      have hc5 := HD.out.2.1.only HO5.out HD.out.2.2.2.2.2.2
      have HBX : Hid (Below w.heap.size w W5) := HBd.out.trans (HO5.out.below HL.out.1 HBd.out.size)
      have HF5 := Hid.mk' hF5
      have HM5 := Hid.mk' hM5
      have HJ5 := Hid.mk' hJ5
      have HS5 := Hid.mk' (And.intro hs5 hc5)
      have HV5 := Hid.mk' hB5
      have hn8 : n ≤ 1024 := hlen.2
      clear hO hF5 hM5 hJ5 hs5 hc5 hB5 HB4 HG4 HB5 HO5 a8 f8
      go_wp2_with fail
      go_loopw [45] (fun t45 wr => ∃ (k : Nat) (bC : Nat → Nat), k ≤ n ∧ t45 = .int .i64 (k : Int) ∧ OnlyB gC W5 wr ∧ wr.heap[gC]? = some (.cells (chK2 bC r n k) 38) ∧ (∀ i, i < k → wr.heap[bC i]? = some (.cells (mkN r) 3) ∧ W5.heap.size ≤ bC i) ∧ ∀ i j, i < k → j < k → i ≠ j → bC i ≠ bC j) (fun t45 _ => n - (intOf t45).toNat)
      case atStart => exact ⟨0, fun _ => 0, Nat.zero_le _, rfl, OnlyB.refl _ _, by rw [chK2_zero]; exact HC5.out, fun i hi => by omega, fun i j hi => by omega⟩
      case round =>
        obtain ⟨k, bC, hk, rfl, ho, hc, hb, hd⟩ := hrel
        by_cases hlt : k < n
        · have hki : (k : Int) < (n : Int) := by omega
          have hFr := ho.blk HF5.out (ne_ty HF5.out HC5.out (by decide))
          have hVr := ho.blk HV5.out (ne_ty HV5.out HC5.out (by decide))
          have y2 := cell_of_obj hFr (j := 2) (v := .int .i64 f.regs) rfl
          have c8 := cell_of_obj hVr (j := 8) (v := .slice (some ⟨gC, 0, none⟩) n n) rfl
          have hgl := (Array.getElem?_eq_some_iff.1 hc).1
          have b6 := Below.one (Below.refl _ wr) (.cells (mkN r) 3)
          have n6 := heap_alloc_new wr (.cells (mkN r) 3)
          have g0 := cell_kept_below (cell_of_obj hc (chK2_at bC r n k hlt)) b6
          have gf := fun j => Lib.frozen_of_heap (blk_stay hc b6) j
          have HKB : Hid (KB gC 38 wr wr) := ⟨OnlyB.refl _ _, _, hc⟩
          have HKS : Hid (∀ X, KB gC 38 wr X → (fun w' => w'.cell? ⟨w.heap.size + 1, 2, none⟩ = some (.int .i64 f.regs) ∧ w'.cell? ⟨B, 8, none⟩ = some (.slice (some ⟨gC, 0, none⟩) n n)) X) := fun X h => ⟨cell_of_obj (h.1.blk hFr (ne_ty hFr hc (by decide))) rfl, cell_of_obj (h.1.blk hVr (ne_ty hVr hc (by decide))) rfl⟩
          have o6 := (OnlyB.refl gC (wr.alloc (.cells (mkN r) 3))).set k (.slice (some ⟨wr.heap.size, 0, none⟩) r r)
          have hE : wr.heap.size ≤ wr.heap.size := Nat.le_refl _
          have HEND : Hid (OnlyB gC W5 ((wr.alloc (.cells (mkN r) 3)).setCell ⟨gC, k, none⟩ (.slice (some ⟨wr.heap.size, 0, none⟩) r r)) ∧ ((wr.alloc (.cells (mkN r) 3)).setCell ⟨gC, k, none⟩ (.slice (some ⟨wr.heap.size, 0, none⟩) r r)).heap[gC]? = some (.cells (chK2 (fun i => if i = k then wr.heap.size else bC i) r n (k + 1)) 38) ∧ (∀ i, i < k + 1 → ((wr.alloc (.cells (mkN r) 3)).setCell ⟨gC, k, none⟩ (.slice (some ⟨wr.heap.size, 0, none⟩) r r)).heap[if i = k then wr.heap.size else bC i]? = some (.cells (mkN r) 3) ∧ W5.heap.size ≤ (if i = k then wr.heap.size else bC i)) ∧ ∀ i j, i < k + 1 → j < k + 1 → i ≠ j → (if i = k then wr.heap.size else bC i) ≠ (if j = k then wr.heap.size else bC j)) := by
            refine ⟨(ho.trans (OnlyB.of_below b6)).trans o6, ?_, fun i hi => ?_, fun i j hi hj hij => ?_⟩
            · rw [← chK2_succ _ _ _ _ _ hlt]
              exact heap_setCell_same _ gC k _ _ _ (blk_stay hc b6)
            · by_cases e : i = k
              · rw [if_pos e]
                exact ⟨o6.blk n6 (by omega), ho.size⟩
              · rw [if_neg e]
                obtain ⟨q1, q2⟩ := hb i (by omega)
                exact ⟨o6.blk (blk_stay q1 b6) (ne_ty q1 hc (by decide)), q2⟩
            · by_cases e1 : i = k
              · rw [if_pos e1, if_neg (by omega)]
                have := (Array.getElem?_eq_some_iff.1 (hb j (by omega)).1).1
                omega
              · rw [if_neg e1]
                have hi1 := (Array.getElem?_eq_some_iff.1 (hb i (by omega)).1).1
                by_cases e2 : j = k
                · rw [if_pos e2]; omega
                · rw [if_neg e2]; exact hd i j (by omega) (by omega) hij
          clear ho hc hb hd hFr hVr b6 n6 o6 hE hgl
          go_upto_region 9 with fail
          go_region_held3 (fun w' => w'.cell? ⟨w.heap.size + 1, 2, none⟩ = some (.int .i64 f.regs) ∧ w'.cell? ⟨B, 8, none⟩ = some (.slice (some ⟨gC, 0, none⟩) n n)) ((refine HKS.out _ ?_; repeat (first | exact HKB.out | refine KB.drew ?_ | refine KB.one ?_ _ | refine KB.set ?_ _ _))) (fail)
          go_wp2_with fail
          go_roundw
          case rel => exact ⟨k + 1, fun i => if i = k then wr.heap.size else bC i, by omega, by go_num, HEND.out.1, HEND.out.2.1, HEND.out.2.2.1, HEND.out.2.2.2⟩
          case measure => simp [intOf]; omega
        · have hkn : k = n := by omega
          subst hkn
          have hki : ¬ (k : Int) < (k : Int) := by omega
          have b7 := Below.one (Below.refl _ wr) (.cells ((zS r).flatMap spC).toArray 54)
          have n7 := heap_alloc_new wr (.cells ((zS r).flatMap spC).toArray 54)
          have hFr := ho.blk HF5.out (ne_ty HF5.out HC5.out (by decide))
          have hVr := ho.blk HV5.out (ne_ty HV5.out HC5.out (by decide))
          have hBr : Below w.heap.size w wr := HBX.out.trans (ho.below HGI.out.2.1 HBX.out.size)
          have hps : Sps (wr.alloc (.cells ((zS r).flatMap spC).toArray 54)) f.pa f.params := ((hm.2.2.2 f hf).2.2.2.1).stay (hBr.trans (b7.mono hBr.size))
          obtain ⟨X, hcp, hX1, hX2⟩ := run_copyP (show RgB (wr.alloc (.cells ((zS r).flatMap spC).toArray 54)) wr.heap.size (zS r) from n7) f.pc hps (by have := H.ok.regs; omega)
          have y1 := cell_kept_below (cell_of_obj hFr (j := 1) (v := .slice f.pa f.params.length f.pc) rfl) b7
          have y2 := cell_of_obj hFr (j := 2) (v := .int .i64 f.regs) rfl
          have hcode : f.code.length = k := hn
          have hrt : f.regs.toNat = r := by omega
          obtain ⟨L, hL⟩ : ∃ L : Lay, L = ⟨B, gI, gC, gM, gJ, gs, gc, fun _ => 0, bC⟩ := ⟨_, rfl⟩
          obtain ⟨st0, hst⟩ : ∃ st0 : Wk, st0 = ⟨List.replicate k [], List.replicate k (List.replicate r 0), List.replicate k false, List.replicate k 0⟩ := ⟨_, rfl⟩
          have hup : ∀ {i : Nat} {o : Obj}, wr.heap[i]? = some o → X.heap[i]? = some o := fun {i o} h => hX2.blk (blk_stay h b7) (by have := (Array.getElem?_eq_some_iff.1 h).1; omega)
          have hlt := fun {W : World} {i : Nat} {o : Obj} (h : W.heap[i]? = some o) => (Array.getElem?_eq_some_iff.1 h).1
          have hins : ∀ i, insA st0 i = [] := fun i => by
            rw [hst]
            unfold insA
            simp only
            by_cases hi : i < k
            · exact getD_rep hi _ _
            · rw [List.getD_eq_getElem?_getD, List.getElem?_eq_none (by simpa using hi)]; rfl
          have hW : WkAt w.heap.size f.code.length r m f L st0 (zS r) (zS r) X := by
            rw [hcode]
            refine ⟨?_, ?_, ?_, ?_, ?_, ?_, ?_, fun i hi hne => absurd (hins i) hne, fun i hi => ?_, ?_, fun i hi hne => absurd (hins i) hne, fun i j hi hj hij hne => absurd (hins i) hne, fun i hi => ?_, fun i j hi hj hij => ?_, ?_, fun i hi => ⟨?_, fun hne => absurd (hins i) hne⟩⟩
            · have := hup hVr
              rw [hL]
              unfold wkC
              unfold wkP at this
              rw [hcode]
              exact this
            · rw [hst, hL]
              show X.heap[gI]? = some (.cells (inV _ r (List.replicate k [])).toArray _)
              rw [← mkZ_in]
              exact hup (ho.blk HI5.out (ne_ty HI5.out HC5.out (by decide)))
            · rw [← chK2_all, hL]
              exact hup hc
            · rw [hst, hL]
              show X.heap[gM]? = some (.cells ((List.replicate k false).map bV).toArray _)
              rw [← mkB_eq]
              exact hup (ho.blk HM5.out (ne_ty HM5.out HC5.out (by decide)))
            · rw [hst, hL]
              show X.heap[gJ]? = some (.cells ((List.replicate k 0).map nV).toArray _)
              rw [← mkN_eq]
              exact hup (ho.blk HJ5.out (ne_ty HJ5.out HC5.out (by decide)))
            · rw [hL]
              exact hup (ho.blk HS5.out.1 (ne_ty HS5.out.1 HC5.out (by decide)))
            · rw [hL]
              exact hup (ho.blk HS5.out.2 (ne_ty HS5.out.2 HC5.out (by decide)))
            · have e : chgA st0 i = List.replicate r 0 := by rw [hst]; exact getD_rep hi _ _
              rw [e, ← mkN_eq, hL]
              exact hup (hb i hi).1
            · rw [hL]; exact HD.out.2.2.1
            · rw [hL]
              show bC i ≠ gJ
              have := hlt HJ5.out
              have := (hb i hi).2
              omega
            · rw [hL]; exact hd i j hi hj hij
            · rw [hL]
              exact ⟨HL.out.1, HGI.out.1, HGI.out.2.1, HL.out.2.1, HL.out.2.2, HD.out.2.2.2.1, HD.out.2.2.2.2.1⟩
            · rw [hL]
              show w.heap.size ≤ bC i
              have := (hb i hi).2
              have := HBX.out.size
              omega
          have hLB : L.B = B ∧ L.gI = gI ∧ L.gM = gM ∧ L.gs = gs ∧ L.gc = gc := by rw [hL]; exact ⟨rfl, rfl, rfl, rfl, rfl⟩
          have hli : st0.ins.length = f.code.length := by rw [hst, hcode]; simp
          have hbg : f.params ++ zS (r - f.params.length) = begS f := by unfold begS; rw [hrt]
          rw [hbg] at hX1
          have hbne : begS f ≠ [] := by intro e; have := (begS_gd H (hm.2.2.2 f hf).2.2.2.2.1).1; rw [e] at this; simp at this; omega
          have hN1 : w.heap.size ≤ wr.heap.size := hBr.size
          have hfr : wr.heap.size ≠ L.gs ∧ wr.heap.size ≠ L.gc ∧ ∀ q, q < f.code.length → insA st0 q ≠ [] → wr.heap.size ≠ L.bI q := by
            refine ⟨?_, ?_, fun q _ hq => absurd (hins q) hq⟩
            · rw [hLB.2.2.2.1]; have := hlt (ho.blk HS5.out.1 (ne_ty HS5.out.1 HC5.out (by decide))); omega
            · rw [hLB.2.2.2.2]; have := hlt (ho.blk HS5.out.2 (ne_ty HS5.out.2 HC5.out (by decide))); omega
          have hstW : ({ st0 with ins := st0.ins.set 0 (begS f), mar := st0.mar.set 0 true } : Wk) = begW f := by rw [hst]; unfold begW; rw [hcode, hrt]
          have hBX : Below w.heap.size w X := hBr.trans ((b7.mono hN1).trans (hX2.below hN1 (by simp; omega)))
          have h0n : 0 < f.code.length := by omega
          have hE1 := (hW.putI hli h0n hN1 hfr hbne hX1).putM 0 true
          have hE2 := (hW.putM 0 true).putI hli h0n hN1 hfr hbne (hX1.only ((OnlyB.refl L.gM X).set 0 (.bool true)) (ne_ty hX1 hW.mb (by decide)))
          have HE1 : Hid (BgP m f r w (.returned (.pointer (some ⟨B, 0, none⟩))) ((X.setCell ⟨gI, 0, none⟩ (.slice (some ⟨wr.heap.size, 0, none⟩) r r)).setCell ⟨gM, 0, none⟩ (.bool true))) := by
            refine ⟨L.newI 0 wr.heap.size, zS r, zS r, ?_, (hBX.setCell HGI.out.1 _).setCell HL.out.2.1 _, zS_len r, zS_len r, ?_⟩
            · show _ = Ending.returned (.pointer (some ⟨L.B, 0, none⟩)); rw [hLB.1]
            · rw [← hstW, ← hLB.2.1, ← hLB.2.2.1]; exact hE1
          have HE2 : Hid (BgP m f r w (.returned (.pointer (some ⟨B, 0, none⟩))) ((X.setCell ⟨gM, 0, none⟩ (.bool true)).setCell ⟨gI, 0, none⟩ (.slice (some ⟨wr.heap.size, 0, none⟩) r r))) := by
            refine ⟨L.newI 0 wr.heap.size, zS r, zS r, ?_, (hBX.setCell HL.out.2.1 _).setCell HGI.out.1 _, zS_len r, zS_len r, ?_⟩
            · show _ = Ending.returned (.pointer (some ⟨L.B, 0, none⟩)); rw [hLB.1]
            · rw [← hstW, ← hLB.2.1, ← hLB.2.2.1]; exact hE2
          have c7 := cell_of_obj (hup hVr) (j := 7) (v := .slice (some ⟨gI, 0, none⟩) k k) rfl
          have c9 := cell_of_obj (hup hVr) (j := 9) (v := .slice (some ⟨gM, 0, none⟩) k k) rfl
          have hIX := hup (ho.blk HI5.out (ne_ty HI5.out HC5.out (by decide)))
          have hMX := hup (ho.blk HM5.out (ne_ty HM5.out HC5.out (by decide)))
          have cI := cell_of_obj hIX (j := 0) (v := .slice none 0 0) (by unfold mkZ; rw [List.getElem?_toArray, List.getElem?_replicate, if_pos (by omega)])
          have cM := cell_of_obj hMX (j := 0) (v := .bool false) (by rw [mkB_eq, bVs_at (by simpa using (by omega : 0 < k)), getD_rep (by omega)])
          have fI := Lib.frozen_of_heap hIX 0
          have fM := Lib.frozen_of_heap hMX 0
          have hVX := hup hVr
          have n1 : ¬ gI = B := ne_ty hIX hVX (by decide)
          have n2 : ¬ B = gI := ne_ty hVX hIX (by decide)
          have n3 : ¬ gM = B := ne_ty hMX hVX (by decide)
          have n4 : ¬ B = gM := ne_ty hVX hMX (by decide)
          have n5 : ¬ gI = gM := ne_ty hIX hMX (by decide)
          have n6 : ¬ gM = gI := ne_ty hMX hIX (by decide)
          have h0k : 0 < k := by omega
          clear ho hc hb hd hFr hVr hIX hMX hVX hW hE1 hE2 hup hins hbne hfr hstW hLB hli hbg hX1 hX2 hst hL
          go_upto_region 13 with fail
          clear hcp y1 y2 b7 n7
          go_region_held3 (fun w' => w'.cell? ⟨B, 7, none⟩ = some (.slice (some ⟨gI, 0, none⟩) k k) ∧ w'.cell? ⟨B, 9, none⟩ = some (.slice (some ⟨gM, 0, none⟩) k k) ∧ w'.frozen? ⟨gI, 0, none⟩ = false ∧ w'.frozen? ⟨gM, 0, none⟩ = false) (go_keep) (fail)
          all_goals go_wp2_with fail
          all_goals exact bodyPost_ret (v := .pointer (some ⟨B, 0, none⟩)) (by simp [results, Tryd.results20, go_sem, *]) rfl (by first | exact HE1.out.drew | exact HE2.out.drew)
end Go.Proofs.YtfmkjdfidenfkaaDoor
