/- pack's reader of modules: a module. -/
import Derived.Test.YtfamomjgjamnoaaDoorKy
namespace Go.Proofs.YtfamomjgjamnoaaDoor
open Go.RowKit Go.Sort

/-- A module that was read: it owns its lists, from N on. -/
structure OwnM (W : World) (N : Nat) (q : Mo) : Prop where
  t : W.ownsRow N 2 1 (.slice q.ta q.ths.length q.tc) q.ths.length (q.ths.flatMap thC)
  f : W.ownsRow N 45 5 (.slice q.fa q.funcs.length q.fc) q.funcs.length (q.funcs.flatMap Fn.cells)
  g : ∀ g ∈ q.funcs, OwnF W N g ∧ GFn g
  tl : q.ths.length ≤ 16
  fl : q.funcs.length ≤ 32
  tz : ∀ z ∈ q.ths, I64 z
theorem OwnM.in {W : World} {N : Nat} {q : Mo} (h : OwnM W N q) : q.In W :=
  ⟨⟨by have := h.tl; omega, own_row h.t (fun _ => rfl) (by omega)⟩, h.tz, ⟨by have := h.fl; omega, own_row h.f (fun _ => rfl) (by omega)⟩, fun g hg => (h.g g hg).2.in (h.g g hg).1⟩
theorem OwnM.stay {W W' : World} {N : Nat} {q : Mo} (h : OwnM W N q) (hb : Below W.heap.size W W') : OwnM W' N q := ⟨own_stay h.t hb, own_stay h.f hb, fun g hg => ⟨(h.g g hg).1.stay hb, (h.g g hg).2⟩, h.tl, h.fl, h.tz⟩
theorem OwnM.low {W : World} {N N' : Nat} {q : Mo} (h : OwnM W N q) (hN : N' ≤ N) : OwnM W N' q := ⟨own_mono h.t hN, own_mono h.f hN, fun g hg => ⟨(h.g g hg).1.low hN, (h.g g hg).2⟩, h.tl, h.fl, h.tz⟩
/-- Blocks of other types are written. -/
theorem OwnM.put {W W' : World} {N b : Nat} {q : Mo} {cs : Array Value} {T : TypeId} {fz : Nat × Nat} (h : OwnM W N q) (hb : W.heap[b]? = some (.cells cs T fz)) (h1 : 2 ≠ T) (h2 : 45 ≠ T) (h3 : 56 ≠ T) (h4 : 58 ≠ T) (hk : ∀ k, k ≠ b → W'.heap[k]? = W.heap[k]?) : OwnM W' N q :=
  ⟨own_put h.t hb h1 hk, own_put h.f hb h2 hk, fun g hg => ⟨⟨own_put (h.g g hg).1.1 hb h3 hk, own_put (h.g g hg).1.2 hb h4 hk⟩, (h.g g hg).2⟩, h.tl, h.fl, h.tz⟩
def MoP (R : Nat) (bs : Bt) (va : Option Addr) (vc : Nat) (s : Sr) (w : World) (e : Ending) (w' : World) : Prop :=
  ∃ (q : Mo) (s' : Sr), e = .returned q.val ∧ Rn moR bs s q.er s' ∧ RdAt 63 R bs va vc s' w' ∧ OnlyB R w w' ∧ OwnM w' w.heap.size q
theorem er_nil (l : List Int) (fs : List Fn) (a b : Option Addr) (c d : Nat) : Mo.er ⟨a, c, l, b, d, fs⟩ = ⟨none, 0, l, none, 0, fs.map Fn.er⟩ := rfl
set_option maxRecDepth 100000 in
set_option maxHeartbeats 8000000 in
theorem rdMod_any (R : Nat) (bs : Bt) (va : Option Addr) (vc : Nat) (s : Sr) (w : World) (h : RdAt 63 R bs va vc s w) (hv : ∀ a, va = some a → a.block < w.heap.size) :
    Calls Tryd.prog 21 #[.pointer (some ⟨R, 0, none⟩)] w (MoP R bs va vc s w) := by
  have hR := h.lt
  have b1 := Below.one (Below.refl _ w) (.cells #[.slice none 0 0, .slice none 0 0] 25)
  have HX0 := Hid.mk' (heap_alloc_new w (.cells #[.slice none 0 0, .slice none 0 0] 25))
  have HR := Hid.mk' (h.stay b1)
  have HO := Hid.mk' (OnlyB.of (R := R) b1)
  have HV0 : Hid (∀ a, va = some a → a.block ≠ w.heap.size) := fun a e => by have := hv a e; omega
  have hn0 : w.heap.size ≠ R := by omega
  have HVV : Hid (∀ W : World, w.heap.size ≤ W.heap.size → ∀ a, va = some a → a.block < W.heap.size) := fun W hs a e => Nat.lt_of_lt_of_le (hv a e) hs
  have HVN : Hid (∀ G : Nat, w.heap.size ≤ G → ∀ a, va = some a → a.block ≠ G) := fun G hs a e => by have := hv a e; omega
  have HC1 : Hid (∀ s W, RdAt 63 R bs va vc s W → Calls Tryd.prog 37 #[.pointer (some ⟨R, 0, none⟩), .int .i64 1, .int .i64 16, .int .i64 3] W (RdP 63 R bs va vc s (cntR 1 16 3) (fun n => .int .i64 (n : Int)) (fun n _ => n ≤ 16) W)) := fun s W h => count_any _ R bs va vc s W 1 16 3 h (by decide) (by decide)
  have HC2 : Hid (∀ s W, RdAt 63 R bs va vc s W → Calls Tryd.prog 37 #[.pointer (some ⟨R, 0, none⟩), .int .i64 1, .int .i64 32, .int .i64 3] W (RdP 63 R bs va vc s (cntR 1 32 3) (fun n => .int .i64 (n : Int)) (fun n _ => n ≤ 32) W)) := fun s W h => count_any _ R bs va vc s W 1 32 3 h (by decide) (by decide)
  have HBG := Hid.mk' (fun s W h => rdBegin_any 63 R bs va vc s W h)
  have HEN := Hid.mk' (fun s W h => rdEnd_any 63 R bs va vc s W h)
  have HSP := Hid.mk' (fun s W n h hv hn => rdThs_any R bs va vc s W n h hv hn)
  have HIS := Hid.mk' (fun s W n h hv hn => rdFns_any R bs va vc s W n h hv hn)
  clear h b1 hv
  go_enter Tryd.func21, Tryd.ntmps21
  go_wp2_with fail
  generalize w.alloc (.cells #[.slice none 0 0, .slice none 0 0] 25) = W0 at *
  refine (HBG.out _ _ HR.out).mono ?_
  rintro e V0 ⟨⟨⟩, s0, rfl, r0, q0, o0, _⟩
  have HRN0 := Hid.mk' r0
  have hG := Nat.le_trans HO.out.size o0.size
  have x0 := o0.blk HX0.out hn0
  have h01 : w.heap.size < V0.heap.size := (Array.getElem?_eq_some_iff.1 x0).1
  have hnG : V0.heap.size ≠ R := by omega
  have b2 := Below.one (Below.refl _ V0) (.cells #[.slice none 0 0, .slice none 0 0] 25)
  have HX1 := Hid.mk' (heap_alloc_new V0 (.cells #[.slice none 0 0, .slice none 0 0] 25))
  replace HX0 := Hid.mk' (blk_stay x0 b2)
  have HVG := Hid.mk' (HVN.out V0.heap.size hG)
  replace HR := Hid.mk' (q0.stay b2)
  replace HO := Hid.mk' ((HO.out.on o0).on (OnlyB.of b2))
  clear r0 q0 o0 x0 b2 HVN HBG
  go_wp2_with fail
  generalize V0.alloc (.cells #[.slice none 0 0, .slice none 0 0] 25) = W1 at *
  generalize V0.heap.size = G at *
  have hGn : ¬ w.heap.size = G := by omega
  have hsz1 := HO.out.size
  go_region_with (first
    | (go_at_call 37; refine (HC1.out _ _ HR.out.drew).mono ?_; rintro e V2 ⟨n2, s2, rfl, r2, q2, o2, i2⟩; have hsz2 : w.heap.size ≤ V2.heap.size := Nat.le_trans hsz1 o2.size)
    | (go_at_call 36; refine (HSP.out _ _ _ q2 (HVV.out _ hsz2) i2).mono ?_; rintro e V3 ⟨ps, s3, pa, pc, rfl, r3, q3, o3, ow3, ll3, g3⟩; have X1 := o3.blk (o2.blk HX1.out hnG) hnG; have y1 := cell_of_obj X1 (j := 0) rfl; have z1 := Lib.frozen_of_heap X1 0))
  all_goals
    rw [List.map_id] at r3
    have HRN2 := Hid.mk' r2
    have HRN3 := Hid.mk' r3
    have HG3 := Hid.mk' (And.intro (Nat.le_trans ll3 i2) g3)
    replace HX0 := Hid.mk' ((Below.heap_setCell V3 ⟨G, 0, none⟩ (.slice pa ps.length pc) w.heap.size (by simpa using hGn)).trans (o3.blk (o2.blk HX0.out hn0) hn0))
    replace HX1 : Hid ((V3.setCell ⟨G, 0, none⟩ (.slice pa ps.length pc)).heap[G]? = some (.cells #[.slice pa ps.length pc, .slice none 0 0] 25)) := (by simpa using heap_setCell_same V3 G 0 _ _ (.slice pa ps.length pc) X1 : _ = _)
    replace HR := Hid.mk' (q3.set hnG HVG.out 0 (.slice pa ps.length pc))
    replace HO := Hid.mk' (((HO.out.drew o2).on o3).put hG 0 (.slice pa ps.length pc))
    have HOW := Hid.mk' (own_set (own_mono ow3 hsz2) X1 (by decide) 0 (.slice pa ps.length pc))
    clear r2 q2 o2 i2 r3 q3 o3 ow3 ll3 g3 X1 HC1 HSP y1 z1 hsz1 hsz2
    go_wp2_with fail
    generalize V3.setCell ⟨G, 0, none⟩ (.slice pa ps.length pc) = W3 at *
    have hsz5 := HO.out.size
    go_region_with (first
      | (go_at_call 37; refine (HC2.out _ _ HR.out.drew).mono ?_; rintro e V6 ⟨n6, s6, rfl, r6, q6, o6, i6⟩; have hsz6 : w.heap.size ≤ V6.heap.size := Nat.le_trans hsz5 o6.size)
      | (go_at_call 39; refine (HIS.out _ _ _ q6 (HVV.out _ hsz6) i6).mono ?_; rintro e V7 ⟨fs, s7, ca, cc, rfl, r7, q7, o7, ow7, ll7, g7⟩; have X1 := o7.blk (o6.blk HX1.out hnG) hnG; have y1 := cell_of_obj X1 (j := 1) rfl; have z1 := Lib.frozen_of_heap X1 1))
    all_goals
      have HRN6 := Hid.mk' r6
      have HRN7 := Hid.mk' r7
      replace HX0 := Hid.mk' ((Below.heap_setCell V7 ⟨G, 1, none⟩ (.slice ca fs.length cc) w.heap.size (by simpa using hGn)).trans (o7.blk (o6.blk HX0.out hn0) hn0))
      replace HX1 : Hid ((V7.setCell ⟨G, 1, none⟩ (.slice ca fs.length cc)).heap[G]? = some (.cells #[.slice pa ps.length pc, .slice ca fs.length cc] 25)) := (by simpa using heap_setCell_same V7 G 1 _ _ (.slice ca fs.length cc) X1 : _ = _)
      have HOM : Hid (OwnM (V7.setCell ⟨G, 1, none⟩ (.slice ca fs.length cc)) w.heap.size ⟨pa, pc, ps, ca, cc, fs⟩) := ⟨own_set (q6.own o7 (HR.out.drew.own o6 (own_stay HOW.out (below_drew W3)) (by decide)) (by decide)) X1 (by decide) 1 _, own_set (own_mono ow7 hsz6) X1 (by decide) 1 _, fun g hg => ⟨⟨own_set ((g7 g hg).1.low hsz6).1 X1 (by decide) 1 _, own_set ((g7 g hg).1.low hsz6).2 X1 (by decide) 1 _⟩, (g7 g hg).2⟩, HG3.out.1, Nat.le_trans ll7 i6, HG3.out.2⟩
      replace HR := Hid.mk' (q7.set hnG HVG.out 1 (.slice ca fs.length cc))
      replace HO := Hid.mk' (((HO.out.drew o6).on o7).put hG 1 (.slice ca fs.length cc))
      clear r6 q6 o6 i6 r7 q7 o7 ow7 ll7 g7 X1 HC2 HIS y1 z1 hsz5 hsz6 HOW HG3
      go_wp2_with fail
      generalize V7.setCell ⟨G, 1, none⟩ (.slice ca fs.length cc) = W7 at *
      refine (HEN.out _ _ HR.out).mono ?_
      rintro e V8 ⟨⟨⟩, s8, rfl, r8, q8, o8, _⟩
      replace HX0 := Hid.mk' (o8.blk HX0.out hn0)
      replace HX1 := Hid.mk' (o8.blk HX1.out hnG)
      have y0 := cell_of_obj HX1.out (j := 0) (v := .slice pa ps.length pc) rfl
      have y1 := cell_of_obj HX1.out (j := 1) (v := .slice ca fs.length cc) rfl
      have z0 := cell_of_obj HX0.out (j := 0) (v := .slice none 0 0) rfl
      have z1 := cell_of_obj HX0.out (j := 1) (v := .slice none 0 0) rfl
      have ff := fun j => Lib.frozen_of_heap HX0.out j
      obtain ⟨ra, re, rp, hrb, _⟩ := HR.out.ex
      have HM8 : Hid (OwnM V8 w.heap.size ⟨pa, pc, ps, ca, cc, fs⟩) := ⟨o8.own hrb HOM.out.t (by decide), o8.own hrb HOM.out.f (by decide), fun g hg => ⟨⟨o8.own hrb (HOM.out.g g hg).1.1 (by decide), o8.own hrb (HOM.out.g g hg).1.2 (by decide)⟩, (HOM.out.g g hg).2⟩, HOM.out.tl, HOM.out.fl, HOM.out.tz⟩
      have HR8 := Hid.mk' (And.intro r8 q8)
      replace HO := Hid.mk' (HO.out.on o8)
      clear r8 q8 o8 hrb HOM HR HEN
      go_wp2_with fail
      refine bodyPost_ret (v := .agg #[.slice pa ps.length pc, .slice ca fs.length cc]) (by simp [results, Tryd.results21, go_sem, *]) rfl ⟨⟨pa, pc, ps, ca, cc, fs⟩, s8, rfl, ?_, (HR8.out.2.set hn0 HV0.out 0 _).set hn0 HV0.out 1 _, (HO.out.put (Nat.le_refl _) 0 _).put (Nat.le_refl _) 1 _, HM8.out.put HX0.out (by decide) (by decide) (by decide) (by decide) (set2 _ _ _ _)⟩
      exact HRN0.out.bind (f := fun _ => (cntR 1 16 3).bind fun n => (listR w8R n).bind fun ths => (cntR 1 32 3).bind fun k => (listR fnR k).bind fun fs => endR.bind fun _ => Rd.ret (⟨none, 0, ths, none, 0, fs⟩ : Mo)) (HRN2.out.bind (HRN3.out.bind (HRN6.out.bind (HRN7.out.bind (HR8.out.1.bind (Rn.ret _))))))
end Go.Proofs.YtfamomjgjamnoaaDoor
