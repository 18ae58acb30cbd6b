/- pack's reader of modules: a function. -/
import Derived.Test.YtfamomjgjamnoaaDoorKw
import Derived.Deep.RegionHeld3
namespace Go.Proofs.YtfamomjgjamnoaaDoor
open Go.RowKit Go.Sort

/-- What is asked of a function that was read. -/
def GFn (g : Fn) : Prop := g.name.size ≤ 16 ∧ I64 g.regs ∧ I64 g.words ∧ g.params.length ≤ 8 ∧ (∀ p ∈ g.params, spOk p) ∧ g.code.length ≤ 1024 ∧ ∀ x ∈ g.code, x.Ok
theorem GFn.in {g : Fn} {W : World} {N : Nat} (h : GFn g) (ho : OwnF W N g) : g.In W := by
  obtain ⟨h1, h2, h3, h4, h5, h6, h7⟩ := h
  exact ⟨by omega, h2, h3, ⟨by omega, own_row ho.1 (fun _ => rfl) (by omega)⟩, h5, ⟨by omega, own_row ho.2 (fun _ => rfl) (by omega)⟩, h7⟩
def FnP (R : Nat) (bs : Bt) (va : Option Addr) (vc : Nat) (s : Sr) (w : World) (e : Ending) (w' : World) : Prop :=
  ∃ (g : Fn) (s' : Sr), e = .returned g.val ∧ Rn fnR bs s g.er s' ∧ RdAt 63 R bs va vc s' w' ∧ OnlyB R w w' ∧ OwnF w' w.heap.size g ∧ GFn g
theorem slB_text {W : World} {l : Bt} {v : Value} (h : SlB l v W) : (convert 27 9 v).run Tryd.prog W = .ok (.string (tb l)) W := by
  obtain ⟨a, c, rfl, hr⟩ := h
  cases a with
  | none =>
    have h0 := rowIn_none hr rfl
    have : l = [] := List.eq_nil_of_length_eq_zero h0
    subst this
    rw [run_convert_bytes_string W 27 9 5 _ _ c Tryd.underlying27 Tryd.underlying5 Tryd.underlying9]
    simp [Conv.bytesToString]
    rfl
  | some ad =>
    refine run_convert_bytes_back W 27 9 5 ad c l Tryd.underlying27 Tryd.underlying5 Tryd.underlying9 (fun j hj => ?_)
    obtain ⟨b, o, e, hc⟩ := rowB_at hr hj
    cases e
    rw [Addr.add_lit]
    exact hc
theorem by16 {n : Int} (h : 0 ≤ n ∧ n ≤ 65535) : I64 n := by unfold I64; omega
set_option maxRecDepth 100000 in
set_option maxHeartbeats 8000000 in
theorem rdFn_any (R : Nat) (bs : Bt) (va : Option Addr) (vc : Nat) (s : Sr) (w : World) (h : RdAt 63 R bs va vc s w) (hv : ∀ a, va = some a → a.block < w.heap.size) :
    Calls Tryd.prog 40 #[.pointer (some ⟨R, 0, none⟩)] w (FnP R bs va vc s w) := by
  have hR := h.lt
  have b1 := Below.one (Below.refl _ w) (.cells #[.string ⟨#[]⟩, .slice none 0 0, .int .i64 0, .int .i64 0, .slice none 0 0] 45)
  have b2 := Below.one b1 (.cells #[.string ⟨#[]⟩, .slice none 0 0, .int .i64 0, .int .i64 0, .slice none 0 0] 45)
  have x0 := blk_stay (heap_alloc_new w (.cells #[.string ⟨#[]⟩, .slice none 0 0, .int .i64 0, .int .i64 0, .slice none 0 0] 45)) (Below.one (Below.refl _ _) (.cells #[.string ⟨#[]⟩, .slice none 0 0, .int .i64 0, .int .i64 0, .slice none 0 0] 45))
  have x1 := heap_alloc_new (w.alloc (.cells #[.string ⟨#[]⟩, .slice none 0 0, .int .i64 0, .int .i64 0, .slice none 0 0] 45)) (.cells #[.string ⟨#[]⟩, .slice none 0 0, .int .i64 0, .int .i64 0, .slice none 0 0] 45)
  rw [World.size_alloc] at x1
  have HR := Hid.mk' (h.stay b2)
  have HO := Hid.mk' (OnlyB.of (R := R) b2)
  have HX0 := Hid.mk' x0
  have HX1 := Hid.mk' x1
  have HV1 : Hid (∀ a, va = some a → a.block ≠ w.heap.size + 1) := fun a e => by have := hv a e; omega
  have HV0 : Hid (∀ a, va = some a → a.block ≠ w.heap.size) := fun a e => by have := hv a e; omega
  have hn0 : w.heap.size ≠ R := by omega
  have hn1 : w.heap.size + 1 ≠ R := by omega
  have HVV : Hid (∀ W : World, w.heap.size ≤ W.heap.size → ∀ a, va = some a → a.block < W.heap.size) := fun W hs a e => Nat.lt_of_lt_of_le (hv a e) hs
  have HC0 : Hid (∀ s W, RdAt 63 R bs va vc s W → Calls Tryd.prog 37 #[.pointer (some ⟨R, 0, none⟩), .int .i64 1, .int .i64 16, .int .i64 8] W (RdP 63 R bs va vc s (cntR 1 16 8) (fun n => .int .i64 (n : Int)) (fun n _ => n ≤ 16) W)) := fun s W h => count_any _ R bs va vc s W 1 16 8 h (by decide) (by decide)
  have HC1 : Hid (∀ s W, RdAt 63 R bs va vc s W → Calls Tryd.prog 37 #[.pointer (some ⟨R, 0, none⟩), .int .i64 1, .int .i64 8, .int .i64 3] W (RdP 63 R bs va vc s (cntR 1 8 3) (fun n => .int .i64 (n : Int)) (fun n _ => n ≤ 8) W)) := fun s W h => count_any _ R bs va vc s W 1 8 3 h (by decide) (by decide)
  have HC2 : Hid (∀ s W, RdAt 63 R bs va vc s W → Calls Tryd.prog 37 #[.pointer (some ⟨R, 0, none⟩), .int .i64 2, .int .i64 1024, .int .i64 97] W (RdP 63 R bs va vc s (cntR 2 1024 97) (fun n => .int .i64 (n : Int)) (fun n _ => n ≤ 1024) W)) := fun s W h => count_any _ R bs va vc s W 2 1024 97 h (by decide) (by decide)
  have HTK := Hid.mk' (fun s W (n : Nat) h hn => take_any 63 R bs va vc s W n h hn)
  have HBy := Hid.mk' (fun s W h => rdByte_any 63 R bs va vc s W h)
  have HSh := Hid.mk' (fun s W h => rdShort_any 63 R bs va vc s W h)
  have HSP := Hid.mk' (fun s W n h hv hn => rdSps_any R bs va vc s W n h hv hn)
  have HIS := Hid.mk' (fun s W n h hv hn => rdIss_any R bs va vc s W n h hv hn)
  clear h b1 b2 x0 x1 hv
  go_enter Tryd.func40, Tryd.ntmps40
  go_wp2_with fail
  generalize (w.alloc (.cells #[.string ⟨#[]⟩, .slice none 0 0, .int .i64 0, .int .i64 0, .slice none 0 0] 45)).alloc (.cells #[.string ⟨#[]⟩, .slice none 0 0, .int .i64 0, .int .i64 0, .slice none 0 0] 45) = W0 at *
  go_region_with (first
    | (go_at_call 37; refine (HC0.out _ _ HR.out.drew).mono ?_; rintro e V0 ⟨n0, s0, rfl, r0, q0, o0, i0⟩)
    | (go_at_call 56; refine (HTK.out _ _ _ q0 (by omega)).mono ?_; rintro e V1 ⟨v1, l1, s1, rfl, sl1, r1, ll1, q1, o1⟩; have tx1 := slB_text sl1; have X1 := o1.blk (o0.blk HX1.out hn1) hn1; have y1 := cell_of_obj X1 (j := 0) rfl; have z1 := Lib.frozen_of_heap X1 0))
  have HRN0 := Hid.mk' r0
  have HRN1 := Hid.mk' r1
  have hl1 : l1.length ≤ 16 := Nat.le_trans ll1 i0
  replace HX0 := Hid.mk' ((Below.heap_setCell V1 ⟨w.heap.size + 1, 0, none⟩ (.string (tb l1)) w.heap.size (by simp)).trans (o1.blk (o0.blk HX0.out hn0) hn0))
  replace HX1 : Hid ((V1.setCell ⟨w.heap.size + 1, 0, none⟩ (.string (tb l1))).heap[w.heap.size + 1]? = some (.cells #[.string (tb l1), .slice none 0 0, .int .i64 0, .int .i64 0, .slice none 0 0] 45)) := (by simpa using heap_setCell_same V1 (w.heap.size + 1) 0 _ _ (.string (tb l1)) X1 : _ = _)
  replace HR := Hid.mk' (q1.set hn1 HV1.out 0 (.string (tb l1)))
  replace HO := Hid.mk' (((HO.out.drew o0).on o1).put (Nat.le_succ w.heap.size) 0 (.string (tb l1)))
  clear r0 q0 o0 i0 r1 q1 o1 ll1 sl1 tx1 X1 HC0 HTK y1 z1
  go_wp2_with fail
  generalize V1.setCell ⟨w.heap.size + 1, 0, none⟩ (.string (tb l1)) = W1 at *
  have hsz1 := HO.out.size
  go_region_with (first
    | (go_at_call 37; refine (HC1.out _ _ HR.out.drew).mono ?_; rintro e V2 ⟨n2, s2, rfl, r2, q2, o2, i2⟩; have hsz2 : w.heap.size ≤ V2.heap.size := Nat.le_trans hsz1 o2.size)
    | (go_at_call 57; refine (HSP.out _ _ _ q2 (HVV.out _ hsz2) i2).mono ?_; rintro e V3 ⟨ps, s3, pa, pc, rfl, r3, q3, o3, ow3, ll3, g3⟩; have X1 := o3.blk (o2.blk HX1.out hn1) hn1; have y1 := cell_of_obj X1 (j := 1) rfl; have z1 := Lib.frozen_of_heap X1 1))
  all_goals
    rw [List.map_id] at r3
    have HRN2 := Hid.mk' r2
    have HRN3 := Hid.mk' r3
    have HG3 := Hid.mk' (And.intro (Nat.le_trans ll3 i2) g3)
    replace HX0 := Hid.mk' ((Below.heap_setCell V3 ⟨w.heap.size + 1, 1, none⟩ (.slice pa ps.length pc) w.heap.size (by simp)).trans (o3.blk (o2.blk HX0.out hn0) hn0))
    replace HX1 : Hid ((V3.setCell ⟨w.heap.size + 1, 1, none⟩ (.slice pa ps.length pc)).heap[w.heap.size + 1]? = some (.cells #[.string (tb l1), .slice pa ps.length pc, .int .i64 0, .int .i64 0, .slice none 0 0] 45)) := (by simpa using heap_setCell_same V3 (w.heap.size + 1) 1 _ _ (.slice pa ps.length pc) X1 : _ = _)
    replace HR := Hid.mk' (q3.set hn1 HV1.out 1 (.slice pa ps.length pc))
    replace HO := Hid.mk' (((HO.out.drew o2).on o3).put (Nat.le_succ w.heap.size) 1 (.slice pa ps.length pc))
    have HOW := Hid.mk' (own_set (own_mono ow3 hsz2) X1 (by decide) 1 (.slice pa ps.length pc))
    clear r2 q2 o2 i2 r3 q3 o3 ow3 ll3 g3 X1 HC1 HSP y1 z1 hsz1 hsz2
    go_wp2_with fail
    generalize V3.setCell ⟨w.heap.size + 1, 1, none⟩ (.slice pa ps.length pc) = W3 at *
    refine (HBy.out _ _ HR.out).mono ?_
    rintro e V4 ⟨p4, s4, rfl, r4, q4, o4, i4⟩
    have HRN4 := Hid.mk' (And.intro r4 i4)
    have X1 := o4.blk HX1.out hn1
    have y1 := cell_of_obj X1 (j := 2) (v := .int .i64 0) rfl
    have z1 := Lib.frozen_of_heap X1 2
    replace HX0 := Hid.mk' ((Below.heap_setCell V4 ⟨w.heap.size + 1, 2, none⟩ (.int .i64 p4) w.heap.size (by simp)).trans (o4.blk HX0.out hn0))
    replace HX1 : Hid ((V4.setCell ⟨w.heap.size + 1, 2, none⟩ (.int .i64 p4)).heap[w.heap.size + 1]? = some (.cells #[.string (tb l1), .slice pa ps.length pc, .int .i64 p4, .int .i64 0, .slice none 0 0] 45)) := (by simpa using heap_setCell_same V4 (w.heap.size + 1) 2 _ _ (.int .i64 p4) X1 : _ = _)
    replace HOW := Hid.mk' (own_set (HR.out.own o4 HOW.out (by decide)) X1 (by decide) 2 (.int .i64 p4))
    replace HR := Hid.mk' (q4.set hn1 HV1.out 2 (.int .i64 p4))
    replace HO := Hid.mk' ((HO.out.on o4).put (Nat.le_succ w.heap.size) 2 (.int .i64 p4))
    clear r4 q4 o4 i4 X1 HBy
    go_wp2_with fail
    generalize V4.setCell ⟨w.heap.size + 1, 2, none⟩ (.int .i64 p4) = W4 at *
    clear y1 z1
    refine (HSh.out _ _ HR.out).mono ?_
    rintro e V5 ⟨p5, s5, rfl, r5, q5, o5, i5⟩
    have HRN5 := Hid.mk' (And.intro r5 i5)
    have X1 := o5.blk HX1.out hn1
    have y1 := cell_of_obj X1 (j := 3) (v := .int .i64 0) rfl
    have z1 := Lib.frozen_of_heap X1 3
    replace HX0 := Hid.mk' ((Below.heap_setCell V5 ⟨w.heap.size + 1, 3, none⟩ (.int .i64 p5) w.heap.size (by simp)).trans (o5.blk HX0.out hn0))
    replace HX1 : Hid ((V5.setCell ⟨w.heap.size + 1, 3, none⟩ (.int .i64 p5)).heap[w.heap.size + 1]? = some (.cells #[.string (tb l1), .slice pa ps.length pc, .int .i64 p4, .int .i64 p5, .slice none 0 0] 45)) := (by simpa using heap_setCell_same V5 (w.heap.size + 1) 3 _ _ (.int .i64 p5) X1 : _ = _)
    replace HOW := Hid.mk' (own_set (HR.out.own o5 HOW.out (by decide)) X1 (by decide) 3 (.int .i64 p5))
    replace HR := Hid.mk' (q5.set hn1 HV1.out 3 (.int .i64 p5))
    replace HO := Hid.mk' ((HO.out.on o5).put (Nat.le_succ w.heap.size) 3 (.int .i64 p5))
    clear r5 q5 o5 i5 X1 HSh
    go_wp2_with fail
    generalize V5.setCell ⟨w.heap.size + 1, 3, none⟩ (.int .i64 p5) = W5 at *
    clear y1 z1
    have hsz5 := HO.out.size
    go_region_with (first
      | (go_at_call 37; refine (HC2.out _ _ HR.out.drew).mono ?_; rintro e V6 ⟨n6, s6, rfl, r6, q6, o6, i6⟩; have hsz6 : w.heap.size ≤ V6.heap.size := Nat.le_trans hsz5 o6.size)
      | (go_at_call 60; refine (HIS.out _ _ _ q6 (HVV.out _ hsz6) i6).mono ?_; rintro e V7 ⟨cs, s7, ca, cc, rfl, r7, q7, o7, ow7, ll7, g7⟩; have X1 := o7.blk (o6.blk HX1.out hn1) hn1; have y1 := cell_of_obj X1 (j := 4) rfl; have z1 := Lib.frozen_of_heap X1 4))
    all_goals
      rw [List.map_id] at r7
      have HRN6 := Hid.mk' r6
      have HRN7 := Hid.mk' r7
      have HG7 := Hid.mk' (And.intro (Nat.le_trans ll7 i6) g7)
      replace HX0 := Hid.mk' ((Below.heap_setCell V7 ⟨w.heap.size + 1, 4, none⟩ (.slice ca cs.length cc) w.heap.size (by simp)).trans (o7.blk (o6.blk HX0.out hn0) hn0))
      replace HX1 : Hid ((V7.setCell ⟨w.heap.size + 1, 4, none⟩ (.slice ca cs.length cc)).heap[w.heap.size + 1]? = some (.cells #[.string (tb l1), .slice pa ps.length pc, .int .i64 p4, .int .i64 p5, .slice ca cs.length cc] 45)) := (by simpa using heap_setCell_same V7 (w.heap.size + 1) 4 _ _ (.slice ca cs.length cc) X1 : _ = _)
      replace HOW := Hid.mk' (own_set (q6.own o7 (HR.out.drew.own o6 (own_stay HOW.out (below_drew W5)) (by decide)) (by decide)) X1 (by decide) 4 (.slice ca cs.length cc))
      have HOC := Hid.mk' (own_set (own_mono ow7 hsz6) X1 (by decide) 4 (.slice ca cs.length cc))
      replace HR := Hid.mk' (q7.set hn1 HV1.out 4 (.slice ca cs.length cc))
      replace HO := Hid.mk' (((HO.out.drew o6).on o7).put (Nat.le_succ w.heap.size) 4 (.slice ca cs.length cc))
      clear r6 q6 o6 i6 r7 q7 o7 ow7 ll7 g7 X1 HC2 HIS y1 z1 hsz5 hsz6
      go_upto_region 7 with fail
      generalize V7.setCell ⟨w.heap.size + 1, 4, none⟩ (.slice ca cs.length cc) = W7 at *
      have y0 := cell_of_obj HX1.out (j := 0) (v := .string (tb l1)) rfl
      have y1 := cell_of_obj HX1.out (j := 1) (v := .slice pa ps.length pc) rfl
      have y2 := cell_of_obj HX1.out (j := 2) (v := .int .i64 p4) rfl
      have y3 := cell_of_obj HX1.out (j := 3) (v := .int .i64 p5) rfl
      have y4 := cell_of_obj HX1.out (j := 4) (v := .slice ca cs.length cc) rfl
      have z0 := cell_of_obj HX0.out (j := 0) (v := .string ⟨#[]⟩) rfl
      have z1 := cell_of_obj HX0.out (j := 1) (v := .slice none 0 0) rfl
      have z2 := cell_of_obj HX0.out (j := 2) (v := .int .i64 0) rfl
      have z3 := cell_of_obj HX0.out (j := 3) (v := .int .i64 0) rfl
      have z4 := cell_of_obj HX0.out (j := 4) (v := .slice none 0 0) rfl
      have ff := fun j => Lib.frozen_of_heap HX0.out j
      obtain ⟨nm, hnm⟩ : ∃ nm, tb l1 = nm := ⟨_, rfl⟩
      have HNM := Hid.mk' hnm
      have hns : nm.size ≤ 16 := by rw [← hnm, tb_size]; exact hl1
      rw [hnm] at y0
      clear hnm hl1
      go_wp2_with fail
      refine bodyPost_ret (v := .agg #[.string nm, .slice pa ps.length pc, .int .i64 p4, .int .i64 p5, .slice ca cs.length cc]) (by simp [results, Tryd.results40, go_sem, *]) rfl ⟨⟨nm, pa, pc, ps, p4, p5, ca, cc, cs⟩, s7, rfl, ?_, ?_, ?_, ⟨own_put HOW.out HX0.out (by decide) (set5 _ _ _ _ _ _ _), own_put HOC.out HX0.out (by decide) (set5 _ _ _ _ _ _ _)⟩, ⟨hns, by8 HRN4.out.2, by16 HRN5.out.2, HG3.out.1, HG3.out.2, HG7.out.1, HG7.out.2⟩⟩
      · have := HRN0.out.bind (f := fun n => (rawR n).bind fun name => (cntR 1 8 3).bind fun k => (listR spR k).bind fun ps => w1R.bind fun regs => w2R.bind fun words => (cntR 2 1024 97).bind fun c => (listR isR c).bind fun code => Rd.ret (⟨tb name, none, 0, ps, regs, words, none, 0, code⟩ : Fn)) (HRN1.out.bind (HRN2.out.bind (HRN3.out.bind (HRN4.out.1.bind (HRN5.out.1.bind (HRN6.out.bind (HRN7.out.bind (Rn.ret _))))))))
        rw [HNM.out] at this
        exact this
      · exact ((((HR.out.set hn0 HV0.out 0 _).set hn0 HV0.out 1 _).set hn0 HV0.out 2 _).set hn0 HV0.out 3 _).set hn0 HV0.out 4 _
      · exact ((((HO.out.put (Nat.le_refl _) 0 _).put (Nat.le_refl _) 1 _).put (Nat.le_refl _) 2 _).put (Nat.le_refl _) 3 _).put (Nat.le_refl _) 4 _
end Go.Proofs.YtfamomjgjamnoaaDoor
