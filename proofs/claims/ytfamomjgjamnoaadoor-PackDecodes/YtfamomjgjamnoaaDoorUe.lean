/- The document's own reader: a function. -/
import Derived.Test.YtfamomjgjamnoaaDoorJo
namespace Go.Proofs.YtfamomjgjamnoaaDoor
open Go.RowKit Go.Sort

def RFnP (R : Nat) (bs : Bt) (va : Option Addr) (vc : Nat) (s : Sr) (w : World) (e : Ending) (w' : World) : Prop :=
  ∃ (g : Fn) (s' : Sr), e = .returned g.val ∧ Rn fnR bs s g.er s' ∧ RdAt 67 R bs va vc s' w' ∧ OnlyB R w w' ∧ OwnF w' w.heap.size g ∧ GFn g
theorem FI.shut {R : Nat} {bs : Bt} {va : Option Addr} {vc : Nat} {w : World} {s : Sr} {g : Fn} {W : World} (h : FI R bs va vc w s g W) (v0 v1 v2 v3 v4 : Value) :
    RdAt 67 R bs va vc s (((((W.setCell ⟨w.heap.size, 0, none⟩ v0).setCell ⟨w.heap.size, 1, none⟩ v1).setCell ⟨w.heap.size, 2, none⟩ v2).setCell ⟨w.heap.size, 3, none⟩ v3).setCell ⟨w.heap.size, 4, none⟩ v4) ∧
    OnlyB R w (((((W.setCell ⟨w.heap.size, 0, none⟩ v0).setCell ⟨w.heap.size, 1, none⟩ v1).setCell ⟨w.heap.size, 2, none⟩ v2).setCell ⟨w.heap.size, 3, none⟩ v3).setCell ⟨w.heap.size, 4, none⟩ v4) ∧
    OwnF (((((W.setCell ⟨w.heap.size, 0, none⟩ v0).setCell ⟨w.heap.size, 1, none⟩ v1).setCell ⟨w.heap.size, 2, none⟩ v2).setCell ⟨w.heap.size, 3, none⟩ v3).setCell ⟨w.heap.size, 4, none⟩ v4) w.heap.size g := by
  have hR : w.heap.size ≠ R := by have := h.lR; omega
  have hv : ∀ a, va = some a → a.block ≠ w.heap.size := fun a e => by have := h.lv a e; omega
  refine ⟨((((h.rd.set hR hv _ _).set hR hv _ _).set hR hv _ _).set hR hv _ _).set hR hv _ _, ((((h.ob.put (Nat.le_refl _) _ _).put (Nat.le_refl _) _ _).put (Nat.le_refl _) _ _).put (Nat.le_refl _) _ _).put (Nat.le_refl _) _ _, ?_, ?_⟩
  · exact own_put h.o.1 h.z (by decide) (set5 W _ _ _ _ _ _)
  · exact own_put h.o.2 h.z (by decide) (set5 W _ _ _ _ _ _)
theorem FI.start {R : Nat} {bs : Bt} {va : Option Addr} {vc : Nat} {w : World} {s : Sr} (h : RdAt 67 R bs va vc s w) (hv : ∀ a, va = some a → a.block < w.heap.size) :
    FI R bs va vc w s fn0 ((w.alloc (.cells (fnC fn0) 45)).alloc (.cells (fnC fn0) 45)) := by
  have b1 := Below.one (Below.refl _ w) (.cells (fnC fn0) 45)
  have b2 := Below.one b1 (.cells (fnC fn0) 45)
  have x1 := heap_alloc_new (w.alloc (.cells (fnC fn0) 45)) (.cells (fnC fn0) 45)
  rw [World.size_alloc] at x1
  exact ⟨h.stay b2, OnlyB.of b2, blk_stay (heap_alloc_new w _) (Below.one (Below.refl _ _) _), x1, ⟨World.ownsRow_nil _ _ _ _, World.ownsRow_nil _ _ _ _⟩, h.lt, hv⟩
theorem u8_ofNat {n : Nat} (h : n < 256) : u8V (UInt8.ofNat n) = .int .u8 (n : Int) := by
  unfold u8V; congr 1; simp; omega
theorem is_ok {x0 x1 x2 x3 x4 : Int} (h0 : 0 ≤ x0 ∧ x0 ≤ 255) (h1 : 0 ≤ x1 ∧ x1 ≤ 255) (h2 : 0 ≤ x2 ∧ x2 ≤ 255) (h3 : 0 ≤ x3 ∧ x3 ≤ 255) (h4 : I64 x4) : Is.Ok ⟨x0, x1, x2, x3, x4⟩ := by
  refine ⟨?_, ?_, ?_, ?_, h4⟩ <;> unfold I64 <;> simp only <;> omega
set_option maxRecDepth 100000 in
set_option maxHeartbeats 8000000 in
theorem rfn_any (R : Nat) (bs : Bt) (va : Option Addr) (vc : Nat) (s : Sr) (w : World) (h : RdAt 67 R bs va vc s w) (hv : ∀ a, va = some a → a.block < w.heap.size) :
    Calls Tryd.prog 25 #[.pointer (some ⟨R, 0, none⟩)] w (RFnP R bs va vc s w) := by
  have HI := Hid.mk' (FI.start h hv)
  have HM : Hid (∀ (k most : Nat) (er : Int) s W, RdAt 67 R bs va vc s W → k ≤ 2 → er ≠ 0 → Calls Tryd.prog 24 #[.pointer (some ⟨R, 0, none⟩), .int .i64 (k : Int), .int .i64 (most : Int), .int .i64 er] W (RdP 67 R bs va vc s (cntR k most er) (fun n => .int .i64 (n : Int)) (fun n _ => n ≤ most) W)) := fun k most er s W h hk he => rmany_any _ R bs va vc s W k most er h hk he
  have HN8 := Hid.mk' (fun s W h => nm8 R bs va vc s W h)
  have HN1 := Hid.mk' (fun s W h => nm1 R bs va vc s W h)
  have HN2 := Hid.mk' (fun s W h => nm2 R bs va vc s W h)
  have HNB := Hid.mk' (fun s W h => nmB R bs va vc s W h)
  clear h hv
  go_enter Tryd.func25, Tryd.ntmps25
  go_wp2_with fail
  unfold fnC fn0 at HI
  simp only [List.length_nil] at HI
  generalize (w.alloc (.cells #[.string ⟨#[]⟩, .slice none 0 0, .int .i64 0, .int .i64 0, .slice none 0 0] 45)).alloc (.cells #[.string ⟨#[]⟩, .slice none 0 0, .int .i64 0, .int .i64 0, .slice none 0 0] 45) = W0 at *
  refine (HM.out 1 16 8 _ _ HI.out.rd (by decide) (by decide)).mono ?_
  rintro e W1 ⟨n1, s1, rfl, r1, q1, o1, i1⟩
  have HR1 := Hid.mk' r1
  have HAL : Hid (∀ a, s1 = .at a → a ≤ bs.length) := fun a e => by
    subst e
    obtain ⟨a', e', p', _, hl, hs⟩ := q1.ex
    obtain ⟨rfl, _⟩ := ss_at hs
    exact hl
  have bo := Below.one (Below.refl _ W1) (.cells #[] 5)
  have h1 := HI.out.read q1 o1
  have HO1 := Hid.mk' (own_mono (row_new W1 5 1) (N' := w.heap.size) (by have := h1.ge; omega))
  replace HI := Hid.mk' (h1.stay bo)
  clear r1 q1 o1 bo h1
  go_wp2_with fail
  generalize W1.alloc (.cells #[] 5) = W2 at *
  go_loopw [5, 6] (fun t5 t6 wr => ∃ (j : Nat) (l : Bt) (s' : Sr), j ≤ n1 ∧ l.length = j ∧ t6 = .int .i64 j ∧ Ob w.heap.size l t5 wr ∧ FI R bs va vc w s' ⟨⟨#[]⟩, none, 0, [], 0, 0, none, 0, []⟩ wr ∧ Rn (listR b1R j) bs s1 l s') (fun _ t6 _ => n1 - (intOf t6).toNat)
  case atStart => exact ⟨0, [], s1, Nat.zero_le _, rfl, rfl, HO1.out, HI.out, Rn.ret _⟩
  case round =>
    obtain ⟨j, l, s', hj, hl, rfl, how, hfi, hrn⟩ := hrel
    clear HI HO1
    obtain ⟨a5, c5, rfl⟩ := gown_form how
    by_cases hlt : j < n1
    · have hli : (j : Int) < (n1 : Int) := by omega
      have HFI := Hid.mk' hfi
      have HOW := Hid.mk' how
      have HRN := Hid.mk' hrn
      have HLL := Hid.mk' hl
      clear hfi how hrn hl
      go_wp2_with fail
      refine (HNB.out _ _ HFI.out.rd).mono ?_
      rintro e W3 ⟨n, s3, rfl, hn, r3, q3, o3⟩
      have h3 := HFI.out.read q3 o3
      have ow3 := HFI.out.rd.own o3 HOW.out (by decide)
      have hu8 : IntKind.u8.wrap (n : Int) = (n : Int) := by rw [IntKind.wrap_u8]; omega
      have bo := Below.one (Below.refl _ W3) (.cells #[.int .u8 (n : Int)] 5)
      have HAP : Hid (∃ v' W', (Builtin.append_ #[27, 27] 27 #[.slice a5 l.length c5, .slice (some ⟨W3.heap.size, 0, none⟩) 1 1]).run Tryd.prog (W3.alloc (.cells #[.int .u8 (n : Int)] 5)) = .ok v' W' ∧ (Ob w.heap.size (l ++ [UInt8.ofNat n]) v' W' ∧ FI R bs va vc w s3 ⟨⟨#[]⟩, none, 0, [], 0, 0, none, 0, []⟩ W')) := by
        obtain ⟨v', W', k1, k2, _, k4⟩ := ob_grow (l := [UInt8.ofNat n]) (own_stay ow3 bo) (by have := HLL.out; simp; omega) (by have := h3.ge; simp; omega) 27 (some ⟨W3.heap.size, 0, none⟩) 1 (by simp) (fun a' e => by cases e; have := newsT W3 5 [u8V (UInt8.ofNat n)]; rw [u8_ofNat hn] at this; simpa [u8C, u8_ofNat hn] using this)
        exact ⟨v', W', k1, k2, (h3.stay bo).bytes (own_stay ow3 bo) k4⟩
      have HR3 := Hid.mk' (HRN.out.next r3)
      clear h3 ow3 r3 q3 o3 bo HFI HOW HRN
      go_wp2_with (at_builtin; refine wpl_app rfl _ _ 27 27 _ _ rfl rfl rfl HAP.out ?_; rintro v4 W4 ⟨ob4, fi4⟩)
      go_roundw
      case rel => exact ⟨j + 1, _, s3, by omega, by have := HLL.out; simp; omega, by go_num, ob4, fi4, HR3.out⟩
      case measure => simp [intOf]; omega
    · obtain rfl : j = n1 := by omega
      have hst := slB_text (ob_sl how)
      have HRW := Hid.mk' (hrn.raw HAL.out)
      have hy := cell_of_obj hfi.f (j := 0) (v := .string ⟨#[]⟩) rfl
      have hz := Lib.frozen_of_heap hfi.f 0
      have HFI := Hid.mk' (hfi.put (j := 0) (u := .string (tb l)) (g' := ⟨tb l, none, 0, [], 0, 0, none, 0, []⟩) rfl hfi.o)
      have HNL : Hid ((tb l).size ≤ 16) := by show (tb l).size ≤ 16; rw [tb_size]; omega
      clear how hrn hfi hl HAL HNB
      go_wp2_with fail
      generalize wr.setCell ⟨w.heap.size + 1, 0, none⟩ (.string (tb l)) = W5 at *
      clear hst hy hz
      refine (HM.out 1 8 3 _ _ HFI.out.rd (by decide) (by decide)).mono ?_
      rintro e W6 ⟨n2, s6, rfl, r6, q6, o6, i6⟩
      have HR6 := Hid.mk' r6
      replace HFI := Hid.mk' (HFI.out.read q6 o6)
      clear r6 q6 o6
      go_wp2_with fail
      go_loopw [7] (fun t7 wr => ∃ (j : Nat) (ps : List Sp) (pa : Option Addr) (pc : Nat) (s' : Sr), j ≤ n2 ∧ ps.length = j ∧ t7 = .int .i64 j ∧ FI R bs va vc w s' ⟨tb l, pa, pc, ps, 0, 0, none, 0, []⟩ wr ∧ Rn (listR spR j) bs s6 ps s' ∧ ∀ p ∈ ps, spOk p) (fun t7 _ => n2 - (intOf t7).toNat)
      case atStart => exact ⟨0, [], none, 0, s6, Nat.zero_le _, rfl, rfl, HFI.out, Rn.ret _, by simp⟩
      case round =>
        obtain ⟨k, ps, pa, pc, s7, hk, hpl, rfl, hfi, hrn, hps⟩ := hrel
        clear HFI
        by_cases hlt2 : k < n2
        · have hli : (k : Int) < (n2 : Int) := by omega
          have HFI := Hid.mk' hfi
          have HRN := Hid.mk' hrn
          have HPL := Hid.mk' hpl
          have HPS := Hid.mk' hps
          clear hfi hrn hpl hps
          go_wp2_with fail
          refine (HN8.out _ _ HFI.out.rd).mono ?_
          rintro e W8 ⟨n, lo, s8, rfl, e1, e2, i8, r8, q8, o8⟩
          replace HFI := Hid.mk' (HFI.out.read q8 o8)
          have HR8 := Hid.mk' r8
          have HI8 := Hid.mk' i8
          have y1 := cell_of_obj HFI.out.f (j := 1) (v := .slice pa ps.length pc) rfl
          have z1 := Lib.frozen_of_heap HFI.out.f 1
          clear r8 q8 o8 i8
          go_wp2_with fail
          go_region_law (first
            | (refine step_app (by rfl) _ _ 42 42 _ _ (by rfl) (by rfl) (by rfl) HAP.out ?_; rintro v10 W10 ⟨pa', pc', rfl, yc, zc, fi10⟩)
            | (go_simp; go_at_call 22; refine (HN8.out _ _ HFI.out.drew.rd).mono ?_; rintro e W9 ⟨nn, hi, s9, rfl, e3, e4, i9, r9, q9, o9⟩; have y9 := cell_of_obj (HFI.out.drew.read q9 o9).f (j := 1) (v := .slice pa ps.length pc) rfl; have y9a : ∀ o, (W9.alloc o).cell? ⟨w.heap.size + 1, 1, none⟩ = some (.slice pa ps.length pc) := fun o => cell_of_obj ((HFI.out.drew.read q9 o9).stay (Below.one (Below.refl _ W9) o)).f (j := 1) rfl; have HAP := Hid.mk' ((HFI.out.drew.read q9 o9).span (lo, hi) (by have := HPL.out; simp only; omega) 42)))
          all_goals
            have HFI2 := Hid.mk' fi10
            have HR9 := Hid.mk' (HRN.out.next (HR8.out.bind (f := fun lo => w8R.bind fun hi => Rd.ret (lo, hi)) (r9.bind (Rn.ret _))))
            have HI9 := Hid.mk' i9
            clear fi10 r9 q9 o9 i9 HAP y9 y9a yc zc y1 z1 HFI HRN HR8
            go_wp2_with fail
            go_roundw
            case rel => exact ⟨k + 1, ps ++ [(lo, hi)], pa', pc', s9, by omega, by have := HPL.out; simp; omega, by go_num, HFI2.out, HR9.out, fun p hp => by
              rcases List.mem_append.1 hp with h | h
              · exact HPS.out p h
              · simp at h; subst h; exact ⟨HI8.out, HI9.out⟩⟩
            case measure => simp [intOf]; omega
        · obtain rfl : k = n2 := by omega
          have HFI := Hid.mk' hfi
          have HRP := Hid.mk' hrn
          have HPS := Hid.mk' hps
          have HPL : Hid (ps.length ≤ 8) := by show ps.length ≤ 8; omega
          clear hfi hrn hps hpl
          go_wp2_with fail
          refine (HN1.out _ _ HFI.out.rd).mono ?_
          rintro e W8 ⟨n, rg, s8, rfl, e1, e2, i8, r8, q8, o8⟩
          replace HFI := Hid.mk' (HFI.out.read q8 o8)
          have HR8 := Hid.mk' r8
          have HI8 := Hid.mk' i8
          have y1 := cell_of_obj HFI.out.f (j := 2) (v := .int .i64 0) rfl
          have z1 := Lib.frozen_of_heap HFI.out.f 2
          have HF9 := Hid.mk' (HFI.out.put (j := 2) (u := .int .i64 rg) (g' := ⟨tb l, pa, pc, ps, rg, 0, none, 0, []⟩) rfl HFI.out.o)
          clear r8 q8 o8 i8 HFI
          go_wp2_with fail
          generalize W8.setCell ⟨w.heap.size + 1, 2, none⟩ (.int .i64 rg) = W9 at *
          clear y1 z1 e1 e2
          refine (HN2.out _ _ HF9.out.rd).mono ?_
          rintro e W10 ⟨nn, wd, s10, rfl, e1, e2, i10, r10, q10, o10⟩
          have HFI := Hid.mk' (HF9.out.read q10 o10)
          have HR10 := Hid.mk' r10
          have HI10 := Hid.mk' i10
          have y1 := cell_of_obj HFI.out.f (j := 3) (v := .int .i64 0) rfl
          have z1 := Lib.frozen_of_heap HFI.out.f 3
          have HFJ := Hid.mk' (HFI.out.put (j := 3) (u := .int .i64 wd) (g' := ⟨tb l, pa, pc, ps, rg, wd, none, 0, []⟩) rfl HFI.out.o)
          clear r10 q10 o10 i10 HN2 HFI HF9
          go_wp2_with fail
          generalize W10.setCell ⟨w.heap.size + 1, 3, none⟩ (.int .i64 wd) = W11 at *
          clear y1 z1 e1 e2
          refine (HM.out 2 1024 97 _ _ HFJ.out.rd (by decide) (by decide)).mono ?_
          rintro e W12 ⟨n3, s12, rfl, r12, q12, o12, i12⟩
          have HR12 := Hid.mk' r12
          have HFI := Hid.mk' (HFJ.out.read q12 o12)
          clear r12 q12 o12 HM HFJ
          go_wp2_with fail
          go_loopw [9] (fun t9 wr => ∃ (j : Nat) (cs : List Is) (ca : Option Addr) (cc : Nat) (s' : Sr), j ≤ n3 ∧ cs.length = j ∧ t9 = .int .i64 j ∧ FI R bs va vc w s' ⟨tb l, pa, pc, ps, rg, wd, ca, cc, cs⟩ wr ∧ Rn (listR isR j) bs s12 cs s' ∧ ∀ x ∈ cs, x.Ok) (fun t9 _ => n3 - (intOf t9).toNat)
          case atStart => exact ⟨0, [], none, 0, s12, Nat.zero_le _, rfl, rfl, HFI.out, Rn.ret _, by simp⟩
          case round =>
            obtain ⟨i, cs, ca, cc, s13, hi, hcl, rfl, hfi, hrn, hcs⟩ := hrel
            clear HFI
            obtain ⟨ra, re, rp, hrb, _, hrs⟩ := hfi.rd.ex
            have ye := cell_of_obj hrb (j := 2) (v := .int .i64 re) rfl
            have HFI := Hid.mk' hfi
            have HRN := Hid.mk' hrn
            have HCS := Hid.mk' hcs
            have HCL := Hid.mk' hcl
            clear hfi hrn hcs hcl hrb
            have hu : (i < n3 ∧ ∃ a, s13 = .at a) ∨ (¬ i < n3 ∨ ∃ e p, s13 = .bad e p) := by
              by_cases h1 : i < n3
              · cases s13 with
                | «at» a => exact .inl ⟨h1, _, rfl⟩
                | bad e p => exact .inr (.inr ⟨_, _, rfl⟩)
              · exact .inr (.inl h1)
            rcases hu with ⟨hlt3, aa, rfl⟩ | hout
            · have hli : (i : Int) < (n3 : Int) := by omega
              obtain ⟨rfl, rfl⟩ := ss_at hrs
              clear hrs
              go_wp2_with fail
              refine (HN1.out _ _ HFI.out.rd).mono ?_
              rintro e W14 ⟨m0, x0, s14, rfl, e1, e2, i14, r14, q14, o14⟩
              have HX0 := Hid.mk' ((HFI.out.read q14 o14).box ⟨x0, 0, 0, 0, 0⟩)
              have HR0 := Hid.mk' r14
              have HI0 := Hid.mk' i14
              clear r14 q14 o14 i14 HFI ye
              go_wp2_with fail
              generalize W14.heap.size = G at *
              generalize W14.alloc (.cells #[.int .i64 x0, .int .i64 0, .int .i64 0, .int .i64 0, .int .i64 0] 58) = V0 at *
              clear e1 e2
              refine (HN1.out _ _ HX0.out.i.rd).mono ?_
              rintro e U1 ⟨m1, x1, t1, rfl, e1, e2, j1, r1, q1, o1⟩
              have hx1 := HX0.out.read q1 o1
              have y1 := cell_of_obj hx1.bx (j := 1) (v := .int .i64 0) rfl
              have z1 := Lib.frozen_of_heap hx1.bx 1
              have HX1 := Hid.mk' (hx1.put (j := 1) (u := .int .i64 x1) (x' := ⟨x0, x1, 0, 0, 0⟩) rfl)
              have HR1' := Hid.mk' r1
              have HI1' := Hid.mk' j1
              clear r1 q1 o1 j1 hx1 HX0
              go_wp2_with fail
              generalize U1.setCell ⟨G, 1, none⟩ (.int .i64 x1) = V1 at *
              clear e1 e2 y1 z1
              refine (HN1.out _ _ HX1.out.i.rd).mono ?_
              rintro e U2 ⟨m2, x2, t2, rfl, e1, e2, j2, r2, q2, o2⟩
              have hx2 := HX1.out.read q2 o2
              have y1 := cell_of_obj hx2.bx (j := 2) (v := .int .i64 0) rfl
              have z1 := Lib.frozen_of_heap hx2.bx 2
              have HX2 := Hid.mk' (hx2.put (j := 2) (u := .int .i64 x2) (x' := ⟨x0, x1, x2, 0, 0⟩) rfl)
              have HR2 := Hid.mk' r2
              have HI2 := Hid.mk' j2
              clear r2 q2 o2 j2 hx2 HX1
              go_wp2_with fail
              generalize U2.setCell ⟨G, 2, none⟩ (.int .i64 x2) = V2 at *
              clear e1 e2 y1 z1
              refine (HN1.out _ _ HX2.out.i.rd).mono ?_
              rintro e U3 ⟨m3, x3, t3, rfl, e1, e2, j3, r3, q3, o3⟩
              have hx3 := HX2.out.read q3 o3
              have y1 := cell_of_obj hx3.bx (j := 3) (v := .int .i64 0) rfl
              have z1 := Lib.frozen_of_heap hx3.bx 3
              have HX3 := Hid.mk' (hx3.put (j := 3) (u := .int .i64 x3) (x' := ⟨x0, x1, x2, x3, 0⟩) rfl)
              have HR3 := Hid.mk' r3
              have HI3 := Hid.mk' j3
              clear r3 q3 o3 j3 hx3 HX2
              go_wp2_with fail
              generalize U3.setCell ⟨G, 3, none⟩ (.int .i64 x3) = V3 at *
              clear e1 e2 y1 z1
              refine (HN8.out _ _ HX3.out.i.rd).mono ?_
              rintro e U4 ⟨m4, x4, t4, rfl, e1, e2, j4, r4, q4, o4⟩
              have hx4 := HX3.out.read q4 o4
              have y1 := cell_of_obj hx4.bx (j := 4) (v := .int .i64 0) rfl
              have z1 := Lib.frozen_of_heap hx4.bx 4
              have HX4 := Hid.mk' (hx4.put (j := 4) (u := .int .i64 x4) (x' := ⟨x0, x1, x2, x3, x4⟩) rfl)
              have HR4 := Hid.mk' r4
              have HI4 := Hid.mk' j4
              clear r4 q4 o4 j4 hx4 HX3
              go_upto_region 26 with fail
              generalize U4.setCell ⟨G, 4, none⟩ (.int .i64 x4) = V4 at *
              clear e1 e2 y1 z1
              have y0 := cell_of_obj HX4.out.bx (j := 0) (v := .int .i64 x0) rfl
              have y1 := cell_of_obj HX4.out.bx (j := 1) (v := .int .i64 x1) rfl
              have y2 := cell_of_obj HX4.out.bx (j := 2) (v := .int .i64 x2) rfl
              have y3 := cell_of_obj HX4.out.bx (j := 3) (v := .int .i64 x3) rfl
              have y4 := cell_of_obj HX4.out.bx (j := 4) (v := .int .i64 x4) rfl
              have yf := cell_of_obj HX4.out.i.f (j := 4) (v := .slice ca cs.length cc) rfl
              have HAP := Hid.mk' (HX4.out.i.ins ⟨x0, x1, x2, x3, x4⟩ (by have := HCL.out; simp only; omega) 43)
              have HRR := Hid.mk' (HRN.out.next (HR0.out.bind (f := fun op => w1R.bind fun a => w1R.bind fun b => w1R.bind fun c => w8R.bind fun n => Rd.ret (⟨op, a, b, c, n⟩ : Is)) (HR1'.out.bind (HR2.out.bind (HR3.out.bind (HR4.out.bind (Rn.ret _)))))))
              have HOK := Hid.mk' (is_ok HI0.out HI1'.out HI2.out HI3.out HI4.out)
              clear HX4 HR0 HR1' HR2 HR3 HR4 HRN HI0 HI1' HI2 HI3 HI4
              go_wp2_with (at_builtin; refine wpl_app rfl _ _ 43 43 _ _ rfl rfl rfl HAP.out ?_; rintro v20 W20 ⟨ca', cc', rfl, yc, zc, fi20⟩)
              have HFI := Hid.mk' fi20
              go_roundw
              case rel => exact ⟨i + 1, cs ++ [⟨x0, x1, x2, x3, x4⟩], ca', cc', _, by omega, by have := HCL.out; simp; omega, by go_num, HFI.out, HRR.out, fun x hx => by
                rcases List.mem_append.1 hx with h | h
                · exact HCS.out x h
                · simp at h; subst h; exact HOK.out⟩
              case measure => simp [intOf]; omega
            · have HEND : Hid (Rn (listR isR n3) bs s12 cs s13) := by
                show Rn _ _ _ _ _
                rcases hout with h1 | ⟨e, p, rfl⟩
                · obtain rfl : i = n3 := by omega
                  exact HRN.out
                · exact HRN.out.more n3 hi cs
              have f0 := cell_of_obj HFI.out.f (j := 0) (v := .string (tb l)) rfl
              have f1 := cell_of_obj HFI.out.f (j := 1) (v := .slice pa ps.length pc) rfl
              have f2 := cell_of_obj HFI.out.f (j := 2) (v := .int .i64 rg) rfl
              have f3 := cell_of_obj HFI.out.f (j := 3) (v := .int .i64 wd) rfl
              have f4 := cell_of_obj HFI.out.f (j := 4) (v := .slice ca cs.length cc) rfl
              have g0 := cell_of_obj HFI.out.z (j := 0) (v := .string ⟨#[]⟩) rfl
              have g1 := cell_of_obj HFI.out.z (j := 1) (v := .slice none 0 0) rfl
              have g2 := cell_of_obj HFI.out.z (j := 2) (v := .int .i64 0) rfl
              have g3 := cell_of_obj HFI.out.z (j := 3) (v := .int .i64 0) rfl
              have g4 := cell_of_obj HFI.out.z (j := 4) (v := .slice none 0 0) rfl
              have gz := fun j => Lib.frozen_of_heap HFI.out.z j
              have HSH := Hid.mk' (HFI.out.shut (.string (tb l)) (.slice pa ps.length pc) (.int .i64 rg) (.int .i64 wd) (.slice ca cs.length cc))
              have hex : ((i : Int) < (n3 : Int) ∧ (re == 0) = false) ∨ ¬ (i : Int) < (n3 : Int) := by
                by_cases h1 : i < n3
                · rcases hout with h2 | ⟨e, p, rfl⟩
                  · exact absurd h1 h2
                  · obtain ⟨rfl, rfl, hne⟩ := ss_bad hrs
                    exact .inl ⟨by omega, beq_no hne⟩
                · exact .inr (by omega)
              have HGF : Hid (GFn ⟨tb l, pa, pc, ps, rg, wd, ca, cc, cs⟩) := by
                have k1 := HI8.out
                have k2 := HI10.out
                have k3 := HCL.out
                exact ⟨HNL.out, by unfold I64; simp only; omega, by unfold I64; simp only; omega, HPL.out, HPS.out, by simp only; omega, HCS.out⟩
              have HALL : Hid (Rn fnR bs s (Fn.er ⟨tb l, pa, pc, ps, rg, wd, ca, cc, cs⟩) s13) := by
                show Rn _ _ _ _ _
                exact HR1.out.bind (f := fun n => (rawR n).bind fun name => (cntR 1 8 3).bind fun k => (listR spR k).bind fun ps => w1R.bind fun regs => w2R.bind fun words => (cntR 2 1024 97).bind fun c => (listR isR c).bind fun code => Rd.ret (⟨tb name, none, 0, ps, regs, words, none, 0, code⟩ : Fn)) (HRW.out.bind (HR6.out.bind (HRP.out.bind (HR8.out.bind (HR10.out.bind (HR12.out.bind (HEND.out.bind (Rn.ret _))))))))
              clear hout hrs HFI HRN HR1 HRW HR6 HRP HR8 HR10 HR12 HEND HN1 HN8 HI8 HI10
              rcases hex with ⟨hli, hre⟩ | hli
              all_goals
                go_wp2_with fail
                exact bodyPost_ret (v := .agg #[.string (tb l), .slice pa ps.length pc, .int .i64 rg, .int .i64 wd, .slice ca cs.length cc]) (by simp [results, Tryd.results25, go_sem, *]) rfl ⟨⟨tb l, pa, pc, ps, rg, wd, ca, cc, cs⟩, s13, rfl, HALL.out, HSH.out.1, HSH.out.2.1, HSH.out.2.2, HGF.out⟩
end Go.Proofs.YtfamomjgjamnoaaDoor
