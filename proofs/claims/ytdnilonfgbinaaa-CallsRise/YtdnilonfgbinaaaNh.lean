/- What can be reached: flow.Reach. -/
import Derived.Test.YtdnilonfgbinaaaNg
import Derived.Scope
import Derived.WalkMore
namespace Go.Proofs.Ytdnilonfgbinaaa
open Go.RowKit Go.Sort

theorem Try.elemN : Try.prog.elem 27 = 3 := by kernel_rfl
theorem slice_first (W : World) (g len c k : Nat) (h : k ≤ c) : (Instr.slice 27 (.slice (some ⟨g, 0, none⟩) len c) none (some (.int .i64 (k : Int))) none).run Try.prog W = .ok (.slice (some ⟨g, 0, none⟩) k c) W := by
  have hu : Try.prog.underlying 27 = some (.slice (Try.prog.elem 27)) := by rw [Try.elemN]; exact Try.underlying27
  rw [run_slice_h W 27 _ len c hu .i64 (k : Int) (by omega) (by omega), Try.elemN, Int.toNat_natCast]
  obtain ⟨i0, hi, hz0, hz1, hz2⟩ := info_parts Try.infoN
  simp [sizeOf, typeInfo, hi, hz1, sliced, Addr.add_lit]
/-- All but the first. -/
theorem tail_of {N N' : Nat} {l t : List Nat} {k : Nat} {v : Value} {g m c : Nat} {W : World} (h : On N l v W) (h' : On N' (k :: t) (.slice (some ⟨g, 0, none⟩) m c) W) (hN : N ≤ W.heap.size) (hl : l.length + t.length ≤ 1000000) (ty : TypeId) :
    ∃ A C, (∀ W, (Instr.slice 27 (.slice (some ⟨g, 0, none⟩) (t.length + 1) c) (some (.int .i64 1)) none none).run Try.prog W = .ok (.slice A t.length C) W) ∧ ∃ v' W', (Builtin.append_ #[27, 27] ty #[v, .slice A t.length C]).run Try.prog W = .ok v' W' ∧ On N (l ++ t) v' W' ∧ W.grownBy W' v.ownBlock := by
  obtain ⟨a', c', e⟩ := gown_form h'
  injection e with e1 e2 e3
  obtain ⟨v', W', h1, h2, h3⟩ := on_tail h h' hN hl ty
  have hs : sliced (some ⟨g, 0, none⟩) 1 m c 1 = .slice (if c = 1 then some ⟨g, 0, none⟩ else some ⟨g, 1, none⟩) t.length (c - 1) := by
    rw [e2]
    unfold sliced
    simp [Addr.add_lit]
  rw [hs] at h1
  refine ⟨_, _, fun W => ?_, v', W', h1, h2, h3⟩
  have hu : Try.prog.underlying 27 = some (.slice (Try.prog.elem 27)) := by rw [Try.elemN]; exact Try.underlying27
  rw [run_slice_l W 27 _ (t.length + 1) c hu .i64 1 (by omega) (by omega), Try.elemN]
  obtain ⟨i0, hi, hz0, hz1, hz2⟩ := info_parts Try.infoN
  have e2' : t.length + 1 = m := by rw [e2]; simp
  simp [sizeOf, typeInfo, hi, hz1]
  rw [← hs, e2']
theorem own_cell {W : World} {N n : Nat} {T : TypeId} {a : Option Addr} {c : Nat} {xs : List Value} (h : W.ownsRow N T 1 (.slice a n c) n xs) {j : Nat} {u : Value} (hj : xs[j]? = some u) : ∃ g, a = some ⟨g, 0, none⟩ ∧ W.cell? ⟨g, j, none⟩ = some u ∧ n ≤ c := by
  rcases h.2 with ⟨e, h0⟩ | ⟨g, cap, cur, e, _, _, h3, _⟩
  · have := h.1
    have := (List.getElem?_eq_some_iff.1 hj).1
    omega
  · cases e
    refine ⟨g, rfl, ?_, h3⟩
    have := h.cells (g := g) rfl j u hj
    rwa [Addr.add_lit, Nat.zero_add] at this
theorem on_at {W : World} {N : Nat} {a : Option Addr} {c m : Nat} {l : List Nat} (h : On N l (.slice a m c) W) {j k : Nat} (hj : l[j]? = some k) : ∃ g, a = some ⟨g, 0, none⟩ ∧ W.cell? ⟨g, j, none⟩ = some (.int .i64 (k : Int)) ∧ m ≤ c ∧ m = l.length := by
  obtain ⟨a', c', e⟩ := gown_form h
  injection e with e1 e2 e3
  subst e2
  obtain ⟨g, h1, h2, h3⟩ := own_cell h (j := j) (u := nV k) (by rw [List.getElem?_map, hj]; rfl)
  exact ⟨g, h1, h2, h3, rfl⟩
theorem ob_at {W : World} {N : Nat} {a : Option Addr} {c m : Nat} {l : List Bool} (h : Ob N l (.slice a m c) W) {j : Nat} {k : Bool} (hj : l[j]? = some k) : ∃ g, a = some ⟨g, 0, none⟩ ∧ W.cell? ⟨g, j, none⟩ = some (.bool k) ∧ m ≤ c ∧ m = l.length := by
  obtain ⟨a', c', e⟩ := gown_form h
  injection e with e1 e2 e3
  subst e2
  obtain ⟨g, h1, h2, h3⟩ := own_cell h (j := j) (u := bV k) (by rw [List.getElem?_map, hj]; rfl)
  exact ⟨g, h1, h2, h3, rfl⟩
theorem concat_of {l : List Nat} (h : l ≠ []) : ∃ t k, l = t ++ [k] := ⟨l.dropLast, l.getLast h, (List.dropLast_concat_getLast h).symm⟩
def ReP (l : List Is) (w : World) (e : Ending) (w' : World) : Prop := ∃ v rs, e = .returned v ∧ IsR l rs ∧ Ob w.heap.size rs v w' ∧ Below w.heap.size w w'
set_option maxRecDepth 100000 in
set_option maxHeartbeats 4000000 in
theorem reach_any (f : Fn) (w : World) (hi : Iss w f.ca f.code) : Calls Try.prog 33 #[f.val] w (ReP f.code w) := by
  have HN : Hid (∀ (k : Nat) w', Below w.heap.size w w' → Calls Try.prog 37 #[f.val, .int .i64 (k : Int)] w' (NxP (nxt f.code k) w')) := fun k w' hb => by
    have := next_any f k w' (hi.stay hb)
    rwa [nxZ_nat] at this
  obtain ⟨fn, fpa, fpc, fps, frg, fwd, fca, fcc, fl⟩ := f
  unfold Fn.val at *
  simp only at hi HN ⊢
  have HB := Hid.mk' (Below.one (Below.refl _ w) (.cells #[.string fn, .slice fpa fps.length fpc, .int .i64 frg, .int .i64 fwd, .slice fca fl.length fcc] 42))
  have HX := Hid.mk' (heap_alloc_new w (.cells #[.string fn, .slice fpa fps.length fpc, .int .i64 frg, .int .i64 fwd, .slice fca fl.length fcc] 42))
  have y4 := cell_of_obj HX.out (j := 4) (v := .slice fca fl.length fcc) rfl
  have hc := hi.1
  clear hi
  by_cases h0 : fl.length = 0
  · have hq : ((fl.length : Int) == 0) = true := by simp [h0]
    have HR : Hid (IsR fl []) := .inl ⟨.inl h0, rfl⟩
    clear h0
    go_enter Try.func33, Try.ntmps33
    go_wp2_with fail
    go_step3
    go_wp2_with fail
    go_ret
    exact ⟨_, [], rfl, HR.out, ob_nil _ _, HB.out⟩
  have hq : ((fl.length : Int) == 0) = false := beq_no (by omega)
  by_cases h1 : 1024 < fl.length
  · have hg : (1024 : Int) < (fl.length : Int) := by omega
    have HR : Hid (IsR fl []) := .inl ⟨.inr h1, rfl⟩
    clear h0 h1
    go_enter Try.func33, Try.ntmps33
    go_wp2_with fail
    go_step3
    go_wp2_with fail
    go_ret
    exact ⟨_, [], rfl, HR.out, ob_nil _ _, HB.out⟩
  have hg : ¬ (1024 : Int) < (fl.length : Int) := by omega
  have HL : Hid (0 < fl.length ∧ fl.length ≤ 1024) := ⟨by omega, by omega⟩
  have hmk : ∀ W, _ := fun W => run_mkB W fl.length (by omega)
  clear h0 h1
  go_enter Try.func33, Try.ntmps33
  go_wp2_with fail
  go_step3
  go_wp2_with fail
  have HR0 : Hid (RI w (w.alloc (.cells #[.string fn, .slice fpa fps.length fpc, .int .i64 frg, .int .i64 fwd, .slice fca fl.length fcc] 42)) (w.heap.size + 1) (List.replicate fl.length false) [0] (.slice (some ⟨w.heap.size + 1 + 1, 0, none⟩) 1 1) (((w.alloc (.cells #[.string fn, .slice fpa fps.length fpc, .int .i64 frg, .int .i64 fwd, .slice fca fl.length fcc] 42)).alloc (.cells (mkB fl.length) 4)).alloc (.cells #[.int .i64 0] 3))) := by
    generalize hw1 : w.alloc (.cells #[.string fn, .slice fpa fps.length fpc, .int .i64 frg, .int .i64 fwd, .slice fca fl.length fcc] 42) = w1
    have hs : w1.heap.size = w.heap.size + 1 := by rw [← hw1]; simp
    have h1 := own_mkB w1 fl.length (by have := HL.out; omega)
    have h2 := own_lit (w1.alloc (.cells (mkB fl.length) 4)) 0
    have b1 := Below.one (Below.refl _ w1) (.cells (mkB fl.length) 4)
    have b2 := Below.one (Below.refl _ (w1.alloc (.cells (mkB fl.length) 4))) (.cells #[.int .i64 0] 3)
    rw [World.size_alloc] at h2
    rw [hs] at h1 h2 b1
    refine ⟨?_, own_mono h2 (Nat.le_succ _), ?_⟩
    · rw [List.length_replicate]; exact own_stay h1 b2
    · exact b1.trans (b2.mono (by rw [World.size_alloc, hs]; omega))
  have HZ : Hid (Se fl (List.replicate fl.length false) [0]) := Se.start HL.out.1
  have HU : Hid (2 * unm (List.replicate fl.length false) + ([0] : List Nat).length ≤ 3000) := by
    have := HL.out.2
    have h2 : unm (List.replicate fl.length false) ≤ fl.length := by unfold unm; exact Nat.le_trans List.count_le_length (by simp)
    show _ ≤ _
    simp only [List.length_cons, List.length_nil]
    omega
  go_step3
  go_wp2_with fail
  have HW1 : Hid (∀ W : World, Below (w.heap.size + 1) (w.alloc (.cells #[.string fn, .slice fpa fps.length fpc, .int .i64 frg, .int .i64 fwd, .slice fca fl.length fcc] 42)) W → W.heap[w.heap.size]? = some (.cells #[.string fn, .slice fpa fps.length fpc, .int .i64 frg, .int .i64 fwd, .slice fca fl.length fcc] 42) ∧ Below w.heap.size w W ∧ w.heap.size + 1 ≤ W.heap.size) := by
    intro W hb
    have h1 := (hb.block _ (Nat.lt_succ_self _)).trans HX.out
    exact ⟨h1, HB.out.trans (hb.mono (Nat.le_succ _)), (Array.getElem?_eq_some_iff.1 h1).1⟩
  clear HX y4 HB hmk
  generalize w.alloc (.cells #[.string fn, .slice fpa fps.length fpc, .int .i64 frg, .int .i64 fwd, .slice fca fl.length fcc] 42) = w1 at *
  generalize (w1.alloc (.cells (mkB fl.length) 4)).alloc (.cells #[.int .i64 0] 3) = W0 at *
  go_loopw [4] (fun t4 wr => ∃ (rs : List Bool) (wt : List Nat) (vw : Value), t4 = vw ∧ Se fl rs wt ∧ RI w w1 (w.heap.size + 1) rs wt vw wr ∧ 2 * unm rs + wt.length ≤ 3000) (fun t4 wr => 2 * ctF wr (w.heap.size + 1) + lenV t4)
  case atStart => exact ⟨_, _, _, rfl, HZ.out, HR0.out, HU.out⟩
  case round =>
    obtain ⟨rs, wt, vw, rfl, hse, hri, hun⟩ := hrel
    have HSE := Hid.mk' hse
    have HRI := Hid.mk' hri
    have HUN := Hid.mk' hun
    obtain ⟨aw, cw, rfl⟩ := gown_form hri.q
    clear hse hri hun HZ HR0 HU
    by_cases hwt : wt = []
    · subst hwt
      go_wp2_with fail
      go_ret
      refine ⟨_, rs, rfl, HSE.out.done HL.out.1 HL.out.2, ?_, (HW1.out _ HRI.out.b).2.1⟩
      have := HRI.out.r
      rw [HSE.out.len] at this
      exact own_mono this (Nat.le_succ _)
    · obtain ⟨wt, k0, rfl⟩ := concat_of hwt
      obtain ⟨gw, rfl, d0, hcw, _⟩ := on_at HRI.out.q (j := wt.length) (k := k0) (by simp)
      have hlw : (wt ++ [k0]).length = wt.length + 1 := by simp
      have hun := HUN.out
      rw [hlw] at hcw hun ⊢
      obtain ⟨M, hM⟩ : ∃ M, M = 2 * unm rs + wt.length + 1 := ⟨_, rfl⟩
      have HMM : Hid (2 * unm rs + wt.length + 1 ≤ M) := Nat.le_of_eq hM.symm
      have HM0 : Hid (2 * ctF wr (w.heap.size + 1) + lenV (.slice (some ⟨gw, 0, none⟩) (wt.length + 1) cw) = M) := by
        show _ = _
        rw [ct_own HRI.out.r, hM]; rfl
      have hw3 : wt.length ≤ 3000 := by omega
      have HM3 : Hid (M ≤ 3000) := (by omega : M ≤ 3000)
      clear hM
      have hsl : ∀ W, _ := fun W => slice_first W gw (wt.length + 1) cw wt.length (by omega)
      have HRI2 : Hid (RI w w1 (w.heap.size + 1) rs wt (.slice (some ⟨gw, 0, none⟩) wt.length cw) wr) := ⟨HRI.out.r, on_pop HRI.out.q, HRI.out.b⟩
      have HSE2 := Hid.mk' HSE.out.pop
      clear HRI HSE HUN hun hlw hwt hcw
      go_wp2_with fail
      obtain ⟨Wo, hWo⟩ : ∃ Wo, Wo = wr := ⟨_, rfl⟩
      subst hWo
      go_loopw [4, 6] (fun t4 t6 wr => ∃ (rs : List Bool) (wt : List Nat) (vw : Value) (k : Nat), t4 = vw ∧ t6 = .int .i64 (k : Int) ∧ Se fl rs (k :: wt) ∧ RI w w1 (w.heap.size + 1) rs wt vw wr ∧ 2 * unm rs + wt.length + 1 ≤ M) (fun t4 _ wr => 2 * ctF wr (w.heap.size + 1) + lenV t4)
      case atStart => exact ⟨_, _, _, _, rfl, rfl, HSE2.out, HRI2.out, HMM.out⟩
      case round =>
        clear HRI2 HSE2 HMM hsl d0 hw3
        obtain ⟨rs, wt, vw, k, rfl, rfl, hse, hri, hun⟩ := hrel
        obtain ⟨aw, cw, rfl⟩ := gown_form hri.q
        have hkl := (hse.q k (List.mem_cons_self ..)).1
        have hrl := hse.len
        obtain ⟨bk, hbk⟩ : ∃ b, rs[k]? = some b := ⟨_, List.getElem?_eq_getElem (by omega)⟩
        obtain ⟨g', e', d0, _, _⟩ := ob_at hri.r hbk
        cases e'
        have f0 := World.ownsRow.frozenAt hri.r k
        have hki : (k : Int) < (fl.length : Int) := by omega
        have HSE := Hid.mk' hse
        have HRI := Hid.mk' hri
        have HUN := Hid.mk' hun
        have HBK := Hid.mk' hbk
        clear hse hri hun hbk hrl hkl
        cases bk
        · have HRI1 := Hid.mk' (HRI.out.put k true)
          have HC1 : Hid (2 * ctF wr (w.heap.size + 1) + wt.length = 2 * unm rs + wt.length) := (by rw [ct_own HRI.out.r] : _ = _)
          obtain ⟨hx, hbw, hsz⟩ := HW1.out _ HRI1.out.b
          have HBW := Hid.mk' hbw
          have HSZ := Hid.mk' hsz
          have z0 := cell_of_obj hx (j := 0) (v := .string fn) rfl
          have z1 := cell_of_obj hx (j := 1) (v := .slice fpa fps.length fpc) rfl
          have z2 := cell_of_obj hx (j := 2) (v := .int .i64 frg) rfl
          have z3 := cell_of_obj hx (j := 3) (v := .int .i64 fwd) rfl
          have z4 := cell_of_obj hx (j := 4) (v := .slice fca fl.length fcc) rfl
          clear hx hbw hsz
          go_upto_region 11 with fail
          generalize wr.setCell ⟨w.heap.size + 1, k, none⟩ (.bool true) = W1 at *
          clear d0 f0
          go_wp2_with fail
          refine (HN.out k _ HBW.out).mono ?_
          rintro e W2 ⟨v2, rfl, on2, bb2⟩
          replace HRI1 := Hid.mk' (HRI1.out.stay HSZ.out bb2)
          have HSZ2 : Hid (w.heap.size + 1 ≤ W2.heap.size) := Nat.le_trans HSZ.out bb2.size
          have HMK := Hid.mk' HSE.out.mark
          have HUM := Hid.mk' (unm_set HBK.out)
          have hl2 := nxt_len fl k
          obtain ⟨a2, c2, rfl⟩ := gown_form on2
          clear z0 z1 z2 z3 z4 bb2
          generalize nxt fl k = nx at *
          cases nx with
          | nil =>
            go_wp2_with fail
            go_roundw
            case rel => exact ⟨_, wt, _, rfl, HMK.out, HRI1.out, by have := HUM.out; have := HUN.out; have := HM3.out; omega⟩
            case measure =>
              show 2 * ctF W2 _ + wt.length < _
              rw [HM0.out, ct_own HRI1.out.r]
              have := HUM.out; have := HUN.out; omega
          | cons k2 t =>
            have HON := Hid.mk' on2
            obtain ⟨g2, rfl, e0, hc2, _⟩ := on_at on2 (j := 0) (k := k2) rfl
            have HT1 : Hid (t.length ≤ 1) := (by simp at hl2; omega : t.length ≤ 1)
            have ht1 := HT1.out
            have hwl : wt.length ≤ 3000 := by have := HUN.out; have := HM3.out; omega
            rw [show (k2 :: t).length = t.length + 1 from rfl] at HON hc2 ⊢
            obtain ⟨A, C, hsl, hap⟩ := tail_of HRI1.out.q HON.out HSZ2.out (by omega) 27
            have HAP := Hid.mk' hap
            clear hap on2 hl2 hc2
            go_wp2_with (at_builtin; refine wpl_app rfl _ _ 27 27 _ _ rfl rfl rfl HAP.out ?_; rintro v3 W3 ⟨on3, gr3⟩)
            obtain ⟨a3, c3, rfl⟩ := gown_form on3
            have HR3 := Hid.mk' (HRI1.out.grow HSZ2.out gr3 on3)
            go_roundw
            case rel => exact ⟨_, _, _, k2, rfl, rfl, HMK.out.perm (fun v => by simp [or_comm]), HR3.out, by rw [List.length_append]; have := HUM.out; have := HUN.out; omega⟩
            case measure =>
              show 2 * ctF W3 _ + (wt ++ t).length < 2 * ctF wr _ + wt.length
              rw [ct_own HR3.out.r, HC1.out, List.length_append]
              have := HUM.out; omega
        · have HC1 := Hid.mk' (ct_own HRI.out.r)
          go_wp2_with fail
          go_roundw
          case rel => exact ⟨_, _, _, rfl, HSE.out.drop HBK.out, HRI.out, by have := HUN.out; have := HM3.out; omega⟩
          case measure =>
            show 2 * ctF wr _ + wt.length < _
            rw [HM0.out, HC1.out]
            have := HUN.out; omega
end Go.Proofs.Ytdnilonfgbinaaa
