/- Bounds: the sample of law.fixed, plain. Bounds: the document's comparisons, of what is the same. Bounds: the document's comparison of analyses, of two that are the same. -/
import Derived.Test.YtfmkjdfidenfkaaDoorVl
namespace Go.Proofs.YtfmkjdfidenfkaaDoor
open Go.RowKit

def smF (pa ca : Option Addr) (pc cc : Nat) : Fn := ⟨⟨#[102]⟩, pa, pc, [(-3, 9)], 2, 0, ca, cc, [⟨17, 1, 0, 0, 2⟩, ⟨18, 1, 0, 0, 0⟩, ⟨0, 1, 0, 0, 0⟩]⟩
def smM (ta fa pa ca : Option Addr) (tc fc pc cc : Nat) : Mo := ⟨ta, tc, [8], fa, fc, [smF pa ca pc cc]⟩
theorem sm_may (ta fa pa ca : Option Addr) (tc fc pc cc : Nat) : (mayZ (smM ta fa pa ca tc fc pc cc)).1 = 0 := by kernel_rfl
theorem sm_an (ta fa pa ca : Option Addr) (tc fc pc cc : Nat) : (anZ (smM ta fa pa ca tc fc pc cc) (smF pa ca pc cc)).ins = [[(-3, 9), (0, 9223372036854775807)], [(-3, 9), (0, 8)], [(-3, 9), (0, 9223372036854775807)]] ∧ (anZ (smM ta fa pa ca tc fc pc cc) (smF pa ca pc cc)).chg = [[0, 6], [0, 5], [0, 6]] := ⟨by kernel_rfl, by kernel_rfl⟩
theorem sm_ed (ta fa pa ca : Option Addr) (tc fc pc cc : Nat) : edZ (smM ta fa pa ca tc fc pc cc) 0 0 1 [(3, 5), (0, 9)] = some [(3, 5), (0, 4)] := by kernel_rfl
end Go.Proofs.YtfmkjdfidenfkaaDoor
namespace Go.Proofs.YtfmkjdfidenfkaaDoor
open Go.RowKit

theorem samP_refl (x : Sp) : samP x x = true := by unfold samP; simp
set_option maxRecDepth 100000 in
set_option maxHeartbeats 4000000 in
theorem sameSpansT (l : List Sp) (a a' : Option Addr) (c c' : Nat) (w : World) (h : Sps w a l) (h' : Sps w a' l) : Calls Tryd.prog 41 #[.slice a l.length c, .slice a' l.length c'] w fun e w' => e = .returned (.bool true) ∧ Below w.heap.size w w' := by
  have HA := Hid.mk' h
  have HB := Hid.mk' h'
  have hl : l.length ≤ 8796093022208 := by have := h.1; omega
  have hne : ((l.length : Int) != (l.length : Int)) = false := bne_no rfl
  clear h h'
  go_enter Tryd.func41, Tryd.ntmps41
  go_wp2_with fail
  go_loopw [5] (fun t wr => ∃ k : Nat, k ≤ l.length ∧ t = .int .i64 k ∧ Below w.heap.size w wr) (fun t _ => l.length - (intOf t).toNat)
  case atStart => exact ⟨0, Nat.zero_le _, rfl, Below.refl _ _⟩
  case round =>
    obtain ⟨k, hk, rfl, hb⟩ := hrel
    have HB1 := Hid.mk' hb
    by_cases hlt : k < l.length
    · have hli : (k : Int) < (l.length : Int) := by omega
      obtain ⟨b, o, rfl, c0, c1⟩ := sps_at (HA.out.stay hb) hlt
      obtain ⟨b', o', rfl, d0, d1⟩ := sps_at (HB.out.stay hb) hlt
      generalize l[k] = x at *
      clear hb
      have hq := fun w => equalIn_sp x x w
      rw [samP_refl] at hq
      have hg : ∀ (w : World) (op : BinOp) (a b : Operand) (xs ys : Array Value), (eqGuard op 54 a b (.agg xs) (.agg ys)).run Tryd.prog w = .ok () w := fun w op a b xs ys => run_eqGuard_agg w op 54 a b xs ys (by kernel_rfl)
      go_wp2_with fail
      go_quiet (fail)
      go_wp2_with fail
      go_roundw
      case rel => exact ⟨k + 1, by omega, by go_num, HB1.out.drewN _⟩
      case measure => simp [intOf]; omega
    · obtain rfl : k = l.length := by omega
      have hli : ¬ (l.length : Int) < (l.length : Int) := by omega
      clear hb
      go_wp2_with fail
      go_ret
      exact ⟨rfl, HB1.out⟩
theorem sameSpans_true (l : List Sp) (a a' : Option Addr) (c c' : Nat) (w : World) (h : Sps w a l) (h' : Sps w a' l) : Calls Tryd.prog 18 #[.slice a l.length c, .slice a' l.length c'] w fun e w' => e = .returned (.bool true) ∧ Below w.heap.size w w' := by
  have HS := Hid.mk' (sameSpansT l a a' c c' w h h')
  clear h h'
  go_enter Tryd.func18, Tryd.ntmps18
  go_wp2_with (go_at_call 41; refine HS.out.mono ?_; rintro e w1 ⟨rfl, hb1⟩)
  go_ret
  exact ⟨rfl, hb1⟩
/-- Rows of spans, rows of numbers. -/
def RwS (W : World) (a : Option Addr) (ls : List (List Sp)) : Prop := ∀ i l, ls[i]? = some l → ∃ b o ai ci, a = some ⟨b, o, none⟩ ∧ W.cell? ⟨b, o + i, none⟩ = some (.slice ai l.length ci) ∧ Sps W ai l
def RwN (W : World) (a : Option Addr) (ls : List (List Nat)) : Prop := ∀ i l, ls[i]? = some l → ∃ b o ai ci, a = some ⟨b, o, none⟩ ∧ W.cell? ⟨b, o + i, none⟩ = some (.slice ai l.length ci) ∧ Lst W ai (l.map nV)
theorem RwS.stay {W W' : World} {a : Option Addr} {ls : List (List Sp)} (h : RwS W a ls) (hb : Below W.heap.size W W') : RwS W' a ls := fun i l hi => by
  obtain ⟨b, o, ai, ci, e, c, s⟩ := h i l hi
  exact ⟨b, o, ai, ci, e, cell_kept_below c hb, s.stay hb⟩
theorem RwN.stay {W W' : World} {a : Option Addr} {ls : List (List Nat)} (h : RwN W a ls) (hb : Below W.heap.size W W') : RwN W' a ls := fun i l hi => by
  obtain ⟨b, o, ai, ci, e, c, s⟩ := h i l hi
  exact ⟨b, o, ai, ci, e, cell_kept_below c hb, s.stay hb⟩
theorem WkAt.rws {N n r : Nat} {m : Mo} {f : Fn} {L : Lay} {st : Wk} {sd cm : List Sp} {W : World} (h : WkAt N n r m f L st sd cm W) {ths : List Int} (hI : WkI ths n r st) (hr : r ≤ 64) : RwS W (some ⟨L.gI, 0, none⟩) st.ins := fun i l hi => by
  obtain ⟨hil, he⟩ := List.getElem?_eq_some_iff.1 hi
  have hin : i < n := by rw [← hI.li]; exact hil
  have hc := cell_of_obj h.ib (inV_at hil)
  have hA : insA st i = l := by unfold insA; rw [getD_lt hil]; exact he
  rw [hA] at hc
  unfold rowV at hc
  by_cases h0 : l = []
  · rw [if_pos h0] at hc
    subst h0
    exact ⟨L.gI, 0, none, 0, rfl, by rw [Nat.zero_add]; exact hc, by simp, fun j cs hj => by simp at hj⟩
  · rw [if_neg h0] at hc
    have hne : insA st i ≠ [] := by rw [hA]; exact h0
    have hl := ((hI.pt i hin).some hne).1
    rw [hA] at hl
    have hv := h.iv i hin hne
    rw [hA] at hv
    exact ⟨L.gI, 0, _, r, rfl, by rw [Nat.zero_add, hl]; exact hc, rgb_sps hv (by omega)⟩
theorem WkAt.rwn {N n r : Nat} {m : Mo} {f : Fn} {L : Lay} {st : Wk} {sd cm : List Sp} {W : World} (h : WkAt N n r m f L st sd cm W) {ths : List Int} (hI : WkI ths n r st) : RwN W (some ⟨L.gC, 0, none⟩) st.chg := fun i l hi => by
  obtain ⟨hil, he⟩ := List.getElem?_eq_some_iff.1 hi
  have hin : i < n := by rw [← hI.lc]; exact hil
  have hA : chgA st i = l := by unfold chgA; rw [getD_lt hil]; exact he
  have hl := (hI.pt i hin).len
  rw [hA] at hl
  have hv := h.cv i hin
  rw [hA] at hv
  exact ⟨L.gC, 0, _, r, rfl, by rw [Nat.zero_add, hl]; exact cell_of_obj h.cb (chV_at hin), row_lst hv⟩
end Go.Proofs.YtfmkjdfidenfkaaDoor
namespace Go.Proofs.YtfmkjdfidenfkaaDoor
open Go.RowKit

set_option maxRecDepth 100000 in
set_option maxHeartbeats 8000000 in
theorem same_true (ls : List (List Sp)) (ns : List (List Nat)) (aI bI aC bC : Option Addr) (cI dI cC dC : Nat) (w : World) (h1 : RwS w aI ls) (h2 : RwS w bI ls) (h3 : RwN w aC ns) (h4 : RwN w bC ns) (hl : ls.length ≤ 1000000) (hn : ns.length ≤ 1000000) (hr : ∀ l ∈ ns, l.length ≤ 1000000) : Calls Tryd.prog 17 #[.agg #[.slice aI ls.length cI, .slice aC ns.length cC], .agg #[.slice bI ls.length dI, .slice bC ns.length dC]] w fun e w' => e = .returned (.bool true) ∧ Below w.heap.size w w' := by
  have H1 := Hid.mk' h1
  have H2 := Hid.mk' h2
  have H3 := Hid.mk' h3
  have H4 := Hid.mk' h4
  have q1 : ((ls.length : Int) != (ls.length : Int)) = false := bne_no rfl
  have q2 : ((ns.length : Int) != (ns.length : Int)) = false := bne_no rfl
  clear h1 h2 h3 h4
  go_enter Tryd.func17, Tryd.ntmps17
  go_upto_region 1 with fail
  obtain ⟨t1, t2, t3⟩ := two_nw w (.cells #[.slice aI ls.length cI, .slice aC ns.length cC] 30) (.cells #[.slice bI ls.length dI, .slice bC ns.length dC] 30)
  generalize (w.alloc (.cells #[.slice aI ls.length cI, .slice aC ns.length cC] 30)).alloc (.cells #[.slice bI ls.length dI, .slice bC ns.length dC] 30) = W at *
  have x0 := cell_of_obj t1 (j := 0) (v := .slice aI ls.length cI) rfl
  have x1 := cell_of_obj t1 (j := 1) (v := .slice aC ns.length cC) rfl
  have y0 := cell_of_obj t2 (j := 0) (v := .slice bI ls.length dI) rfl
  have y1 := cell_of_obj t2 (j := 1) (v := .slice bC ns.length dC) rfl
  have HX := Hid.mk' (And.intro x0 (And.intro x1 (And.intro y0 y1)))
  have HB := Hid.mk' t3
  clear t1 t2 t3
  go_wp2_with fail
  go_loopw [5] (fun t wr => ∃ k : Nat, k ≤ ls.length ∧ t = .int .i64 k ∧ Below W.heap.size W wr) (fun t _ => ls.length - (intOf t).toNat)
  case atStart => exact ⟨0, Nat.zero_le _, rfl, Below.refl _ _⟩
  case round =>
    obtain ⟨k, hk, rfl, hb⟩ := hrel
    have x0 := cell_kept_below HX.out.1 hb
    have y0 := cell_kept_below HX.out.2.2.1 hb
    by_cases hlt : k < ls.length
    · have hli : (k : Int) < (ls.length : Int) := by omega
      have hB0 := HB.out.trans (hb.mono HB.out.size)
      obtain ⟨b, o, ai, ci, rfl, c0, s0⟩ := (H1.out.stay hB0) k _ (List.getElem?_eq_getElem hlt)
      obtain ⟨b', o', bi, di, rfl, c1, s1⟩ := (H2.out.stay hB0) k _ (List.getElem?_eq_getElem hlt)
      generalize ls[k] = l at *
      have HS : Hid (∀ X, Below wr.heap.size wr X → Calls Tryd.prog 41 #[.slice ai l.length ci, .slice bi l.length di] X fun e w' => e = .returned (.bool true) ∧ Below X.heap.size X w') := fun X hX => sameSpansT l ai bi ci di X (s0.stay hX) (s1.stay hX)
      have HBB := Hid.mk' hb
      have HKS : Hid (∀ X, Below wr.heap.size wr X → (fun w' => w'.cell? ⟨w.heap.size, 0, none⟩ = some (.slice (some ⟨b, o, none⟩) ls.length cI) ∧ w'.cell? ⟨w.heap.size + 1, 0, none⟩ = some (.slice (some ⟨b', o', none⟩) ls.length dI) ∧ w'.cell? ⟨b, o + k, none⟩ = some (.slice ai l.length ci) ∧ w'.cell? ⟨b', o' + k, none⟩ = some (.slice bi l.length di)) X) := fun X h => ⟨cell_kept_below x0 h, cell_kept_below y0 h, cell_kept_below c0 h, cell_kept_below c1 h⟩
      clear s0 s1 hB0 hb
      go_upto_region 6 with fail
      go_region_held3 (fun w' => w'.cell? ⟨w.heap.size, 0, none⟩ = some (.slice (some ⟨b, o, none⟩) ls.length cI) ∧ w'.cell? ⟨w.heap.size + 1, 0, none⟩ = some (.slice (some ⟨b', o', none⟩) ls.length dI) ∧ w'.cell? ⟨b, o + k, none⟩ = some (.slice ai l.length ci) ∧ w'.cell? ⟨b', o' + k, none⟩ = some (.slice bi l.length di)) (go_keep) ((go_at_call 41; refine (HS.out _ (Below.drew (Below.refl _ wr))).mono ?_; rintro e w5 ⟨rfl, hb5⟩; have B5 := Below.on (Below.drew (Below.refl _ wr)) hb5; have z0 := cell_kept_below x0 B5; have z1 := cell_kept_below y0 B5; have z2 := cell_kept_below c0 B5; have z3 := cell_kept_below c1 B5; have HB5 := Hid.mk' (Below.on HBB.out B5)))
      go_wp2_with fail
      go_roundw
      case rel => exact ⟨k + 1, by omega, by go_num, HB5.out⟩
      case measure => simp [intOf]; omega
    · obtain rfl : k = ls.length := by omega
      have hli : ¬ (ls.length : Int) < (ls.length : Int) := by omega
      have HBB := Hid.mk' hb
      clear hb
      go_wp2_with fail
      generalize wr = W1 at *
      go_loopw [7] (fun t wr => ∃ k : Nat, k ≤ ns.length ∧ t = .int .i64 k ∧ Below W.heap.size W wr) (fun t _ => ns.length - (intOf t).toNat)
      case atStart => exact ⟨0, Nat.zero_le _, rfl, HBB.out⟩
      case round =>
        obtain ⟨k, hk, rfl, hb⟩ := hrel
        have x1 := cell_kept_below HX.out.2.1 hb
        have y1 := cell_kept_below HX.out.2.2.2 hb
        by_cases hlt : k < ns.length
        · have hki : (k : Int) < (ns.length : Int) := by omega
          have hB0 := HB.out.trans (hb.mono HB.out.size)
          obtain ⟨b, o, ai, ci, rfl, c0, s0⟩ := (H3.out.stay hB0) k _ (List.getElem?_eq_getElem hlt)
          obtain ⟨b', o', bi, di, rfl, c1, s1⟩ := (H4.out.stay hB0) k _ (List.getElem?_eq_getElem hlt)
          have hll := hr _ (List.getElem_mem hlt)
          generalize ns[k] = l at *
          have q3 : ((l.length : Int) != (l.length : Int)) = false := bne_no rfl
          have HBK := Hid.mk' hb
          have HS := Hid.mk' (And.intro s0 s1)
          have HC := Hid.mk' (And.intro x1 (And.intro y1 (And.intro c0 c1)))
          clear s0 s1 hB0 hb x0 y0
          go_wp2_with fail
          go_quiet (fail)
          go_wp2_with fail
          go_loopw [8] (fun t wr2 => ∃ j : Nat, j ≤ l.length ∧ t = .int .i64 j ∧ Below wr.heap.size wr wr2) (fun t _ => l.length - (intOf t).toNat)
          case atStart => exact ⟨0, Nat.zero_le _, rfl, (Below.refl _ wr).drewN _⟩
          case round =>
            obtain ⟨j, hj, rfl, hb2⟩ := hrel
            obtain ⟨p1, p2, p3, p4⟩ := HC.out
            have x1 := cell_kept_below p1 hb2
            have y1 := cell_kept_below p2 hb2
            have c0 := cell_kept_below p3 hb2
            have c1 := cell_kept_below p4 hb2
            have HB2 := Hid.mk' hb2
            by_cases hlt2 : j < l.length
            · have hji : (j : Int) < (l.length : Int) := by omega
              obtain ⟨g, u, rfl, e0⟩ := lst_n (HS.out.1.stay hb2) hlt2
              obtain ⟨g', u', rfl, e1⟩ := lst_n (HS.out.2.stay hb2) hlt2
              generalize l[j] = v at *
              have q4 : ((v : Int) != (v : Int)) = false := bne_no rfl
              clear hb2 p1 p2 p3 p4
              go_wp2_with fail
              go_quiet (fail)
              go_wp2_with fail
              go_roundw
              case rel => exact ⟨j + 1, by omega, by go_num, HB2.out.drewN _⟩
              case measure => simp [intOf]; omega
            · obtain rfl : j = l.length := by omega
              have hji : ¬ (l.length : Int) < (l.length : Int) := by omega
              have HB3 := Hid.mk' (HBK.out.trans (hb2.mono HBK.out.size))
              clear hb2 p1 p2 p3 p4
              go_wp2_with fail
              go_roundw
              case rel => exact ⟨k + 1, by omega, by go_num, HB3.out⟩
              case measure => simp [intOf]; omega
        · obtain rfl : k = ns.length := by omega
          have hki : ¬ (ns.length : Int) < (ns.length : Int) := by omega
          have HBK := Hid.mk' (HB.out.trans (hb.mono HB.out.size))
          clear hb
          go_wp2_with fail
          go_ret
          exact ⟨rfl, HBK.out⟩
end Go.Proofs.YtfmkjdfidenfkaaDoor
