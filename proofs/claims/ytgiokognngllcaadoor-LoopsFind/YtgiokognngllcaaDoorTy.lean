/- Lists of loops in memory; ref14.Has, slices.Contains over any numbers, both Depths. -/
import Derived.Test.YtgiokognngllcaaDoorGgac
import Derived.Test.YtgiokognngllcaaDoorGgan
import Derived.BigQuiet
namespace Go.Proofs.YtgiokognngllcaaDoor
open Go.RowKit Go.Sort

theorem notin_snoc {l : List Int} {j : Nat} {z : Int} (h : z ∉ l.take j) (hl : j < l.length) (e : l[j] ≠ z) : z ∉ l.take (j + 1) := by
  rw [List.take_succ_eq_append_getElem hl, List.mem_append, List.mem_singleton]
  rintro (h1 | h1)
  · exact h h1
  · exact e h1.symm
theorem notin_all {l : List Int} {j : Nat} {z : Int} (h : z ∉ l.take j) (hj : ¬ j < l.length) : z ∉ l := by
  rwa [List.take_of_length_le (by omega)] at h
set_option maxRecDepth 100000 in
set_option maxHeartbeats 2000000 in
theorem index_i (l : List Int) (z : Int) (a : Option Addr) (c : Nat) (w : World) (h : Lst w a (l.map iV)) (hl : l.length ≤ 1152921504606846976) : Calls Tryd.prog 44 #[.slice a l.length c, .int .i64 z] w fun e w' => ∃ r : Int, e = .returned (.int .i64 r) ∧ (0 ≤ r ↔ z ∈ l) ∧ w' = w := by
  have HH := Hid.mk' h
  clear h
  go_enter Tryd.func44, Tryd.ntmps44
  go_wp2_with fail
  go_loop [8] (fun t => ∃ (j : Nat), j ≤ l.length ∧ t = .int .i64 j ∧ z ∉ l.take j) (fun t => l.length - (intOf t).toNat)
  case atStart => exact ⟨0, Nat.zero_le _, rfl, by simp⟩
  case round =>
    obtain ⟨j, hj, rfl, hn⟩ := hrel
    have HN := Hid.mk' hn
    clear hn
    by_cases hlt : j < l.length
    · obtain ⟨b, o, rfl, c0⟩ := lst_i HH.out hlt
      have hli : (j : Int) < (l.length : Int) := by omega
      have HT := Hid.mk' (fun e => notin_snoc HN.out hlt e)
      have HM : Hid (l[j] ∈ l) := List.getElem_mem hlt
      generalize l[j] = x at *
      cases ev : (z == x)
      · have hx : x ≠ z := by intro e; rw [e] at ev; simp at ev
        go_wp2_with fail
        go_round
        case rel => exact ⟨j + 1, by omega, by go_num, HT.out hx⟩
        case measure => simp [intOf]; omega
      · go_wp2_with fail
        go_ret
        exact ⟨_, rfl, ⟨fun _ => (beq_iff_eq.1 ev) ▸ HM.out, fun _ => by omega⟩, rfl⟩
    · have HE := Hid.mk' (notin_all HN.out hlt)
      go_wp2_with fail
      go_ret
      exact ⟨_, rfl, ⟨fun h => by omega, fun h => absurd h HE.out⟩, rfl⟩
theorem contains_i (l : List Int) (z : Int) (a : Option Addr) (c : Nat) (w : World) (h : Lst w a (l.map iV)) (hl : l.length ≤ 1152921504606846976) : Calls Tryd.prog 32 #[.slice a l.length c, .int .i64 z] w fun e w' => e = .returned (.bool (decide (z ∈ l))) ∧ w' = w := by
  have HI := Hid.mk' (index_i l z a c w h hl)
  clear h
  go_enter Tryd.func32, Tryd.ntmps32
  go_wp2_with (go_at_call 44; refine HI.out.mono ?_; rintro e w1 ⟨r, rfl, hr0, rfl⟩; have HR := Hid.mk' hr0; clear hr0)
  go_ret
  exact ⟨ret_bool (decide_eq_decide.2 HR.out), rfl⟩
set_option maxRecDepth 100000 in
set_option maxHeartbeats 2000000 in
/-- The document's own Has. -/
theorem r14has_any (l : List Int) (z : Int) (a : Option Addr) (c : Nat) (w : World) (h : Lst w a (l.map iV)) (hl : l.length ≤ 1152921504606846976) : Calls Tryd.prog 16 #[.slice a l.length c, .int .i64 z] w fun e w' => e = .returned (.bool (decide (z ∈ l))) ∧ w' = w := by
  have HH := Hid.mk' h
  clear h
  go_enter Tryd.func16, Tryd.ntmps16
  go_wp2_with fail
  go_loop [5] (fun t => ∃ (j : Nat), j ≤ l.length ∧ t = .int .i64 j ∧ z ∉ l.take j) (fun t => l.length - (intOf t).toNat)
  case atStart => exact ⟨0, Nat.zero_le _, rfl, by simp⟩
  case round =>
    obtain ⟨j, hj, rfl, hn⟩ := hrel
    have HN := Hid.mk' hn
    clear hn
    by_cases hlt : j < l.length
    · obtain ⟨b, o, rfl, c0⟩ := lst_i HH.out hlt
      have hli : (j : Int) < (l.length : Int) := by omega
      have HT := Hid.mk' (fun e => notin_snoc HN.out hlt e)
      have HM : Hid (l[j] ∈ l) := List.getElem_mem hlt
      generalize l[j] = x at *
      cases ev : (x == z)
      · have hx : x ≠ z := by intro e; rw [e] at ev; simp at ev
        go_wp2_with fail
        go_round
        case rel => exact ⟨j + 1, by omega, by go_num, HT.out hx⟩
        case measure => simp [intOf]; omega
      · have HE : Hid (z ∈ l) := (beq_iff_eq.1 ev) ▸ HM.out
        go_wp2_with fail
        go_ret
        exact ⟨ret_bool (by rw [decide_eq_true HE.out]), rfl⟩
    · have HE := Hid.mk' (notin_all HN.out hlt)
      go_wp2_with fail
      go_ret
      exact ⟨ret_bool (by rw [decide_eq_false HE.out]), rfl⟩
/-- A loop as data, and a list of them in memory. -/
structure Lp where
  h : Int
  p : Int
  ms : List Int
  bs : List Int
def LpsI (W : World) (a : Option Addr) (ls : List Lp) : Prop := ∀ i l, ls[i]? = some l → ∃ b o ma mc ba bc, a = some ⟨b, o, none⟩ ∧ W.cell? ⟨b, o + i * 4, none⟩ = some (.int .i64 l.h) ∧ W.cell? ⟨b, o + i * 4 + 1, none⟩ = some (.int .i64 l.p) ∧ W.cell? ⟨b, o + i * 4 + 2, none⟩ = some (.slice ma l.ms.length mc) ∧ W.cell? ⟨b, o + i * 4 + 3, none⟩ = some (.slice ba l.bs.length bc) ∧ Lst W ma (l.ms.map iV) ∧ Lst W ba (l.bs.map iV)
theorem LpsI.stay {W W' : World} {a : Option Addr} {ls : List Lp} (h : LpsI W a ls) (hb : Below W.heap.size W W') : LpsI W' a ls := fun i l hl => by
  obtain ⟨b, o, ma, mc, ba, bc, e, c0, c1, c2, c3, m, k⟩ := h i l hl
  exact ⟨b, o, ma, mc, ba, bc, e, cell_kept_below c0 hb, cell_kept_below c1 hb, cell_kept_below c2 hb, cell_kept_below c3 hb, m.stay hb, k.stay hb⟩
/-- In how many? -/
def dpt (ls : List Lp) (z : Int) : Nat := (ls.filter fun l => decide (z ∈ l.ms)).length
theorem dpt_le (ls : List Lp) (z : Int) : dpt ls z ≤ ls.length := List.length_filter_le _ _
theorem dpt_snoc {ls : List Lp} {j : Nat} (z : Int) (h : j < ls.length) : dpt (ls.take (j + 1)) z = dpt (ls.take j) z + if z ∈ ls[j].ms then 1 else 0 := by
  unfold dpt
  rw [List.take_succ_eq_append_getElem h, List.filter_append, List.length_append]
  congr 1
  by_cases e : z ∈ ls[j].ms
  · simp [e]
  · simp [e]
theorem dpt_all {ls : List Lp} {j : Nat} (h : ¬ j < ls.length) : ls.take j = ls := List.take_of_length_le (by omega)
set_option maxRecDepth 100000 in
set_option maxHeartbeats 2000000 in
/-- The document's own Depth. -/
theorem rdepth_any (ls : List Lp) (z : Int) (a : Option Addr) (c : Nat) (w : World) (h : LpsI w a ls) (hl : ls.length ≤ 1152921504606846976) (hm : ∀ l ∈ ls, l.ms.length ≤ 1152921504606846976) : Calls Tryd.prog 14 #[.slice a ls.length c, .int .i64 z] w fun e w' => e = .returned (.int .i64 (dpt ls z : Int)) ∧ w' = w := by
  have HH := Hid.mk' h
  have HM := Hid.mk' hm
  clear h hm
  go_enter Tryd.func14, Tryd.ntmps14
  go_wp2_with fail
  go_loop [5, 6] (fun t5 t6 => ∃ (j n : Nat), j ≤ ls.length ∧ t6 = .int .i64 j ∧ t5 = .int .i64 (n : Int) ∧ dpt (ls.take j) z = n) (fun _ t6 => ls.length - (intOf t6).toNat)
  case atStart => exact ⟨0, 0, Nat.zero_le _, rfl, rfl, by simp [dpt]⟩
  case round =>
    obtain ⟨j, n, hj, rfl, rfl, hn⟩ := hrel
    have hnl : n ≤ ls.length := by
      have := dpt_le (ls.take j) z
      rw [List.length_take] at this
      omega
    by_cases hlt : j < ls.length
    · obtain ⟨b, o, ma, mc, ba, bc, rfl, c0, c1, c2, c3, hma, hba⟩ := HH.out j _ (List.getElem?_eq_getElem hlt)
      have hli : (j : Int) < (ls.length : Int) := by omega
      have HC := Hid.mk' (r14has_any _ z _ mc w hma (HM.out _ (List.getElem_mem hlt)))
      have HS := Hid.mk' (dpt_snoc z hlt)
      rw [hn] at HS
      generalize ls[j] = l at *
      clear hma hba c0 c1 c3 hn
      by_cases e : z ∈ l.ms
      · rw [decide_eq_true e, if_pos e] at *
        go_wp2_with (go_at_call 16; refine HC.out.mono ?_; rintro e w1 ⟨rfl, rfl⟩)
        go_round
        case rel => exact ⟨j + 1, n + 1, by omega, by go_num, by go_num, HS.out⟩
        case measure => simp [intOf]; omega
      · rw [decide_eq_false e, if_neg e] at *
        go_wp2_with (go_at_call 16; refine HC.out.mono ?_; rintro e w1 ⟨rfl, rfl⟩)
        go_round
        case rel => exact ⟨j + 1, n, by omega, by go_num, rfl, HS.out⟩
        case measure => simp [intOf]; omega
    · rw [dpt_all hlt] at hn
      go_wp2_with fail
      go_ret
      exact ⟨by first | rfl | (rw [hn]; rfl) | (rw [← hn]; rfl), rfl⟩
set_option maxRecDepth 100000 in
set_option maxHeartbeats 2000000 in
/-- loops.Depth. -/
theorem ldepth_any (ls : List Lp) (z : Int) (a : Option Addr) (c : Nat) (w : World) (h : LpsI w a ls) (hl : ls.length ≤ 1152921504606846976) (hm : ∀ l ∈ ls, l.ms.length ≤ 1152921504606846976) : Calls Tryd.prog 13 #[.slice a ls.length c, .int .i64 z] w fun e w' => e = .returned (.int .i64 (dpt ls z : Int)) ∧ Below w.heap.size w w' := by
  have HH := Hid.mk' h
  have HM := Hid.mk' hm
  have hb0 := Below.refl w.heap.size w
  clear h hm
  go_enter Tryd.func13, Tryd.ntmps13
  go_wp2_with fail
  go_loopw [5, 10] (fun t5 t10 wr => ∃ (j n : Nat), j ≤ ls.length ∧ t10 = .int .i64 j ∧ t5 = .int .i64 (n : Int) ∧ dpt (ls.take j) z = n ∧ Below w.heap.size w wr) (fun _ t10 _ => ls.length - (intOf t10).toNat)
  case atStart => exact ⟨0, 0, Nat.zero_le _, rfl, rfl, by simp [dpt], hb0⟩
  case round =>
    obtain ⟨j, n, hj, rfl, rfl, hn, hb⟩ := hrel
    have HB := Hid.mk' hb
    have hnl : n ≤ ls.length := by
      have := dpt_le (ls.take j) z
      rw [List.length_take] at this
      omega
    by_cases hlt : j < ls.length
    · obtain ⟨b, o, ma, mc, ba, bc, rfl, c0, c1, c2, c3, hma, hba⟩ := (HH.out.stay hb) j _ (List.getElem?_eq_getElem hlt)
      have hli : (j : Int) < (ls.length : Int) := by omega
      have HC : Hid (∀ W, Below wr.heap.size wr W → Calls Tryd.prog 32 #[.slice ma ls[j].ms.length mc, .int .i64 z] W fun e w' => e = .returned (.bool (decide (z ∈ ls[j].ms))) ∧ w' = W) := fun W hW => contains_i _ z _ mc W (hma.stay hW) (HM.out _ (List.getElem_mem hlt))
      have HS := Hid.mk' (dpt_snoc z hlt)
      rw [hn] at HS
      generalize ls[j] = l at *
      have HB1 := Hid.mk' (Below.one (Below.refl wr.heap.size wr) (.cells #[.int .i64 l.h, .int .i64 l.p, .slice ma l.ms.length mc, .slice ba l.bs.length bc] 40))
      have y2 := new_cell wr #[.int .i64 l.h, .int .i64 l.p, .slice ma l.ms.length mc, .slice ba l.bs.length bc] 40 2 (.slice ma l.ms.length mc) rfl
      clear hma hba hn hb
      by_cases e : z ∈ l.ms
      · rw [decide_eq_true e, if_pos e] at *
        go_wp2_with (go_at_call 32; refine (HC.out _ HB1.out).mono ?_; rintro e w1 ⟨rfl, rfl⟩)
        go_roundw
        case rel => exact ⟨j + 1, n + 1, by omega, by go_num, by go_num, HS.out, HB.out.trans (HB1.out.mono HB.out.size)⟩
        case measure => simp [intOf]; omega
      · rw [decide_eq_false e, if_neg e] at *
        go_wp2_with (go_at_call 32; refine (HC.out _ HB1.out).mono ?_; rintro e w1 ⟨rfl, rfl⟩)
        go_roundw
        case rel => exact ⟨j + 1, n, by omega, by go_num, rfl, HS.out, HB.out.trans (HB1.out.mono HB.out.size)⟩
        case measure => simp [intOf]; omega
    · rw [dpt_all hlt] at hn
      go_wp2_with fail
      go_ret
      exact ⟨by rw [hn]; rfl, hb⟩
end Go.Proofs.YtgiokognngllcaaDoor
