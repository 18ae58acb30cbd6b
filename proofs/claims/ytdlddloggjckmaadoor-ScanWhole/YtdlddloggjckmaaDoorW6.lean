/- soffitlaw01.ScanWhole answers true at every source. -/
import Derived.Test.YtdlddloggjckmaaDoorW4
import Derived.Test.YtdlddloggjckmaaDoorQ11
import Derived.Deep.QuietTactic
import Derived.BigQuiet
namespace Go.Proofs.YtdlddloggjckmaaDoor
open Go.RowKit

theorem docEr_at (s : ByteArray) (h : docEr s ≠ 0) : (0 : Int) ≤ docAt s ∧ docAt s ≤ 65536 ∧ (docAt s < s.size ∨ docEr s = 4) ∧ docXs s = [] := by
  by_cases hb : s.size ≤ 65536
  · rcases items_errs s with ha | ⟨pre, x, h1, h3⟩
    · exact (h (doc_ok hb ha).2.1).elim
    · obtain ⟨d1, d2, d3⟩ := doc_err hb h1 h3
      have hlt : x.at_ < s.size := by
        have : ∀ f k, ∀ y ∈ itemsFrom s f k, y.at_ < s.size := by
          intro f
          induction f with
          | zero => intro k y hy; simp [itemsFrom] at hy
          | succ f ih =>
            intro k y hy
            rw [itemsFrom] at hy
            split at hy
            · rename_i hk
              rcases List.mem_cons.1 hy with h | h
              · rw [h]; exact hk
              · split at h
                · exact ih _ y h
                · simp at h
            · simp at hy
        exact this _ _ x (by rw [← items, h1]; simp)
      rw [d1, d3]; exact ⟨by omega, by omega, .inl (by omega), rfl⟩
  · obtain ⟨d1, d2, d3⟩ := doc_long hb
    rw [d1, d2, d3]; exact ⟨by decide, by decide, .inr rfl, rfl⟩

set_option maxRecDepth 100000 in
set_option maxHeartbeats 2000000 in
theorem whole_err (s : ByteArray) (w : World) (hv : VarOk w) (her : (docEr s != 0) = true) : Calls Tryd.prog 6 #[.string s] w fun e w' => e = .returned (.bool true) ∧ Below w.heap.size w w' := by
  obtain ⟨h1, h2, h3, h4⟩ := docEr_at s (by simpa using her)
  have h10 := all_ans s
  rw [h4] at h10
  have h4' : ¬ docAt s < s.size → (docEr s == 4) = true := fun hn => by
    rcases h3 with h | h
    · exact (hn h).elim
    · rw [h]; rfl
  clear h3 h4
  by_cases hlt : docAt s < s.size
  · clear h4'
    go_enter Tryd.func6, Tryd.ntmps6
    go_wp2_with (first | (go_at_call 9; refine (awake_any _ hv).mono ?_; rintro e w1 ⟨rfl, hb1⟩; have hv1 := hv.below hb1) | (go_at_call 10; refine (h10 _ hv1).mono ?_; rintro e w2 ⟨v, rfl, hb2, bo, cap, rfl, _, _⟩))
    go_ret
    exact ⟨rfl, hb1.trans (hb2.mono hb1.size)⟩
  · have h5 := h4' hlt
    clear h4'
    go_enter Tryd.func6, Tryd.ntmps6
    go_wp2_with (first | (go_at_call 9; refine (awake_any _ hv).mono ?_; rintro e w1 ⟨rfl, hb1⟩; have hv1 := hv.below hb1) | (go_at_call 10; refine (h10 _ hv1).mono ?_; rintro e w2 ⟨v, rfl, hb2, bo, cap, rfl, _, _⟩))
    go_ret
    exact ⟨rfl, hb1.trans (hb2.mono hb1.size)⟩

theorem gap_between (s : ByteArray) (e : Nat) : gapB false (s.extract e (passEnd false s.data.toList e)).data.toList = true := by
  rw [ext_mid_list]
  have : passEnd false s.data.toList e - e = skip false (s.data.toList.drop e) := by unfold passEnd; omega
  rw [this]; exact gap_skip _ _

set_option maxRecDepth 100000 in
set_option maxHeartbeats 4000000 in
theorem whole_ok (s : ByteArray) (w : World) (hv : VarOk w) (hs : s.size ≤ 65536) (hall : ∀ y ∈ items s, y.err = 0) : Calls Tryd.prog 6 #[.string s] w fun e w' => e = .returned (.bool true) ∧ Below w.heap.size w w' := by
  obtain ⟨d1, d2, d3⟩ := doc_ok hs hall
  have h10 := all_ans s
  rw [d1, d2, d3] at h10
  clear d1 d2 d3
  have hil := items_len s
  have HA : Hid (∀ y ∈ items s, y.err = 0) := hall
  clear hall
  go_enter Tryd.func6, Tryd.ntmps6
  go_wp2_with (first | (go_at_call 9; refine (awake_any _ hv).mono ?_; rintro e w1 ⟨rfl, hb1⟩; have hv1 := hv.below hb1) | (go_at_call 10; refine (h10 _ hv1).mono ?_; rintro e w2 ⟨v, rfl, hb2, bo, cap, rfl, hcap, hR⟩))
  have HR : Hid (0 < (items s).length → ∃ g, bo = some ⟨g, 0, none⟩ ∧ g < w2.heap.size ∧ ∀ j u, (rowCells (items s))[j]? = some u → w2.cell? ⟨g, j, none⟩ = some u) := hR
  clear hR h10 hv1
  go_loopw [6, 42] (fun en t wr => ∃ (pre : List It) (e f : Nat), en = .int .i64 e ∧ t = .int .i64 pre.length ∧ e ≤ s.size ∧ s.size < passEnd false s.data.toList e + f ∧ Hid (items s = pre ++ itemsFrom s f (passEnd false s.data.toList e)) ∧ Below w2.heap.size w2 wr)
    (fun _ t _ => (items s).length - (intOf t).toNat)
  case atStart => exact ⟨[], 0, s.size + 1, rfl, rfl, Nat.zero_le _, by omega, rfl, Below.refl _ _⟩
  case round =>
    obtain ⟨pre, en, f, rfl, rfl, hen, hf, HI, hB⟩ := hrel
    by_cases hlt : passEnd false s.data.toList en < s.size
    · obtain ⟨k, hk⟩ : ∃ k, passEnd false s.data.toList en = k := ⟨_, rfl⟩
      have hgap := gap_between s en
      have hek := passEnd_ge false s.data.toList en
      rw [hk] at hlt hf HI hgap hek
      clear hk
      obtain ⟨f', rfl⟩ : ∃ f', f = f' + 1 := ⟨f - 1, by omega⟩
      have hin : items s = pre ++ itemAt s k :: (if (itemAt s k).err = 0 then itemsFrom s f' (nextAt s k) else []) := by rw [HI.out, itemsFrom_in s f' k hlt]
      have herr : (itemAt s k).err = 0 := HA.out _ (by rw [hin]; simp)
      rw [if_pos herr] at hin
      have hpl : pre.length < (items s).length := by rw [hin]; simp
      have hget : (items s)[pre.length] = itemAt s k := by simp [hin]
      obtain ⟨c0, c1, c2, c3⟩ := rowCells_at (items s) pre.length hpl
      rw [hget] at c0 c1 c2 c3
      obtain ⟨g, rfl, hgl, hcell⟩ := HR.out (by omega)
      have hts := item_text_size s k
      have hnl := nextAt_le s k hlt
      have hpos : 0 < (itemAt s k).text.size := by rw [hts]; exact tkL_pos _ (by rw [size_drop]; omega) herr
      have htx : (itemAt s k).text = s.extract k (k + (itemAt s k).text.size) := by
        rw [hts]; exact ext_ext s k _ (by omega)
      obtain ⟨kd, tx, nn, er, hx⟩ : ∃ kd tx nn er, itemAt s k = ⟨kd, k, tx, nn, er⟩ := ⟨_, _, _, _, rfl⟩
      have hnx : nextAt s k = passEnd false s.data.toList (k + tx.size) := by unfold nextAt; rw [← hts, hx]
      rw [hx] at c0 c1 c2 c3 hpos htx hin
      rw [← hts, hx] at hnl
      have hn2 : k + tx.size ≤ s.size := hnl.2
      have hpos' : 0 < tx.size := hpos
      have hex : s.extract k (k + tx.size) = tx := htx.symm
      have hcg : ∀ j u, (rowCells (items s))[j]? = some u → wr.cell? ⟨g, j, none⟩ = some u := fun j u hj => (hB.cell (p := ⟨g, j, none⟩) hgl).trans (hcell j u hj)
      have k0 := hcg _ _ c0
      have k1 := hcg _ _ c1
      have k2 := hcg _ _ c2
      have k3 := hcg _ _ c3
      have hne : tx.toList.isEmpty = false := isEmpty_of tx hpos'
      have t1 : decide (k < en) = false := by simp only [decide_eq_false_iff_not]; omega
      have hw1 : IntKind.i64.wrap ((s.size : Int) - (k : Int)) = (s.size : Int) - (k : Int) := by rw [IntKind.wrap_i64]; omega
      have hw2 : IntKind.i64.wrap ((k : Int) + (tx.size : Int)) = ((k + tx.size : Nat) : Int) := by rw [IntKind.wrap_i64]; omega
      have t2 : decide ((s.size : Int) - (k : Int) < (tx.size : Int)) = false := by simp only [decide_eq_false_iff_not]; omega
      have h15 : ∀ w, Calls Tryd.prog 15 #[.string (s.extract en k)] w fun e w' => e = .returned (.bool true) ∧ w' = w := fun w => gap_yes _ w (by rw [ext_mid s en k (by omega)]; unfold maxLen; omega) hgap
      have HIN : Hid (items s = pre ++ ⟨kd, k, tx, nn, er⟩ :: itemsFrom s f' (passEnd false s.data.toList (k + tx.size))) := by
        show items s = _
        rw [hin, hnx]
      have hgt := nextAt_gt s k hlt herr
      rw [hnx] at hgt
      have hidx : (pre.length : Int) < ((items s).length : Int) := by omega
      clear hcell hcg c0 c1 c2 c3 hin herr hget hts hnl hpos htx hx hnx hgap HI
      go_wp2
      go_quiet ((go_at_call 15; exact Calls.quiet_of_same (h15 _)))
      go_wp2
      go_roundw
      case rel =>
        refine ⟨pre ++ [⟨kd, k, tx, nn, er⟩], k + tx.size, f', by go_num, by rw [List.length_append]; go_num, hn2, by omega, ?_, ?_⟩
        · show items s = _
          rw [HIN.out]; simp
        · exact below_drewN (hB.alloc hB.size _) _
      case measure => simp [intOf]; omega
    · have hend : items s = pre := by rw [HI.out, itemsFrom_end s f _ hlt, List.append_nil]
      have hge := passEnd_le false s.data.toList en (by rw [ba_len]; exact hen)
      rw [ba_len] at hge
      have hgap := gap_between s en
      rw [show passEnd false s.data.toList en = s.size from by omega] at hgap
      have h15 : ∀ w, Calls Tryd.prog 15 #[.string (s.extract en s.size)] w fun e w' => e = .returned (.bool true) ∧ w' = w := fun w => gap_yes _ w (by rw [ext_mid s en s.size (Nat.le_refl _)]; unfold maxLen; omega) hgap
      have hidx : ¬ ((pre.length : Int) < ((items s).length : Int)) := by rw [hend]; omega
      clear hend hgap hge HI
      go_wp2_with (go_at_call 15; refine (h15 _).mono ?_; rintro e w' ⟨rfl, rfl⟩)
      go_ret
      have hz1 := hb1.size
      have hz2 := hb2.size
      exact ⟨rfl, (hb1.trans (hb2.mono hz1)).trans (hB.mono (by omega))⟩

theorem scanWhole_any (s : ByteArray) (w : World) (hv : VarOk w) : Calls Tryd.prog 6 #[.string s] w fun e w' => e = .returned (.bool true) ∧ Below w.heap.size w w' := by
  by_cases h : s.size ≤ 65536
  · rcases items_errs s with ha | ⟨pre, x, h1, h3⟩
    · exact whole_ok s w hv h ha
    · refine whole_err s w hv ?_
      rw [(doc_err h h1 h3).2.1]; simpa using h3
  · refine whole_err s w hv ?_
    rw [(doc_long h).2.1]; rfl

end Go.Proofs.YtdlddloggjckmaaDoor
