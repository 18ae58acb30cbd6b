/- The document's own: a word's number. -/
import Derived.Test.YtboidkmnkicoeaaGreatDoorYa
import Derived.Test.YtboidkmnkicoeaaGreatDoorJb
namespace Go.Proofs.YtboidkmnkicoeaaGreatDoor
open Go.RowKit Go.Sort

theorem rdg_le {a v : Nat} {l : Bt} (ha : a ≤ 9223372036854775808) (h : rdg l a = some v) : v ≤ 9223372036854775808 := (rdg_some l a v ha h).2.2
theorem rdg_step {l : Bt} {k v : Nat} (hk : k < l.length) : rdg (l.drop k) v = if 48 ≤ l[k].toNat ∧ l[k].toNat ≤ 57 then (if 9223372036854775808 < v * 10 + (l[k].toNat - 48) then none else rdg (l.drop (k + 1)) (v * 10 + (l[k].toNat - 48))) else none := by
  rw [List.drop_eq_getElem_cons hk, rdg]
/-- The questions of one digit. -/
theorem dig_ask {v c : Nat} (hv : v ≤ 9223372036854775808) (h1 : 48 ≤ c) (h2 : c ≤ 57) : ∃ d q : Int, IntKind.u8.wrap ((c : Int) - 48) = d ∧ IntKind.i64.wrap d = d ∧ d = ((c - 48 : Nat) : Int) ∧ IntKind.i64.wrap (-9223372036854775808 + d) = -9223372036854775808 + d ∧ Int.tdiv (-9223372036854775808 + d) 10 = q ∧ IntKind.i64.wrap q = q ∧ (-(v : Int) < q ↔ 9223372036854775808 < v * 10 + (c - 48)) ∧ (¬ 9223372036854775808 < v * 10 + (c - 48) → IntKind.i64.wrap (10 * -(v : Int)) = 10 * -(v : Int) ∧ IntKind.i64.wrap (10 * -(v : Int) - d) = -((v * 10 + (c - 48) : Nat) : Int)) := by
  refine ⟨((c - 48 : Nat) : Int), Int.tdiv (-9223372036854775808 + ((c - 48 : Nat) : Int)) 10, ?_, ?_, rfl, ?_, rfl, ?_, ?_, ?_⟩
  · unfold IntKind.wrap; simp [IntKind.bits, IntKind.signed]; omega
  · rw [IntKind.wrap_i64]; omega
  · rw [IntKind.wrap_i64]; omega
  · rw [IntKind.wrap_i64]; rw [show (-9223372036854775808 + ((c - 48 : Nat) : Int)) = -(9223372036854775808 - ((c - 48 : Nat) : Int)) by omega, Int.neg_tdiv, Int.tdiv_eq_ediv_of_nonneg (by omega)]; omega
  · rw [show (-9223372036854775808 + ((c - 48 : Nat) : Int)) = -(9223372036854775808 - ((c - 48 : Nat) : Int)) by omega, Int.neg_tdiv, Int.tdiv_eq_ediv_of_nonneg (by omega)]; omega
  · intro h
    constructor
    · rw [IntKind.wrap_i64]; omega
    · rw [IntKind.wrap_i64]; omega
theorem rn_no {l : Bt} {w : World} (h : numB l = none) : ∃ v : Int, I64 v ∧ Ending.returned (.tuple #[.int .i64 0, .bool false]) = .returned (.tuple #[.int .i64 v, .bool (numB l).isSome]) ∧ (∀ n, numB l = some n → v = n) ∧ w = w := ⟨0, by unfold I64; omega, by rw [h]; rfl, fun n e => (by rw [h] at e; cases e), rfl⟩
def rnP (l : Bt) (u : Int) (b : Bool) : Prop := I64 u ∧ b = (numB l).isSome ∧ ∀ n, numB l = some n → u = n
theorem rn_fin {l : Bt} {w : World} {u : Int} {b : Bool} (h : rnP l u b) : ∃ v : Int, I64 v ∧ Ending.returned (.tuple #[.int .i64 u, .bool b]) = .returned (.tuple #[.int .i64 v, .bool (numB l).isSome]) ∧ (∀ n, numB l = some n → v = n) ∧ w = w := ⟨u, h.1, by rw [h.2.1], h.2.2, rfl⟩
set_option maxRecDepth 100000 in
set_option maxHeartbeats 8000000 in
theorem rNumber_any (l : Bt) (hl : l.length ≤ 100000000) (w : World) : Calls Tryz.prog 33 #[.string (tb l)] w fun e w' => ∃ v : Int, I64 v ∧ e = .returned (.tuple #[.int .i64 v, .bool (numB l).isSome]) ∧ (∀ n, numB l = some n → v = n) ∧ w' = w := by
  by_cases h0 : l = []
  · subst h0
    have hnb : (numB []).isSome = false := by rw [← rnB_plain [] (fun c h => by simp at h)]; rfl
    have HN := Hid.mk' hnb
    clear hl hnb
    go_enter Tryz.func33, Tryz.ntmps33
    go_wp2_with fail
    go_ret2
    exact ⟨0, by unfold I64; omega, by rw [HN.out]; rfl, fun n h => (by have := HN.out; rw [h] at this; cases this), rfl⟩
  · have hp : 0 < l.length := List.length_pos_iff.2 h0
    obtain ⟨s, hs⟩ : ∃ s, s = tb l := ⟨_, rfl⟩
    rw [← hs]
    have hsz : s.size = l.length := by rw [hs]; exact tb_size l
    have key : ∀ k (h : k < l.length) (h' : k < s.size), s[k]'h' = l[k]'h := by intro k h h'; subst hs; rfl

    have hlt0 : 0 < s.size := by omega
    have hc0 : (s[0]'hlt0).toNat = l[0].toNat := by rw [key 0 hp hlt0]
    have HL := Hid.mk' hsz
    have HK := Hid.mk' key
    have hsz2 : s.size ≤ 100000000 := by omega
    clear hs key
    by_cases hm : l[0].toNat = 45
    · have hl1 : l = 45 :: l.drop 1 := by
        cases l with
        | nil => exact absurd rfl h0
        | cons c r =>
          have : c = 45 := UInt8.toNat_inj.1 hm
          rw [this]; rfl
      have HP := Hid.mk' (rnB_minus (l.drop 1))
      rw [← hl1] at HP
      have hq0 : ((s[0]'hlt0).toNat == 45) = true := by rw [hc0]; simpa using hm
      have hq0' : (((s[0]'hlt0).toNat : Int) == 45) = true := by rw [hc0]; simpa using (by omega : ((l[0].toNat : Int) = 45))
      by_cases h1 : l.length = 1
      · have hnb : numB l = none := by
          rw [← HP.out, List.drop_eq_nil_of_le (by omega)]; rfl
        have HN := Hid.mk' hnb
        have hs1 : ((1 : Int) == (s.size : Int)) = true := by simp only [beq_iff_eq]; omega
        clear hnb hsz hl1 HP hl h1 hc0 hm hp h0
        go_enter Tryz.func33, Tryz.ntmps33
        go_wp2_with fail
        go_ret2
        exact rn_no HN.out
      · have hs1 : ((1 : Int) == (s.size : Int)) = false := by simp only [beq_eq_false_iff_ne]; omega
        have hp1 : 1 < l.length := by omega
        have hlt1 : 1 < s.size := by omega
        have hc1 : (s[1]'hlt1).toNat = l[1].toNat := by rw [HK.out 1 hp1 hlt1]
        have hhd : (l.drop 1).head?.map (·.toNat) = some l[1].toNat := by rw [List.drop_eq_getElem_cons hp1]; rfl
        have hne : l.drop 1 ≠ [] := fun h => by have := congrArg List.length h; rw [List.length_drop, List.length_nil] at this; omega
        have hs2 : decide ((1 : Int) < (s.size : Int)) = true := decide_eq_true (by omega)
        by_cases hz : l[1].toNat = 48
        · have hnb : numB l = none := by
            rw [← HP.out]; unfold rnB; rw [if_pos (.inr ⟨by rw [hhd, hz], rfl⟩)]
          have HN := Hid.mk' hnb
          have hq1 : ((s[1]'hlt1).toNat == 48) = true := by rw [hc1]; simpa using hz
          have hq1' : (((s[1]'hlt1).toNat : Int) == 48) = true := by rw [hc1]; simpa using (by omega : ((l[1].toNat : Int) = 48))
          clear hnb hsz hl1 HP hl h1 hc0 hm hp h0 hc1 hhd hne hz hp1
          go_enter Tryz.func33, Tryz.ntmps33
          go_wp2_with fail
          go_ret2
          exact rn_no HN.out
        · have hq1 : ((s[1]'hlt1).toNat == 48) = false := by rw [hc1]; simpa using hz
          have hq1' : (((s[1]'hlt1).toNat : Int) == 48) = false := by rw [hc1]; simpa using (by omega : ¬ ((l[1].toNat : Int) = 48))
          have hcnd : ¬ (l.drop 1 = [] ∨ (l.drop 1).head?.map (·.toNat) = some 48 ∧ false = false) := by
            rintro (h | ⟨h, _⟩)
            · exact hne h
            · rw [hhd] at h; injection h with h; exact hz h
          have FIN : Hid (rdg (l.drop 1) 0 = none → numB l = none) := fun h => by
            rw [← HP.out]; unfold rnB; rw [if_neg hcnd, h]
          have FI2 : Hid (∀ v : Nat, v ≤ 9223372036854775808 → rdg (l.drop 1) 0 = some v → rnP l (-(v : Int)) true) := fun v hv h => by
            have hnb : numB l = some (-(v : Int)) := by rw [← HP.out]; unfold rnB; rw [if_neg hcnd, h]; rfl
            exact ⟨by unfold I64; omega, by rw [hnb]; rfl, fun n h => by rw [hnb] at h; injection h⟩
          clear hsz hl1 HP hl h1 hc0 hm hp h0 hc1 hhd hne hz hp1 hcnd
          go_enter Tryz.func33, Tryz.ntmps33
          go_wp2_with fail
    
          go_loopw [4, 6] (fun n i wr => ∃ (k v : Nat), 1 ≤ k ∧ k ≤ s.size ∧ i = .int .i64 k ∧ n = .int .i64 (-(v : Int)) ∧ v ≤ 9223372036854775808 ∧ rdg (l.drop k) v = rdg (l.drop 1) 0 ∧ wr = w) (fun _ i _ => s.size - (intOf i).toNat)
          case atStart => exact ⟨1, 0, Nat.le_refl _, by omega, rfl, rfl, by omega, rfl, by simp⟩
          case round =>
            obtain ⟨k, v, hk0, hk, rfl, rfl, hv, hr, rfl⟩ := hrel
            by_cases hlt : k < s.size
            · have hlt' : k < l.length := by rw [← HL.out]; exact hlt
              have hst := rdg_step (v := v) hlt'
              rw [hr] at hst
              have hck : (s[k]'hlt).toNat = l[k].toNat := by rw [HK.out k hlt' hlt]
              have hub := l[k].toNat_lt
              rw [← hck] at hst hub
              have HV := Hid.mk' hv
              by_cases c1 : (s[k]'hlt).toNat < 48
              · have HR : Hid (rdg (l.drop 1) 0 = none) := (by rw [hst, if_neg (by omega)] : _ = _)
                clear hst hck hr hv
                go_wp2_with fail
                go_ret2
                exact rn_no (FIN.out HR.out)
              · by_cases c2 : 57 < (s[k]'hlt).toNat
                · have HR : Hid (rdg (l.drop 1) 0 = none) := (by rw [hst, if_neg (by omega)] : _ = _)
                  clear hst hck hr hv
                  go_wp2_with fail
                  go_ret2
                  exact rn_no (FIN.out HR.out)
                · rw [if_pos (by omega)] at hst
                  obtain ⟨d, q, d1, d2, d3, d4, d5, d6, d7, d8⟩ := dig_ask (v := v) (c := (s[k]'hlt).toNat) hv (by omega) (by omega)
                  have c3 : ¬ (s[k]'hlt).toNat > 57 := c2
                  by_cases c4 : 9223372036854775808 < v * 10 + ((s[k]'hlt).toNat - 48)
                  · have HR : Hid (rdg (l.drop 1) 0 = none) := (by rw [hst, if_pos c4] : _ = _)
                    have c5 : decide (-(v : Int) < q) = true := decide_eq_true (d7.2 c4)
                    clear hst hck hr hv d7 d8 d3 c4
                    go_wp2_with fail
                    go_ret2
                    exact rn_no (FIN.out HR.out)
                  · rw [if_neg c4] at hst
                    obtain ⟨d9, d10⟩ := d8 c4
                    have c5 : decide (-(v : Int) < q) = false := decide_eq_false (fun h => c4 (d7.1 h))
                    have HR := Hid.mk' hst.symm
                    have HC4 := Hid.mk' c4
                    clear hst hck hr hv d7 d8 d3 c4
                    go_wp2_with fail
                    go_roundw
                    case rel => exact ⟨k + 1, v * 10 + ((s[k]'hlt).toNat - 48), by omega, by omega, by go_num, congrArg (Value.int .i64) (by omega), by have := HC4.out; omega, HR.out, by simp⟩
                    case measure => simp [intOf]; omega
            · have hke : k = s.size := by omega
              have HR : Hid (rdg (l.drop 1) 0 = some v) := (by rw [← hr, hke, HL.out, List.drop_length]; rfl : _ = _)
              clear hke hr
              have HFN := Hid.mk' (FI2.out v hv HR.out)
              clear hv HR
              go_wp2_with fail
              go_ret2
              exact rn_fin HFN.out
    · have hq0 : ((s[0]'hlt0).toNat == 45) = false := by rw [hc0]; simpa using hm
      have hq0' : (((s[0]'hlt0).toNat : Int) == 45) = false := by rw [hc0]; simpa using (by omega : ¬ ((l[0].toNat : Int) = 45))
      have HP := Hid.mk' (rnB_plain l (fun c h => by
        have : l.head? = some l[0] := by rw [List.head?_eq_getElem?, List.getElem?_eq_getElem hp]
        rw [this] at h
        injection h with h
        rw [← h]; exact hm))
      have hhd : l.head?.map (·.toNat) = some l[0].toNat := by rw [List.head?_eq_getElem?, List.getElem?_eq_getElem hp]; rfl
      by_cases hz : l[0].toNat = 48 ∧ 1 < l.length
      · have hnb : numB l = none := by
          rw [← HP.out]; unfold rnB; rw [if_pos (.inr ⟨by rw [hhd, hz.1], decide_eq_false (by omega)⟩)]
        have HN := Hid.mk' hnb
        have hq1 : ((s[0]'hlt0).toNat == 48) = true := by rw [hc0]; simpa using hz.1
        have hq1' : (((s[0]'hlt0).toNat : Int) == 48) = true := by rw [hc0]; simpa using (by omega : ((l[0].toNat : Int) = 48))
        have hs2 : decide ((1 : Int) < (s.size : Int)) = true := decide_eq_true (by omega)
        have hs3 : decide (1 < s.size) = true := decide_eq_true (by omega)
        have hn0 : ((0 : Int) == (s.size : Int)) = false := by simp only [beq_eq_false_iff_ne]; omega
        clear hnb hsz HP hl hc0 hm hp h0 hhd hz
        go_enter Tryz.func33, Tryz.ntmps33
        go_wp2_with fail
        go_ret2
        exact rn_no HN.out
      · have FIN : Hid (rdg (l.drop 0) 0 = none → numB l = none) := fun h => by
          rw [← HP.out]
          unfold rnB
          rw [List.drop_zero] at h
          rw [h]
          split <;> rfl
        have FI2 : Hid (∀ v : Nat, v ≤ 9223372036854775808 → rdg (l.drop 0) 0 = some v → ∃ (u : Int) (b : Bool), IntKind.i64.wrap (-(-(v : Int))) = u ∧ decide (-9223372036854775808 < -(v : Int)) = b ∧ rnP l u b) := fun v hv h => by
          rw [List.drop_zero] at h
          have hcnd : ¬ (l = [] ∨ l.head?.map (·.toNat) = some 48 ∧ decide (l.length ≤ 1) = false) := by
            rintro (h | ⟨h, h'⟩)
            · exact h0 h
            · rw [hhd] at h; injection h with h; exact hz ⟨h, by have := of_decide_eq_false h'; omega⟩
          have hnb : numB l = if v = 9223372036854775808 then none else some (v : Int) := by
            rw [← HP.out]; unfold rnB; rw [if_neg hcnd, h]; rfl
          by_cases hv2 : v = 9223372036854775808
          · rw [if_pos hv2] at hnb
            refine ⟨-9223372036854775808, false, by rw [IntKind.wrap_i64]; omega, decide_eq_false (by omega), by unfold I64; omega, by rw [hnb]; rfl, fun n h => by rw [hnb] at h; cases h⟩
          · rw [if_neg hv2] at hnb
            refine ⟨v, true, by rw [IntKind.wrap_i64]; omega, decide_eq_true (by omega), by unfold I64; omega, by rw [hnb]; rfl, fun n h => by rw [hnb] at h; injection h⟩
        have hz2 : ((s[0]'hlt0).toNat == 48) = true → ¬ 1 < s.size := fun h => by
          rw [hc0] at h
          have := of_decide_eq_true (p := l[0].toNat = 48) (by simpa using h)
          omega
        have HZ2 := Hid.mk' hz2
        have hn0 : ((0 : Int) == (s.size : Int)) = false := by simp only [beq_eq_false_iff_ne]; omega
        clear hz2 hz hm hl hhd
        cases hb : ((s[0]'hlt0).toNat == 48)
        case' false =>
          have hb' : (((s[0]'hlt0).toNat : Int) == 48) = false := by simp only [beq_eq_false_iff_ne] at hb ⊢; omega
        case' true =>
          have hz3 := HZ2.out hb
          have hz5 : decide ((1 : Int) < (s.size : Int)) = false := decide_eq_false (by omega)
          have hz6 : decide (1 < s.size) = false := decide_eq_false hz3
          have hb' : (((s[0]'hlt0).toNat : Int) == 48) = true := by simp only [beq_iff_eq] at hb ⊢; omega
        all_goals
          clear HZ2 hc0 hsz hp h0
          go_enter Tryz.func33, Tryz.ntmps33
          go_wp2_with fail
    
          go_loopw [4, 6] (fun n i wr => ∃ (k v : Nat), 0 ≤ k ∧ k ≤ s.size ∧ i = .int .i64 k ∧ n = .int .i64 (-(v : Int)) ∧ v ≤ 9223372036854775808 ∧ rdg (l.drop k) v = rdg (l.drop 0) 0 ∧ wr = w) (fun _ i _ => s.size - (intOf i).toNat)
          case atStart => exact ⟨0, 0, Nat.le_refl _, by omega, rfl, rfl, by omega, rfl, by simp⟩
          case round =>
            obtain ⟨k, v, hk0, hk, rfl, rfl, hv, hr, rfl⟩ := hrel
            by_cases hlt : k < s.size
            · have hlt' : k < l.length := by rw [← HL.out]; exact hlt
              have hst := rdg_step (v := v) hlt'
              rw [hr] at hst
              have hck : (s[k]'hlt).toNat = l[k].toNat := by rw [HK.out k hlt' hlt]
              have hub := l[k].toNat_lt
              rw [← hck] at hst hub
              have HV := Hid.mk' hv
              by_cases c1 : (s[k]'hlt).toNat < 48
              · have HR : Hid (rdg (l.drop 0) 0 = none) := (by rw [hst, if_neg (by omega)] : _ = _)
                clear hst hck hr hv
                go_wp2_with fail
                go_ret2
                exact rn_no (FIN.out HR.out)
              · by_cases c2 : 57 < (s[k]'hlt).toNat
                · have HR : Hid (rdg (l.drop 0) 0 = none) := (by rw [hst, if_neg (by omega)] : _ = _)
                  clear hst hck hr hv
                  go_wp2_with fail
                  go_ret2
                  exact rn_no (FIN.out HR.out)
                · rw [if_pos (by omega)] at hst
                  obtain ⟨d, q, d1, d2, d3, d4, d5, d6, d7, d8⟩ := dig_ask (v := v) (c := (s[k]'hlt).toNat) hv (by omega) (by omega)
                  have c3 : ¬ (s[k]'hlt).toNat > 57 := c2
                  by_cases c4 : 9223372036854775808 < v * 10 + ((s[k]'hlt).toNat - 48)
                  · have HR : Hid (rdg (l.drop 0) 0 = none) := (by rw [hst, if_pos c4] : _ = _)
                    have c5 : decide (-(v : Int) < q) = true := decide_eq_true (d7.2 c4)
                    clear hst hck hr hv d7 d8 d3 c4
                    go_wp2_with fail
                    go_ret2
                    exact rn_no (FIN.out HR.out)
                  · rw [if_neg c4] at hst
                    obtain ⟨d9, d10⟩ := d8 c4
                    have c5 : decide (-(v : Int) < q) = false := decide_eq_false (fun h => c4 (d7.1 h))
                    have HR := Hid.mk' hst.symm
                    have HC4 := Hid.mk' c4
                    clear hst hck hr hv d7 d8 d3 c4
                    go_wp2_with fail
                    go_roundw
                    case rel => exact ⟨k + 1, v * 10 + ((s[k]'hlt).toNat - 48), by omega, by omega, by go_num, congrArg (Value.int .i64) (by omega), by have := HC4.out; omega, HR.out, by simp⟩
                    case measure => simp [intOf]; omega
            · have hke : k = s.size := by omega
              have HR : Hid (rdg (l.drop 0) 0 = some v) := (by rw [← hr, hke, HL.out, List.drop_length]; rfl : _ = _)
              clear hke hr
              obtain ⟨u, b, hu, hb2, hfin⟩ := FI2.out v hv HR.out
              have hu2 : wrap64 (v : Int) = u := by rw [← hu, Int.neg_neg]; unfold wrap64; rw [IntKind.wrap_i64]
              have hu3 : IntKind.i64.wrap (v : Int) = u := by rw [← hu, Int.neg_neg]
              have hb3 : decide (-(v : Int) > -9223372036854775808) = b := hb2
              have hb4 : decide ((v : Int) < 9223372036854775808) = b := by rw [← hb2]; exact decide_eq_decide.2 (by omega)
              have hb5 : decide (v < 9223372036854775808) = b := by rw [← hb2]; exact decide_eq_decide.2 (by omega)
              have HFN := Hid.mk' hfin
              clear hfin hv HR
              go_wp2_with fail
              go_ret2
              exact rn_fin HFN.out
end Go.Proofs.YtboidkmnkicoeaaGreatDoor
