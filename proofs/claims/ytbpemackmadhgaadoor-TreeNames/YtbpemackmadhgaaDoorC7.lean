/- A function's head and body; thresholds; the whole program: tree.Check. -/
import Derived.Test.YtbpemackmadhgaaDoorC6
namespace Go.Proofs.YtbpemackmadhgaaDoor
open Go.RowKit Go.Sort

theorem rowP_at {W : World} {a : Option Addr} {l : List Pa} (h : RowIn W a 3 (l.map Pa.cells)) {i : Nat} (hi : i < l.length) :
    ∃ b o, a = some ⟨b, o, none⟩ ∧ W.cell? ⟨b, o + i * 3, none⟩ = some (.string l[i].name) ∧ W.cell? ⟨b, o + i * 3 + 1, none⟩ = some (.int .i64 l[i].lo) ∧ W.cell? ⟨b, o + i * 3 + 2, none⟩ = some (.int .i64 l[i].hi) := by
  obtain ⟨b, o, e, hc⟩ := h i l[i].cells (by simp [hi])
  exact ⟨b, o, e, hc 0 _ rfl, hc 1 _ rfl, hc 2 _ rfl⟩
theorem rowW_at {W : World} {a : Option Addr} {l : List Int} (h : RowIn W a 1 (l.map fun z => [.int .i64 z])) {i : Nat} (hi : i < l.length) :
    ∃ b o, a = some ⟨b, o, none⟩ ∧ W.cell? ⟨b, o + i, none⟩ = some (.int .i64 l[i]) := by
  obtain ⟨b, o, e, hc⟩ := h i [.int .i64 l[i]] (by simp [hi])
  exact ⟨b, o, e, by simpa using hc 0 _ rfl⟩

/-- What is wrong first with parameters. -/
def parsZ : List Pa → Int
  | [] => 0
  | p :: r => if nameZ p.name = false then 8 else if (p.lo == -9223372036854775808 || p.hi == -9223372036854775808) = true then 1 else parsZ r
theorem parsZ_drop {l : List Pa} {j : Nat} (h : j < l.length) : parsZ (l.drop j) = if nameZ l[j].name = false then 8 else if (l[j].lo == -9223372036854775808 || l[j].hi == -9223372036854775808) = true then 1 else parsZ (l.drop (j + 1)) := by
  rw [List.drop_eq_getElem_cons h, parsZ]
def headZ (f : Fu) : Int := if nameZ f.name = false then 8 else if 8 < f.params.length then 3 else parsZ f.params

set_option maxRecDepth 100000 in
set_option maxHeartbeats 4000000 in
theorem checkHead_any (f : Fu) (w : World) (hin : f.In w) : Calls Tryd.prog 45 #[f.val] w fun e w' => e = .returned (.int .i64 (headZ f)) ∧ Below w.heap.size w w' := by
  obtain ⟨_, hl, hc, _, hrow, _, _⟩ := hin
  have HR : Hid (RowIn w f.pa 3 (List.map Pa.cells f.params)) := hrow
  have HN : Hid (∀ s w, Calls Tryd.prog 59 #[.string s] w fun e w' => e = .returned (.bool (nameZ s)) ∧ w' = w) := fun s w => name_any s w
  have HE : Hid (headZ f = if nameZ f.name = false then 8 else if 8 < f.params.length then 3 else parsZ f.params) := (rfl : headZ f = _)
  clear hrow
  generalize headZ f = res at HE ⊢
  have hb1 := (Below.refl _ w).alloc (Nat.le_refl _) (.cells #[.string f.name, .slice f.pa f.params.length f.pc, .slice f.ba f.body.length f.bc] 48)
  unfold Fu.val
  cases e1 : nameZ f.name
  · go_enter Tryd.func45, Tryd.ntmps45
    go_wp2_with (go_at_call 59; refine (HN.out _ _).mono ?_; rw [e1]; rintro e w' ⟨rfl, rfl⟩)
    go_ret
    exact ⟨ret_int (by rw [HE.out, e1]; rfl), hb1⟩
  · by_cases e2 : 8 < f.params.length
    · go_enter Tryd.func45, Tryd.ntmps45
      go_wp2_with (go_at_call 59; refine (HN.out _ _).mono ?_; rw [e1]; rintro e w' ⟨rfl, rfl⟩)
      go_ret
      exact ⟨ret_int (by rw [HE.out, e1]; simp [e2]), hb1⟩
    · have HF : Hid (res = parsZ f.params) := (by rw [HE.out, e1]; simp [e2] : res = parsZ f.params)
      clear HE
      go_enter Tryd.func45, Tryd.ntmps45
      go_wp2_with (go_at_call 59; refine (HN.out _ _).mono ?_; rw [e1]; rintro e w' ⟨rfl, rfl⟩)
      go_loopw [16] (fun t16 wr => ∃ (j : Nat), j ≤ f.params.length ∧ t16 = .int .i64 j ∧ parsZ (f.params.drop j) = res ∧ Below w.heap.size w wr) (fun t16 _ => f.params.length - (intOf t16).toNat)
      case atStart => exact ⟨0, Nat.zero_le _, rfl, HF.out.symm, hb1⟩
      case round =>
        obtain ⟨j, hj, rfl, hcnt, hb⟩ := hrel
        have HC : Hid (parsZ (f.params.drop j) = res) := hcnt
        clear hcnt e1
        have hws := hb.size
        by_cases hlt : j < f.params.length
        · obtain ⟨b, o, hpa, c0, c1, c2⟩ := rowP_at (HR.out.below hb) hlt
          rw [hpa]
          have hli : (j : Int) < (f.params.length : Int) := by omega
          have HD : Hid (parsZ (f.params.drop j) = if nameZ f.params[j].name = false then 8 else if (f.params[j].lo == -9223372036854775808 || f.params[j].hi == -9223372036854775808) = true then 1 else parsZ (f.params.drop (j + 1))) := parsZ_drop hlt
          generalize f.params[j] = p at *
          have hb3 := hb.alloc hws (.cells #[.string p.name, .int .i64 p.lo, .int .i64 p.hi] 41)
          cases e3 : nameZ p.name
          · have HN' : Hid (∀ w, Calls Tryd.prog 59 #[.string p.name] w fun e w' => e = .returned (.bool false) ∧ w' = w) := (fun w => by rw [← e3]; exact HN.out _ w)
            go_wp2_with (go_at_call 59; refine (HN'.out _).mono ?_; rintro e w' ⟨rfl, rfl⟩)
            go_ret
            exact ⟨ret_int (by rw [← HC.out, HD.out, e3]; rfl), hb3⟩
          · have HN' : Hid (∀ w, Calls Tryd.prog 59 #[.string p.name] w fun e w' => e = .returned (.bool true) ∧ w' = w) := (fun w => by rw [← e3]; exact HN.out _ w)
            cases e4 : (p.lo == -9223372036854775808)
            · cases e5 : (p.hi == -9223372036854775808)
              · go_wp2_with (go_at_call 59; refine (HN'.out _).mono ?_; rintro e w' ⟨rfl, rfl⟩)
                go_roundw
                case rel => exact ⟨j + 1, by omega, by go_num, by rw [← HC.out, HD.out, e3, e4, e5]; rfl, hb3⟩
                case measure => simp [intOf]; omega
              · go_wp2_with (go_at_call 59; refine (HN'.out _).mono ?_; rintro e w' ⟨rfl, rfl⟩)
                go_ret
                exact ⟨ret_int (by rw [← HC.out, HD.out, e3, e4, e5]; rfl), hb3⟩
            · go_wp2_with (go_at_call 59; refine (HN'.out _).mono ?_; rintro e w' ⟨rfl, rfl⟩)
              go_ret
              exact ⟨ret_int (by rw [← HC.out, HD.out, e3, e4]; rfl), hb3⟩
        · go_wp2_with fail
          go_ret
          exact ⟨ret_int (by rw [← HC.out, List.drop_eq_nil_of_le (by omega), parsZ]), hb⟩

/-- What is wrong first in a function, and the number of the statement where it is. -/
def chkF (f : Fu) : Int × Int := if headZ f ≠ 0 then (headZ f, 0) else chkSs f.body 1 0
set_option maxRecDepth 100000 in
set_option maxHeartbeats 4000000 in
theorem checkFn_any (f : Fu) (w : World) (hin : f.In w) (ht : Tabs w) (hsz : ssz f.body ≤ 100000) : Calls Tryd.prog 27 #[f.val] w fun e w' => e = .returned (.tuple #[.int .i64 (chkF f).1, .int .i64 (chkF f).2]) ∧ Below w.heap.size w w' := by
  have HH : Hid (∀ w', Below w.heap.size w w' → Calls Tryd.prog 45 #[f.val] w' fun e w'' => e = .returned (.int .i64 (headZ f)) ∧ Below w'.heap.size w' w'') := fun w' hb => checkHead_any f w' (hin.stay hb)
  have HS : Hid (∀ w', Below w.heap.size w w' → Calls Tryd.prog 46 #[.slice f.ba f.body.length f.bc, .int .i64 1, .int .i64 0] w' fun e w'' => e = .returned (.tuple #[.int .i64 (chkSs f.body 1 0).1, .int .i64 (chkSs f.body 1 0).2]) ∧ Below w'.heap.size w' w'') := fun w' hb => checkStmts_any f.body f.ba f.bc 1 0 w' (hin.2.2.2.2.2.2.stay hb) (ht.stay hb) (by omega) (by omega) (by omega) (by omega)
  have HE : Hid (chkF f = if headZ f ≠ 0 then (headZ f, 0) else chkSs f.body 1 0) := (rfl : chkF f = _)
  generalize chkF f = res at HE ⊢
  generalize headZ f = hz at HE HH
  generalize chkSs f.body 1 0 = pr at HE HS
  obtain ⟨p1, p2⟩ := pr
  clear hin ht
  have hb1 := (Below.refl _ w).alloc (Nat.le_refl _) (.cells #[.string f.name, .slice f.pa f.params.length f.pc, .slice f.ba f.body.length f.bc] 48)
  unfold Fu.val at HH ⊢
  cases e1 : (hz != 0)
  · go_enter Tryd.func27, Tryd.ntmps27
    go_wp2_with fail
    refine (HH.out _ hb1).mono ?_
    rintro e w1 ⟨rfl, hbh⟩
    have c2 := own_cell hbh (j := 2) rfl
    have hb2 : Below w.heap.size w w1 := hb1.trans (hbh.mono (by simp))
    go_wp2_with fail
    refine (HS.out _ hb2).mono ?_
    rintro e w2 ⟨rfl, hbs⟩
    go_wp2_with fail
    go_ret2
    have e1' : hz = 0 := by simpa using e1
    exact ⟨ret_two (by rw [HE.out]; simp [e1']), hb2.trans (hbs.mono hb2.size)⟩
  · go_enter Tryd.func27, Tryd.ntmps27
    go_wp2_with fail
    refine (HH.out _ hb1).mono ?_
    rintro e w1 ⟨rfl, hbh⟩
    have hb2 : Below w.heap.size w w1 := hb1.trans (hbh.mono (by simp))
    go_wp2_with fail
    go_ret2
    have e1' : hz ≠ 0 := by simpa using e1
    exact ⟨ret_two (by rw [HE.out]; simp [e1']), hb2⟩
end Go.Proofs.YtbpemackmadhgaaDoor
