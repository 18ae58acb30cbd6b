/- The document's own look at an expression. -/
import Derived.Test.YtkkcgkpbbngloaaGreatDoorPart8
import Derived.Deep.CutBlock
import Derived.Test.YtkkcgkpbbngloaaGreatDoorPart1
import Derived.Test.YtkkcgkpbbngloaaGreatDoorPart6
import Derived.Test.YtkkcgkpbbngloaaGreatDoorPart4
import Derived.Laws.StructEq
namespace Go.Proofs.YtkkcgkpbbngloaaGreatDoor
open Go.RowKit Go.Sort

/-- What is wrong with an expression by itself. -/
def ownE (x : Ex) (lv e : Int) : Int := if e ≠ 0 then e else if 32 < lv then 20 else selfE x
theorem ownE_chk (x : Ex) (lv e : Int) : (if e ≠ 0 then e else chkE x lv) = if ownE x lv e ≠ 0 then ownE x lv e else chkL x.args (lv + 1) := by
  unfold ownE
  by_cases h : e ≠ 0
  · rw [if_pos h, if_pos h, if_pos h]
  · rw [if_neg h, if_neg h, chkE_eq]
    by_cases h2 : 32 < lv
    · rw [if_pos h2, if_pos h2]; rfl
    · rw [if_neg h2, if_neg h2]

theorem ownE_lv {x : Ex} {lv e : Int} (h : ownE x lv e = 0) : lv ≤ 32 := by
  unfold ownE at h
  by_cases h1 : e ≠ 0
  · rw [if_pos h1] at h; exact absurd h h1
  · rw [if_neg h1] at h
    by_cases h2 : 32 < lv
    · rw [if_pos h2] at h; omega
    · omega
theorem nil_beqE (l : List UInt8) : (l == []) = l.isEmpty := by cases l <;> rfl
set_option maxRecDepth 100000 in
set_option maxHeartbeats 1000000 in
theorem wexpr_step (w0 : World) (b k : Nat) (hb : w0.heap.size ≤ b)
    (ih : ∀ (x : Ex) (lv : Int) (w : World) (n e : Int), x.sz ≤ k → x.In w0 → Below w0.heap.size w0 w → Wk w b n e → 0 ≤ lv → lv ≤ 64 → Calls Tryz.prog 59 #[.pointer (some ⟨b, 0, none⟩), x.val, .int .i64 lv] w fun r w' => r = .returned (.tuple #[]) ∧ Wk w' b n (if e ≠ 0 then e else chkE x lv) ∧ OnlyB b w w')
    (x : Ex) (lv : Int) (w : World) (n e : Int) (hk : x.sz ≤ k + 1) (hin : x.In w0) (hB : Below w0.heap.size w0 w) (hw : Wk w b n e) (h0 : 0 ≤ lv) (h1 : lv ≤ 64) :
    Calls Tryz.prog 59 #[.pointer (some ⟨b, 0, none⟩), x.val, .int .i64 lv] w fun r w' => r = .returned (.tuple #[]) ∧ Wk w' b n (if e ≠ 0 then e else chkE x lv) ∧ OnlyB b w w' := by
  obtain ⟨_, _, _, hl, hc, _, hrow, hsub⟩ := Ex.in_iff.1 hin
  have hszl : szL x.args ≤ k := by have := x.sz_args; omega
  have IH : Hid (∀ (x : Ex) (lv : Int) (w : World) (n e : Int), x.sz ≤ k → x.In w0 → Below w0.heap.size w0 w → Wk w b n e → 0 ≤ lv → lv ≤ 64 → Calls Tryz.prog 59 #[.pointer (some ⟨b, 0, none⟩), x.val, .int .i64 lv] w fun r w' => r = .returned (.tuple #[]) ∧ Wk w' b n (if e ≠ 0 then e else chkE x lv) ∧ OnlyB b w w') := ih
  have HS : Hid (∀ (y : Ex), y ∈ x.args → Ex.In w0 y) := hsub
  have HR : Hid (RowIn w0 x.a 4 (List.map Ex.cells x.args)) := hrow
  have HA : Hid (∀ w, Calls Tryz.prog 85 #[.int .i64 x.kind] w fun e w' => e = .returned (.int .i64 (argsZ x.kind)) ∧ w' = w) := fun w => args_any x.kind w
  have HM : Hid (∀ w, Calls Tryz.prog 86 #[.int .i64 x.kind] w fun e w' => e = .returned (.bool (namedZ x.kind)) ∧ w' = w) := fun w => named_any x.kind w
  have HN : Hid (∀ w, Calls Tryz.prog 30 #[.string x.name] w fun e w' => e = .returned (.bool (nameZ x.name)) ∧ Below w.heap.size w w') := fun w => rName_any x.name w
  have HRES : Hid ((if e ≠ 0 then e else chkE x lv) = if ownE x lv e ≠ 0 then ownE x lv e else chkL x.args (lv + 1)) := ownE_chk x lv e
  generalize (if e ≠ 0 then e else chkE x lv) = res at HRES ⊢
  clear ih hsub hrow hin hk
  have hob : OnlyB b w (w.alloc (.cells #[.int .i64 x.kind, .int .i64 x.n, .string x.name, .slice x.a x.args.length x.cap] 41)) := (OnlyB.refl b w).alloc _
  have hbx := boxE_new w x
  have hwk : Wk (w.alloc (.cells #[.int .i64 x.kind, .int .i64 x.n, .string x.name, .slice x.a x.args.length x.cap] 41)) b n e := hw.stay ((Below.refl _ w).alloc (Nat.le_refl _) _)
  have hbs : w.heap.size < (w.alloc (.cells #[.int .i64 x.kind, .int .i64 x.n, .string x.name, .slice x.a x.args.length x.cap] 41)).heap.size := by simp
  have hbw : b ≠ w.heap.size := by have := hw.lt; omega
  have HBW : Hid (Below w0.heap.size w0 w) := hB
  clear hw hB
  unfold Ex.val
  go_enter Tryz.func59, Tryz.ntmps59
  go_upto_region 1 with fail
  generalize w.alloc (.cells #[.int .i64 x.kind, .int .i64 x.n, .string x.name, .slice x.a x.args.length x.cap] 41) = W1 at hob hbx hwk hbs ⊢
  have HOB : Hid (OnlyB b w W1) := hob
  have HBX : Hid (BoxE W1 w.heap.size x) := hbx
  have HWK : Hid (Wk W1 b n e) := hwk
  have k1 := hwk.cell1
  have f1 := hwk.frozen 1
  have x0 := hbx 0 _ rfl
  have x1 := hbx 1 _ rfl
  have x2 := hbx 2 _ rfl
  have x3 := hbx 3 _ rfl
  clear hob hbx hwk
  have HAZ : ∃ A, Hid (argsZ x.kind = A) := ⟨_, rfl⟩
  obtain ⟨A, HAZ⟩ := HAZ
  rw [HAZ.out] at HA
  go_upto_block 0 with (go_at_call 85; refine (HA.out _).mono ?_; rintro r w' ⟨rfl, hr⟩; obtain rfl := hr.symm)
  go_cut [] from 11 to 80 (fun wx => Wk wx b n (ownE x lv e) ∧ BoxE wx w.heap.size x ∧ OnlyB b w wx)
  case first =>
    by_cases he : e = 0
    · subst he
      by_cases hlv : 32 < lv
      · have HO : Hid (ownE x lv 0 = 20) := by show _ = _; unfold ownE; simp [hlv]
        go_wp2_with fail
        go_meet
        case rel => exact ⟨by rw [HO.out]; exact HWK.out.set1 20, HBX.out.only ((OnlyB.refl b W1).set 1 _) hbs (Ne.symm hbw), HOB.out.set 1 _⟩
      · have HO : Hid (ownE x lv 0 = selfE x) := by show _ = _; unfold ownE; simp [hlv]
        go_upto_region 5 with fail
        go_cut [23] from 24 to 57 (fun t wx => t = .bool (formBad x) ∧ wx = W1)
        case first =>
          clear HRES HO k1 f1
          cases a1 : (A == -2)
          · cases a2 : decide (0 ≤ A)
            · have a2' : ¬ 0 ≤ A := of_decide_eq_false a2
              cases a4 : (x.n != 0)
              · cases a6 : x.name.toList.isEmpty
                · have a6' : (x.name.toList == []) = false := by rw [nil_beqE]; exact a6
                  cases a7 : namedZ x.kind
                  · rw [a7] at HM
                    have HF : Hid (formBad x = true) := by show _ = _; unfold formBad; rw [HAZ.out, a1, a2, a4, a6, a7]; rfl
                    go_wp2_with (go_at_call 86; refine (HM.out _).mono ?_; rintro r w' ⟨rfl, hr⟩; obtain rfl := hr.symm)
                    go_meet
                    case rel => exact ⟨by rw [HF.out], rfl⟩
                  · rw [a7] at HM
                    have HF : Hid (formBad x = false) := by show _ = _; unfold formBad; rw [HAZ.out, a1, a2, a4, a6, a7]; rfl
                    go_wp2_with (go_at_call 86; refine (HM.out _).mono ?_; rintro r w' ⟨rfl, hr⟩; obtain rfl := hr.symm)
                    go_meet
                    case rel => exact ⟨by rw [HF.out], rfl⟩
                · have a6' : (x.name.toList == []) = true := by rw [nil_beqE]; exact a6
                  have HF : Hid (formBad x = false) := by show _ = _; unfold formBad; rw [HAZ.out, a1, a2, a4, a6]; rfl
                  go_wp2_with (go_at_call 86; refine (HM.out _).mono ?_; rintro r w' ⟨rfl, hr⟩; obtain rfl := hr.symm)
                  go_meet
                  case rel => exact ⟨by rw [HF.out], rfl⟩
              · cases a5 : (x.kind != 1)
                · cases a6 : x.name.toList.isEmpty
                  · have a6' : (x.name.toList == []) = false := by rw [nil_beqE]; exact a6
                    cases a7 : namedZ x.kind
                    · rw [a7] at HM
                      have HF : Hid (formBad x = true) := by show _ = _; unfold formBad; rw [HAZ.out, a1, a2, a4, a5, a6, a7]; rfl
                      go_wp2_with (go_at_call 86; refine (HM.out _).mono ?_; rintro r w' ⟨rfl, hr⟩; obtain rfl := hr.symm)
                      go_meet
                      case rel => exact ⟨by rw [HF.out], rfl⟩
                    · rw [a7] at HM
                      have HF : Hid (formBad x = false) := by show _ = _; unfold formBad; rw [HAZ.out, a1, a2, a4, a5, a6, a7]; rfl
                      go_wp2_with (go_at_call 86; refine (HM.out _).mono ?_; rintro r w' ⟨rfl, hr⟩; obtain rfl := hr.symm)
                      go_meet
                      case rel => exact ⟨by rw [HF.out], rfl⟩
                  · have a6' : (x.name.toList == []) = true := by rw [nil_beqE]; exact a6
                    have HF : Hid (formBad x = false) := by show _ = _; unfold formBad; rw [HAZ.out, a1, a2, a4, a5, a6]; rfl
                    go_wp2_with (go_at_call 86; refine (HM.out _).mono ?_; rintro r w' ⟨rfl, hr⟩; obtain rfl := hr.symm)
                    go_meet
                    case rel => exact ⟨by rw [HF.out], rfl⟩
                · have HF : Hid (formBad x = true) := by show _ = _; unfold formBad; rw [HAZ.out, a1, a2, a4, a5]; rfl
                  go_wp2_with (go_at_call 86; refine (HM.out _).mono ?_; rintro r w' ⟨rfl, hr⟩; obtain rfl := hr.symm)
                  go_meet
                  case rel => exact ⟨by rw [HF.out], rfl⟩
            · have a2' : 0 ≤ A := of_decide_eq_true a2
              cases a3 : ((x.args.length : Int) != A)
              · cases a4 : (x.n != 0)
                · cases a6 : x.name.toList.isEmpty
                  · have a6' : (x.name.toList == []) = false := by rw [nil_beqE]; exact a6
                    cases a7 : namedZ x.kind
                    · rw [a7] at HM
                      have HF : Hid (formBad x = true) := by show _ = _; unfold formBad; rw [HAZ.out, a1, a2, a3, a4, a6, a7]; rfl
                      go_wp2_with (go_at_call 86; refine (HM.out _).mono ?_; rintro r w' ⟨rfl, hr⟩; obtain rfl := hr.symm)
                      go_meet
                      case rel => exact ⟨by rw [HF.out], rfl⟩
                    · rw [a7] at HM
                      have HF : Hid (formBad x = false) := by show _ = _; unfold formBad; rw [HAZ.out, a1, a2, a3, a4, a6, a7]; rfl
                      go_wp2_with (go_at_call 86; refine (HM.out _).mono ?_; rintro r w' ⟨rfl, hr⟩; obtain rfl := hr.symm)
                      go_meet
                      case rel => exact ⟨by rw [HF.out], rfl⟩
                  · have a6' : (x.name.toList == []) = true := by rw [nil_beqE]; exact a6
                    have HF : Hid (formBad x = false) := by show _ = _; unfold formBad; rw [HAZ.out, a1, a2, a3, a4, a6]; rfl
                    go_wp2_with (go_at_call 86; refine (HM.out _).mono ?_; rintro r w' ⟨rfl, hr⟩; obtain rfl := hr.symm)
                    go_meet
                    case rel => exact ⟨by rw [HF.out], rfl⟩
                · cases a5 : (x.kind != 1)
                  · cases a6 : x.name.toList.isEmpty
                    · have a6' : (x.name.toList == []) = false := by rw [nil_beqE]; exact a6
                      cases a7 : namedZ x.kind
                      · rw [a7] at HM
                        have HF : Hid (formBad x = true) := by show _ = _; unfold formBad; rw [HAZ.out, a1, a2, a3, a4, a5, a6, a7]; rfl
                        go_wp2_with (go_at_call 86; refine (HM.out _).mono ?_; rintro r w' ⟨rfl, hr⟩; obtain rfl := hr.symm)
                        go_meet
                        case rel => exact ⟨by rw [HF.out], rfl⟩
                      · rw [a7] at HM
                        have HF : Hid (formBad x = false) := by show _ = _; unfold formBad; rw [HAZ.out, a1, a2, a3, a4, a5, a6, a7]; rfl
                        go_wp2_with (go_at_call 86; refine (HM.out _).mono ?_; rintro r w' ⟨rfl, hr⟩; obtain rfl := hr.symm)
                        go_meet
                        case rel => exact ⟨by rw [HF.out], rfl⟩
                    · have a6' : (x.name.toList == []) = true := by rw [nil_beqE]; exact a6
                      have HF : Hid (formBad x = false) := by show _ = _; unfold formBad; rw [HAZ.out, a1, a2, a3, a4, a5, a6]; rfl
                      go_wp2_with (go_at_call 86; refine (HM.out _).mono ?_; rintro r w' ⟨rfl, hr⟩; obtain rfl := hr.symm)
                      go_meet
                      case rel => exact ⟨by rw [HF.out], rfl⟩
                  · have HF : Hid (formBad x = true) := by show _ = _; unfold formBad; rw [HAZ.out, a1, a2, a3, a4, a5]; rfl
                    go_wp2_with (go_at_call 86; refine (HM.out _).mono ?_; rintro r w' ⟨rfl, hr⟩; obtain rfl := hr.symm)
                    go_meet
                    case rel => exact ⟨by rw [HF.out], rfl⟩
              · have HF : Hid (formBad x = true) := by show _ = _; unfold formBad; rw [HAZ.out, a1, a2, a3]; rfl
                go_wp2_with (go_at_call 86; refine (HM.out _).mono ?_; rintro r w' ⟨rfl, hr⟩; obtain rfl := hr.symm)
                go_meet
                case rel => exact ⟨by rw [HF.out], rfl⟩
          · have HF : Hid (formBad x = true) := by show _ = _; unfold formBad; rw [HAZ.out, a1]; rfl
            go_wp2_with (go_at_call 86; refine (HM.out _).mono ?_; rintro r w' ⟨rfl, hr⟩; obtain rfl := hr.symm)
            go_meet
            case rel => exact ⟨by rw [HF.out], rfl⟩
        case rest =>
          obtain ⟨rfl, rfl⟩ := hcut
          rw [selfE_ref] at HO
          cases hF : formBad x
          · cases hnm : namedZ x.kind
            · rw [hnm] at HM
              by_cases hn : x.n < 0
              · have HV : Hid (ownE x lv 0 = 1) := by show _ = _; rw [HO.out, hF, hnm]; simp [hn]
                go_wp2_with (go_at_call 86; refine (HM.out _).mono ?_; rintro r w' ⟨rfl, hr⟩; obtain rfl := hr.symm)
                go_meet
                case rel => exact ⟨by rw [HV.out]; exact HWK.out.set1 1, HBX.out.only ((OnlyB.refl b _).set 1 _) hbs (Ne.symm hbw), HOB.out.set 1 _⟩
              · have HV : Hid (ownE x lv 0 = 0) := by show _ = _; rw [HO.out, hF, hnm]; simp [hn]
                go_wp2_with (go_at_call 86; refine (HM.out _).mono ?_; rintro r w' ⟨rfl, hr⟩; obtain rfl := hr.symm)
                go_meet
                case rel => exact ⟨by rw [HV.out]; exact HWK.out, HBX.out, HOB.out⟩
            · rw [hnm] at HM
              go_wp2_with (go_at_call 86; refine (HM.out _).mono ?_; rintro r w' ⟨rfl, hr⟩; obtain rfl := hr.symm)
              refine (HN.out _).mono ?_
              rintro r w2 ⟨rfl, hb2⟩
              have HB2 : Hid (OnlyB b wc w2) := OnlyB.of_below hb2
              have HWK2 : Hid (Wk w2 b n 0) := HWK.out.stay hb2
              have HBX2 : Hid (BoxE w2 w.heap.size x) := HBX.out.only HB2.out hbs (Ne.symm hbw)
              have hs2 : w.heap.size < w2.heap.size := by have := hb2.size; omega
              have k2 := HWK2.out.cell1
              have f2 := HWK2.out.frozen 1
              have y1 := HBX2.out 1 _ rfl
              clear hb2 k1 f1 x0 x1 x2 x3
              cases hnz : nameZ x.name
              · have HV : Hid (ownE x lv 0 = 8) := by show _ = _; rw [HO.out, hF, hnm, hnz]; rfl
                go_wp2_with fail
                go_meet
                case rel => exact ⟨by rw [HV.out]; exact HWK2.out.set1 8, HBX2.out.only ((OnlyB.refl b _).set 1 _) hs2 (Ne.symm hbw), (HOB.out.trans HB2.out).set 1 _⟩
              · by_cases hn : x.n < 0
                · have HV : Hid (ownE x lv 0 = 1) := by show _ = _; rw [HO.out, hF, hnm, hnz]; simp [hn]
                  go_wp2_with fail
                  go_meet
                  case rel => exact ⟨by rw [HV.out]; exact HWK2.out.set1 1, HBX2.out.only ((OnlyB.refl b _).set 1 _) hs2 (Ne.symm hbw), (HOB.out.trans HB2.out).set 1 _⟩
                · have HV : Hid (ownE x lv 0 = 0) := by show _ = _; rw [HO.out, hF, hnm, hnz]; simp [hn]
                  go_wp2_with fail
                  go_meet
                  case rel => exact ⟨by rw [HV.out]; exact HWK2.out, HBX2.out, HOB.out.trans HB2.out⟩
          · have HV : Hid (ownE x lv 0 = 5) := by show _ = _; rw [HO.out, hF]; rfl
            go_wp2_with fail
            go_meet
            case rel => exact ⟨by rw [HV.out]; exact HWK.out.set1 5, HBX.out.only ((OnlyB.refl b _).set 1 _) hbs (Ne.symm hbw), HOB.out.set 1 _⟩
    · have hne : (e != 0) = true := by simpa using he
      have HO : Hid (ownE x lv e = e) := by show _ = _; unfold ownE; rw [if_pos he]
      clear he
      go_wp2_with fail
      go_meet
      case rel => exact ⟨by rw [HO.out]; exact HWK.out, HBX.out, HOB.out⟩
  case rest =>
    obtain ⟨hwk, hbx, hon⟩ := hcut
    have HLV : Hid (ownE x lv e = 0 → lv ≤ 32) := fun h => ownE_lv h
    generalize ownE x lv e = e1 at HRES hwk HLV
    have hs := hon.size
    have HON : Hid (OnlyB b w wc) := hon
    have HBY : Hid (BoxE wc w.heap.size x) := hbx
    have HW1 : Hid (Wk wc b n e1) := hwk
    clear hwk hbx hon x0 x1 x2 x3 k1 f1 HOB HBX HWK hbs HA HM HN
    obtain ⟨kd, nn, nm, a, c, l⟩ := x
    simp only [Ex.kind, Ex.n, Ex.name, Ex.a, Ex.cap, Ex.args] at *
    have hsc : w.heap.size < wc.heap.size := by
      have := lt_of_cell (HBY.out 0 _ rfl); exact this
    go_wp2_with fail
    go_loopw [7] (fun t7 wr => ∃ (j : Nat) (ej : Int), j ≤ l.length ∧ t7 = .int .i64 j ∧ Wk wr b n ej ∧ (if ej ≠ 0 then ej else chkL (l.drop j) (lv + 1)) = res ∧ BoxE wr w.heap.size (.mk kd nn nm a c l) ∧ OnlyB b w wr ∧ w.heap.size < wr.heap.size ∧ (ej = 0 → lv ≤ 32)) (fun t7 _ => l.length - (intOf t7).toNat)
    case atStart => exact ⟨0, e1, Nat.zero_le _, rfl, HW1.out, HRES.out.symm, HBY.out, HON.out, hsc, HLV.out⟩
    case round =>
      obtain ⟨j, ej, hj, rfl, hwk, hres, hbx, hon, hsr, hlv⟩ := hrel
      have x3 := hbx 3 _ rfl
      have k1 := hwk.cell1
      have HX : Hid (BoxE wr w.heap.size (.mk kd nn nm a c l) ∧ OnlyB b w wr ∧ Wk wr b n ej) := ⟨hbx, hon, hwk⟩
      have HQ : Hid ((if ej ≠ 0 then ej else chkL (l.drop j) (lv + 1)) = res) := hres
      have HBR : Hid (Below w0.heap.size w0 wr) := OnlyB.on HBW.out hb hon
      clear hbx hon hwk hres
      simp only [Ex.a, Ex.args, Ex.cap] at x3
      by_cases hlt : j < l.length
      · by_cases hej : ej = 0
        · subst hej
          have hlv1 : lv ≤ 32 := hlv rfl
          clear hlv
          obtain ⟨g, o, rfl, c0, c1, c2, c3⟩ := row_at (HR.out.below HBR.out) hlt
          have hli : (j : Int) < (l.length : Int) := by omega
          have hsy := szL_mem (List.getElem_mem hlt)
          have HY : Hid (Ex.In w0 l[j]) := HS.out l[j] (List.getElem_mem hlt)
          have HZ : Hid (l[j].sz ≤ k) := (by omega : l[j].sz ≤ k)
          have HD : Hid (chkL (l.drop j) (lv + 1) = if chkE l[j] (lv + 1) ≠ 0 then chkE l[j] (lv + 1) else chkL (l.drop (j + 1)) (lv + 1)) := chkL_drop hlt
          clear hsy
          generalize l[j] = y at *
          have HCL : Hid (Calls Tryz.prog 59 #[.pointer (some ⟨b, 0, none⟩), y.val, .int .i64 (lv + 1)] wr fun r w' => r = .returned (.tuple #[]) ∧ Wk w' b n (chkE y (lv + 1)) ∧ OnlyB b wr w') := IH.out y (lv + 1) wr n 0 HZ.out HY.out HBR.out HX.out.2.2 (by omega) (by omega)
          unfold Ex.val at HCL
          go_wp2_with fail
          refine HCL.out.mono ?_
          rintro r w3 ⟨rfl, hw3, ho3⟩
          have HW3 : Hid (Wk w3 b n (chkE y (lv + 1)) ∧ OnlyB b wr w3) := ⟨hw3, ho3⟩
          clear hw3 ho3 x3 k1 c0 c1 c2 c3
          go_wp2_with fail
          go_roundw
          case rel =>
            refine ⟨j + 1, chkE y (lv + 1), by omega, by go_num, HW3.out.1, ?_, HX.out.1.only HW3.out.2 hsr (Ne.symm hbw), HX.out.2.1.trans HW3.out.2, by have := HW3.out.2.size; omega, fun _ => hlv1⟩
            have hq := HQ.out
            rw [show (if (0 : Int) ≠ 0 then 0 else chkL (l.drop j) (lv + 1)) = chkL (l.drop j) (lv + 1) from if_neg (by decide), HD.out] at hq
            exact hq
          case measure => simp [intOf]; omega
        · clear hlv
          have hne : (ej == 0) = false := beq_no hej
          have hli : (j : Int) < (l.length : Int) := by omega
          have HF : Hid (res = ej) := by show _ = _; rw [← HQ.out, if_pos hej]
          clear hej
          go_wp2_with fail
          go_end0
          exact ⟨rfl, by rw [HF.out]; exact HX.out.2.2, HX.out.2.1⟩
      · clear hlv
        have hli : ¬ (j : Int) < (l.length : Int) := by omega
        have HF : Hid (res = ej) := by
          show _ = _; rw [← HQ.out, List.drop_eq_nil_of_le (by omega), chkL]; split
          · rfl
          · omega
        go_wp2_with fail
        go_end0
        exact ⟨rfl, by rw [HF.out]; exact HX.out.2.2, HX.out.2.1⟩
theorem wexpr_k (w0 : World) (b : Nat) (hb : w0.heap.size ≤ b) (k : Nat) : ∀ (x : Ex) (lv : Int) (w : World) (n e : Int), x.sz ≤ k → x.In w0 → Below w0.heap.size w0 w → Wk w b n e → 0 ≤ lv → lv ≤ 64 → Calls Tryz.prog 59 #[.pointer (some ⟨b, 0, none⟩), x.val, .int .i64 lv] w fun r w' => r = .returned (.tuple #[]) ∧ Wk w' b n (if e ≠ 0 then e else chkE x lv) ∧ OnlyB b w w' := by
  induction k with
  | zero => intro x lv w n e hk; have := x.sz_args; omega
  | succ k ih => exact fun x lv w n e hk hin hB hw h0 h1 => wexpr_step w0 b k hb ih x lv w n e hk hin hB hw h0 h1
theorem wexpr_any (w0 : World) (b : Nat) (hb : w0.heap.size ≤ b) (x : Ex) (lv : Int) (w : World) (n e : Int) (hin : x.In w0) (hB : Below w0.heap.size w0 w) (hw : Wk w b n e) (h0 : 0 ≤ lv) (h1 : lv ≤ 64) :
    Calls Tryz.prog 59 #[.pointer (some ⟨b, 0, none⟩), x.val, .int .i64 lv] w fun r w' => r = .returned (.tuple #[]) ∧ Wk w' b n (if e ≠ 0 then e else chkE x lv) ∧ OnlyB b w w' := wexpr_k w0 b hb _ x lv w n e (Nat.le_refl _) hin hB hw h0 h1
end Go.Proofs.YtkkcgkpbbngloaaGreatDoor

/- What the document's own look at statements comes to. -/
namespace Go.Proofs.YtkkcgkpbbngloaaGreatDoor
open Go.RowKit Go.Sort

def ownS (s : St) (lv : Int) : Int := if 32 < lv then 20 else selfS s
def afA (s : St) (lv e : Int) : Int := if cB s.kind 2 = true then (if e ≠ 0 then e else chkE s.a (lv + 1)) else e
def afB (s : St) (lv e : Int) : Int := if cB s.kind 3 = true then (if e ≠ 0 then e else chkE s.b (lv + 1)) else e
theorem ownS_lv {s : St} {lv : Int} (h : ownS s lv = 0) : lv ≤ 32 := by
  unfold ownS at h
  by_cases h2 : 32 < lv
  · rw [if_pos h2] at h; omega
  · omega
theorem afA_lv {s : St} {lv e : Int} (h : afA s lv e = 0) : e = 0 := by
  unfold afA at h
  by_cases h1 : e ≠ 0
  · rw [if_pos h1] at h; split at h <;> exact h
  · simpa using h1
theorem afB_lv {s : St} {lv e : Int} (h : afB s lv e = 0) : e = 0 := by
  unfold afB at h
  by_cases h1 : e ≠ 0
  · rw [if_pos h1] at h; split at h <;> exact h
  · simpa using h1
theorem selfS_is {s : St} (h : selfS s = 0) : isS s.kind = true := by
  cases hk : isS s.kind
  · simp [selfS, hk] at h
  · rfl
theorem chkS_af (s : St) (lv : Int) : afB s lv (afA s lv (ownS s lv)) = chkS s lv := by
  unfold chkS ownS
  by_cases h1 : 32 < lv
  · rw [if_pos h1, if_pos h1]
    unfold afA afB; simp
  · rw [if_neg h1, if_neg h1]
    by_cases h2 : selfS s ≠ 0
    · rw [if_pos h2]; unfold afA afB; simp [h2]
    · rw [if_neg h2]
      have h3 : selfS s = 0 := by simpa using h2
      have hk := selfS_is h3
      have e2 : (bits .and .i64 (fldS s.kind.toNat) 4 != 0) = cB s.kind 2 := by unfold cB; rw [hk]; rfl
      have e3 : (bits .and .i64 (fldS s.kind.toNat) 8 != 0) = cB s.kind 3 := by unfold cB; rw [hk]; rfl
      rw [e2, e3, h3]
      unfold afA afB
      cases cB s.kind 2 <;> cases cB s.kind 3
      · simp
      · simp
      · by_cases e : chkE s.a (lv + 1) = 0 <;> simp [e]
      · by_cases e : chkE s.a (lv + 1) = 0 <;> simp [e]
theorem chkT_then (s : St) (lv m : Int) : chkT s lv m = thenZ (thenZ (thenZ (chkS s lv, m + 1) fun k => chkSs s.body (lv + 1) k) fun k => chkCs s.cases (lv + 1) k) fun k => chkSs s.els (lv + 1) k := by
  rw [thenZ_assoc, thenZ_assoc]
  cases s
  simp only [chkT, St.body, St.cases, St.els]
  unfold thenZ
  split <;> rfl
theorem then_at (e n : Int) (l : List St) (lv : Int) : (thenZ (e, n) fun k => chkSs l lv k).2 ≤ n + ssz l ∧ n ≤ (thenZ (e, n) fun k => chkSs l lv k).2 := by
  unfold thenZ
  split
  · exact ⟨by show n ≤ _; omega, Int.le_refl _⟩
  · exact chkSs_at l lv n
theorem then_zero {e n : Int} {f : Int → Int × Int} (h : (thenZ (e, n) f).1 = 0) : e = 0 := by
  unfold thenZ at h
  by_cases h1 : e ≠ 0
  · rw [if_pos h1] at h; exact h
  · simpa using h1
theorem chkCs_drop {l : List Ca} {j : Nat} {lv m : Int} (h : j < l.length) : chkCs (l.drop j) lv m = thenZ (chkSs l[j].body lv m) fun k => chkCs (l.drop (j + 1)) lv k := by
  rw [List.drop_eq_getElem_cons h, chkCs, chkCa_eq]
theorem csz_drop {l : List Ca} {j : Nat} (h : j < l.length) : csz (l.drop j) = l[j].sz + csz (l.drop (j + 1)) := by
  rw [List.drop_eq_getElem_cons h, csz]
/-- The array that says which fields count. -/
def Arr (W : World) (B : Nat) (k : Int) : Prop := ∀ i : Nat, i < 7 → W.cell? ⟨B, i, none⟩ = some (.bool (cB k i))
theorem Arr.only {W W' : World} {B b : Nat} {k : Int} (h : Arr W B k) (ho : OnlyB b W W') (hB : B < W.heap.size) (hb : B ≠ b) : Arr W' B k := fun i hi => (ho.cell hB hb).trans (h i hi)
theorem arr_new (w : World) (k : Int) : Arr (w.alloc (.cells #[.bool (cB k 0), .bool (cB k 1), .bool (cB k 2), .bool (cB k 3), .bool (cB k 4), .bool (cB k 5), .bool (cB k 6)] 109)) w.heap.size k := by
  intro i hi
  rw [World.cell?_alloc_at _ _ _ _ rfl]
  match i, hi with
  | 0, _ => rfl
  | 1, _ => rfl
  | 2, _ => rfl
  | 3, _ => rfl
  | 4, _ => rfl
  | 5, _ => rfl
  | 6, _ => rfl
/-- The look at statements, of fewer parts than k. -/
abbrev AllW (w0 : World) (b k : Nat) : Prop := ∀ (l : List St) (a : Option Addr) (c : Nat) (lv : Int) (w : World) (n e : Int), ssz l < k → Have w0 a c l → Below w0.heap.size w0 w → Wk w b n e → 0 ≤ lv → lv ≤ 64 → (e = 0 → lv ≤ 33) → 0 ≤ n → n + ssz l ≤ 1000000000 →
  Calls Tryz.prog 20 #[.pointer (some ⟨b, 0, none⟩), .slice a l.length c, .int .i64 lv] w fun r w' => r = .returned (.tuple #[]) ∧ Wk w' b (thenZ (e, n) fun m => chkSs l lv m).2 (thenZ (e, n) fun m => chkSs l lv m).1 ∧ OnlyB b w w'
abbrev StW (w0 : World) (b k : Nat) : Prop := ∀ (s : St) (lv : Int) (w : World) (n : Int), s.sz ≤ k → s.In w0 → Below w0.heap.size w0 w → Wk w b n 0 → 0 ≤ lv → lv ≤ 33 → 0 ≤ n → n + s.sz ≤ 1000000000 →
  Calls Tryz.prog 31 #[.pointer (some ⟨b, 0, none⟩), s.val, .int .i64 lv] w fun r w' => r = .returned (.tuple #[]) ∧ Wk w' b (chkT s lv n).2 (chkT s lv n).1 ∧ OnlyB b w w'
end Go.Proofs.YtkkcgkpbbngloaaGreatDoor

/- The document's own look at statements, one after the other. -/
namespace Go.Proofs.YtkkcgkpbbngloaaGreatDoor
open Go.RowKit Go.Sort

set_option maxRecDepth 100000 in
set_option maxHeartbeats 2000000 in
theorem wall_step (w0 : World) (b k : Nat) (hb : w0.heap.size ≤ b) (ih : StW w0 b k)
    (l : List St) (a : Option Addr) (c : Nat) (lv : Int) (w : World) (n e : Int) (hk : ssz l ≤ k) (hin : Have w0 a c l) (hB : Below w0.heap.size w0 w) (hw : Wk w b n e) (h0 : 0 ≤ lv) (_h1 : lv ≤ 64) (h2 : e = 0 → lv ≤ 33) (h3 : 0 ≤ n) (h4 : n + ssz l ≤ 1000000000) :
    Calls Tryz.prog 20 #[.pointer (some ⟨b, 0, none⟩), .slice a l.length c, .int .i64 lv] w fun r w' => r = .returned (.tuple #[]) ∧ Wk w' b (thenZ (e, n) fun m => chkSs l lv m).2 (thenZ (e, n) fun m => chkSs l lv m).1 ∧ OnlyB b w w' := by
  obtain ⟨⟨hl, hc, _, hrow⟩, hsub⟩ := hin
  have IH : Hid (StW w0 b k) := ih
  have HS : Hid (∀ x ∈ l, x.In w0) := hsub
  have HR : Hid (RowIn w0 a 14 (List.map St.cells l)) := hrow
  have HBW : Hid (Below w0.heap.size w0 w) := hB
  have HW : Hid (Wk w b n e) := hw
  have HE : Hid (e = 0 → lv ≤ 33) := h2
  have H4 : Hid (n + ssz l ≤ 1000000000) := h4
  have HK : Hid (ssz l ≤ k) := hk
  obtain ⟨P, HP⟩ : ∃ P, Hid ((thenZ (e, n) fun m => chkSs l lv m) = P) := ⟨_, rfl⟩
  rw [HP.out]
  clear ih hsub hrow hB hw h2 h4 hk
  go_enter Tryz.func20, Tryz.ntmps20
  go_wp2_with fail
  go_loopw [6] (fun t6 wr => ∃ (j : Nat) (ej nj : Int), j ≤ l.length ∧ t6 = .int .i64 j ∧ Wk wr b nj ej ∧ (thenZ (ej, nj) fun m => chkSs (l.drop j) lv m) = P ∧ (ej = 0 → lv ≤ 33) ∧ 0 ≤ nj ∧ nj + ssz (l.drop j) ≤ 1000000000 ∧ OnlyB b w wr) (fun t6 _ => l.length - (intOf t6).toNat)
  case atStart => exact ⟨0, e, n, Nat.zero_le _, rfl, HW.out, HP.out, HE.out, h3, H4.out, OnlyB.refl b w⟩
  case round =>
    obtain ⟨j, ej, nj, hj, rfl, hwk, hres, hlv, hn0, hn1, hon⟩ := hrel
    have k1 := hwk.cell1
    have HX : Hid (OnlyB b w wr ∧ Wk wr b nj ej) := ⟨hon, hwk⟩
    have HQ : Hid ((thenZ (ej, nj) fun m => chkSs (l.drop j) lv m) = P) := hres
    have HBR : Hid (Below w0.heap.size w0 wr) := OnlyB.on HBW.out hb hon
    have HN1 : Hid (nj + ssz (l.drop j) ≤ 1000000000) := hn1
    have HLV : Hid (ej = 0 → lv ≤ 33) := hlv
    clear hon hwk hres hn1 hlv
    by_cases hlt : j < l.length
    · by_cases hej : ej = 0
      · subst hej
        have hlv1 : lv ≤ 33 := HLV.out rfl
        obtain ⟨g, o, rfl, hcs⟩ := rowS_at (HR.out.below HBR.out) hlt
        have hli : (j : Int) < (l.length : Int) := by omega
        have HD : Hid (chkSs (l.drop j) lv nj = thenZ (chkT l[j] lv nj) fun m => chkSs (l.drop (j + 1)) lv m) := chkSs_drop hlt
        have HSD : Hid (ssz (l.drop j) = l[j].sz + ssz (l.drop (j + 1))) := ssz_drop hlt
        have HTA : Hid ((chkT l[j] lv nj).2 ≤ nj + l[j].sz ∧ nj ≤ (chkT l[j] lv nj).2) := (chk_at _).1 l[j] lv nj (Nat.le_refl _)
        have HCL : Hid (Calls Tryz.prog 31 #[.pointer (some ⟨b, 0, none⟩), l[j].val, .int .i64 lv] wr fun r w' => r = .returned (.tuple #[]) ∧ Wk w' b (chkT l[j] lv nj).2 (chkT l[j] lv nj).1 ∧ OnlyB b wr w') :=
          IH.out l[j] lv wr nj (Nat.le_trans (ssz_mem (List.getElem_mem hlt)) HK.out) (HS.out l[j] (List.getElem_mem hlt)) HBR.out HX.out.2 h0 hlv1 hn0 (by have := HSD.out; have := HN1.out; omega)
        generalize l[j] = y at *
        generalize chkT y lv nj = q at *
        unfold St.val at HCL
        have c0 : wr.cell? ⟨g, o + j * 14, none⟩ = some (.int .i64 y.kind) := by have := hcs 0 _ rfl; simpa only [← Nat.add_assoc, Nat.add_zero] using this
        have c1 : wr.cell? ⟨g, o + j * 14 + 1, none⟩ = some (.string y.name) := by have := hcs 1 _ rfl; simpa only [← Nat.add_assoc, Nat.add_zero] using this
        have c2 : wr.cell? ⟨g, o + j * 14 + 2, none⟩ = some (.int .i64 y.n) := by have := hcs 2 _ rfl; simpa only [← Nat.add_assoc, Nat.add_zero] using this
        have c3 : wr.cell? ⟨g, o + j * 14 + 3, none⟩ = some (.int .i64 y.a.kind) := by have := hcs 3 _ rfl; simpa only [← Nat.add_assoc, Nat.add_zero] using this
        have c4 : wr.cell? ⟨g, o + j * 14 + 4, none⟩ = some (.int .i64 y.a.n) := by have := hcs 4 _ rfl; simpa only [← Nat.add_assoc, Nat.add_zero] using this
        have c5 : wr.cell? ⟨g, o + j * 14 + 5, none⟩ = some (.string y.a.name) := by have := hcs 5 _ rfl; simpa only [← Nat.add_assoc, Nat.add_zero] using this
        have c6 : wr.cell? ⟨g, o + j * 14 + 6, none⟩ = some (.slice y.a.a y.a.args.length y.a.cap) := by have := hcs 6 _ rfl; simpa only [← Nat.add_assoc, Nat.add_zero] using this
        have c7 : wr.cell? ⟨g, o + j * 14 + 7, none⟩ = some (.int .i64 y.b.kind) := by have := hcs 7 _ rfl; simpa only [← Nat.add_assoc, Nat.add_zero] using this
        have c8 : wr.cell? ⟨g, o + j * 14 + 8, none⟩ = some (.int .i64 y.b.n) := by have := hcs 8 _ rfl; simpa only [← Nat.add_assoc, Nat.add_zero] using this
        have c9 : wr.cell? ⟨g, o + j * 14 + 9, none⟩ = some (.string y.b.name) := by have := hcs 9 _ rfl; simpa only [← Nat.add_assoc, Nat.add_zero] using this
        have c10 : wr.cell? ⟨g, o + j * 14 + 10, none⟩ = some (.slice y.b.a y.b.args.length y.b.cap) := by have := hcs 10 _ rfl; simpa only [← Nat.add_assoc, Nat.add_zero] using this
        have c11 : wr.cell? ⟨g, o + j * 14 + 11, none⟩ = some (.slice y.ba y.body.length y.bc) := by have := hcs 11 _ rfl; simpa only [← Nat.add_assoc, Nat.add_zero] using this
        have c12 : wr.cell? ⟨g, o + j * 14 + 12, none⟩ = some (.slice y.ea y.els.length y.ec) := by have := hcs 12 _ rfl; simpa only [← Nat.add_assoc, Nat.add_zero] using this
        have c13 : wr.cell? ⟨g, o + j * 14 + 13, none⟩ = some (.slice y.ca y.cases.length y.cc) := by have := hcs 13 _ rfl; simpa only [← Nat.add_assoc, Nat.add_zero] using this
        clear hcs
        go_wp2_with fail
        refine HCL.out.mono ?_
        rintro r w3 ⟨rfl, hw3, ho3⟩
        have HW3 : Hid (Wk w3 b q.2 q.1 ∧ OnlyB b wr w3) := ⟨hw3, ho3⟩
        clear hw3 ho3 k1 c0 c1 c2 c3 c4 c5 c6 c7 c8 c9 c10 c11 c12 c13
        go_wp2_with fail
        go_roundw
        case rel =>
          refine ⟨j + 1, q.1, q.2, by omega, by go_num, HW3.out.1, ?_, fun _ => hlv1, by have := HTA.out.2; omega, by have := HTA.out.1; have := HSD.out; have := HN1.out; omega, HX.out.1.trans HW3.out.2⟩
          have hq := HQ.out
          rw [show (thenZ ((0 : Int), nj) fun m => chkSs (l.drop j) lv m) = chkSs (l.drop j) lv nj from rfl, HD.out] at hq
          exact hq
        case measure => simp [intOf]; omega
      · have hne : (ej == 0) = false := beq_no hej
        have hli : (j : Int) < (l.length : Int) := by omega
        have HF : Hid (P = (ej, nj)) := by
          show _ = _; rw [← HQ.out]; unfold thenZ; rw [if_pos hej]
        clear hej
        go_wp2_with fail
        go_end0
        exact ⟨rfl, by rw [HF.out]; exact HX.out.2, HX.out.1⟩
    · have hli : ¬ (j : Int) < (l.length : Int) := by omega
      have HF : Hid (P = (ej, nj)) := by
        show _ = _; rw [← HQ.out, List.drop_eq_nil_of_le (by omega)]; unfold thenZ; split
        · rfl
        · rename_i h; have h : ej = 0 := by simpa using h
          rw [h]; simp only [chkSs]
      go_wp2_with fail
      go_end0
      exact ⟨rfl, by rw [HF.out]; exact HX.out.2, HX.out.1⟩
end Go.Proofs.YtkkcgkpbbngloaaGreatDoor

/- The document's own look at a statement. -/
namespace Go.Proofs.YtkkcgkpbbngloaaGreatDoor
open Go.RowKit Go.Sort

/-- Where the look at a statement stands: its numbers, the statement's box, the fields that count. -/
def StQ (w : World) (b B : Nat) (s : St) (n e : Int) (wx : World) : Prop := Wk wx b n e ∧ BoxS wx w.heap.size s ∧ Arr wx B s.kind ∧ OnlyB b w wx ∧ w.heap.size < wx.heap.size ∧ B < wx.heap.size ∧ b ≠ w.heap.size ∧ B ≠ b
theorem StQ.on {w : World} {b B : Nat} {s : St} {n e n' e' : Int} {wx wy : World} (h : StQ w b B s n e wx) (ho : OnlyB b wx wy) (hw : Wk wy b n' e') : StQ w b B s n' e' wy := by
  obtain ⟨h1, h2, h3, h4, h5, h6, h7, h8⟩ := h
  have := ho.size
  exact ⟨hw, h2.only ho h5 (Ne.symm h7), h3.only ho h6 h8, h4.trans ho, by omega, by omega, h7, h8⟩
theorem StQ.stay {w : World} {b B : Nat} {s : St} {n e : Int} {wx wy : World} (h : StQ w b B s n e wx) (ho : Below wx.heap.size wx wy) : StQ w b B s n e wy := h.on (OnlyB.of_below ho) (h.1.stay ho)
theorem StQ.set {w : World} {b B : Nat} {s : St} {n e : Int} {wx : World} (h : StQ w b B s n e wx) (k : Int) : StQ w b B s n k (wx.setCell ⟨b, 1, none⟩ (.int .i64 k)) := h.on ((OnlyB.refl b wx).set 1 _) (h.1.set1 k)

set_option maxRecDepth 100000 in
set_option maxHeartbeats 2000000 in
theorem wstmt_step (w0 : World) (b k : Nat) (hb : w0.heap.size ≤ b) (ih : AllW w0 b k) (s : St) (lv : Int) (w : World) (n : Int) (hk : s.sz ≤ k) (hin : s.In w0) (hB : Below w0.heap.size w0 w) (hw : Wk w b n 0) (h0 : 0 ≤ lv) (h1 : lv ≤ 33) (h3 : 0 ≤ n) (h4 : n + s.sz ≤ 1000000000) :
    Calls Tryz.prog 31 #[.pointer (some ⟨b, 0, none⟩), s.val, .int .i64 lv] w fun r w' => r = .returned (.tuple #[]) ∧ Wk w' b (chkT s lv n).2 (chkT s lv n).1 ∧ OnlyB b w w' := by
  have IH : Hid (AllW w0 b k) := ih
  have HIN := St.in_iff.1 hin
  have HA : Hid (s.a.In w0) := HIN.2.2.2.1
  have HBB : Hid (s.b.In w0) := HIN.2.2.2.2.1
  have HBD : Hid (Have w0 s.ba s.bc s.body) := HIN.2.2.2.2.2.1
  have HEL : Hid (Have w0 s.ea s.ec s.els) := HIN.2.2.2.2.2.2.1
  have HCA : Hid (LiesC w0 s.ca s.cc s.cases) := HIN.2.2.2.2.2.2.2.1
  have HCI : Hid (∀ x ∈ s.cases, x.In w0) := HIN.2.2.2.2.2.2.2.2
  have HSZ : Hid (s.sz ≤ k ∧ n + s.sz ≤ 1000000000) := ⟨hk, h4⟩
  have HC : Hid (∀ w, Calls Tryz.prog 56 #[.int .i64 s.kind] w fun e w' => e = .returned (.agg #[.bool (cB s.kind 0), .bool (cB s.kind 1), .bool (cB s.kind 2), .bool (cB s.kind 3), .bool (cB s.kind 4), .bool (cB s.kind 5), .bool (cB s.kind 6)]) ∧ Below w.heap.size w w') := fun w => counts_any s.kind w
  have HF : Hid (∀ w, Calls Tryz.prog 57 #[s.val] w fun e w' => e = .returned (.bool (okS s)) ∧ Below w.heap.size w w') := fun w => formed_any s w
  have HN : Hid (∀ w, Calls Tryz.prog 30 #[.string s.name] w fun e w' => e = .returned (.bool (nameZ s.name)) ∧ Below w.heap.size w w') := fun w => rName_any s.name w
  have HL : Hid (∀ w', Below w0.heap.size w0 w' → Calls Tryz.prog 58 #[.slice s.ca s.cases.length s.cc] w' fun e w'' => e = .returned (.bool (leastC s.cases)) ∧ Below w'.heap.size w' w'') := fun w' hb => lowest_any s.cases s.ca s.cc w' (HCA.out.below hb)
  have hwk := hw.stay ((Below.refl _ w).alloc (Nat.le_refl _) (.cells #[.int .i64 s.kind, .string s.name, .int .i64 s.n, .int .i64 s.a.kind, .int .i64 s.a.n, .string s.a.name, .slice s.a.a s.a.args.length s.a.cap, .int .i64 s.b.kind, .int .i64 s.b.n, .string s.b.name, .slice s.b.a s.b.args.length s.b.cap, .slice s.ba s.body.length s.bc, .slice s.ea s.els.length s.ec, .slice s.ca s.cases.length s.cc] 44))
  have hob : OnlyB b w (w.alloc (.cells #[.int .i64 s.kind, .string s.name, .int .i64 s.n, .int .i64 s.a.kind, .int .i64 s.a.n, .string s.a.name, .slice s.a.a s.a.args.length s.a.cap, .int .i64 s.b.kind, .int .i64 s.b.n, .string s.b.name, .slice s.b.a s.b.args.length s.b.cap, .slice s.ba s.body.length s.bc, .slice s.ea s.els.length s.ec, .slice s.ca s.cases.length s.cc] 44)) := (OnlyB.refl b w).alloc _
  have hbx := boxS_new w s
  have hbs : w.heap.size < (w.alloc (.cells #[.int .i64 s.kind, .string s.name, .int .i64 s.n, .int .i64 s.a.kind, .int .i64 s.a.n, .string s.a.name, .slice s.a.a s.a.args.length s.a.cap, .int .i64 s.b.kind, .int .i64 s.b.n, .string s.b.name, .slice s.b.a s.b.args.length s.b.cap, .slice s.ba s.body.length s.bc, .slice s.ea s.els.length s.ec, .slice s.ca s.cases.length s.cc] 44)).heap.size := by simp
  have hbw : b ≠ w.heap.size := by have := hw.lt; omega
  have hblt := hw.lt
  have HBW : Hid (Below w0.heap.size w0 w) := hB
  have hwr : IntKind.i64.wrap (n + 1) = n + 1 := by rw [IntKind.wrap_i64]; omega
  have HT : Hid (chkT s lv n = thenZ (thenZ (thenZ (afB s lv (afA s lv (ownS s lv)), n + 1) fun k => chkSs s.body (lv + 1) k) fun k => chkCs s.cases (lv + 1) k) fun k => chkSs s.els (lv + 1) k) := by
    show _ = _; rw [chkS_af]; exact chkT_then s lv n
  generalize chkT s lv n = res at HT ⊢
  clear ih hk hin hB hw HIN h4
  unfold St.val at HF ⊢
  go_enter Tryz.func31, Tryz.ntmps31
  go_upto_region 1 with fail
  generalize w.alloc (.cells #[.int .i64 s.kind, .string s.name, .int .i64 s.n, .int .i64 s.a.kind, .int .i64 s.a.n, .string s.a.name, .slice s.a.a s.a.args.length s.a.cap, .int .i64 s.b.kind, .int .i64 s.b.n, .string s.b.name, .slice s.b.a s.b.args.length s.b.cap, .slice s.ba s.body.length s.bc, .slice s.ea s.els.length s.ec, .slice s.ca s.cases.length s.cc] 44) = W1 at hob hbx hbs hwk ⊢
  have k0 := hwk.cell0
  have f0 := hwk.frozen 0
  go_upto_region 2 with fail
  have hw2 : Wk (W1.setCell ⟨b, 0, none⟩ (.int .i64 (n + 1))) b (n + 1) 0 := hwk.set0 (n + 1)
  have ho2 : OnlyB b W1 (W1.setCell ⟨b, 0, none⟩ (.int .i64 (n + 1))) := (OnlyB.refl b W1).set 0 _
  generalize W1.setCell ⟨b, 0, none⟩ (.int .i64 (n + 1)) = W2 at hw2 ho2 ⊢
  have hx2 : BoxS W2 w.heap.size s := hbx.only ho2 hbs (Ne.symm hbw)
  have hs2 : w.heap.size < W2.heap.size := by have := ho2.size; omega
  have hob2 := hob.trans ho2
  clear k0 f0 hwk ho2 hbx hbs hob hwr
  have c0 := hx2 0 _ rfl
  go_upto_block 0 with (go_at_call 56; refine (HC.out _).mono ?_; rintro r w3 ⟨rfl, hb3⟩)
  have HQ : StQ w b w3.heap.size s (n + 1) 0 (w3.alloc (.cells #[.bool (cB s.kind 0), .bool (cB s.kind 1), .bool (cB s.kind 2), .bool (cB s.kind 3), .bool (cB s.kind 4), .bool (cB s.kind 5), .bool (cB s.kind 6)] 109)) := by
    have hb4 : Below w3.heap.size w3 (w3.alloc (.cells #[.bool (cB s.kind 0), .bool (cB s.kind 1), .bool (cB s.kind 2), .bool (cB s.kind 3), .bool (cB s.kind 4), .bool (cB s.kind 5), .bool (cB s.kind 6)] 109)) := (Below.refl _ w3).alloc (Nat.le_refl _) _
    have e3 := hb3.size
    have hb5 : Below W2.heap.size W2 (w3.alloc (.cells #[.bool (cB s.kind 0), .bool (cB s.kind 1), .bool (cB s.kind 2), .bool (cB s.kind 3), .bool (cB s.kind 4), .bool (cB s.kind 5), .bool (cB s.kind 6)] 109)) := hb3.trans (hb4.mono e3)
    have := hw2.lt
    exact ⟨hw2.stay hb5, hx2.below hb5 hs2, arr_new w3 s.kind, hob2.trans (OnlyB.of_below hb5), by simp; omega, by simp, hbw, by omega⟩
  generalize w3.alloc (.cells #[.bool (cB s.kind 0), .bool (cB s.kind 1), .bool (cB s.kind 2), .bool (cB s.kind 3), .bool (cB s.kind 4), .bool (cB s.kind 5), .bool (cB s.kind 6)] 109) = W4 at HQ ⊢
  generalize w3.heap.size = B at HQ ⊢
  generalize Value.agg #[.bool (cB s.kind 0), .bool (cB s.kind 1), .bool (cB s.kind 2), .bool (cB s.kind 3), .bool (cB s.kind 4), .bool (cB s.kind 5), .bool (cB s.kind 6)] = V17
  clear hw2 hx2 hs2 hob2 hb3 c0 W1 HC
  have HQ4 : Hid (StQ w b B s (n + 1) 0 W4) := HQ
  clear HQ
  have HON : Hid (∀ {n e wx}, StQ w b B s n e wx → Below w0.heap.size w0 wx) := fun h => OnlyB.on HBW.out hb h.2.2.2.1
  go_cut [] from 18 to 67 (fun wx => StQ w b B s (n + 1) (ownS s lv) wx)
  case first =>
    by_cases hlv : 32 < lv
    · have HO : Hid (ownS s lv = 20) := by show _ = _; unfold ownS; simp [hlv]
      have f1 := HQ4.out.1.frozen 1
      have k1 := HQ4.out.1.cell1
      go_wp2_with fail
      go_meet
      case rel => rw [HO.out]; exact HQ4.out.set 20
    · have HO : Hid (ownS s lv = selfS s) := by show _ = _; unfold ownS; simp [hlv]
      rw [selfS_ref] at HO
      have c0 := HQ4.out.2.1 0 _ rfl
      have c1 := HQ4.out.2.1 1 _ rfl
      have c2 := HQ4.out.2.1 2 _ rfl
      have c3 := HQ4.out.2.1 3 _ rfl
      have c4 := HQ4.out.2.1 4 _ rfl
      have c5 := HQ4.out.2.1 5 _ rfl
      have c6 := HQ4.out.2.1 6 _ rfl
      have c7 := HQ4.out.2.1 7 _ rfl
      have c8 := HQ4.out.2.1 8 _ rfl
      have c9 := HQ4.out.2.1 9 _ rfl
      have c10 := HQ4.out.2.1 10 _ rfl
      have c11 := HQ4.out.2.1 11 _ rfl
      have c12 := HQ4.out.2.1 12 _ rfl
      have c13 := HQ4.out.2.1 13 _ rfl
      go_wp2_with fail
      refine (HF.out _).mono ?_
      rintro r w5 ⟨rfl, hb5⟩
      have HQ5 : Hid (StQ w b B s (n + 1) 0 w5) := HQ4.out.stay hb5
      clear hb5 c0 c1 c2 c3 c4 c5 c6 c7 c8 c9 c10 c11 c12 c13 HF
      cases hf : okS s
      · have HV : Hid (ownS s lv = 5) := by show _ = _; rw [HO.out, hf]; rfl
        have f1 := HQ5.out.1.frozen 1
        have k1 := HQ5.out.1.cell1
        go_wp2_with fail
        go_meet
        case rel => rw [HV.out]; exact HQ5.out.set 5
      · go_upto_region 7 with fail
        go_cut [31] from 32 to 39 (fun t wx => t = .bool (cB s.kind 0 && !nameZ s.name) ∧ StQ w b B s (n + 1) 0 wx)
        case first =>
          have d0 := HQ5.out.2.2.1 0 (by omega)
          have c1 := HQ5.out.2.1 1 _ rfl
          rcases Bool.eq_false_or_eq_true (cB s.kind 0) with hc0 | hc0
          · have HC0 : Hid (cB s.kind 0 = true) := hc0
            rw [hc0] at d0
            clear hc0
            go_wp2_with fail
            refine (HN.out _).mono ?_
            rintro r w6 ⟨rfl, hb6⟩
            have HQ6 : Hid (StQ w b B s (n + 1) 0 w6) := HQ5.out.stay hb6
            clear hb6 d0 c1
            go_wp2_with fail
            go_meet
            case rel => exact ⟨by rw [HC0.out]; rfl, HQ6.out⟩
          · have HC0 : Hid (cB s.kind 0 = false) := hc0
            rw [hc0] at d0
            clear hc0
            go_wp2_with fail
            go_meet
            case rel => exact ⟨by rw [HC0.out]; rfl, HQ5.out⟩
        case rest =>
          obtain ⟨rfl, hq⟩ := hcut
          have HQ6 : Hid (StQ w b B s (n + 1) 0 wc) := hq
          clear hq
          cases hx : (cB s.kind 0 && !nameZ s.name)
          · go_upto_region 9 with fail
            go_cut [43] from 44 to 51 (fun t wx => t = .bool (decide (s.n < 0) || leastC s.cases) ∧ StQ w b B s (n + 1) 0 wx)
            case first =>
              have c2 := HQ6.out.2.1 2 _ rfl
              have c13 := HQ6.out.2.1 13 _ rfl
              by_cases hn : s.n < 0
              · have HD : Hid (decide (s.n < 0) = true) := decide_eq_true hn
                go_wp2_with fail
                go_meet
                case rel => exact ⟨by rw [HD.out]; rfl, HQ6.out⟩
              · have HD : Hid (decide (s.n < 0) = false) := decide_eq_false hn
                go_wp2_with fail
                refine (HL.out _ (HON.out HQ6.out)).mono ?_
                rintro r w7 ⟨rfl, hb7⟩
                have HQ7 : Hid (StQ w b B s (n + 1) 0 w7) := HQ6.out.stay hb7
                clear hb7 c2 c13
                go_wp2_with fail
                go_meet
                case rel => exact ⟨by rw [HD.out]; rfl, HQ7.out⟩
            case rest =>
              obtain ⟨rfl, hq⟩ := hcut
              have HQ7 : Hid (StQ w b B s (n + 1) 0 _) := hq
              clear hq
              cases hy : (decide (s.n < 0) || leastC s.cases)
              · have c0 := HQ7.out.2.1 0 _ rfl
                have c3 := HQ7.out.2.1 3 _ rfl
                cases h10 : (s.kind == 10)
                · have HV : Hid (ownS s lv = 0) := by show _ = _; rw [HO.out, hf, hx, hy, h10]; rfl
                  go_wp2_with fail
                  go_meet
                  case rel => rw [HV.out]; exact HQ7.out
                · cases ha4 : (s.a.kind != 4)
                  · have HV : Hid (ownS s lv = 0) := by show _ = _; rw [HO.out, hf, hx, hy, h10, ha4]; rfl
                    go_wp2_with fail
                    go_meet
                    case rel => rw [HV.out]; exact HQ7.out
                  · have HV : Hid (ownS s lv = 5) := by show _ = _; rw [HO.out, hf, hx, hy, h10, ha4]; rfl
                    have f1 := HQ7.out.1.frozen 1
                    have k1 := HQ7.out.1.cell1
                    go_wp2_with fail
                    go_meet
                    case rel => rw [HV.out]; exact HQ7.out.set 5
              · have HV : Hid (ownS s lv = 1) := by show _ = _; rw [HO.out, hf, hx, hy]; rfl
                have f1 := HQ7.out.1.frozen 1
                have k1 := HQ7.out.1.cell1
                go_wp2_with fail
                go_meet
                case rel => rw [HV.out]; exact HQ7.out.set 1
          · have HV : Hid (ownS s lv = 8) := by show _ = _; rw [HO.out, hf, hx]; rfl
            have f1 := HQ6.out.1.frozen 1
            have k1 := HQ6.out.1.cell1
            go_wp2_with fail
            go_meet
            case rel => rw [HV.out]; exact HQ6.out.set 8
  case rest =>
    have HQ5 : Hid (StQ w b B s (n + 1) (ownS s lv) wc) := hcut
    have HLV : Hid (ownS s lv = 0 → lv ≤ 32) := fun h => ownS_lv h
    generalize ownS s lv = e1 at HT HQ5 HLV
    clear hcut HF HN HL HQ4 W4
    have d2 := HQ5.out.2.2.1 2 (by omega)
    go_upto_if 69 with fail
    go_cut [69] from 70 to 75 (fun _ wx => StQ w b B s (n + 1) (afA s lv e1) wx)
    case first =>
      clear d2
      have c3 := HQ5.out.2.1 3 _ rfl
      have c4 := HQ5.out.2.1 4 _ rfl
      have c5 := HQ5.out.2.1 5 _ rfl
      have c6 := HQ5.out.2.1 6 _ rfl
      rcases Bool.eq_false_or_eq_true (cB s.kind 2) with hc | hc
      · have HO : Hid (afA s lv e1 = if e1 ≠ 0 then e1 else chkE s.a (lv + 1)) := by show _ = _; unfold afA; rw [if_pos hc]
        have HX : Hid (Calls Tryz.prog 59 #[.pointer (some ⟨b, 0, none⟩), s.a.val, .int .i64 (lv + 1)] wc fun r w' => r = .returned (.tuple #[]) ∧ Wk w' b (n + 1) (if e1 ≠ 0 then e1 else chkE s.a (lv + 1)) ∧ OnlyB b wc w') := wexpr_any w0 b hb s.a (lv + 1) wc (n + 1) e1 HA.out (HON.out HQ5.out) HQ5.out.1 (by omega) (by omega)
        rw [← HO.out] at HX
        unfold Ex.val at HX
        rw [hc]
        clear hc
        go_wp2_with fail
        refine HX.out.mono ?_
        rintro r w6 ⟨rfl, hw6, ho6⟩
        have HQ6 : Hid (StQ w b B s (n + 1) (afA s lv e1) w6) := HQ5.out.on ho6 hw6
        clear hw6 ho6 c3 c4 c5 c6
        go_wp2_with fail
        go_meet
        case rel => exact HQ6.out
      · have HO : Hid (afA s lv e1 = e1) := by show _ = _; unfold afA; simp [hc]
        rw [hc]
        clear hc
        go_wp2_with fail
        go_meet
        case rel => rw [HO.out]; exact HQ5.out
    case rest =>
      clear d2
      have HQ6 : Hid (StQ w b B s (n + 1) (afA s lv e1) wc) := hcut
      have HLV2 : Hid (afA s lv e1 = 0 → lv ≤ 32) := fun h => HLV.out (afA_lv h)
      generalize afA s lv e1 = e2 at HT HQ6 HLV2
      clear hcut HQ5 HLV
      have d2 := HQ6.out.2.2.1 3 (by omega)
      go_upto_if 77 with fail
      go_cut [77] from 78 to 83 (fun _ wx => StQ w b B s (n + 1) (afB s lv e2) wx)
      case first =>
        clear d2
        have c3 := HQ6.out.2.1 7 _ rfl
        have c4 := HQ6.out.2.1 8 _ rfl
        have c5 := HQ6.out.2.1 9 _ rfl
        have c6 := HQ6.out.2.1 10 _ rfl
        rcases Bool.eq_false_or_eq_true (cB s.kind 3) with hc | hc
        · have HO : Hid (afB s lv e2 = if e2 ≠ 0 then e2 else chkE s.b (lv + 1)) := by show _ = _; unfold afB; rw [if_pos hc]
          have HX : Hid (Calls Tryz.prog 59 #[.pointer (some ⟨b, 0, none⟩), s.b.val, .int .i64 (lv + 1)] _ fun r w' => r = .returned (.tuple #[]) ∧ Wk w' b (n + 1) (if e2 ≠ 0 then e2 else chkE s.b (lv + 1)) ∧ OnlyB b _ w') := wexpr_any w0 b hb s.b (lv + 1) _ (n + 1) e2 HBB.out (HON.out HQ6.out) HQ6.out.1 (by omega) (by omega)
          rw [← HO.out] at HX
          unfold Ex.val at HX
          rw [hc]
          clear hc
          go_wp2_with fail
          refine HX.out.mono ?_
          rintro r w6 ⟨rfl, hw6, ho6⟩
          have HQ7 : Hid (StQ w b B s (n + 1) (afB s lv e2) w6) := HQ6.out.on ho6 hw6
          clear hw6 ho6 c3 c4 c5 c6
          go_wp2_with fail
          go_meet
          case rel => exact HQ7.out
        · have HO : Hid (afB s lv e2 = e2) := by show _ = _; unfold afB; simp [hc]
          rw [hc]
          clear hc
          go_wp2_with fail
          go_meet
          case rel => rw [HO.out]; exact HQ6.out
      case rest =>
        clear d2
        have HQ7 : Hid (StQ w b B s (n + 1) (afB s lv e2) wc) := hcut
        have HLV3 : Hid (afB s lv e2 = 0 → lv ≤ 32) := fun h => HLV2.out (afB_lv h)
        generalize afB s lv e2 = e3 at HT HQ7 HLV3
        clear hcut HQ6 HLV2
        have HSE : Hid (s.sz = ssz s.body + ssz s.els + csz s.cases + 1) := s.sz_eq
        have HXX : Hid (Calls Tryz.prog 20 #[.pointer (some ⟨b, 0, none⟩), .slice s.ba s.body.length s.bc, .int .i64 (lv + 1)] wc fun r w' => r = .returned (.tuple #[]) ∧ Wk w' b (thenZ (e3, n + 1) fun k => chkSs s.body (lv + 1) k).2 (thenZ (e3, n + 1) fun k => chkSs s.body (lv + 1) k).1 ∧ OnlyB b wc w') := IH.out s.body s.ba s.bc (lv + 1) wc (n + 1) e3 (by have := HSE.out; have := HSZ.out.1; omega) HBD.out (HON.out HQ7.out) HQ7.out.1 (by omega) (by omega) (fun h => by have := HLV3.out h; omega) (by omega) (by have := HSE.out; have := HSZ.out.2; omega)
        have HA1 : Hid ((thenZ (e3, n + 1) fun k => chkSs s.body (lv + 1) k).2 ≤ n + 1 + ssz s.body ∧ n + 1 ≤ (thenZ (e3, n + 1) fun k => chkSs s.body (lv + 1) k).2) := then_at e3 (n + 1) s.body (lv + 1)
        have HZ1 : Hid ((thenZ (e3, n + 1) fun k => chkSs s.body (lv + 1) k).1 = 0 → lv ≤ 32) := fun h => HLV3.out (then_zero h)
        generalize (thenZ (e3, n + 1) fun k => chkSs s.body (lv + 1) k) = p at HT HXX HA1 HZ1
        clear HLV3
        have c11 := HQ7.out.2.1 11 _ rfl
        go_wp2_with fail
        refine HXX.out.mono ?_
        rintro r w8 ⟨rfl, hw8, ho8⟩
        have HQ8 : Hid (StQ w b B s p.2 p.1 w8) := HQ7.out.on ho8 hw8
        clear HXX hw8 ho8 HQ7 c11
        obtain ⟨P, HP⟩ : ∃ P, Hid ((thenZ p fun k => chkCs s.cases (lv + 1) k) = P) := ⟨_, rfl⟩
        rw [HP.out] at HT
        go_wp2_with fail
        go_loopw [7] (fun t7 wr => ∃ (j : Nat) (ej nj : Int), j ≤ s.cases.length ∧ t7 = .int .i64 j ∧ StQ w b B s nj ej wr ∧ (thenZ (ej, nj) fun m => chkCs (s.cases.drop j) (lv + 1) m) = P ∧ (ej = 0 → lv ≤ 32) ∧ 0 ≤ nj ∧ nj + csz (s.cases.drop j) + ssz s.els ≤ 1000000000) (fun t7 _ => s.cases.length - (intOf t7).toNat)
        case atStart => exact ⟨0, p.1, p.2, Nat.zero_le _, rfl, HQ8.out, HP.out, HZ1.out, by have := HA1.out.2; omega, by have := HA1.out.1; have := HSE.out; have := HSZ.out.2; simp only [List.drop_zero]; omega⟩
        case round =>
          obtain ⟨j, ej, nj, hj, rfl, hq, hres, hlv, hn0, hn1⟩ := hrel
          have HQ : Hid (StQ w b B s nj ej wr) := hq
          have HRS : Hid ((thenZ (ej, nj) fun m => chkCs (s.cases.drop j) (lv + 1) m) = P) := hres
          have HLV : Hid (ej = 0 → lv ≤ 32) := hlv
          have HN1 : Hid (nj + csz (s.cases.drop j) + ssz s.els ≤ 1000000000) := hn1
          have c13 := hq.2.1 13 _ rfl
          have c12 := hq.2.1 12 _ rfl
          clear hq hres hlv hn1 HQ8 HP HZ1 HA1
          by_cases hlt : j < s.cases.length
          · have hli : (j : Int) < (s.cases.length : Int) := by omega
            obtain ⟨g, o, hca, d0, d1⟩ := rowC_at (HCA.out.2.2.2.below (HON.out HQ.out)) hlt
            rw [hca] at c13
            have hjc : s.cases.length ≤ s.cc := HCA.out.1
            have hjd := HCA.out.2.1
            clear hca
            have HCS : Hid (csz (s.cases.drop j) = s.cases[j].sz + csz (s.cases.drop (j + 1))) := csz_drop hlt
            have HCZ : Hid (s.cases[j].sz = ssz s.cases[j].body + 1) := s.cases[j].sz_eq
            have HCM : Hid (s.cases[j].sz ≤ csz s.cases) := csz_mem (List.getElem_mem hlt)
            have HCD : Hid (chkCs (s.cases.drop j) (lv + 1) = fun m => thenZ (chkSs s.cases[j].body (lv + 1) m) fun k => chkCs (s.cases.drop (j + 1)) (lv + 1) k) := funext fun m => chkCs_drop hlt
            have HYI : Hid (Have w0 s.cases[j].ba s.cases[j].bc s.cases[j].body) := (Ca.in_iff.1 (HCI.out _ (List.getElem_mem hlt))).2
            generalize s.cases[j] = y at *
            have HXX : Hid (Calls Tryz.prog 20 #[.pointer (some ⟨b, 0, none⟩), .slice y.ba y.body.length y.bc, .int .i64 (lv + 1)] wr fun r w' => r = .returned (.tuple #[]) ∧ Wk w' b (thenZ (ej, nj) fun k => chkSs y.body (lv + 1) k).2 (thenZ (ej, nj) fun k => chkSs y.body (lv + 1) k).1 ∧ OnlyB b wr w') := IH.out y.body y.ba y.bc (lv + 1) wr nj ej (by have := HSE.out; have := HSZ.out.1; have := HCZ.out; have := HCM.out; omega) HYI.out (HON.out HQ.out) HQ.out.1 (by omega) (by omega) (fun h => by have := HLV.out h; omega) hn0 (by have := HN1.out; have := HCZ.out; have := HCS.out; omega)
            have HA1 : Hid ((thenZ (ej, nj) fun k => chkSs y.body (lv + 1) k).2 ≤ nj + ssz y.body ∧ nj ≤ (thenZ (ej, nj) fun k => chkSs y.body (lv + 1) k).2) := then_at ej nj y.body (lv + 1)
            have HZ1 : Hid ((thenZ (ej, nj) fun k => chkSs y.body (lv + 1) k).1 = 0 → lv ≤ 32) := fun h => HLV.out (then_zero h)
            have HPP : Hid ((thenZ (thenZ (ej, nj) fun k => chkSs y.body (lv + 1) k) fun k => chkCs (s.cases.drop (j + 1)) (lv + 1) k) = P) := by
              show _ = _; rw [thenZ_assoc, ← HRS.out, HCD.out]
            generalize (thenZ (ej, nj) fun k => chkSs y.body (lv + 1) k) = q at HXX HA1 HZ1 HPP
            clear HCD
            go_wp2_with fail
            refine HXX.out.mono ?_
            rintro r w9 ⟨rfl, hw9, ho9⟩
            have HQ9 : Hid (StQ w b B s q.2 q.1 w9) := HQ.out.on ho9 hw9
            clear HXX hw9 ho9 c12 c13 d0 d1
            go_wp2_with fail
            go_roundw
            case rel => exact ⟨j + 1, q.1, q.2, by omega, by go_num, HQ9.out, HPP.out, HZ1.out, by have := HA1.out.2; omega, by have := HA1.out.1; have := HN1.out; have := HCS.out; have := HCZ.out; omega⟩
            case measure => simp [intOf]; omega
          · have hli : ¬ (j : Int) < (s.cases.length : Int) := by omega
            have HF : Hid (P = (ej, nj)) := by
              show _ = _; rw [← HRS.out, List.drop_eq_nil_of_le (by omega)]; unfold thenZ; split
              · rfl
              · rename_i h; have h : ej = 0 := by simpa using h
                rw [h]; simp only [chkCs]
            have HXX : Hid (Calls Tryz.prog 20 #[.pointer (some ⟨b, 0, none⟩), .slice s.ea s.els.length s.ec, .int .i64 (lv + 1)] wr fun r w' => r = .returned (.tuple #[]) ∧ Wk w' b (thenZ (ej, nj) fun k => chkSs s.els (lv + 1) k).2 (thenZ (ej, nj) fun k => chkSs s.els (lv + 1) k).1 ∧ OnlyB b wr w') := IH.out s.els s.ea s.ec (lv + 1) wr nj ej (by have := HSE.out; have := HSZ.out.1; omega) HEL.out (HON.out HQ.out) HQ.out.1 (by omega) (by omega) (fun h => by have := HLV.out h; omega) hn0 (by have := HN1.out; omega)
            rw [HF.out] at HT
            rw [← HT.out] at HXX
            clear HT
            go_wp2_with fail
            refine HXX.out.mono ?_
            rintro r w9 ⟨rfl, hw9, ho9⟩
            have HQ9 : Hid (Wk w9 b res.2 res.1 ∧ OnlyB b w w9) := ⟨hw9, HQ.out.2.2.2.1.trans ho9⟩
            clear HXX hw9 ho9 c12 c13
            go_wp2_with fail
            go_end0
            exact ⟨rfl, HQ9.out.1, HQ9.out.2⟩
end Go.Proofs.YtkkcgkpbbngloaaGreatDoor

/- The document's own look at the statements of a function. -/
namespace Go.Proofs.YtkkcgkpbbngloaaGreatDoor
open Go.RowKit Go.Sort

theorem wall_k (w0 : World) (b : Nat) (hb : w0.heap.size ≤ b) (k : Nat) : AllW w0 b (k + 1) ∧ StW w0 b k := by
  induction k with
  | zero =>
    have h : StW w0 b 0 := fun s lv w n hk => by have := s.sz_eq; omega
    exact ⟨fun l a c lv w n e hk hin hB hw h0 h1 h2 h3 h4 => wall_step w0 b 0 hb h l a c lv w n e (by omega) hin hB hw h0 h1 h2 h3 h4, h⟩
  | succ k ih =>
    have h : StW w0 b (k + 1) := fun s lv w n hk hin hB hw h0 h1 h3 h4 => wstmt_step w0 b (k + 1) hb ih.1 s lv w n hk hin hB hw h0 h1 h3 h4
    exact ⟨fun l a c lv w n e hk hin hB hw h0 h1 h2 h3 h4 => wall_step w0 b (k + 1) hb h l a c lv w n e (by omega) hin hB hw h0 h1 h2 h3 h4, h⟩
theorem wall_any (w0 : World) (b : Nat) (hb : w0.heap.size ≤ b) (l : List St) (a : Option Addr) (c : Nat) (w : World) (hin : Have w0 a c l) (hB : Below w0.heap.size w0 w) (hw : Wk w b 0 0) (h4 : ssz l ≤ 1000000000) :
    Calls Tryz.prog 20 #[.pointer (some ⟨b, 0, none⟩), .slice a l.length c, .int .i64 1] w fun r w' => r = .returned (.tuple #[]) ∧ Wk w' b (chkSs l 1 0).2 (chkSs l 1 0).1 ∧ OnlyB b w w' :=
  (wall_k w0 b hb (ssz l)).1 l a c 1 w 0 0 (by omega) hin hB hw (by omega) (by omega) (fun _ => by omega) (by omega) (by omega)
end Go.Proofs.YtkkcgkpbbngloaaGreatDoor

/- The document's own look at a function's head. -/
namespace Go.Proofs.YtkkcgkpbbngloaaGreatDoor
open Go.RowKit Go.Sort

/-- A block that holds these cells. -/
def BoxL (W : World) (B : Nat) (cs : List Value) : Prop := ∀ (i : Nat) v, cs[i]? = some v → W.cell? ⟨B, i, none⟩ = some v
theorem BoxL.below {n : Nat} {W W' : World} {B : Nat} {cs : List Value} (h : BoxL W B cs) (hb : Below n W W') (hB : B < n) : BoxL W' B cs := fun i v hi => (hb.cell (p := ⟨B, i, none⟩) hB).trans (h i v hi)
theorem boxL_new (w : World) (cs : Array Value) (t : TypeId) : BoxL (w.alloc (.cells cs t)) w.heap.size cs.toList := by
  intro i v h
  rw [World.cell?_alloc_at _ _ _ _ rfl]; simpa using h

set_option maxRecDepth 100000 in
set_option maxHeartbeats 2000000 in
theorem face_any (f : Fu) (w : World) (hin : f.In w) : Calls Tryz.prog 19 #[f.val] w fun e w' => e = .returned (.int .i64 (headZ f)) ∧ Below w.heap.size w w' := by
  obtain ⟨_, hl, hc, _, hrow, _, _⟩ := hin
  have HR : Hid (RowIn w f.pa 3 (List.map Pa.cells f.params)) := hrow
  have HN : Hid (∀ s w, Calls Tryz.prog 30 #[.string s] w fun e w' => e = .returned (.bool (nameZ s)) ∧ Below w.heap.size w w') := fun s w => rName_any s w
  have HE : Hid (headZ f = if nameZ f.name = false then 8 else if 8 < f.params.length then 3 else parsZ f.params) := (rfl : headZ f = _)
  clear hrow
  generalize headZ f = res at HE ⊢
  have hb0 := (Below.refl _ w).alloc (Nat.le_refl _) (.cells #[.string f.name, .slice f.pa f.params.length f.pc, .slice f.ba f.body.length f.bc] 38)
  have HBX := boxL_new w #[.string f.name, .slice f.pa f.params.length f.pc, .slice f.ba f.body.length f.bc] 38
  unfold Fu.val
  go_enter Tryz.func19, Tryz.ntmps19
  go_wp2_with fail
  refine (HN.out _ _).mono ?_
  rintro r w1 ⟨rfl, hb1⟩
  have hb2 : Below w.heap.size w w1 := hb0.trans (hb1.mono (by simp))
  have BX : Hid (BoxL w1 w.heap.size [.string f.name, .slice f.pa f.params.length f.pc, .slice f.ba f.body.length f.bc]) := HBX.below hb1 (by simp)
  have hs1 : w.heap.size < w1.heap.size := by have := hb1.size; simp at this; omega
  clear hb0 hb1 HBX
  have c1 := BX.out 1 _ rfl
  cases e1 : nameZ f.name
  · go_wp2_with fail
    go_ret
    exact ⟨ret_int (by rw [HE.out, e1]; rfl), hb2⟩
  · by_cases e2 : 8 < f.params.length
    · have e2' : (8 : Int) < (f.params.length : Int) := by omega
      go_wp2_with fail
      go_ret
      exact ⟨ret_int (by rw [HE.out, e1]; simp [e2]), hb2⟩
    · have HF : Hid (res = parsZ f.params) := (by rw [HE.out, e1]; simp [e2] : res = parsZ f.params)
      have e2' : ¬ (8 : Int) < (f.params.length : Int) := by omega
      clear HE
      go_wp2_with fail
      go_loopw [3] (fun t16 wr => ∃ (j : Nat), j ≤ f.params.length ∧ t16 = .int .i64 j ∧ parsZ (f.params.drop j) = res ∧ Below w.heap.size w wr ∧ w.heap.size < wr.heap.size ∧ BoxL wr w.heap.size [.string f.name, .slice f.pa f.params.length f.pc, .slice f.ba f.body.length f.bc]) (fun t16 _ => f.params.length - (intOf t16).toNat)
      case atStart => exact ⟨0, Nat.zero_le _, rfl, HF.out.symm, hb2, hs1, BX.out⟩
      case round =>
        obtain ⟨j, hj, rfl, hcnt, hb, hsr, hbx⟩ := hrel
        have HC : Hid (parsZ (f.params.drop j) = res) := hcnt
        have HBX : Hid (BoxL wr w.heap.size [.string f.name, .slice f.pa f.params.length f.pc, .slice f.ba f.body.length f.bc]) := hbx
        have c1 := hbx 1 _ rfl
        clear hcnt e1 hbx
        by_cases hlt : j < f.params.length
        · obtain ⟨b, o, hpa, d0, d1, d2⟩ := rowP_at (HR.out.below hb) hlt
          have hbr : b < w.heap.size := by
            obtain ⟨b', o', hpa', g0, _, _⟩ := rowP_at HR.out hlt
            rw [hpa] at hpa'
            cases hpa'
            exact lt_of_cell g0
          have HPA : Hid (f.pa = some ⟨b, o, none⟩) := hpa
          rw [hpa] at c1
          clear hpa
          have hli : (j : Int) < (f.params.length : Int) := by omega
          have HD : Hid (parsZ (f.params.drop j) = if nameZ f.params[j].name = false then 8 else if (f.params[j].lo == -9223372036854775808 || f.params[j].hi == -9223372036854775808) = true then 1 else parsZ (f.params.drop (j + 1))) := parsZ_drop hlt
          generalize f.params[j] = p at *
          go_wp2_with fail
          refine (HN.out _ _).mono ?_
          rintro r w2 ⟨rfl, hb3⟩
          have k1 : w2.cell? ⟨b, o + j * 3 + 1, none⟩ = some (.int .i64 p.lo) := (hb3.cell (p := ⟨b, o + j * 3 + 1, none⟩) (by show b < _; omega)).trans d1
          have k2 : w2.cell? ⟨b, o + j * 3 + 2, none⟩ = some (.int .i64 p.hi) := (hb3.cell (p := ⟨b, o + j * 3 + 2, none⟩) (by show b < _; omega)).trans d2
          have HBX2 : Hid (BoxL w2 w.heap.size [.string f.name, .slice f.pa f.params.length f.pc, .slice f.ba f.body.length f.bc]) := HBX.out.below hb3 hsr
          have hb4 : Below w.heap.size w w2 := hb.trans (hb3.mono (by omega))
          have hs2 : w.heap.size < w2.heap.size := by have := hb3.size; omega
          have c1' := HBX2.out 1 _ rfl
          rw [HPA.out] at c1'
          clear hb3 d0 d1 d2 c1 hb HBX
          cases e3 : nameZ p.name
          · go_wp2_with fail
            go_ret
            exact ⟨ret_int (by rw [← HC.out, HD.out, e3]; rfl), hb4⟩
          · cases e4 : (p.lo == -9223372036854775808)
            · cases e5 : (p.hi == -9223372036854775808)
              · go_wp2_with fail
                go_roundw
                case rel => exact ⟨j + 1, by omega, by go_num, by rw [← HC.out, HD.out, e3, e4, e5]; rfl, hb4, hs2, HBX2.out⟩
                case measure => simp [intOf]; omega
              · go_wp2_with fail
                go_ret
                exact ⟨ret_int (by rw [← HC.out, HD.out, e3, e4, e5]; rfl), hb4⟩
            · go_wp2_with fail
              go_ret
              exact ⟨ret_int (by rw [← HC.out, HD.out, e3, e4]; rfl), hb4⟩
        · have hli : ¬ (j : Int) < (f.params.length : Int) := by omega
          go_wp2_with fail
          go_ret
          exact ⟨ret_int (by rw [← HC.out, List.drop_eq_nil_of_le (by omega), parsZ]), hb⟩
end Go.Proofs.YtkkcgkpbbngloaaGreatDoor

/- What it is that two programs are the same, in plain words. -/
namespace Go.Proofs.YtkkcgkpbbngloaaGreatDoor
open Go.RowKit

mutual
def samE : Ex → Ex → Bool
  | .mk k n s _ _ l, y => k == y.kind && (n == y.n && (s.toList == y.name.toList && samEs l y.args))
def samEs : List Ex → List Ex → Bool
  | [], [] => true
  | x :: r, y :: t => samE x y && samEs r t
  | [], _ :: _ => false
  | _ :: _, [] => false
end
theorem samE_eq (x y : Ex) : samE x y = (x.kind == y.kind && (x.n == y.n && (x.name.toList == y.name.toList && samEs x.args y.args))) := by cases x; simp only [samE, Ex.kind, Ex.n, Ex.name, Ex.args]
theorem samEs_len : ∀ {l t : List Ex}, l.length ≠ t.length → samEs l t = false
  | [], [], h => by simp at h
  | [], _ :: _, _ => by simp [samEs]
  | _ :: _, [], _ => by simp [samEs]
  | x :: r, y :: t, h => by simp only [samEs]; rw [samEs_len (by simpa using h)]; simp
theorem samEs_drop {l t : List Ex} {j : Nat} (h : j < l.length) (h' : j < t.length) : samEs (l.drop j) (t.drop j) = (samE l[j] t[j] && samEs (l.drop (j + 1)) (t.drop (j + 1))) := by
  rw [List.drop_eq_getElem_cons h, List.drop_eq_getElem_cons h', samEs]
def HaveE (W : World) (a : Option Addr) (c : Nat) (l : List Ex) : Prop := l.length ≤ c ∧ c * 56 ≤ 140737488351232 ∧ RowIn W a 4 (l.map Ex.cells) ∧ ∀ x ∈ l, x.In W
theorem HaveE.stay {W W' : World} (hb : Below W.heap.size W W') {a : Option Addr} {c : Nat} {l : List Ex} (h : HaveE W a c l) : HaveE W' a c l := ⟨h.1, h.2.1, h.2.2.1.below hb, fun x hx => (h.2.2.2 x hx).stay hb⟩
theorem Ex.In.have {W : World} {x : Ex} (h : x.In W) : HaveE W x.a x.cap x.args := by
  obtain ⟨_, _, _, h4, h5, _, h7, h8⟩ := Ex.in_iff.1 h
  exact ⟨h4, h5, h7, h8⟩

mutual
def samS : St → St → Bool
  | .mk k s n a b _ _ l _ _ e _ _ c, y => k == y.kind && (s.toList == y.name.toList && (n == y.n && (samE a y.a && (samE b y.b && (samSs l y.body && (samSs e y.els && samCs c y.cases))))))
def samSs : List St → List St → Bool
  | [], [] => true
  | x :: r, y :: t => samS x y && samSs r t
  | [], _ :: _ => false
  | _ :: _, [] => false
def samC : Ca → Ca → Bool
  | .mk n _ _ l, y => n == y.n && samSs l y.body
def samCs : List Ca → List Ca → Bool
  | [], [] => true
  | x :: r, y :: t => samC x y && samCs r t
  | [], _ :: _ => false
  | _ :: _, [] => false
end
theorem samS_eq (x y : St) : samS x y = (x.kind == y.kind && (x.name.toList == y.name.toList && (x.n == y.n && (samE x.a y.a && (samE x.b y.b && (samSs x.body y.body && (samSs x.els y.els && samCs x.cases y.cases))))))) := by
  cases x; simp only [samS, St.kind, St.name, St.n, St.a, St.b, St.body, St.els, St.cases]
theorem samC_eq (x y : Ca) : samC x y = (x.n == y.n && samSs x.body y.body) := by cases x; simp only [samC, Ca.n, Ca.body]
theorem samSs_len : ∀ {l t : List St}, l.length ≠ t.length → samSs l t = false
  | [], [], h => by simp at h
  | [], _ :: _, _ => by simp [samSs]
  | _ :: _, [], _ => by simp [samSs]
  | x :: r, y :: t, h => by simp only [samSs]; rw [samSs_len (by simpa using h)]; simp
theorem samCs_len : ∀ {l t : List Ca}, l.length ≠ t.length → samCs l t = false
  | [], [], h => by simp at h
  | [], _ :: _, _ => by simp [samCs]
  | _ :: _, [], _ => by simp [samCs]
  | x :: r, y :: t, h => by simp only [samCs]; rw [samCs_len (by simpa using h)]; simp
theorem samSs_drop {l t : List St} {j : Nat} (h : j < l.length) (h' : j < t.length) : samSs (l.drop j) (t.drop j) = (samS l[j] t[j] && samSs (l.drop (j + 1)) (t.drop (j + 1))) := by
  rw [List.drop_eq_getElem_cons h, List.drop_eq_getElem_cons h', samSs]
theorem samCs_drop {l t : List Ca} {j : Nat} (h : j < l.length) (h' : j < t.length) : samCs (l.drop j) (t.drop j) = (samC l[j] t[j] && samCs (l.drop (j + 1)) (t.drop (j + 1))) := by
  rw [List.drop_eq_getElem_cons h, List.drop_eq_getElem_cons h', samCs]
def HaveC (W : World) (a : Option Addr) (c : Nat) (l : List Ca) : Prop := LiesC W a c l ∧ ∀ x ∈ l, x.In W
theorem rowC_cells {W : World} {a : Option Addr} {l : List Ca} (h : RowIn W a 2 (l.map Ca.cells)) {i : Nat} (hi : i < l.length) :
    ∃ b o, a = some ⟨b, o, none⟩ ∧ ∀ j v, l[i].cells[j]? = some v → W.cell? ⟨b, o + (i * 2 + j), none⟩ = some v := h i l[i].cells (by simp [hi])
/-- Two new blocks hold two statements' cells, in every world behind. -/
theorem boxes {w w1 : World} {x y : St} (hb : Below ((w.alloc (.cells #[.int .i64 x.kind, .string x.name, .int .i64 x.n, .int .i64 x.a.kind, .int .i64 x.a.n, .string x.a.name, .slice x.a.a x.a.args.length x.a.cap, .int .i64 x.b.kind, .int .i64 x.b.n, .string x.b.name, .slice x.b.a x.b.args.length x.b.cap, .slice x.ba x.body.length x.bc, .slice x.ea x.els.length x.ec, .slice x.ca x.cases.length x.cc] 44)).alloc (.cells #[.int .i64 y.kind, .string y.name, .int .i64 y.n, .int .i64 y.a.kind, .int .i64 y.a.n, .string y.a.name, .slice y.a.a y.a.args.length y.a.cap, .int .i64 y.b.kind, .int .i64 y.b.n, .string y.b.name, .slice y.b.a y.b.args.length y.b.cap, .slice y.ba y.body.length y.bc, .slice y.ea y.els.length y.ec, .slice y.ca y.cases.length y.cc] 44)).heap.size ((w.alloc (.cells #[.int .i64 x.kind, .string x.name, .int .i64 x.n, .int .i64 x.a.kind, .int .i64 x.a.n, .string x.a.name, .slice x.a.a x.a.args.length x.a.cap, .int .i64 x.b.kind, .int .i64 x.b.n, .string x.b.name, .slice x.b.a x.b.args.length x.b.cap, .slice x.ba x.body.length x.bc, .slice x.ea x.els.length x.ec, .slice x.ca x.cases.length x.cc] 44)).alloc (.cells #[.int .i64 y.kind, .string y.name, .int .i64 y.n, .int .i64 y.a.kind, .int .i64 y.a.n, .string y.a.name, .slice y.a.a y.a.args.length y.a.cap, .int .i64 y.b.kind, .int .i64 y.b.n, .string y.b.name, .slice y.b.a y.b.args.length y.b.cap, .slice y.ba y.body.length y.bc, .slice y.ea y.els.length y.ec, .slice y.ca y.cases.length y.cc] 44)) w1) : BoxS w1 w.heap.size x ∧ BoxS w1 (w.heap.size + 1) y := by
  obtain ⟨h1, h2, _⟩ := two_cells hb
  exact ⟨fun i v h => h1 i v (by simpa [St.cells] using h), fun i v h => h2 i v (by simpa [St.cells] using h)⟩

def samI : List Int → List Int → Bool
  | [], [] => true
  | x :: r, y :: t => x == y && samI r t
  | [], _ :: _ => false
  | _ :: _, [] => false
theorem samI_len : ∀ {l t : List Int}, l.length ≠ t.length → samI l t = false
  | [], [], h => by simp at h
  | [], _ :: _, _ => by simp [samI]
  | _ :: _, [], _ => by simp [samI]
  | x :: r, y :: t, h => by simp only [samI]; rw [samI_len (by simpa using h)]; simp
theorem samI_drop {l t : List Int} {j : Nat} (h : j < l.length) (h' : j < t.length) : samI (l.drop j) (t.drop j) = (l[j] == t[j] && samI (l.drop (j + 1)) (t.drop (j + 1))) := by
  rw [List.drop_eq_getElem_cons h, List.drop_eq_getElem_cons h', samI]
def samP (x y : Pa) : Bool := x.name.toList == y.name.toList && (x.lo == y.lo && x.hi == y.hi)
def samPs : List Pa → List Pa → Bool
  | [], [] => true
  | x :: r, y :: t => samP x y && samPs r t
  | [], _ :: _ => false
  | _ :: _, [] => false
theorem samPs_len : ∀ {l t : List Pa}, l.length ≠ t.length → samPs l t = false
  | [], [], h => by simp at h
  | [], _ :: _, _ => by simp [samPs]
  | _ :: _, [], _ => by simp [samPs]
  | x :: r, y :: t, h => by simp only [samPs]; rw [samPs_len (by simpa using h)]; simp
theorem samPs_drop {l t : List Pa} {j : Nat} (h : j < l.length) (h' : j < t.length) : samPs (l.drop j) (t.drop j) = (samP l[j] t[j] && samPs (l.drop (j + 1)) (t.drop (j + 1))) := by
  rw [List.drop_eq_getElem_cons h, List.drop_eq_getElem_cons h', samPs]

theorem equalIn_pa (x y : Pa) (w : World) : (Op.equalIn 10000 70 (.agg #[.string x.name, .int .i64 x.lo, .int .i64 x.hi]) (.agg #[.string y.name, .int .i64 y.lo, .int .i64 y.hi])).run Tryz.prog w = .ok (samP x y) w := by
  have u2 := Tryz.underlying2
  have a2 := Tryz.isAgg2
  have z2 := Tryz.sizeOf2
  have u9 := Tryz.underlying9
  have a9 := Tryz.isAgg9
  have z9 := Tryz.sizeOf9
  have hS : Tryz.prog.underlying 70 = some (.struct (Tryz.prog.fieldsOf 70)) := by kernel_rfl
  have hp : Tryz.prog.stoodInHeld 70 = false := by kernel_rfl
  rw [show (10000 : Nat) = 9999 + 1 from rfl, run_equalIn_agg w 9999 70 _ _ hS hp]
  simp only [Program.fieldsOf, Tryz.underlying70]
  go_simp
  unfold samP
  by_cases h1 : x.name.toList = y.name.toList <;> by_cases h2 : x.lo = y.lo <;> by_cases h3 : x.hi = y.hi <;> simp [h1, h2, h3]

def HaveP (W : World) (a : Option Addr) (c : Nat) (l : List Pa) : Prop := l.length ≤ c ∧ c * 32 ≤ 140737488351232 ∧ RowIn W a 3 (l.map Pa.cells)
def samF (x y : Fu) : Bool := x.name.toList == y.name.toList && (samPs x.params y.params && samSs x.body y.body)
def samFs : List Fu → List Fu → Bool
  | [], [] => true
  | x :: r, y :: t => samF x y && samFs r t
  | [], _ :: _ => false
  | _ :: _, [] => false
theorem samFs_len : ∀ {l t : List Fu}, l.length ≠ t.length → samFs l t = false
  | [], [], h => by simp at h
  | [], _ :: _, _ => by simp [samFs]
  | _ :: _, [], _ => by simp [samFs]
  | x :: r, y :: t, h => by simp only [samFs]; rw [samFs_len (by simpa using h)]; simp
theorem samFs_drop {l t : List Fu} {j : Nat} (h : j < l.length) (h' : j < t.length) : samFs (l.drop j) (t.drop j) = (samF l[j] t[j] && samFs (l.drop (j + 1)) (t.drop (j + 1))) := by
  rw [List.drop_eq_getElem_cons h, List.drop_eq_getElem_cons h', samFs]

theorem rowF_cells {W : World} {a : Option Addr} {l : List Fu} (h : RowIn W a 3 (l.map Fu.cells)) {i : Nat} (hi : i < l.length) :
    ∃ b o, a = some ⟨b, o, none⟩ ∧ ∀ j v, l[i].cells[j]? = some v → W.cell? ⟨b, o + (i * 3 + j), none⟩ = some v := h i l[i].cells (by simp [hi])
def HaveF (W : World) (a : Option Addr) (c : Nat) (l : List Fu) : Prop := (l.length ≤ c ∧ c * 64 ≤ 140737488351232 ∧ RowIn W a 3 (l.map Fu.cells)) ∧ ∀ x ∈ l, x.In W
def samPr (p q : Pr) : Bool := samI p.widen q.widen && samFs p.funcs q.funcs
theorem Pr.In.thr {w : World} {p : Pr} (h : p.In w) : Thr w p.wa p.wc p.widen := ⟨h.1, h.2.1, h.2.2.2.1⟩
theorem Pr.In.haveF {w : World} {p : Pr} (h : p.In w) : HaveF w p.fa p.fc p.funcs := by
  obtain ⟨_, _, _, _, _, h6, h7, _, h9, h10⟩ := h
  exact ⟨⟨h6, h7, h9⟩, h10⟩
end Go.Proofs.YtkkcgkpbbngloaaGreatDoor

/- The document's own count of expressions, as it counts them. -/
namespace Go.Proofs.YtkkcgkpbbngloaaGreatDoor
open Go.RowKit

mutual
def rE : Ex → Int → Int | .mk _ _ _ _ _ l, left => rL l left 0
def rL : List Ex → Int → Int → Int | [], _, n => n | x :: r, left, n => if n ≤ left then rL r left (n + (1 + rE x (left - n - 1))) else n
end
theorem rE_args (x : Ex) (left : Int) : rE x left = rL x.args left 0 := by cases x; simp [rE, Ex.args]
theorem rL_drop {l : List Ex} {j : Nat} {left n : Int} (h : j < l.length) : rL (l.drop j) left n = if n ≤ left then rL (l.drop (j + 1)) left (n + (1 + rE l[j] (left - n - 1))) else n := by
  rw [List.drop_eq_getElem_cons h, rL]
theorem r_bd (k : Nat) : (∀ (x : Ex) (left : Int), x.sz ≤ k → 0 ≤ rE x left ∧ rE x left ≤ max 0 (left + 1)) ∧ (∀ (l : List Ex) (left n : Int), szL l ≤ k → n ≤ rL l left n ∧ rL l left n ≤ max n (left + 1)) := by
  induction k with
  | zero =>
    refine ⟨fun x n hk => by have := x.sz_args; omega, fun l left n hk => ?_⟩
    cases l with
    | nil => simp only [rL]; omega
    | cons x r => rw [szL] at hk; have := x.sz_args; omega
  | succ k ih =>
    have h1 : ∀ (x : Ex) (left : Int), x.sz ≤ k + 1 → 0 ≤ rE x left ∧ rE x left ≤ max 0 (left + 1) := fun x n hk => by
      rw [rE_args]; exact ih.2 _ _ _ (by have := x.sz_args; omega)
    refine ⟨h1, fun l => ?_⟩
    induction l with
    | nil => intro left n _; simp only [rL]; omega
    | cons x r ihr =>
      intro left n hk
      rw [szL] at hk
      rw [rL]
      split
      · have := h1 x (left - n - 1) (by omega)
        have := ihr left (n + (1 + rE x (left - n - 1))) (by omega)
        omega
      · omega
theorem rE_bd (x : Ex) (left : Int) : 0 ≤ rE x left ∧ rE x left ≤ max 0 (left + 1) := (r_bd _).1 x left (Nat.le_refl _)
theorem rL_bd (l : List Ex) (left n : Int) : n ≤ rL l left n ∧ rL l left n ≤ max n (left + 1) := (r_bd _).2 l left n (Nat.le_refl _)

set_option maxRecDepth 100000 in
set_option maxHeartbeats 2000000 in
theorem rexprs_k (k : Nat) : ∀ (l : List Ex) (a : Option Addr) (c : Nat) (left : Int) (w : World), szL l ≤ k → HaveE w a c l → -8 ≤ left → left ≤ 4611686018427387904 →
    Calls Tryz.prog 80 #[.slice a l.length c, .int .i64 left] w fun e w' => e = .returned (.int .i64 (rL l left 0)) ∧ Below w.heap.size w w' := by
  induction k with
  | zero =>
    intro l a c left w hk hin h0 h1
    obtain rfl : l = [] := by
      cases l with
      | nil => rfl
      | cons x r => rw [szL] at hk; have := x.sz_args; omega
    rw [rL]
    show Calls Tryz.prog 80 #[.slice a 0 c, .int .i64 left] w _
    go_enter Tryz.func80, Tryz.ntmps80
    go_wp2_with fail
    go_loopw [5, 6] (fun t5 t6 wr => t5 = .int .i64 0 ∧ t6 = .int .i64 0 ∧ wr = w) (fun _ _ _ => 0)
    case atStart => exact ⟨rfl, rfl, rfl⟩
    case round =>
      obtain ⟨rfl, rfl, rfl⟩ := hrel
      go_wp2_with fail
      go_ret
      exact ⟨rfl, Below.refl _ _⟩
  | succ k ih =>
    intro l a c left w hk hin h0 h1
    have hl := hin.1
    have hc := hin.2.1
    have IH : Hid (∀ (l : List Ex) (a : Option Addr) (c : Nat) (left : Int) (w : World), szL l ≤ k → HaveE w a c l → -8 ≤ left → left ≤ 4611686018427387904 →
      Calls Tryz.prog 80 #[.slice a l.length c, .int .i64 left] w fun e w' => e = .returned (.int .i64 (rL l left 0)) ∧ Below w.heap.size w w') := ih
    have HE : Hid (HaveE w a c l) := hin
    have HK : Hid (szL l ≤ k + 1) := hk
    clear ih hin hk
    go_enter Tryz.func80, Tryz.ntmps80
    go_wp2_with fail
    go_loopw [5, 6] (fun t5 t6 wr => ∃ (j : Nat) (m : Int), j ≤ l.length ∧ t5 = .int .i64 m ∧ t6 = .int .i64 j ∧ 0 ≤ m ∧ m ≤ max 0 (left + 1) ∧ rL (l.drop j) left m = rL l left 0 ∧ Below w.heap.size w wr) (fun _ t6 _ => l.length - (intOf t6).toNat)
    case atStart => exact ⟨0, 0, Nat.zero_le _, rfl, rfl, by omega, by omega, by simp, Below.refl _ w⟩
    case round =>
      obtain ⟨j, m, hj, rfl, rfl, hm0, hm1, hcnt, hb⟩ := hrel
      have HC : Hid (rL (l.drop j) left m = rL l left 0) := hcnt
      clear hcnt
      have hws := hb.size
      by_cases hlt : j < l.length
      · have hli : (j : Int) < (l.length : Int) := by omega
        have HD : Hid (rL (l.drop j) left m = if m ≤ left then rL (l.drop (j + 1)) left (m + (1 + rE l[j] (left - m - 1))) else m) := rL_drop hlt
        by_cases hm : m ≤ left
        · obtain ⟨b, o, rfl, c0, c1, c2, c3⟩ := row_at (HE.out.2.2.1.below hb) hlt
          have HI : Hid (l[j].In wr) := (HE.out.2.2.2 _ (List.getElem_mem hlt)).stay hb
          have HZ : Hid (szL l[j].args ≤ k) := by
            have h1 := szL_mem (List.getElem_mem hlt)
            have h2 := (l[j]).sz_args
            have h3 := HK.out
            show szL l[j].args ≤ k
            omega
          have hbd := rE_bd l[j] (left - m - 1)
          rw [if_pos hm] at HD
          generalize l[j] = x at *
          go_wp2_with fail
          refine (IH.out x.args x.a x.cap (left - m - 1) _ HZ.out HI.out.have (by omega) (by omega)).mono ?_
          rintro e w' ⟨rfl, hb'⟩
          rw [← rE_args]
          generalize rE x (left - m - 1) = q at *
          go_wp2_with fail
          go_roundw
          case rel =>
            refine ⟨j + 1, m + (1 + q), by omega, rfl, by go_num, by omega, by omega, ?_, hb.trans (hb'.mono hws)⟩
            rw [← HC.out, HD.out]
          case measure => simp [intOf]; omega
        · rw [if_neg hm] at HD
          go_wp2_with fail
          go_ret
          exact ⟨ret_int (by rw [← HC.out, HD.out]), hb⟩
      · obtain rfl : j = l.length := by omega
        go_wp2_with fail
        go_ret
        exact ⟨ret_int (by rw [← HC.out, List.drop_eq_nil_of_le (Nat.le_refl _), rL]), hb⟩
theorem rexprs_any (l : List Ex) (a : Option Addr) (c : Nat) (left : Int) (w : World) (hin : HaveE w a c l) (h0 : -8 ≤ left) (h1 : left ≤ 4611686018427387904) :
    Calls Tryz.prog 80 #[.slice a l.length c, .int .i64 left] w fun e w' => e = .returned (.int .i64 (rL l left 0)) ∧ Below w.heap.size w w' := rexprs_k _ l a c left w (Nat.le_refl _) hin h0 h1
end Go.Proofs.YtkkcgkpbbngloaaGreatDoor

/- The document's own count of statements, as it counts them; is an expression one of zeros? -/
namespace Go.Proofs.YtkkcgkpbbngloaaGreatDoor
open Go.RowKit

def rZ (x : Ex) (left n : Int) : Int := if zeroE x then n else n + (1 + rL x.args (left - n - 1) 0)
mutual
def rS : St → Int → Int → Int
  | .mk _ _ _ a b _ _ l _ _ e _ _ c, left, n =>
    (fun m => m + rSs e (left - m) 0) (rCs c left ((fun m => m + rSs l (left - m) 0) (rZ b left (rZ a left (n + 1)))))
def rSs : List St → Int → Int → Int | [], _, n => n | s :: r, left, n => if n ≤ left then rSs r left (rS s left n) else n
def rC : Ca → Int → Int | .mk _ _ _ l, left => rSs l left 0
def rCs : List Ca → Int → Int → Int | [], _, n => n | c :: r, left, n => if n ≤ left then rCs r left (n + (1 + rC c (left - n - 1))) else n
end
def rB (l : List St) (left n : Int) : Int := n + rSs l (left - n) 0
theorem rC_eq (c : Ca) (left : Int) : rC c left = rSs c.body left 0 := by cases c; simp [rC, Ca.body]
theorem rS_eq (s : St) (left n : Int) : rS s left n = rB s.els left (rCs s.cases left (rB s.body left (rZ s.b left (rZ s.a left (n + 1))))) := by
  cases s; simp only [rS, rB, St.els, St.cases, St.body, St.a, St.b]
theorem rSs_drop {l : List St} {j : Nat} {left n : Int} (h : j < l.length) : rSs (l.drop j) left n = if n ≤ left then rSs (l.drop (j + 1)) left (rS l[j] left n) else n := by
  rw [List.drop_eq_getElem_cons h, rSs]
theorem rCs_drop {l : List Ca} {j : Nat} {left n : Int} (h : j < l.length) : rCs (l.drop j) left n = if n ≤ left then rCs (l.drop (j + 1)) left (n + (1 + rC l[j] (left - n - 1))) else n := by
  rw [List.drop_eq_getElem_cons h, rCs]
theorem rZ_bd (x : Ex) (left n : Int) : n ≤ rZ x left n ∧ rZ x left n ≤ max (n + 1) (left + 1) := by
  unfold rZ
  have := rL_bd x.args (left - n - 1) 0
  split <;> omega

theorem rs_bd (k : Nat) : (∀ (s : St) (left n : Int), s.sz ≤ k → n ≤ left → n + 1 ≤ rS s left n ∧ rS s left n ≤ left + 3) ∧ (∀ (l : List St) (left n : Int), ssz l ≤ k → n ≤ rSs l left n ∧ rSs l left n ≤ max n (left + 3)) := by
  induction k with
  | zero =>
    refine ⟨fun s left n hk => by have := s.sz_eq; omega, fun l left n hk => ?_⟩
    cases l with
    | nil => simp only [rSs]; omega
    | cons x r => rw [ssz] at hk; have := x.sz_eq; omega
  | succ k ih =>
    have hC : ∀ (l : List Ca) (left n : Int), csz l ≤ k → n ≤ rCs l left n ∧ rCs l left n ≤ max n (left + 3) := fun l => by
      induction l with
      | nil => intro left n _; simp only [rCs]; omega
      | cons c r ihr =>
        intro left n hk
        rw [csz] at hk
        rw [rCs]
        split
        · have h1 := ih.2 c.body (left - n - 1) 0 (by have := c.sz_eq; omega)
          rw [← rC_eq] at h1
          have := ihr left (n + (1 + rC c (left - n - 1))) (by omega)
          omega
        · omega
    have hB : ∀ (l : List St) (left n : Int), ssz l ≤ k → n ≤ rB l left n ∧ rB l left n ≤ max n (left + 3) := fun l left n hk => by
      have := ih.2 l (left - n) 0 hk
      unfold rB; omega
    have h1 : ∀ (s : St) (left n : Int), s.sz ≤ k + 1 → n ≤ left → n + 1 ≤ rS s left n ∧ rS s left n ≤ left + 3 := fun s left n hk hn => by
      rw [rS_eq]
      have hz := s.sz_eq
      have a1 := rZ_bd s.a left (n + 1)
      have a2 := rZ_bd s.b left (rZ s.a left (n + 1))
      have a3 := hB s.body left (rZ s.b left (rZ s.a left (n + 1))) (by omega)
      have a4 := hC s.cases left (rB s.body left (rZ s.b left (rZ s.a left (n + 1)))) (by omega)
      have a5 := hB s.els left (rCs s.cases left (rB s.body left (rZ s.b left (rZ s.a left (n + 1))))) (by omega)
      omega
    refine ⟨h1, fun l => ?_⟩
    induction l with
    | nil => intro left n _; simp only [rSs]; omega
    | cons x r ihr =>
      intro left n hk
      rw [ssz] at hk
      rw [rSs]
      split
      · have := h1 x left n (by omega) (by assumption)
        have := ihr left (rS x left n) (by omega)
        omega
      · omega
theorem rSs_bd (l : List St) (left n : Int) : n ≤ rSs l left n ∧ rSs l left n ≤ max n (left + 3) := (rs_bd _).2 l left n (Nat.le_refl _)
theorem rS_bd (s : St) (left n : Int) (h : n ≤ left) : n + 1 ≤ rS s left n ∧ rS s left n ≤ left + 3 := (rs_bd _).1 s left n (Nat.le_refl _) h
theorem rC_bd (c : Ca) (left : Int) : 0 ≤ rC c left ∧ rC c left ≤ max 0 (left + 3) := by rw [rC_eq]; exact rSs_bd _ _ _
theorem rB_bd (l : List St) (left n : Int) : n ≤ rB l left n ∧ rB l left n ≤ max n (left + 3) := by
  have := rSs_bd l (left - n) 0
  unfold rB; omega

theorem rZ_t {x : Ex} {left n : Int} (h : zeroE x = true) : rZ x left n = n := by simp [rZ, h]
theorem rZ_f {x : Ex} {left n : Int} (h : zeroE x = false) : rZ x left n = n + (1 + rL x.args (left - n - 1) 0) := by simp [rZ, h]
end Go.Proofs.YtkkcgkpbbngloaaGreatDoor
