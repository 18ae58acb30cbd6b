/- The document's own answer whether two programs are the same. -/
import Derived.Test.YtbpemackmadhgabDoorPart6
import Derived.Test.YtbpemackmadhgabDoorPart5
import Derived.Test.YtbpemackmadhgabDoorPart3
import Derived.Test.YtbpemackmadhgabDoorPart4
import Derived.Deep.CutRange
import Derived.Test.YtbpemackmadhgabDoorPart2
namespace Go.Proofs.YtbpemackmadhgabDoor
open Go.RowKit Go.Sort
attribute [local go_sem ↓] Go.wp_at_zero Go.wp_at_succ

theorem rsamS_k (n : Nat) : ∀ (l t : List St) (a a' : Option Addr) (c c' : Nat) (w : World), ssz l < n → Have w a c l → Have w a' c' t →
    Calls Tryd.prog 29 #[.slice a l.length c, .slice a' t.length c'] w fun e w' => e = .returned (.bool (samSs l t)) ∧ Below w.heap.size w w' := by
  induction n with
  | zero => intro l t a a' c c' w h; omega
  | succ n ih => exact fun l t a a' c c' w h h1 h2 => rsamS_step n ih (fun l t a a' c c' w h h1 h2 => rsamC_step n ih l t a a' c c' w h h1 h2) l t a a' c c' w (by omega) h1 h2
theorem rsamS_any (l t : List St) (a a' : Option Addr) (c c' : Nat) (w : World) (h1 : Have w a c l) (h2 : Have w a' c' t) :
    Calls Tryd.prog 29 #[.slice a l.length c, .slice a' t.length c'] w fun e w' => e = .returned (.bool (samSs l t)) ∧ Below w.heap.size w w' := rsamS_k (ssz l + 1) l t a a' c c' w (by omega) h1 h2

set_option maxRecDepth 100000 in
set_option maxHeartbeats 8000000 in
theorem rsame_any (p q : Pr) (w : World) (hx : p.In w) (hy : q.In w) : Calls Tryd.prog 14 #[p.val, q.val] w fun e w' => e = .returned (.bool (samPr p q)) ∧ Below w.heap.size w w' := by
  have XP : Hid (∀ w', Below w.heap.size w w' → p.In w') := fun w' h => hx.stay h
  have XQ : Hid (∀ w', Below w.heap.size w w' → q.In w') := fun w' h => hy.stay h
  have q1 := hx.thr.1
  have q2 := hx.thr.2.1
  have q3 := hx.haveF.1.1
  have q4 := hx.haveF.1.2.1
  have q5 := hy.thr.1
  have q6 := hy.thr.2.1
  have q7 := hy.haveF.1.1
  have q8 := hy.haveF.1.2.1
  have HE : Hid (samPr p q = (samI p.widen q.widen && samFs p.funcs q.funcs)) := (rfl : samPr p q = _)
  clear hx hy
  generalize samPr p q = res at HE ⊢
  unfold Pr.val
  have hb1 : Below w.heap.size w ((w.alloc (.cells #[.slice p.wa p.widen.length p.wc, .slice p.fa p.funcs.length p.fc] 25)).alloc (.cells #[.slice q.wa q.widen.length q.wc, .slice q.fa q.funcs.length q.fc] 25)) := Below.one (Below.one (Below.refl _ _) _) _
  by_cases hle : p.widen.length = q.widen.length
  · by_cases hlf : p.funcs.length = q.funcs.length
    · have HL : Hid (p.widen.length = q.widen.length) := hle
      have HF : Hid (p.funcs.length = q.funcs.length) := hlf
      rw [← hle] at q5 hb1 ⊢
      rw [← hlf] at q7 hb1 ⊢
      clear hle hlf
      obtain ⟨W1, hW1⟩ : ∃ W1, (w.alloc (.cells #[.slice p.wa p.widen.length p.wc, .slice p.fa p.funcs.length p.fc] 25)).alloc (.cells #[.slice q.wa p.widen.length q.wc, .slice q.fa p.funcs.length q.fc] 25) = W1 := ⟨_, rfl⟩
      have HC2 := fun w' (h : Below ((w.alloc (.cells #[.slice p.wa p.widen.length p.wc, .slice p.fa p.funcs.length p.fc] 25)).alloc (.cells #[.slice q.wa p.widen.length q.wc, .slice q.fa p.funcs.length q.fc] 25)).heap.size ((w.alloc (.cells #[.slice p.wa p.widen.length p.wc, .slice p.fa p.funcs.length p.fc] 25)).alloc (.cells #[.slice q.wa p.widen.length q.wc, .slice q.fa p.funcs.length q.fc] 25)) w') => two_cells h
      have HW1 := show Hid _ from hW1
      rw [hW1] at hb1 HC2
      clear hW1
      obtain ⟨Z, hZ⟩ : ∃ Z, w.heap.size = Z := ⟨_, rfl⟩
      have P0 : Hid (∀ w', Below W1.heap.size W1 w' → w'.cell? ⟨Z, 0, none⟩ = some (.slice p.wa p.widen.length p.wc)) := fun w' h => hZ ▸ (HC2 w' h).1 0 _ rfl
      have P1 : Hid (∀ w', Below W1.heap.size W1 w' → w'.cell? ⟨Z, 1, none⟩ = some (.slice p.fa p.funcs.length p.fc)) := fun w' h => hZ ▸ (HC2 w' h).1 1 _ rfl
      have Q0 : Hid (∀ w', Below W1.heap.size W1 w' → w'.cell? ⟨Z + 1, 0, none⟩ = some (.slice q.wa p.widen.length q.wc)) := fun w' h => hZ ▸ (HC2 w' h).2.1 0 _ rfl
      have Q1 : Hid (∀ w', Below W1.heap.size W1 w' → w'.cell? ⟨Z + 1, 1, none⟩ = some (.slice q.fa p.funcs.length q.fc)) := fun w' h => hZ ▸ (HC2 w' h).2.1 1 _ rfl
      have HZ := show Hid _ from hZ
      clear HC2 hZ
      go_enter Tryd.func14, Tryd.ntmps14
      go_wp2_with fail
      rw [HW1.out, HZ.out]
      clear HW1
      go_loopw [5] (fun t5 wr => ∃ (j : Nat), j ≤ p.widen.length ∧ t5 = .int .i64 j ∧ samI (p.widen.drop j) (q.widen.drop j) = samI p.widen q.widen ∧ Below W1.heap.size W1 wr) (fun t5 _ => p.widen.length - (intOf t5).toNat)
      case atStart => exact ⟨0, Nat.zero_le _, rfl, rfl, Below.refl _ _⟩
      case round =>
        obtain ⟨j, hj, rfl, hcnt, hb⟩ := hrel
        have HC : Hid (samI (p.widen.drop j) (q.widen.drop j) = samI p.widen q.widen) := hcnt
        clear hcnt
        have hbw : Below w.heap.size w wr := Below.on hb1 hb
        have p0 := P0.out _ hb
        have q0 := Q0.out _ hb
        by_cases hlt : j < p.widen.length
        · have hlt' : j < q.widen.length := by have := HL.out; omega
          obtain ⟨b, o, ea, c0⟩ := rowW_at (XP.out _ hbw).thr.2.2 hlt
          obtain ⟨b', o', ea', d0⟩ := rowW_at (XQ.out _ hbw).thr.2.2 hlt'
          rw [ea] at p0
          rw [ea'] at q0
          clear ea ea'
          have hli : (j : Int) < (p.widen.length : Int) := by omega
          have HD : Hid (samI (p.widen.drop j) (q.widen.drop j) = (p.widen[j] == q.widen[j] && samI (p.widen.drop (j + 1)) (q.widen.drop (j + 1)))) := samI_drop hlt hlt'
          generalize p.widen[j] = x at *
          generalize q.widen[j] = y at *
          clear hlt'
          go_wp2_with fail
          go_quiet (fail)
          cases ev : (x == y)
          · have ev' : (x != y) = true := by simp [bne, ev]
            rw [ev] at HD
            go_wp2_with fail
            go_ret
            exact ⟨ret_bool (by rw [HE.out, ← HC.out, HD.out]; rfl), hbw.drewN _⟩
          · have ev' : (x != y) = false := by simp [bne, ev]
            rw [ev] at HD
            clear p0 q0 c0 d0
            go_wp2_with fail
            go_roundw
            case rel => exact ⟨j + 1, by omega, by go_num, by rw [← HC.out, HD.out]; rfl, hb.drewN _⟩
            case measure => simp [intOf]; omega
        · have HI : Hid (samI p.widen q.widen = true) := by
            show _ = _
            rw [← HC.out, List.drop_eq_nil_of_le (by omega), List.drop_eq_nil_of_le (by have := HL.out; omega)]; rfl
          clear HC
          obtain rfl : j = p.widen.length := by omega
          clear q0 hj hlt
          go_wp2_with fail
          clear p0
          go_loopw [6] (fun t6 wr => ∃ (i : Nat), i ≤ p.funcs.length ∧ t6 = .int .i64 i ∧ samFs (p.funcs.drop i) (q.funcs.drop i) = samFs p.funcs q.funcs ∧ Below W1.heap.size W1 wr) (fun t6 _ => p.funcs.length - (intOf t6).toNat)
          case atStart => exact ⟨0, Nat.zero_le _, rfl, rfl, hb⟩
          case round =>
            clear hb hbw
            obtain ⟨i, hi, rfl, hcnt, hb⟩ := hrel
            have HC : Hid (samFs (p.funcs.drop i) (q.funcs.drop i) = samFs p.funcs q.funcs) := hcnt
            clear hcnt
            have hbw : Below w.heap.size w wr := Below.on hb1 hb
            have p1 := P1.out _ hb
            by_cases hlt : i < p.funcs.length
            · have hlt' : i < q.funcs.length := by have := HF.out; omega
              obtain ⟨b, o, ea, hc1⟩ := rowF_cells (XP.out _ hbw).haveF.1.2.2 hlt
              obtain ⟨b', o', ea', hc2⟩ := rowF_cells (XQ.out _ hbw).haveF.1.2.2 hlt'
              have hli : (i : Int) < (p.funcs.length : Int) := by omega
              have hli0 : (0 : Int) ≤ (i : Int) := by omega
              have XI : Hid (∀ w', Below w.heap.size w w' → p.funcs[i].In w') := fun w' h => (XP.out w' h).haveF.2 p.funcs[i] (List.getElem_mem hlt)
              have YI : Hid (∀ w', Below w.heap.size w w' → q.funcs[i].In w') := fun w' h => (XQ.out w' h).haveF.2 q.funcs[i] (List.getElem_mem hlt')
              have HD : Hid (samFs (p.funcs.drop i) (q.funcs.drop i) = ((p.funcs[i].name.toList == q.funcs[i].name.toList && (samPs p.funcs[i].params q.funcs[i].params && samSs p.funcs[i].body q.funcs[i].body)) && samFs (p.funcs.drop (i + 1)) (q.funcs.drop (i + 1)))) := samFs_drop hlt hlt'
              generalize p.funcs[i] = x at *
              generalize q.funcs[i] = y at *
              clear hlt'
              go_upto_region 11 with fail
              go_cut [7, 8] from 44 to 100 (fun t7 t8 wx => ∃ bx bz, t7 = .pointer (some ⟨bx, 0, none⟩) ∧ t8 = .pointer (some ⟨bz, 0, none⟩) ∧ (∀ (k : Nat) v, x.cells[k]? = some v → wx.cell? ⟨bx, k, none⟩ = some v) ∧ (∀ (k : Nat) v, y.cells[k]? = some v → wx.cell? ⟨bz, k, none⟩ = some v) ∧ Below wr.heap.size wr wx)
              case first =>
                have c0 : ∀ w', Below wr.heap.size wr w' → w'.cell? ⟨b, o + i * 3, none⟩ = some (.string x.name) := seen (by have := hc1 0 _ rfl; simpa only [← Nat.add_assoc, Nat.add_zero] using this)
                have c1 : ∀ w', Below wr.heap.size wr w' → w'.cell? ⟨b, o + i * 3 + 1, none⟩ = some (.slice x.pa x.params.length x.pc) := seen (by have := hc1 1 _ rfl; simpa only [← Nat.add_assoc, Nat.add_zero] using this)
                have c2 : ∀ w', Below wr.heap.size wr w' → w'.cell? ⟨b, o + i * 3 + 2, none⟩ = some (.slice x.ba x.body.length x.bc) := seen (by have := hc1 2 _ rfl; simpa only [← Nat.add_assoc, Nat.add_zero] using this)
                have d0 : ∀ w', Below wr.heap.size wr w' → w'.cell? ⟨b', o' + i * 3, none⟩ = some (.string y.name) := seen (by have := hc2 0 _ rfl; simpa only [← Nat.add_assoc, Nat.add_zero] using this)
                have d1 : ∀ w', Below wr.heap.size wr w' → w'.cell? ⟨b', o' + i * 3 + 1, none⟩ = some (.slice y.pa y.params.length y.pc) := seen (by have := hc2 1 _ rfl; simpa only [← Nat.add_assoc, Nat.add_zero] using this)
                have d2 : ∀ w', Below wr.heap.size wr w' → w'.cell? ⟨b', o' + i * 3 + 2, none⟩ = some (.slice y.ba y.body.length y.bc) := seen (by have := hc2 2 _ rfl; simpa only [← Nat.add_assoc, Nat.add_zero] using this)
                have P1' : ∀ w', Below wr.heap.size wr w' → w'.cell? ⟨Z, 1, none⟩ = some (.slice (some ⟨b, o, none⟩) p.funcs.length p.fc) := fun w' h => ea ▸ P1.out w' (Below.on hb h)
                have Q1' : ∀ w', Below wr.heap.size wr w' → w'.cell? ⟨Z + 1, 1, none⟩ = some (.slice (some ⟨b', o', none⟩) p.funcs.length q.fc) := fun w' h => ea' ▸ Q1.out w' (Below.on hb h)
                clear hc1 hc2 ea ea' p1
                go_region_held3 (fun w' => Below wr.heap.size wr w') (first | exact Below.drew (Below.refl _ _) | exact Below.drew (Below.one (Below.refl _ _) _) | exact Below.drew (Below.one (Below.one (Below.refl _ _) _) _) | exact Below.on (by assumption) (by assumption) | exact Below.one (by assumption) _) (fail)
                all_goals (go_wp2_with fail; go_meet)
                case rel =>
                  obtain ⟨p1, p2, _⟩ := two_cells (w := wr) (Below.drew (Below.refl _ ((wr.alloc (.cells (⟨x.cells⟩ : Array Value) 36)).alloc (.cells (⟨y.cells⟩ : Array Value) 36))))
                  exact ⟨_, _, rfl, rfl, fun i v h => p1 i v (by simpa using h), fun i v h => p2 i v (by simpa using h), Below.drew (Below.one (Below.one (Below.refl _ _) _) _)⟩
                case rel =>
                  obtain ⟨p1, p2, _⟩ := two_cells (w := wr) (Below.drew (Below.refl _ ((wr.alloc (.cells (⟨y.cells⟩ : Array Value) 36)).alloc (.cells (⟨x.cells⟩ : Array Value) 36))))
                  exact ⟨_, _, rfl, rfl, fun i v h => p2 i v (by simpa using h), fun i v h => p1 i v (by simpa using h), Below.drew (Below.one (Below.one (Below.refl _ _) _) _)⟩
              case rest =>
                obtain ⟨bx, bz, rfl, rfl, hx, hy, hbx⟩ := hcut
                have hbw2 : Below w.heap.size w wc := Below.on hbw hbx
                have CX : Hid (∀ w', Below wc.heap.size wc w' → ∀ (k : Nat) v, x.cells[k]? = some v → w'.cell? ⟨bx, k, none⟩ = some v) := fun w' h k v e => seen (hx k v e) w' h
                have CY : Hid (∀ w', Below wc.heap.size wc w' → ∀ (k : Nat) v, y.cells[k]? = some v → w'.cell? ⟨bz, k, none⟩ = some v) := fun w' h k v e => seen (hy k v e) w' h
                have BW : Hid (Below w.heap.size w wc) := hbw2
                have BV : Hid (Below W1.heap.size W1 wc) := Below.on hb hbx
                clear hx hy hc1 hc2 hb hbx hbw hbw2 ea ea' p1
                obtain ⟨r1, r2, r3, r4, _⟩ := (XI.out _ BW.out).2
                obtain ⟨s1, s2, s3, s4, _⟩ := (YI.out _ BW.out).2
                clear r3 r4 s3 s4
                have c0 := CX.out wc (Below.refl _ _) 0 _ rfl
                have d0 := CY.out wc (Below.refl _ _) 0 _ rfl
                have c1 := CX.out wc (Below.refl _ _) 1 _ rfl
                have d1 := CY.out wc (Below.refl _ _) 1 _ rfl
                have c2 := CX.out wc (Below.refl _ _) 2 _ rfl
                have d2 := CY.out wc (Below.refl _ _) 2 _ rfl
                cases e1 : (x.name.toList == y.name.toList)
                · have e1' : (x.name.toList != y.name.toList) = true := by simp [bne, e1]
                  rw [e1] at HD
                  go_wp2_with fail
                  go_ret
                  exact ⟨ret_bool (by rw [HE.out, HI.out, ← HC.out, HD.out]; rfl), BW.out⟩
                · have e1' : (x.name.toList != y.name.toList) = false := by simp [bne, e1]
                  rw [e1] at HD
                  by_cases hlp : x.params.length = y.params.length
                  · have HP : Hid (x.params.length = y.params.length) := hlp
                    rw [← hlp] at s1 d1
                    clear hlp
                    have HB1 : Hid (∀ w', Below wc.heap.size wc w' → Calls Tryd.prog 29 #[.slice x.ba x.body.length x.bc, .slice y.ba y.body.length y.bc] w' fun e w'' => e = .returned (.bool (samSs x.body y.body)) ∧ Below w'.heap.size w' w'') := fun w' h => rsamS_any _ _ _ _ _ _ w' (XI.out _ (Below.on BW.out h)).2.2.2.2.2.2 (YI.out _ (Below.on BW.out h)).2.2.2.2.2.2
                    generalize samSs x.body y.body = q1 at HB1 HD
                    go_wp2_with fail
                    refine (HB1.out _ (Below.refl _ _)).mono ?_
                    rintro e w2 ⟨rfl, hb2⟩
                    clear c0 c1 c2 d0 d1 d2
                    cases q1
                    · go_wp2_with fail
                      go_ret
                      exact ⟨ret_bool (by rw [HE.out, HI.out, ← HC.out, HD.out]; simp), Below.on BW.out hb2⟩
                    · go_wp2_with fail
                      go_loopw [9] (fun t9 wr => ∃ (k : Nat), k ≤ x.params.length ∧ t9 = .int .i64 k ∧ samPs (x.params.drop k) (y.params.drop k) = samPs x.params y.params ∧ Below wc.heap.size wc wr) (fun t9 _ => x.params.length - (intOf t9).toNat)
                      case atStart => exact ⟨0, Nat.zero_le _, rfl, rfl, hb2⟩
                      case round =>
                        clear hb2
                        obtain ⟨k, hk, rfl, hcnt, hb⟩ := hrel
                        have HCP : Hid (samPs (x.params.drop k) (y.params.drop k) = samPs x.params y.params) := hcnt
                        clear hcnt
                        have c1 := CX.out wr hb 1 _ rfl
                        by_cases hklt : k < x.params.length
                        · have hklt' : k < y.params.length := by have := HP.out; omega
                          have d1 := CY.out wr hb 1 _ rfl
                          rw [← HP.out] at d1
                          obtain ⟨b, o, ea, k0, k1, k2⟩ := rowP_at (XI.out _ (Below.on BW.out hb)).2.2.2.2.1 hklt
                          obtain ⟨b', o', ea', m0, m1, m2⟩ := rowP_at (YI.out _ (Below.on BW.out hb)).2.2.2.2.1 hklt'
                          rw [ea] at c1
                          rw [ea'] at d1
                          clear ea ea'
                          have hkli : (k : Int) < (x.params.length : Int) := by omega
                          have HD2 : Hid (samPs (x.params.drop k) (y.params.drop k) = (samP x.params[k] y.params[k] && samPs (x.params.drop (k + 1)) (y.params.drop (k + 1)))) := samPs_drop hklt hklt'
                          generalize x.params[k] = u at *
                          generalize y.params[k] = v at *
                          clear hklt'
                          have hq := fun w => equalIn_pa u v w
                          have hg : ∀ (w : World) (op : BinOp) (a b : Operand) (xs ys : Array Value), (eqGuard op 50 a b (.agg xs) (.agg ys)).run Tryd.prog w = .ok () w := fun w op a b xs ys => run_eqGuard_agg w op 50 a b xs ys (by kernel_rfl)
                          go_wp2_with fail
                          go_quiet (fail)
                          clear hq hg c1 d1 k0 k1 k2 m0 m1 m2
                          cases ev : samP u v
                          · rw [ev] at HD2
                            go_wp2_with fail
                            go_ret
                            exact ⟨ret_bool (by rw [HE.out, HI.out, ← HC.out, HD.out, ← HCP.out, HD2.out]; simp), (Below.on BW.out hb).drewN _⟩
                          · rw [ev] at HD2
                            go_wp2_with fail
                            go_roundw
                            case rel => exact ⟨k + 1, by omega, by go_num, by rw [← HCP.out, HD2.out]; rfl, hb.drewN _⟩
                            case measure => simp [intOf]; omega
                        · obtain rfl : k = x.params.length := by omega
                          have HT : Hid (samPs x.params y.params = true) := by
                            show _ = _
                            rw [← HCP.out, List.drop_eq_nil_of_le (Nat.le_refl _), List.drop_eq_nil_of_le (by have := HP.out; omega)]; rfl
                          clear HCP
                          go_wp2_with fail
                          go_roundw
                          case rel => exact ⟨i + 1, by omega, by go_num, by rw [← HC.out, HD.out, HT.out]; rfl, Below.on BV.out hb⟩
                          case measure => simp [intOf]; omega
                  · have hne : ((x.params.length : Int) != (y.params.length : Int)) = true := by simp only [bne_iff_ne]; omega
                    have HF2 : Hid (res = false) := by show _ = _; rw [HE.out, HI.out, ← HC.out, HD.out, samPs_len hlp]; simp
                    go_wp2_with fail
                    go_ret
                    exact ⟨ret_bool HF2.out.symm, BW.out⟩
            · obtain rfl : i = p.funcs.length := by omega
              go_wp2_with fail
              go_ret
              refine ⟨ret_bool ?_, hbw⟩
              rw [HE.out, HI.out, ← HC.out, List.drop_eq_nil_of_le (Nat.le_refl _), List.drop_eq_nil_of_le (by have := HF.out; omega)]; rfl
    · have hne : ((p.funcs.length : Int) != (q.funcs.length : Int)) = true := by simp only [bne_iff_ne]; omega
      have hnw : ((p.widen.length : Int) != (q.widen.length : Int)) = false := by simp [hle]
      have HF : Hid (res = false) := by show _ = _; rw [HE.out, samFs_len hlf]; simp
      clear hle
      go_enter Tryd.func14, Tryd.ntmps14
      go_wp2_with fail
      go_ret
      exact ⟨ret_bool HF.out.symm, hb1⟩
  · have hne : ((p.widen.length : Int) != (q.widen.length : Int)) = true := by simp only [bne_iff_ne]; omega
    go_enter Tryd.func14, Tryd.ntmps14
    go_wp2_with fail
    go_ret
    exact ⟨ret_bool (by rw [HE.out, samI_len hle]; rfl), hb1⟩
end Go.Proofs.YtbpemackmadhgabDoor

/- page.stmt at its other kinds: those of one line, and loops. -/
namespace Go.Proofs.YtbpemackmadhgabDoor
open Go.RowKit Go.Sort

set_option maxRecDepth 100000 in
set_option maxHeartbeats 8000000 in
theorem stmt1 (w0 : World) (s : St) (hk : s.kind = 1) (hin : s.In w0) (ht : Tabs w0) (hnt : NumT w0) (hoa : OkE s.a) (hza : s.a.sz ≤ 1000000) : StmtPr w0 s := by
  intro b l d w hB hp hd hlen
  have HT : Hid (lineB d (cat [⟨#[108, 101, 116, 32]⟩, s.name, ⟨#[32, 61, 32]⟩, ⟨(txE s.a).toArray⟩, ⟨#[59]⟩]) = txS s d) := by
    show _ = _; cases s; simp only [St.kind] at hk; subst hk; simp [txS, cat, St.a, St.name]
  rw [← HT.out] at hlen ⊢
  have HLEN : Hid ((l ++ lineB d (cat [⟨#[108, 101, 116, 32]⟩, s.name, ⟨#[32, 61, 32]⟩, ⟨(txE s.a).toArray⟩, ⟨#[59]⟩])).length ≤ 140737488355328) := hlen
  obtain ⟨W0, hW0⟩ : ∃ W0, w.alloc (.cells #[.int .i64 1, .string s.name, .int .i64 s.n, .int .i64 s.a.kind, .int .i64 s.a.n, .string s.a.name, .slice s.a.a s.a.args.length s.a.cap, .int .i64 s.b.kind, .int .i64 s.b.n, .string s.b.name, .slice s.b.a s.b.args.length s.b.cap, .slice s.ba s.body.length s.bc, .slice s.ea s.els.length s.ec, .slice s.ca s.cases.length s.cc] 53) = W0 := ⟨_, rfl⟩
  have hbx : Below w.heap.size w W0 := by rw [← hW0]; exact (Below.refl _ w).alloc (Nat.le_refl _) _
  have hbk : W0.heap[w.heap.size]? = some (.cells #[.int .i64 1, .string s.name, .int .i64 s.n, .int .i64 s.a.kind, .int .i64 s.a.n, .string s.a.name, .slice s.a.a s.a.args.length s.a.cap, .int .i64 s.b.kind, .int .i64 s.b.n, .string s.b.name, .slice s.b.a s.b.args.length s.b.cap, .slice s.ba s.body.length s.bc, .slice s.ea s.els.length s.ec, .slice s.ca s.cases.length s.cc] 53 (0, 0)) := by rw [← hW0]; exact heap_alloc_new w _
  have hsw := hB.size
  have hB0 : Below w0.heap.size w0 W0 := hB.trans (hbx.mono hsw)
  have hsx : w0.heap.size ≤ W0.heap.size := hB0.size
  have hblt : b < w.heap.size := by obtain ⟨q, h1⟩ := hp.some; exact h1.lt
  have hne : w.heap.size ≠ b := by omega
  have HPX : Hid (PgT w0.heap.size b l d W0) := hp.stay hbx
  have HOX : Hid (Oth b w W0) := oth_below hbx
  have HBX : Hid (Below w0.heap.size w W0) := hbx.mono hsw
  have HXA : Hid (∀ w', Below W0.heap.size W0 w' → Calls Tryd.prog 81 #[.agg #[.int .i64 s.a.kind, .int .i64 s.a.n, .string s.a.name, .slice s.a.a s.a.args.length s.a.cap]] w' fun e w'' => e = .returned (sB (txE s.a)) ∧ Below w'.heap.size w' w'') := fun w' h => expr_any s.a w' ((St.in_iff.1 hin).2.2.2.1.stay (hB0.trans (h.mono hsx))) (ht.stay (hB0.trans (h.mono hsx))) (hnt.stay (hB0.trans (h.mono hsx))) hoa hza
  have y1 : ∀ w', Oth b W0 w' → w'.cell? ⟨w.heap.size, 1, none⟩ = some (.string s.name) := fun w' ho => oth_cell hbk (by decide) hne ho rfl
  have y3 : ∀ w', Oth b W0 w' → w'.cell? ⟨w.heap.size, 3, none⟩ = some (.int .i64 s.a.kind) := fun w' ho => oth_cell hbk (by decide) hne ho rfl
  have y4 : ∀ w', Oth b W0 w' → w'.cell? ⟨w.heap.size, 4, none⟩ = some (.int .i64 s.a.n) := fun w' ho => oth_cell hbk (by decide) hne ho rfl
  have y5 : ∀ w', Oth b W0 w' → w'.cell? ⟨w.heap.size, 5, none⟩ = some (.string s.a.name) := fun w' ho => oth_cell hbk (by decide) hne ho rfl
  have y6 : ∀ w', Oth b W0 w' → w'.cell? ⟨w.heap.size, 6, none⟩ = some (.slice s.a.a s.a.args.length s.a.cap) := fun w' ho => oth_cell hbk (by decide) hne ho rfl
  have HW0 := show Hid _ from hW0
  have hdrew : Below W0.heap.size W0 W0.drew := Below.drew (Below.refl _ _)
  clear hW0 hin ht hnt hp hlen hbx hbk hblt hB0 hB hoa hza
  unfold St.val
  rw [hk]
  go_enter Tryd.func64, Tryd.ntmps64
  go_wp2_with fail
  rw [HW0.out]
  clear HW0
  go_region_held3 (fun w' => Oth b W0 w') (first | exact oth_below (by assumption) | exact Lib.OthersKept.trans (by assumption) (oth_below (by assumption)) | exact Lib.OthersKept.alloc (by assumption) _ | assumption)
    (first
      | (go_at_call_of 81 (s.a.kind); refine (HXA.out _ (by assumption)).mono ?_; rintro e w' ⟨rfl, hb⟩; have hB : Below W0.heap.size W0 w' := Below.on (by assumption) hb)
      | (go_at_call 39; refine (line_in (xs := [⟨#[108, 101, 116, 32]⟩, s.name, ⟨#[32, 61, 32]⟩, ⟨(txE s.a).toArray⟩, ⟨#[59]⟩]) HPX.out (by assumption) hsx (Nat.le_of_ble_eq_true rfl) (by omega) HLEN.out).mono ?_; rintro e w' ⟨rfl, hpl, hbl, hol⟩))
  all_goals go_wp2_with fail
  all_goals go_end0
  all_goals exact ⟨rfl, hpl.out, HBX.out.trans hbl.out, HOX.out.trans hol⟩
end Go.Proofs.YtbpemackmadhgabDoor

/- page.stmt at its other kinds: those of one line, and loops. -/
namespace Go.Proofs.YtbpemackmadhgabDoor
open Go.RowKit Go.Sort

set_option maxRecDepth 100000 in
set_option maxHeartbeats 8000000 in
theorem stmt2 (w0 : World) (s : St) (hk : s.kind = 2) (hin : s.In w0) (hnt : NumT w0) : StmtPr w0 s := by
  intro b l d w hB hp hd hlen
  have HT : Hid (lineB d (cat [⟨#[108, 101, 116, 32]⟩, s.name, ⟨#[91]⟩, ⟨(Lib.itoa s.n).toArray⟩, ⟨#[93, 59]⟩]) = txS s d) := by
    show _ = _; cases s; simp only [St.kind] at hk; subst hk; simp [txS, cat, St.n, St.name]
  rw [← HT.out] at hlen ⊢
  have HLEN : Hid ((l ++ lineB d (cat [⟨#[108, 101, 116, 32]⟩, s.name, ⟨#[91]⟩, ⟨(Lib.itoa s.n).toArray⟩, ⟨#[93, 59]⟩])).length ≤ 140737488355328) := hlen
  obtain ⟨W0, hW0⟩ : ∃ W0, w.alloc (.cells #[.int .i64 2, .string s.name, .int .i64 s.n, .int .i64 s.a.kind, .int .i64 s.a.n, .string s.a.name, .slice s.a.a s.a.args.length s.a.cap, .int .i64 s.b.kind, .int .i64 s.b.n, .string s.b.name, .slice s.b.a s.b.args.length s.b.cap, .slice s.ba s.body.length s.bc, .slice s.ea s.els.length s.ec, .slice s.ca s.cases.length s.cc] 53) = W0 := ⟨_, rfl⟩
  have hbx : Below w.heap.size w W0 := by rw [← hW0]; exact (Below.refl _ w).alloc (Nat.le_refl _) _
  have hbk : W0.heap[w.heap.size]? = some (.cells #[.int .i64 2, .string s.name, .int .i64 s.n, .int .i64 s.a.kind, .int .i64 s.a.n, .string s.a.name, .slice s.a.a s.a.args.length s.a.cap, .int .i64 s.b.kind, .int .i64 s.b.n, .string s.b.name, .slice s.b.a s.b.args.length s.b.cap, .slice s.ba s.body.length s.bc, .slice s.ea s.els.length s.ec, .slice s.ca s.cases.length s.cc] 53 (0, 0)) := by rw [← hW0]; exact heap_alloc_new w _
  have hsw := hB.size
  have hB0 : Below w0.heap.size w0 W0 := hB.trans (hbx.mono hsw)
  have hsx : w0.heap.size ≤ W0.heap.size := hB0.size
  have hblt : b < w.heap.size := by obtain ⟨q, h1⟩ := hp.some; exact h1.lt
  have hne : w.heap.size ≠ b := by omega
  have HPX : Hid (PgT w0.heap.size b l d W0) := hp.stay hbx
  have HOX : Hid (Oth b w W0) := oth_below hbx
  have HBX : Hid (Below w0.heap.size w W0) := hbx.mono hsw
  have HXN : Hid (∀ w', Below W0.heap.size W0 w' → Calls Tryd.prog 42 #[.int .i64 s.n] w' fun e w'' => e = .returned (sB (Lib.itoa s.n)) ∧ Below w'.heap.size w' w'') := fun w' h => number_any s.n w' (St.in_iff.1 hin).2.2.1 (hnt.stay (hB0.trans (h.mono hsx)))
  have y1 : ∀ w', Oth b W0 w' → w'.cell? ⟨w.heap.size, 1, none⟩ = some (.string s.name) := fun w' ho => oth_cell hbk (by decide) hne ho rfl
  have y2 : ∀ w', Oth b W0 w' → w'.cell? ⟨w.heap.size, 2, none⟩ = some (.int .i64 s.n) := fun w' ho => oth_cell hbk (by decide) hne ho rfl
  have HW0 := show Hid _ from hW0
  have hdrew : Below W0.heap.size W0 W0.drew := Below.drew (Below.refl _ _)
  clear hW0 hin hnt hp hlen hbx hbk hblt hB0 hB
  unfold St.val
  rw [hk]
  go_enter Tryd.func64, Tryd.ntmps64
  go_wp2_with fail
  rw [HW0.out]
  clear HW0
  go_region_held3 (fun w' => Oth b W0 w') (first | exact oth_below (by assumption) | exact Lib.OthersKept.trans (by assumption) (oth_below (by assumption)) | exact Lib.OthersKept.alloc (by assumption) _ | assumption)
    (first
      | (go_at_call 42; refine (HXN.out _ (by assumption)).mono ?_; rintro e w' ⟨rfl, hb⟩; have hB : Below W0.heap.size W0 w' := Below.on (by assumption) hb)
      | (go_at_call 39; refine (line_in (xs := [⟨#[108, 101, 116, 32]⟩, s.name, ⟨#[91]⟩, ⟨(Lib.itoa s.n).toArray⟩, ⟨#[93, 59]⟩]) HPX.out (by assumption) hsx (Nat.le_of_ble_eq_true rfl) (by omega) HLEN.out).mono ?_; rintro e w' ⟨rfl, hpl, hbl, hol⟩))
  all_goals go_wp2_with fail
  all_goals go_end0
  all_goals exact ⟨rfl, hpl.out, HBX.out.trans hbl.out, HOX.out.trans hol⟩
end Go.Proofs.YtbpemackmadhgabDoor

/- page.stmt at its other kinds: those of one line, and loops. -/
namespace Go.Proofs.YtbpemackmadhgabDoor
open Go.RowKit Go.Sort

set_option maxRecDepth 100000 in
set_option maxHeartbeats 8000000 in
theorem stmt3 (w0 : World) (s : St) (hk : s.kind = 3) (hin : s.In w0) (ht : Tabs w0) (hnt : NumT w0) (hoa : OkE s.a) (hza : s.a.sz ≤ 1000000) : StmtPr w0 s := by
  intro b l d w hB hp hd hlen
  have HT : Hid (lineB d (cat [s.name, ⟨#[32, 61, 32]⟩, ⟨(txE s.a).toArray⟩, ⟨#[59]⟩]) = txS s d) := by
    show _ = _; cases s; simp only [St.kind] at hk; subst hk; simp [txS, cat, St.a, St.name]
  rw [← HT.out] at hlen ⊢
  have HLEN : Hid ((l ++ lineB d (cat [s.name, ⟨#[32, 61, 32]⟩, ⟨(txE s.a).toArray⟩, ⟨#[59]⟩])).length ≤ 140737488355328) := hlen
  obtain ⟨W0, hW0⟩ : ∃ W0, w.alloc (.cells #[.int .i64 3, .string s.name, .int .i64 s.n, .int .i64 s.a.kind, .int .i64 s.a.n, .string s.a.name, .slice s.a.a s.a.args.length s.a.cap, .int .i64 s.b.kind, .int .i64 s.b.n, .string s.b.name, .slice s.b.a s.b.args.length s.b.cap, .slice s.ba s.body.length s.bc, .slice s.ea s.els.length s.ec, .slice s.ca s.cases.length s.cc] 53) = W0 := ⟨_, rfl⟩
  have hbx : Below w.heap.size w W0 := by rw [← hW0]; exact (Below.refl _ w).alloc (Nat.le_refl _) _
  have hbk : W0.heap[w.heap.size]? = some (.cells #[.int .i64 3, .string s.name, .int .i64 s.n, .int .i64 s.a.kind, .int .i64 s.a.n, .string s.a.name, .slice s.a.a s.a.args.length s.a.cap, .int .i64 s.b.kind, .int .i64 s.b.n, .string s.b.name, .slice s.b.a s.b.args.length s.b.cap, .slice s.ba s.body.length s.bc, .slice s.ea s.els.length s.ec, .slice s.ca s.cases.length s.cc] 53 (0, 0)) := by rw [← hW0]; exact heap_alloc_new w _
  have hsw := hB.size
  have hB0 : Below w0.heap.size w0 W0 := hB.trans (hbx.mono hsw)
  have hsx : w0.heap.size ≤ W0.heap.size := hB0.size
  have hblt : b < w.heap.size := by obtain ⟨q, h1⟩ := hp.some; exact h1.lt
  have hne : w.heap.size ≠ b := by omega
  have HPX : Hid (PgT w0.heap.size b l d W0) := hp.stay hbx
  have HOX : Hid (Oth b w W0) := oth_below hbx
  have HBX : Hid (Below w0.heap.size w W0) := hbx.mono hsw
  have HXA : Hid (∀ w', Below W0.heap.size W0 w' → Calls Tryd.prog 81 #[.agg #[.int .i64 s.a.kind, .int .i64 s.a.n, .string s.a.name, .slice s.a.a s.a.args.length s.a.cap]] w' fun e w'' => e = .returned (sB (txE s.a)) ∧ Below w'.heap.size w' w'') := fun w' h => expr_any s.a w' ((St.in_iff.1 hin).2.2.2.1.stay (hB0.trans (h.mono hsx))) (ht.stay (hB0.trans (h.mono hsx))) (hnt.stay (hB0.trans (h.mono hsx))) hoa hza
  have y1 : ∀ w', Oth b W0 w' → w'.cell? ⟨w.heap.size, 1, none⟩ = some (.string s.name) := fun w' ho => oth_cell hbk (by decide) hne ho rfl
  have y3 : ∀ w', Oth b W0 w' → w'.cell? ⟨w.heap.size, 3, none⟩ = some (.int .i64 s.a.kind) := fun w' ho => oth_cell hbk (by decide) hne ho rfl
  have y4 : ∀ w', Oth b W0 w' → w'.cell? ⟨w.heap.size, 4, none⟩ = some (.int .i64 s.a.n) := fun w' ho => oth_cell hbk (by decide) hne ho rfl
  have y5 : ∀ w', Oth b W0 w' → w'.cell? ⟨w.heap.size, 5, none⟩ = some (.string s.a.name) := fun w' ho => oth_cell hbk (by decide) hne ho rfl
  have y6 : ∀ w', Oth b W0 w' → w'.cell? ⟨w.heap.size, 6, none⟩ = some (.slice s.a.a s.a.args.length s.a.cap) := fun w' ho => oth_cell hbk (by decide) hne ho rfl
  have HW0 := show Hid _ from hW0
  have hdrew : Below W0.heap.size W0 W0.drew := Below.drew (Below.refl _ _)
  clear hW0 hin ht hnt hp hlen hbx hbk hblt hB0 hB hoa hza
  unfold St.val
  rw [hk]
  go_enter Tryd.func64, Tryd.ntmps64
  go_wp2_with fail
  rw [HW0.out]
  clear HW0
  go_region_held3 (fun w' => Oth b W0 w') (first | exact oth_below (by assumption) | exact Lib.OthersKept.trans (by assumption) (oth_below (by assumption)) | exact Lib.OthersKept.alloc (by assumption) _ | assumption)
    (first
      | (go_at_call_of 81 (s.a.kind); refine (HXA.out _ (by assumption)).mono ?_; rintro e w' ⟨rfl, hb⟩; have hB : Below W0.heap.size W0 w' := Below.on (by assumption) hb)
      | (go_at_call 39; refine (line_in (xs := [s.name, ⟨#[32, 61, 32]⟩, ⟨(txE s.a).toArray⟩, ⟨#[59]⟩]) HPX.out (by assumption) hsx (Nat.le_of_ble_eq_true rfl) (by omega) HLEN.out).mono ?_; rintro e w' ⟨rfl, hpl, hbl, hol⟩))
  all_goals go_wp2_with fail
  all_goals go_end0
  all_goals exact ⟨rfl, hpl.out, HBX.out.trans hbl.out, HOX.out.trans hol⟩
end Go.Proofs.YtbpemackmadhgabDoor

/- page.stmt at its other kinds: those of one line, and loops. -/
namespace Go.Proofs.YtbpemackmadhgabDoor
open Go.RowKit Go.Sort

set_option maxRecDepth 100000 in
set_option maxHeartbeats 8000000 in
theorem stmt4 (w0 : World) (s : St) (hk : s.kind = 4) (hin : s.In w0) (ht : Tabs w0) (hnt : NumT w0) (hoa : OkE s.a) (hza : s.a.sz ≤ 1000000) (hob : OkE s.b) (hzb : s.b.sz ≤ 1000000) : StmtPr w0 s := by
  intro b l d w hB hp hd hlen
  have HT : Hid (lineB d (cat [s.name, ⟨#[91]⟩, ⟨(txE s.a).toArray⟩, ⟨#[93, 32, 61, 32]⟩, ⟨(txE s.b).toArray⟩, ⟨#[59]⟩]) = txS s d) := by
    show _ = _; cases s; simp only [St.kind] at hk; subst hk; simp [txS, cat, St.a, St.b, St.name]
  rw [← HT.out] at hlen ⊢
  have HLEN : Hid ((l ++ lineB d (cat [s.name, ⟨#[91]⟩, ⟨(txE s.a).toArray⟩, ⟨#[93, 32, 61, 32]⟩, ⟨(txE s.b).toArray⟩, ⟨#[59]⟩])).length ≤ 140737488355328) := hlen
  obtain ⟨W0, hW0⟩ : ∃ W0, w.alloc (.cells #[.int .i64 4, .string s.name, .int .i64 s.n, .int .i64 s.a.kind, .int .i64 s.a.n, .string s.a.name, .slice s.a.a s.a.args.length s.a.cap, .int .i64 s.b.kind, .int .i64 s.b.n, .string s.b.name, .slice s.b.a s.b.args.length s.b.cap, .slice s.ba s.body.length s.bc, .slice s.ea s.els.length s.ec, .slice s.ca s.cases.length s.cc] 53) = W0 := ⟨_, rfl⟩
  have hbx : Below w.heap.size w W0 := by rw [← hW0]; exact (Below.refl _ w).alloc (Nat.le_refl _) _
  have hbk : W0.heap[w.heap.size]? = some (.cells #[.int .i64 4, .string s.name, .int .i64 s.n, .int .i64 s.a.kind, .int .i64 s.a.n, .string s.a.name, .slice s.a.a s.a.args.length s.a.cap, .int .i64 s.b.kind, .int .i64 s.b.n, .string s.b.name, .slice s.b.a s.b.args.length s.b.cap, .slice s.ba s.body.length s.bc, .slice s.ea s.els.length s.ec, .slice s.ca s.cases.length s.cc] 53 (0, 0)) := by rw [← hW0]; exact heap_alloc_new w _
  have hsw := hB.size
  have hB0 : Below w0.heap.size w0 W0 := hB.trans (hbx.mono hsw)
  have hsx : w0.heap.size ≤ W0.heap.size := hB0.size
  have hblt : b < w.heap.size := by obtain ⟨q, h1⟩ := hp.some; exact h1.lt
  have hne : w.heap.size ≠ b := by omega
  have HPX : Hid (PgT w0.heap.size b l d W0) := hp.stay hbx
  have HOX : Hid (Oth b w W0) := oth_below hbx
  have HBX : Hid (Below w0.heap.size w W0) := hbx.mono hsw
  have HXA : Hid (∀ w', Below W0.heap.size W0 w' → Calls Tryd.prog 81 #[.agg #[.int .i64 s.a.kind, .int .i64 s.a.n, .string s.a.name, .slice s.a.a s.a.args.length s.a.cap]] w' fun e w'' => e = .returned (sB (txE s.a)) ∧ Below w'.heap.size w' w'') := fun w' h => expr_any s.a w' ((St.in_iff.1 hin).2.2.2.1.stay (hB0.trans (h.mono hsx))) (ht.stay (hB0.trans (h.mono hsx))) (hnt.stay (hB0.trans (h.mono hsx))) hoa hza
  have HXB : Hid (∀ w', Below W0.heap.size W0 w' → Calls Tryd.prog 81 #[.agg #[.int .i64 s.b.kind, .int .i64 s.b.n, .string s.b.name, .slice s.b.a s.b.args.length s.b.cap]] w' fun e w'' => e = .returned (sB (txE s.b)) ∧ Below w'.heap.size w' w'') := fun w' h => expr_any s.b w' ((St.in_iff.1 hin).2.2.2.2.1.stay (hB0.trans (h.mono hsx))) (ht.stay (hB0.trans (h.mono hsx))) (hnt.stay (hB0.trans (h.mono hsx))) hob hzb
  have y1 : ∀ w', Oth b W0 w' → w'.cell? ⟨w.heap.size, 1, none⟩ = some (.string s.name) := fun w' ho => oth_cell hbk (by decide) hne ho rfl
  have y3 : ∀ w', Oth b W0 w' → w'.cell? ⟨w.heap.size, 3, none⟩ = some (.int .i64 s.a.kind) := fun w' ho => oth_cell hbk (by decide) hne ho rfl
  have y4 : ∀ w', Oth b W0 w' → w'.cell? ⟨w.heap.size, 4, none⟩ = some (.int .i64 s.a.n) := fun w' ho => oth_cell hbk (by decide) hne ho rfl
  have y5 : ∀ w', Oth b W0 w' → w'.cell? ⟨w.heap.size, 5, none⟩ = some (.string s.a.name) := fun w' ho => oth_cell hbk (by decide) hne ho rfl
  have y6 : ∀ w', Oth b W0 w' → w'.cell? ⟨w.heap.size, 6, none⟩ = some (.slice s.a.a s.a.args.length s.a.cap) := fun w' ho => oth_cell hbk (by decide) hne ho rfl
  have y7 : ∀ w', Oth b W0 w' → w'.cell? ⟨w.heap.size, 7, none⟩ = some (.int .i64 s.b.kind) := fun w' ho => oth_cell hbk (by decide) hne ho rfl
  have y8 : ∀ w', Oth b W0 w' → w'.cell? ⟨w.heap.size, 8, none⟩ = some (.int .i64 s.b.n) := fun w' ho => oth_cell hbk (by decide) hne ho rfl
  have y9 : ∀ w', Oth b W0 w' → w'.cell? ⟨w.heap.size, 9, none⟩ = some (.string s.b.name) := fun w' ho => oth_cell hbk (by decide) hne ho rfl
  have y10 : ∀ w', Oth b W0 w' → w'.cell? ⟨w.heap.size, 10, none⟩ = some (.slice s.b.a s.b.args.length s.b.cap) := fun w' ho => oth_cell hbk (by decide) hne ho rfl
  have HW0 := show Hid _ from hW0
  have hdrew : Below W0.heap.size W0 W0.drew := Below.drew (Below.refl _ _)
  clear hW0 hin ht hnt hp hlen hbx hbk hblt hB0 hB hoa hza hob hzb
  unfold St.val
  rw [hk]
  go_enter Tryd.func64, Tryd.ntmps64
  go_wp2_with fail
  rw [HW0.out]
  clear HW0
  go_region_held3 (fun w' => Oth b W0 w') (first | exact oth_below (by assumption) | exact Lib.OthersKept.trans (by assumption) (oth_below (by assumption)) | exact Lib.OthersKept.alloc (by assumption) _ | assumption)
    (first
      | (go_at_call_of 81 (s.a.kind); refine (HXA.out _ (by assumption)).mono ?_; rintro e w' ⟨rfl, hb⟩; have hB : Below W0.heap.size W0 w' := Below.on (by assumption) hb)
      | (go_at_call_of 81 (s.b.kind); refine (HXB.out _ (by assumption)).mono ?_; rintro e w' ⟨rfl, hb⟩; have hB : Below W0.heap.size W0 w' := Below.on (by assumption) hb)
      | (go_at_call 39; refine (line_in (xs := [s.name, ⟨#[91]⟩, ⟨(txE s.a).toArray⟩, ⟨#[93, 32, 61, 32]⟩, ⟨(txE s.b).toArray⟩, ⟨#[59]⟩]) HPX.out (by assumption) hsx (Nat.le_of_ble_eq_true rfl) (by omega) HLEN.out).mono ?_; rintro e w' ⟨rfl, hpl, hbl, hol⟩))
  all_goals go_wp2_with fail
  all_goals go_end0
  all_goals exact ⟨rfl, hpl.out, HBX.out.trans hbl.out, HOX.out.trans hol⟩
end Go.Proofs.YtbpemackmadhgabDoor

/- page.choice, and page.stmt at an if. -/
namespace Go.Proofs.YtbpemackmadhgabDoor
open Go.RowKit Go.Sort

def txCh (s : St) (d : Nat) : List UInt8 := lineB d (cat [⟨#[105, 102, 32]⟩, ⟨(txE s.a).toArray⟩, ⟨#[32, 123]⟩]) ++ txSs s.body (d + 1) ++ (if s.els.length = 0 then [] else lineB d (cat [⟨#[125, 32, 101, 108, 115, 101, 32, 123]⟩]) ++ txSs s.els (d + 1)) ++ lineB d (cat [⟨#[125]⟩])

set_option maxRecDepth 100000 in
set_option maxHeartbeats 8000000 in
theorem choice_any (w0 : World) (D : Nat) (s : St) (hin : s.In w0) (ht : Tabs w0) (hnt : NumT w0) (hoa : OkE s.a) (hza : s.a.sz ≤ 1000000) (hD : D ≤ 89) (hs : ∀ x ∈ s.body, StmtD w0 (D + 1) x) (hs2 : ∀ x ∈ s.els, StmtD w0 (D + 1) x)
    (b : Nat) (l : List UInt8) (d : Nat) (w : World) (hB : Below w0.heap.size w0 w) (hp : PgT w0.heap.size b l d w) (hd : d ≤ D) (hlen : (l ++ txCh s d).length ≤ 140737488355328) :
    Calls Tryd.prog 82 #[.pointer (some ⟨b, 0, none⟩), s.val] w fun e w' => e = .returned (.tuple #[]) ∧ PgT w0.heap.size b (l ++ txCh s d) d w' ∧ Below w0.heap.size w w' ∧ Oth b w w' := by
  have HL : Hid ((l ++ txCh s d).length ≤ 140737488355328) := hlen
  obtain ⟨W0, hW0⟩ : ∃ W0, w.alloc (.cells #[.int .i64 s.kind, .string s.name, .int .i64 s.n, .int .i64 s.a.kind, .int .i64 s.a.n, .string s.a.name, .slice s.a.a s.a.args.length s.a.cap, .int .i64 s.b.kind, .int .i64 s.b.n, .string s.b.name, .slice s.b.a s.b.args.length s.b.cap, .slice s.ba s.body.length s.bc, .slice s.ea s.els.length s.ec, .slice s.ca s.cases.length s.cc] 53) = W0 := ⟨_, rfl⟩
  have hbx : Below w.heap.size w W0 := by rw [← hW0]; exact (Below.refl _ w).alloc (Nat.le_refl _) _
  have hbk : W0.heap[w.heap.size]? = some (.cells #[.int .i64 s.kind, .string s.name, .int .i64 s.n, .int .i64 s.a.kind, .int .i64 s.a.n, .string s.a.name, .slice s.a.a s.a.args.length s.a.cap, .int .i64 s.b.kind, .int .i64 s.b.n, .string s.b.name, .slice s.b.a s.b.args.length s.b.cap, .slice s.ba s.body.length s.bc, .slice s.ea s.els.length s.ec, .slice s.ca s.cases.length s.cc] 53 (0, 0)) := by rw [← hW0]; exact heap_alloc_new w _
  have hsw := hB.size
  have hB0 : Below w0.heap.size w0 W0 := hB.trans (hbx.mono hsw)
  have hsx : w0.heap.size ≤ W0.heap.size := hB0.size
  have hblt : b < w.heap.size := by obtain ⟨q, h1⟩ := hp.some; exact h1.lt
  have hne : w.heap.size ≠ b := by omega
  have HPX : Hid (PgT w0.heap.size b l d W0) := hp.stay hbx
  have HOX : Hid (Oth b w W0) := oth_below hbx
  have HBX : Hid (Below w0.heap.size w W0) := hbx.mono hsw
  have HBB0 : Hid (Below w0.heap.size w0 W0) := hB0
  have HXA : Hid (Calls Tryd.prog 81 #[.agg #[.int .i64 s.a.kind, .int .i64 s.a.n, .string s.a.name, .slice s.a.a s.a.args.length s.a.cap]] W0 fun e w'' => e = .returned (sB (txE s.a)) ∧ Below W0.heap.size W0 w'') := expr_any s.a W0 ((St.in_iff.1 hin).2.2.2.1.stay hB0) (ht.stay hB0) (hnt.stay hB0) hoa hza
  have HY11 : Hid (∀ w', Oth b W0 w' → w'.cell? ⟨w.heap.size, 11, none⟩ = some (.slice s.ba s.body.length s.bc)) := fun w' ho => oth_cell hbk (by decide) hne ho rfl
  have HY12 : Hid (∀ w', Oth b W0 w' → w'.cell? ⟨w.heap.size, 12, none⟩ = some (.slice s.ea s.els.length s.ec)) := fun w' ho => oth_cell hbk (by decide) hne ho rfl
  have HIN : Hid (s.In w0) := hin
  have HSS : Hid (∀ x ∈ s.body, StmtD w0 (D + 1) x) := hs
  have HSE : Hid (∀ x ∈ s.els, StmtD w0 (D + 1) x) := hs2
  obtain ⟨hel, hec, _, _⟩ := (St.in_iff.1 hin).2.2.2.2.2.2.1.1
  have HW0 := show Hid _ from hW0
  clear hW0 hin ht hnt hoa hza hp hlen hbx hbk hblt hB0 hB hs hs2
  obtain ⟨res, hres⟩ : ∃ res, l ++ txCh s d = res := ⟨_, rfl⟩
  have HRES : Hid (l ++ txCh s d = res) := hres
  rw [hres] at HL ⊢
  clear hres
  have HF1 : Hid ((l ++ lineB d (cat [⟨#[105, 102, 32]⟩, ⟨(txE s.a).toArray⟩, ⟨#[32, 123]⟩])).length ≤ 140737488355328 ∧ ((l ++ lineB d (cat [⟨#[105, 102, 32]⟩, ⟨(txE s.a).toArray⟩, ⟨#[32, 123]⟩])) ++ txSs s.body (d + 1)).length ≤ 140737488355328) := by
    have h := HL.out
    rw [← HRES.out, txCh] at h
    simp only [List.length_append] at h
    refine ⟨?_, ?_⟩ <;> simp only [List.length_append] <;> omega
  unfold St.val
  go_enter Tryd.func82, Tryd.ntmps82
  go_wp2_with fail
  rw [HW0.out]
  clear HW0
  refine HXA.out.mono ?_
  rintro e w1 ⟨rfl, hb1⟩
  have hs1 := hb1.size
  go_wp2_with fail
  refine (line_new w0.heap.size b l d [⟨#[105, 102, 32]⟩, ⟨(txE s.a).toArray⟩, ⟨#[32, 123]⟩] w1 (HPX.out.stay hb1) (by omega) (Nat.le_of_ble_eq_true rfl) (by omega) HF1.out.1).mono ?_
  rintro e w2 ⟨rfl, hp2, hb2, ho2⟩
  have HP2 : Hid (PgT w0.heap.size b (l ++ lineB d (cat [⟨#[105, 102, 32]⟩, ⟨(txE s.a).toArray⟩, ⟨#[32, 123]⟩])) d w2) := hp2
  have HO2 : Hid (Oth b W0 w2) := ((oth_below hb1).alloc _).trans ho2
  have HB2 : Hid (Below w0.heap.size W0 w2) := ((hb1.mono hsx).alloc (by omega) _).trans hb2
  have y11 := HY11.out _ HO2.out
  clear hp2 hb1 hb2 ho2 hs1 HXA
  go_wp2_with fail
  refine (bodyD w0 (D + 1) b _ d s.body s.ba s.bc w2 (HBB0.out.trans HB2.out) HP2.out (by omega) (by omega) (St.in_iff.1 HIN.out).2.2.2.2.2.1 HSS.out HF1.out.2).mono ?_
  rintro e w3 ⟨rfl, hp3, hb3, ho3⟩
  have HP3 : Hid (PgT w0.heap.size b ((l ++ lineB d (cat [⟨#[105, 102, 32]⟩, ⟨(txE s.a).toArray⟩, ⟨#[32, 123]⟩])) ++ txSs s.body (d + 1)) d w3) := hp3
  have HO3 : Hid (Oth b W0 w3) := HO2.out.trans ho3
  have HB3 : Hid (Below w0.heap.size W0 w3) := HB2.out.trans hb3
  have hs3 : w0.heap.size ≤ w3.heap.size := (HBB0.out.trans HB3.out).size
  have y12 := HY12.out _ HO3.out
  clear hp3 hb3 ho3 y11
  by_cases he : 0 < s.els.length
  · have hei : (0 : Int) < (s.els.length : Int) := by omega
    have HEQ : Hid ((((((l ++ lineB d (cat [⟨#[105, 102, 32]⟩, ⟨(txE s.a).toArray⟩, ⟨#[32, 123]⟩])) ++ txSs s.body (d + 1)) ++ lineB d (cat [⟨#[125, 32, 101, 108, 115, 101, 32, 123]⟩])) ++ txSs s.els (d + 1)) ++ lineB d (cat [⟨#[125]⟩])) = res) := by
      show _ = _
      rw [← HRES.out, txCh, if_neg (by omega)]
      simp only [List.append_assoc]
    have HF2 : Hid ((((l ++ lineB d (cat [⟨#[105, 102, 32]⟩, ⟨(txE s.a).toArray⟩, ⟨#[32, 123]⟩])) ++ txSs s.body (d + 1)) ++ lineB d (cat [⟨#[125, 32, 101, 108, 115, 101, 32, 123]⟩])).length ≤ 140737488355328 ∧ ((((l ++ lineB d (cat [⟨#[105, 102, 32]⟩, ⟨(txE s.a).toArray⟩, ⟨#[32, 123]⟩])) ++ txSs s.body (d + 1)) ++ lineB d (cat [⟨#[125, 32, 101, 108, 115, 101, 32, 123]⟩])) ++ txSs s.els (d + 1)).length ≤ 140737488355328 ∧ (((((l ++ lineB d (cat [⟨#[105, 102, 32]⟩, ⟨(txE s.a).toArray⟩, ⟨#[32, 123]⟩])) ++ txSs s.body (d + 1)) ++ lineB d (cat [⟨#[125, 32, 101, 108, 115, 101, 32, 123]⟩])) ++ txSs s.els (d + 1)) ++ lineB d (cat [⟨#[125]⟩])).length ≤ 140737488355328) := by
      have h := HL.out
      rw [← HEQ.out] at h
      simp only [List.length_append] at h
      refine ⟨?_, ?_, ?_⟩ <;> simp only [List.length_append] <;> omega
    go_wp2_with fail
    refine (line_new w0.heap.size b _ d [⟨#[125, 32, 101, 108, 115, 101, 32, 123]⟩] w3 HP3.out hs3 (Nat.le_of_ble_eq_true rfl) (by omega) HF2.out.1).mono ?_
    rintro e w4 ⟨rfl, hp4, hb4, ho4⟩
    have HP4 : Hid (PgT w0.heap.size b (((l ++ lineB d (cat [⟨#[105, 102, 32]⟩, ⟨(txE s.a).toArray⟩, ⟨#[32, 123]⟩])) ++ txSs s.body (d + 1)) ++ lineB d (cat [⟨#[125, 32, 101, 108, 115, 101, 32, 123]⟩])) d w4) := hp4
    have HO4 : Hid (Oth b W0 w4) := HO3.out.trans (((Lib.OthersKept.refl _ _ w3).alloc _).trans ho4)
    have HB4 : Hid (Below w0.heap.size W0 w4) := HB3.out.trans (((Below.refl _ w3).alloc hs3 _).trans hb4)
    have z12 := HY12.out _ HO4.out
    clear hp4 hb4 ho4 y12
    go_wp2_with fail
    refine (bodyD w0 (D + 1) b _ d s.els s.ea s.ec w4 (HBB0.out.trans HB4.out) HP4.out (by omega) (by omega) (St.in_iff.1 HIN.out).2.2.2.2.2.2.1 HSE.out HF2.out.2.1).mono ?_
    rintro e w5 ⟨rfl, hp5, hb5, ho5⟩
    have HP5 : Hid (PgT w0.heap.size b ((((l ++ lineB d (cat [⟨#[105, 102, 32]⟩, ⟨(txE s.a).toArray⟩, ⟨#[32, 123]⟩])) ++ txSs s.body (d + 1)) ++ lineB d (cat [⟨#[125, 32, 101, 108, 115, 101, 32, 123]⟩])) ++ txSs s.els (d + 1)) d w5) := hp5
    have HO5 : Hid (Oth b W0 w5) := HO4.out.trans ho5
    have HB5 : Hid (Below w0.heap.size W0 w5) := HB4.out.trans hb5
    have hs5 : w0.heap.size ≤ w5.heap.size := (HBB0.out.trans HB5.out).size
    clear hp5 hb5 ho5 z12
    go_wp2_with fail
    refine (line_new w0.heap.size b _ d [⟨#[125]⟩] w5 HP5.out hs5 (Nat.le_of_ble_eq_true rfl) (by omega) HF2.out.2.2).mono ?_
    rintro e w6 ⟨rfl, hp6, hb6, ho6⟩
    have HP6 : Hid (PgT w0.heap.size b res d w6) := by show PgT _ _ _ _ _; rw [← HEQ.out]; exact hp6
    clear hp6
    go_wp2_with fail
    go_end0
    exact ⟨rfl, HP6.out, HBX.out.trans (HB5.out.trans (((Below.refl _ w5).alloc hs5 _).trans hb6)), HOX.out.trans (HO5.out.trans (((Lib.OthersKept.refl _ _ w5).alloc _).trans ho6))⟩
  · have hei : ¬ (0 : Int) < (s.els.length : Int) := by omega
    have HEQ : Hid ((((l ++ lineB d (cat [⟨#[105, 102, 32]⟩, ⟨(txE s.a).toArray⟩, ⟨#[32, 123]⟩])) ++ txSs s.body (d + 1)) ++ lineB d (cat [⟨#[125]⟩])) = res) := by
      show _ = _
      rw [← HRES.out, txCh, if_pos (by omega)]
      simp only [List.append_assoc, List.nil_append]
    have HF2 : Hid ((((l ++ lineB d (cat [⟨#[105, 102, 32]⟩, ⟨(txE s.a).toArray⟩, ⟨#[32, 123]⟩])) ++ txSs s.body (d + 1)) ++ lineB d (cat [⟨#[125]⟩])).length ≤ 140737488355328) := by show _ ≤ _; rw [HEQ.out]; exact HL.out
    go_wp2_with fail
    refine (line_new w0.heap.size b _ d [⟨#[125]⟩] w3 HP3.out hs3 (Nat.le_of_ble_eq_true rfl) (by omega) HF2.out).mono ?_
    rintro e w6 ⟨rfl, hp6, hb6, ho6⟩
    have HP6 : Hid (PgT w0.heap.size b res d w6) := by show PgT _ _ _ _ _; rw [← HEQ.out]; exact hp6
    clear hp6 y12
    go_wp2_with fail
    go_end0
    exact ⟨rfl, HP6.out, HBX.out.trans (HB3.out.trans (((Below.refl _ w3).alloc hs3 _).trans hb6)), HOX.out.trans (HO3.out.trans (((Lib.OthersKept.refl _ _ w3).alloc _).trans ho6))⟩

set_option maxRecDepth 100000 in
set_option maxHeartbeats 8000000 in
theorem stmt5 (w0 : World) (s : St) (hk : s.kind = 5) (hin : s.In w0) (ht : Tabs w0) (hnt : NumT w0) (hoa : OkE s.a) (hza : s.a.sz ≤ 1000000) (D : Nat) (hD : D ≤ 89) (hs : ∀ x ∈ s.body, StmtD w0 (D + 1) x) (hs2 : ∀ x ∈ s.els, StmtD w0 (D + 1) x) : StmtD w0 D s := by
  intro b l d w hB hp hd hlen
  have HT : Hid (txCh s d = txS s d) := by
    show _ = _; cases s; simp only [St.kind] at hk; subst hk; simp [txCh, txS, cat, St.a, St.els, St.body]
  rw [← HT.out] at hlen ⊢
  obtain ⟨W0, hW0⟩ : ∃ W0, w.alloc (.cells #[.int .i64 5, .string s.name, .int .i64 s.n, .int .i64 s.a.kind, .int .i64 s.a.n, .string s.a.name, .slice s.a.a s.a.args.length s.a.cap, .int .i64 s.b.kind, .int .i64 s.b.n, .string s.b.name, .slice s.b.a s.b.args.length s.b.cap, .slice s.ba s.body.length s.bc, .slice s.ea s.els.length s.ec, .slice s.ca s.cases.length s.cc] 53) = W0 := ⟨_, rfl⟩
  have hbx : Below w.heap.size w W0 := by rw [← hW0]; exact (Below.refl _ w).alloc (Nat.le_refl _) _
  have hsw := hB.size
  have hB0 : Below w0.heap.size w0 W0 := hB.trans (hbx.mono hsw)
  have HQ := show Hid _ from choice_any w0 D s hin ht hnt hoa hza hD hs hs2 b l d W0 hB0 (hp.stay hbx) hd hlen
  have HBX : Hid (Below w0.heap.size w W0 ∧ Oth b w W0) := ⟨hbx.mono hsw, oth_below hbx⟩
  have HW0 := show Hid _ from hW0
  clear hW0 hin ht hnt hoa hza hp hlen hbx hB0 hB hs hs2 HT
  unfold St.val at HQ ⊢
  rw [hk] at HQ ⊢
  generalize txCh s d = tx at HQ ⊢
  go_enter Tryd.func64, Tryd.ntmps64
  go_wp2_with fail
  rw [HW0.out]
  refine Calls.mono (show Calls Tryd.prog _ _ _ _ from HQ.out) ?_
  rintro e w2 ⟨rfl, hp2, hb2, ho2⟩
  have HP2 : Hid (PgT w0.heap.size b (l ++ tx) d w2) := hp2
  clear hp2 HQ
  go_wp2_with fail
  go_end0
  exact ⟨rfl, HP2.out, HBX.out.1.trans hb2, HBX.out.2.trans ho2⟩
end Go.Proofs.YtbpemackmadhgabDoor

/- page.choices, and page.stmt at a switch. -/
namespace Go.Proofs.YtbpemackmadhgabDoor
open Go.RowKit Go.Sort

theorem txCs_take (l : List Ca) (d j : Nat) (h : j < l.length) : txCs (l.take (j + 1)) d = txCs (l.take j) d ++ txC l[j] d := by
  induction l generalizing j with
  | nil => simp at h
  | cons x r ih =>
    cases j with
    | zero => simp [txCs]
    | succ j =>
      have := ih j (by simpa using h)
      rw [List.take_succ_cons, List.take_succ_cons, txCs, txCs, this]; simp
theorem txCs_le (l : List Ca) (d j : Nat) : (txCs (l.take j) d).length ≤ (txCs l d).length := by
  induction l generalizing j with
  | nil => simp
  | cons x r ih =>
    cases j with
    | zero => simp [txCs]
    | succ j => rw [List.take_succ_cons, txCs, txCs]; simp only [List.length_append]; have := ih j; omega
theorem txC_eq (y : Ca) (d : Nat) : txC y (d + 1) = lineB (d + 1) (cat [⟨#[99, 97, 115, 101, 32]⟩, ⟨(Lib.itoa y.n).toArray⟩, ⟨#[32, 123]⟩]) ++ txSs y.body (d + 1 + 1) ++ lineB (d + 1) (cat [⟨#[125]⟩]) := by
  cases y; simp [txC, cat, Ca.n, Ca.body]
def txSw (s : St) (d : Nat) : List UInt8 := lineB d (cat [⟨#[115, 119, 105, 116, 99, 104, 32]⟩, ⟨(txE s.a).toArray⟩, ⟨#[32, 123]⟩]) ++ txCs s.cases (d + 1) ++ (if s.els.length = 0 then [] else lineB (d + 1) (cat [⟨#[101, 108, 115, 101, 32, 123]⟩]) ++ txSs s.els (d + 1 + 1) ++ lineB (d + 1) (cat [⟨#[125]⟩])) ++ lineB d (cat [⟨#[125]⟩])
theorem pg_deep {B b : Nat} {l : List UInt8} {d d' : Nat} {w : World} (h : PgT B b l d w) : PgT B b l d' (w.setCell ⟨b, 2, none⟩ (.int .i64 d')) := by
  rcases h with h | h
  · exact .inl (h.deep _)
  · exact .inr (h.deep _)
theorem pg_cell {B b : Nat} {l : List UInt8} {d : Nat} {w : World} (h : PgT B b l d w) : w.cell? ⟨b, 2, none⟩ = some (.int .i64 d) ∧ w.frozen? ⟨b, 2, none⟩ = false ∧ B ≤ b ∧ b < w.heap.size := by
  obtain ⟨p, h1⟩ := h.some
  refine ⟨?_, h1.frozen 2, h1.1, h1.lt⟩
  obtain ⟨ao, cp, hbk, _⟩ := h1.slice
  rw [Lib.cell_of_heap hbk]; rfl

set_option maxRecDepth 100000 in
set_option maxHeartbeats 8000000 in
theorem choices_any (w0 : World) (D : Nat) (s : St) (hin : s.In w0) (ht : Tabs w0) (hnt : NumT w0) (hoa : OkE s.a) (hza : s.a.sz ≤ 1000000) (hD : D ≤ 88) (hs : ∀ c ∈ s.cases, ∀ x ∈ c.body, StmtD w0 (D + 2) x) (hs2 : ∀ x ∈ s.els, StmtD w0 (D + 2) x)
    (b : Nat) (l : List UInt8) (d : Nat) (w : World) (hB : Below w0.heap.size w0 w) (hp : PgT w0.heap.size b l d w) (hd : d ≤ D) (hlen : (l ++ txSw s d).length ≤ 140737488355328) :
    Calls Tryd.prog 83 #[.pointer (some ⟨b, 0, none⟩), s.val] w fun e w' => e = .returned (.tuple #[]) ∧ PgT w0.heap.size b (l ++ txSw s d) d w' ∧ Below w0.heap.size w w' ∧ Oth b w w' := by
  have HL : Hid ((l ++ txSw s d).length ≤ 140737488355328) := hlen
  obtain ⟨W0, hW0⟩ : ∃ W0, w.alloc (.cells #[.int .i64 s.kind, .string s.name, .int .i64 s.n, .int .i64 s.a.kind, .int .i64 s.a.n, .string s.a.name, .slice s.a.a s.a.args.length s.a.cap, .int .i64 s.b.kind, .int .i64 s.b.n, .string s.b.name, .slice s.b.a s.b.args.length s.b.cap, .slice s.ba s.body.length s.bc, .slice s.ea s.els.length s.ec, .slice s.ca s.cases.length s.cc] 53) = W0 := ⟨_, rfl⟩
  have hbx : Below w.heap.size w W0 := by rw [← hW0]; exact (Below.refl _ w).alloc (Nat.le_refl _) _
  have hbk : W0.heap[w.heap.size]? = some (.cells #[.int .i64 s.kind, .string s.name, .int .i64 s.n, .int .i64 s.a.kind, .int .i64 s.a.n, .string s.a.name, .slice s.a.a s.a.args.length s.a.cap, .int .i64 s.b.kind, .int .i64 s.b.n, .string s.b.name, .slice s.b.a s.b.args.length s.b.cap, .slice s.ba s.body.length s.bc, .slice s.ea s.els.length s.ec, .slice s.ca s.cases.length s.cc] 53 (0, 0)) := by rw [← hW0]; exact heap_alloc_new w _
  have hsw := hB.size
  have hB0 : Below w0.heap.size w0 W0 := hB.trans (hbx.mono hsw)
  have hsx : w0.heap.size ≤ W0.heap.size := hB0.size
  have hblt : b < w.heap.size := (pg_cell hp).2.2.2
  have hBb : w0.heap.size ≤ b := (pg_cell hp).2.2.1
  have hne : w.heap.size ≠ b := by omega
  have hne' : b ≠ w.heap.size := by omega
  have HPX : Hid (PgT w0.heap.size b l d W0) := hp.stay hbx
  have HOX : Hid (Oth b w W0) := oth_below hbx
  have HBX : Hid (Below w0.heap.size w W0) := hbx.mono hsw
  have HBB0 : Hid (Below w0.heap.size w0 W0) := hB0
  have HXA : Hid (Calls Tryd.prog 81 #[.agg #[.int .i64 s.a.kind, .int .i64 s.a.n, .string s.a.name, .slice s.a.a s.a.args.length s.a.cap]] W0 fun e w'' => e = .returned (sB (txE s.a)) ∧ Below W0.heap.size W0 w'') := expr_any s.a W0 ((St.in_iff.1 hin).2.2.2.1.stay hB0) (ht.stay hB0) (hnt.stay hB0) hoa hza
  have HY12 : Hid (∀ w', Oth b W0 w' → w'.cell? ⟨w.heap.size, 12, none⟩ = some (.slice s.ea s.els.length s.ec)) := fun w' ho => oth_cell hbk (by decide) hne ho rfl
  have HY13 : Hid (∀ w', Oth b W0 w' → w'.cell? ⟨w.heap.size, 13, none⟩ = some (.slice s.ca s.cases.length s.cc)) := fun w' ho => oth_cell hbk (by decide) hne ho rfl
  have HIN : Hid (s.In w0) := hin
  have HNT : Hid (NumT w0) := hnt
  have HSS : Hid (∀ c ∈ s.cases, ∀ x ∈ c.body, StmtD w0 (D + 2) x) := hs
  have HSE : Hid (∀ x ∈ s.els, StmtD w0 (D + 2) x) := hs2
  obtain ⟨hel, hec, _, _⟩ := (St.in_iff.1 hin).2.2.2.2.2.2.1.1
  obtain ⟨hcl, hcc, _, _⟩ := (St.in_iff.1 hin).2.2.2.2.2.2.2.1
  have HW0 := show Hid _ from hW0
  clear hW0 hin ht hnt hoa hza hp hlen hbx hbk hblt hB0 hB hs hs2
  obtain ⟨res, hres⟩ : ∃ res, l ++ txSw s d = res := ⟨_, rfl⟩
  have HRES : Hid (l ++ txSw s d = res) := hres
  rw [hres] at HL ⊢
  clear hres
  have HF1 : Hid ((l ++ lineB d (cat [⟨#[115, 119, 105, 116, 99, 104, 32]⟩, ⟨(txE s.a).toArray⟩, ⟨#[32, 123]⟩])).length ≤ 140737488355328 ∧ (l ++ lineB d (cat [⟨#[115, 119, 105, 116, 99, 104, 32]⟩, ⟨(txE s.a).toArray⟩, ⟨#[32, 123]⟩])).length + (txCs s.cases (d + 1)).length ≤ 140737488355328) := by
    have h := HL.out
    rw [← HRES.out, txSw] at h
    simp only [List.length_append] at h
    refine ⟨?_, ?_⟩ <;> simp only [List.length_append] <;> omega
  unfold St.val
  go_enter Tryd.func83, Tryd.ntmps83
  go_wp2_with fail
  rw [HW0.out]
  clear HW0
  refine HXA.out.mono ?_
  rintro e w1 ⟨rfl, hb1⟩
  have hs1 := hb1.size
  go_wp2_with fail
  refine (line_new w0.heap.size b l d [⟨#[115, 119, 105, 116, 99, 104, 32]⟩, ⟨(txE s.a).toArray⟩, ⟨#[32, 123]⟩] w1 (HPX.out.stay hb1) (by omega) (Nat.le_of_ble_eq_true rfl) (by omega) HF1.out.1).mono ?_
  rintro e w2 ⟨rfl, hp2, hb2, ho2⟩
  obtain ⟨l1, hl1⟩ : ∃ l1, (l ++ lineB d (cat [⟨#[115, 119, 105, 116, 99, 104, 32]⟩, ⟨(txE s.a).toArray⟩, ⟨#[32, 123]⟩])) = l1 := ⟨_, rfl⟩
  rw [hl1] at hp2 HF1
  have HL1 : Hid ((l ++ lineB d (cat [⟨#[115, 119, 105, 116, 99, 104, 32]⟩, ⟨(txE s.a).toArray⟩, ⟨#[32, 123]⟩])) = l1) := hl1
  clear hl1
  obtain ⟨c2, q2, _, _⟩ := pg_cell hp2
  have HP2 : Hid (PgT w0.heap.size b l1 (d + 1) (w2.setCell ⟨b, 2, none⟩ (.int .i64 ((d + 1 : Nat) : Int)))) := pg_deep hp2
  have HO2 : Hid (Oth b W0 w2) := ((oth_below hb1).alloc _).trans ho2
  have HB2 : Hid (Below w0.heap.size W0 w2) := ((hb1.mono hsx).alloc (by omega) _).trans hb2
  have y13 := HY13.out _ HO2.out
  clear hp2 hb1 hb2 ho2 hs1 HXA
  go_wp2_with fail
  go_loopw [22] (fun t22 wr => ∃ (j : Nat), j ≤ s.cases.length ∧ t22 = .int .i64 j ∧ PgT w0.heap.size b (l1 ++ txCs (s.cases.take j) (d + 1)) (d + 1) wr ∧ Below w0.heap.size W0 wr ∧ Oth b W0 wr) (fun t22 _ => s.cases.length - (intOf t22).toNat)
  case atStart => exact ⟨0, Nat.zero_le _, rfl, by simpa [txCs] using HP2.out, HB2.out.setCell (p := ⟨b, 2, none⟩) hBb _, HO2.out.setCell ⟨b, 2, none⟩ rfl _⟩
  case round =>
    clear HP2 HO2 HB2 y13 c2 q2
    obtain ⟨j, hj, rfl, hpg, hb, ho⟩ := hrel
    have HPG : Hid (PgT w0.heap.size b (l1 ++ txCs (s.cases.take j) (d + 1)) (d + 1) wr) := hpg
    have HBR : Hid (Below w0.heap.size W0 wr) := hb
    have HOR : Hid (Oth b W0 wr) := ho
    have hwb : b < wr.heap.size := (pg_cell hpg).2.2.2
    have hs0 : w0.heap.size ≤ wr.heap.size := (HBB0.out.trans hb).size
    clear hpg hb ho
    by_cases hlt : j < s.cases.length
    · have hli : (j : Int) < (s.cases.length : Int) := by omega
      obtain ⟨rb, ro, hca, hcell⟩ := rowC_cells ((St.in_iff.1 (HIN.out.stay (HBB0.out.trans HBR.out))).2.2.2.2.2.2.2.1.2.2.2) hlt
      have k0 := hcell 0 _ rfl
      have k1 := hcell 1 _ rfl
      simp only [← Nat.add_assoc, Nat.add_zero] at k0 k1
      have HCI : Hid (s.cases[j].In w0) := (St.in_iff.1 HIN.out).2.2.2.2.2.2.2.2 _ (List.getElem_mem hlt)
      have HCS : Hid (∀ x ∈ s.cases[j].body, StmtD w0 (D + 2) x) := HSS.out _ (List.getElem_mem hlt)
      have HT : Hid (txCs (s.cases.take (j + 1)) (d + 1) = txCs (s.cases.take j) (d + 1) ++ txC s.cases[j] (d + 1)) := txCs_take s.cases (d + 1) j hlt
      have HLE : Hid ((txCs (s.cases.take (j + 1)) (d + 1)).length ≤ (txCs s.cases (d + 1)).length) := txCs_le s.cases (d + 1) (j + 1)
      generalize s.cases[j] = y at *
      rw [hca]
      clear hcell
      obtain ⟨lj, hlj⟩ : ∃ lj, l1 ++ txCs (s.cases.take j) (d + 1) = lj := ⟨_, rfl⟩
      rw [hlj] at HPG
      have HLJ : Hid (l1 ++ txCs (s.cases.take j) (d + 1) = lj) := hlj
      clear hlj
      have HF2 : Hid ((lj ++ lineB (d + 1) (cat [⟨#[99, 97, 115, 101, 32]⟩, ⟨(Lib.itoa y.n).toArray⟩, ⟨#[32, 123]⟩])).length ≤ 140737488355328 ∧ ((lj ++ lineB (d + 1) (cat [⟨#[99, 97, 115, 101, 32]⟩, ⟨(Lib.itoa y.n).toArray⟩, ⟨#[32, 123]⟩])) ++ txSs y.body (d + 1 + 1)).length ≤ 140737488355328 ∧ (((lj ++ lineB (d + 1) (cat [⟨#[99, 97, 115, 101, 32]⟩, ⟨(Lib.itoa y.n).toArray⟩, ⟨#[32, 123]⟩])) ++ txSs y.body (d + 1 + 1)) ++ lineB (d + 1) (cat [⟨#[125]⟩])).length ≤ 140737488355328) := by
        have h1 := HLE.out
        have h2 := HF1.out.2
        have h3 := congrArg List.length HLJ.out
        rw [HT.out, txC_eq] at h1
        simp only [List.length_append] at h1 h2 h3
        refine ⟨?_, ?_, ?_⟩ <;> simp only [List.length_append] <;> omega
      obtain ⟨W4, hW4⟩ : ∃ W4, wr.alloc (.cells #[.int .i64 y.n, .slice y.ba y.body.length y.bc] 59) = W4 := ⟨_, rfl⟩
      have hb4 : Below wr.heap.size wr W4 := by rw [← hW4]; exact (Below.refl _ wr).alloc (Nat.le_refl _) _
      have hk4 : W4.heap[wr.heap.size]? = some (.cells #[.int .i64 y.n, .slice y.ba y.body.length y.bc] 59 (0, 0)) := by rw [← hW4]; exact heap_alloc_new wr _
      have hn4 : wr.heap.size ≠ b := by omega
      have HZ1 : Hid (∀ w', Oth b W4 w' → w'.cell? ⟨wr.heap.size, 1, none⟩ = some (.slice y.ba y.body.length y.bc)) := fun w' ho => oth_cell hk4 (by decide) hn4 ho rfl
      have HB4 : Hid (Below w0.heap.size W0 W4) := HBR.out.trans (hb4.mono hs0)
      have HO4 : Hid (Oth b W0 W4) := HOR.out.trans (oth_below hb4)
      have HP4 : Hid (PgT w0.heap.size b lj (d + 1) W4) := HPG.out.stay hb4
      have hs4 : w0.heap.size ≤ W4.heap.size := (HBB0.out.trans HB4.out).size
      have HQN : Hid (Calls Tryd.prog 42 #[.int .i64 y.n] W4 fun e w'' => e = .returned (sB (Lib.itoa y.n)) ∧ Below W4.heap.size W4 w'') := number_any y.n W4 (Ca.in_iff.1 HCI.out).1 (HNT.out.stay (HBB0.out.trans HB4.out))
      have HW4 := show Hid _ from hW4
      clear hW4 hb4 hk4 hn4 hca
      go_wp2_with fail
      rw [HW4.out]
      clear HW4 k0 k1
      refine HQN.out.mono ?_
      rintro e w5 ⟨rfl, hb5⟩
      have hs5 := hb5.size
      go_wp2_with fail
      refine (line_new w0.heap.size b lj (d + 1) [⟨#[99, 97, 115, 101, 32]⟩, ⟨(Lib.itoa y.n).toArray⟩, ⟨#[32, 123]⟩] w5 (HP4.out.stay hb5) (by omega) (Nat.le_of_ble_eq_true rfl) (by omega) HF2.out.1).mono ?_
      rintro e w6 ⟨rfl, hp6, hb6, ho6⟩
      have HP6 : Hid (PgT w0.heap.size b (lj ++ lineB (d + 1) (cat [⟨#[99, 97, 115, 101, 32]⟩, ⟨(Lib.itoa y.n).toArray⟩, ⟨#[32, 123]⟩])) (d + 1) w6) := hp6
      have HO6' : Hid (Oth b W4 w6) := ((oth_below hb5).alloc _).trans ho6
      have HB6 : Hid (Below w0.heap.size W0 w6) := HB4.out.trans (((hb5.mono hs4).alloc (by omega) _).trans hb6)
      have z1 := HZ1.out _ HO6'.out
      have HO6 : Hid (Oth b W0 w6) := HO4.out.trans HO6'.out
      clear hp6 hb5 hb6 ho6 hs5 HQN
      go_wp2_with fail
      refine (bodyD w0 (D + 2) b _ (d + 1) y.body y.ba y.bc w6 (HBB0.out.trans HB6.out) HP6.out (by omega) (by omega) (Ca.in_iff.1 HCI.out).2 HCS.out HF2.out.2.1).mono ?_
      rintro e w7 ⟨rfl, hp7, hb7, ho7⟩
      have HP7 : Hid (PgT w0.heap.size b ((lj ++ lineB (d + 1) (cat [⟨#[99, 97, 115, 101, 32]⟩, ⟨(Lib.itoa y.n).toArray⟩, ⟨#[32, 123]⟩])) ++ txSs y.body (d + 1 + 1)) (d + 1) w7) := hp7
      have HO7 : Hid (Oth b W0 w7) := HO6.out.trans ho7
      have HB7 : Hid (Below w0.heap.size W0 w7) := HB6.out.trans hb7
      have hs7 : w0.heap.size ≤ w7.heap.size := (HBB0.out.trans HB7.out).size
      clear hp7 hb7 ho7 z1
      go_wp2_with fail
      refine (line_new w0.heap.size b _ (d + 1) [⟨#[125]⟩] w7 HP7.out hs7 (Nat.le_of_ble_eq_true rfl) (by omega) HF2.out.2.2).mono ?_
      rintro e w8 ⟨rfl, hp8, hb8, ho8⟩
      have HP8 : Hid (PgT w0.heap.size b (l1 ++ txCs (s.cases.take (j + 1)) (d + 1)) (d + 1) w8) := by
        show PgT _ _ _ _ _
        rw [HT.out, txC_eq, ← List.append_assoc, HLJ.out, ← List.append_assoc, ← List.append_assoc]; exact hp8
      have HB8 : Hid (Below w0.heap.size W0 w8) := HB7.out.trans (((Below.refl _ w7).alloc hs7 _).trans hb8)
      have HO8 : Hid (Oth b W0 w8) := HO7.out.trans (((Lib.OthersKept.refl _ _ w7).alloc _).trans ho8)
      clear hp8 hb8 ho8
      go_wp2_with fail
      go_roundw
      case rel => exact ⟨j + 1, by omega, by go_num, HP8.out, HB8.out, HO8.out⟩
      case measure => simp [intOf]; omega
    · obtain rfl : j = s.cases.length := by omega
      obtain ⟨l2, hl2⟩ : ∃ l2, l1 ++ txCs s.cases (d + 1) = l2 := ⟨_, rfl⟩
      have HL2 : Hid (l1 ++ txCs s.cases (d + 1) = l2) := hl2
      have HP9 : Hid (PgT w0.heap.size b l2 (d + 1) wr) := by
        show PgT _ _ _ _ _; have := HPG.out; rw [List.take_length, hl2] at this; exact this
      clear hl2 HPG
      have y12 := HY12.out _ HOR.out
      by_cases he : 0 < s.els.length
      · have hei : (0 : Int) < (s.els.length : Int) := by omega
        have HEQ : Hid ((((l2 ++ lineB (d + 1) (cat [⟨#[101, 108, 115, 101, 32, 123]⟩])) ++ txSs s.els (d + 1 + 1)) ++ lineB (d + 1) (cat [⟨#[125]⟩])) ++ lineB d (cat [⟨#[125]⟩]) = res) := by
          show _ = _
          rw [← HRES.out, txSw, if_neg (by omega), ← HL2.out, ← HL1.out]
          simp only [List.append_assoc]
        have HF3 : Hid ((l2 ++ lineB (d + 1) (cat [⟨#[101, 108, 115, 101, 32, 123]⟩])).length ≤ 140737488355328 ∧ ((l2 ++ lineB (d + 1) (cat [⟨#[101, 108, 115, 101, 32, 123]⟩])) ++ txSs s.els (d + 1 + 1)).length ≤ 140737488355328 ∧ (((l2 ++ lineB (d + 1) (cat [⟨#[101, 108, 115, 101, 32, 123]⟩])) ++ txSs s.els (d + 1 + 1)) ++ lineB (d + 1) (cat [⟨#[125]⟩])).length ≤ 140737488355328 ∧ ((((l2 ++ lineB (d + 1) (cat [⟨#[101, 108, 115, 101, 32, 123]⟩])) ++ txSs s.els (d + 1 + 1)) ++ lineB (d + 1) (cat [⟨#[125]⟩])) ++ lineB d (cat [⟨#[125]⟩])).length ≤ 140737488355328) := by
          have h := HL.out
          rw [← HEQ.out] at h
          simp only [List.length_append] at h
          refine ⟨?_, ?_, ?_, ?_⟩ <;> simp only [List.length_append] <;> omega
        go_wp2_with fail
        refine (line_new w0.heap.size b _ (d + 1) [⟨#[101, 108, 115, 101, 32, 123]⟩] wr HP9.out hs0 (Nat.le_of_ble_eq_true rfl) (by omega) HF3.out.1).mono ?_
        rintro e w4 ⟨rfl, hp4, hb4, ho4⟩
        have HP4 : Hid (PgT w0.heap.size b (l2 ++ lineB (d + 1) (cat [⟨#[101, 108, 115, 101, 32, 123]⟩])) (d + 1) w4) := hp4
        have HO4 : Hid (Oth b W0 w4) := HOR.out.trans (((Lib.OthersKept.refl _ _ wr).alloc _).trans ho4)
        have HB4 : Hid (Below w0.heap.size W0 w4) := HBR.out.trans (((Below.refl _ wr).alloc hs0 _).trans hb4)
        have z12 := HY12.out _ HO4.out
        clear hp4 hb4 ho4 y12
        go_wp2_with fail
        refine (bodyD w0 (D + 2) b _ (d + 1) s.els s.ea s.ec w4 (HBB0.out.trans HB4.out) HP4.out (by omega) (by omega) (St.in_iff.1 HIN.out).2.2.2.2.2.2.1 HSE.out HF3.out.2.1).mono ?_
        rintro e w5 ⟨rfl, hp5, hb5, ho5⟩
        have HP5 : Hid (PgT w0.heap.size b ((l2 ++ lineB (d + 1) (cat [⟨#[101, 108, 115, 101, 32, 123]⟩])) ++ txSs s.els (d + 1 + 1)) (d + 1) w5) := hp5
        have HO5 : Hid (Oth b W0 w5) := HO4.out.trans ho5
        have HB5 : Hid (Below w0.heap.size W0 w5) := HB4.out.trans hb5
        have hs5 : w0.heap.size ≤ w5.heap.size := (HBB0.out.trans HB5.out).size
        clear hp5 hb5 ho5 z12
        go_wp2_with fail
        refine (line_new w0.heap.size b _ (d + 1) [⟨#[125]⟩] w5 HP5.out hs5 (Nat.le_of_ble_eq_true rfl) (by omega) HF3.out.2.2.1).mono ?_
        rintro e w6 ⟨rfl, hp6, hb6, ho6⟩
        obtain ⟨c2, q2, _, _⟩ := pg_cell hp6
        have HP6 : Hid (PgT w0.heap.size b ((((l2 ++ lineB (d + 1) (cat [⟨#[101, 108, 115, 101, 32, 123]⟩])) ++ txSs s.els (d + 1 + 1)) ++ lineB (d + 1) (cat [⟨#[125]⟩]))) d (w6.setCell ⟨b, 2, none⟩ (.int .i64 (d : Int)))) := pg_deep hp6
        have HO6 : Hid (Oth b W0 (w6.setCell ⟨b, 2, none⟩ (.int .i64 (d : Int)))) := (HO5.out.trans (((Lib.OthersKept.refl _ _ w5).alloc _).trans ho6)).setCell ⟨b, 2, none⟩ rfl _
        have HB6 : Hid (Below w0.heap.size W0 (w6.setCell ⟨b, 2, none⟩ (.int .i64 (d : Int)))) := (HB5.out.trans (((Below.refl _ w5).alloc hs5 _).trans hb6)).setCell (p := ⟨b, 2, none⟩) hBb _
        clear hp6 hb6 ho6
        go_upto_region 15 with fail
        obtain ⟨W7, hW7⟩ : ∃ W7, w6.setCell ⟨b, 2, none⟩ (.int .i64 (d : Int)) = W7 := ⟨_, rfl⟩
        rw [hW7] at HP6 HO6 HB6 ⊢
        have hs7 : w0.heap.size ≤ W7.heap.size := (HBB0.out.trans HB6.out).size
        clear hW7 c2 q2
        go_wp2_with fail
        refine (line_new w0.heap.size b _ d [⟨#[125]⟩] W7 HP6.out hs7 (Nat.le_of_ble_eq_true rfl) (by omega) HF3.out.2.2.2).mono ?_
        rintro e w8 ⟨rfl, hp8, hb8, ho8⟩
        have HP8 : Hid (PgT w0.heap.size b res d w8) := by show PgT _ _ _ _ _; rw [← HEQ.out]; exact hp8
        clear hp8
        go_wp2_with fail
        go_end0
        exact ⟨rfl, HP8.out, HBX.out.trans (HB6.out.trans (((Below.refl _ W7).alloc hs7 _).trans hb8)), HOX.out.trans (HO6.out.trans (((Lib.OthersKept.refl _ _ W7).alloc _).trans ho8))⟩
      · have hei : ¬ (0 : Int) < (s.els.length : Int) := by omega
        have HEQ : Hid (l2 ++ lineB d (cat [⟨#[125]⟩]) = res) := by
          show _ = _
          rw [← HRES.out, txSw, if_pos (by omega), ← HL2.out, ← HL1.out]
          simp only [List.append_assoc, List.nil_append]
        have HF3 : Hid ((l2 ++ lineB d (cat [⟨#[125]⟩])).length ≤ 140737488355328) := by show _ ≤ _; rw [HEQ.out]; exact HL.out
        obtain ⟨c2, q2, _, _⟩ := pg_cell HP9.out
        have HP6 : Hid (PgT w0.heap.size b l2 d (wr.setCell ⟨b, 2, none⟩ (.int .i64 (d : Int)))) := pg_deep HP9.out
        have HO6 : Hid (Oth b W0 (wr.setCell ⟨b, 2, none⟩ (.int .i64 (d : Int)))) := HOR.out.setCell ⟨b, 2, none⟩ rfl _
        have HB6 : Hid (Below w0.heap.size W0 (wr.setCell ⟨b, 2, none⟩ (.int .i64 (d : Int)))) := HBR.out.setCell (p := ⟨b, 2, none⟩) hBb _
        go_upto_region 15 with fail
        obtain ⟨W7, hW7⟩ : ∃ W7, wr.setCell ⟨b, 2, none⟩ (.int .i64 (d : Int)) = W7 := ⟨_, rfl⟩
        rw [hW7] at HP6 HO6 HB6 ⊢
        have hs7 : w0.heap.size ≤ W7.heap.size := (HBB0.out.trans HB6.out).size
        clear hW7 c2 q2 y12
        go_wp2_with fail
        refine (line_new w0.heap.size b _ d [⟨#[125]⟩] W7 HP6.out hs7 (Nat.le_of_ble_eq_true rfl) (by omega) HF3.out).mono ?_
        rintro e w8 ⟨rfl, hp8, hb8, ho8⟩
        have HP8 : Hid (PgT w0.heap.size b res d w8) := by show PgT _ _ _ _ _; rw [← HEQ.out]; exact hp8
        clear hp8
        go_wp2_with fail
        go_end0
        exact ⟨rfl, HP8.out, HBX.out.trans (HB6.out.trans (((Below.refl _ W7).alloc hs7 _).trans hb8)), HOX.out.trans (HO6.out.trans (((Lib.OthersKept.refl _ _ W7).alloc _).trans ho8))⟩

set_option maxRecDepth 100000 in
set_option maxHeartbeats 8000000 in
theorem stmt6 (w0 : World) (s : St) (hk : s.kind = 6) (hin : s.In w0) (ht : Tabs w0) (hnt : NumT w0) (hoa : OkE s.a) (hza : s.a.sz ≤ 1000000) (D : Nat) (hD : D ≤ 88) (hs : ∀ c ∈ s.cases, ∀ x ∈ c.body, StmtD w0 (D + 2) x) (hs2 : ∀ x ∈ s.els, StmtD w0 (D + 2) x) : StmtD w0 D s := by
  intro b l d w hB hp hd hlen
  have HT : Hid (txSw s d = txS s d) := by
    show _ = _; cases s; simp only [St.kind] at hk; subst hk; simp [txSw, txS, cat, St.a, St.els, St.cases]
  rw [← HT.out] at hlen ⊢
  obtain ⟨W0, hW0⟩ : ∃ W0, w.alloc (.cells #[.int .i64 6, .string s.name, .int .i64 s.n, .int .i64 s.a.kind, .int .i64 s.a.n, .string s.a.name, .slice s.a.a s.a.args.length s.a.cap, .int .i64 s.b.kind, .int .i64 s.b.n, .string s.b.name, .slice s.b.a s.b.args.length s.b.cap, .slice s.ba s.body.length s.bc, .slice s.ea s.els.length s.ec, .slice s.ca s.cases.length s.cc] 53) = W0 := ⟨_, rfl⟩
  have hbx : Below w.heap.size w W0 := by rw [← hW0]; exact (Below.refl _ w).alloc (Nat.le_refl _) _
  have hsw := hB.size
  have hB0 : Below w0.heap.size w0 W0 := hB.trans (hbx.mono hsw)
  have HQ := show Hid _ from choices_any w0 D s hin ht hnt hoa hza hD hs hs2 b l d W0 hB0 (hp.stay hbx) hd hlen
  have HBX : Hid (Below w0.heap.size w W0 ∧ Oth b w W0) := ⟨hbx.mono hsw, oth_below hbx⟩
  have HW0 := show Hid _ from hW0
  clear hW0 hin ht hnt hoa hza hp hlen hbx hB0 hB hs hs2 HT
  unfold St.val at HQ ⊢
  rw [hk] at HQ ⊢
  generalize txSw s d = tx at HQ ⊢
  go_enter Tryd.func64, Tryd.ntmps64
  go_wp2_with fail
  rw [HW0.out]
  refine Calls.mono (show Calls Tryd.prog _ _ _ _ from HQ.out) ?_
  rintro e w2 ⟨rfl, hp2, hb2, ho2⟩
  have HP2 : Hid (PgT w0.heap.size b (l ++ tx) d w2) := hp2
  clear hp2 HQ
  go_wp2_with fail
  go_end0
  exact ⟨rfl, HP2.out, HBX.out.1.trans hb2, HBX.out.2.trans ho2⟩
end Go.Proofs.YtbpemackmadhgabDoor

/- page.stmt at its other kinds: those of one line, and loops. -/
namespace Go.Proofs.YtbpemackmadhgabDoor
open Go.RowKit Go.Sort

set_option maxRecDepth 100000 in
set_option maxHeartbeats 8000000 in
theorem stmt7 (w0 : World) (s : St) (hk : s.kind = 7) (hin : s.In w0) (ht : Tabs w0) (hnt : NumT w0) (hoa : OkE s.a) (hza : s.a.sz ≤ 1000000) (hob : OkE s.b) (hzb : s.b.sz ≤ 1000000) (D : Nat) (hD : D ≤ 89) (hs : ∀ x ∈ s.body, StmtD w0 (D + 1) x) : StmtD w0 D s := by
  intro b l d w hB hp hd hlen
  have HT : Hid (lineB d (cat [⟨#[102, 111, 114, 32]⟩, s.name, ⟨#[32, 105, 110, 32]⟩, ⟨(txE s.a).toArray⟩, ⟨#[46, 46]⟩, ⟨(txE s.b).toArray⟩, ⟨#[32, 123]⟩]) ++ txSs s.body (d + 1) ++ lineB d (cat [⟨#[125]⟩]) = txS s d) := by
    show _ = _; cases s; simp only [St.kind] at hk; subst hk; simp [txS, cat, St.a, St.b, St.name, St.body]
  rw [← HT.out] at hlen ⊢
  have HLEN : Hid ((l ++ lineB d (cat [⟨#[102, 111, 114, 32]⟩, s.name, ⟨#[32, 105, 110, 32]⟩, ⟨(txE s.a).toArray⟩, ⟨#[46, 46]⟩, ⟨(txE s.b).toArray⟩, ⟨#[32, 123]⟩])).length ≤ 140737488355328) := by show _ ≤ _; simp only [List.length_append] at *; omega
  have HLN2 : Hid (((l ++ lineB d (cat [⟨#[102, 111, 114, 32]⟩, s.name, ⟨#[32, 105, 110, 32]⟩, ⟨(txE s.a).toArray⟩, ⟨#[46, 46]⟩, ⟨(txE s.b).toArray⟩, ⟨#[32, 123]⟩])) ++ txSs s.body (d + 1)).length ≤ 140737488355328) := by show _ ≤ _; simp only [List.length_append] at *; omega
  have HLN3 : Hid ((((l ++ lineB d (cat [⟨#[102, 111, 114, 32]⟩, s.name, ⟨#[32, 105, 110, 32]⟩, ⟨(txE s.a).toArray⟩, ⟨#[46, 46]⟩, ⟨(txE s.b).toArray⟩, ⟨#[32, 123]⟩])) ++ txSs s.body (d + 1)) ++ lineB d (cat [⟨#[125]⟩])).length ≤ 140737488355328) := by show _ ≤ _; simp only [List.length_append] at *; omega
  obtain ⟨W0, hW0⟩ : ∃ W0, w.alloc (.cells #[.int .i64 7, .string s.name, .int .i64 s.n, .int .i64 s.a.kind, .int .i64 s.a.n, .string s.a.name, .slice s.a.a s.a.args.length s.a.cap, .int .i64 s.b.kind, .int .i64 s.b.n, .string s.b.name, .slice s.b.a s.b.args.length s.b.cap, .slice s.ba s.body.length s.bc, .slice s.ea s.els.length s.ec, .slice s.ca s.cases.length s.cc] 53) = W0 := ⟨_, rfl⟩
  have hbx : Below w.heap.size w W0 := by rw [← hW0]; exact (Below.refl _ w).alloc (Nat.le_refl _) _
  have hbk : W0.heap[w.heap.size]? = some (.cells #[.int .i64 7, .string s.name, .int .i64 s.n, .int .i64 s.a.kind, .int .i64 s.a.n, .string s.a.name, .slice s.a.a s.a.args.length s.a.cap, .int .i64 s.b.kind, .int .i64 s.b.n, .string s.b.name, .slice s.b.a s.b.args.length s.b.cap, .slice s.ba s.body.length s.bc, .slice s.ea s.els.length s.ec, .slice s.ca s.cases.length s.cc] 53 (0, 0)) := by rw [← hW0]; exact heap_alloc_new w _
  have hsw := hB.size
  have hB0 : Below w0.heap.size w0 W0 := hB.trans (hbx.mono hsw)
  have hsx : w0.heap.size ≤ W0.heap.size := hB0.size
  have hblt : b < w.heap.size := by obtain ⟨q, h1⟩ := hp.some; exact h1.lt
  have hne : w.heap.size ≠ b := by omega
  have HPX : Hid (PgT w0.heap.size b l d W0) := hp.stay hbx
  have HOX : Hid (Oth b w W0) := oth_below hbx
  have HBX : Hid (Below w0.heap.size w W0) := hbx.mono hsw
  have HXA : Hid (∀ w', Below W0.heap.size W0 w' → Calls Tryd.prog 81 #[.agg #[.int .i64 s.a.kind, .int .i64 s.a.n, .string s.a.name, .slice s.a.a s.a.args.length s.a.cap]] w' fun e w'' => e = .returned (sB (txE s.a)) ∧ Below w'.heap.size w' w'') := fun w' h => expr_any s.a w' ((St.in_iff.1 hin).2.2.2.1.stay (hB0.trans (h.mono hsx))) (ht.stay (hB0.trans (h.mono hsx))) (hnt.stay (hB0.trans (h.mono hsx))) hoa hza
  have HXB : Hid (∀ w', Below W0.heap.size W0 w' → Calls Tryd.prog 81 #[.agg #[.int .i64 s.b.kind, .int .i64 s.b.n, .string s.b.name, .slice s.b.a s.b.args.length s.b.cap]] w' fun e w'' => e = .returned (sB (txE s.b)) ∧ Below w'.heap.size w' w'') := fun w' h => expr_any s.b w' ((St.in_iff.1 hin).2.2.2.2.1.stay (hB0.trans (h.mono hsx))) (ht.stay (hB0.trans (h.mono hsx))) (hnt.stay (hB0.trans (h.mono hsx))) hob hzb
  have y1 : ∀ w', Oth b W0 w' → w'.cell? ⟨w.heap.size, 1, none⟩ = some (.string s.name) := fun w' ho => oth_cell hbk (by decide) hne ho rfl
  have y3 : ∀ w', Oth b W0 w' → w'.cell? ⟨w.heap.size, 3, none⟩ = some (.int .i64 s.a.kind) := fun w' ho => oth_cell hbk (by decide) hne ho rfl
  have y4 : ∀ w', Oth b W0 w' → w'.cell? ⟨w.heap.size, 4, none⟩ = some (.int .i64 s.a.n) := fun w' ho => oth_cell hbk (by decide) hne ho rfl
  have y5 : ∀ w', Oth b W0 w' → w'.cell? ⟨w.heap.size, 5, none⟩ = some (.string s.a.name) := fun w' ho => oth_cell hbk (by decide) hne ho rfl
  have y6 : ∀ w', Oth b W0 w' → w'.cell? ⟨w.heap.size, 6, none⟩ = some (.slice s.a.a s.a.args.length s.a.cap) := fun w' ho => oth_cell hbk (by decide) hne ho rfl
  have y7 : ∀ w', Oth b W0 w' → w'.cell? ⟨w.heap.size, 7, none⟩ = some (.int .i64 s.b.kind) := fun w' ho => oth_cell hbk (by decide) hne ho rfl
  have y8 : ∀ w', Oth b W0 w' → w'.cell? ⟨w.heap.size, 8, none⟩ = some (.int .i64 s.b.n) := fun w' ho => oth_cell hbk (by decide) hne ho rfl
  have y9 : ∀ w', Oth b W0 w' → w'.cell? ⟨w.heap.size, 9, none⟩ = some (.string s.b.name) := fun w' ho => oth_cell hbk (by decide) hne ho rfl
  have y10 : ∀ w', Oth b W0 w' → w'.cell? ⟨w.heap.size, 10, none⟩ = some (.slice s.b.a s.b.args.length s.b.cap) := fun w' ho => oth_cell hbk (by decide) hne ho rfl
  have HY11 : Hid (∀ w', Oth b W0 w' → w'.cell? ⟨w.heap.size, 11, none⟩ = some (.slice s.ba s.body.length s.bc)) := fun w' ho => oth_cell hbk (by decide) hne ho rfl
  have HIN : Hid (s.In w0) := hin
  have HSS : Hid (∀ x ∈ s.body, StmtD w0 (D + 1) x) := hs
  have HBB0 : Hid (Below w0.heap.size w0 W0) := hB0
  have HW0 := show Hid _ from hW0
  have hdrew : Below W0.heap.size W0 W0.drew := Below.drew (Below.refl _ _)
  clear hW0 hin ht hnt hp hlen hbx hbk hblt hB0 hB hoa hza hob hzb hs
  unfold St.val
  rw [hk]
  go_enter Tryd.func64, Tryd.ntmps64
  go_wp2_with fail
  rw [HW0.out]
  clear HW0
  go_region_held3 (fun w' => Oth b W0 w') (first | exact oth_below (by assumption) | exact Lib.OthersKept.trans (by assumption) (oth_below (by assumption)) | exact Lib.OthersKept.alloc (by assumption) _ | assumption)
    (first
      | (go_at_call_of 81 (s.a.kind); refine (HXA.out _ (by assumption)).mono ?_; rintro e w' ⟨rfl, hb⟩; have hB : Below W0.heap.size W0 w' := Below.on (by assumption) hb)
      | (go_at_call_of 81 (s.b.kind); refine (HXB.out _ (by assumption)).mono ?_; rintro e w' ⟨rfl, hb⟩; have hB : Below W0.heap.size W0 w' := Below.on (by assumption) hb)
      | (go_at_call 39; refine (line_in (xs := [⟨#[102, 111, 114, 32]⟩, s.name, ⟨#[32, 105, 110, 32]⟩, ⟨(txE s.a).toArray⟩, ⟨#[46, 46]⟩, ⟨(txE s.b).toArray⟩, ⟨#[32, 123]⟩]) HPX.out (by assumption) hsx (Nat.le_of_ble_eq_true rfl) (by omega) HLEN.out).mono ?_; rintro e w' ⟨rfl, hpl, hbl, hol⟩))
  all_goals (have z11 := HY11.out _ hol; clear y1 y3 y4 y5 y6 y7 y8 y9 y10)
  all_goals go_wp2_with fail
  all_goals
    refine (bodyD w0 (D + 1) b _ d s.body s.ba s.bc w' (HBB0.out.trans hbl.out) hpl.out (by omega) (by omega) (St.in_iff.1 HIN.out).2.2.2.2.2.1 HSS.out HLN2.out).mono ?_
    rintro e w2 ⟨rfl, hp2, hb2, ho2⟩
    have HP2 : Hid (PgT w0.heap.size b ((l ++ lineB d (cat [⟨#[102, 111, 114, 32]⟩, s.name, ⟨#[32, 105, 110, 32]⟩, ⟨(txE s.a).toArray⟩, ⟨#[46, 46]⟩, ⟨(txE s.b).toArray⟩, ⟨#[32, 123]⟩])) ++ txSs s.body (d + 1)) d w2) := hp2
    have hs2 : w0.heap.size ≤ w2.heap.size := ((HBB0.out.trans hbl.out).trans hb2).size
    clear hp2 z11
    go_wp2_with fail
    refine (line_new w0.heap.size b _ d [⟨#[125]⟩] w2 HP2.out hs2 (Nat.le_of_ble_eq_true rfl) (by omega) HLN3.out).mono ?_
    rintro e w3 ⟨rfl, hp3, hb3, ho3⟩
    have HP3 : Hid (PgT w0.heap.size b (l ++ (lineB d (cat [⟨#[102, 111, 114, 32]⟩, s.name, ⟨#[32, 105, 110, 32]⟩, ⟨(txE s.a).toArray⟩, ⟨#[46, 46]⟩, ⟨(txE s.b).toArray⟩, ⟨#[32, 123]⟩]) ++ txSs s.body (d + 1) ++ lineB d (cat [⟨#[125]⟩]))) d w3) := by
      show PgT _ _ _ _ _; rw [← List.append_assoc, ← List.append_assoc]; exact hp3
    clear hp3
    go_wp2_with fail
    go_end0
    exact ⟨rfl, HP3.out, ((HBX.out.trans hbl.out).trans hb2).trans (((Below.refl _ w2).alloc hs2 _).trans hb3), ((HOX.out.trans hol).trans ho2).trans (((Lib.OthersKept.refl _ _ w2).alloc _).trans ho3)⟩
end Go.Proofs.YtbpemackmadhgabDoor

/- page.stmt at its other kinds: those of one line, and loops. -/
namespace Go.Proofs.YtbpemackmadhgabDoor
open Go.RowKit Go.Sort

set_option maxRecDepth 100000 in
set_option maxHeartbeats 8000000 in
theorem stmt8 (w0 : World) (s : St) (hk : s.kind = 8)  : StmtPr w0 s := by
  intro b l d w hB hp hd hlen
  have HT : Hid (lineB d (cat [⟨#[98, 114, 101, 97, 107, 59]⟩]) = txS s d) := by
    show _ = _; cases s; simp only [St.kind] at hk; subst hk; simp [txS, cat]
  rw [← HT.out] at hlen ⊢
  have HLEN : Hid ((l ++ lineB d (cat [⟨#[98, 114, 101, 97, 107, 59]⟩])).length ≤ 140737488355328) := hlen
  have HP : Hid (PgT w0.heap.size b l d w) := hp
  have hsw := hB.size
  clear hp hlen HT
  unfold St.val
  rw [hk]
  have hb0 := (Below.refl _ w).alloc (Nat.le_refl _) (.cells #[.int .i64 8, .string s.name, .int .i64 s.n, .int .i64 s.a.kind, .int .i64 s.a.n, .string s.a.name, .slice s.a.a s.a.args.length s.a.cap, .int .i64 s.b.kind, .int .i64 s.b.n, .string s.b.name, .slice s.b.a s.b.args.length s.b.cap, .slice s.ba s.body.length s.bc, .slice s.ea s.els.length s.ec, .slice s.ca s.cases.length s.cc] 53)
  have hB0 : Below w0.heap.size w0 _ := hB.alloc hsw (.cells #[.int .i64 8, .string s.name, .int .i64 s.n, .int .i64 s.a.kind, .int .i64 s.a.n, .string s.a.name, .slice s.a.a s.a.args.length s.a.cap, .int .i64 s.b.kind, .int .i64 s.b.n, .string s.b.name, .slice s.b.a s.b.args.length s.b.cap, .slice s.ba s.body.length s.bc, .slice s.ea s.els.length s.ec, .slice s.ca s.cases.length s.cc] 53)
  obtain ⟨W0, hW0⟩ : ∃ W0, w.alloc (.cells #[.int .i64 8, .string s.name, .int .i64 s.n, .int .i64 s.a.kind, .int .i64 s.a.n, .string s.a.name, .slice s.a.a s.a.args.length s.a.cap, .int .i64 s.b.kind, .int .i64 s.b.n, .string s.b.name, .slice s.b.a s.b.args.length s.b.cap, .slice s.ba s.body.length s.bc, .slice s.ea s.els.length s.ec, .slice s.ca s.cases.length s.cc] 53) = W0 := ⟨_, rfl⟩
  have HW0 := show Hid _ from hW0
  have HSZ : Hid (w.heap.size + 1 = W0.heap.size) := by show _ = _; rw [← hW0]; simp
  rw [hW0] at hb0 hB0
  clear hW0
  go_enter Tryd.func64, Tryd.ntmps64
  go_wp2_with fail
  rw [HW0.out, HSZ.out]
  have hb2 := hb0
  refine (line_new w0.heap.size b l d [⟨#[98, 114, 101, 97, 107, 59]⟩] W0 (HP.out.stay hb2) (by have := hb2.size; omega) (Nat.le_of_ble_eq_true rfl) (by omega) HLEN.out).mono ?_
  rintro e w2 ⟨rfl, hp2, hb3, ho3⟩
  have HP2 : Hid (PgT w0.heap.size b (l ++ lineB d (cat [⟨#[98, 114, 101, 97, 107, 59]⟩])) d w2) := hp2
  clear hp2
  go_wp2_with fail
  go_end0
  exact ⟨rfl, HP2.out, ((hb2.mono hsw).alloc (by have := hb2.size; omega) _).trans hb3, ((oth_below hb2).alloc _).trans ho3⟩

set_option maxRecDepth 100000 in
set_option maxHeartbeats 8000000 in
theorem stmt10 (w0 : World) (s : St) (hk : s.kind = 10) (hin : s.In w0) (ht : Tabs w0) (hnt : NumT w0) (hoa : OkE s.a) (hza : s.a.sz ≤ 1000000) : StmtPr w0 s := by
  intro b l d w hB hp hd hlen
  have HT : Hid (lineB d (cat [⟨(txE s.a).toArray⟩, ⟨#[59]⟩]) = txS s d) := by
    show _ = _; cases s; simp only [St.kind] at hk; subst hk; simp [txS, cat, St.a]
  rw [← HT.out] at hlen ⊢
  have HLEN : Hid ((l ++ lineB d (cat [⟨(txE s.a).toArray⟩, ⟨#[59]⟩])).length ≤ 140737488355328) := hlen
  have HX : Hid (∀ w', Below w0.heap.size w0 w' → Calls Tryd.prog 81 #[.agg #[.int .i64 s.a.kind, .int .i64 s.a.n, .string s.a.name, .slice s.a.a s.a.args.length s.a.cap]] w' fun e w'' => e = .returned (sB (txE s.a)) ∧ Below w'.heap.size w' w'') := fun w' hb => expr_any s.a w' ((St.in_iff.1 hin).2.2.2.1.stay hb) (ht.stay hb) (hnt.stay hb) hoa hza
  have HP : Hid (PgT w0.heap.size b l d w) := hp
  have hsw := hB.size
  clear hin ht hnt hoa hp hlen HT
  unfold St.val
  rw [hk]
  have hb0 := (Below.refl _ w).alloc (Nat.le_refl _) (.cells #[.int .i64 10, .string s.name, .int .i64 s.n, .int .i64 s.a.kind, .int .i64 s.a.n, .string s.a.name, .slice s.a.a s.a.args.length s.a.cap, .int .i64 s.b.kind, .int .i64 s.b.n, .string s.b.name, .slice s.b.a s.b.args.length s.b.cap, .slice s.ba s.body.length s.bc, .slice s.ea s.els.length s.ec, .slice s.ca s.cases.length s.cc] 53)
  have hB0 : Below w0.heap.size w0 _ := hB.alloc hsw (.cells #[.int .i64 10, .string s.name, .int .i64 s.n, .int .i64 s.a.kind, .int .i64 s.a.n, .string s.a.name, .slice s.a.a s.a.args.length s.a.cap, .int .i64 s.b.kind, .int .i64 s.b.n, .string s.b.name, .slice s.b.a s.b.args.length s.b.cap, .slice s.ba s.body.length s.bc, .slice s.ea s.els.length s.ec, .slice s.ca s.cases.length s.cc] 53)
  go_enter Tryd.func64, Tryd.ntmps64
  go_wp2_with fail
  refine (HX.out _ hB0).mono ?_
  rintro e w1 ⟨rfl, hb1⟩
  have hb2 := Below.on hb0 hb1
  go_wp2_with fail
  refine (line_new w0.heap.size b l d [⟨(txE s.a).toArray⟩, ⟨#[59]⟩] w1 (HP.out.stay hb2) (by have := hb2.size; omega) (Nat.le_of_ble_eq_true rfl) (by omega) HLEN.out).mono ?_
  rintro e w2 ⟨rfl, hp2, hb3, ho3⟩
  have HP2 : Hid (PgT w0.heap.size b (l ++ lineB d (cat [⟨(txE s.a).toArray⟩, ⟨#[59]⟩])) d w2) := hp2
  clear hp2
  go_wp2_with fail
  go_end0
  exact ⟨rfl, HP2.out, ((hb2.mono hsw).alloc (by have := hb2.size; omega) _).trans hb3, ((oth_below hb2).alloc _).trans ho3⟩
end Go.Proofs.YtbpemackmadhgabDoor

/- What follows where nothing is wrong with a program: of its parts, and how many they are. -/
namespace Go.Proofs.YtbpemackmadhgabDoor
open Go.RowKit Go.Sort

theorem thenZ_ok {p : Int × Int} {f : Int → Int × Int} (h : (thenZ p f).1 = 0) : p.1 = 0 ∧ (f p.2).1 = 0 := by
  unfold thenZ at h
  split at h
  · exact absurd h (by assumption)
  · rename_i h0; exact ⟨by simpa using h0, h⟩
theorem chkT_ok {s : St} {lv at_ : Int} (h : (chkT s lv at_).1 = 0) : chkS s lv = 0 ∧ (∃ a, (chkSs s.body (lv + 1) a).1 = 0) ∧ (∃ a, (chkCs s.cases (lv + 1) a).1 = 0) ∧ ∃ a, (chkSs s.els (lv + 1) a).1 = 0 := by
  obtain ⟨k, nm, n, a, b, ba, bc, l, ea, ec, e, ca, cc, c⟩ := s
  rw [chkT] at h
  split at h
  · exact absurd h (by assumption)
  · rename_i h0
    obtain ⟨h1, h2⟩ := thenZ_ok h
    obtain ⟨h3, h4⟩ := thenZ_ok h2
    exact ⟨by simpa using h0, ⟨_, h1⟩, ⟨_, h3⟩, ⟨_, h4⟩⟩
theorem chkSs_ok : ∀ {l : List St} {lv at_ : Int}, (chkSs l lv at_).1 = 0 → ∀ x ∈ l, ∃ a, (chkT x lv a).1 = 0
  | [], _, _, _, x, hx => by cases hx
  | s :: r, lv, at_, h, x, hx => by
    rw [chkSs] at h
    obtain ⟨h1, h2⟩ := thenZ_ok h
    rcases List.mem_cons.1 hx with rfl | hx
    · exact ⟨_, h1⟩
    · exact chkSs_ok h2 x hx
theorem chkCs_ok : ∀ {l : List Ca} {lv at_ : Int}, (chkCs l lv at_).1 = 0 → ∀ c ∈ l, ∃ a, (chkSs c.body lv a).1 = 0
  | [], _, _, _, x, hx => by cases hx
  | c :: r, lv, at_, h, x, hx => by
    rw [chkCs] at h
    obtain ⟨h1, h2⟩ := thenZ_ok h
    rcases List.mem_cons.1 hx with rfl | hx
    · rw [chkCa_eq] at h1; exact ⟨_, h1⟩
    · exact chkCs_ok h2 x hx
/-- A statement that is right by itself. -/
theorem chkS_ok {s : St} {lv : Int} (h : chkS s lv = 0) : lv ≤ 32 ∧ 1 ≤ s.kind ∧ s.kind ≤ 10 ∧ ((bits .and .i64 (fldS s.kind.toNat) 1 != 0) = true → nameZ s.name = true) ∧
    ((bits .and .i64 (fldS s.kind.toNat) 4 != 0) = true → OkE s.a) ∧ ((bits .and .i64 (fldS s.kind.toNat) 8 != 0) = true → OkE s.b) := by
  unfold chkS at h
  split at h
  · omega
  split at h
  · rename_i _ h1; exact absurd h h1
  rename_i h0 h1
  have h1' : selfS s = 0 := by simpa using h1
  have hk : isS s.kind = true ∧ ((bits .and .i64 (fldS s.kind.toNat) 1 != 0) = true → nameZ s.name = true) := by
    unfold selfS at h1'
    split at h1'
    · omega
    rename_i hs
    split at h1'
    · omega
    split at h1'
    · omega
    rename_i hn
    refine ⟨by simpa using hs, fun hb => ?_⟩
    rw [hb] at hn
    simpa using hn
  simp only [isS, Bool.and_eq_true, decide_eq_true_eq] at hk
  refine ⟨by omega, hk.1.1, hk.1.2, hk.2, fun hb => ?_, fun hb => ?_⟩
  · split at h
    · rename_i h2; rw [hb] at h2; simp at h2; exact absurd h h2
    · rename_i h2; rw [hb] at h2; simp at h2; exact ⟨_, h2⟩
  · split at h
    · rename_i h2
      rw [Bool.and_eq_true] at h2
      simp at h2; exact absurd h h2.2
    · exact ⟨_, h⟩

def zE (x : Ex) : Nat := if zeroE x then 0 else x.sz
mutual
def St.V : St → Nat | .mk _ _ _ a b _ _ l _ _ e _ _ c => zE a + zE b + vSs l + vSs e + vCs c + c.length + 1
def vSs : List St → Nat | [] => 0 | x :: r => x.V + vSs r
def Ca.V : Ca → Nat | .mk _ _ _ l => vSs l
def vCs : List Ca → Nat | [] => 0 | c :: r => c.V + vCs r
end
theorem St.V_eq (s : St) : s.V = zE s.a + zE s.b + vSs s.body + vSs s.els + vCs s.cases + s.cases.length + 1 := by
  cases s; simp only [St.V, St.a, St.b, St.body, St.els, St.cases]
theorem Ca.V_eq (c : Ca) : c.V = vSs c.body := by cases c; simp only [Ca.V, Ca.body]
theorem vSs_mem {l : List St} {x : St} (h : x ∈ l) : x.V ≤ vSs l := by
  induction l with
  | nil => cases h
  | cons y r ih =>
    rw [vSs]
    rcases List.mem_cons.1 h with rfl | h
    · omega
    · have := ih h; omega
theorem vCs_mem {l : List Ca} {x : Ca} (h : x ∈ l) : x.V ≤ vCs l := by
  induction l with
  | nil => cases h
  | cons y r ih =>
    rw [vCs]
    rcases List.mem_cons.1 h with rfl | h
    · omega
    · have := ih h; omega
theorem cntE_V (k : Nat) : (∀ (x : Ex) (n : Int), x.sz ≤ k → cntE x n ≤ 4096 → n + x.sz ≤ cntE x n) ∧ (∀ (l : List Ex) (n : Int), szL l ≤ k → cntL l n ≤ 4096 → n + szL l ≤ cntL l n) := by
  induction k with
  | zero =>
    refine ⟨fun x n hk => by have := x.sz_args; omega, fun l n hk => ?_⟩
    cases l with
    | nil => simp [cntL, szL]
    | cons x r => rw [szL] at hk; have := x.sz_args; omega
  | succ k ih =>
    have h1 : ∀ (x : Ex) (n : Int), x.sz ≤ k + 1 → cntE x n ≤ 4096 → n + x.sz ≤ cntE x n := fun x n hk h => by
      rw [cntE_args] at h ⊢
      have := ih.2 x.args (n + 1) (by have := x.sz_args; omega) h
      have := x.sz_args
      omega
    refine ⟨h1, fun l => ?_⟩
    induction l with
    | nil => intro n _ _; simp [cntL, szL]
    | cons x r ihr =>
      intro n hk h
      rw [szL] at hk ⊢
      rw [cntL] at h ⊢
      split at h
      · omega
      · rename_i hn
        rw [if_neg hn]
        have a1 := cntL_ge r (cntE x n)
        have a2 := h1 x n (by omega) (by omega)
        have a3 := ihr (cntE x n) (by omega) h
        omega
theorem cntZ_V (x : Ex) (n : Int) : n ≤ cntZ x n ∧ (cntZ x n ≤ 4096 → n + zE x ≤ cntZ x n) := by
  refine ⟨cntZ_ge x n, fun h => ?_⟩
  unfold cntZ zE at *
  split at h
  · rename_i hz; simp [hz]
  · rename_i hz
    have := (cntE_V _).1 x n (Nat.le_refl _) h
    simp [hz]; omega
theorem cntS_V (k : Nat) : (∀ (s : St) (n : Int), s.sz ≤ k → n ≤ cntS s n ∧ (cntS s n ≤ 4096 → n + s.V ≤ cntS s n)) ∧ (∀ (l : List St) (n : Int), ssz l ≤ k → n ≤ cntSs l n ∧ (cntSs l n ≤ 4096 → n + vSs l ≤ cntSs l n)) := by
  have step : ∀ k, (∀ (s : St) (n : Int), s.sz ≤ k → n ≤ cntS s n ∧ (cntS s n ≤ 4096 → n + s.V ≤ cntS s n)) → ∀ (l : List St) (n : Int), ssz l ≤ k → n ≤ cntSs l n ∧ (cntSs l n ≤ 4096 → n + vSs l ≤ cntSs l n) := by
    intro k h1 l
    induction l with
    | nil => intro n _; simp only [cntSs, vSs]; omega
    | cons x r ihr =>
      intro n hk
      rw [ssz] at hk
      rw [vSs, cntSs]
      split
      · omega
      · have a1 := h1 x n (by omega)
        have a2 := ihr (cntS x n) (by omega)
        omega
  induction k with
  | zero =>
    have h0 : ∀ (s : St) (n : Int), s.sz ≤ 0 → n ≤ cntS s n ∧ (cntS s n ≤ 4096 → n + s.V ≤ cntS s n) := fun s n hk => by have := s.sz_eq; omega
    exact ⟨h0, step 0 h0⟩
  | succ k ih =>
    have h1 : ∀ (s : St) (n : Int), s.sz ≤ k + 1 → n ≤ cntS s n ∧ (cntS s n ≤ 4096 → n + s.V ≤ cntS s n) := by
      intro s n hk
      have hz := s.sz_eq
      have hc : ∀ (l : List Ca) (n : Int), csz l ≤ k → n ≤ cntCs l n ∧ (cntCs l n ≤ 4096 → n + vCs l ≤ cntCs l n) := by
        intro l
        induction l with
        | nil => intro n _; simp only [cntCs, vCs]; omega
        | cons c r ihr =>
          intro n hk
          rw [csz] at hk
          rw [cntCs, vCs, cntC_eq, c.V_eq]
          have a1 := ih.2 c.body n (by have := c.sz_eq; omega)
          have a2 := ihr (cntSs c.body n) (by omega)
          omega
      have e : cntS s n = cntSs s.els (cntCs s.cases (cntSs s.body (cntZ s.b (cntZ s.a (n + (1 + (s.cases.length : Int))))))) := by
        cases s; simp only [cntS, St.els, St.cases, St.body, St.a, St.b]
      rw [e, s.V_eq]
      have a1 := cntZ_V s.a (n + (1 + (s.cases.length : Int)))
      have a2 := cntZ_V s.b (cntZ s.a (n + (1 + (s.cases.length : Int))))
      have a3 := ih.2 s.body (cntZ s.b (cntZ s.a (n + (1 + (s.cases.length : Int))))) (by omega)
      have a4 := hc s.cases (cntSs s.body (cntZ s.b (cntZ s.a (n + (1 + (s.cases.length : Int)))))) (by omega)
      have a5 := ih.2 s.els (cntCs s.cases (cntSs s.body (cntZ s.b (cntZ s.a (n + (1 + (s.cases.length : Int))))))) (by omega)
      omega
    exact ⟨h1, step (k + 1) h1⟩
theorem cntF_V : ∀ (l : List Fu) (n : Int), n ≤ cntF l n ∧ (cntF l n ≤ 4096 → n + (l.map fun f => vSs f.body).sum ≤ cntF l n)
  | [], n => ⟨Int.le_refl _, fun _ => by simp [cntF]⟩
  | f :: r, n => by
    have a1 := (cntS_V _).2 f.body n (Nat.le_refl _)
    have a2 := cntF_V r (cntSs f.body n)
    rw [cntF, List.map_cons, List.sum_cons]
    omega
theorem whole_ok {p : Pr} (h : wholeZ p = 0) : p.widen.length ≤ 16 ∧ p.funcs.length ≤ 32 ∧ (p.funcs.map fun f => vSs f.body).sum ≤ 4096 := by
  have hn : p.widen.length ≤ 16 ∧ p.funcs.length ≤ 32 ∧ nodesZ p ≤ 4096 := by
    unfold wholeZ at h
    split at h
    · omega
    split at h
    · omega
    split at h
    · omega
    split at h
    · omega
    split at h
    · omega
    omega
  refine ⟨hn.1, hn.2.1, ?_⟩
  have h2 := hn.2.2
  unfold nodesZ at h2
  have := (cntF_V p.funcs 0).2 (by omega)
  omega
theorem sum_mem {l : List Fu} {f : Fu} (h : f ∈ l) : vSs f.body ≤ (l.map fun f => vSs f.body).sum := by
  induction l with
  | nil => cases h
  | cons y r ih =>
    rw [List.map_cons, List.sum_cons]
    rcases List.mem_cons.1 h with rfl | h
    · omega
    · have := ih h; omega
theorem okE_zE {x : Ex} (h : OkE x) : zE x = x.sz := by
  obtain ⟨kn, hk, h1, _⟩ := selfE_zero h.parts.1
  unfold zE
  rw [if_neg]
  intro hz
  simp only [zeroE, Bool.and_eq_true, beq_iff_eq] at hz
  omega
end Go.Proofs.YtbpemackmadhgabDoor

/- How long the text of a right program is at most. -/
namespace Go.Proofs.YtbpemackmadhgabDoor
open Go.RowKit Go.Sort

theorem lineB_len (d : Nat) (t : List UInt8) : (lineB d t).length = 2 * d + t.length + 1 := by simp [lineB]; omega
theorem txS_eq (s : St) (d : Nat) : txS s d =
    if s.kind = 1 then lineB d ([108, 101, 116, 32] ++ s.name.data.toList ++ [32, 61, 32] ++ txE s.a ++ [59])
    else if s.kind = 2 then lineB d ([108, 101, 116, 32] ++ s.name.data.toList ++ [91] ++ Lib.itoa s.n ++ [93, 59])
    else if s.kind = 3 then lineB d (s.name.data.toList ++ [32, 61, 32] ++ txE s.a ++ [59])
    else if s.kind = 4 then lineB d (s.name.data.toList ++ [91] ++ txE s.a ++ [93, 32, 61, 32] ++ txE s.b ++ [59])
    else if s.kind = 5 then lineB d ([105, 102, 32] ++ txE s.a ++ [32, 123]) ++ txSs s.body (d + 1) ++ (if s.els.length = 0 then [] else lineB d [125, 32, 101, 108, 115, 101, 32, 123] ++ txSs s.els (d + 1)) ++ lineB d [125]
    else if s.kind = 6 then lineB d ([115, 119, 105, 116, 99, 104, 32] ++ txE s.a ++ [32, 123]) ++ txCs s.cases (d + 1) ++ (if s.els.length = 0 then [] else lineB (d + 1) [101, 108, 115, 101, 32, 123] ++ txSs s.els (d + 2) ++ lineB (d + 1) [125]) ++ lineB d [125]
    else if s.kind = 7 then lineB d ([102, 111, 114, 32] ++ s.name.data.toList ++ [32, 105, 110, 32] ++ txE s.a ++ [46, 46] ++ txE s.b ++ [32, 123]) ++ txSs s.body (d + 1) ++ lineB d [125]
    else if s.kind = 8 then lineB d [98, 114, 101, 97, 107, 59]
    else if s.kind = 9 then lineB d ([114, 101, 116, 117, 114, 110, 32] ++ txE s.a ++ [59])
    else lineB d (txE s.a ++ [59]) := by
  cases s; rw [txS]; rfl
theorem txC_eq' (c : Ca) (d : Nat) : txC c d = lineB d ([99, 97, 115, 101, 32] ++ Lib.itoa c.n ++ [32, 123]) ++ txSs c.body (d + 1) ++ lineB d [125] := by
  cases c; simp only [txC, Ca.n, Ca.body]
theorem nm_len {s : ByteArray} (h : nameZ s = true) : s.data.toList.length ≤ 16 := by
  have := nameZ_len h
  rw [Array.length_toList]
  exact this

theorem txS_len {w : World} (k : Nat) : (∀ (s : St) (lv : Nat) (at_ : Int) (d : Nat), s.sz ≤ k → s.In w → (chkT s lv at_).1 = 0 → d ≤ 2 * lv + 20 → (txS s d).length ≤ 1000 * s.V) ∧
    (∀ (l : List St) (lv : Nat) (at_ : Int) (d : Nat), ssz l ≤ k → (∀ x ∈ l, x.In w) → (chkSs l lv at_).1 = 0 → d ≤ 2 * lv + 20 → (txSs l d).length ≤ 1000 * vSs l) := by
  have step : ∀ k, (∀ (s : St) (lv : Nat) (at_ : Int) (d : Nat), s.sz ≤ k → s.In w → (chkT s lv at_).1 = 0 → d ≤ 2 * lv + 20 → (txS s d).length ≤ 1000 * s.V) →
      ∀ (l : List St) (lv : Nat) (at_ : Int) (d : Nat), ssz l ≤ k → (∀ x ∈ l, x.In w) → (chkSs l lv at_).1 = 0 → d ≤ 2 * lv + 20 → (txSs l d).length ≤ 1000 * vSs l := by
    intro k h1 l
    induction l with
    | nil => intro lv at_ d _ _ _ _; simp [txSs]
    | cons x r ihr =>
      intro lv at_ d hk hin hc hd
      rw [ssz] at hk
      rw [chkSs] at hc
      obtain ⟨c1, c2⟩ := thenZ_ok hc
      have a1 := h1 x lv _ d (by omega) (hin x (by simp)) c1 hd
      have a2 := ihr lv _ d (by omega) (fun y hy => hin y (by simp [hy])) c2 hd
      rw [txSs, vSs, List.length_append]; omega
  induction k with
  | zero =>
    have h0 : ∀ (s : St) (lv : Nat) (at_ : Int) (d : Nat), s.sz ≤ 0 → s.In w → (chkT s lv at_).1 = 0 → d ≤ 2 * lv + 20 → (txS s d).length ≤ 1000 * s.V := fun s _ _ _ hk => by have := s.sz_eq; omega
    exact ⟨h0, step 0 h0⟩
  | succ k ih =>
    have h1 : ∀ (s : St) (lv : Nat) (at_ : Int) (d : Nat), s.sz ≤ k + 1 → s.In w → (chkT s lv at_).1 = 0 → d ≤ 2 * lv + 20 → (txS s d).length ≤ 1000 * s.V := by
      intro s lv at_ d hk hin hc hd
      obtain ⟨cs, ⟨ab, cb⟩, ⟨ac, cc⟩, ⟨ae, ce⟩⟩ := chkT_ok hc
      obtain ⟨hlv, hk1, hk2, hnm, hoa, hob⟩ := chkS_ok cs
      have hz := s.sz_eq
      have hi := St.in_iff.1 hin
      have hd2 : d ≤ 84 := by omega
      have lb : (txSs s.body (d + 1)).length ≤ 1000 * vSs s.body := ih.2 s.body (lv + 1) ab (d + 1) (by omega) hi.2.2.2.2.2.1.2 (by exact_mod_cast cb) (by omega)
      have le1 : (txSs s.els (d + 1)).length ≤ 1000 * vSs s.els := ih.2 s.els (lv + 1) ae (d + 1) (by omega) hi.2.2.2.2.2.2.1.2 (by exact_mod_cast ce) (by omega)
      have le2 : (txSs s.els (d + 2)).length ≤ 1000 * vSs s.els := ih.2 s.els (lv + 1) ae (d + 2) (by omega) hi.2.2.2.2.2.2.1.2 (by exact_mod_cast ce) (by omega)
      have lc : (txCs s.cases (d + 1)).length ≤ 1000 * (vCs s.cases + s.cases.length) := by
        have gen : ∀ (l : List Ca) (a : Int), csz l ≤ k → (∀ x ∈ l, x.In w) → (chkCs l ((lv + 1 : Nat) : Int) a).1 = 0 → (txCs l (d + 1)).length ≤ 1000 * (vCs l + l.length) := by
          intro l
          induction l with
          | nil => intro a _ _ _; simp [txCs]
          | cons c r ihr =>
            intro a hk hin hc
            rw [csz] at hk
            rw [chkCs] at hc
            obtain ⟨c1, c2⟩ := thenZ_ok hc
            rw [chkCa_eq] at c1
            have hci := Ca.in_iff.1 (hin c (by simp))
            have a1 := ih.2 c.body (lv + 1) a (d + 1 + 1) (by have := c.sz_eq; omega) hci.2.2 c1 (by omega)
            have a2 := ihr _ (by omega) (fun y hy => hin y (by simp [hy])) c2
            have a3 := Lib.itoa_length_le c.n hci.1.1 hci.1.2
            rw [txCs, vCs, c.V_eq, txC_eq']
            simp only [List.length_append, lineB_len, List.length_cons, List.length_nil]
            omega
        exact gen s.cases ac (by omega) hi.2.2.2.2.2.2.2.2 (by exact_mod_cast cc)
      have la : OkE s.a → (txE s.a).length + 4 ≤ 32 * zE s.a := fun h => by rw [okE_zE h]; exact txE_len _ s.a (Nat.le_refl _) hi.2.2.2.1 h
      have lbb : OkE s.b → (txE s.b).length + 4 ≤ 32 * zE s.b := fun h => by rw [okE_zE h]; exact txE_len _ s.b (Nat.le_refl _) hi.2.2.2.2.1 h
      have ln := Lib.itoa_length_le s.n hi.2.2.1.1 hi.2.2.1.2
      rw [s.V_eq, txS_eq]
      have hcase : s.kind = 1 ∨ s.kind = 2 ∨ s.kind = 3 ∨ s.kind = 4 ∨ s.kind = 5 ∨ s.kind = 6 ∨ s.kind = 7 ∨ s.kind = 8 ∨ s.kind = 9 ∨ s.kind = 10 := by omega
      rcases hcase with h | h | h | h | h | h | h | h | h | h <;> rw [h] at hnm hoa hob ⊢
      · have := la (hoa rfl)
        have := nm_len (hnm rfl)
        rw [if_pos rfl]
        simp only [List.length_append, lineB_len, List.length_cons, List.length_nil]; omega
      · have := nm_len (hnm rfl)
        rw [if_neg (show ¬ (2 : Int) = 1 by decide), if_pos rfl]
        simp only [List.length_append, lineB_len, List.length_cons, List.length_nil]; omega
      · have := la (hoa rfl)
        have := nm_len (hnm rfl)
        rw [if_neg (show ¬ (3 : Int) = 1 by decide), if_neg (show ¬ (3 : Int) = 2 by decide), if_pos rfl]
        simp only [List.length_append, lineB_len, List.length_cons, List.length_nil]; omega
      · have := la (hoa rfl)
        have := lbb (hob rfl)
        have := nm_len (hnm rfl)
        rw [if_neg (show ¬ (4 : Int) = 1 by decide), if_neg (show ¬ (4 : Int) = 2 by decide), if_neg (show ¬ (4 : Int) = 3 by decide), if_pos rfl]
        simp only [List.length_append, lineB_len, List.length_cons, List.length_nil]; omega
      · have := la (hoa rfl)
        rw [if_neg (show ¬ (5 : Int) = 1 by decide), if_neg (show ¬ (5 : Int) = 2 by decide), if_neg (show ¬ (5 : Int) = 3 by decide), if_neg (show ¬ (5 : Int) = 4 by decide), if_pos rfl]
        by_cases h0 : s.els.length = 0
        · rw [if_pos h0]; simp only [List.length_append, lineB_len, List.length_cons, List.length_nil]; omega
        · rw [if_neg h0]; simp only [List.length_append, lineB_len, List.length_cons, List.length_nil]; omega
      · have := la (hoa rfl)
        rw [if_neg (show ¬ (6 : Int) = 1 by decide), if_neg (show ¬ (6 : Int) = 2 by decide), if_neg (show ¬ (6 : Int) = 3 by decide), if_neg (show ¬ (6 : Int) = 4 by decide), if_neg (show ¬ (6 : Int) = 5 by decide), if_pos rfl]
        by_cases h0 : s.els.length = 0
        · rw [if_pos h0]; simp only [List.length_append, lineB_len, List.length_cons, List.length_nil]; omega
        · rw [if_neg h0]; simp only [List.length_append, lineB_len, List.length_cons, List.length_nil]; omega
      · have := la (hoa rfl)
        have := lbb (hob rfl)
        have := nm_len (hnm rfl)
        rw [if_neg (show ¬ (7 : Int) = 1 by decide), if_neg (show ¬ (7 : Int) = 2 by decide), if_neg (show ¬ (7 : Int) = 3 by decide), if_neg (show ¬ (7 : Int) = 4 by decide), if_neg (show ¬ (7 : Int) = 5 by decide), if_neg (show ¬ (7 : Int) = 6 by decide), if_pos rfl]
        simp only [List.length_append, lineB_len, List.length_cons, List.length_nil]; omega
      · rw [if_neg (show ¬ (8 : Int) = 1 by decide), if_neg (show ¬ (8 : Int) = 2 by decide), if_neg (show ¬ (8 : Int) = 3 by decide), if_neg (show ¬ (8 : Int) = 4 by decide), if_neg (show ¬ (8 : Int) = 5 by decide), if_neg (show ¬ (8 : Int) = 6 by decide), if_neg (show ¬ (8 : Int) = 7 by decide), if_pos rfl]
        simp only [lineB_len, List.length_cons, List.length_nil]; omega
      · have := la (hoa rfl)
        rw [if_neg (show ¬ (9 : Int) = 1 by decide), if_neg (show ¬ (9 : Int) = 2 by decide), if_neg (show ¬ (9 : Int) = 3 by decide), if_neg (show ¬ (9 : Int) = 4 by decide), if_neg (show ¬ (9 : Int) = 5 by decide), if_neg (show ¬ (9 : Int) = 6 by decide), if_neg (show ¬ (9 : Int) = 7 by decide), if_neg (show ¬ (9 : Int) = 8 by decide), if_pos rfl]
        simp only [List.length_append, lineB_len, List.length_cons, List.length_nil]; omega
      · have := la (hoa rfl)
        rw [if_neg (show ¬ (10 : Int) = 1 by decide), if_neg (show ¬ (10 : Int) = 2 by decide), if_neg (show ¬ (10 : Int) = 3 by decide), if_neg (show ¬ (10 : Int) = 4 by decide), if_neg (show ¬ (10 : Int) = 5 by decide), if_neg (show ¬ (10 : Int) = 6 by decide), if_neg (show ¬ (10 : Int) = 7 by decide), if_neg (show ¬ (10 : Int) = 8 by decide), if_neg (show ¬ (10 : Int) = 9 by decide)]
        simp only [List.length_append, lineB_len, List.length_cons, List.length_nil]; omega
    exact ⟨h1, step (k + 1) h1⟩
end Go.Proofs.YtbpemackmadhgabDoor

/- tree.Print where the text is too long, and where Check finds something wrong. -/
namespace Go.Proofs.YtbpemackmadhgabDoor
open Go.RowKit Go.Sort

set_option maxRecDepth 100000 in
set_option maxHeartbeats 8000000 in
theorem print_long (p : Pr) (w : World) (hin : p.In w) (ht : Tabs w) (hnt : NumT w) (hck : checkZ p = (0, 0, 0)) (hw16 : p.widen.length ≤ 16) (hf : ∀ f ∈ p.funcs, FnPr w f) (hlen : 65536 < (txP p).length) (hlen2 : (txP p).length ≤ 140737488355328) :
    Calls Tryd.prog 11 #[p.val] w fun e w' => e = .returned (.tuple #[sB [], fltV 4 0 0]) ∧ Below w.heap.size w w' := by
  have HC : Hid (∀ w', Below w.heap.size w w' → Calls Tryd.prog 7 #[p.val] w' fun e w'' => e = .returned (fltV 0 0 0) ∧ Below w'.heap.size w' w'') := fun w' hb => by
    have := check_any p w' (hin.stay hb) (ht.stay hb)
    rw [hck] at this; exact this
  have HP : Hid (∀ b w', Below w.heap.size w w' → PgT w.heap.size b [] 0 w' → Calls Tryd.prog 24 #[.pointer (some ⟨b, 0, none⟩), p.val] w' fun e w'' => e = .returned (.tuple #[]) ∧ PgT w.heap.size b (txP p) 0 w'' ∧ Below w.heap.size w' w'' ∧ Oth b w' w'') := fun b w' hb hp => program_any w b w' p hb hp hin hnt hw16 hf hlen2
  clear hin ht hnt hck hf
  unfold Pr.val at HC HP ⊢
  have hb1 := ((Below.refl _ w).alloc (Nat.le_refl _) (.cells #[.slice p.wa p.widen.length p.wc, .slice p.fa p.funcs.length p.fc] 25)).alloc (by simp) (.cells #[.int .i64 0, .int .i64 0, .int .i64 0] 29)
  go_enter Tryd.func11, Tryd.ntmps11
  go_wp2_with fail
  refine (HC.out _ hb1).mono ?_
  rintro e w1 ⟨rfl, hbc⟩
  obtain ⟨k1, k2⟩ := heap3 hbc
  have hb2 := Below.on hb1 hbc
  have hs1 : w.heap.size + 1 + 1 ≤ w1.heap.size := by have := hbc.size; simp at this; omega
  have c0 : w1.cell? ⟨w.heap.size, 0, none⟩ = some (.slice p.wa p.widen.length p.wc) := by rw [Lib.cell_of_heap k1]; rfl
  have c1 : w1.cell? ⟨w.heap.size, 1, none⟩ = some (.slice p.fa p.funcs.length p.fc) := by rw [Lib.cell_of_heap k1]; rfl
  have K2 : Hid (w1.heap[w.heap.size + 1]? = some (.cells #[.int .i64 0, .int .i64 0, .int .i64 0] 29 (0, 0))) := k2
  have hlt0 : w.heap.size < w1.heap.size := by omega
  have hlt1 : w.heap.size + 1 < w1.heap.size := by omega
  clear k1 k2 hbc hb1
  go_wp2_with fail
  have hbx := ((Below.refl _ w1).alloc (Nat.le_refl _) (.cells #[.int .i64 0, .int .i64 0, .int .i64 0] 29)).alloc (by simp) (.cells #[.pointer none, .slice none 0 0, .int .i64 0] 68)
  have hbn : ((w1.alloc (.cells #[.int .i64 0, .int .i64 0, .int .i64 0] 29)).alloc (.cells #[.pointer none, .slice none 0 0, .int .i64 0] 68)).heap[w1.heap.size + 1]? = some (.cells #[.pointer none, .slice none 0 0, .int .i64 0] 68 (0, 0)) := by
    have := heap_alloc_new (w1.alloc (.cells #[.int .i64 0, .int .i64 0, .int .i64 0] 29)) (.cells #[.pointer none, .slice none 0 0, .int .i64 0] 68)
    rwa [World.size_alloc] at this
  have hpg : PgT w.heap.size (w1.heap.size + 1) [] 0 ((w1.alloc (.cells #[.int .i64 0, .int .i64 0, .int .i64 0] 29)).alloc (.cells #[.pointer none, .slice none 0 0, .int .i64 0] 68)) :=
    .inl ⟨by omega, .slice none 0 0, hbn, World.ownsRow_nil _ _ _ _, by simp [Value.ownBlock], fun _ => rfl⟩
  have K3 : Hid (((w1.alloc (.cells #[.int .i64 0, .int .i64 0, .int .i64 0] 29)).alloc (.cells #[.pointer none, .slice none 0 0, .int .i64 0] 68)).heap[w.heap.size + 1]? = some (.cells #[.int .i64 0, .int .i64 0, .int .i64 0] 29 (0, 0))) := (hbx.block _ hlt1).trans K2.out
  have hbb := Below.on hb2 hbx
  refine (HP.out _ _ hbb hpg).mono ?_
  rintro e w2 ⟨rfl, hp2, hb3, ho3⟩
  have HP2 : Hid (PgT w.heap.size (w1.heap.size + 1) (txP p) 0 w2) := hp2
  have K4 : w2.heap[w.heap.size + 1]? = some (.cells #[.int .i64 0, .int .i64 0, .int .i64 0] 29 (0, 0)) := ho3 _ _ K3.out (by simp; omega) (fun c fz e => by cases e)
  have hb4 : Below w.heap.size w w2 := hbb.trans hb3
  clear hp2 hb3 ho3 hbn hpg hbx hbb c0 c1 K3 K2 hb2
  go_wp2_with fail
  refine (len_any _ _ _ _ _ HP2.out).mono ?_
  rintro e w3 ⟨rfl, rfl⟩
  have HL : Hid (65536 < ((Lib.byteCells (txP p)).length : Int)) := by show _ < _; rw [Lib.byteCells_length]; omega
  have hll := HL.out
  generalize ((Lib.byteCells (txP p)).length : Int) = ln at hll ⊢
  have r0 : w3.cell? ⟨w.heap.size + 1, 0, none⟩ = some (.int .i64 0) := by rw [Lib.cell_of_heap K4]; rfl
  have r1 : w3.cell? ⟨w.heap.size + 1, 1, none⟩ = some (.int .i64 0) := by rw [Lib.cell_of_heap K4]; rfl
  have r2 : w3.cell? ⟨w.heap.size + 1, 2, none⟩ = some (.int .i64 0) := by rw [Lib.cell_of_heap K4]; rfl
  have q0 : w3.frozen? ⟨w.heap.size + 1, 0, none⟩ = false := Lib.frozen_of_heap K4 0
  have q1 : w3.frozen? ⟨w.heap.size + 1, 1, none⟩ = false := Lib.frozen_of_heap K4 1
  have q2 : w3.frozen? ⟨w.heap.size + 1, 2, none⟩ = false := Lib.frozen_of_heap K4 2
  clear K4
  go_wp2_with fail
  refine bodyPost_ret (v := .tuple #[sB [], fltV 4 0 0]) (by simp [results, Tryd.results11, go_sem, r0, r1, r2]) rfl ⟨rfl, below_set3 hb4 (by omega) _ _ _⟩

set_option maxRecDepth 100000 in
set_option maxHeartbeats 8000000 in
theorem print_bad (p : Pr) (w : World) (hin : p.In w) (ht : Tabs w) (hck : (checkZ p).1 ≠ 0) :
    Calls Tryd.prog 11 #[p.val] w fun e w' => e = .returned (.tuple #[sB [], fltV (checkZ p).1 (checkZ p).2.1 (checkZ p).2.2]) ∧ Below w.heap.size w w' := by
  have HC : Hid (∀ w', Below w.heap.size w w' → Calls Tryd.prog 7 #[p.val] w' fun e w'' => e = .returned (fltV (checkZ p).1 (checkZ p).2.1 (checkZ p).2.2) ∧ Below w'.heap.size w' w'') := fun w' hb => check_any p w' (hin.stay hb) (ht.stay hb)
  clear hin ht
  generalize (checkZ p).1 = e0 at *
  generalize (checkZ p).2.1 = e1 at *
  generalize (checkZ p).2.2 = e2 at *
  have hcb : (e0 != 0) = true := by simpa using hck
  unfold Pr.val at HC ⊢
  have hb1 := ((Below.refl _ w).alloc (Nat.le_refl _) (.cells #[.slice p.wa p.widen.length p.wc, .slice p.fa p.funcs.length p.fc] 25)).alloc (by simp) (.cells #[.int .i64 0, .int .i64 0, .int .i64 0] 29)
  go_enter Tryd.func11, Tryd.ntmps11
  go_wp2_with fail
  refine (HC.out _ hb1).mono ?_
  rintro e w1 ⟨rfl, hbc⟩
  obtain ⟨k1, k2⟩ := heap3 hbc
  have hb2 := Below.on hb1 hbc
  have hs1 : w.heap.size + 1 + 1 ≤ w1.heap.size := by have := hbc.size; simp at this; omega
  have r0 : w1.cell? ⟨w.heap.size + 1, 0, none⟩ = some (.int .i64 0) := by rw [Lib.cell_of_heap k2]; rfl
  have r1 : w1.cell? ⟨w.heap.size + 1, 1, none⟩ = some (.int .i64 0) := by rw [Lib.cell_of_heap k2]; rfl
  have r2 : w1.cell? ⟨w.heap.size + 1, 2, none⟩ = some (.int .i64 0) := by rw [Lib.cell_of_heap k2]; rfl
  have hne1 : w.heap.size + 1 ≠ w1.heap.size := by omega
  have hne2 : w1.heap.size ≠ w.heap.size + 1 := by omega
  have g0 : (w1.alloc (.cells #[.int .i64 e0, .int .i64 e1, .int .i64 e2] 29)).cell? ⟨w.heap.size + 1, 0, none⟩ = some (.int .i64 0) := (World.cell?_alloc_past _ _ _ (by show w.heap.size + 1 < _; omega)).trans r0
  have g1 : (w1.alloc (.cells #[.int .i64 e0, .int .i64 e1, .int .i64 e2] 29)).cell? ⟨w.heap.size + 1, 1, none⟩ = some (.int .i64 0) := (World.cell?_alloc_past _ _ _ (by show w.heap.size + 1 < _; omega)).trans r1
  have g2 : (w1.alloc (.cells #[.int .i64 e0, .int .i64 e1, .int .i64 e2] 29)).cell? ⟨w.heap.size + 1, 2, none⟩ = some (.int .i64 0) := (World.cell?_alloc_past _ _ _ (by show w.heap.size + 1 < _; omega)).trans r2
  obtain ⟨W2, hW2⟩ : ∃ W2, w1.alloc (.cells #[.int .i64 e0, .int .i64 e1, .int .i64 e2] 29) = W2 := ⟨_, rfl⟩
  have HW2 := show Hid _ from hW2
  have s0 : W2.cell? ⟨w1.heap.size, 0, none⟩ = some (.int .i64 e0) := by rw [← hW2, World.cell?_alloc_at _ _ _ _ rfl]; rfl
  have s1 : W2.cell? ⟨w1.heap.size, 1, none⟩ = some (.int .i64 e1) := by rw [← hW2, World.cell?_alloc_at _ _ _ _ rfl]; rfl
  have s2 : W2.cell? ⟨w1.heap.size, 2, none⟩ = some (.int .i64 e2) := by rw [← hW2, World.cell?_alloc_at _ _ _ _ rfl]; rfl
  have kk : W2.heap[w.heap.size + 1]? = some (.cells #[.int .i64 0, .int .i64 0, .int .i64 0] 29 (0, 0)) := by rw [← hW2, Below.heap_alloc _ _ _ (by omega)]; exact k2
  rw [hW2] at g0 g1 g2
  have q0 : W2.frozen? ⟨w.heap.size + 1, 0, none⟩ = false := Lib.frozen_of_heap kk 0
  have q1 : W2.frozen? ⟨w.heap.size + 1, 1, none⟩ = false := Lib.frozen_of_heap kk 1
  have q2 : W2.frozen? ⟨w.heap.size + 1, 2, none⟩ = false := Lib.frozen_of_heap kk 2
  have hb3 : Below w.heap.size w W2 := by rw [← hW2]; exact hb2.alloc (by omega) _
  clear hW2 kk k1 k2 hbc hb1 r0 r1 r2
  go_wp2_with fail
  rw [HW2.out]
  clear HW2
  have d0 : W2.drew.cell? ⟨w.heap.size + 1, 0, none⟩ = some (.int .i64 0) := g0
  have d1 : W2.drew.cell? ⟨w.heap.size + 1, 1, none⟩ = some (.int .i64 0) := g1
  have d2 : W2.drew.cell? ⟨w.heap.size + 1, 2, none⟩ = some (.int .i64 0) := g2
  go_region
  all_goals go_wp2_with fail
  all_goals refine bodyPost_ret (v := .tuple #[sB [], fltV e0 e1 e2]) (by simp [results, Tryd.results11, go_sem, g0, g1, g2]) rfl ⟨rfl, ?_⟩
  all_goals first | exact below_set3 hb3.drew (by omega) _ _ _ | exact (below_set3 hb3 (by omega) _ _ _).drew
end Go.Proofs.YtbpemackmadhgabDoor
