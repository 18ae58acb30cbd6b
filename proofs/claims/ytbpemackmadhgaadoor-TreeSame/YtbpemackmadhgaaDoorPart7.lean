/- The document's own answer whether two programs are the same. -/
import Derived.Test.YtbpemackmadhgaaDoorPart6
import Derived.Test.YtbpemackmadhgaaDoorPart5
import Derived.Test.YtbpemackmadhgaaDoorPart3
import Derived.Test.YtbpemackmadhgaaDoorPart4
namespace Go.Proofs.YtbpemackmadhgaaDoor
open Go.RowKit Go.Sort
attribute [local go_sem ↓] Go.wp_at_zero Go.wp_at_succ

theorem rsamS_k (n : Nat) : ∀ (l t : List St) (a a' : Option Addr) (c c' : Nat) (w : World), ssz l < n → Have w a c l → Have w a' c' t →
    Calls Tryd.prog 18 #[.slice a l.length c, .slice a' t.length c'] w fun e w' => e = .returned (.bool (samSs l t)) ∧ Below w.heap.size w w' := by
  induction n with
  | zero => intro l t a a' c c' w h; omega
  | succ n ih => exact fun l t a a' c c' w h h1 h2 => rsamS_step n ih (fun l t a a' c c' w h h1 h2 => rsamC_step n ih l t a a' c c' w h h1 h2) l t a a' c c' w (by omega) h1 h2
theorem rsamS_any (l t : List St) (a a' : Option Addr) (c c' : Nat) (w : World) (h1 : Have w a c l) (h2 : Have w a' c' t) :
    Calls Tryd.prog 18 #[.slice a l.length c, .slice a' t.length c'] w fun e w' => e = .returned (.bool (samSs l t)) ∧ Below w.heap.size w w' := rsamS_k (ssz l + 1) l t a a' c c' w (by omega) h1 h2

set_option maxRecDepth 100000 in
set_option maxHeartbeats 8000000 in
theorem rsame_any (p q : Pr) (w : World) (hx : p.In w) (hy : q.In w) : Calls Tryd.prog 11 #[p.val, q.val] w fun e w' => e = .returned (.bool (samPr p q)) ∧ Below w.heap.size w w' := by
  have XP : Hid (∀ w', Below w.heap.size w w' → p.In w') := fun w' h => hx.stay h
  have XQ : Hid (∀ w', Below w.heap.size w w' → q.In w') := fun w' h => hy.stay h
  have q1 := hx.thr.1
  have q2 := hx.thr.2.1
  have q3 := hx.haveF.1.1
  have q4 := hx.haveF.1.2.1
  have q5 := hy.thr.1
  have q6 := hy.thr.2.1
  have q7 := hy.haveF.1.1
  have q8 := hy.haveF.1.2.1
  have HE : Hid (samPr p q = (samI p.widen q.widen && samFs p.funcs q.funcs)) := (rfl : samPr p q = _)
  clear hx hy
  generalize samPr p q = res at HE ⊢
  unfold Pr.val
  have hb1 : Below w.heap.size w ((w.alloc (.cells #[.slice p.wa p.widen.length p.wc, .slice p.fa p.funcs.length p.fc] 26)).alloc (.cells #[.slice q.wa q.widen.length q.wc, .slice q.fa q.funcs.length q.fc] 26)) := Below.one (Below.one (Below.refl _ _) _) _
  by_cases hle : p.widen.length = q.widen.length
  · by_cases hlf : p.funcs.length = q.funcs.length
    · have HL : Hid (p.widen.length = q.widen.length) := hle
      have HF : Hid (p.funcs.length = q.funcs.length) := hlf
      rw [← hle] at q5 hb1 ⊢
      rw [← hlf] at q7 hb1 ⊢
      clear hle hlf
      obtain ⟨W1, hW1⟩ : ∃ W1, (w.alloc (.cells #[.slice p.wa p.widen.length p.wc, .slice p.fa p.funcs.length p.fc] 26)).alloc (.cells #[.slice q.wa p.widen.length q.wc, .slice q.fa p.funcs.length q.fc] 26) = W1 := ⟨_, rfl⟩
      have HC2 := fun w' (h : Below ((w.alloc (.cells #[.slice p.wa p.widen.length p.wc, .slice p.fa p.funcs.length p.fc] 26)).alloc (.cells #[.slice q.wa p.widen.length q.wc, .slice q.fa p.funcs.length q.fc] 26)).heap.size ((w.alloc (.cells #[.slice p.wa p.widen.length p.wc, .slice p.fa p.funcs.length p.fc] 26)).alloc (.cells #[.slice q.wa p.widen.length q.wc, .slice q.fa p.funcs.length q.fc] 26)) w') => two_cells h
      have HW1 := show Hid _ from hW1
      rw [hW1] at hb1 HC2
      clear hW1
      obtain ⟨Z, hZ⟩ : ∃ Z, w.heap.size = Z := ⟨_, rfl⟩
      have P0 : Hid (∀ w', Below W1.heap.size W1 w' → w'.cell? ⟨Z, 0, none⟩ = some (.slice p.wa p.widen.length p.wc)) := fun w' h => hZ ▸ (HC2 w' h).1 0 _ rfl
      have P1 : Hid (∀ w', Below W1.heap.size W1 w' → w'.cell? ⟨Z, 1, none⟩ = some (.slice p.fa p.funcs.length p.fc)) := fun w' h => hZ ▸ (HC2 w' h).1 1 _ rfl
      have Q0 : Hid (∀ w', Below W1.heap.size W1 w' → w'.cell? ⟨Z + 1, 0, none⟩ = some (.slice q.wa p.widen.length q.wc)) := fun w' h => hZ ▸ (HC2 w' h).2.1 0 _ rfl
      have Q1 : Hid (∀ w', Below W1.heap.size W1 w' → w'.cell? ⟨Z + 1, 1, none⟩ = some (.slice q.fa p.funcs.length q.fc)) := fun w' h => hZ ▸ (HC2 w' h).2.1 1 _ rfl
      have HZ := show Hid _ from hZ
      clear HC2 hZ
      go_enter Tryd.func11, Tryd.ntmps11
      go_wp2_with fail
      rw [HW1.out, HZ.out]
      clear HW1
      go_loopw [5] (fun t5 wr => ∃ (j : Nat), j ≤ p.widen.length ∧ t5 = .int .i64 j ∧ samI (p.widen.drop j) (q.widen.drop j) = samI p.widen q.widen ∧ Below W1.heap.size W1 wr) (fun t5 _ => p.widen.length - (intOf t5).toNat)
      case atStart => exact ⟨0, Nat.zero_le _, rfl, rfl, Below.refl _ _⟩
      case round =>
        obtain ⟨j, hj, rfl, hcnt, hb⟩ := hrel
        have HC : Hid (samI (p.widen.drop j) (q.widen.drop j) = samI p.widen q.widen) := hcnt
        clear hcnt
        have hbw : Below w.heap.size w wr := Below.on hb1 hb
        have p0 := P0.out _ hb
        have q0 := Q0.out _ hb
        by_cases hlt : j < p.widen.length
        · have hlt' : j < q.widen.length := by have := HL.out; omega
          obtain ⟨b, o, ea, c0⟩ := rowW_at (XP.out _ hbw).thr.2.2 hlt
          obtain ⟨b', o', ea', d0⟩ := rowW_at (XQ.out _ hbw).thr.2.2 hlt'
          rw [ea] at p0
          rw [ea'] at q0
          clear ea ea'
          have hli : (j : Int) < (p.widen.length : Int) := by omega
          have HD : Hid (samI (p.widen.drop j) (q.widen.drop j) = (p.widen[j] == q.widen[j] && samI (p.widen.drop (j + 1)) (q.widen.drop (j + 1)))) := samI_drop hlt hlt'
          generalize p.widen[j] = x at *
          generalize q.widen[j] = y at *
          clear hlt'
          go_wp2_with fail
          go_quiet (fail)
          cases ev : (x == y)
          · have ev' : (x != y) = true := by simp [bne, ev]
            rw [ev] at HD
            go_wp2_with fail
            go_ret
            exact ⟨ret_bool (by rw [HE.out, ← HC.out, HD.out]; rfl), hbw.drewN _⟩
          · have ev' : (x != y) = false := by simp [bne, ev]
            rw [ev] at HD
            clear p0 q0 c0 d0
            go_wp2_with fail
            go_roundw
            case rel => exact ⟨j + 1, by omega, by go_num, by rw [← HC.out, HD.out]; rfl, hb.drewN _⟩
            case measure => simp [intOf]; omega
        · have HI : Hid (samI p.widen q.widen = true) := by
            show _ = _
            rw [← HC.out, List.drop_eq_nil_of_le (by omega), List.drop_eq_nil_of_le (by have := HL.out; omega)]; rfl
          clear HC
          obtain rfl : j = p.widen.length := by omega
          clear q0 hj hlt
          go_wp2_with fail
          clear p0
          go_loopw [6] (fun t6 wr => ∃ (i : Nat), i ≤ p.funcs.length ∧ t6 = .int .i64 i ∧ samFs (p.funcs.drop i) (q.funcs.drop i) = samFs p.funcs q.funcs ∧ Below W1.heap.size W1 wr) (fun t6 _ => p.funcs.length - (intOf t6).toNat)
          case atStart => exact ⟨0, Nat.zero_le _, rfl, rfl, hb⟩
          case round =>
            clear hb hbw
            obtain ⟨i, hi, rfl, hcnt, hb⟩ := hrel
            have HC : Hid (samFs (p.funcs.drop i) (q.funcs.drop i) = samFs p.funcs q.funcs) := hcnt
            clear hcnt
            have hbw : Below w.heap.size w wr := Below.on hb1 hb
            have p1 := P1.out _ hb
            by_cases hlt : i < p.funcs.length
            · have hlt' : i < q.funcs.length := by have := HF.out; omega
              obtain ⟨b, o, ea, hc1⟩ := rowF_cells (XP.out _ hbw).haveF.1.2.2 hlt
              obtain ⟨b', o', ea', hc2⟩ := rowF_cells (XQ.out _ hbw).haveF.1.2.2 hlt'
              have hli : (i : Int) < (p.funcs.length : Int) := by omega
              have hli0 : (0 : Int) ≤ (i : Int) := by omega
              have XI : Hid (∀ w', Below w.heap.size w w' → p.funcs[i].In w') := fun w' h => (XP.out w' h).haveF.2 p.funcs[i] (List.getElem_mem hlt)
              have YI : Hid (∀ w', Below w.heap.size w w' → q.funcs[i].In w') := fun w' h => (XQ.out w' h).haveF.2 q.funcs[i] (List.getElem_mem hlt')
              have HD : Hid (samFs (p.funcs.drop i) (q.funcs.drop i) = ((p.funcs[i].name.toList == q.funcs[i].name.toList && (samPs p.funcs[i].params q.funcs[i].params && samSs p.funcs[i].body q.funcs[i].body)) && samFs (p.funcs.drop (i + 1)) (q.funcs.drop (i + 1)))) := samFs_drop hlt hlt'
              generalize p.funcs[i] = x at *
              generalize q.funcs[i] = y at *
              clear hlt'
              go_upto_region 11 with fail
              go_cut [7, 8] from 44 to 100 (fun t7 t8 wx => ∃ bx bz, t7 = .pointer (some ⟨bx, 0, none⟩) ∧ t8 = .pointer (some ⟨bz, 0, none⟩) ∧ (∀ (k : Nat) v, x.cells[k]? = some v → wx.cell? ⟨bx, k, none⟩ = some v) ∧ (∀ (k : Nat) v, y.cells[k]? = some v → wx.cell? ⟨bz, k, none⟩ = some v) ∧ Below wr.heap.size wr wx)
              case first =>
                have c0 : ∀ w', Below wr.heap.size wr w' → w'.cell? ⟨b, o + i * 3, none⟩ = some (.string x.name) := seen (by have := hc1 0 _ rfl; simpa only [← Nat.add_assoc, Nat.add_zero] using this)
                have c1 : ∀ w', Below wr.heap.size wr w' → w'.cell? ⟨b, o + i * 3 + 1, none⟩ = some (.slice x.pa x.params.length x.pc) := seen (by have := hc1 1 _ rfl; simpa only [← Nat.add_assoc, Nat.add_zero] using this)
                have c2 : ∀ w', Below wr.heap.size wr w' → w'.cell? ⟨b, o + i * 3 + 2, none⟩ = some (.slice x.ba x.body.length x.bc) := seen (by have := hc1 2 _ rfl; simpa only [← Nat.add_assoc, Nat.add_zero] using this)
                have d0 : ∀ w', Below wr.heap.size wr w' → w'.cell? ⟨b', o' + i * 3, none⟩ = some (.string y.name) := seen (by have := hc2 0 _ rfl; simpa only [← Nat.add_assoc, Nat.add_zero] using this)
                have d1 : ∀ w', Below wr.heap.size wr w' → w'.cell? ⟨b', o' + i * 3 + 1, none⟩ = some (.slice y.pa y.params.length y.pc) := seen (by have := hc2 1 _ rfl; simpa only [← Nat.add_assoc, Nat.add_zero] using this)
                have d2 : ∀ w', Below wr.heap.size wr w' → w'.cell? ⟨b', o' + i * 3 + 2, none⟩ = some (.slice y.ba y.body.length y.bc) := seen (by have := hc2 2 _ rfl; simpa only [← Nat.add_assoc, Nat.add_zero] using this)
                have P1' : ∀ w', Below wr.heap.size wr w' → w'.cell? ⟨Z, 1, none⟩ = some (.slice (some ⟨b, o, none⟩) p.funcs.length p.fc) := fun w' h => ea ▸ P1.out w' (Below.on hb h)
                have Q1' : ∀ w', Below wr.heap.size wr w' → w'.cell? ⟨Z + 1, 1, none⟩ = some (.slice (some ⟨b', o', none⟩) p.funcs.length q.fc) := fun w' h => ea' ▸ Q1.out w' (Below.on hb h)
                clear hc1 hc2 ea ea' p1
                go_region_held3 (fun w' => Below wr.heap.size wr w') (first | exact Below.drew (Below.refl _ _) | exact Below.drew (Below.one (Below.refl _ _) _) | exact Below.drew (Below.one (Below.one (Below.refl _ _) _) _) | exact Below.on (by assumption) (by assumption) | exact Below.one (by assumption) _) (fail)
                all_goals (go_wp2_with fail; go_meet)
                case rel =>
                  obtain ⟨p1, p2, _⟩ := two_cells (w := wr) (Below.drew (Below.refl _ ((wr.alloc (.cells (⟨x.cells⟩ : Array Value) 48)).alloc (.cells (⟨y.cells⟩ : Array Value) 48))))
                  exact ⟨_, _, rfl, rfl, fun i v h => p1 i v (by simpa using h), fun i v h => p2 i v (by simpa using h), Below.drew (Below.one (Below.one (Below.refl _ _) _) _)⟩
                case rel =>
                  obtain ⟨p1, p2, _⟩ := two_cells (w := wr) (Below.drew (Below.refl _ ((wr.alloc (.cells (⟨y.cells⟩ : Array Value) 48)).alloc (.cells (⟨x.cells⟩ : Array Value) 48))))
                  exact ⟨_, _, rfl, rfl, fun i v h => p2 i v (by simpa using h), fun i v h => p1 i v (by simpa using h), Below.drew (Below.one (Below.one (Below.refl _ _) _) _)⟩
              case rest =>
                obtain ⟨bx, bz, rfl, rfl, hx, hy, hbx⟩ := hcut
                have hbw2 : Below w.heap.size w wc := Below.on hbw hbx
                have CX : Hid (∀ w', Below wc.heap.size wc w' → ∀ (k : Nat) v, x.cells[k]? = some v → w'.cell? ⟨bx, k, none⟩ = some v) := fun w' h k v e => seen (hx k v e) w' h
                have CY : Hid (∀ w', Below wc.heap.size wc w' → ∀ (k : Nat) v, y.cells[k]? = some v → w'.cell? ⟨bz, k, none⟩ = some v) := fun w' h k v e => seen (hy k v e) w' h
                have BW : Hid (Below w.heap.size w wc) := hbw2
                have BV : Hid (Below W1.heap.size W1 wc) := Below.on hb hbx
                clear hx hy hc1 hc2 hb hbx hbw hbw2 ea ea' p1
                obtain ⟨r1, r2, r3, r4, _⟩ := (XI.out _ BW.out).2
                obtain ⟨s1, s2, s3, s4, _⟩ := (YI.out _ BW.out).2
                clear r3 r4 s3 s4
                have c0 := CX.out wc (Below.refl _ _) 0 _ rfl
                have d0 := CY.out wc (Below.refl _ _) 0 _ rfl
                have c1 := CX.out wc (Below.refl _ _) 1 _ rfl
                have d1 := CY.out wc (Below.refl _ _) 1 _ rfl
                have c2 := CX.out wc (Below.refl _ _) 2 _ rfl
                have d2 := CY.out wc (Below.refl _ _) 2 _ rfl
                cases e1 : (x.name.toList == y.name.toList)
                · have e1' : (x.name.toList != y.name.toList) = true := by simp [bne, e1]
                  rw [e1] at HD
                  go_wp2_with fail
                  go_ret
                  exact ⟨ret_bool (by rw [HE.out, HI.out, ← HC.out, HD.out]; rfl), BW.out⟩
                · have e1' : (x.name.toList != y.name.toList) = false := by simp [bne, e1]
                  rw [e1] at HD
                  by_cases hlp : x.params.length = y.params.length
                  · have HP : Hid (x.params.length = y.params.length) := hlp
                    rw [← hlp] at s1 d1
                    clear hlp
                    have HB1 : Hid (∀ w', Below wc.heap.size wc w' → Calls Tryd.prog 18 #[.slice x.ba x.body.length x.bc, .slice y.ba y.body.length y.bc] w' fun e w'' => e = .returned (.bool (samSs x.body y.body)) ∧ Below w'.heap.size w' w'') := fun w' h => rsamS_any _ _ _ _ _ _ w' (XI.out _ (Below.on BW.out h)).2.2.2.2.2.2 (YI.out _ (Below.on BW.out h)).2.2.2.2.2.2
                    generalize samSs x.body y.body = q1 at HB1 HD
                    go_wp2_with fail
                    refine (HB1.out _ (Below.refl _ _)).mono ?_
                    rintro e w2 ⟨rfl, hb2⟩
                    clear c0 c1 c2 d0 d1 d2
                    cases q1
                    · go_wp2_with fail
                      go_ret
                      exact ⟨ret_bool (by rw [HE.out, HI.out, ← HC.out, HD.out]; simp), Below.on BW.out hb2⟩
                    · go_wp2_with fail
                      go_loopw [9] (fun t9 wr => ∃ (k : Nat), k ≤ x.params.length ∧ t9 = .int .i64 k ∧ samPs (x.params.drop k) (y.params.drop k) = samPs x.params y.params ∧ Below wc.heap.size wc wr) (fun t9 _ => x.params.length - (intOf t9).toNat)
                      case atStart => exact ⟨0, Nat.zero_le _, rfl, rfl, hb2⟩
                      case round =>
                        clear hb2
                        obtain ⟨k, hk, rfl, hcnt, hb⟩ := hrel
                        have HCP : Hid (samPs (x.params.drop k) (y.params.drop k) = samPs x.params y.params) := hcnt
                        clear hcnt
                        have c1 := CX.out wr hb 1 _ rfl
                        by_cases hklt : k < x.params.length
                        · have hklt' : k < y.params.length := by have := HP.out; omega
                          have d1 := CY.out wr hb 1 _ rfl
                          rw [← HP.out] at d1
                          obtain ⟨b, o, ea, k0, k1, k2⟩ := rowP_at (XI.out _ (Below.on BW.out hb)).2.2.2.2.1 hklt
                          obtain ⟨b', o', ea', m0, m1, m2⟩ := rowP_at (YI.out _ (Below.on BW.out hb)).2.2.2.2.1 hklt'
                          rw [ea] at c1
                          rw [ea'] at d1
                          clear ea ea'
                          have hkli : (k : Int) < (x.params.length : Int) := by omega
                          have HD2 : Hid (samPs (x.params.drop k) (y.params.drop k) = (samP x.params[k] y.params[k] && samPs (x.params.drop (k + 1)) (y.params.drop (k + 1)))) := samPs_drop hklt hklt'
                          generalize x.params[k] = u at *
                          generalize y.params[k] = v at *
                          clear hklt'
                          have hq := fun w => equalIn_pa u v w
                          have hg : ∀ (w : World) (op : BinOp) (a b : Operand) (xs ys : Array Value), (eqGuard op 41 a b (.agg xs) (.agg ys)).run Tryd.prog w = .ok () w := fun w op a b xs ys => run_eqGuard_agg w op 41 a b xs ys (by kernel_rfl)
                          go_wp2_with fail
                          go_quiet (fail)
                          clear hq hg c1 d1 k0 k1 k2 m0 m1 m2
                          cases ev : samP u v
                          · rw [ev] at HD2
                            go_wp2_with fail
                            go_ret
                            exact ⟨ret_bool (by rw [HE.out, HI.out, ← HC.out, HD.out, ← HCP.out, HD2.out]; simp), (Below.on BW.out hb).drewN _⟩
                          · rw [ev] at HD2
                            go_wp2_with fail
                            go_roundw
                            case rel => exact ⟨k + 1, by omega, by go_num, by rw [← HCP.out, HD2.out]; rfl, hb.drewN _⟩
                            case measure => simp [intOf]; omega
                        · obtain rfl : k = x.params.length := by omega
                          have HT : Hid (samPs x.params y.params = true) := by
                            show _ = _
                            rw [← HCP.out, List.drop_eq_nil_of_le (Nat.le_refl _), List.drop_eq_nil_of_le (by have := HP.out; omega)]; rfl
                          clear HCP
                          go_wp2_with fail
                          go_roundw
                          case rel => exact ⟨i + 1, by omega, by go_num, by rw [← HC.out, HD.out, HT.out]; rfl, Below.on BV.out hb⟩
                          case measure => simp [intOf]; omega
                  · have hne : ((x.params.length : Int) != (y.params.length : Int)) = true := by simp only [bne_iff_ne]; omega
                    have HF2 : Hid (res = false) := by show _ = _; rw [HE.out, HI.out, ← HC.out, HD.out, samPs_len hlp]; simp
                    go_wp2_with fail
                    go_ret
                    exact ⟨ret_bool HF2.out.symm, BW.out⟩
            · obtain rfl : i = p.funcs.length := by omega
              go_wp2_with fail
              go_ret
              refine ⟨ret_bool ?_, hbw⟩
              rw [HE.out, HI.out, ← HC.out, List.drop_eq_nil_of_le (Nat.le_refl _), List.drop_eq_nil_of_le (by have := HF.out; omega)]; rfl
    · have hne : ((p.funcs.length : Int) != (q.funcs.length : Int)) = true := by simp only [bne_iff_ne]; omega
      have hnw : ((p.widen.length : Int) != (q.widen.length : Int)) = false := by simp [hle]
      have HF : Hid (res = false) := by show _ = _; rw [HE.out, samFs_len hlf]; simp
      clear hle
      go_enter Tryd.func11, Tryd.ntmps11
      go_wp2_with fail
      go_ret
      exact ⟨ret_bool HF.out.symm, hb1⟩
  · have hne : ((p.widen.length : Int) != (q.widen.length : Int)) = true := by simp only [bne_iff_ne]; omega
    go_enter Tryd.func11, Tryd.ntmps11
    go_wp2_with fail
    go_ret
    exact ⟨ret_bool (by rw [HE.out, samI_len hle]; rfl), hb1⟩
end Go.Proofs.YtbpemackmadhgaaDoor

/- The statement of sameness, at programs that lie in memory. -/
namespace Go.Proofs.YtbpemackmadhgaaDoor
open Go.RowKit Go.Sort
attribute [local go_sem ↓] Go.wp_at_zero Go.wp_at_succ

theorem bcm {α : Type} [BEq α] [LawfulBEq α] (a b : α) : (a == b) = (b == a) := by rw [Bool.eq_iff_iff, beq_iff_eq, beq_iff_eq, eq_comm]
theorem samE_comm (k : Nat) : (∀ x y : Ex, x.sz ≤ k → samE x y = samE y x) ∧ (∀ l t : List Ex, szL l ≤ k → samEs l t = samEs t l) := by
  induction k with
  | zero =>
    refine ⟨fun x y hk => by have := x.sz_args; omega, fun l t hk => ?_⟩
    cases l with
    | nil => cases t <;> simp [samEs]
    | cons x r => rw [szL] at hk; have := x.sz_args; omega
  | succ k ih =>
    have h1 : ∀ x y : Ex, x.sz ≤ k + 1 → samE x y = samE y x := fun x y hk => by
      rw [samE_eq, samE_eq, ih.2 _ _ (by have := x.sz_args; omega), bcm x.kind, bcm x.n, bcm x.name.toList]
    refine ⟨h1, fun l => ?_⟩
    induction l with
    | nil => intro t _; cases t <;> simp [samEs]
    | cons x r ihr =>
      intro t hk
      cases t with
      | nil => simp [samEs]
      | cons y t => rw [szL] at hk; rw [samEs, samEs, h1 x y (by omega), ihr t (by omega)]
theorem samS_comm (k : Nat) : (∀ x y : St, x.sz ≤ k → samS x y = samS y x) ∧ (∀ l t : List St, ssz l ≤ k → samSs l t = samSs t l) ∧ (∀ l t : List Ca, csz l ≤ k → samCs l t = samCs t l) := by
  induction k with
  | zero =>
    refine ⟨fun x y hk => by have := x.sz_eq; omega, fun l t hk => ?_, fun l t hk => ?_⟩
    · cases l with
      | nil => cases t <;> simp [samSs]
      | cons x r => rw [ssz] at hk; have := x.sz_eq; omega
    · cases l with
      | nil => cases t <;> simp [samCs]
      | cons x r => rw [csz] at hk; have := x.sz_eq; omega
  | succ k ih =>
    have h1 : ∀ x y : St, x.sz ≤ k + 1 → samS x y = samS y x := fun x y hk => by
      have := x.sz_eq
      rw [samS_eq, samS_eq, ih.2.1 _ _ (by omega), ih.2.1 x.els _ (by omega), ih.2.2 _ _ (by omega), (samE_comm _).1 x.a _ (Nat.le_refl _), (samE_comm _).1 x.b _ (Nat.le_refl _), bcm x.kind, bcm x.n, bcm x.name.toList]
    refine ⟨h1, fun l => ?_, fun l => ?_⟩
    · induction l with
      | nil => intro t _; cases t <;> simp [samSs]
      | cons x r ihr =>
        intro t hk
        cases t with
        | nil => simp [samSs]
        | cons y t => rw [ssz] at hk; rw [samSs, samSs, h1 x y (by omega), ihr t (by omega)]
    · induction l with
      | nil => intro t _; cases t <;> simp [samCs]
      | cons x r ihr =>
        intro t hk
        cases t with
        | nil => simp [samCs]
        | cons y t =>
          rw [csz] at hk
          have := x.sz_eq
          rw [samCs, samCs, ihr t (by omega), samC_eq, samC_eq, ih.2.1 _ _ (by omega), bcm x.n]
theorem samI_comm : ∀ l t : List Int, samI l t = samI t l
  | [], [] => rfl
  | [], _ :: _ => rfl
  | _ :: _, [] => rfl
  | x :: r, y :: t => by rw [samI, samI, samI_comm r t, bcm x]
theorem samPs_comm : ∀ l t : List Pa, samPs l t = samPs t l
  | [], [] => rfl
  | [], _ :: _ => rfl
  | _ :: _, [] => rfl
  | x :: r, y :: t => by rw [samPs, samPs, samPs_comm r t, samP, samP, bcm x.name.toList, bcm x.lo, bcm x.hi]
theorem samFs_comm : ∀ l t : List Fu, samFs l t = samFs t l
  | [], [] => rfl
  | [], _ :: _ => rfl
  | _ :: _, [] => rfl
  | x :: r, y :: t => by rw [samFs, samFs, samFs_comm r t, samF, samF, bcm x.name.toList, samPs_comm x.params, (samS_comm _).2.1 x.body _ (Nat.le_refl _)]
theorem samPr_comm (p q : Pr) : samPr p q = samPr q p := by rw [samPr, samPr, samI_comm, samFs_comm]

set_option maxRecDepth 100000 in
set_option maxHeartbeats 8000000 in
theorem treeSame_any (p q : Pr) (w : World) (hp : p.In w) (hq : q.In w) (ht : Tabs w) (hnt : NumT w) : Calls Tryd.prog 5 #[p.val, q.val] w fun e w' => e = .returned (.bool true) ∧ Below w.heap.size w w' := by
  have HA : Hid (∀ w', Below w.heap.size w w' → Calls Tryd.prog 7 #[] w' fun e w'' => e = .returned (.bool true) ∧ Below w'.heap.size w' w'') := fun w' h => awake_any w' (ht.stay h) (hnt.stay h)
  have HB1 : Hid (∀ w', Below w.heap.size w w' → Calls Tryd.prog 10 #[p.val] w' fun e w'' => e = .returned (.bool (bigZ p)) ∧ Below w'.heap.size w' w'') := fun w' h => big_any p w' (hp.stay h)
  have HB2 : Hid (∀ w', Below w.heap.size w w' → Calls Tryd.prog 10 #[q.val] w' fun e w'' => e = .returned (.bool (bigZ q)) ∧ Below w'.heap.size w' w'') := fun w' h => big_any q w' (hq.stay h)
  have HRS : Hid (∀ w', Below w.heap.size w w' → Calls Tryd.prog 11 #[p.val, q.val] w' fun e w'' => e = .returned (.bool (samPr p q)) ∧ Below w'.heap.size w' w'') := fun w' h => rsame_any p q w' (hp.stay h) (hq.stay h)
  have HS1 : Hid (∀ w', Below w.heap.size w w' → Calls Tryd.prog 12 #[p.val, q.val] w' fun e w'' => e = .returned (.bool (samPr p q)) ∧ Below w'.heap.size w' w'') := fun w' h => same_any p q w' (hp.stay h) (hq.stay h)
  have HS2 : Hid (∀ w', Below w.heap.size w w' → Calls Tryd.prog 12 #[q.val, p.val] w' fun e w'' => e = .returned (.bool (samPr p q)) ∧ Below w'.heap.size w' w'') := fun w' h => by rw [samPr_comm]; exact same_any q p w' (hq.stay h) (hp.stay h)
  have HS3 : Hid (∀ (pc : Pr) (w' : World), Below w.heap.size w w' → pc.Cp w' → pc.er = p.er → Calls Tryd.prog 12 #[p.val, pc.val] w' fun e w'' => e = .returned (.bool true) ∧ Below w'.heap.size w' w'') := fun pc w' h hc he => by
    have := same_any p pc w' (hp.stay h) hc.in
    rwa [samPr_er he.symm] at this
  have HCP : Hid (bigZ p = false → ∀ w', Below w.heap.size w w' → Calls Tryd.prog 13 #[p.val] w' fun e w'' => (∃ q : Pr, e = .returned q.val ∧ q.Cp w'' ∧ q.er = p.er ∧ q.bl.Nodup ∧ (∀ b ∈ q.bl, w'.heap.size ≤ b ∧ b < w''.heap.size)) ∧ Below w'.heap.size w' w'') := fun hb w' h => copy_any p w' (hp.stay h) (few_of_big hb)
  clear hp hq ht hnt
  generalize samPr p q = is at *
  unfold Pr.val at *
  have hb1 : Below w.heap.size w ((w.alloc (.cells #[.slice p.wa p.widen.length p.wc, .slice p.fa p.funcs.length p.fc] 26)).alloc (.cells #[.slice q.wa q.widen.length q.wc, .slice q.fa q.funcs.length q.fc] 26)) := Below.one (Below.one (Below.refl _ _) _) _
  obtain ⟨W1, hW1⟩ : ∃ W1, (w.alloc (.cells #[.slice p.wa p.widen.length p.wc, .slice p.fa p.funcs.length p.fc] 26)).alloc (.cells #[.slice q.wa q.widen.length q.wc, .slice q.fa q.funcs.length q.fc] 26) = W1 := ⟨_, rfl⟩
  have HC2 := fun w' (h : Below ((w.alloc (.cells #[.slice p.wa p.widen.length p.wc, .slice p.fa p.funcs.length p.fc] 26)).alloc (.cells #[.slice q.wa q.widen.length q.wc, .slice q.fa q.funcs.length q.fc] 26)).heap.size ((w.alloc (.cells #[.slice p.wa p.widen.length p.wc, .slice p.fa p.funcs.length p.fc] 26)).alloc (.cells #[.slice q.wa q.widen.length q.wc, .slice q.fa q.funcs.length q.fc] 26)) w') => two_cells h
  have HW1 := show Hid _ from hW1
  rw [hW1] at hb1 HC2
  clear hW1
  obtain ⟨Z, hZ⟩ : ∃ Z, w.heap.size = Z := ⟨_, rfl⟩
  have P0 : Hid (∀ w', Below W1.heap.size W1 w' → w'.cell? ⟨Z, 0, none⟩ = some (.slice p.wa p.widen.length p.wc)) := fun w' h => hZ ▸ (HC2 w' h).1 0 _ rfl
  have P1 : Hid (∀ w', Below W1.heap.size W1 w' → w'.cell? ⟨Z, 1, none⟩ = some (.slice p.fa p.funcs.length p.fc)) := fun w' h => hZ ▸ (HC2 w' h).1 1 _ rfl
  have Q0 : Hid (∀ w', Below W1.heap.size W1 w' → w'.cell? ⟨Z + 1, 0, none⟩ = some (.slice q.wa q.widen.length q.wc)) := fun w' h => hZ ▸ (HC2 w' h).2.1 0 _ rfl
  have Q1 : Hid (∀ w', Below W1.heap.size W1 w' → w'.cell? ⟨Z + 1, 1, none⟩ = some (.slice q.fa q.funcs.length q.fc)) := fun w' h => hZ ▸ (HC2 w' h).2.1 1 _ rfl
  have HZ := show Hid _ from hZ
  have B1 : Hid (Below w.heap.size w W1) := hb1
  clear HC2 hZ hb1
  go_enter Tryd.func5, Tryd.ntmps5
  go_wp2_with fail
  rw [HW1.out, HZ.out]
  clear HW1
  refine (HA.out _ B1.out).mono ?_
  rintro e w2 ⟨rfl, hb2⟩
  have p0 := P0.out _ hb2
  have p1 := P1.out _ hb2
  go_wp2_with fail
  refine (HB1.out _ (Below.on B1.out hb2)).mono ?_
  rintro e w3 ⟨rfl, hb3⟩
  have hb3' := Below.on hb2 hb3
  clear p0 p1 hb2 hb3
  cases hbp : bigZ p with
  | true =>
    go_wp2_with fail
    go_ret
    exact ⟨rfl, Below.on B1.out hb3'⟩
  | false =>
    have q0 := Q0.out _ hb3'
    have q1 := Q1.out _ hb3'
    go_wp2_with fail
    refine (HB2.out _ (Below.on B1.out hb3')).mono ?_
    rintro e w4 ⟨rfl, hb4⟩
    have hb4' := Below.on hb3' hb4
    clear q0 q1 hb3' hb4
    cases hbq : bigZ q with
    | true =>
      go_wp2_with fail
      go_ret
      exact ⟨rfl, Below.on B1.out hb4'⟩
    | false =>
      have HCP2 := show Hid _ from HCP.out hbp
      clear HCP
      have p0 := P0.out _ hb4'
      have p1 := P1.out _ hb4'
      have q0 := Q0.out _ hb4'
      have q1 := Q1.out _ hb4'
      go_wp2_with fail
      refine (HRS.out _ (Below.on B1.out hb4')).mono ?_
      rintro e w5 ⟨rfl, hb5⟩
      have hb5' := Below.on hb4' hb5
      have B5 : Hid (Below w.heap.size w w5) := Below.on B1.out hb5'
      clear p0 p1 q0 q1 hb4' hb5
      have p0 : ∀ w', Below w5.heap.size w5 w' → w'.cell? ⟨Z, 0, none⟩ = some (.slice p.wa p.widen.length p.wc) := fun w' h => P0.out w' (Below.on hb5' h)
      have p1 : ∀ w', Below w5.heap.size w5 w' → w'.cell? ⟨Z, 1, none⟩ = some (.slice p.fa p.funcs.length p.fc) := fun w' h => P1.out w' (Below.on hb5' h)
      have q0 : ∀ w', Below w5.heap.size w5 w' → w'.cell? ⟨Z + 1, 0, none⟩ = some (.slice q.wa q.widen.length q.wc) := fun w' h => Q0.out w' (Below.on hb5' h)
      have q1 : ∀ w', Below w5.heap.size w5 w' → w'.cell? ⟨Z + 1, 1, none⟩ = some (.slice q.fa q.funcs.length q.fc) := fun w' h => Q1.out w' (Below.on hb5' h)
      clear hb5' HA HB1 HB2 HRS
      cases is
      · go_wp2_with fail
        go_region_held3 (fun w' => Below w5.heap.size w5 w') (first | exact Below.drew (Below.refl _ _) | exact Below.on (by assumption) (by assumption) | exact Below.one (by assumption) _)
          (first
            | (go_at_call 13; refine (HCP2.out _ (Below.on B5.out (by assumption))).mono ?_; rintro e w' ⟨⟨pc, rfl, hcp, her, _, _⟩, hb⟩)
            | (go_at_call 12; with_reducible refine (HS1.out _ (Below.on B5.out (by assumption))).mono ?_; rintro e w' ⟨rfl, hb⟩)
            | (go_at_call 12; with_reducible refine (HS2.out _ (Below.on B5.out (by assumption))).mono ?_; rintro e w' ⟨rfl, hb⟩)
            | (go_at_call 12; with_reducible refine (HS3.out pc _ (Below.on B5.out (by assumption)) hcp her).mono ?_; rintro e w' ⟨rfl, hb⟩))
        all_goals go_wp2_with fail
        all_goals go_ret
        all_goals exact ⟨rfl, Below.on B5.out (by assumption)⟩
      · go_wp2_with fail
        go_region_held3 (fun w' => Below w5.heap.size w5 w') (first | exact Below.drew (Below.refl _ _) | exact Below.on (by assumption) (by assumption) | exact Below.one (by assumption) _)
          (first
            | (go_at_call 13; refine (HCP2.out _ (Below.on B5.out (by assumption))).mono ?_; rintro e w' ⟨⟨pc, rfl, hcp, her, _, _⟩, hb⟩)
            | (go_at_call 12; with_reducible refine (HS1.out _ (Below.on B5.out (by assumption))).mono ?_; rintro e w' ⟨rfl, hb⟩)
            | (go_at_call 12; with_reducible refine (HS2.out _ (Below.on B5.out (by assumption))).mono ?_; rintro e w' ⟨rfl, hb⟩)
            | (go_at_call 12; with_reducible refine (HS3.out pc _ (Below.on B5.out (by assumption)) hcp her).mono ?_; rintro e w' ⟨rfl, hb⟩))
        all_goals go_wp2_with fail
        all_goals go_ret
        all_goals exact ⟨rfl, Below.on B5.out (by assumption)⟩
end Go.Proofs.YtbpemackmadhgaaDoor
