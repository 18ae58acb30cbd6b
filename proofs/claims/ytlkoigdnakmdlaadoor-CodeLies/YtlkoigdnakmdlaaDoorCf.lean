/- sameFunc; slices.EqualFunc; code.Same. -/
import Derived.Test.YtlkoigdnakmdlaaDoorCe
namespace Go.Proofs.YtlkoigdnakmdlaaDoor
open Go.RowKit Go.Sort

theorem samF_eq (x y : Fn) : samF x y = (x.name.toList == y.name.toList && (x.regs == y.regs && (x.words == y.words && (samPs x.params y.params && samXs x.code y.code)))) := rfl
set_option maxRecDepth 100000 in
set_option maxHeartbeats 4000000 in
theorem sameFunc_any (x y : Fn) (w : World) (hx : x.In w) (hy : y.In w) : Calls Tryd.prog 40 #[x.val, y.val] w fun e w' => e = .returned (.bool (samF x y)) ∧ Below w.heap.size w w' := by
  have hb1 := Below.one (Below.one (Below.refl _ w) (.cells #[.string x.name, .slice x.pa x.params.length x.pc, .int .i64 x.regs, .int .i64 x.words, .slice x.ca x.code.length x.cc] 46)) (.cells #[.string y.name, .slice y.pa y.params.length y.pc, .int .i64 y.regs, .int .i64 y.words, .slice y.ca y.code.length y.cc] 46)
  have c1 := cell_kept_below (new_cell w #[.string x.name, .slice x.pa x.params.length x.pc, .int .i64 x.regs, .int .i64 x.words, .slice x.ca x.code.length x.cc] 46 4 _ rfl) (Below.one (Below.refl _ _) (.cells #[.string y.name, .slice y.pa y.params.length y.pc, .int .i64 y.regs, .int .i64 y.words, .slice y.ca y.code.length y.cc] 46))
  have d1 := new_cell (w.alloc (.cells #[.string x.name, .slice x.pa x.params.length x.pc, .int .i64 x.regs, .int .i64 x.words, .slice x.ca x.code.length x.cc] 46)) #[.string y.name, .slice y.pa y.params.length y.pc, .int .i64 y.regs, .int .i64 y.words, .slice y.ca y.code.length y.cc] 46 4 _ rfl
  rw [World.size_alloc] at d1
  have HP : Hid (∀ w', Below w.heap.size w w' → Calls Tryd.prog 50 #[.slice x.pa x.params.length x.pc, .slice y.pa y.params.length y.pc] w' fun e w'' => e = .returned (.bool (samPs x.params y.params)) ∧ Below w'.heap.size w' w'') := fun w' hb => equalP_any _ _ _ _ _ _ w' (hx.2.2.2.1.stay hb) (hy.2.2.2.1.stay hb)
  have HS : Hid (∀ w', Below w.heap.size w w' → Calls Tryd.prog 51 #[.slice x.ca x.code.length x.cc, .slice y.ca y.code.length y.cc] w' fun e w'' => e = .returned (.bool (samXs x.code y.code)) ∧ Below w'.heap.size w' w'') := fun w' hb => equalX_any _ _ _ _ _ _ w' (hx.2.2.2.2.2.1.stay hb) (hy.2.2.2.2.2.1.stay hb)
  have HE := Hid.mk' (samF_eq x y)
  clear hx hy
  generalize samF x y = res at HE ⊢
  generalize samPs x.params y.params = rp at HE HP
  generalize samXs x.code y.code = rs at HE HS
  unfold Fn.val
  cases e1 : (x.name.toList == y.name.toList)
  · go_enter Tryd.func40, Tryd.ntmps40
    go_wp2_with fail
    go_ret
    exact ⟨ret_bool (by rw [HE.out, e1]; rfl), hb1⟩
  · cases e2 : (x.regs == y.regs)
    · go_enter Tryd.func40, Tryd.ntmps40
      go_wp2_with fail
      go_ret
      exact ⟨ret_bool (by rw [HE.out, e1, e2]; rfl), hb1⟩
    · cases e3 : (x.words == y.words)
      · go_enter Tryd.func40, Tryd.ntmps40
        go_wp2_with fail
        go_ret
        exact ⟨ret_bool (by rw [HE.out, e1, e2, e3]; rfl), hb1⟩
      · go_enter Tryd.func40, Tryd.ntmps40
        go_wp2_with fail
        refine (HP.out _ hb1).mono ?_
        rintro e w1 ⟨rfl, k0⟩
        replace c1 := cell_kept_below c1 k0
        replace d1 := cell_kept_below d1 k0
        have hb2 : Below w.heap.size w w1 := Below.on hb1 k0
        clear k0 hb1
        cases rp
        · go_wp2_with fail
          go_ret
          exact ⟨ret_bool (by rw [HE.out, e1, e2, e3]; rfl), hb2⟩
        · go_wp2_with fail
          refine (HS.out _ hb2).mono ?_
          rintro e w2 ⟨rfl, k1⟩
          go_wp2_with fail
          go_ret
          exact ⟨ret_bool (by rw [HE.out, e1, e2, e3]; rfl), Below.on hb2 k1⟩

set_option maxRecDepth 100000 in
set_option maxHeartbeats 8000000 in
theorem eqF_any (l t : List Fn) (a a' : Option Addr) (c c' : Nat) (w : World) (hin : Fns w a l) (hin' : Fns w a' t) (hl : ∀ f ∈ l, f.In w) (ht : ∀ f ∈ t, f.In w) :
    Calls Tryd.prog 39 #[.slice a l.length c, .slice a' t.length c', .func (.func 40) #[] #[]] w fun e w' => e = .returned (.bool (samFs l t)) ∧ Below w.heap.size w w' := by
  have IH : Hid (∀ (x y : Fn) (w : World), x.In w → y.In w → Calls Tryd.prog 40 #[.agg #[.string x.name, .slice x.pa x.params.length x.pc, .int .i64 x.regs, .int .i64 x.words, .slice x.ca x.code.length x.cc], .agg #[.string y.name, .slice y.pa y.params.length y.pc, .int .i64 y.regs, .int .i64 y.words, .slice y.ca y.code.length y.cc]] w fun e w' => e = .returned (.bool (samF x y)) ∧ Below w.heap.size w w') := fun x y w hx hy => sameFunc_any x y w hx hy
  have HA := Hid.mk' hin
  have HB := Hid.mk' hin'
  have HI := Hid.mk' hl
  have HT := Hid.mk' ht
  have hc := hin.1
  have hc' := hin'.1
  clear hin hin' hl ht
  by_cases hle : l.length = t.length
  · have HL : Hid (l.length = t.length) := hle
    rw [← hle]
    clear hle hc'
    go_enter Tryd.func39, Tryd.ntmps39
    go_wp2_with fail
    go_loopw [17] (fun t17 wr => ∃ (j : Nat), j ≤ l.length ∧ t17 = .int .i64 j ∧ samFs (l.drop j) (t.drop j) = samFs l t ∧ Below w.heap.size w wr) (fun t17 _ => l.length - (intOf t17).toNat)
    case atStart => exact ⟨0, Nat.zero_le _, rfl, rfl, Below.refl _ w⟩
    case round =>
      obtain ⟨j, hj, rfl, hcnt, hb⟩ := hrel
      have HC : Hid (samFs (l.drop j) (t.drop j) = samFs l t) := hcnt
      clear hcnt
      have hws := hb.size
      by_cases hlt : j < l.length
      · have hlt' : j < t.length := by have := HL.out; omega
        obtain ⟨b, o, rfl, c0, c1, c2, c3, c4⟩ := fns_at (HA.out.stay hb) hlt
        obtain ⟨b', o', rfl, d0, d1, d2, d3, d4⟩ := fns_at (HB.out.stay hb) hlt'
        have hbl : b < wr.heap.size := lt_of_cell c0
        have hbl' : b' < wr.heap.size := lt_of_cell d0
        have hli : (j : Int) < (l.length : Int) := by omega
        have HY : Hid (l[j].In w) := HI.out l[j] (List.getElem_mem hlt)
        have HY' : Hid (t[j].In w) := HT.out t[j] (List.getElem_mem hlt')
        have HD := Hid.mk' (samFs_drop hlt hlt')
        generalize l[j] = x at *
        generalize t[j] = y at *
        have hb2 := Below.one (Below.one hb (.cells #[.string x.name, .slice x.pa x.params.length x.pc, .int .i64 x.regs, .int .i64 x.words, .slice x.ca x.code.length x.cc] 46)) (.cells #[.string y.name, .slice y.pa y.params.length y.pc, .int .i64 y.regs, .int .i64 y.words, .slice y.ca y.code.length y.cc] 46)
        go_wp2_with fail
        refine (IH.out x y _ (HY.out.stay hb2) (HY'.out.stay hb2)).mono ?_
        rintro e w' ⟨rfl, hb'⟩
        have hb4 : Below w.heap.size w w' := Below.on hb2 hb'
        clear c0 d0 c1 d1 c2 d2 c3 d3 c4 d4
        cases ev : samF x y
        · rw [ev] at HD
          go_wp2_with fail
          go_ret
          exact ⟨ret_bool (by rw [← HC.out, HD.out]; rfl), hb4⟩
        · rw [ev] at HD
          go_wp2_with fail
          go_roundw
          case rel => exact ⟨j + 1, by omega, by go_num, by rw [← HC.out, HD.out]; rfl, hb4⟩
          case measure => simp [intOf]; omega
      · go_wp2_with fail
        go_ret
        refine ⟨ret_bool ?_, hb⟩
        rw [← HC.out, List.drop_eq_nil_of_le (by omega), List.drop_eq_nil_of_le (by have := HL.out; omega)]; simp [samFs]
  · have hne : ((l.length : Int) != (t.length : Int)) = true := by simp only [bne_iff_ne]; omega
    go_enter Tryd.func39, Tryd.ntmps39
    go_wp2_with fail
    go_ret
    exact ⟨ret_bool (by rw [samFs_len hle]), Below.refl _ w⟩

set_option maxRecDepth 100000 in
set_option maxHeartbeats 4000000 in
theorem same_any (p q : Mo) (w : World) (hx : p.In w) (hy : q.In w) : Calls Tryd.prog 25 #[p.val, q.val] w fun e w' => e = .returned (.bool (samM p q)) ∧ Below w.heap.size w w' := by
  have hb1 := Below.one (Below.one (Below.refl _ w) (.cells #[.slice p.ta p.ths.length p.tc, .slice p.fa p.funcs.length p.fc] 33)) (.cells #[.slice q.ta q.ths.length q.tc, .slice q.fa q.funcs.length q.fc] 33)
  have c1 := cell_kept_below (new_cell w #[.slice p.ta p.ths.length p.tc, .slice p.fa p.funcs.length p.fc] 33 1 _ rfl) (Below.one (Below.refl _ _) (.cells #[.slice q.ta q.ths.length q.tc, .slice q.fa q.funcs.length q.fc] 33))
  have d1 := new_cell (w.alloc (.cells #[.slice p.ta p.ths.length p.tc, .slice p.fa p.funcs.length p.fc] 33)) #[.slice q.ta q.ths.length q.tc, .slice q.fa q.funcs.length q.fc] 33 1 _ rfl
  rw [World.size_alloc] at d1
  have HP : Hid (∀ w', Below w.heap.size w w' → Calls Tryd.prog 38 #[.slice p.ta p.ths.length p.tc, .slice q.ta q.ths.length q.tc] w' fun e w'' => e = .returned (.bool (samI p.ths q.ths)) ∧ Below w'.heap.size w' w'') := fun w' hb => equalI_any _ _ _ _ _ _ w' (hx.1.stay hb) (hy.1.stay hb)
  have HS : Hid (∀ w', Below w.heap.size w w' → Calls Tryd.prog 39 #[.slice p.fa p.funcs.length p.fc, .slice q.fa q.funcs.length q.fc, .func (.func 40) #[] #[]] w' fun e w'' => e = .returned (.bool (samFs p.funcs q.funcs)) ∧ Below w'.heap.size w' w'') := fun w' hb => eqF_any _ _ _ _ _ _ w' (hx.2.2.1.stay hb) (hy.2.2.1.stay hb) (fun f hf => (hx.2.2.2 f hf).stay hb) (fun f hf => (hy.2.2.2 f hf).stay hb)
  have HE : Hid (samM p q = (samI p.ths q.ths && samFs p.funcs q.funcs)) := (rfl : samM p q = _)
  clear hx hy
  generalize samM p q = res at HE ⊢
  generalize samI p.ths q.ths = ri at HE HP
  generalize samFs p.funcs q.funcs = rf at HE HS
  unfold Mo.val
  go_enter Tryd.func25, Tryd.ntmps25
  go_wp2_with fail
  refine (HP.out _ hb1).mono ?_
  rintro e w1 ⟨rfl, k0⟩
  replace c1 := cell_kept_below c1 k0
  replace d1 := cell_kept_below d1 k0
  have hb2 : Below w.heap.size w w1 := Below.on hb1 k0
  clear k0 hb1
  cases ri
  · go_wp2_with fail
    go_ret
    exact ⟨ret_bool (by rw [HE.out]; rfl), hb2⟩
  · go_wp2_with fail
    refine (HS.out _ hb2).mono ?_
    rintro e w2 ⟨rfl, k1⟩
    go_wp2_with fail
    go_ret
    exact ⟨ret_bool (by rw [HE.out]; rfl), Below.on hb2 k1⟩
end Go.Proofs.YtlkoigdnakmdlaaDoor
