/- slices.EqualFunc at statements. -/
import Derived.Test.YtbpemackmadhgaaDoorS2
import Derived.Test.YtbpemackmadhgaaDoorE3
namespace Go.Proofs.YtbpemackmadhgaaDoor
open Go.RowKit

set_option maxRecDepth 100000 in
set_option maxHeartbeats 8000000 in
theorem eqS_step (k : Nat) (h1 : ∀ (x y : St) (w : World), x.sz ≤ k → x.In w → y.In w → Calls Tryd.prog 51 #[x.val, y.val] w fun e w' => e = .returned (.bool (samS x y)) ∧ Below w.heap.size w w')
    (l t : List St) (a a' : Option Addr) (c c' : Nat) (w : World) (hk : ssz l ≤ k) (hin : Have w a c l) (hin' : Have w a' c' t) :
    Calls Tryd.prog 50 #[.slice a l.length c, .slice a' t.length c', .func (.func 51) #[] #[]] w fun e w' => e = .returned (.bool (samSs l t)) ∧ Below w.heap.size w w' := by
  have IH : Hid (∀ (x y : St) (w : World), x.sz ≤ k → x.In w → y.In w → Calls Tryd.prog 51 #[x.val, y.val] w fun e w' => e = .returned (.bool (samS x y)) ∧ Below w.heap.size w w') := h1
  have HA : Hid (Have w a c l) := hin
  have HB : Hid (Have w a' c' t) := hin'
  have hl := hin.1.1
  have hc := hin.1.2.1
  have hl' := hin'.1.1
  have hc' := hin'.1.2.1
  clear h1 hin hin'
  by_cases hle : l.length = t.length
  · have HL : Hid (l.length = t.length) := hle
    rw [← hle] at hl' ⊢
    clear hle
    go_enter Tryd.func50, Tryd.ntmps50
    go_wp2_with fail
    go_loopw [17] (fun t17 wr => ∃ (j : Nat), j ≤ l.length ∧ t17 = .int .i64 j ∧ samSs (l.drop j) (t.drop j) = samSs l t ∧ Below w.heap.size w wr) (fun t17 _ => l.length - (intOf t17).toNat)
    case atStart => exact ⟨0, Nat.zero_le _, rfl, rfl, Below.refl _ w⟩
    case round =>
      obtain ⟨j, hj, rfl, hcnt, hb⟩ := hrel
      have HC : Hid (samSs (l.drop j) (t.drop j) = samSs l t) := hcnt
      clear hcnt
      have hws := hb.size
      by_cases hlt : j < l.length
      · have hlt' : j < t.length := by have := HL.out; omega
        obtain ⟨b, o, rfl, hc1⟩ := rowS_at (HA.out.1.2.2.2.below hb) hlt
        obtain ⟨b', o', rfl, hc2⟩ := rowS_at (HB.out.1.2.2.2.below hb) hlt'
        have c0 := hc1 0 _ rfl
        have d0 := hc2 0 _ rfl
        have c1 := hc1 1 _ rfl
        have d1 := hc2 1 _ rfl
        have c2 := hc1 2 _ rfl
        have d2 := hc2 2 _ rfl
        have c3 := hc1 3 _ rfl
        have d3 := hc2 3 _ rfl
        have c4 := hc1 4 _ rfl
        have d4 := hc2 4 _ rfl
        have c5 := hc1 5 _ rfl
        have d5 := hc2 5 _ rfl
        have c6 := hc1 6 _ rfl
        have d6 := hc2 6 _ rfl
        have c7 := hc1 7 _ rfl
        have d7 := hc2 7 _ rfl
        have c8 := hc1 8 _ rfl
        have d8 := hc2 8 _ rfl
        have c9 := hc1 9 _ rfl
        have d9 := hc2 9 _ rfl
        have c10 := hc1 10 _ rfl
        have d10 := hc2 10 _ rfl
        have c11 := hc1 11 _ rfl
        have d11 := hc2 11 _ rfl
        have c12 := hc1 12 _ rfl
        have d12 := hc2 12 _ rfl
        have c13 := hc1 13 _ rfl
        have d13 := hc2 13 _ rfl
        simp only [← Nat.add_assoc, Nat.add_zero] at c0 d0 c1 d1 c2 d2 c3 d3 c4 d4 c5 d5 c6 d6 c7 d7 c8 d8 c9 d9 c10 d10 c11 d11 c12 d12 c13 d13
        clear hc1 hc2
        have hbl : b < wr.heap.size := lt_of_cell c0
        have hbl' : b' < wr.heap.size := lt_of_cell d0
        have hli : (j : Int) < (l.length : Int) := by omega
        have hsy := ssz_mem (List.getElem_mem hlt)
        have HZ : Hid (l[j].sz ≤ k) := (by omega : l[j].sz ≤ k)
        clear hsy
        have HY : Hid (l[j].In w) := HA.out.2 l[j] (List.getElem_mem hlt)
        have HY' : Hid (t[j].In w) := HB.out.2 t[j] (List.getElem_mem hlt')
        have HD : Hid (samSs (l.drop j) (t.drop j) = (samS l[j] t[j] && samSs (l.drop (j + 1)) (t.drop (j + 1)))) := samSs_drop hlt hlt'
        generalize l[j] = x at *
        generalize t[j] = y at *
        have hb2 := (hb.alloc hws (.cells #[.int .i64 x.kind, .string x.name, .int .i64 x.n, .int .i64 x.a.kind, .int .i64 x.a.n, .string x.a.name, .slice x.a.a x.a.args.length x.a.cap, .int .i64 x.b.kind, .int .i64 x.b.n, .string x.b.name, .slice x.b.a x.b.args.length x.b.cap, .slice x.ba x.body.length x.bc, .slice x.ea x.els.length x.ec, .slice x.ca x.cases.length x.cc] 46)).alloc (by simp; omega) (.cells #[.int .i64 y.kind, .string y.name, .int .i64 y.n, .int .i64 y.a.kind, .int .i64 y.a.n, .string y.a.name, .slice y.a.a y.a.args.length y.a.cap, .int .i64 y.b.kind, .int .i64 y.b.n, .string y.b.name, .slice y.b.a y.b.args.length y.b.cap, .slice y.ba y.body.length y.bc, .slice y.ea y.els.length y.ec, .slice y.ca y.cases.length y.cc] 46)
        have hs2 := hb2.size
        go_wp2_with fail
        refine (IH.out x y _ HZ.out (HY.out.stay hb2) (HY'.out.stay hb2)).mono ?_
        rintro e w' ⟨rfl, hb'⟩
        have hb4 : Below w.heap.size w w' := hb2.trans (hb'.mono hs2)
        clear c0 d0 c1 d1 c2 d2 c3 d3 c4 d4 c5 d5 c6 d6 c7 d7 c8 d8 c9 d9 c10 d10 c11 d11 c12 d12 c13 d13
        cases ev : samS x y
        · rw [ev] at HD
          go_wp2_with fail
          go_ret
          exact ⟨ret_bool (by rw [← HC.out, HD.out]; rfl), hb4⟩
        · rw [ev] at HD
          go_wp2_with fail
          go_roundw
          case rel => exact ⟨j + 1, by omega, by go_num, by rw [← HC.out, HD.out]; rfl, hb4⟩
          case measure => simp [intOf]; omega
      · go_wp2_with fail
        go_ret
        refine ⟨ret_bool ?_, hb⟩
        rw [← HC.out, List.drop_eq_nil_of_le (by omega), List.drop_eq_nil_of_le (by have := HL.out; omega)]; simp [samSs]
  · have hne : ((l.length : Int) != (t.length : Int)) = true := by simp only [bne_iff_ne]; omega
    go_enter Tryd.func50, Tryd.ntmps50
    go_wp2_with fail
    go_ret
    exact ⟨ret_bool (by rw [samSs_len hle]), Below.refl _ w⟩
end Go.Proofs.YtbpemackmadhgaaDoor
