/- sameCase, sameStmts and sameStmt at any depth. -/
import Derived.Test.YtbpemackmadhgaaGreatDoorPart3
import Derived.Test.YtbpemackmadhgaaGreatDoorPart2
import Derived.Laws.StructEq
import Derived.Deep.CutRange
namespace Go.Proofs.YtbpemackmadhgaaGreatDoor
open Go.RowKit

/-- Two new blocks hold two statements' cells, in every world behind. -/
theorem boxes {w w1 : World} {x y : St} (hb : Below ((w.alloc (.cells #[.int .i64 x.kind, .string x.name, .int .i64 x.n, .int .i64 x.a.kind, .int .i64 x.a.n, .string x.a.name, .slice x.a.a x.a.args.length x.a.cap, .int .i64 x.b.kind, .int .i64 x.b.n, .string x.b.name, .slice x.b.a x.b.args.length x.b.cap, .slice x.ba x.body.length x.bc, .slice x.ea x.els.length x.ec, .slice x.ca x.cases.length x.cc] 43)).alloc (.cells #[.int .i64 y.kind, .string y.name, .int .i64 y.n, .int .i64 y.a.kind, .int .i64 y.a.n, .string y.a.name, .slice y.a.a y.a.args.length y.a.cap, .int .i64 y.b.kind, .int .i64 y.b.n, .string y.b.name, .slice y.b.a y.b.args.length y.b.cap, .slice y.ba y.body.length y.bc, .slice y.ea y.els.length y.ec, .slice y.ca y.cases.length y.cc] 43)).heap.size ((w.alloc (.cells #[.int .i64 x.kind, .string x.name, .int .i64 x.n, .int .i64 x.a.kind, .int .i64 x.a.n, .string x.a.name, .slice x.a.a x.a.args.length x.a.cap, .int .i64 x.b.kind, .int .i64 x.b.n, .string x.b.name, .slice x.b.a x.b.args.length x.b.cap, .slice x.ba x.body.length x.bc, .slice x.ea x.els.length x.ec, .slice x.ca x.cases.length x.cc] 43)).alloc (.cells #[.int .i64 y.kind, .string y.name, .int .i64 y.n, .int .i64 y.a.kind, .int .i64 y.a.n, .string y.a.name, .slice y.a.a y.a.args.length y.a.cap, .int .i64 y.b.kind, .int .i64 y.b.n, .string y.b.name, .slice y.b.a y.b.args.length y.b.cap, .slice y.ba y.body.length y.bc, .slice y.ea y.els.length y.ec, .slice y.ca y.cases.length y.cc] 43)) w1) : BoxS w1 w.heap.size x ∧ BoxS w1 (w.heap.size + 1) y := by
  obtain ⟨h1, h2, _⟩ := two_cells hb
  exact ⟨fun i v h => h1 i v (by simpa [St.cells] using h), fun i v h => h2 i v (by simpa [St.cells] using h)⟩

abbrev StmtOk (k : Nat) : Prop := ∀ (x y : St) (w : World), x.sz ≤ k → x.In w → y.In w → Calls Tryz.prog 68 #[x.val, y.val] w fun e w' => e = .returned (.bool (samS x y)) ∧ Below w.heap.size w w'
abbrev StmtsOk (k : Nat) : Prop := ∀ (l t : List St) (a a' : Option Addr) (c c' : Nat) (w : World), ssz l ≤ k → Have w a c l → Have w a' c' t → Calls Tryz.prog 45 #[.slice a l.length c, .slice a' t.length c'] w fun e w' => e = .returned (.bool (samSs l t)) ∧ Below w.heap.size w w'
abbrev CaseOk (k : Nat) : Prop := ∀ (x y : Ca) (w : World), x.sz ≤ k → x.In w → y.In w → Calls Tryz.prog 98 #[x.val, y.val] w fun e w' => e = .returned (.bool (samC x y)) ∧ Below w.heap.size w w'
abbrev CasesOk (k : Nat) : Prop := ∀ (l t : List Ca) (a a' : Option Addr) (c c' : Nat) (w : World), csz l ≤ k → HaveC w a c l → HaveC w a' c' t → Calls Tryz.prog 97 #[.slice a l.length c, .slice a' t.length c', .func (.func 98) #[] #[]] w fun e w' => e = .returned (.bool (samCs l t)) ∧ Below w.heap.size w w'

set_option maxHeartbeats 1000000 in
theorem sameStmts_step (k : Nat) (h1 : StmtOk k) : StmtsOk k := by
  intro l t a a' c c' w hk ha hb
  have HQ : Hid (Calls Tryz.prog 67 #[.slice a l.length c, .slice a' t.length c', .func (.func 68) #[] #[]] w fun e w' => e = .returned (.bool (samSs l t)) ∧ Below w.heap.size w w') := eqS_step k h1 l t a a' c c' w hk ha hb
  clear h1 ha hb
  go_enter Tryz.func45, Tryz.ntmps45
  go_wp2_with fail
  refine HQ.out.mono ?_
  rintro e w' ⟨rfl, hb'⟩
  go_wp2_with fail
  go_ret
  exact ⟨rfl, hb'⟩

set_option maxRecDepth 100000 in
set_option maxHeartbeats 4000000 in
theorem sameCase_step (k : Nat) (h2 : StmtsOk k) : CaseOk (k + 1) := by
  intro x y w hk hx hy
  have hb1 := ((Below.refl _ w).alloc (Nat.le_refl _) (.cells #[.int .i64 x.n, .slice x.ba x.body.length x.bc] 101)).alloc (by simp) (.cells #[.int .i64 y.n, .slice y.ba y.body.length y.bc] 101)
  have HQ : Hid (∀ w', Below w.heap.size w w' → Calls Tryz.prog 45 #[.slice x.ba x.body.length x.bc, .slice y.ba y.body.length y.bc] w' fun e w'' => e = .returned (.bool (samSs x.body y.body)) ∧ Below w'.heap.size w' w'') := fun w' hb => h2 _ _ _ _ _ _ w' (by have := x.sz_eq; omega) ((Ca.in_iff.1 hx).2.stay hb) ((Ca.in_iff.1 hy).2.stay hb)
  have HE : Hid (samC x y = (x.n == y.n && samSs x.body y.body)) := samC_eq x y
  clear h2 hx hy
  generalize samC x y = res at HE ⊢
  generalize samSs x.body y.body = sub at HE HQ
  unfold Ca.val
  cases e1 : (x.n == y.n)
  · go_enter Tryz.func98, Tryz.ntmps98
    go_wp2_with fail
    go_ret
    exact ⟨ret_bool (by rw [HE.out, e1]; rfl), hb1⟩
  · go_enter Tryz.func98, Tryz.ntmps98
    go_wp2_with fail
    refine (HQ.out _ hb1).mono ?_
    rintro e w' ⟨rfl, hb'⟩
    go_wp2_with fail
    go_ret
    exact ⟨ret_bool (by rw [HE.out, e1]; rfl), hb1.trans (hb'.mono hb1.size)⟩

set_option maxRecDepth 100000 in
set_option maxHeartbeats 8000000 in
theorem sameStmt_step (k : Nat) (h2 : StmtsOk k) (h4 : CasesOk k) : StmtOk (k + 1) := by
  intro x y w hk hx hy
  have hsz := x.sz_eq
  obtain ⟨_, _, _, xa, xb, xl, xe, xc, xs⟩ := St.in_iff.1 hx
  obtain ⟨_, _, _, ya, yb, yl, ye, yc, ys⟩ := St.in_iff.1 hy
  have hb1 := ((Below.refl _ w).alloc (Nat.le_refl _) (.cells #[.int .i64 x.kind, .string x.name, .int .i64 x.n, .int .i64 x.a.kind, .int .i64 x.a.n, .string x.a.name, .slice x.a.a x.a.args.length x.a.cap, .int .i64 x.b.kind, .int .i64 x.b.n, .string x.b.name, .slice x.b.a x.b.args.length x.b.cap, .slice x.ba x.body.length x.bc, .slice x.ea x.els.length x.ec, .slice x.ca x.cases.length x.cc] 43)).alloc (by simp) (.cells #[.int .i64 y.kind, .string y.name, .int .i64 y.n, .int .i64 y.a.kind, .int .i64 y.a.n, .string y.a.name, .slice y.a.a y.a.args.length y.a.cap, .int .i64 y.b.kind, .int .i64 y.b.n, .string y.b.name, .slice y.b.a y.b.args.length y.b.cap, .slice y.ba y.body.length y.bc, .slice y.ea y.els.length y.ec, .slice y.ca y.cases.length y.cc] 43)
  have HA : Hid (∀ w', Below w.heap.size w w' → Calls Tryz.prog 96 #[x.a.val, y.a.val] w' fun e w'' => e = .returned (.bool (samE x.a y.a)) ∧ Below w'.heap.size w' w'') := fun w' hb => sameExpr_any _ _ w' (xa.stay hb) (ya.stay hb)
  have HB : Hid (∀ w', Below w.heap.size w w' → Calls Tryz.prog 96 #[x.b.val, y.b.val] w' fun e w'' => e = .returned (.bool (samE x.b y.b)) ∧ Below w'.heap.size w' w'') := fun w' hb => sameExpr_any _ _ w' (xb.stay hb) (yb.stay hb)
  have HL : Hid (∀ w', Below w.heap.size w w' → Calls Tryz.prog 45 #[.slice x.ba x.body.length x.bc, .slice y.ba y.body.length y.bc] w' fun e w'' => e = .returned (.bool (samSs x.body y.body)) ∧ Below w'.heap.size w' w'') := fun w' hb => h2 _ _ _ _ _ _ w' (by omega) (xl.stay hb) (yl.stay hb)
  have HM : Hid (∀ w', Below w.heap.size w w' → Calls Tryz.prog 45 #[.slice x.ea x.els.length x.ec, .slice y.ea y.els.length y.ec] w' fun e w'' => e = .returned (.bool (samSs x.els y.els)) ∧ Below w'.heap.size w' w'') := fun w' hb => h2 _ _ _ _ _ _ w' (by omega) (xe.stay hb) (ye.stay hb)
  have HC : Hid (∀ w', Below w.heap.size w w' → Calls Tryz.prog 97 #[.slice x.ca x.cases.length x.cc, .slice y.ca y.cases.length y.cc, .func (.func 98) #[] #[]] w' fun e w'' => e = .returned (.bool (samCs x.cases y.cases)) ∧ Below w'.heap.size w' w'') := fun w' hb => h4 _ _ _ _ _ _ w' (by omega) ⟨xc.below hb, fun z hz => (xs z hz).stay hb⟩ ⟨yc.below hb, fun z hz => (ys z hz).stay hb⟩
  have HE : Hid (samS x y = (x.kind == y.kind && (x.name.toList == y.name.toList && (x.n == y.n && (samE x.a y.a && (samE x.b y.b && (samSs x.body y.body && (samSs x.els y.els && samCs x.cases y.cases)))))))) := samS_eq x y
  clear h2 h4 hx hy xa xb xl xe xc xs ya yb yl ye yc ys hsz hk
  generalize samS x y = res at HE ⊢
  generalize samE x.a y.a = ra at HE HA
  generalize samE x.b y.b = rb at HE HB
  generalize samSs x.body y.body = rl at HE HL
  generalize samSs x.els y.els = re at HE HM
  generalize samCs x.cases y.cases = rc at HE HC
  unfold Ex.val at HA HB
  unfold St.val
  cases e1 : (x.kind == y.kind)
  · go_enter Tryz.func68, Tryz.ntmps68
    go_wp2_with fail
    go_ret
    exact ⟨ret_bool (by rw [HE.out, e1]; rfl), hb1⟩
  cases e2 : (x.name.toList == y.name.toList)
  · go_enter Tryz.func68, Tryz.ntmps68
    go_wp2_with fail
    go_ret
    exact ⟨ret_bool (by rw [HE.out, e1, e2]; rfl), hb1⟩
  cases e3 : (x.n == y.n)
  · go_enter Tryz.func68, Tryz.ntmps68
    go_wp2_with fail
    go_ret
    exact ⟨ret_bool (by rw [HE.out, e1, e2, e3]; rfl), hb1⟩
  have HE2 : Hid (res = (ra && (rb && (rl && (re && rc))))) := (by rw [HE.out, e1, e2, e3]; rfl : res = _)
  clear HE
  go_enter Tryz.func68, Tryz.ntmps68
  go_wp2_with fail
  refine (HA.out _ hb1).mono ?_
  rintro e w1 ⟨rfl, k0⟩
  obtain ⟨X0, Y0⟩ := boxes k0
  have g0 : Below w.heap.size w w1 := hb1.trans (k0.mono hb1.size)
  have hs1 : w.heap.size + 1 < w1.heap.size := by have := k0.size; simp at this; omega
  have XH0 : Hid (BoxS w1 w.heap.size x) := X0
  have YH0 : Hid (BoxS w1 (w.heap.size + 1) y) := Y0
  clear X0 Y0 k0
  have c7 := XH0.out 7 _ rfl
  have d7 := YH0.out 7 _ rfl
  have c8 := XH0.out 8 _ rfl
  have d8 := YH0.out 8 _ rfl
  have c9 := XH0.out 9 _ rfl
  have d9 := YH0.out 9 _ rfl
  have c10 := XH0.out 10 _ rfl
  have d10 := YH0.out 10 _ rfl
  cases ra
  · go_wp2_with fail
    go_ret
    exact ⟨ret_bool (by rw [HE2.out]; rfl), g0⟩
  go_wp2_with fail
  refine (HB.out _ g0).mono ?_
  rintro e w2 ⟨rfl, k1⟩
  have X1 := XH0.out.below k1 (by omega)
  have Y1 := YH0.out.below k1 (by omega)
  have g1 : Below w.heap.size w w2 := g0.trans (k1.mono g0.size)
  have hs2 : w.heap.size + 1 < w2.heap.size := by have := k1.size; omega
  clear c7 d7 c8 d8 c9 d9 c10 d10
  have XH1 : Hid (BoxS w2 w.heap.size x) := X1
  have YH1 : Hid (BoxS w2 (w.heap.size + 1) y) := Y1
  clear X1 Y1 k1
  have c11 := XH1.out 11 _ rfl
  have d11 := YH1.out 11 _ rfl
  cases rb
  · go_wp2_with fail
    go_ret
    exact ⟨ret_bool (by rw [HE2.out]; rfl), g1⟩
  go_wp2_with fail
  refine (HL.out _ g1).mono ?_
  rintro e w3 ⟨rfl, k2⟩
  have X2 := XH1.out.below k2 (by omega)
  have Y2 := YH1.out.below k2 (by omega)
  have g2 : Below w.heap.size w w3 := g1.trans (k2.mono g1.size)
  have hs3 : w.heap.size + 1 < w3.heap.size := by have := k2.size; omega
  clear c11 d11
  have XH2 : Hid (BoxS w3 w.heap.size x) := X2
  have YH2 : Hid (BoxS w3 (w.heap.size + 1) y) := Y2
  clear X2 Y2 k2
  have c12 := XH2.out 12 _ rfl
  have d12 := YH2.out 12 _ rfl
  cases rl
  · go_wp2_with fail
    go_ret
    exact ⟨ret_bool (by rw [HE2.out]; rfl), g2⟩
  go_wp2_with fail
  refine (HM.out _ g2).mono ?_
  rintro e w4 ⟨rfl, k3⟩
  have X3 := XH2.out.below k3 (by omega)
  have Y3 := YH2.out.below k3 (by omega)
  have g3 : Below w.heap.size w w4 := g2.trans (k3.mono g2.size)
  have hs4 : w.heap.size + 1 < w4.heap.size := by have := k3.size; omega
  clear c12 d12
  have XH3 : Hid (BoxS w4 w.heap.size x) := X3
  have YH3 : Hid (BoxS w4 (w.heap.size + 1) y) := Y3
  clear X3 Y3 k3
  have c13 := XH3.out 13 _ rfl
  have d13 := YH3.out 13 _ rfl
  cases re
  · go_wp2_with fail
    go_ret
    exact ⟨ret_bool (by rw [HE2.out]; rfl), g3⟩
  go_wp2_with fail
  refine (HC.out _ g3).mono ?_
  rintro e w5 ⟨rfl, k4⟩
  have X4 := XH3.out.below k4 (by omega)
  have Y4 := YH3.out.below k4 (by omega)
  have g4 : Below w.heap.size w w5 := g3.trans (k4.mono g3.size)
  have hs5 : w.heap.size + 1 < w5.heap.size := by have := k4.size; omega
  clear c13 d13
  have XH4 : Hid (BoxS w5 w.heap.size x) := X4
  have YH4 : Hid (BoxS w5 (w.heap.size + 1) y) := Y4
  clear X4 Y4 k4
  go_wp2_with fail
  go_ret
  exact ⟨ret_bool (by rw [HE2.out]; rfl), g4⟩

theorem same_all (k : Nat) : StmtOk k ∧ CaseOk k := by
  induction k with
  | zero => exact ⟨fun x _ _ h => by have := x.sz_eq; omega, fun x _ _ h => by have := x.sz_eq; omega⟩
  | succ k ih =>
    have hS := sameStmts_step k ih.1
    exact ⟨sameStmt_step k hS (fun l t a a' c c' w hk ha hb => eqC_step k ih.2 l t a a' c c' w hk ha hb), sameCase_step k hS⟩
theorem sameStmts_any (l t : List St) (a a' : Option Addr) (c c' : Nat) (w : World) (ha : Have w a c l) (hb : Have w a' c' t) : Calls Tryz.prog 45 #[.slice a l.length c, .slice a' t.length c'] w fun e w' => e = .returned (.bool (samSs l t)) ∧ Below w.heap.size w w' :=
  sameStmts_step _ (same_all _).1 l t a a' c c' w (Nat.le_refl _) ha hb
end Go.Proofs.YtbpemackmadhgaaGreatDoor

/- slices.Equal at thresholds and at parameters; sameFn. -/
namespace Go.Proofs.YtbpemackmadhgaaGreatDoor
open Go.RowKit

def samI : List Int → List Int → Bool
  | [], [] => true
  | x :: r, y :: t => x == y && samI r t
  | [], _ :: _ => false
  | _ :: _, [] => false
theorem samI_len : ∀ {l t : List Int}, l.length ≠ t.length → samI l t = false
  | [], [], h => by simp at h
  | [], _ :: _, _ => by simp [samI]
  | _ :: _, [], _ => by simp [samI]
  | x :: r, y :: t, h => by simp only [samI]; rw [samI_len (by simpa using h)]; simp
theorem samI_drop {l t : List Int} {j : Nat} (h : j < l.length) (h' : j < t.length) : samI (l.drop j) (t.drop j) = (l[j] == t[j] && samI (l.drop (j + 1)) (t.drop (j + 1))) := by
  rw [List.drop_eq_getElem_cons h, List.drop_eq_getElem_cons h', samI]
def samP (x y : Pa) : Bool := x.name.toList == y.name.toList && (x.lo == y.lo && x.hi == y.hi)
def samPs : List Pa → List Pa → Bool
  | [], [] => true
  | x :: r, y :: t => samP x y && samPs r t
  | [], _ :: _ => false
  | _ :: _, [] => false
theorem samPs_len : ∀ {l t : List Pa}, l.length ≠ t.length → samPs l t = false
  | [], [], h => by simp at h
  | [], _ :: _, _ => by simp [samPs]
  | _ :: _, [], _ => by simp [samPs]
  | x :: r, y :: t, h => by simp only [samPs]; rw [samPs_len (by simpa using h)]; simp
theorem samPs_drop {l t : List Pa} {j : Nat} (h : j < l.length) (h' : j < t.length) : samPs (l.drop j) (t.drop j) = (samP l[j] t[j] && samPs (l.drop (j + 1)) (t.drop (j + 1))) := by
  rw [List.drop_eq_getElem_cons h, List.drop_eq_getElem_cons h', samPs]

set_option maxRecDepth 100000 in
set_option maxHeartbeats 4000000 in
theorem equalI_any (l t : List Int) (a a' : Option Addr) (c c' : Nat) (w : World) (hin : Thr w a c l) (hin' : Thr w a' c' t) :
    Calls Tryz.prog 25 #[.slice a l.length c, .slice a' t.length c'] w fun e w' => e = .returned (.bool (samI l t)) ∧ Below w.heap.size w w' := by
  have HA : Hid (Thr w a c l) := hin
  have HB : Hid (Thr w a' c' t) := hin'
  have hl := hin.1
  have hc := hin.2.1
  have hl' := hin'.1
  have hc' := hin'.2.1
  clear hin hin'
  by_cases hle : l.length = t.length
  · have HL : Hid (l.length = t.length) := hle
    rw [← hle] at hl' ⊢
    clear hle
    go_enter Tryz.func25, Tryz.ntmps25
    go_wp2_with fail
    go_loopw [13] (fun t13 wr => ∃ (j nq : Nat), j ≤ l.length ∧ t13 = .int .i64 j ∧ samI (l.drop j) (t.drop j) = samI l t ∧ wr = w.drewN nq) (fun t13 _ => l.length - (intOf t13).toNat)
    case atStart => exact ⟨0, 0, Nat.zero_le _, rfl, rfl, rfl⟩
    case round =>
      obtain ⟨j, nq, hj, rfl, hcnt, rfl⟩ := hrel
      have HC : Hid (samI (l.drop j) (t.drop j) = samI l t) := hcnt
      clear hcnt
      by_cases hlt : j < l.length
      · have hlt' : j < t.length := by have := HL.out; omega
        obtain ⟨b, o, rfl, c0⟩ := rowW_at HA.out.2.2 hlt
        obtain ⟨b', o', rfl, d0⟩ := rowW_at HB.out.2.2 hlt'
        have hli : (j : Int) < (l.length : Int) := by omega
        have HD : Hid (samI (l.drop j) (t.drop j) = (l[j] == t[j] && samI (l.drop (j + 1)) (t.drop (j + 1)))) := samI_drop hlt hlt'
        generalize l[j] = x at *
        generalize t[j] = y at *
        clear hlt'
        go_wp2_with fail
        go_quiet (fail)
        cases ev : (x == y)
        · have ev' : (x != y) = true := by simp [bne, ev]
          rw [ev] at HD
          go_wp2_with fail
          go_ret
          exact ⟨ret_bool (by rw [← HC.out, HD.out]; rfl), ((Below.refl _ w).drewN _).drewN _⟩
        · have ev' : (x != y) = false := by simp [bne, ev]
          rw [ev] at HD
          go_wp2_with fail
          go_roundw
          case rel => exact ⟨j + 1, _, by omega, by go_num, by rw [← HC.out, HD.out]; rfl, rfl⟩
          case measure => simp [intOf]; omega
      · go_wp2_with fail
        go_ret
        refine ⟨ret_bool ?_, (Below.refl _ w).drewN _⟩
        rw [← HC.out, List.drop_eq_nil_of_le (by omega), List.drop_eq_nil_of_le (by have := HL.out; omega)]; rfl
  · have hne : ((l.length : Int) != (t.length : Int)) = true := by simp only [bne_iff_ne]; omega
    go_enter Tryz.func25, Tryz.ntmps25
    go_wp2_with fail
    go_ret
    exact ⟨ret_bool (by rw [samI_len hle]), Below.refl _ w⟩

theorem equalIn_pa (x y : Pa) (w : World) : (Op.equalIn 10000 38 (.agg #[.string x.name, .int .i64 x.lo, .int .i64 x.hi]) (.agg #[.string y.name, .int .i64 y.lo, .int .i64 y.hi])).run Tryz.prog w = .ok (samP x y) w := by
  have u2 := Tryz.underlying2
  have a2 := Tryz.isAgg2
  have z2 := Tryz.sizeOf2
  have u9 := Tryz.underlying9
  have a9 := Tryz.isAgg9
  have z9 := Tryz.sizeOf9
  have hS : Tryz.prog.underlying 38 = some (.struct (Tryz.prog.fieldsOf 38)) := by kernel_rfl
  have hp : Tryz.prog.stoodInHeld 38 = false := by kernel_rfl
  rw [show (10000 : Nat) = 9999 + 1 from rfl, run_equalIn_agg w 9999 38 _ _ hS hp]
  simp only [Program.fieldsOf, Tryz.underlying38]
  go_simp
  unfold samP
  by_cases h1 : x.name.toList = y.name.toList <;> by_cases h2 : x.lo = y.lo <;> by_cases h3 : x.hi = y.hi <;> simp [h1, h2, h3]

def HaveP (W : World) (a : Option Addr) (c : Nat) (l : List Pa) : Prop := l.length ≤ c ∧ c * 32 ≤ 140737488351232 ∧ RowIn W a 3 (l.map Pa.cells)
set_option maxRecDepth 100000 in
set_option maxHeartbeats 4000000 in
theorem equalP_any (l t : List Pa) (a a' : Option Addr) (c c' : Nat) (w : World) (hin : HaveP w a c l) (hin' : HaveP w a' c' t) :
    Calls Tryz.prog 44 #[.slice a l.length c, .slice a' t.length c'] w fun e w' => e = .returned (.bool (samPs l t)) ∧ Below w.heap.size w w' := by
  have HA : Hid (HaveP w a c l) := hin
  have HB : Hid (HaveP w a' c' t) := hin'
  have hl := hin.1
  have hc := hin.2.1
  have hl' := hin'.1
  have hc' := hin'.2.1
  clear hin hin'
  by_cases hle : l.length = t.length
  · have HL : Hid (l.length = t.length) := hle
    rw [← hle] at hl' ⊢
    clear hle
    go_enter Tryz.func44, Tryz.ntmps44
    go_wp2_with fail
    go_loopw [13] (fun t13 wr => ∃ (j nq : Nat), j ≤ l.length ∧ t13 = .int .i64 j ∧ samPs (l.drop j) (t.drop j) = samPs l t ∧ wr = w.drewN nq) (fun t13 _ => l.length - (intOf t13).toNat)
    case atStart => exact ⟨0, 0, Nat.zero_le _, rfl, rfl, rfl⟩
    case round =>
      obtain ⟨j, nq, hj, rfl, hcnt, rfl⟩ := hrel
      have HC : Hid (samPs (l.drop j) (t.drop j) = samPs l t) := hcnt
      clear hcnt
      by_cases hlt : j < l.length
      · have hlt' : j < t.length := by have := HL.out; omega
        obtain ⟨b, o, rfl, c0, c1, c2⟩ := rowP_at HA.out.2.2 hlt
        obtain ⟨b', o', rfl, d0, d1, d2⟩ := rowP_at HB.out.2.2 hlt'
        have hli : (j : Int) < (l.length : Int) := by omega
        have HD : Hid (samPs (l.drop j) (t.drop j) = (samP l[j] t[j] && samPs (l.drop (j + 1)) (t.drop (j + 1)))) := samPs_drop hlt hlt'
        generalize l[j] = x at *
        generalize t[j] = y at *
        clear hlt'
        go_wp2_with fail
        have hq := fun w => equalIn_pa x y w
        have hg : ∀ (w : World) (op : BinOp) (a b : Operand) (xs ys : Array Value), (eqGuard op 38 a b (.agg xs) (.agg ys)).run Tryz.prog w = .ok () w := fun w op a b xs ys => run_eqGuard_agg w op 38 a b xs ys (by kernel_rfl)
        go_quiet (fail)
        clear hq hg
        cases ev : samP x y
        · rw [ev] at HD
          go_wp2_with fail
          go_ret
          exact ⟨ret_bool (by rw [← HC.out, HD.out]; rfl), ((Below.refl _ w).drewN _).drewN _⟩
        · rw [ev] at HD
          go_wp2_with fail
          go_roundw
          case rel => exact ⟨j + 1, _, by omega, by go_num, by rw [← HC.out, HD.out]; rfl, rfl⟩
          case measure => simp [intOf]; omega
      · go_wp2_with fail
        go_ret
        refine ⟨ret_bool ?_, (Below.refl _ w).drewN _⟩
        rw [← HC.out, List.drop_eq_nil_of_le (by omega), List.drop_eq_nil_of_le (by have := HL.out; omega)]; rfl
  · have hne : ((l.length : Int) != (t.length : Int)) = true := by simp only [bne_iff_ne]; omega
    go_enter Tryz.func44, Tryz.ntmps44
    go_wp2_with fail
    go_ret
    exact ⟨ret_bool (by rw [samPs_len hle]), Below.refl _ w⟩

def samF (x y : Fu) : Bool := x.name.toList == y.name.toList && (samPs x.params y.params && samSs x.body y.body)
def samFs : List Fu → List Fu → Bool
  | [], [] => true
  | x :: r, y :: t => samF x y && samFs r t
  | [], _ :: _ => false
  | _ :: _, [] => false
theorem samFs_len : ∀ {l t : List Fu}, l.length ≠ t.length → samFs l t = false
  | [], [], h => by simp at h
  | [], _ :: _, _ => by simp [samFs]
  | _ :: _, [], _ => by simp [samFs]
  | x :: r, y :: t, h => by simp only [samFs]; rw [samFs_len (by simpa using h)]; simp
theorem samFs_drop {l t : List Fu} {j : Nat} (h : j < l.length) (h' : j < t.length) : samFs (l.drop j) (t.drop j) = (samF l[j] t[j] && samFs (l.drop (j + 1)) (t.drop (j + 1))) := by
  rw [List.drop_eq_getElem_cons h, List.drop_eq_getElem_cons h', samFs]

set_option maxRecDepth 100000 in
set_option maxHeartbeats 4000000 in
theorem sameFn_any (x y : Fu) (w : World) (hx : x.In w) (hy : y.In w) : Calls Tryz.prog 27 #[x.val, y.val] w fun e w' => e = .returned (.bool (samF x y)) ∧ Below w.heap.size w w' := by
  have hb1 := ((Below.refl _ w).alloc (Nat.le_refl _) (.cells #[.string x.name, .slice x.pa x.params.length x.pc, .slice x.ba x.body.length x.bc] 45)).alloc (by simp) (.cells #[.string y.name, .slice y.pa y.params.length y.pc, .slice y.ba y.body.length y.bc] 45)
  have HP : Hid (∀ w', Below w.heap.size w w' → Calls Tryz.prog 44 #[.slice x.pa x.params.length x.pc, .slice y.pa y.params.length y.pc] w' fun e w'' => e = .returned (.bool (samPs x.params y.params)) ∧ Below w'.heap.size w' w'') := fun w' hb => equalP_any _ _ _ _ _ _ w' ⟨hx.2.1, hx.2.2.1, hx.2.2.2.2.1.below hb⟩ ⟨hy.2.1, hy.2.2.1, hy.2.2.2.2.1.below hb⟩
  have HS : Hid (∀ w', Below w.heap.size w w' → Calls Tryz.prog 45 #[.slice x.ba x.body.length x.bc, .slice y.ba y.body.length y.bc] w' fun e w'' => e = .returned (.bool (samSs x.body y.body)) ∧ Below w'.heap.size w' w'') := fun w' hb => sameStmts_any _ _ _ _ _ _ w' (hx.2.2.2.2.2.2.stay hb) (hy.2.2.2.2.2.2.stay hb)
  have HE : Hid (samF x y = (x.name.toList == y.name.toList && (samPs x.params y.params && samSs x.body y.body))) := (rfl : samF x y = _)
  clear hx hy
  generalize samF x y = res at HE ⊢
  generalize samPs x.params y.params = rp at HE HP
  generalize samSs x.body y.body = rs at HE HS
  unfold Fu.val
  cases e1 : (x.name.toList == y.name.toList)
  · go_enter Tryz.func27, Tryz.ntmps27
    go_wp2_with fail
    go_ret
    exact ⟨ret_bool (by rw [HE.out, e1]; rfl), hb1⟩
  · go_enter Tryz.func27, Tryz.ntmps27
    go_wp2_with fail
    refine (HP.out _ hb1).mono ?_
    rintro e w1 ⟨rfl, k0⟩
    obtain ⟨hX, hY, _⟩ := two_cells k0
    have c2 := hX 2 _ rfl
    have d2 := hY 2 _ rfl
    have hb2 : Below w.heap.size w w1 := hb1.trans (k0.mono hb1.size)
    clear hX hY k0 hb1
    cases rp
    · go_wp2_with fail
      go_ret
      exact ⟨ret_bool (by rw [HE.out, e1]; rfl), hb2⟩
    · go_wp2_with fail
      refine (HS.out _ hb2).mono ?_
      rintro e w2 ⟨rfl, k1⟩
      go_wp2_with fail
      go_ret
      exact ⟨ret_bool (by rw [HE.out, e1]; rfl), hb2.trans (k1.mono hb2.size)⟩
end Go.Proofs.YtbpemackmadhgaaGreatDoor

/- slices.EqualFunc at functions. -/
namespace Go.Proofs.YtbpemackmadhgaaGreatDoor
open Go.RowKit

theorem rowF_cells {W : World} {a : Option Addr} {l : List Fu} (h : RowIn W a 3 (l.map Fu.cells)) {i : Nat} (hi : i < l.length) :
    ∃ b o, a = some ⟨b, o, none⟩ ∧ ∀ j v, l[i].cells[j]? = some v → W.cell? ⟨b, o + (i * 3 + j), none⟩ = some v := h i l[i].cells (by simp [hi])
def HaveF (W : World) (a : Option Addr) (c : Nat) (l : List Fu) : Prop := (l.length ≤ c ∧ c * 64 ≤ 140737488351232 ∧ RowIn W a 3 (l.map Fu.cells)) ∧ ∀ x ∈ l, x.In W
set_option maxRecDepth 100000 in
set_option maxHeartbeats 8000000 in
theorem eqF_step (h1 : ∀ (x y : Fu) (w : World), x.In w → y.In w → Calls Tryz.prog 27 #[x.val, y.val] w fun e w' => e = .returned (.bool (samF x y)) ∧ Below w.heap.size w w')
    (l t : List Fu) (a a' : Option Addr) (c c' : Nat) (w : World) (hin : HaveF w a c l) (hin' : HaveF w a' c' t) :
    Calls Tryz.prog 26 #[.slice a l.length c, .slice a' t.length c', .func (.func 27) #[] #[]] w fun e w' => e = .returned (.bool (samFs l t)) ∧ Below w.heap.size w w' := by
  have IH : Hid (∀ (x y : Fu) (w : World), x.In w → y.In w → Calls Tryz.prog 27 #[x.val, y.val] w fun e w' => e = .returned (.bool (samF x y)) ∧ Below w.heap.size w w') := h1
  have HA : Hid (HaveF w a c l) := hin
  have HB : Hid (HaveF w a' c' t) := hin'
  have hl := hin.1.1
  have hc := hin.1.2.1
  have hl' := hin'.1.1
  have hc' := hin'.1.2.1
  clear h1 hin hin'
  by_cases hle : l.length = t.length
  · have HL : Hid (l.length = t.length) := hle
    rw [← hle] at hl' ⊢
    clear hle
    go_enter Tryz.func26, Tryz.ntmps26
    go_wp2_with fail
    go_loopw [17] (fun t17 wr => ∃ (j : Nat), j ≤ l.length ∧ t17 = .int .i64 j ∧ samFs (l.drop j) (t.drop j) = samFs l t ∧ Below w.heap.size w wr) (fun t17 _ => l.length - (intOf t17).toNat)
    case atStart => exact ⟨0, Nat.zero_le _, rfl, rfl, Below.refl _ w⟩
    case round =>
      obtain ⟨j, hj, rfl, hcnt, hb⟩ := hrel
      have HC : Hid (samFs (l.drop j) (t.drop j) = samFs l t) := hcnt
      clear hcnt
      have hws := hb.size
      by_cases hlt : j < l.length
      · have hlt' : j < t.length := by have := HL.out; omega
        obtain ⟨b, o, rfl, hc1⟩ := rowF_cells (HA.out.1.2.2.below hb) hlt
        obtain ⟨b', o', rfl, hc2⟩ := rowF_cells (HB.out.1.2.2.below hb) hlt'
        have c0 := hc1 0 _ rfl
        have d0 := hc2 0 _ rfl
        have c1 := hc1 1 _ rfl
        have d1 := hc2 1 _ rfl
        have c2 := hc1 2 _ rfl
        have d2 := hc2 2 _ rfl
        simp only [← Nat.add_assoc, Nat.add_zero] at c0 d0 c1 d1 c2 d2
        clear hc1 hc2
        have hbl : b < wr.heap.size := lt_of_cell c0
        have hbl' : b' < wr.heap.size := lt_of_cell d0
        have hli : (j : Int) < (l.length : Int) := by omega
        have HY : Hid (l[j].In w) := HA.out.2 l[j] (List.getElem_mem hlt)
        have HY' : Hid (t[j].In w) := HB.out.2 t[j] (List.getElem_mem hlt')
        have HD : Hid (samFs (l.drop j) (t.drop j) = (samF l[j] t[j] && samFs (l.drop (j + 1)) (t.drop (j + 1)))) := samFs_drop hlt hlt'
        generalize l[j] = x at *
        generalize t[j] = y at *
        have hb2 := (hb.alloc hws (.cells #[.string x.name, .slice x.pa x.params.length x.pc, .slice x.ba x.body.length x.bc] 45)).alloc (by simp; omega) (.cells #[.string y.name, .slice y.pa y.params.length y.pc, .slice y.ba y.body.length y.bc] 45)
        have hs2 := hb2.size
        go_wp2_with fail
        refine (IH.out x y _ (HY.out.stay hb2) (HY'.out.stay hb2)).mono ?_
        rintro e w' ⟨rfl, hb'⟩
        have hb4 : Below w.heap.size w w' := hb2.trans (hb'.mono hs2)
        clear c0 d0 c1 d1 c2 d2
        cases ev : samF x y
        · rw [ev] at HD
          go_wp2_with fail
          go_ret
          exact ⟨ret_bool (by rw [← HC.out, HD.out]; rfl), hb4⟩
        · rw [ev] at HD
          go_wp2_with fail
          go_roundw
          case rel => exact ⟨j + 1, by omega, by go_num, by rw [← HC.out, HD.out]; rfl, hb4⟩
          case measure => simp [intOf]; omega
      · go_wp2_with fail
        go_ret
        refine ⟨ret_bool ?_, hb⟩
        rw [← HC.out, List.drop_eq_nil_of_le (by omega), List.drop_eq_nil_of_le (by have := HL.out; omega)]; simp [samFs]
  · have hne : ((l.length : Int) != (t.length : Int)) = true := by simp only [bne_iff_ne]; omega
    go_enter Tryz.func26, Tryz.ntmps26
    go_wp2_with fail
    go_ret
    exact ⟨ret_bool (by rw [samFs_len hle]), Below.refl _ w⟩
end Go.Proofs.YtbpemackmadhgaaGreatDoor

/- tree.Same: are two programs the same? -/
namespace Go.Proofs.YtbpemackmadhgaaGreatDoor
open Go.RowKit

def samPr (p q : Pr) : Bool := samI p.widen q.widen && samFs p.funcs q.funcs
theorem Pr.In.thr {w : World} {p : Pr} (h : p.In w) : Thr w p.wa p.wc p.widen := ⟨h.1, h.2.1, h.2.2.2.1⟩
theorem Pr.In.haveF {w : World} {p : Pr} (h : p.In w) : HaveF w p.fa p.fc p.funcs := by
  obtain ⟨_, _, _, _, _, h6, h7, _, h9, h10⟩ := h
  exact ⟨⟨h6, h7, h9⟩, h10⟩
set_option maxRecDepth 100000 in
set_option maxHeartbeats 4000000 in
theorem same_any (p q : Pr) (w : World) (hx : p.In w) (hy : q.In w) : Calls Tryz.prog 11 #[p.val, q.val] w fun e w' => e = .returned (.bool (samPr p q)) ∧ Below w.heap.size w w' := by
  have hb1 := ((Below.refl _ w).alloc (Nat.le_refl _) (.cells #[.slice p.wa p.widen.length p.wc, .slice p.fa p.funcs.length p.fc] 25)).alloc (by simp) (.cells #[.slice q.wa q.widen.length q.wc, .slice q.fa q.funcs.length q.fc] 25)
  have HP : Hid (∀ w', Below w.heap.size w w' → Calls Tryz.prog 25 #[.slice p.wa p.widen.length p.wc, .slice q.wa q.widen.length q.wc] w' fun e w'' => e = .returned (.bool (samI p.widen q.widen)) ∧ Below w'.heap.size w' w'') := fun w' hb => equalI_any _ _ _ _ _ _ w' (hx.stay hb).thr (hy.stay hb).thr
  have HS : Hid (∀ w', Below w.heap.size w w' → Calls Tryz.prog 26 #[.slice p.fa p.funcs.length p.fc, .slice q.fa q.funcs.length q.fc, .func (.func 27) #[] #[]] w' fun e w'' => e = .returned (.bool (samFs p.funcs q.funcs)) ∧ Below w'.heap.size w' w'') := fun w' hb => eqF_step (fun x y w hx hy => sameFn_any x y w hx hy) _ _ _ _ _ _ w' (hx.stay hb).haveF (hy.stay hb).haveF
  have HE : Hid (samPr p q = (samI p.widen q.widen && samFs p.funcs q.funcs)) := (rfl : samPr p q = _)
  clear hx hy
  generalize samPr p q = res at HE ⊢
  generalize samI p.widen q.widen = ri at HE HP
  generalize samFs p.funcs q.funcs = rf at HE HS
  unfold Pr.val
  go_enter Tryz.func11, Tryz.ntmps11
  go_wp2_with fail
  refine (HP.out _ hb1).mono ?_
  rintro e w1 ⟨rfl, k0⟩
  obtain ⟨hX, hY, _⟩ := two_cells k0
  have c1 := hX 1 _ rfl
  have d1 := hY 1 _ rfl
  have hb2 : Below w.heap.size w w1 := hb1.trans (k0.mono hb1.size)
  clear hX hY k0 hb1
  cases ri
  · go_wp2_with fail
    go_ret
    exact ⟨ret_bool (by rw [HE.out]; rfl), hb2⟩
  · go_wp2_with fail
    refine (HS.out _ hb2).mono ?_
    rintro e w2 ⟨rfl, k1⟩
    go_wp2_with fail
    go_ret
    exact ⟨ret_bool (by rw [HE.out]; rfl), hb2.trans (k1.mono hb2.size)⟩
end Go.Proofs.YtbpemackmadhgaaGreatDoor

/- A program's text gathered; tree.Print where Check finds nothing wrong. -/
namespace Go.Proofs.YtbpemackmadhgaaGreatDoor
open Go.RowKit Go.Sort

theorem oth_cell {W W' : World} {b k j : Nat} {cs : Array Value} {t : TypeId} {fz : Nat × Nat} {v : Value} (h : W.heap[k]? = some (.cells cs t fz)) (ht : t ≠ 5) (hk : k ≠ b) (ho : Oth b W W') (hv : cs[j]? = some v) : W'.cell? ⟨k, j, none⟩ = some v := by
  have := ho k _ h (by simpa using hk) (fun c fz' e => ht (by cases e; rfl))
  rw [Lib.cell_of_heap this]; exact hv
/-- line, in a world behind one in which the page lies. -/
theorem line_in {B b : Nat} {l : List UInt8} {d : Nat} {xs : List ByteArray} {W0 W : World} (h : PgT B b l d W0) (hb : Below W0.heap.size W0 W) (hB : B ≤ W0.heap.size) (hn : xs.length ≤ 1000) (hd : d ≤ 100) (hlen : (l ++ lineB d (cat xs)).length ≤ 140737488355328) :
    Calls Tryz.prog 35 #[.pointer (some ⟨b, 0, none⟩), .slice (some ⟨W.heap.size, 0, none⟩) xs.length xs.length] (W.alloc (.cells (xs.map Value.string).toArray 9)) fun e w' => e = .returned (.tuple #[]) ∧ Hid (PgT B b (l ++ lineB d (cat xs)) d w') ∧ Hid (Below B W0 w') ∧ Oth b W0 w' :=
  (line_new B b l d xs W (h.stay hb) (by have := hb.size; omega) hn hd hlen).mono fun _ _ ⟨he, hp, hb', ho⟩ => ⟨he, hp, ((hb.mono hB).alloc (by have := hb.size; omega) _).trans hb', ((oth_below hb).alloc _).trans ho⟩
theorem comB_one (l : List Int) : comB ((l.map fun x => (⟨(Lib.itoa x).toArray⟩ : ByteArray)).map (·.data.toList)) = comB (l.map Lib.itoa) := by rw [List.map_map]; rfl
theorem comB_pa (l : List Pa) : comB ((l.map fun x => (⟨(paB x).toArray⟩ : ByteArray)).map (·.data.toList)) = comB (l.map paB) := by rw [List.map_map]; rfl
theorem strs_len {α : Type} {w : World} {v : Value} {l : List α} {f : α → ByteArray} (h : Strs w v (l.map f)) : ∃ va vc, v = .slice va l.length vc ∧ Hid (Strs w (.slice va l.length vc) (l.map f)) := by
  obtain ⟨va, vc, hv, hcap, hcc⟩ := h
  have e : (l.map f).length = l.length := List.length_map ..
  rw [e] at hv
  exact ⟨va, vc, hv, ⟨va, vc, by rw [e], hcap, hcc⟩⟩

/-- What is asked of a function that is to be written. -/
def FnPr (w0 : World) (f : Fu) : Prop := (∀ s ∈ f.body, StmtD w0 2 s) ∧ (∀ q ∈ f.params, (paB q).length ≤ 100000) ∧ f.params.length ≤ 8


set_option maxRecDepth 100000 in
set_option maxHeartbeats 16000000 in
theorem program_any (w0 : World) (b : Nat) (w : World) (p : Pr) (hB : Below w0.heap.size w0 w) (hp : PgT w0.heap.size b [] 0 w) (hin : p.In w0) (hnt : NumT w0) (hw16 : p.widen.length ≤ 16) (hf : ∀ f ∈ p.funcs, FnPr w0 f) (hlen : (txP p).length ≤ 140737488355328) :
    Calls Tryz.prog 17 #[.pointer (some ⟨b, 0, none⟩), p.val] w fun e w' => e = .returned (.tuple #[]) ∧ PgT w0.heap.size b (txP p) 0 w' ∧ Below w0.heap.size w w' ∧ Oth b w w' := by
  have HB : Hid (Below w0.heap.size w0 w) := hB
  have HNT : Hid (NumT w0) := hnt
  have HF : Hid (∀ f ∈ p.funcs, FnPr w0 f) := hf
  have HP : Hid (PgT w0.heap.size b [] 0 w) := hp
  have hsw := hB.size
  have hth := hin.thr
  obtain ⟨_, _, _, _, hw64, hfl, hfc, _, hrow, hsub⟩ := hin
  have HR : Hid (RowIn w0 p.fa 3 (List.map Fu.cells p.funcs)) := hrow
  have HFS : Hid (∀ f ∈ p.funcs, f.In w0) := hsub
  have HW : Hid (Thr w0 p.wa p.wc p.widen) := hth
  have HW64 : Hid (∀ z ∈ p.widen, I64 z) := hw64
  have hblt : b < w.heap.size := by obtain ⟨q, h1⟩ := hp.some; exact h1.lt
  have HTP : Hid (txP p = txW p.widen ++ txFs p.funcs) := (rfl : txP p = _)
  have HLEN : Hid ((txW p.widen).length + (txFs p.funcs).length ≤ 140737488355328) := by show _ ≤ _; simpa [txP] using hlen
  clear hB hnt hf hp hrow hsub hth hw64 hlen
  obtain ⟨l1, hl1⟩ : ∃ l1, txW p.widen = l1 := ⟨_, rfl⟩
  rw [hl1] at HTP HLEN
  have HL1 : Hid (txW p.widen = l1) := hl1
  clear hl1
  unfold Pr.val
  by_cases hw : 0 < p.widen.length
  · have HX : Hid (lineB 0 (cat [⟨#[119, 105, 100, 101, 110, 32]⟩, ⟨(comB (p.widen.map Lib.itoa)).toArray⟩, ⟨#[59]⟩]) = l1) := by
      show _ = _; rw [← HL1.out, txW, if_neg (by omega)]; simp [cat]
    have HLX : Hid (([] ++ lineB 0 (cat [⟨#[119, 105, 100, 101, 110, 32]⟩, ⟨(comB (p.widen.map Lib.itoa)).toArray⟩, ⟨#[59]⟩])).length ≤ 140737488355328) := by
      show _ ≤ _; rw [HX.out]; have := HLEN.out; simp; omega
    have HLC : Hid ((comB (p.widen.map Lib.itoa)).length ≤ 140737488355328) := by show _ ≤ _; have := HLX.out; simp [lineB, cat] at this; omega
    have HLM : Hid ((p.widen.map fun x => (⟨(Lib.itoa x).toArray⟩ : ByteArray)).length ≤ 1000000) := by show _ ≤ _; rw [List.length_map]; omega
    have hwi : (0 : Int) < (p.widen.length : Int) := by omega
    go_enter Tryz.func17, Tryz.ntmps17
    go_wp2_with fail
    have hb0 := (Below.refl _ w).alloc (Nat.le_refl _) (.cells #[.slice p.wa p.widen.length p.wc, .slice p.fa p.funcs.length p.fc] 25)
    have hbk : (w.alloc (.cells #[.slice p.wa p.widen.length p.wc, .slice p.fa p.funcs.length p.fc] 25)).heap[w.heap.size]? = some (.cells #[.slice p.wa p.widen.length p.wc, .slice p.fa p.funcs.length p.fc] 25 (0, 0)) := heap_alloc_new w _
    have hbw : Below w0.heap.size w0 _ := HB.out.trans (hb0.mono hsw)
    refine (eachint64_any p.widen p.wa p.wc _ (by omega) (HW.out.2.2.below hbw) (fun x hx w'' hb' => number_any x w'' (HW64.out x hx) ((HNT.out.stay hbw).stay hb'))).mono ?_
    rintro e w1 ⟨v, rfl, hs, hb1⟩
    obtain ⟨va, vc, rfl, hs'⟩ := strs_len hs
    have HBK : Hid (w1.heap[w.heap.size]? = some (.cells #[.slice p.wa p.widen.length p.wc, .slice p.fa p.funcs.length p.fc] 25 (0, 0))) := (hb1.block w.heap.size (by simp)).trans hbk
    have hb2 := Below.on hb0 hb1
    clear hs hbk hb1
    go_wp2_with fail
    refine (commas_of hs'.out (comB_one p.widen) HLM.out HLC.out).mono ?_
    rintro e w2 ⟨rfl, hb3⟩
    have HBK2 : Hid (w2.heap[w.heap.size]? = some (.cells #[.slice p.wa p.widen.length p.wc, .slice p.fa p.funcs.length p.fc] 25 (0, 0))) := (hb3.block w.heap.size (Array.getElem?_eq_some_iff.1 HBK.out).1).trans HBK.out
    have hb4 := Below.on hb2 hb3
    clear hs' hb3
    go_wp2_with fail
    refine (line_in (W0 := w2) (xs := [⟨#[119, 105, 100, 101, 110, 32]⟩, ⟨(comB (p.widen.map Lib.itoa)).toArray⟩, ⟨#[59]⟩]) (HP.out.stay hb4) (Below.refl _ _) (by have := hb4.size; omega) (Nat.le_of_ble_eq_true rfl) (by decide) HLX.out).mono ?_
    rintro e w3 ⟨rfl, hp3, hb5, ho3⟩
    have HPG : Hid (PgT w0.heap.size b l1 0 w3) := by show PgT _ _ _ _ _; have := hp3.out; rw [HX.out] at this; simpa using this
    have hb1 : Below w0.heap.size w w3 := (hb4.mono hsw).trans hb5.out
    have hoA : Oth b w w3 := (oth_below hb4).trans ho3
    have c1 : w3.cell? ⟨w.heap.size, 1, none⟩ = some (.slice p.fa p.funcs.length p.fc) := oth_cell HBK2.out (by decide) (by omega) ho3 rfl
    clear hp3 hb5 ho3 hb0 hb2 hb4 hbw
    go_wp2_with fail
    go_loopw [20] (fun t20 wr => ∃ (j : Nat), j ≤ p.funcs.length ∧ t20 = .int .i64 j ∧ Hid (PgT w0.heap.size b (l1 ++ txFs (p.funcs.take j)) 0 wr) ∧ Below w0.heap.size w wr ∧ Oth b w wr) (fun t20 _ => p.funcs.length - (intOf t20).toNat)
    case atStart => exact ⟨0, Nat.zero_le _, rfl, by show PgT _ _ _ _ _; simpa [txFs] using HPG.out, hb1, hoA⟩
    case round =>
      obtain ⟨j, hj, rfl, HPJ, hbj, hoj⟩ := hrel
      clear HPG hb1 c1 hoA
      have hwj := hbj.size
      have hbj0 : Below w0.heap.size w0 wr := HB.out.trans hbj
      by_cases hlt : j < p.funcs.length
      · obtain ⟨rb, o, hfa, k0, k1, k2⟩ := rowF_at (HR.out.below hbj0) hlt
        rw [hfa]
        have hli : (j : Int) < (p.funcs.length : Int) := by omega
        have HT : Hid (txFs (p.funcs.take (j + 1)) = txFs (p.funcs.take j) ++ txF p.funcs[j]) := txFs_take p.funcs j hlt
        have HLE : Hid ((txFs (p.funcs.take (j + 1))).length ≤ (txFs p.funcs).length) := txFs_le p.funcs (j + 1)
        have HFN : Hid (FnPr w0 p.funcs[j]) := HF.out p.funcs[j] (List.getElem_mem hlt)
        have HFI : Hid (p.funcs[j].In w0) := HFS.out p.funcs[j] (List.getElem_mem hlt)
        generalize p.funcs[j] = f at *
        have hblt : b < wr.heap.size := by obtain ⟨q, h1⟩ := HPJ.out.some; exact h1.lt
        have HLF : Hid ((l1 ++ txFs (p.funcs.take j)).length + (txF f).length ≤ 140737488355328) := by
          show _ ≤ _; have := HLE.out; have := HLEN.out; rw [HT.out] at *; simp only [List.length_append] at *; omega
        have HTF : Hid (txF f = lineB 0 (cat [⟨#[102, 110, 32]⟩, f.name, ⟨#[40]⟩, ⟨(comB (f.params.map paB)).toArray⟩, ⟨#[41, 32, 123]⟩]) ++ txSs f.body 1 ++ lineB 0 (cat [⟨#[125]⟩])) := by show _ = _; simp [txF, cat]
        obtain ⟨lj, HLJ⟩ : ∃ lj, l1 ++ txFs (p.funcs.take j) = lj := ⟨_, rfl⟩
        rw [HLJ] at HPJ HLF
        have HLJH : Hid (l1 ++ txFs (p.funcs.take j) = lj) := HLJ
        clear HLJ
        go_wp2_with fail
        obtain ⟨W0, hW0⟩ : ∃ W0, wr.alloc (.cells #[.string f.name, .slice f.pa f.params.length f.pc, .slice f.ba f.body.length f.bc] 45) = W0 := ⟨_, rfl⟩
        have hbx : Below wr.heap.size wr W0 := by rw [← hW0]; exact (Below.refl _ wr).alloc (Nat.le_refl _) _
        have hbk : W0.heap[wr.heap.size]? = some (.cells #[.string f.name, .slice f.pa f.params.length f.pc, .slice f.ba f.body.length f.bc] 45 (0, 0)) := by rw [← hW0]; exact heap_alloc_new wr _
        rw [hW0]
        have HBX : Hid (Below w0.heap.size w W0) := hbj.trans (hbx.mono (by omega))
        have HOX : Hid (Oth b w W0) := hoj.trans (oth_below hbx)
        have HPX : Hid (PgT w0.heap.size b lj 0 W0) := HPJ.out.stay hbx
        have hsx : w0.heap.size ≤ W0.heap.size := by have := hbx.size; omega
        have hne : wr.heap.size ≠ b := by omega
        have y0 : ∀ w', Oth b W0 w' → w'.cell? ⟨wr.heap.size, 0, none⟩ = some (.string f.name) := fun w' ho => oth_cell hbk (by decide) hne ho rfl
        have y1 : ∀ w', Oth b W0 w' → w'.cell? ⟨wr.heap.size, 1, none⟩ = some (.slice f.pa f.params.length f.pc) := fun w' ho => oth_cell hbk (by decide) hne ho rfl
        have HY2 : Hid (∀ w', Oth b W0 w' → w'.cell? ⟨wr.heap.size, 2, none⟩ = some (.slice f.ba f.body.length f.bc)) := fun w' ho => oth_cell hbk (by decide) hne ho rfl
        have hdrew : Below W0.heap.size W0 W0.drew := Below.drew (Below.refl _ _)
        have HEA : Hid (∀ w', Below W0.heap.size W0 w' → Calls Tryz.prog 39 #[.slice f.pa f.params.length f.pc, .func (.func 40) #[] #[]] w' fun e w'' => ∃ va vc, e = .returned (.slice va f.params.length vc) ∧ Hid (Strs w'' (.slice va f.params.length vc) (f.params.map fun x => ⟨(paB x).toArray⟩)) ∧ Below w'.heap.size w' w'') := fun w' hb => by
          have hbw : Below w0.heap.size w0 w' := (HB.out.trans HBX.out).trans (hb.mono hsx)
          obtain ⟨_, _, _, _, hpr, hpo, _⟩ := HFI.out
          refine (eachParam_any f.params f.pa f.pc w' (by have := HFN.out.2.2; omega) (hpr.below hbw) (fun x hx w'' hb' => param_any x w'' (hpo x hx) ((HNT.out.stay hbw).stay hb') (HFN.out.2.1 x hx))).mono fun e w'' ⟨v, he, hs, hb'⟩ => ?_
          obtain ⟨va, vc, rfl, hs'⟩ := strs_len hs
          exact ⟨va, vc, he, hs', hb'⟩
        have HLM : Hid ((f.params.map fun x => (⟨(paB x).toArray⟩ : ByteArray)).length ≤ 1000000) := by show _ ≤ _; rw [List.length_map]; have := HFN.out.2.2; omega
        have HL1 : Hid ((lj ++ lineB 0 (cat [⟨#[102, 110, 32]⟩, f.name, ⟨#[40]⟩, ⟨(comB (f.params.map paB)).toArray⟩, ⟨#[41, 32, 123]⟩])).length ≤ 140737488355328) := by
          show _ ≤ _; have := HLF.out; rw [HTF.out] at this; simp only [List.length_append] at *; omega
        have HL0 : Hid ((comB (f.params.map paB)).length ≤ 140737488355328) := by
          show _ ≤ _; have := HL1.out; simp [lineB, cat] at this; omega
        clear hW0 hbx hbk k0 k1 k2
        go_region_held3 (fun w' => Oth b W0 w') (first | exact oth_below (by assumption) | exact Lib.OthersKept.trans (by assumption) (oth_below (by assumption)) | exact Lib.OthersKept.alloc (by assumption) _ | assumption)
          (first
            | (go_at_call 39; refine (HEA.out _ (by assumption)).mono ?_; rintro e w' ⟨va, vc, rfl, hs, hb⟩; have hB : Below W0.heap.size W0 w' := Below.on (by assumption) hb)
            | (go_at_call 36; refine (commas_of hs.out (comB_pa f.params) HLM.out HL0.out).mono ?_; rintro e w' ⟨rfl, hb⟩; have hB : Below W0.heap.size W0 w' := Below.on (by assumption) hb)
            | (go_at_call 35; refine (line_in (xs := [⟨#[102, 110, 32]⟩, f.name, ⟨#[40]⟩, ⟨(comB (f.params.map paB)).toArray⟩, ⟨#[41, 32, 123]⟩]) HPX.out (by assumption) hsx (Nat.le_of_ble_eq_true rfl) (by decide) HL1.out).mono ?_; rintro e w' ⟨rfl, hpl, hbl, hol⟩))
        have y2 := HY2.out _ hol
        have HL2 : Hid (((lj ++ lineB 0 (cat [⟨#[102, 110, 32]⟩, f.name, ⟨#[40]⟩, ⟨(comB (f.params.map paB)).toArray⟩, ⟨#[41, 32, 123]⟩])) ++ txSs f.body (0 + 1)).length ≤ 140737488355328) := by
          show _ ≤ _; have := HLF.out; rw [HTF.out] at this; simp only [List.length_append, Nat.zero_add] at *; omega
        have HBL : Hid (Below w0.heap.size w0 w') := (HB.out.trans HBX.out).trans hbl.out
        clear y0 y1 hs
        go_wp2_with fail
        refine (bodyD w0 2 b _ 0 f.body f.ba f.bc w' HBL.out hpl.out (by omega) (by omega) HFI.out.2.2.2.2.2.2 HFN.out.1 HL2.out).mono ?_
        rintro e w2 ⟨rfl, hp2, hb2, ho2⟩
        have HP2 : Hid (PgT w0.heap.size b ((lj ++ lineB 0 (cat [⟨#[102, 110, 32]⟩, f.name, ⟨#[40]⟩, ⟨(comB (f.params.map paB)).toArray⟩, ⟨#[41, 32, 123]⟩])) ++ txSs f.body (0 + 1)) 0 w2) := hp2
        have hs2 : w0.heap.size ≤ w2.heap.size := (HBL.out.trans hb2).size
        have HL3 : Hid ((((lj ++ lineB 0 (cat [⟨#[102, 110, 32]⟩, f.name, ⟨#[40]⟩, ⟨(comB (f.params.map paB)).toArray⟩, ⟨#[41, 32, 123]⟩])) ++ txSs f.body (0 + 1)) ++ lineB 0 (cat [⟨#[125]⟩])).length ≤ 140737488355328) := by
          show _ ≤ _; have := HLF.out; rw [HTF.out] at this; simp only [List.length_append, Nat.zero_add] at *; omega
        clear hp2 y2
        go_wp2_with fail
        refine (line_new w0.heap.size b _ 0 [⟨#[125]⟩] w2 HP2.out hs2 (Nat.le_of_ble_eq_true rfl) (by decide) HL3.out).mono ?_
        rintro e w3 ⟨rfl, hp3, hb3, ho3⟩
        have HP3 : Hid (PgT w0.heap.size b (lj ++ txF f) 0 w3) := by
          show PgT _ _ _ _ _; rw [HTF.out, ← List.append_assoc, ← List.append_assoc]; exact hp3
        have hb4 : Below w0.heap.size w w3 := ((HBX.out.trans hbl.out).trans hb2).trans (((Below.refl _ w2).alloc hs2 _).trans hb3)
        have ho4 : Oth b w w3 := ((HOX.out.trans hol).trans ho2).trans (((Lib.OthersKept.refl _ _ w2).alloc _).trans ho3)
        clear hp3
        go_wp2_with fail
        go_roundw
        case rel => exact ⟨j + 1, by omega, by go_num, by show PgT _ _ _ _ _; rw [HT.out, ← List.append_assoc, HLJH.out]; exact HP3.out, hb4, ho4⟩
        case measure => simp [intOf]; omega
      · obtain rfl : j = p.funcs.length := by omega
        go_wp2_with fail
        go_end0
        refine ⟨rfl, ?_, hbj, hoj⟩
        have := HPJ.out
        rw [List.take_length] at this
        rw [HTP.out]; exact this
  · have HX : Hid (l1 = []) := by show _ = _; rw [← HL1.out, txW, if_pos (by omega)]
    have hwi : ¬ (0 : Int) < (p.widen.length : Int) := by omega
    have hb0 := (Below.refl _ w).alloc (Nat.le_refl _) (.cells #[.slice p.wa p.widen.length p.wc, .slice p.fa p.funcs.length p.fc] 25)
    have HPG : Hid (PgT w0.heap.size b l1 0 (w.alloc (.cells #[.slice p.wa p.widen.length p.wc, .slice p.fa p.funcs.length p.fc] 25))) := by show PgT _ _ _ _ _; rw [HX.out]; exact HP.out.stay hb0
    have hb1 : Below w0.heap.size w _ := hb0.mono hsw
    have hoA : Oth b w _ := oth_below hb0
    go_enter Tryz.func17, Tryz.ntmps17
    go_wp2_with fail
    go_loopw [20] (fun t20 wr => ∃ (j : Nat), j ≤ p.funcs.length ∧ t20 = .int .i64 j ∧ Hid (PgT w0.heap.size b (l1 ++ txFs (p.funcs.take j)) 0 wr) ∧ Below w0.heap.size w wr ∧ Oth b w wr) (fun t20 _ => p.funcs.length - (intOf t20).toNat)
    case atStart => exact ⟨0, Nat.zero_le _, rfl, by show PgT _ _ _ _ _; simpa [txFs] using HPG.out, hb1, hoA⟩
    case round =>
      obtain ⟨j, hj, rfl, HPJ, hbj, hoj⟩ := hrel
      clear HPG hb1 hb0 hoA
      have hwj := hbj.size
      have hbj0 : Below w0.heap.size w0 wr := HB.out.trans hbj
      by_cases hlt : j < p.funcs.length
      · obtain ⟨rb, o, hfa, k0, k1, k2⟩ := rowF_at (HR.out.below hbj0) hlt
        rw [hfa]
        have hli : (j : Int) < (p.funcs.length : Int) := by omega
        have HT : Hid (txFs (p.funcs.take (j + 1)) = txFs (p.funcs.take j) ++ txF p.funcs[j]) := txFs_take p.funcs j hlt
        have HLE : Hid ((txFs (p.funcs.take (j + 1))).length ≤ (txFs p.funcs).length) := txFs_le p.funcs (j + 1)
        have HFN : Hid (FnPr w0 p.funcs[j]) := HF.out p.funcs[j] (List.getElem_mem hlt)
        have HFI : Hid (p.funcs[j].In w0) := HFS.out p.funcs[j] (List.getElem_mem hlt)
        generalize p.funcs[j] = f at *
        have hblt : b < wr.heap.size := by obtain ⟨q, h1⟩ := HPJ.out.some; exact h1.lt
        have HLF : Hid ((l1 ++ txFs (p.funcs.take j)).length + (txF f).length ≤ 140737488355328) := by
          show _ ≤ _; have := HLE.out; have := HLEN.out; rw [HT.out] at *; simp only [List.length_append] at *; omega
        have HTF : Hid (txF f = lineB 0 (cat [⟨#[102, 110, 32]⟩, f.name, ⟨#[40]⟩, ⟨(comB (f.params.map paB)).toArray⟩, ⟨#[41, 32, 123]⟩]) ++ txSs f.body 1 ++ lineB 0 (cat [⟨#[125]⟩])) := by show _ = _; simp [txF, cat]
        obtain ⟨lj, HLJ⟩ : ∃ lj, l1 ++ txFs (p.funcs.take j) = lj := ⟨_, rfl⟩
        rw [HLJ] at HPJ HLF
        have HLJH : Hid (l1 ++ txFs (p.funcs.take j) = lj) := HLJ
        clear HLJ
        go_wp2_with fail
        obtain ⟨W0, hW0⟩ : ∃ W0, wr.alloc (.cells #[.string f.name, .slice f.pa f.params.length f.pc, .slice f.ba f.body.length f.bc] 45) = W0 := ⟨_, rfl⟩
        have hbx : Below wr.heap.size wr W0 := by rw [← hW0]; exact (Below.refl _ wr).alloc (Nat.le_refl _) _
        have hbk : W0.heap[wr.heap.size]? = some (.cells #[.string f.name, .slice f.pa f.params.length f.pc, .slice f.ba f.body.length f.bc] 45 (0, 0)) := by rw [← hW0]; exact heap_alloc_new wr _
        rw [hW0]
        have HBX : Hid (Below w0.heap.size w W0) := hbj.trans (hbx.mono (by omega))
        have HOX : Hid (Oth b w W0) := hoj.trans (oth_below hbx)
        have HPX : Hid (PgT w0.heap.size b lj 0 W0) := HPJ.out.stay hbx
        have hsx : w0.heap.size ≤ W0.heap.size := by have := hbx.size; omega
        have hne : wr.heap.size ≠ b := by omega
        have y0 : ∀ w', Oth b W0 w' → w'.cell? ⟨wr.heap.size, 0, none⟩ = some (.string f.name) := fun w' ho => oth_cell hbk (by decide) hne ho rfl
        have y1 : ∀ w', Oth b W0 w' → w'.cell? ⟨wr.heap.size, 1, none⟩ = some (.slice f.pa f.params.length f.pc) := fun w' ho => oth_cell hbk (by decide) hne ho rfl
        have HY2 : Hid (∀ w', Oth b W0 w' → w'.cell? ⟨wr.heap.size, 2, none⟩ = some (.slice f.ba f.body.length f.bc)) := fun w' ho => oth_cell hbk (by decide) hne ho rfl
        have hdrew : Below W0.heap.size W0 W0.drew := Below.drew (Below.refl _ _)
        have HEA : Hid (∀ w', Below W0.heap.size W0 w' → Calls Tryz.prog 39 #[.slice f.pa f.params.length f.pc, .func (.func 40) #[] #[]] w' fun e w'' => ∃ va vc, e = .returned (.slice va f.params.length vc) ∧ Hid (Strs w'' (.slice va f.params.length vc) (f.params.map fun x => ⟨(paB x).toArray⟩)) ∧ Below w'.heap.size w' w'') := fun w' hb => by
          have hbw : Below w0.heap.size w0 w' := (HB.out.trans HBX.out).trans (hb.mono hsx)
          obtain ⟨_, _, _, _, hpr, hpo, _⟩ := HFI.out
          refine (eachParam_any f.params f.pa f.pc w' (by have := HFN.out.2.2; omega) (hpr.below hbw) (fun x hx w'' hb' => param_any x w'' (hpo x hx) ((HNT.out.stay hbw).stay hb') (HFN.out.2.1 x hx))).mono fun e w'' ⟨v, he, hs, hb'⟩ => ?_
          obtain ⟨va, vc, rfl, hs'⟩ := strs_len hs
          exact ⟨va, vc, he, hs', hb'⟩
        have HLM : Hid ((f.params.map fun x => (⟨(paB x).toArray⟩ : ByteArray)).length ≤ 1000000) := by show _ ≤ _; rw [List.length_map]; have := HFN.out.2.2; omega
        have HL1 : Hid ((lj ++ lineB 0 (cat [⟨#[102, 110, 32]⟩, f.name, ⟨#[40]⟩, ⟨(comB (f.params.map paB)).toArray⟩, ⟨#[41, 32, 123]⟩])).length ≤ 140737488355328) := by
          show _ ≤ _; have := HLF.out; rw [HTF.out] at this; simp only [List.length_append] at *; omega
        have HL0 : Hid ((comB (f.params.map paB)).length ≤ 140737488355328) := by
          show _ ≤ _; have := HL1.out; simp [lineB, cat] at this; omega
        clear hW0 hbx hbk k0 k1 k2
        go_region_held3 (fun w' => Oth b W0 w') (first | exact oth_below (by assumption) | exact Lib.OthersKept.trans (by assumption) (oth_below (by assumption)) | exact Lib.OthersKept.alloc (by assumption) _ | assumption)
          (first
            | (go_at_call 39; refine (HEA.out _ (by assumption)).mono ?_; rintro e w' ⟨va, vc, rfl, hs, hb⟩; have hB : Below W0.heap.size W0 w' := Below.on (by assumption) hb)
            | (go_at_call 36; refine (commas_of hs.out (comB_pa f.params) HLM.out HL0.out).mono ?_; rintro e w' ⟨rfl, hb⟩; have hB : Below W0.heap.size W0 w' := Below.on (by assumption) hb)
            | (go_at_call 35; refine (line_in (xs := [⟨#[102, 110, 32]⟩, f.name, ⟨#[40]⟩, ⟨(comB (f.params.map paB)).toArray⟩, ⟨#[41, 32, 123]⟩]) HPX.out (by assumption) hsx (Nat.le_of_ble_eq_true rfl) (by decide) HL1.out).mono ?_; rintro e w' ⟨rfl, hpl, hbl, hol⟩))
        have y2 := HY2.out _ hol
        have HL2 : Hid (((lj ++ lineB 0 (cat [⟨#[102, 110, 32]⟩, f.name, ⟨#[40]⟩, ⟨(comB (f.params.map paB)).toArray⟩, ⟨#[41, 32, 123]⟩])) ++ txSs f.body (0 + 1)).length ≤ 140737488355328) := by
          show _ ≤ _; have := HLF.out; rw [HTF.out] at this; simp only [List.length_append, Nat.zero_add] at *; omega
        have HBL : Hid (Below w0.heap.size w0 w') := (HB.out.trans HBX.out).trans hbl.out
        clear y0 y1 hs
        go_wp2_with fail
        refine (bodyD w0 2 b _ 0 f.body f.ba f.bc w' HBL.out hpl.out (by omega) (by omega) HFI.out.2.2.2.2.2.2 HFN.out.1 HL2.out).mono ?_
        rintro e w2 ⟨rfl, hp2, hb2, ho2⟩
        have HP2 : Hid (PgT w0.heap.size b ((lj ++ lineB 0 (cat [⟨#[102, 110, 32]⟩, f.name, ⟨#[40]⟩, ⟨(comB (f.params.map paB)).toArray⟩, ⟨#[41, 32, 123]⟩])) ++ txSs f.body (0 + 1)) 0 w2) := hp2
        have hs2 : w0.heap.size ≤ w2.heap.size := (HBL.out.trans hb2).size
        have HL3 : Hid ((((lj ++ lineB 0 (cat [⟨#[102, 110, 32]⟩, f.name, ⟨#[40]⟩, ⟨(comB (f.params.map paB)).toArray⟩, ⟨#[41, 32, 123]⟩])) ++ txSs f.body (0 + 1)) ++ lineB 0 (cat [⟨#[125]⟩])).length ≤ 140737488355328) := by
          show _ ≤ _; have := HLF.out; rw [HTF.out] at this; simp only [List.length_append, Nat.zero_add] at *; omega
        clear hp2 y2
        go_wp2_with fail
        refine (line_new w0.heap.size b _ 0 [⟨#[125]⟩] w2 HP2.out hs2 (Nat.le_of_ble_eq_true rfl) (by decide) HL3.out).mono ?_
        rintro e w3 ⟨rfl, hp3, hb3, ho3⟩
        have HP3 : Hid (PgT w0.heap.size b (lj ++ txF f) 0 w3) := by
          show PgT _ _ _ _ _; rw [HTF.out, ← List.append_assoc, ← List.append_assoc]; exact hp3
        have hb4 : Below w0.heap.size w w3 := ((HBX.out.trans hbl.out).trans hb2).trans (((Below.refl _ w2).alloc hs2 _).trans hb3)
        have ho4 : Oth b w w3 := ((HOX.out.trans hol).trans ho2).trans (((Lib.OthersKept.refl _ _ w2).alloc _).trans ho3)
        clear hp3
        go_wp2_with fail
        go_roundw
        case rel => exact ⟨j + 1, by omega, by go_num, by show PgT _ _ _ _ _; rw [HT.out, ← List.append_assoc, HLJH.out]; exact HP3.out, hb4, ho4⟩
        case measure => simp [intOf]; omega
      · obtain rfl : j = p.funcs.length := by omega
        go_wp2_with fail
        go_end0
        refine ⟨rfl, ?_, hbj, hoj⟩
        have := HPJ.out
        rw [List.take_length] at this
        rw [HTP.out]; exact this
end Go.Proofs.YtbpemackmadhgaaGreatDoor

/- page.stmt at its other kinds: those of one line, and loops. -/
namespace Go.Proofs.YtbpemackmadhgaaGreatDoor
open Go.RowKit Go.Sort

set_option maxRecDepth 100000 in
set_option maxHeartbeats 8000000 in
theorem stmt1 (w0 : World) (s : St) (hk : s.kind = 1) (hin : s.In w0) (ht : Tabs w0) (hnt : NumT w0) (hoa : OkE s.a) (hza : s.a.sz ≤ 1000000) : StmtPr w0 s := by
  intro b l d w hB hp hd hlen
  have HT : Hid (lineB d (cat [⟨#[108, 101, 116, 32]⟩, s.name, ⟨#[32, 61, 32]⟩, ⟨(txE s.a).toArray⟩, ⟨#[59]⟩]) = txS s d) := by
    show _ = _; cases s; simp only [St.kind] at hk; subst hk; simp [txS, cat, St.a, St.name]
  rw [← HT.out] at hlen ⊢
  have HLEN : Hid ((l ++ lineB d (cat [⟨#[108, 101, 116, 32]⟩, s.name, ⟨#[32, 61, 32]⟩, ⟨(txE s.a).toArray⟩, ⟨#[59]⟩])).length ≤ 140737488355328) := hlen
  obtain ⟨W0, hW0⟩ : ∃ W0, w.alloc (.cells #[.int .i64 1, .string s.name, .int .i64 s.n, .int .i64 s.a.kind, .int .i64 s.a.n, .string s.a.name, .slice s.a.a s.a.args.length s.a.cap, .int .i64 s.b.kind, .int .i64 s.b.n, .string s.b.name, .slice s.b.a s.b.args.length s.b.cap, .slice s.ba s.body.length s.bc, .slice s.ea s.els.length s.ec, .slice s.ca s.cases.length s.cc] 43) = W0 := ⟨_, rfl⟩
  have hbx : Below w.heap.size w W0 := by rw [← hW0]; exact (Below.refl _ w).alloc (Nat.le_refl _) _
  have hbk : W0.heap[w.heap.size]? = some (.cells #[.int .i64 1, .string s.name, .int .i64 s.n, .int .i64 s.a.kind, .int .i64 s.a.n, .string s.a.name, .slice s.a.a s.a.args.length s.a.cap, .int .i64 s.b.kind, .int .i64 s.b.n, .string s.b.name, .slice s.b.a s.b.args.length s.b.cap, .slice s.ba s.body.length s.bc, .slice s.ea s.els.length s.ec, .slice s.ca s.cases.length s.cc] 43 (0, 0)) := by rw [← hW0]; exact heap_alloc_new w _
  have hsw := hB.size
  have hB0 : Below w0.heap.size w0 W0 := hB.trans (hbx.mono hsw)
  have hsx : w0.heap.size ≤ W0.heap.size := hB0.size
  have hblt : b < w.heap.size := by obtain ⟨q, h1⟩ := hp.some; exact h1.lt
  have hne : w.heap.size ≠ b := by omega
  have HPX : Hid (PgT w0.heap.size b l d W0) := hp.stay hbx
  have HOX : Hid (Oth b w W0) := oth_below hbx
  have HBX : Hid (Below w0.heap.size w W0) := hbx.mono hsw
  have HXA : Hid (∀ w', Below W0.heap.size W0 w' → Calls Tryz.prog 88 #[.agg #[.int .i64 s.a.kind, .int .i64 s.a.n, .string s.a.name, .slice s.a.a s.a.args.length s.a.cap]] w' fun e w'' => e = .returned (sB (txE s.a)) ∧ Below w'.heap.size w' w'') := fun w' h => expr_any s.a w' ((St.in_iff.1 hin).2.2.2.1.stay (hB0.trans (h.mono hsx))) (ht.stay (hB0.trans (h.mono hsx))) (hnt.stay (hB0.trans (h.mono hsx))) hoa hza
  have y1 : ∀ w', Oth b W0 w' → w'.cell? ⟨w.heap.size, 1, none⟩ = some (.string s.name) := fun w' ho => oth_cell hbk (by decide) hne ho rfl
  have y3 : ∀ w', Oth b W0 w' → w'.cell? ⟨w.heap.size, 3, none⟩ = some (.int .i64 s.a.kind) := fun w' ho => oth_cell hbk (by decide) hne ho rfl
  have y4 : ∀ w', Oth b W0 w' → w'.cell? ⟨w.heap.size, 4, none⟩ = some (.int .i64 s.a.n) := fun w' ho => oth_cell hbk (by decide) hne ho rfl
  have y5 : ∀ w', Oth b W0 w' → w'.cell? ⟨w.heap.size, 5, none⟩ = some (.string s.a.name) := fun w' ho => oth_cell hbk (by decide) hne ho rfl
  have y6 : ∀ w', Oth b W0 w' → w'.cell? ⟨w.heap.size, 6, none⟩ = some (.slice s.a.a s.a.args.length s.a.cap) := fun w' ho => oth_cell hbk (by decide) hne ho rfl
  have HW0 := show Hid _ from hW0
  have hdrew : Below W0.heap.size W0 W0.drew := Below.drew (Below.refl _ _)
  clear hW0 hin ht hnt hp hlen hbx hbk hblt hB0 hB hoa hza
  unfold St.val
  rw [hk]
  go_enter Tryz.func62, Tryz.ntmps62
  go_wp2_with fail
  rw [HW0.out]
  clear HW0
  go_region_held3 (fun w' => Oth b W0 w') (first | exact oth_below (by assumption) | exact Lib.OthersKept.trans (by assumption) (oth_below (by assumption)) | exact Lib.OthersKept.alloc (by assumption) _ | assumption)
    (first
      | (go_at_call_of 88 (s.a.kind); refine (HXA.out _ (by assumption)).mono ?_; rintro e w' ⟨rfl, hb⟩; have hB : Below W0.heap.size W0 w' := Below.on (by assumption) hb)
      | (go_at_call 35; refine (line_in (xs := [⟨#[108, 101, 116, 32]⟩, s.name, ⟨#[32, 61, 32]⟩, ⟨(txE s.a).toArray⟩, ⟨#[59]⟩]) HPX.out (by assumption) hsx (Nat.le_of_ble_eq_true rfl) (by omega) HLEN.out).mono ?_; rintro e w' ⟨rfl, hpl, hbl, hol⟩))
  all_goals go_wp2_with fail
  all_goals go_end0
  all_goals exact ⟨rfl, hpl.out, HBX.out.trans hbl.out, HOX.out.trans hol⟩
end Go.Proofs.YtbpemackmadhgaaGreatDoor

/- page.stmt at its other kinds: those of one line, and loops. -/
namespace Go.Proofs.YtbpemackmadhgaaGreatDoor
open Go.RowKit Go.Sort

set_option maxRecDepth 100000 in
set_option maxHeartbeats 8000000 in
theorem stmt2 (w0 : World) (s : St) (hk : s.kind = 2) (hin : s.In w0) (hnt : NumT w0) : StmtPr w0 s := by
  intro b l d w hB hp hd hlen
  have HT : Hid (lineB d (cat [⟨#[108, 101, 116, 32]⟩, s.name, ⟨#[91]⟩, ⟨(Lib.itoa s.n).toArray⟩, ⟨#[93, 59]⟩]) = txS s d) := by
    show _ = _; cases s; simp only [St.kind] at hk; subst hk; simp [txS, cat, St.n, St.name]
  rw [← HT.out] at hlen ⊢
  have HLEN : Hid ((l ++ lineB d (cat [⟨#[108, 101, 116, 32]⟩, s.name, ⟨#[91]⟩, ⟨(Lib.itoa s.n).toArray⟩, ⟨#[93, 59]⟩])).length ≤ 140737488355328) := hlen
  obtain ⟨W0, hW0⟩ : ∃ W0, w.alloc (.cells #[.int .i64 2, .string s.name, .int .i64 s.n, .int .i64 s.a.kind, .int .i64 s.a.n, .string s.a.name, .slice s.a.a s.a.args.length s.a.cap, .int .i64 s.b.kind, .int .i64 s.b.n, .string s.b.name, .slice s.b.a s.b.args.length s.b.cap, .slice s.ba s.body.length s.bc, .slice s.ea s.els.length s.ec, .slice s.ca s.cases.length s.cc] 43) = W0 := ⟨_, rfl⟩
  have hbx : Below w.heap.size w W0 := by rw [← hW0]; exact (Below.refl _ w).alloc (Nat.le_refl _) _
  have hbk : W0.heap[w.heap.size]? = some (.cells #[.int .i64 2, .string s.name, .int .i64 s.n, .int .i64 s.a.kind, .int .i64 s.a.n, .string s.a.name, .slice s.a.a s.a.args.length s.a.cap, .int .i64 s.b.kind, .int .i64 s.b.n, .string s.b.name, .slice s.b.a s.b.args.length s.b.cap, .slice s.ba s.body.length s.bc, .slice s.ea s.els.length s.ec, .slice s.ca s.cases.length s.cc] 43 (0, 0)) := by rw [← hW0]; exact heap_alloc_new w _
  have hsw := hB.size
  have hB0 : Below w0.heap.size w0 W0 := hB.trans (hbx.mono hsw)
  have hsx : w0.heap.size ≤ W0.heap.size := hB0.size
  have hblt : b < w.heap.size := by obtain ⟨q, h1⟩ := hp.some; exact h1.lt
  have hne : w.heap.size ≠ b := by omega
  have HPX : Hid (PgT w0.heap.size b l d W0) := hp.stay hbx
  have HOX : Hid (Oth b w W0) := oth_below hbx
  have HBX : Hid (Below w0.heap.size w W0) := hbx.mono hsw
  have HXN : Hid (∀ w', Below W0.heap.size W0 w' → Calls Tryz.prog 38 #[.int .i64 s.n] w' fun e w'' => e = .returned (sB (Lib.itoa s.n)) ∧ Below w'.heap.size w' w'') := fun w' h => number_any s.n w' (St.in_iff.1 hin).2.2.1 (hnt.stay (hB0.trans (h.mono hsx)))
  have y1 : ∀ w', Oth b W0 w' → w'.cell? ⟨w.heap.size, 1, none⟩ = some (.string s.name) := fun w' ho => oth_cell hbk (by decide) hne ho rfl
  have y2 : ∀ w', Oth b W0 w' → w'.cell? ⟨w.heap.size, 2, none⟩ = some (.int .i64 s.n) := fun w' ho => oth_cell hbk (by decide) hne ho rfl
  have HW0 := show Hid _ from hW0
  have hdrew : Below W0.heap.size W0 W0.drew := Below.drew (Below.refl _ _)
  clear hW0 hin hnt hp hlen hbx hbk hblt hB0 hB
  unfold St.val
  rw [hk]
  go_enter Tryz.func62, Tryz.ntmps62
  go_wp2_with fail
  rw [HW0.out]
  clear HW0
  go_region_held3 (fun w' => Oth b W0 w') (first | exact oth_below (by assumption) | exact Lib.OthersKept.trans (by assumption) (oth_below (by assumption)) | exact Lib.OthersKept.alloc (by assumption) _ | assumption)
    (first
      | (go_at_call 38; refine (HXN.out _ (by assumption)).mono ?_; rintro e w' ⟨rfl, hb⟩; have hB : Below W0.heap.size W0 w' := Below.on (by assumption) hb)
      | (go_at_call 35; refine (line_in (xs := [⟨#[108, 101, 116, 32]⟩, s.name, ⟨#[91]⟩, ⟨(Lib.itoa s.n).toArray⟩, ⟨#[93, 59]⟩]) HPX.out (by assumption) hsx (Nat.le_of_ble_eq_true rfl) (by omega) HLEN.out).mono ?_; rintro e w' ⟨rfl, hpl, hbl, hol⟩))
  all_goals go_wp2_with fail
  all_goals go_end0
  all_goals exact ⟨rfl, hpl.out, HBX.out.trans hbl.out, HOX.out.trans hol⟩
end Go.Proofs.YtbpemackmadhgaaGreatDoor

/- page.stmt at its other kinds: those of one line, and loops. -/
namespace Go.Proofs.YtbpemackmadhgaaGreatDoor
open Go.RowKit Go.Sort

set_option maxRecDepth 100000 in
set_option maxHeartbeats 8000000 in
theorem stmt3 (w0 : World) (s : St) (hk : s.kind = 3) (hin : s.In w0) (ht : Tabs w0) (hnt : NumT w0) (hoa : OkE s.a) (hza : s.a.sz ≤ 1000000) : StmtPr w0 s := by
  intro b l d w hB hp hd hlen
  have HT : Hid (lineB d (cat [s.name, ⟨#[32, 61, 32]⟩, ⟨(txE s.a).toArray⟩, ⟨#[59]⟩]) = txS s d) := by
    show _ = _; cases s; simp only [St.kind] at hk; subst hk; simp [txS, cat, St.a, St.name]
  rw [← HT.out] at hlen ⊢
  have HLEN : Hid ((l ++ lineB d (cat [s.name, ⟨#[32, 61, 32]⟩, ⟨(txE s.a).toArray⟩, ⟨#[59]⟩])).length ≤ 140737488355328) := hlen
  obtain ⟨W0, hW0⟩ : ∃ W0, w.alloc (.cells #[.int .i64 3, .string s.name, .int .i64 s.n, .int .i64 s.a.kind, .int .i64 s.a.n, .string s.a.name, .slice s.a.a s.a.args.length s.a.cap, .int .i64 s.b.kind, .int .i64 s.b.n, .string s.b.name, .slice s.b.a s.b.args.length s.b.cap, .slice s.ba s.body.length s.bc, .slice s.ea s.els.length s.ec, .slice s.ca s.cases.length s.cc] 43) = W0 := ⟨_, rfl⟩
  have hbx : Below w.heap.size w W0 := by rw [← hW0]; exact (Below.refl _ w).alloc (Nat.le_refl _) _
  have hbk : W0.heap[w.heap.size]? = some (.cells #[.int .i64 3, .string s.name, .int .i64 s.n, .int .i64 s.a.kind, .int .i64 s.a.n, .string s.a.name, .slice s.a.a s.a.args.length s.a.cap, .int .i64 s.b.kind, .int .i64 s.b.n, .string s.b.name, .slice s.b.a s.b.args.length s.b.cap, .slice s.ba s.body.length s.bc, .slice s.ea s.els.length s.ec, .slice s.ca s.cases.length s.cc] 43 (0, 0)) := by rw [← hW0]; exact heap_alloc_new w _
  have hsw := hB.size
  have hB0 : Below w0.heap.size w0 W0 := hB.trans (hbx.mono hsw)
  have hsx : w0.heap.size ≤ W0.heap.size := hB0.size
  have hblt : b < w.heap.size := by obtain ⟨q, h1⟩ := hp.some; exact h1.lt
  have hne : w.heap.size ≠ b := by omega
  have HPX : Hid (PgT w0.heap.size b l d W0) := hp.stay hbx
  have HOX : Hid (Oth b w W0) := oth_below hbx
  have HBX : Hid (Below w0.heap.size w W0) := hbx.mono hsw
  have HXA : Hid (∀ w', Below W0.heap.size W0 w' → Calls Tryz.prog 88 #[.agg #[.int .i64 s.a.kind, .int .i64 s.a.n, .string s.a.name, .slice s.a.a s.a.args.length s.a.cap]] w' fun e w'' => e = .returned (sB (txE s.a)) ∧ Below w'.heap.size w' w'') := fun w' h => expr_any s.a w' ((St.in_iff.1 hin).2.2.2.1.stay (hB0.trans (h.mono hsx))) (ht.stay (hB0.trans (h.mono hsx))) (hnt.stay (hB0.trans (h.mono hsx))) hoa hza
  have y1 : ∀ w', Oth b W0 w' → w'.cell? ⟨w.heap.size, 1, none⟩ = some (.string s.name) := fun w' ho => oth_cell hbk (by decide) hne ho rfl
  have y3 : ∀ w', Oth b W0 w' → w'.cell? ⟨w.heap.size, 3, none⟩ = some (.int .i64 s.a.kind) := fun w' ho => oth_cell hbk (by decide) hne ho rfl
  have y4 : ∀ w', Oth b W0 w' → w'.cell? ⟨w.heap.size, 4, none⟩ = some (.int .i64 s.a.n) := fun w' ho => oth_cell hbk (by decide) hne ho rfl
  have y5 : ∀ w', Oth b W0 w' → w'.cell? ⟨w.heap.size, 5, none⟩ = some (.string s.a.name) := fun w' ho => oth_cell hbk (by decide) hne ho rfl
  have y6 : ∀ w', Oth b W0 w' → w'.cell? ⟨w.heap.size, 6, none⟩ = some (.slice s.a.a s.a.args.length s.a.cap) := fun w' ho => oth_cell hbk (by decide) hne ho rfl
  have HW0 := show Hid _ from hW0
  have hdrew : Below W0.heap.size W0 W0.drew := Below.drew (Below.refl _ _)
  clear hW0 hin ht hnt hp hlen hbx hbk hblt hB0 hB hoa hza
  unfold St.val
  rw [hk]
  go_enter Tryz.func62, Tryz.ntmps62
  go_wp2_with fail
  rw [HW0.out]
  clear HW0
  go_region_held3 (fun w' => Oth b W0 w') (first | exact oth_below (by assumption) | exact Lib.OthersKept.trans (by assumption) (oth_below (by assumption)) | exact Lib.OthersKept.alloc (by assumption) _ | assumption)
    (first
      | (go_at_call_of 88 (s.a.kind); refine (HXA.out _ (by assumption)).mono ?_; rintro e w' ⟨rfl, hb⟩; have hB : Below W0.heap.size W0 w' := Below.on (by assumption) hb)
      | (go_at_call 35; refine (line_in (xs := [s.name, ⟨#[32, 61, 32]⟩, ⟨(txE s.a).toArray⟩, ⟨#[59]⟩]) HPX.out (by assumption) hsx (Nat.le_of_ble_eq_true rfl) (by omega) HLEN.out).mono ?_; rintro e w' ⟨rfl, hpl, hbl, hol⟩))
  all_goals go_wp2_with fail
  all_goals go_end0
  all_goals exact ⟨rfl, hpl.out, HBX.out.trans hbl.out, HOX.out.trans hol⟩
end Go.Proofs.YtbpemackmadhgaaGreatDoor

/- page.stmt at its other kinds: those of one line, and loops. -/
namespace Go.Proofs.YtbpemackmadhgaaGreatDoor
open Go.RowKit Go.Sort

set_option maxRecDepth 100000 in
set_option maxHeartbeats 8000000 in
theorem stmt4 (w0 : World) (s : St) (hk : s.kind = 4) (hin : s.In w0) (ht : Tabs w0) (hnt : NumT w0) (hoa : OkE s.a) (hza : s.a.sz ≤ 1000000) (hob : OkE s.b) (hzb : s.b.sz ≤ 1000000) : StmtPr w0 s := by
  intro b l d w hB hp hd hlen
  have HT : Hid (lineB d (cat [s.name, ⟨#[91]⟩, ⟨(txE s.a).toArray⟩, ⟨#[93, 32, 61, 32]⟩, ⟨(txE s.b).toArray⟩, ⟨#[59]⟩]) = txS s d) := by
    show _ = _; cases s; simp only [St.kind] at hk; subst hk; simp [txS, cat, St.a, St.b, St.name]
  rw [← HT.out] at hlen ⊢
  have HLEN : Hid ((l ++ lineB d (cat [s.name, ⟨#[91]⟩, ⟨(txE s.a).toArray⟩, ⟨#[93, 32, 61, 32]⟩, ⟨(txE s.b).toArray⟩, ⟨#[59]⟩])).length ≤ 140737488355328) := hlen
  obtain ⟨W0, hW0⟩ : ∃ W0, w.alloc (.cells #[.int .i64 4, .string s.name, .int .i64 s.n, .int .i64 s.a.kind, .int .i64 s.a.n, .string s.a.name, .slice s.a.a s.a.args.length s.a.cap, .int .i64 s.b.kind, .int .i64 s.b.n, .string s.b.name, .slice s.b.a s.b.args.length s.b.cap, .slice s.ba s.body.length s.bc, .slice s.ea s.els.length s.ec, .slice s.ca s.cases.length s.cc] 43) = W0 := ⟨_, rfl⟩
  have hbx : Below w.heap.size w W0 := by rw [← hW0]; exact (Below.refl _ w).alloc (Nat.le_refl _) _
  have hbk : W0.heap[w.heap.size]? = some (.cells #[.int .i64 4, .string s.name, .int .i64 s.n, .int .i64 s.a.kind, .int .i64 s.a.n, .string s.a.name, .slice s.a.a s.a.args.length s.a.cap, .int .i64 s.b.kind, .int .i64 s.b.n, .string s.b.name, .slice s.b.a s.b.args.length s.b.cap, .slice s.ba s.body.length s.bc, .slice s.ea s.els.length s.ec, .slice s.ca s.cases.length s.cc] 43 (0, 0)) := by rw [← hW0]; exact heap_alloc_new w _
  have hsw := hB.size
  have hB0 : Below w0.heap.size w0 W0 := hB.trans (hbx.mono hsw)
  have hsx : w0.heap.size ≤ W0.heap.size := hB0.size
  have hblt : b < w.heap.size := by obtain ⟨q, h1⟩ := hp.some; exact h1.lt
  have hne : w.heap.size ≠ b := by omega
  have HPX : Hid (PgT w0.heap.size b l d W0) := hp.stay hbx
  have HOX : Hid (Oth b w W0) := oth_below hbx
  have HBX : Hid (Below w0.heap.size w W0) := hbx.mono hsw
  have HXA : Hid (∀ w', Below W0.heap.size W0 w' → Calls Tryz.prog 88 #[.agg #[.int .i64 s.a.kind, .int .i64 s.a.n, .string s.a.name, .slice s.a.a s.a.args.length s.a.cap]] w' fun e w'' => e = .returned (sB (txE s.a)) ∧ Below w'.heap.size w' w'') := fun w' h => expr_any s.a w' ((St.in_iff.1 hin).2.2.2.1.stay (hB0.trans (h.mono hsx))) (ht.stay (hB0.trans (h.mono hsx))) (hnt.stay (hB0.trans (h.mono hsx))) hoa hza
  have HXB : Hid (∀ w', Below W0.heap.size W0 w' → Calls Tryz.prog 88 #[.agg #[.int .i64 s.b.kind, .int .i64 s.b.n, .string s.b.name, .slice s.b.a s.b.args.length s.b.cap]] w' fun e w'' => e = .returned (sB (txE s.b)) ∧ Below w'.heap.size w' w'') := fun w' h => expr_any s.b w' ((St.in_iff.1 hin).2.2.2.2.1.stay (hB0.trans (h.mono hsx))) (ht.stay (hB0.trans (h.mono hsx))) (hnt.stay (hB0.trans (h.mono hsx))) hob hzb
  have y1 : ∀ w', Oth b W0 w' → w'.cell? ⟨w.heap.size, 1, none⟩ = some (.string s.name) := fun w' ho => oth_cell hbk (by decide) hne ho rfl
  have y3 : ∀ w', Oth b W0 w' → w'.cell? ⟨w.heap.size, 3, none⟩ = some (.int .i64 s.a.kind) := fun w' ho => oth_cell hbk (by decide) hne ho rfl
  have y4 : ∀ w', Oth b W0 w' → w'.cell? ⟨w.heap.size, 4, none⟩ = some (.int .i64 s.a.n) := fun w' ho => oth_cell hbk (by decide) hne ho rfl
  have y5 : ∀ w', Oth b W0 w' → w'.cell? ⟨w.heap.size, 5, none⟩ = some (.string s.a.name) := fun w' ho => oth_cell hbk (by decide) hne ho rfl
  have y6 : ∀ w', Oth b W0 w' → w'.cell? ⟨w.heap.size, 6, none⟩ = some (.slice s.a.a s.a.args.length s.a.cap) := fun w' ho => oth_cell hbk (by decide) hne ho rfl
  have y7 : ∀ w', Oth b W0 w' → w'.cell? ⟨w.heap.size, 7, none⟩ = some (.int .i64 s.b.kind) := fun w' ho => oth_cell hbk (by decide) hne ho rfl
  have y8 : ∀ w', Oth b W0 w' → w'.cell? ⟨w.heap.size, 8, none⟩ = some (.int .i64 s.b.n) := fun w' ho => oth_cell hbk (by decide) hne ho rfl
  have y9 : ∀ w', Oth b W0 w' → w'.cell? ⟨w.heap.size, 9, none⟩ = some (.string s.b.name) := fun w' ho => oth_cell hbk (by decide) hne ho rfl
  have y10 : ∀ w', Oth b W0 w' → w'.cell? ⟨w.heap.size, 10, none⟩ = some (.slice s.b.a s.b.args.length s.b.cap) := fun w' ho => oth_cell hbk (by decide) hne ho rfl
  have HW0 := show Hid _ from hW0
  have hdrew : Below W0.heap.size W0 W0.drew := Below.drew (Below.refl _ _)
  clear hW0 hin ht hnt hp hlen hbx hbk hblt hB0 hB hoa hza hob hzb
  unfold St.val
  rw [hk]
  go_enter Tryz.func62, Tryz.ntmps62
  go_wp2_with fail
  rw [HW0.out]
  clear HW0
  go_region_held3 (fun w' => Oth b W0 w') (first | exact oth_below (by assumption) | exact Lib.OthersKept.trans (by assumption) (oth_below (by assumption)) | exact Lib.OthersKept.alloc (by assumption) _ | assumption)
    (first
      | (go_at_call_of 88 (s.a.kind); refine (HXA.out _ (by assumption)).mono ?_; rintro e w' ⟨rfl, hb⟩; have hB : Below W0.heap.size W0 w' := Below.on (by assumption) hb)
      | (go_at_call_of 88 (s.b.kind); refine (HXB.out _ (by assumption)).mono ?_; rintro e w' ⟨rfl, hb⟩; have hB : Below W0.heap.size W0 w' := Below.on (by assumption) hb)
      | (go_at_call 35; refine (line_in (xs := [s.name, ⟨#[91]⟩, ⟨(txE s.a).toArray⟩, ⟨#[93, 32, 61, 32]⟩, ⟨(txE s.b).toArray⟩, ⟨#[59]⟩]) HPX.out (by assumption) hsx (Nat.le_of_ble_eq_true rfl) (by omega) HLEN.out).mono ?_; rintro e w' ⟨rfl, hpl, hbl, hol⟩))
  all_goals go_wp2_with fail
  all_goals go_end0
  all_goals exact ⟨rfl, hpl.out, HBX.out.trans hbl.out, HOX.out.trans hol⟩
end Go.Proofs.YtbpemackmadhgaaGreatDoor

/- page.choice, and page.stmt at an if. -/
namespace Go.Proofs.YtbpemackmadhgaaGreatDoor
open Go.RowKit Go.Sort

def txCh (s : St) (d : Nat) : List UInt8 := lineB d (cat [⟨#[105, 102, 32]⟩, ⟨(txE s.a).toArray⟩, ⟨#[32, 123]⟩]) ++ txSs s.body (d + 1) ++ (if s.els.length = 0 then [] else lineB d (cat [⟨#[125, 32, 101, 108, 115, 101, 32, 123]⟩]) ++ txSs s.els (d + 1)) ++ lineB d (cat [⟨#[125]⟩])

set_option maxRecDepth 100000 in
set_option maxHeartbeats 8000000 in
theorem choice_any (w0 : World) (D : Nat) (s : St) (hin : s.In w0) (ht : Tabs w0) (hnt : NumT w0) (hoa : OkE s.a) (hza : s.a.sz ≤ 1000000) (hD : D ≤ 89) (hs : ∀ x ∈ s.body, StmtD w0 (D + 1) x) (hs2 : ∀ x ∈ s.els, StmtD w0 (D + 1) x)
    (b : Nat) (l : List UInt8) (d : Nat) (w : World) (hB : Below w0.heap.size w0 w) (hp : PgT w0.heap.size b l d w) (hd : d ≤ D) (hlen : (l ++ txCh s d).length ≤ 140737488355328) :
    Calls Tryz.prog 89 #[.pointer (some ⟨b, 0, none⟩), s.val] w fun e w' => e = .returned (.tuple #[]) ∧ PgT w0.heap.size b (l ++ txCh s d) d w' ∧ Below w0.heap.size w w' ∧ Oth b w w' := by
  have HL : Hid ((l ++ txCh s d).length ≤ 140737488355328) := hlen
  obtain ⟨W0, hW0⟩ : ∃ W0, w.alloc (.cells #[.int .i64 s.kind, .string s.name, .int .i64 s.n, .int .i64 s.a.kind, .int .i64 s.a.n, .string s.a.name, .slice s.a.a s.a.args.length s.a.cap, .int .i64 s.b.kind, .int .i64 s.b.n, .string s.b.name, .slice s.b.a s.b.args.length s.b.cap, .slice s.ba s.body.length s.bc, .slice s.ea s.els.length s.ec, .slice s.ca s.cases.length s.cc] 43) = W0 := ⟨_, rfl⟩
  have hbx : Below w.heap.size w W0 := by rw [← hW0]; exact (Below.refl _ w).alloc (Nat.le_refl _) _
  have hbk : W0.heap[w.heap.size]? = some (.cells #[.int .i64 s.kind, .string s.name, .int .i64 s.n, .int .i64 s.a.kind, .int .i64 s.a.n, .string s.a.name, .slice s.a.a s.a.args.length s.a.cap, .int .i64 s.b.kind, .int .i64 s.b.n, .string s.b.name, .slice s.b.a s.b.args.length s.b.cap, .slice s.ba s.body.length s.bc, .slice s.ea s.els.length s.ec, .slice s.ca s.cases.length s.cc] 43 (0, 0)) := by rw [← hW0]; exact heap_alloc_new w _
  have hsw := hB.size
  have hB0 : Below w0.heap.size w0 W0 := hB.trans (hbx.mono hsw)
  have hsx : w0.heap.size ≤ W0.heap.size := hB0.size
  have hblt : b < w.heap.size := by obtain ⟨q, h1⟩ := hp.some; exact h1.lt
  have hne : w.heap.size ≠ b := by omega
  have HPX : Hid (PgT w0.heap.size b l d W0) := hp.stay hbx
  have HOX : Hid (Oth b w W0) := oth_below hbx
  have HBX : Hid (Below w0.heap.size w W0) := hbx.mono hsw
  have HBB0 : Hid (Below w0.heap.size w0 W0) := hB0
  have HXA : Hid (Calls Tryz.prog 88 #[.agg #[.int .i64 s.a.kind, .int .i64 s.a.n, .string s.a.name, .slice s.a.a s.a.args.length s.a.cap]] W0 fun e w'' => e = .returned (sB (txE s.a)) ∧ Below W0.heap.size W0 w'') := expr_any s.a W0 ((St.in_iff.1 hin).2.2.2.1.stay hB0) (ht.stay hB0) (hnt.stay hB0) hoa hza
  have HY11 : Hid (∀ w', Oth b W0 w' → w'.cell? ⟨w.heap.size, 11, none⟩ = some (.slice s.ba s.body.length s.bc)) := fun w' ho => oth_cell hbk (by decide) hne ho rfl
  have HY12 : Hid (∀ w', Oth b W0 w' → w'.cell? ⟨w.heap.size, 12, none⟩ = some (.slice s.ea s.els.length s.ec)) := fun w' ho => oth_cell hbk (by decide) hne ho rfl
  have HIN : Hid (s.In w0) := hin
  have HSS : Hid (∀ x ∈ s.body, StmtD w0 (D + 1) x) := hs
  have HSE : Hid (∀ x ∈ s.els, StmtD w0 (D + 1) x) := hs2
  obtain ⟨hel, hec, _, _⟩ := (St.in_iff.1 hin).2.2.2.2.2.2.1.1
  have HW0 := show Hid _ from hW0
  clear hW0 hin ht hnt hoa hza hp hlen hbx hbk hblt hB0 hB hs hs2
  obtain ⟨res, hres⟩ : ∃ res, l ++ txCh s d = res := ⟨_, rfl⟩
  have HRES : Hid (l ++ txCh s d = res) := hres
  rw [hres] at HL ⊢
  clear hres
  have HF1 : Hid ((l ++ lineB d (cat [⟨#[105, 102, 32]⟩, ⟨(txE s.a).toArray⟩, ⟨#[32, 123]⟩])).length ≤ 140737488355328 ∧ ((l ++ lineB d (cat [⟨#[105, 102, 32]⟩, ⟨(txE s.a).toArray⟩, ⟨#[32, 123]⟩])) ++ txSs s.body (d + 1)).length ≤ 140737488355328) := by
    have h := HL.out
    rw [← HRES.out, txCh] at h
    simp only [List.length_append] at h
    refine ⟨?_, ?_⟩ <;> simp only [List.length_append] <;> omega
  unfold St.val
  go_enter Tryz.func89, Tryz.ntmps89
  go_wp2_with fail
  rw [HW0.out]
  clear HW0
  refine HXA.out.mono ?_
  rintro e w1 ⟨rfl, hb1⟩
  have hs1 := hb1.size
  go_wp2_with fail
  refine (line_new w0.heap.size b l d [⟨#[105, 102, 32]⟩, ⟨(txE s.a).toArray⟩, ⟨#[32, 123]⟩] w1 (HPX.out.stay hb1) (by omega) (Nat.le_of_ble_eq_true rfl) (by omega) HF1.out.1).mono ?_
  rintro e w2 ⟨rfl, hp2, hb2, ho2⟩
  have HP2 : Hid (PgT w0.heap.size b (l ++ lineB d (cat [⟨#[105, 102, 32]⟩, ⟨(txE s.a).toArray⟩, ⟨#[32, 123]⟩])) d w2) := hp2
  have HO2 : Hid (Oth b W0 w2) := ((oth_below hb1).alloc _).trans ho2
  have HB2 : Hid (Below w0.heap.size W0 w2) := ((hb1.mono hsx).alloc (by omega) _).trans hb2
  have y11 := HY11.out _ HO2.out
  clear hp2 hb1 hb2 ho2 hs1 HXA
  go_wp2_with fail
  refine (bodyD w0 (D + 1) b _ d s.body s.ba s.bc w2 (HBB0.out.trans HB2.out) HP2.out (by omega) (by omega) (St.in_iff.1 HIN.out).2.2.2.2.2.1 HSS.out HF1.out.2).mono ?_
  rintro e w3 ⟨rfl, hp3, hb3, ho3⟩
  have HP3 : Hid (PgT w0.heap.size b ((l ++ lineB d (cat [⟨#[105, 102, 32]⟩, ⟨(txE s.a).toArray⟩, ⟨#[32, 123]⟩])) ++ txSs s.body (d + 1)) d w3) := hp3
  have HO3 : Hid (Oth b W0 w3) := HO2.out.trans ho3
  have HB3 : Hid (Below w0.heap.size W0 w3) := HB2.out.trans hb3
  have hs3 : w0.heap.size ≤ w3.heap.size := (HBB0.out.trans HB3.out).size
  have y12 := HY12.out _ HO3.out
  clear hp3 hb3 ho3 y11
  by_cases he : 0 < s.els.length
  · have hei : (0 : Int) < (s.els.length : Int) := by omega
    have HEQ : Hid ((((((l ++ lineB d (cat [⟨#[105, 102, 32]⟩, ⟨(txE s.a).toArray⟩, ⟨#[32, 123]⟩])) ++ txSs s.body (d + 1)) ++ lineB d (cat [⟨#[125, 32, 101, 108, 115, 101, 32, 123]⟩])) ++ txSs s.els (d + 1)) ++ lineB d (cat [⟨#[125]⟩])) = res) := by
      show _ = _
      rw [← HRES.out, txCh, if_neg (by omega)]
      simp only [List.append_assoc]
    have HF2 : Hid ((((l ++ lineB d (cat [⟨#[105, 102, 32]⟩, ⟨(txE s.a).toArray⟩, ⟨#[32, 123]⟩])) ++ txSs s.body (d + 1)) ++ lineB d (cat [⟨#[125, 32, 101, 108, 115, 101, 32, 123]⟩])).length ≤ 140737488355328 ∧ ((((l ++ lineB d (cat [⟨#[105, 102, 32]⟩, ⟨(txE s.a).toArray⟩, ⟨#[32, 123]⟩])) ++ txSs s.body (d + 1)) ++ lineB d (cat [⟨#[125, 32, 101, 108, 115, 101, 32, 123]⟩])) ++ txSs s.els (d + 1)).length ≤ 140737488355328 ∧ (((((l ++ lineB d (cat [⟨#[105, 102, 32]⟩, ⟨(txE s.a).toArray⟩, ⟨#[32, 123]⟩])) ++ txSs s.body (d + 1)) ++ lineB d (cat [⟨#[125, 32, 101, 108, 115, 101, 32, 123]⟩])) ++ txSs s.els (d + 1)) ++ lineB d (cat [⟨#[125]⟩])).length ≤ 140737488355328) := by
      have h := HL.out
      rw [← HEQ.out] at h
      simp only [List.length_append] at h
      refine ⟨?_, ?_, ?_⟩ <;> simp only [List.length_append] <;> omega
    go_wp2_with fail
    refine (line_new w0.heap.size b _ d [⟨#[125, 32, 101, 108, 115, 101, 32, 123]⟩] w3 HP3.out hs3 (Nat.le_of_ble_eq_true rfl) (by omega) HF2.out.1).mono ?_
    rintro e w4 ⟨rfl, hp4, hb4, ho4⟩
    have HP4 : Hid (PgT w0.heap.size b (((l ++ lineB d (cat [⟨#[105, 102, 32]⟩, ⟨(txE s.a).toArray⟩, ⟨#[32, 123]⟩])) ++ txSs s.body (d + 1)) ++ lineB d (cat [⟨#[125, 32, 101, 108, 115, 101, 32, 123]⟩])) d w4) := hp4
    have HO4 : Hid (Oth b W0 w4) := HO3.out.trans (((Lib.OthersKept.refl _ _ w3).alloc _).trans ho4)
    have HB4 : Hid (Below w0.heap.size W0 w4) := HB3.out.trans (((Below.refl _ w3).alloc hs3 _).trans hb4)
    have z12 := HY12.out _ HO4.out
    clear hp4 hb4 ho4 y12
    go_wp2_with fail
    refine (bodyD w0 (D + 1) b _ d s.els s.ea s.ec w4 (HBB0.out.trans HB4.out) HP4.out (by omega) (by omega) (St.in_iff.1 HIN.out).2.2.2.2.2.2.1 HSE.out HF2.out.2.1).mono ?_
    rintro e w5 ⟨rfl, hp5, hb5, ho5⟩
    have HP5 : Hid (PgT w0.heap.size b ((((l ++ lineB d (cat [⟨#[105, 102, 32]⟩, ⟨(txE s.a).toArray⟩, ⟨#[32, 123]⟩])) ++ txSs s.body (d + 1)) ++ lineB d (cat [⟨#[125, 32, 101, 108, 115, 101, 32, 123]⟩])) ++ txSs s.els (d + 1)) d w5) := hp5
    have HO5 : Hid (Oth b W0 w5) := HO4.out.trans ho5
    have HB5 : Hid (Below w0.heap.size W0 w5) := HB4.out.trans hb5
    have hs5 : w0.heap.size ≤ w5.heap.size := (HBB0.out.trans HB5.out).size
    clear hp5 hb5 ho5 z12
    go_wp2_with fail
    refine (line_new w0.heap.size b _ d [⟨#[125]⟩] w5 HP5.out hs5 (Nat.le_of_ble_eq_true rfl) (by omega) HF2.out.2.2).mono ?_
    rintro e w6 ⟨rfl, hp6, hb6, ho6⟩
    have HP6 : Hid (PgT w0.heap.size b res d w6) := by show PgT _ _ _ _ _; rw [← HEQ.out]; exact hp6
    clear hp6
    go_wp2_with fail
    go_end0
    exact ⟨rfl, HP6.out, HBX.out.trans (HB5.out.trans (((Below.refl _ w5).alloc hs5 _).trans hb6)), HOX.out.trans (HO5.out.trans (((Lib.OthersKept.refl _ _ w5).alloc _).trans ho6))⟩
  · have hei : ¬ (0 : Int) < (s.els.length : Int) := by omega
    have HEQ : Hid ((((l ++ lineB d (cat [⟨#[105, 102, 32]⟩, ⟨(txE s.a).toArray⟩, ⟨#[32, 123]⟩])) ++ txSs s.body (d + 1)) ++ lineB d (cat [⟨#[125]⟩])) = res) := by
      show _ = _
      rw [← HRES.out, txCh, if_pos (by omega)]
      simp only [List.append_assoc, List.nil_append]
    have HF2 : Hid ((((l ++ lineB d (cat [⟨#[105, 102, 32]⟩, ⟨(txE s.a).toArray⟩, ⟨#[32, 123]⟩])) ++ txSs s.body (d + 1)) ++ lineB d (cat [⟨#[125]⟩])).length ≤ 140737488355328) := by show _ ≤ _; rw [HEQ.out]; exact HL.out
    go_wp2_with fail
    refine (line_new w0.heap.size b _ d [⟨#[125]⟩] w3 HP3.out hs3 (Nat.le_of_ble_eq_true rfl) (by omega) HF2.out).mono ?_
    rintro e w6 ⟨rfl, hp6, hb6, ho6⟩
    have HP6 : Hid (PgT w0.heap.size b res d w6) := by show PgT _ _ _ _ _; rw [← HEQ.out]; exact hp6
    clear hp6 y12
    go_wp2_with fail
    go_end0
    exact ⟨rfl, HP6.out, HBX.out.trans (HB3.out.trans (((Below.refl _ w3).alloc hs3 _).trans hb6)), HOX.out.trans (HO3.out.trans (((Lib.OthersKept.refl _ _ w3).alloc _).trans ho6))⟩

set_option maxRecDepth 100000 in
set_option maxHeartbeats 8000000 in
theorem stmt5 (w0 : World) (s : St) (hk : s.kind = 5) (hin : s.In w0) (ht : Tabs w0) (hnt : NumT w0) (hoa : OkE s.a) (hza : s.a.sz ≤ 1000000) (D : Nat) (hD : D ≤ 89) (hs : ∀ x ∈ s.body, StmtD w0 (D + 1) x) (hs2 : ∀ x ∈ s.els, StmtD w0 (D + 1) x) : StmtD w0 D s := by
  intro b l d w hB hp hd hlen
  have HT : Hid (txCh s d = txS s d) := by
    show _ = _; cases s; simp only [St.kind] at hk; subst hk; simp [txCh, txS, cat, St.a, St.els, St.body]
  rw [← HT.out] at hlen ⊢
  obtain ⟨W0, hW0⟩ : ∃ W0, w.alloc (.cells #[.int .i64 5, .string s.name, .int .i64 s.n, .int .i64 s.a.kind, .int .i64 s.a.n, .string s.a.name, .slice s.a.a s.a.args.length s.a.cap, .int .i64 s.b.kind, .int .i64 s.b.n, .string s.b.name, .slice s.b.a s.b.args.length s.b.cap, .slice s.ba s.body.length s.bc, .slice s.ea s.els.length s.ec, .slice s.ca s.cases.length s.cc] 43) = W0 := ⟨_, rfl⟩
  have hbx : Below w.heap.size w W0 := by rw [← hW0]; exact (Below.refl _ w).alloc (Nat.le_refl _) _
  have hsw := hB.size
  have hB0 : Below w0.heap.size w0 W0 := hB.trans (hbx.mono hsw)
  have HQ := show Hid _ from choice_any w0 D s hin ht hnt hoa hza hD hs hs2 b l d W0 hB0 (hp.stay hbx) hd hlen
  have HBX : Hid (Below w0.heap.size w W0 ∧ Oth b w W0) := ⟨hbx.mono hsw, oth_below hbx⟩
  have HW0 := show Hid _ from hW0
  clear hW0 hin ht hnt hoa hza hp hlen hbx hB0 hB hs hs2 HT
  unfold St.val at HQ ⊢
  rw [hk] at HQ ⊢
  generalize txCh s d = tx at HQ ⊢
  go_enter Tryz.func62, Tryz.ntmps62
  go_wp2_with fail
  rw [HW0.out]
  refine Calls.mono (show Calls Tryz.prog _ _ _ _ from HQ.out) ?_
  rintro e w2 ⟨rfl, hp2, hb2, ho2⟩
  have HP2 : Hid (PgT w0.heap.size b (l ++ tx) d w2) := hp2
  clear hp2 HQ
  go_wp2_with fail
  go_end0
  exact ⟨rfl, HP2.out, HBX.out.1.trans hb2, HBX.out.2.trans ho2⟩
end Go.Proofs.YtbpemackmadhgaaGreatDoor

/- page.choices, and page.stmt at a switch. -/
namespace Go.Proofs.YtbpemackmadhgaaGreatDoor
open Go.RowKit Go.Sort

theorem txCs_take (l : List Ca) (d j : Nat) (h : j < l.length) : txCs (l.take (j + 1)) d = txCs (l.take j) d ++ txC l[j] d := by
  induction l generalizing j with
  | nil => simp at h
  | cons x r ih =>
    cases j with
    | zero => simp [txCs]
    | succ j =>
      have := ih j (by simpa using h)
      rw [List.take_succ_cons, List.take_succ_cons, txCs, txCs, this]; simp
theorem txCs_le (l : List Ca) (d j : Nat) : (txCs (l.take j) d).length ≤ (txCs l d).length := by
  induction l generalizing j with
  | nil => simp
  | cons x r ih =>
    cases j with
    | zero => simp [txCs]
    | succ j => rw [List.take_succ_cons, txCs, txCs]; simp only [List.length_append]; have := ih j; omega
theorem txC_eq (y : Ca) (d : Nat) : txC y (d + 1) = lineB (d + 1) (cat [⟨#[99, 97, 115, 101, 32]⟩, ⟨(Lib.itoa y.n).toArray⟩, ⟨#[32, 123]⟩]) ++ txSs y.body (d + 1 + 1) ++ lineB (d + 1) (cat [⟨#[125]⟩]) := by
  cases y; simp [txC, cat, Ca.n, Ca.body]
def txSw (s : St) (d : Nat) : List UInt8 := lineB d (cat [⟨#[115, 119, 105, 116, 99, 104, 32]⟩, ⟨(txE s.a).toArray⟩, ⟨#[32, 123]⟩]) ++ txCs s.cases (d + 1) ++ (if s.els.length = 0 then [] else lineB (d + 1) (cat [⟨#[101, 108, 115, 101, 32, 123]⟩]) ++ txSs s.els (d + 1 + 1) ++ lineB (d + 1) (cat [⟨#[125]⟩])) ++ lineB d (cat [⟨#[125]⟩])
theorem pg_deep {B b : Nat} {l : List UInt8} {d d' : Nat} {w : World} (h : PgT B b l d w) : PgT B b l d' (w.setCell ⟨b, 2, none⟩ (.int .i64 d')) := by
  rcases h with h | h
  · exact .inl (h.deep _)
  · exact .inr (h.deep _)
theorem pg_cell {B b : Nat} {l : List UInt8} {d : Nat} {w : World} (h : PgT B b l d w) : w.cell? ⟨b, 2, none⟩ = some (.int .i64 d) ∧ w.frozen? ⟨b, 2, none⟩ = false ∧ B ≤ b ∧ b < w.heap.size := by
  obtain ⟨p, h1⟩ := h.some
  refine ⟨?_, h1.frozen 2, h1.1, h1.lt⟩
  obtain ⟨ao, cp, hbk, _⟩ := h1.slice
  rw [Lib.cell_of_heap hbk]; rfl

set_option maxRecDepth 100000 in
set_option maxHeartbeats 8000000 in
theorem choices_any (w0 : World) (D : Nat) (s : St) (hin : s.In w0) (ht : Tabs w0) (hnt : NumT w0) (hoa : OkE s.a) (hza : s.a.sz ≤ 1000000) (hD : D ≤ 88) (hs : ∀ c ∈ s.cases, ∀ x ∈ c.body, StmtD w0 (D + 2) x) (hs2 : ∀ x ∈ s.els, StmtD w0 (D + 2) x)
    (b : Nat) (l : List UInt8) (d : Nat) (w : World) (hB : Below w0.heap.size w0 w) (hp : PgT w0.heap.size b l d w) (hd : d ≤ D) (hlen : (l ++ txSw s d).length ≤ 140737488355328) :
    Calls Tryz.prog 90 #[.pointer (some ⟨b, 0, none⟩), s.val] w fun e w' => e = .returned (.tuple #[]) ∧ PgT w0.heap.size b (l ++ txSw s d) d w' ∧ Below w0.heap.size w w' ∧ Oth b w w' := by
  have HL : Hid ((l ++ txSw s d).length ≤ 140737488355328) := hlen
  obtain ⟨W0, hW0⟩ : ∃ W0, w.alloc (.cells #[.int .i64 s.kind, .string s.name, .int .i64 s.n, .int .i64 s.a.kind, .int .i64 s.a.n, .string s.a.name, .slice s.a.a s.a.args.length s.a.cap, .int .i64 s.b.kind, .int .i64 s.b.n, .string s.b.name, .slice s.b.a s.b.args.length s.b.cap, .slice s.ba s.body.length s.bc, .slice s.ea s.els.length s.ec, .slice s.ca s.cases.length s.cc] 43) = W0 := ⟨_, rfl⟩
  have hbx : Below w.heap.size w W0 := by rw [← hW0]; exact (Below.refl _ w).alloc (Nat.le_refl _) _
  have hbk : W0.heap[w.heap.size]? = some (.cells #[.int .i64 s.kind, .string s.name, .int .i64 s.n, .int .i64 s.a.kind, .int .i64 s.a.n, .string s.a.name, .slice s.a.a s.a.args.length s.a.cap, .int .i64 s.b.kind, .int .i64 s.b.n, .string s.b.name, .slice s.b.a s.b.args.length s.b.cap, .slice s.ba s.body.length s.bc, .slice s.ea s.els.length s.ec, .slice s.ca s.cases.length s.cc] 43 (0, 0)) := by rw [← hW0]; exact heap_alloc_new w _
  have hsw := hB.size
  have hB0 : Below w0.heap.size w0 W0 := hB.trans (hbx.mono hsw)
  have hsx : w0.heap.size ≤ W0.heap.size := hB0.size
  have hblt : b < w.heap.size := (pg_cell hp).2.2.2
  have hBb : w0.heap.size ≤ b := (pg_cell hp).2.2.1
  have hne : w.heap.size ≠ b := by omega
  have hne' : b ≠ w.heap.size := by omega
  have HPX : Hid (PgT w0.heap.size b l d W0) := hp.stay hbx
  have HOX : Hid (Oth b w W0) := oth_below hbx
  have HBX : Hid (Below w0.heap.size w W0) := hbx.mono hsw
  have HBB0 : Hid (Below w0.heap.size w0 W0) := hB0
  have HXA : Hid (Calls Tryz.prog 88 #[.agg #[.int .i64 s.a.kind, .int .i64 s.a.n, .string s.a.name, .slice s.a.a s.a.args.length s.a.cap]] W0 fun e w'' => e = .returned (sB (txE s.a)) ∧ Below W0.heap.size W0 w'') := expr_any s.a W0 ((St.in_iff.1 hin).2.2.2.1.stay hB0) (ht.stay hB0) (hnt.stay hB0) hoa hza
  have HY12 : Hid (∀ w', Oth b W0 w' → w'.cell? ⟨w.heap.size, 12, none⟩ = some (.slice s.ea s.els.length s.ec)) := fun w' ho => oth_cell hbk (by decide) hne ho rfl
  have HY13 : Hid (∀ w', Oth b W0 w' → w'.cell? ⟨w.heap.size, 13, none⟩ = some (.slice s.ca s.cases.length s.cc)) := fun w' ho => oth_cell hbk (by decide) hne ho rfl
  have HIN : Hid (s.In w0) := hin
  have HNT : Hid (NumT w0) := hnt
  have HSS : Hid (∀ c ∈ s.cases, ∀ x ∈ c.body, StmtD w0 (D + 2) x) := hs
  have HSE : Hid (∀ x ∈ s.els, StmtD w0 (D + 2) x) := hs2
  obtain ⟨hel, hec, _, _⟩ := (St.in_iff.1 hin).2.2.2.2.2.2.1.1
  obtain ⟨hcl, hcc, _, _⟩ := (St.in_iff.1 hin).2.2.2.2.2.2.2.1
  have HW0 := show Hid _ from hW0
  clear hW0 hin ht hnt hoa hza hp hlen hbx hbk hblt hB0 hB hs hs2
  obtain ⟨res, hres⟩ : ∃ res, l ++ txSw s d = res := ⟨_, rfl⟩
  have HRES : Hid (l ++ txSw s d = res) := hres
  rw [hres] at HL ⊢
  clear hres
  have HF1 : Hid ((l ++ lineB d (cat [⟨#[115, 119, 105, 116, 99, 104, 32]⟩, ⟨(txE s.a).toArray⟩, ⟨#[32, 123]⟩])).length ≤ 140737488355328 ∧ (l ++ lineB d (cat [⟨#[115, 119, 105, 116, 99, 104, 32]⟩, ⟨(txE s.a).toArray⟩, ⟨#[32, 123]⟩])).length + (txCs s.cases (d + 1)).length ≤ 140737488355328) := by
    have h := HL.out
    rw [← HRES.out, txSw] at h
    simp only [List.length_append] at h
    refine ⟨?_, ?_⟩ <;> simp only [List.length_append] <;> omega
  unfold St.val
  go_enter Tryz.func90, Tryz.ntmps90
  go_wp2_with fail
  rw [HW0.out]
  clear HW0
  refine HXA.out.mono ?_
  rintro e w1 ⟨rfl, hb1⟩
  have hs1 := hb1.size
  go_wp2_with fail
  refine (line_new w0.heap.size b l d [⟨#[115, 119, 105, 116, 99, 104, 32]⟩, ⟨(txE s.a).toArray⟩, ⟨#[32, 123]⟩] w1 (HPX.out.stay hb1) (by omega) (Nat.le_of_ble_eq_true rfl) (by omega) HF1.out.1).mono ?_
  rintro e w2 ⟨rfl, hp2, hb2, ho2⟩
  obtain ⟨l1, hl1⟩ : ∃ l1, (l ++ lineB d (cat [⟨#[115, 119, 105, 116, 99, 104, 32]⟩, ⟨(txE s.a).toArray⟩, ⟨#[32, 123]⟩])) = l1 := ⟨_, rfl⟩
  rw [hl1] at hp2 HF1
  have HL1 : Hid ((l ++ lineB d (cat [⟨#[115, 119, 105, 116, 99, 104, 32]⟩, ⟨(txE s.a).toArray⟩, ⟨#[32, 123]⟩])) = l1) := hl1
  clear hl1
  obtain ⟨c2, q2, _, _⟩ := pg_cell hp2
  have HP2 : Hid (PgT w0.heap.size b l1 (d + 1) (w2.setCell ⟨b, 2, none⟩ (.int .i64 ((d + 1 : Nat) : Int)))) := pg_deep hp2
  have HO2 : Hid (Oth b W0 w2) := ((oth_below hb1).alloc _).trans ho2
  have HB2 : Hid (Below w0.heap.size W0 w2) := ((hb1.mono hsx).alloc (by omega) _).trans hb2
  have y13 := HY13.out _ HO2.out
  clear hp2 hb1 hb2 ho2 hs1 HXA
  go_wp2_with fail
  go_loopw [22] (fun t22 wr => ∃ (j : Nat), j ≤ s.cases.length ∧ t22 = .int .i64 j ∧ PgT w0.heap.size b (l1 ++ txCs (s.cases.take j) (d + 1)) (d + 1) wr ∧ Below w0.heap.size W0 wr ∧ Oth b W0 wr) (fun t22 _ => s.cases.length - (intOf t22).toNat)
  case atStart => exact ⟨0, Nat.zero_le _, rfl, by simpa [txCs] using HP2.out, HB2.out.setCell (p := ⟨b, 2, none⟩) hBb _, HO2.out.setCell ⟨b, 2, none⟩ rfl _⟩
  case round =>
    clear HP2 HO2 HB2 y13 c2 q2
    obtain ⟨j, hj, rfl, hpg, hb, ho⟩ := hrel
    have HPG : Hid (PgT w0.heap.size b (l1 ++ txCs (s.cases.take j) (d + 1)) (d + 1) wr) := hpg
    have HBR : Hid (Below w0.heap.size W0 wr) := hb
    have HOR : Hid (Oth b W0 wr) := ho
    have hwb : b < wr.heap.size := (pg_cell hpg).2.2.2
    have hs0 : w0.heap.size ≤ wr.heap.size := (HBB0.out.trans hb).size
    clear hpg hb ho
    by_cases hlt : j < s.cases.length
    · have hli : (j : Int) < (s.cases.length : Int) := by omega
      obtain ⟨rb, ro, hca, hcell⟩ := rowC_cells ((St.in_iff.1 (HIN.out.stay (HBB0.out.trans HBR.out))).2.2.2.2.2.2.2.1.2.2.2) hlt
      have k0 := hcell 0 _ rfl
      have k1 := hcell 1 _ rfl
      simp only [← Nat.add_assoc, Nat.add_zero] at k0 k1
      have HCI : Hid (s.cases[j].In w0) := (St.in_iff.1 HIN.out).2.2.2.2.2.2.2.2 _ (List.getElem_mem hlt)
      have HCS : Hid (∀ x ∈ s.cases[j].body, StmtD w0 (D + 2) x) := HSS.out _ (List.getElem_mem hlt)
      have HT : Hid (txCs (s.cases.take (j + 1)) (d + 1) = txCs (s.cases.take j) (d + 1) ++ txC s.cases[j] (d + 1)) := txCs_take s.cases (d + 1) j hlt
      have HLE : Hid ((txCs (s.cases.take (j + 1)) (d + 1)).length ≤ (txCs s.cases (d + 1)).length) := txCs_le s.cases (d + 1) (j + 1)
      generalize s.cases[j] = y at *
      rw [hca]
      clear hcell
      obtain ⟨lj, hlj⟩ : ∃ lj, l1 ++ txCs (s.cases.take j) (d + 1) = lj := ⟨_, rfl⟩
      rw [hlj] at HPG
      have HLJ : Hid (l1 ++ txCs (s.cases.take j) (d + 1) = lj) := hlj
      clear hlj
      have HF2 : Hid ((lj ++ lineB (d + 1) (cat [⟨#[99, 97, 115, 101, 32]⟩, ⟨(Lib.itoa y.n).toArray⟩, ⟨#[32, 123]⟩])).length ≤ 140737488355328 ∧ ((lj ++ lineB (d + 1) (cat [⟨#[99, 97, 115, 101, 32]⟩, ⟨(Lib.itoa y.n).toArray⟩, ⟨#[32, 123]⟩])) ++ txSs y.body (d + 1 + 1)).length ≤ 140737488355328 ∧ (((lj ++ lineB (d + 1) (cat [⟨#[99, 97, 115, 101, 32]⟩, ⟨(Lib.itoa y.n).toArray⟩, ⟨#[32, 123]⟩])) ++ txSs y.body (d + 1 + 1)) ++ lineB (d + 1) (cat [⟨#[125]⟩])).length ≤ 140737488355328) := by
        have h1 := HLE.out
        have h2 := HF1.out.2
        have h3 := congrArg List.length HLJ.out
        rw [HT.out, txC_eq] at h1
        simp only [List.length_append] at h1 h2 h3
        refine ⟨?_, ?_, ?_⟩ <;> simp only [List.length_append] <;> omega
      obtain ⟨W4, hW4⟩ : ∃ W4, wr.alloc (.cells #[.int .i64 y.n, .slice y.ba y.body.length y.bc] 101) = W4 := ⟨_, rfl⟩
      have hb4 : Below wr.heap.size wr W4 := by rw [← hW4]; exact (Below.refl _ wr).alloc (Nat.le_refl _) _
      have hk4 : W4.heap[wr.heap.size]? = some (.cells #[.int .i64 y.n, .slice y.ba y.body.length y.bc] 101 (0, 0)) := by rw [← hW4]; exact heap_alloc_new wr _
      have hn4 : wr.heap.size ≠ b := by omega
      have HZ1 : Hid (∀ w', Oth b W4 w' → w'.cell? ⟨wr.heap.size, 1, none⟩ = some (.slice y.ba y.body.length y.bc)) := fun w' ho => oth_cell hk4 (by decide) hn4 ho rfl
      have HB4 : Hid (Below w0.heap.size W0 W4) := HBR.out.trans (hb4.mono hs0)
      have HO4 : Hid (Oth b W0 W4) := HOR.out.trans (oth_below hb4)
      have HP4 : Hid (PgT w0.heap.size b lj (d + 1) W4) := HPG.out.stay hb4
      have hs4 : w0.heap.size ≤ W4.heap.size := (HBB0.out.trans HB4.out).size
      have HQN : Hid (Calls Tryz.prog 38 #[.int .i64 y.n] W4 fun e w'' => e = .returned (sB (Lib.itoa y.n)) ∧ Below W4.heap.size W4 w'') := number_any y.n W4 (Ca.in_iff.1 HCI.out).1 (HNT.out.stay (HBB0.out.trans HB4.out))
      have HW4 := show Hid _ from hW4
      clear hW4 hb4 hk4 hn4 hca
      go_wp2_with fail
      rw [HW4.out]
      clear HW4 k0 k1
      refine HQN.out.mono ?_
      rintro e w5 ⟨rfl, hb5⟩
      have hs5 := hb5.size
      go_wp2_with fail
      refine (line_new w0.heap.size b lj (d + 1) [⟨#[99, 97, 115, 101, 32]⟩, ⟨(Lib.itoa y.n).toArray⟩, ⟨#[32, 123]⟩] w5 (HP4.out.stay hb5) (by omega) (Nat.le_of_ble_eq_true rfl) (by omega) HF2.out.1).mono ?_
      rintro e w6 ⟨rfl, hp6, hb6, ho6⟩
      have HP6 : Hid (PgT w0.heap.size b (lj ++ lineB (d + 1) (cat [⟨#[99, 97, 115, 101, 32]⟩, ⟨(Lib.itoa y.n).toArray⟩, ⟨#[32, 123]⟩])) (d + 1) w6) := hp6
      have HO6' : Hid (Oth b W4 w6) := ((oth_below hb5).alloc _).trans ho6
      have HB6 : Hid (Below w0.heap.size W0 w6) := HB4.out.trans (((hb5.mono hs4).alloc (by omega) _).trans hb6)
      have z1 := HZ1.out _ HO6'.out
      have HO6 : Hid (Oth b W0 w6) := HO4.out.trans HO6'.out
      clear hp6 hb5 hb6 ho6 hs5 HQN
      go_wp2_with fail
      refine (bodyD w0 (D + 2) b _ (d + 1) y.body y.ba y.bc w6 (HBB0.out.trans HB6.out) HP6.out (by omega) (by omega) (Ca.in_iff.1 HCI.out).2 HCS.out HF2.out.2.1).mono ?_
      rintro e w7 ⟨rfl, hp7, hb7, ho7⟩
      have HP7 : Hid (PgT w0.heap.size b ((lj ++ lineB (d + 1) (cat [⟨#[99, 97, 115, 101, 32]⟩, ⟨(Lib.itoa y.n).toArray⟩, ⟨#[32, 123]⟩])) ++ txSs y.body (d + 1 + 1)) (d + 1) w7) := hp7
      have HO7 : Hid (Oth b W0 w7) := HO6.out.trans ho7
      have HB7 : Hid (Below w0.heap.size W0 w7) := HB6.out.trans hb7
      have hs7 : w0.heap.size ≤ w7.heap.size := (HBB0.out.trans HB7.out).size
      clear hp7 hb7 ho7 z1
      go_wp2_with fail
      refine (line_new w0.heap.size b _ (d + 1) [⟨#[125]⟩] w7 HP7.out hs7 (Nat.le_of_ble_eq_true rfl) (by omega) HF2.out.2.2).mono ?_
      rintro e w8 ⟨rfl, hp8, hb8, ho8⟩
      have HP8 : Hid (PgT w0.heap.size b (l1 ++ txCs (s.cases.take (j + 1)) (d + 1)) (d + 1) w8) := by
        show PgT _ _ _ _ _
        rw [HT.out, txC_eq, ← List.append_assoc, HLJ.out, ← List.append_assoc, ← List.append_assoc]; exact hp8
      have HB8 : Hid (Below w0.heap.size W0 w8) := HB7.out.trans (((Below.refl _ w7).alloc hs7 _).trans hb8)
      have HO8 : Hid (Oth b W0 w8) := HO7.out.trans (((Lib.OthersKept.refl _ _ w7).alloc _).trans ho8)
      clear hp8 hb8 ho8
      go_wp2_with fail
      go_roundw
      case rel => exact ⟨j + 1, by omega, by go_num, HP8.out, HB8.out, HO8.out⟩
      case measure => simp [intOf]; omega
    · obtain rfl : j = s.cases.length := by omega
      obtain ⟨l2, hl2⟩ : ∃ l2, l1 ++ txCs s.cases (d + 1) = l2 := ⟨_, rfl⟩
      have HL2 : Hid (l1 ++ txCs s.cases (d + 1) = l2) := hl2
      have HP9 : Hid (PgT w0.heap.size b l2 (d + 1) wr) := by
        show PgT _ _ _ _ _; have := HPG.out; rw [List.take_length, hl2] at this; exact this
      clear hl2 HPG
      have y12 := HY12.out _ HOR.out
      by_cases he : 0 < s.els.length
      · have hei : (0 : Int) < (s.els.length : Int) := by omega
        have HEQ : Hid ((((l2 ++ lineB (d + 1) (cat [⟨#[101, 108, 115, 101, 32, 123]⟩])) ++ txSs s.els (d + 1 + 1)) ++ lineB (d + 1) (cat [⟨#[125]⟩])) ++ lineB d (cat [⟨#[125]⟩]) = res) := by
          show _ = _
          rw [← HRES.out, txSw, if_neg (by omega), ← HL2.out, ← HL1.out]
          simp only [List.append_assoc]
        have HF3 : Hid ((l2 ++ lineB (d + 1) (cat [⟨#[101, 108, 115, 101, 32, 123]⟩])).length ≤ 140737488355328 ∧ ((l2 ++ lineB (d + 1) (cat [⟨#[101, 108, 115, 101, 32, 123]⟩])) ++ txSs s.els (d + 1 + 1)).length ≤ 140737488355328 ∧ (((l2 ++ lineB (d + 1) (cat [⟨#[101, 108, 115, 101, 32, 123]⟩])) ++ txSs s.els (d + 1 + 1)) ++ lineB (d + 1) (cat [⟨#[125]⟩])).length ≤ 140737488355328 ∧ ((((l2 ++ lineB (d + 1) (cat [⟨#[101, 108, 115, 101, 32, 123]⟩])) ++ txSs s.els (d + 1 + 1)) ++ lineB (d + 1) (cat [⟨#[125]⟩])) ++ lineB d (cat [⟨#[125]⟩])).length ≤ 140737488355328) := by
          have h := HL.out
          rw [← HEQ.out] at h
          simp only [List.length_append] at h
          refine ⟨?_, ?_, ?_, ?_⟩ <;> simp only [List.length_append] <;> omega
        go_wp2_with fail
        refine (line_new w0.heap.size b _ (d + 1) [⟨#[101, 108, 115, 101, 32, 123]⟩] wr HP9.out hs0 (Nat.le_of_ble_eq_true rfl) (by omega) HF3.out.1).mono ?_
        rintro e w4 ⟨rfl, hp4, hb4, ho4⟩
        have HP4 : Hid (PgT w0.heap.size b (l2 ++ lineB (d + 1) (cat [⟨#[101, 108, 115, 101, 32, 123]⟩])) (d + 1) w4) := hp4
        have HO4 : Hid (Oth b W0 w4) := HOR.out.trans (((Lib.OthersKept.refl _ _ wr).alloc _).trans ho4)
        have HB4 : Hid (Below w0.heap.size W0 w4) := HBR.out.trans (((Below.refl _ wr).alloc hs0 _).trans hb4)
        have z12 := HY12.out _ HO4.out
        clear hp4 hb4 ho4 y12
        go_wp2_with fail
        refine (bodyD w0 (D + 2) b _ (d + 1) s.els s.ea s.ec w4 (HBB0.out.trans HB4.out) HP4.out (by omega) (by omega) (St.in_iff.1 HIN.out).2.2.2.2.2.2.1 HSE.out HF3.out.2.1).mono ?_
        rintro e w5 ⟨rfl, hp5, hb5, ho5⟩
        have HP5 : Hid (PgT w0.heap.size b ((l2 ++ lineB (d + 1) (cat [⟨#[101, 108, 115, 101, 32, 123]⟩])) ++ txSs s.els (d + 1 + 1)) (d + 1) w5) := hp5
        have HO5 : Hid (Oth b W0 w5) := HO4.out.trans ho5
        have HB5 : Hid (Below w0.heap.size W0 w5) := HB4.out.trans hb5
        have hs5 : w0.heap.size ≤ w5.heap.size := (HBB0.out.trans HB5.out).size
        clear hp5 hb5 ho5 z12
        go_wp2_with fail
        refine (line_new w0.heap.size b _ (d + 1) [⟨#[125]⟩] w5 HP5.out hs5 (Nat.le_of_ble_eq_true rfl) (by omega) HF3.out.2.2.1).mono ?_
        rintro e w6 ⟨rfl, hp6, hb6, ho6⟩
        obtain ⟨c2, q2, _, _⟩ := pg_cell hp6
        have HP6 : Hid (PgT w0.heap.size b ((((l2 ++ lineB (d + 1) (cat [⟨#[101, 108, 115, 101, 32, 123]⟩])) ++ txSs s.els (d + 1 + 1)) ++ lineB (d + 1) (cat [⟨#[125]⟩]))) d (w6.setCell ⟨b, 2, none⟩ (.int .i64 (d : Int)))) := pg_deep hp6
        have HO6 : Hid (Oth b W0 (w6.setCell ⟨b, 2, none⟩ (.int .i64 (d : Int)))) := (HO5.out.trans (((Lib.OthersKept.refl _ _ w5).alloc _).trans ho6)).setCell ⟨b, 2, none⟩ rfl _
        have HB6 : Hid (Below w0.heap.size W0 (w6.setCell ⟨b, 2, none⟩ (.int .i64 (d : Int)))) := (HB5.out.trans (((Below.refl _ w5).alloc hs5 _).trans hb6)).setCell (p := ⟨b, 2, none⟩) hBb _
        clear hp6 hb6 ho6
        go_upto_region 15 with fail
        obtain ⟨W7, hW7⟩ : ∃ W7, w6.setCell ⟨b, 2, none⟩ (.int .i64 (d : Int)) = W7 := ⟨_, rfl⟩
        rw [hW7] at HP6 HO6 HB6 ⊢
        have hs7 : w0.heap.size ≤ W7.heap.size := (HBB0.out.trans HB6.out).size
        clear hW7 c2 q2
        go_wp2_with fail
        refine (line_new w0.heap.size b _ d [⟨#[125]⟩] W7 HP6.out hs7 (Nat.le_of_ble_eq_true rfl) (by omega) HF3.out.2.2.2).mono ?_
        rintro e w8 ⟨rfl, hp8, hb8, ho8⟩
        have HP8 : Hid (PgT w0.heap.size b res d w8) := by show PgT _ _ _ _ _; rw [← HEQ.out]; exact hp8
        clear hp8
        go_wp2_with fail
        go_end0
        exact ⟨rfl, HP8.out, HBX.out.trans (HB6.out.trans (((Below.refl _ W7).alloc hs7 _).trans hb8)), HOX.out.trans (HO6.out.trans (((Lib.OthersKept.refl _ _ W7).alloc _).trans ho8))⟩
      · have hei : ¬ (0 : Int) < (s.els.length : Int) := by omega
        have HEQ : Hid (l2 ++ lineB d (cat [⟨#[125]⟩]) = res) := by
          show _ = _
          rw [← HRES.out, txSw, if_pos (by omega), ← HL2.out, ← HL1.out]
          simp only [List.append_assoc, List.nil_append]
        have HF3 : Hid ((l2 ++ lineB d (cat [⟨#[125]⟩])).length ≤ 140737488355328) := by show _ ≤ _; rw [HEQ.out]; exact HL.out
        obtain ⟨c2, q2, _, _⟩ := pg_cell HP9.out
        have HP6 : Hid (PgT w0.heap.size b l2 d (wr.setCell ⟨b, 2, none⟩ (.int .i64 (d : Int)))) := pg_deep HP9.out
        have HO6 : Hid (Oth b W0 (wr.setCell ⟨b, 2, none⟩ (.int .i64 (d : Int)))) := HOR.out.setCell ⟨b, 2, none⟩ rfl _
        have HB6 : Hid (Below w0.heap.size W0 (wr.setCell ⟨b, 2, none⟩ (.int .i64 (d : Int)))) := HBR.out.setCell (p := ⟨b, 2, none⟩) hBb _
        go_upto_region 15 with fail
        obtain ⟨W7, hW7⟩ : ∃ W7, wr.setCell ⟨b, 2, none⟩ (.int .i64 (d : Int)) = W7 := ⟨_, rfl⟩
        rw [hW7] at HP6 HO6 HB6 ⊢
        have hs7 : w0.heap.size ≤ W7.heap.size := (HBB0.out.trans HB6.out).size
        clear hW7 c2 q2 y12
        go_wp2_with fail
        refine (line_new w0.heap.size b _ d [⟨#[125]⟩] W7 HP6.out hs7 (Nat.le_of_ble_eq_true rfl) (by omega) HF3.out).mono ?_
        rintro e w8 ⟨rfl, hp8, hb8, ho8⟩
        have HP8 : Hid (PgT w0.heap.size b res d w8) := by show PgT _ _ _ _ _; rw [← HEQ.out]; exact hp8
        clear hp8
        go_wp2_with fail
        go_end0
        exact ⟨rfl, HP8.out, HBX.out.trans (HB6.out.trans (((Below.refl _ W7).alloc hs7 _).trans hb8)), HOX.out.trans (HO6.out.trans (((Lib.OthersKept.refl _ _ W7).alloc _).trans ho8))⟩

set_option maxRecDepth 100000 in
set_option maxHeartbeats 8000000 in
theorem stmt6 (w0 : World) (s : St) (hk : s.kind = 6) (hin : s.In w0) (ht : Tabs w0) (hnt : NumT w0) (hoa : OkE s.a) (hza : s.a.sz ≤ 1000000) (D : Nat) (hD : D ≤ 88) (hs : ∀ c ∈ s.cases, ∀ x ∈ c.body, StmtD w0 (D + 2) x) (hs2 : ∀ x ∈ s.els, StmtD w0 (D + 2) x) : StmtD w0 D s := by
  intro b l d w hB hp hd hlen
  have HT : Hid (txSw s d = txS s d) := by
    show _ = _; cases s; simp only [St.kind] at hk; subst hk; simp [txSw, txS, cat, St.a, St.els, St.cases]
  rw [← HT.out] at hlen ⊢
  obtain ⟨W0, hW0⟩ : ∃ W0, w.alloc (.cells #[.int .i64 6, .string s.name, .int .i64 s.n, .int .i64 s.a.kind, .int .i64 s.a.n, .string s.a.name, .slice s.a.a s.a.args.length s.a.cap, .int .i64 s.b.kind, .int .i64 s.b.n, .string s.b.name, .slice s.b.a s.b.args.length s.b.cap, .slice s.ba s.body.length s.bc, .slice s.ea s.els.length s.ec, .slice s.ca s.cases.length s.cc] 43) = W0 := ⟨_, rfl⟩
  have hbx : Below w.heap.size w W0 := by rw [← hW0]; exact (Below.refl _ w).alloc (Nat.le_refl _) _
  have hsw := hB.size
  have hB0 : Below w0.heap.size w0 W0 := hB.trans (hbx.mono hsw)
  have HQ := show Hid _ from choices_any w0 D s hin ht hnt hoa hza hD hs hs2 b l d W0 hB0 (hp.stay hbx) hd hlen
  have HBX : Hid (Below w0.heap.size w W0 ∧ Oth b w W0) := ⟨hbx.mono hsw, oth_below hbx⟩
  have HW0 := show Hid _ from hW0
  clear hW0 hin ht hnt hoa hza hp hlen hbx hB0 hB hs hs2 HT
  unfold St.val at HQ ⊢
  rw [hk] at HQ ⊢
  generalize txSw s d = tx at HQ ⊢
  go_enter Tryz.func62, Tryz.ntmps62
  go_wp2_with fail
  rw [HW0.out]
  refine Calls.mono (show Calls Tryz.prog _ _ _ _ from HQ.out) ?_
  rintro e w2 ⟨rfl, hp2, hb2, ho2⟩
  have HP2 : Hid (PgT w0.heap.size b (l ++ tx) d w2) := hp2
  clear hp2 HQ
  go_wp2_with fail
  go_end0
  exact ⟨rfl, HP2.out, HBX.out.1.trans hb2, HBX.out.2.trans ho2⟩
end Go.Proofs.YtbpemackmadhgaaGreatDoor

/- page.stmt at its other kinds: those of one line, and loops. -/
namespace Go.Proofs.YtbpemackmadhgaaGreatDoor
open Go.RowKit Go.Sort

set_option maxRecDepth 100000 in
set_option maxHeartbeats 8000000 in
theorem stmt7 (w0 : World) (s : St) (hk : s.kind = 7) (hin : s.In w0) (ht : Tabs w0) (hnt : NumT w0) (hoa : OkE s.a) (hza : s.a.sz ≤ 1000000) (hob : OkE s.b) (hzb : s.b.sz ≤ 1000000) (D : Nat) (hD : D ≤ 89) (hs : ∀ x ∈ s.body, StmtD w0 (D + 1) x) : StmtD w0 D s := by
  intro b l d w hB hp hd hlen
  have HT : Hid (lineB d (cat [⟨#[102, 111, 114, 32]⟩, s.name, ⟨#[32, 105, 110, 32]⟩, ⟨(txE s.a).toArray⟩, ⟨#[46, 46]⟩, ⟨(txE s.b).toArray⟩, ⟨#[32, 123]⟩]) ++ txSs s.body (d + 1) ++ lineB d (cat [⟨#[125]⟩]) = txS s d) := by
    show _ = _; cases s; simp only [St.kind] at hk; subst hk; simp [txS, cat, St.a, St.b, St.name, St.body]
  rw [← HT.out] at hlen ⊢
  have HLEN : Hid ((l ++ lineB d (cat [⟨#[102, 111, 114, 32]⟩, s.name, ⟨#[32, 105, 110, 32]⟩, ⟨(txE s.a).toArray⟩, ⟨#[46, 46]⟩, ⟨(txE s.b).toArray⟩, ⟨#[32, 123]⟩])).length ≤ 140737488355328) := by show _ ≤ _; simp only [List.length_append] at *; omega
  have HLN2 : Hid (((l ++ lineB d (cat [⟨#[102, 111, 114, 32]⟩, s.name, ⟨#[32, 105, 110, 32]⟩, ⟨(txE s.a).toArray⟩, ⟨#[46, 46]⟩, ⟨(txE s.b).toArray⟩, ⟨#[32, 123]⟩])) ++ txSs s.body (d + 1)).length ≤ 140737488355328) := by show _ ≤ _; simp only [List.length_append] at *; omega
  have HLN3 : Hid ((((l ++ lineB d (cat [⟨#[102, 111, 114, 32]⟩, s.name, ⟨#[32, 105, 110, 32]⟩, ⟨(txE s.a).toArray⟩, ⟨#[46, 46]⟩, ⟨(txE s.b).toArray⟩, ⟨#[32, 123]⟩])) ++ txSs s.body (d + 1)) ++ lineB d (cat [⟨#[125]⟩])).length ≤ 140737488355328) := by show _ ≤ _; simp only [List.length_append] at *; omega
  obtain ⟨W0, hW0⟩ : ∃ W0, w.alloc (.cells #[.int .i64 7, .string s.name, .int .i64 s.n, .int .i64 s.a.kind, .int .i64 s.a.n, .string s.a.name, .slice s.a.a s.a.args.length s.a.cap, .int .i64 s.b.kind, .int .i64 s.b.n, .string s.b.name, .slice s.b.a s.b.args.length s.b.cap, .slice s.ba s.body.length s.bc, .slice s.ea s.els.length s.ec, .slice s.ca s.cases.length s.cc] 43) = W0 := ⟨_, rfl⟩
  have hbx : Below w.heap.size w W0 := by rw [← hW0]; exact (Below.refl _ w).alloc (Nat.le_refl _) _
  have hbk : W0.heap[w.heap.size]? = some (.cells #[.int .i64 7, .string s.name, .int .i64 s.n, .int .i64 s.a.kind, .int .i64 s.a.n, .string s.a.name, .slice s.a.a s.a.args.length s.a.cap, .int .i64 s.b.kind, .int .i64 s.b.n, .string s.b.name, .slice s.b.a s.b.args.length s.b.cap, .slice s.ba s.body.length s.bc, .slice s.ea s.els.length s.ec, .slice s.ca s.cases.length s.cc] 43 (0, 0)) := by rw [← hW0]; exact heap_alloc_new w _
  have hsw := hB.size
  have hB0 : Below w0.heap.size w0 W0 := hB.trans (hbx.mono hsw)
  have hsx : w0.heap.size ≤ W0.heap.size := hB0.size
  have hblt : b < w.heap.size := by obtain ⟨q, h1⟩ := hp.some; exact h1.lt
  have hne : w.heap.size ≠ b := by omega
  have HPX : Hid (PgT w0.heap.size b l d W0) := hp.stay hbx
  have HOX : Hid (Oth b w W0) := oth_below hbx
  have HBX : Hid (Below w0.heap.size w W0) := hbx.mono hsw
  have HXA : Hid (∀ w', Below W0.heap.size W0 w' → Calls Tryz.prog 88 #[.agg #[.int .i64 s.a.kind, .int .i64 s.a.n, .string s.a.name, .slice s.a.a s.a.args.length s.a.cap]] w' fun e w'' => e = .returned (sB (txE s.a)) ∧ Below w'.heap.size w' w'') := fun w' h => expr_any s.a w' ((St.in_iff.1 hin).2.2.2.1.stay (hB0.trans (h.mono hsx))) (ht.stay (hB0.trans (h.mono hsx))) (hnt.stay (hB0.trans (h.mono hsx))) hoa hza
  have HXB : Hid (∀ w', Below W0.heap.size W0 w' → Calls Tryz.prog 88 #[.agg #[.int .i64 s.b.kind, .int .i64 s.b.n, .string s.b.name, .slice s.b.a s.b.args.length s.b.cap]] w' fun e w'' => e = .returned (sB (txE s.b)) ∧ Below w'.heap.size w' w'') := fun w' h => expr_any s.b w' ((St.in_iff.1 hin).2.2.2.2.1.stay (hB0.trans (h.mono hsx))) (ht.stay (hB0.trans (h.mono hsx))) (hnt.stay (hB0.trans (h.mono hsx))) hob hzb
  have y1 : ∀ w', Oth b W0 w' → w'.cell? ⟨w.heap.size, 1, none⟩ = some (.string s.name) := fun w' ho => oth_cell hbk (by decide) hne ho rfl
  have y3 : ∀ w', Oth b W0 w' → w'.cell? ⟨w.heap.size, 3, none⟩ = some (.int .i64 s.a.kind) := fun w' ho => oth_cell hbk (by decide) hne ho rfl
  have y4 : ∀ w', Oth b W0 w' → w'.cell? ⟨w.heap.size, 4, none⟩ = some (.int .i64 s.a.n) := fun w' ho => oth_cell hbk (by decide) hne ho rfl
  have y5 : ∀ w', Oth b W0 w' → w'.cell? ⟨w.heap.size, 5, none⟩ = some (.string s.a.name) := fun w' ho => oth_cell hbk (by decide) hne ho rfl
  have y6 : ∀ w', Oth b W0 w' → w'.cell? ⟨w.heap.size, 6, none⟩ = some (.slice s.a.a s.a.args.length s.a.cap) := fun w' ho => oth_cell hbk (by decide) hne ho rfl
  have y7 : ∀ w', Oth b W0 w' → w'.cell? ⟨w.heap.size, 7, none⟩ = some (.int .i64 s.b.kind) := fun w' ho => oth_cell hbk (by decide) hne ho rfl
  have y8 : ∀ w', Oth b W0 w' → w'.cell? ⟨w.heap.size, 8, none⟩ = some (.int .i64 s.b.n) := fun w' ho => oth_cell hbk (by decide) hne ho rfl
  have y9 : ∀ w', Oth b W0 w' → w'.cell? ⟨w.heap.size, 9, none⟩ = some (.string s.b.name) := fun w' ho => oth_cell hbk (by decide) hne ho rfl
  have y10 : ∀ w', Oth b W0 w' → w'.cell? ⟨w.heap.size, 10, none⟩ = some (.slice s.b.a s.b.args.length s.b.cap) := fun w' ho => oth_cell hbk (by decide) hne ho rfl
  have HY11 : Hid (∀ w', Oth b W0 w' → w'.cell? ⟨w.heap.size, 11, none⟩ = some (.slice s.ba s.body.length s.bc)) := fun w' ho => oth_cell hbk (by decide) hne ho rfl
  have HIN : Hid (s.In w0) := hin
  have HSS : Hid (∀ x ∈ s.body, StmtD w0 (D + 1) x) := hs
  have HBB0 : Hid (Below w0.heap.size w0 W0) := hB0
  have HW0 := show Hid _ from hW0
  have hdrew : Below W0.heap.size W0 W0.drew := Below.drew (Below.refl _ _)
  clear hW0 hin ht hnt hp hlen hbx hbk hblt hB0 hB hoa hza hob hzb hs
  unfold St.val
  rw [hk]
  go_enter Tryz.func62, Tryz.ntmps62
  go_wp2_with fail
  rw [HW0.out]
  clear HW0
  go_region_held3 (fun w' => Oth b W0 w') (first | exact oth_below (by assumption) | exact Lib.OthersKept.trans (by assumption) (oth_below (by assumption)) | exact Lib.OthersKept.alloc (by assumption) _ | assumption)
    (first
      | (go_at_call_of 88 (s.a.kind); refine (HXA.out _ (by assumption)).mono ?_; rintro e w' ⟨rfl, hb⟩; have hB : Below W0.heap.size W0 w' := Below.on (by assumption) hb)
      | (go_at_call_of 88 (s.b.kind); refine (HXB.out _ (by assumption)).mono ?_; rintro e w' ⟨rfl, hb⟩; have hB : Below W0.heap.size W0 w' := Below.on (by assumption) hb)
      | (go_at_call 35; refine (line_in (xs := [⟨#[102, 111, 114, 32]⟩, s.name, ⟨#[32, 105, 110, 32]⟩, ⟨(txE s.a).toArray⟩, ⟨#[46, 46]⟩, ⟨(txE s.b).toArray⟩, ⟨#[32, 123]⟩]) HPX.out (by assumption) hsx (Nat.le_of_ble_eq_true rfl) (by omega) HLEN.out).mono ?_; rintro e w' ⟨rfl, hpl, hbl, hol⟩))
  all_goals (have z11 := HY11.out _ hol; clear y1 y3 y4 y5 y6 y7 y8 y9 y10)
  all_goals go_wp2_with fail
  all_goals
    refine (bodyD w0 (D + 1) b _ d s.body s.ba s.bc w' (HBB0.out.trans hbl.out) hpl.out (by omega) (by omega) (St.in_iff.1 HIN.out).2.2.2.2.2.1 HSS.out HLN2.out).mono ?_
    rintro e w2 ⟨rfl, hp2, hb2, ho2⟩
    have HP2 : Hid (PgT w0.heap.size b ((l ++ lineB d (cat [⟨#[102, 111, 114, 32]⟩, s.name, ⟨#[32, 105, 110, 32]⟩, ⟨(txE s.a).toArray⟩, ⟨#[46, 46]⟩, ⟨(txE s.b).toArray⟩, ⟨#[32, 123]⟩])) ++ txSs s.body (d + 1)) d w2) := hp2
    have hs2 : w0.heap.size ≤ w2.heap.size := ((HBB0.out.trans hbl.out).trans hb2).size
    clear hp2 z11
    go_wp2_with fail
    refine (line_new w0.heap.size b _ d [⟨#[125]⟩] w2 HP2.out hs2 (Nat.le_of_ble_eq_true rfl) (by omega) HLN3.out).mono ?_
    rintro e w3 ⟨rfl, hp3, hb3, ho3⟩
    have HP3 : Hid (PgT w0.heap.size b (l ++ (lineB d (cat [⟨#[102, 111, 114, 32]⟩, s.name, ⟨#[32, 105, 110, 32]⟩, ⟨(txE s.a).toArray⟩, ⟨#[46, 46]⟩, ⟨(txE s.b).toArray⟩, ⟨#[32, 123]⟩]) ++ txSs s.body (d + 1) ++ lineB d (cat [⟨#[125]⟩]))) d w3) := by
      show PgT _ _ _ _ _; rw [← List.append_assoc, ← List.append_assoc]; exact hp3
    clear hp3
    go_wp2_with fail
    go_end0
    exact ⟨rfl, HP3.out, ((HBX.out.trans hbl.out).trans hb2).trans (((Below.refl _ w2).alloc hs2 _).trans hb3), ((HOX.out.trans hol).trans ho2).trans (((Lib.OthersKept.refl _ _ w2).alloc _).trans ho3)⟩
end Go.Proofs.YtbpemackmadhgaaGreatDoor
