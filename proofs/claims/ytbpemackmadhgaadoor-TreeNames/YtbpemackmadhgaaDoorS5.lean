/- sameCase, sameStmts and sameStmt at any depth. -/
import Derived.Test.YtbpemackmadhgaaDoorS3
import Derived.Test.YtbpemackmadhgaaDoorS4
import Derived.Test.YtbpemackmadhgaaDoorC9
namespace Go.Proofs.YtbpemackmadhgaaDoor
open Go.RowKit

/-- Two new blocks hold two statements' cells, in every world behind. -/
theorem boxes {w w1 : World} {x y : St} (hb : Below ((w.alloc (.cells #[.int .i64 x.kind, .string x.name, .int .i64 x.n, .int .i64 x.a.kind, .int .i64 x.a.n, .string x.a.name, .slice x.a.a x.a.args.length x.a.cap, .int .i64 x.b.kind, .int .i64 x.b.n, .string x.b.name, .slice x.b.a x.b.args.length x.b.cap, .slice x.ba x.body.length x.bc, .slice x.ea x.els.length x.ec, .slice x.ca x.cases.length x.cc] 46)).alloc (.cells #[.int .i64 y.kind, .string y.name, .int .i64 y.n, .int .i64 y.a.kind, .int .i64 y.a.n, .string y.a.name, .slice y.a.a y.a.args.length y.a.cap, .int .i64 y.b.kind, .int .i64 y.b.n, .string y.b.name, .slice y.b.a y.b.args.length y.b.cap, .slice y.ba y.body.length y.bc, .slice y.ea y.els.length y.ec, .slice y.ca y.cases.length y.cc] 46)).heap.size ((w.alloc (.cells #[.int .i64 x.kind, .string x.name, .int .i64 x.n, .int .i64 x.a.kind, .int .i64 x.a.n, .string x.a.name, .slice x.a.a x.a.args.length x.a.cap, .int .i64 x.b.kind, .int .i64 x.b.n, .string x.b.name, .slice x.b.a x.b.args.length x.b.cap, .slice x.ba x.body.length x.bc, .slice x.ea x.els.length x.ec, .slice x.ca x.cases.length x.cc] 46)).alloc (.cells #[.int .i64 y.kind, .string y.name, .int .i64 y.n, .int .i64 y.a.kind, .int .i64 y.a.n, .string y.a.name, .slice y.a.a y.a.args.length y.a.cap, .int .i64 y.b.kind, .int .i64 y.b.n, .string y.b.name, .slice y.b.a y.b.args.length y.b.cap, .slice y.ba y.body.length y.bc, .slice y.ea y.els.length y.ec, .slice y.ca y.cases.length y.cc] 46)) w1) : BoxS w1 w.heap.size x ∧ BoxS w1 (w.heap.size + 1) y := by
  obtain ⟨h1, h2, _⟩ := two_cells hb
  exact ⟨fun i v h => h1 i v (by simpa [St.cells] using h), fun i v h => h2 i v (by simpa [St.cells] using h)⟩

abbrev StmtOk (k : Nat) : Prop := ∀ (x y : St) (w : World), x.sz ≤ k → x.In w → y.In w → Calls Tryd.prog 51 #[x.val, y.val] w fun e w' => e = .returned (.bool (samS x y)) ∧ Below w.heap.size w w'
abbrev StmtsOk (k : Nat) : Prop := ∀ (l t : List St) (a a' : Option Addr) (c c' : Nat) (w : World), ssz l ≤ k → Have w a c l → Have w a' c' t → Calls Tryd.prog 34 #[.slice a l.length c, .slice a' t.length c'] w fun e w' => e = .returned (.bool (samSs l t)) ∧ Below w.heap.size w w'
abbrev CaseOk (k : Nat) : Prop := ∀ (x y : Ca) (w : World), x.sz ≤ k → x.In w → y.In w → Calls Tryd.prog 64 #[x.val, y.val] w fun e w' => e = .returned (.bool (samC x y)) ∧ Below w.heap.size w w'
abbrev CasesOk (k : Nat) : Prop := ∀ (l t : List Ca) (a a' : Option Addr) (c c' : Nat) (w : World), csz l ≤ k → HaveC w a c l → HaveC w a' c' t → Calls Tryd.prog 63 #[.slice a l.length c, .slice a' t.length c', .func (.func 64) #[] #[]] w fun e w' => e = .returned (.bool (samCs l t)) ∧ Below w.heap.size w w'

set_option maxHeartbeats 1000000 in
theorem sameStmts_step (k : Nat) (h1 : StmtOk k) : StmtsOk k := by
  intro l t a a' c c' w hk ha hb
  have HQ : Hid (Calls Tryd.prog 50 #[.slice a l.length c, .slice a' t.length c', .func (.func 51) #[] #[]] w fun e w' => e = .returned (.bool (samSs l t)) ∧ Below w.heap.size w w') := eqS_step k h1 l t a a' c c' w hk ha hb
  clear h1 ha hb
  go_enter Tryd.func34, Tryd.ntmps34
  go_wp2_with fail
  refine HQ.out.mono ?_
  rintro e w' ⟨rfl, hb'⟩
  go_wp2_with fail
  go_ret
  exact ⟨rfl, hb'⟩

set_option maxRecDepth 100000 in
set_option maxHeartbeats 4000000 in
theorem sameCase_step (k : Nat) (h2 : StmtsOk k) : CaseOk (k + 1) := by
  intro x y w hk hx hy
  have hb1 := ((Below.refl _ w).alloc (Nat.le_refl _) (.cells #[.int .i64 x.n, .slice x.ba x.body.length x.bc] 71)).alloc (by simp) (.cells #[.int .i64 y.n, .slice y.ba y.body.length y.bc] 71)
  have HQ : Hid (∀ w', Below w.heap.size w w' → Calls Tryd.prog 34 #[.slice x.ba x.body.length x.bc, .slice y.ba y.body.length y.bc] w' fun e w'' => e = .returned (.bool (samSs x.body y.body)) ∧ Below w'.heap.size w' w'') := fun w' hb => h2 _ _ _ _ _ _ w' (by have := x.sz_eq; omega) ((Ca.in_iff.1 hx).2.stay hb) ((Ca.in_iff.1 hy).2.stay hb)
  have HE : Hid (samC x y = (x.n == y.n && samSs x.body y.body)) := samC_eq x y
  clear h2 hx hy
  generalize samC x y = res at HE ⊢
  generalize samSs x.body y.body = sub at HE HQ
  unfold Ca.val
  cases e1 : (x.n == y.n)
  · go_enter Tryd.func64, Tryd.ntmps64
    go_wp2_with fail
    go_ret
    exact ⟨ret_bool (by rw [HE.out, e1]; rfl), hb1⟩
  · go_enter Tryd.func64, Tryd.ntmps64
    go_wp2_with fail
    refine (HQ.out _ hb1).mono ?_
    rintro e w' ⟨rfl, hb'⟩
    go_wp2_with fail
    go_ret
    exact ⟨ret_bool (by rw [HE.out, e1]; rfl), hb1.trans (hb'.mono hb1.size)⟩

set_option maxRecDepth 100000 in
set_option maxHeartbeats 8000000 in
theorem sameStmt_step (k : Nat) (h2 : StmtsOk k) (h4 : CasesOk k) : StmtOk (k + 1) := by
  intro x y w hk hx hy
  have hsz := x.sz_eq
  obtain ⟨_, _, _, xa, xb, xl, xe, xc, xs⟩ := St.in_iff.1 hx
  obtain ⟨_, _, _, ya, yb, yl, ye, yc, ys⟩ := St.in_iff.1 hy
  have hb1 := ((Below.refl _ w).alloc (Nat.le_refl _) (.cells #[.int .i64 x.kind, .string x.name, .int .i64 x.n, .int .i64 x.a.kind, .int .i64 x.a.n, .string x.a.name, .slice x.a.a x.a.args.length x.a.cap, .int .i64 x.b.kind, .int .i64 x.b.n, .string x.b.name, .slice x.b.a x.b.args.length x.b.cap, .slice x.ba x.body.length x.bc, .slice x.ea x.els.length x.ec, .slice x.ca x.cases.length x.cc] 46)).alloc (by simp) (.cells #[.int .i64 y.kind, .string y.name, .int .i64 y.n, .int .i64 y.a.kind, .int .i64 y.a.n, .string y.a.name, .slice y.a.a y.a.args.length y.a.cap, .int .i64 y.b.kind, .int .i64 y.b.n, .string y.b.name, .slice y.b.a y.b.args.length y.b.cap, .slice y.ba y.body.length y.bc, .slice y.ea y.els.length y.ec, .slice y.ca y.cases.length y.cc] 46)
  have HA : Hid (∀ w', Below w.heap.size w w' → Calls Tryd.prog 62 #[x.a.val, y.a.val] w' fun e w'' => e = .returned (.bool (samE x.a y.a)) ∧ Below w'.heap.size w' w'') := fun w' hb => sameExpr_any _ _ w' (xa.stay hb) (ya.stay hb)
  have HB : Hid (∀ w', Below w.heap.size w w' → Calls Tryd.prog 62 #[x.b.val, y.b.val] w' fun e w'' => e = .returned (.bool (samE x.b y.b)) ∧ Below w'.heap.size w' w'') := fun w' hb => sameExpr_any _ _ w' (xb.stay hb) (yb.stay hb)
  have HL : Hid (∀ w', Below w.heap.size w w' → Calls Tryd.prog 34 #[.slice x.ba x.body.length x.bc, .slice y.ba y.body.length y.bc] w' fun e w'' => e = .returned (.bool (samSs x.body y.body)) ∧ Below w'.heap.size w' w'') := fun w' hb => h2 _ _ _ _ _ _ w' (by omega) (xl.stay hb) (yl.stay hb)
  have HM : Hid (∀ w', Below w.heap.size w w' → Calls Tryd.prog 34 #[.slice x.ea x.els.length x.ec, .slice y.ea y.els.length y.ec] w' fun e w'' => e = .returned (.bool (samSs x.els y.els)) ∧ Below w'.heap.size w' w'') := fun w' hb => h2 _ _ _ _ _ _ w' (by omega) (xe.stay hb) (ye.stay hb)
  have HC : Hid (∀ w', Below w.heap.size w w' → Calls Tryd.prog 63 #[.slice x.ca x.cases.length x.cc, .slice y.ca y.cases.length y.cc, .func (.func 64) #[] #[]] w' fun e w'' => e = .returned (.bool (samCs x.cases y.cases)) ∧ Below w'.heap.size w' w'') := fun w' hb => h4 _ _ _ _ _ _ w' (by omega) ⟨xc.below hb, fun z hz => (xs z hz).stay hb⟩ ⟨yc.below hb, fun z hz => (ys z hz).stay hb⟩
  have HE : Hid (samS x y = (x.kind == y.kind && (x.name.toList == y.name.toList && (x.n == y.n && (samE x.a y.a && (samE x.b y.b && (samSs x.body y.body && (samSs x.els y.els && samCs x.cases y.cases)))))))) := samS_eq x y
  clear h2 h4 hx hy xa xb xl xe xc xs ya yb yl ye yc ys hsz hk
  generalize samS x y = res at HE ⊢
  generalize samE x.a y.a = ra at HE HA
  generalize samE x.b y.b = rb at HE HB
  generalize samSs x.body y.body = rl at HE HL
  generalize samSs x.els y.els = re at HE HM
  generalize samCs x.cases y.cases = rc at HE HC
  unfold Ex.val at HA HB
  unfold St.val
  cases e1 : (x.kind == y.kind)
  · go_enter Tryd.func51, Tryd.ntmps51
    go_wp2_with fail
    go_ret
    exact ⟨ret_bool (by rw [HE.out, e1]; rfl), hb1⟩
  cases e2 : (x.name.toList == y.name.toList)
  · go_enter Tryd.func51, Tryd.ntmps51
    go_wp2_with fail
    go_ret
    exact ⟨ret_bool (by rw [HE.out, e1, e2]; rfl), hb1⟩
  cases e3 : (x.n == y.n)
  · go_enter Tryd.func51, Tryd.ntmps51
    go_wp2_with fail
    go_ret
    exact ⟨ret_bool (by rw [HE.out, e1, e2, e3]; rfl), hb1⟩
  have HE2 : Hid (res = (ra && (rb && (rl && (re && rc))))) := (by rw [HE.out, e1, e2, e3]; rfl : res = _)
  clear HE
  go_enter Tryd.func51, Tryd.ntmps51
  go_wp2_with fail
  refine (HA.out _ hb1).mono ?_
  rintro e w1 ⟨rfl, k0⟩
  obtain ⟨X0, Y0⟩ := boxes k0
  have g0 : Below w.heap.size w w1 := hb1.trans (k0.mono hb1.size)
  have hs1 : w.heap.size + 1 < w1.heap.size := by have := k0.size; simp at this; omega
  have XH0 : Hid (BoxS w1 w.heap.size x) := X0
  have YH0 : Hid (BoxS w1 (w.heap.size + 1) y) := Y0
  clear X0 Y0 k0
  have c7 := XH0.out 7 _ rfl
  have d7 := YH0.out 7 _ rfl
  have c8 := XH0.out 8 _ rfl
  have d8 := YH0.out 8 _ rfl
  have c9 := XH0.out 9 _ rfl
  have d9 := YH0.out 9 _ rfl
  have c10 := XH0.out 10 _ rfl
  have d10 := YH0.out 10 _ rfl
  cases ra
  · go_wp2_with fail
    go_ret
    exact ⟨ret_bool (by rw [HE2.out]; rfl), g0⟩
  go_wp2_with fail
  refine (HB.out _ g0).mono ?_
  rintro e w2 ⟨rfl, k1⟩
  have X1 := XH0.out.below k1 (by omega)
  have Y1 := YH0.out.below k1 (by omega)
  have g1 : Below w.heap.size w w2 := g0.trans (k1.mono g0.size)
  have hs2 : w.heap.size + 1 < w2.heap.size := by have := k1.size; omega
  clear c7 d7 c8 d8 c9 d9 c10 d10
  have XH1 : Hid (BoxS w2 w.heap.size x) := X1
  have YH1 : Hid (BoxS w2 (w.heap.size + 1) y) := Y1
  clear X1 Y1 k1
  have c11 := XH1.out 11 _ rfl
  have d11 := YH1.out 11 _ rfl
  cases rb
  · go_wp2_with fail
    go_ret
    exact ⟨ret_bool (by rw [HE2.out]; rfl), g1⟩
  go_wp2_with fail
  refine (HL.out _ g1).mono ?_
  rintro e w3 ⟨rfl, k2⟩
  have X2 := XH1.out.below k2 (by omega)
  have Y2 := YH1.out.below k2 (by omega)
  have g2 : Below w.heap.size w w3 := g1.trans (k2.mono g1.size)
  have hs3 : w.heap.size + 1 < w3.heap.size := by have := k2.size; omega
  clear c11 d11
  have XH2 : Hid (BoxS w3 w.heap.size x) := X2
  have YH2 : Hid (BoxS w3 (w.heap.size + 1) y) := Y2
  clear X2 Y2 k2
  have c12 := XH2.out 12 _ rfl
  have d12 := YH2.out 12 _ rfl
  cases rl
  · go_wp2_with fail
    go_ret
    exact ⟨ret_bool (by rw [HE2.out]; rfl), g2⟩
  go_wp2_with fail
  refine (HM.out _ g2).mono ?_
  rintro e w4 ⟨rfl, k3⟩
  have X3 := XH2.out.below k3 (by omega)
  have Y3 := YH2.out.below k3 (by omega)
  have g3 : Below w.heap.size w w4 := g2.trans (k3.mono g2.size)
  have hs4 : w.heap.size + 1 < w4.heap.size := by have := k3.size; omega
  clear c12 d12
  have XH3 : Hid (BoxS w4 w.heap.size x) := X3
  have YH3 : Hid (BoxS w4 (w.heap.size + 1) y) := Y3
  clear X3 Y3 k3
  have c13 := XH3.out 13 _ rfl
  have d13 := YH3.out 13 _ rfl
  cases re
  · go_wp2_with fail
    go_ret
    exact ⟨ret_bool (by rw [HE2.out]; rfl), g3⟩
  go_wp2_with fail
  refine (HC.out _ g3).mono ?_
  rintro e w5 ⟨rfl, k4⟩
  have X4 := XH3.out.below k4 (by omega)
  have Y4 := YH3.out.below k4 (by omega)
  have g4 : Below w.heap.size w w5 := g3.trans (k4.mono g3.size)
  have hs5 : w.heap.size + 1 < w5.heap.size := by have := k4.size; omega
  clear c13 d13
  have XH4 : Hid (BoxS w5 w.heap.size x) := X4
  have YH4 : Hid (BoxS w5 (w.heap.size + 1) y) := Y4
  clear X4 Y4 k4
  go_wp2_with fail
  go_ret
  exact ⟨ret_bool (by rw [HE2.out]; rfl), g4⟩

theorem same_all (k : Nat) : StmtOk k ∧ CaseOk k := by
  induction k with
  | zero => exact ⟨fun x _ _ h => by have := x.sz_eq; omega, fun x _ _ h => by have := x.sz_eq; omega⟩
  | succ k ih =>
    have hS := sameStmts_step k ih.1
    exact ⟨sameStmt_step k hS (fun l t a a' c c' w hk ha hb => eqC_step k ih.2 l t a a' c c' w hk ha hb), sameCase_step k hS⟩
theorem sameStmts_any (l t : List St) (a a' : Option Addr) (c c' : Nat) (w : World) (ha : Have w a c l) (hb : Have w a' c' t) : Calls Tryd.prog 34 #[.slice a l.length c, .slice a' t.length c'] w fun e w' => e = .returned (.bool (samSs l t)) ∧ Below w.heap.size w w' :=
  sameStmts_step _ (same_all _).1 l t a a' c c' w (Nat.le_refl _) ha hb
end Go.Proofs.YtbpemackmadhgaaDoor
