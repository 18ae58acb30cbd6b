/- Programs as trees, with the addresses at which their lists lie; what it is that a world holds such a tree. -/
import Derived.WalkKit
import Derived.WalkSpells
import Derived.WalkLawsBesides
import Derived.ProofKit
import Derived.Test.YtakaldbhaoidiaaDoorProg
import Derived.Deep.QuietTactic
import Derived.BigQuiet
import Derived.Below
import Derived.Lib.Walk
import Derived.Lib.QuietBelow
import Derived.Deep.RegionWith
import Derived.Test.YtakaldbhaoidiaaDoorCards
import Derived.Test.YtakaldbhaoidiaaDoorTie
import Derived.OpenShut
import Derived.Deep.DeepHandedRow
import Derived.Lib.LaidTab
import Derived.Stop.LaidErr
import Derived.Test.YtakaldbhaoidiaaDoorRows
import Derived.Deep.Slices
namespace Go.Proofs.YtakaldbhaoidiaaDoor
open Go.RowKit

/-- An expression: kind, number, name; where its arguments lie, how much room is there, and they. -/
inductive Ex where
  | mk (kind n : Int) (name : ByteArray) (a : Option Addr) (cap : Nat) (args : List Ex)

namespace Ex
def kind : Ex → Int | mk k _ _ _ _ _ => k
def n : Ex → Int | mk _ n _ _ _ _ => n
def name : Ex → ByteArray | mk _ _ s _ _ _ => s
def a : Ex → Option Addr | mk _ _ _ a _ _ => a
def cap : Ex → Nat | mk _ _ _ _ c _ => c
def args : Ex → List Ex | mk _ _ _ _ _ l => l
/-- The value of an expression. -/
def cells (x : Ex) : List Value := [.int .i64 x.kind, .int .i64 x.n, .string x.name, .slice x.a x.args.length x.cap]
def val (x : Ex) : Value := .agg #[.int .i64 x.kind, .int .i64 x.n, .string x.name, .slice x.a x.args.length x.cap]
end Ex

mutual
def Ex.sz : Ex → Nat | .mk _ _ _ _ _ l => szL l + 1
def szL : List Ex → Nat | [] => 0 | x :: r => x.sz + szL r
end

theorem Ex.sz_args (x : Ex) : x.sz = szL x.args + 1 := by cases x; simp [Ex.sz, Ex.args]
theorem szL_mem {l : List Ex} {x : Ex} (h : x ∈ l) : x.sz ≤ szL l := by
  induction l with
  | nil => cases h
  | cons y r ih =>
    rw [szL]
    rcases List.mem_cons.1 h with rfl | h
    · omega
    · have := ih h; omega

/-- Numbers of 64 bits. -/
def I64 (n : Int) : Prop := -9223372036854775808 ≤ n ∧ n ≤ 9223372036854775807

/-- A list's elements, of so many cells each, lie at an address. -/
def RowIn (W : World) (a : Option Addr) (sz : Nat) (rows : List (List Value)) : Prop :=
  ∀ i cs, rows[i]? = some cs → ∃ b o, a = some ⟨b, o, none⟩ ∧ ∀ j v, cs[j]? = some v → W.cell? ⟨b, o + (i * sz + j), none⟩ = some v

mutual
def Ex.In (W : World) : Ex → Prop
  | .mk k n s a c l => I64 k ∧ I64 n ∧ s.size ≤ 140737488351232 ∧ l.length ≤ c ∧ c * 56 ≤ 140737488351232 ∧ (a = none → c = 0) ∧ RowIn W a 4 (l.map Ex.cells) ∧ InL W l
def InL (W : World) : List Ex → Prop
  | [] => True
  | x :: r => x.In W ∧ InL W r
end

theorem inL_mem {W : World} {l : List Ex} : InL W l ↔ ∀ x ∈ l, x.In W := by
  induction l with
  | nil => simp [InL]
  | cons y r ih => simp [InL, ih]
theorem Ex.in_iff {W : World} {x : Ex} : x.In W ↔ I64 x.kind ∧ I64 x.n ∧ x.name.size ≤ 140737488351232 ∧ x.args.length ≤ x.cap ∧ x.cap * 56 ≤ 140737488351232 ∧ (x.a = none → x.cap = 0) ∧ RowIn W x.a 4 (x.args.map Ex.cells) ∧ ∀ y ∈ x.args, y.In W := by
  cases x; simp only [Ex.In, Ex.kind, Ex.n, Ex.name, Ex.a, Ex.cap, Ex.args, inL_mem]

theorem lt_of_cell {W : World} {p : Addr} {v : Value} (h : W.cell? p = some v) : p.block < W.heap.size := by
  by_cases hlt : p.block < W.heap.size
  · exact hlt
  · unfold World.cell? at h
    rw [Array.getElem?_eq_none (by omega)] at h
    cases h

theorem RowIn.below {W W' : World} {a : Option Addr} {sz : Nat} {rows : List (List Value)} (h : RowIn W a sz rows) (hb : Below W.heap.size W W') : RowIn W' a sz rows := by
  intro i cs hi
  obtain ⟨b, o, e, hc⟩ := h i cs hi
  refine ⟨b, o, e, fun j v hj => ?_⟩
  have := hc j v hj
  exact (hb.cell (lt_of_cell this)).trans this

theorem Ex.In.below {W W' : World} (hb : Below W.heap.size W W') : ∀ (k : Nat) (x : Ex), x.sz ≤ k → x.In W → x.In W' := by
  intro k
  induction k with
  | zero => intro x hk; have := x.sz_args; omega
  | succ k ih =>
    intro x hk h
    obtain ⟨h1, h2, h3, h4, h5, h6, h7, h8⟩ := Ex.in_iff.1 h
    refine Ex.in_iff.2 ⟨h1, h2, h3, h4, h5, h6, h7.below hb, fun y hy => ih y ?_ (h8 y hy)⟩
    have := x.sz_args; have := szL_mem hy; omega
end Go.Proofs.YtakaldbhaoidiaaDoor

/- How many parts an expression adds. -/
namespace Go.Proofs.YtakaldbhaoidiaaDoor
open Go.RowKit

mutual
def cntE : Ex → Int → Int | .mk _ _ _ _ _ l, n => cntL l (n + 1)
def cntL : List Ex → Int → Int | [], n => n | x :: r, n => if 4096 < n then n else cntL r (cntE x n)
end

theorem cntE_args (x : Ex) (n : Int) : cntE x n = cntL x.args (n + 1) := by cases x; simp [cntE, Ex.args]
theorem cntL_drop {l : List Ex} {j : Nat} {n : Int} (h : j < l.length) : cntL (l.drop j) n = if 4096 < n then n else cntL (l.drop (j + 1)) (cntE l[j] n) := by
  rw [List.drop_eq_getElem_cons h, cntL]

theorem cnt_ge (k : Nat) : (∀ (x : Ex) (n : Int), x.sz ≤ k → n + 1 ≤ cntE x n) ∧ (∀ (l : List Ex) (n : Int), szL l ≤ k → n ≤ cntL l n) := by
  induction k with
  | zero =>
    refine ⟨fun x n hk => by have := x.sz_args; omega, fun l n hk => ?_⟩
    cases l with
    | nil => simp [cntL]
    | cons x r => rw [szL] at hk; have := x.sz_args; omega
  | succ k ih =>
    have h1 : ∀ (x : Ex) (n : Int), x.sz ≤ k + 1 → n + 1 ≤ cntE x n := fun x n hk => by
      rw [cntE_args]; exact ih.2 _ _ (by have := x.sz_args; omega)
    refine ⟨h1, fun l => ?_⟩
    induction l with
    | nil => intro n _; simp [cntL]
    | cons x r ihr =>
      intro n hk
      rw [szL] at hk
      rw [cntL]
      split
      · exact Int.le_refl _
      · have := h1 x n (by omega)
        have := ihr (cntE x n) (by omega)
        omega
theorem cntE_ge (x : Ex) (n : Int) : n + 1 ≤ cntE x n := (cnt_ge _).1 x n (Nat.le_refl _)
theorem cntL_ge (l : List Ex) (n : Int) : n ≤ cntL l n := (cnt_ge _).2 l n (Nat.le_refl _)

theorem row_at {W : World} {a : Option Addr} {l : List Ex} (h : RowIn W a 4 (l.map Ex.cells)) {i : Nat} (hi : i < l.length) :
    ∃ b o, a = some ⟨b, o, none⟩ ∧ W.cell? ⟨b, o + i * 4, none⟩ = some (.int .i64 l[i].kind) ∧ W.cell? ⟨b, o + i * 4 + 1, none⟩ = some (.int .i64 l[i].n) ∧ W.cell? ⟨b, o + i * 4 + 2, none⟩ = some (.string l[i].name) ∧ W.cell? ⟨b, o + i * 4 + 3, none⟩ = some (.slice l[i].a l[i].args.length l[i].cap) := by
  obtain ⟨b, o, e, hc⟩ := h i l[i].cells (by simp [hi])
  exact ⟨b, o, e, hc 0 _ rfl, hc 1 _ rfl, hc 2 _ rfl, hc 3 _ rfl⟩

theorem ret_int {k : IntKind} {a b : Int} (h : a = b) : Ending.returned (.int k a) = .returned (.int k b) := by rw [h]
theorem ret_bool {a b : Bool} (h : a = b) : Ending.returned (.bool a) = .returned (.bool b) := by rw [h]

set_option maxRecDepth 100000 in
set_option maxHeartbeats 2000000 in
theorem countExpr_k (k : Nat) : ∀ (x : Ex) (n : Int) (w : World), x.sz ≤ k → x.In w → 0 ≤ n → n ≤ 4611686018427387904 →
    Calls Tryd.prog 70 #[x.val, .int .i64 n] w fun e w' => e = .returned (.int .i64 (cntE x n)) ∧ Below w.heap.size w w' := by
  induction k with
  | zero => intro x n w hk; have := x.sz_args; omega
  | succ k ih =>
    intro x n w hk hin h0 h1
    obtain ⟨kd, nn, s, a, c, l⟩ := x
    have hin' := Ex.in_iff.1 hin
    simp only [Ex.kind, Ex.n, Ex.name, Ex.a, Ex.cap, Ex.args] at hin'
    obtain ⟨_, _, _, hl, hc, _, hrow, hsub⟩ := hin'
    have hszl : szL l ≤ k := by have := (Ex.mk kd nn s a c l).sz_args; simp only [Ex.args] at this; omega
    rw [cntE_args]
    unfold Ex.val
    simp only [Ex.kind, Ex.n, Ex.name, Ex.a, Ex.cap, Ex.args]
    have IH : Hid (∀ (x : Ex) (n : Int) (w : World), x.sz ≤ k → x.In w → 0 ≤ n → n ≤ 4611686018427387904 →
      Calls Tryd.prog 70 #[x.val, .int .i64 n] w fun e w' => e = .returned (.int .i64 (cntE x n)) ∧ Below w.heap.size w w') := ih
    have HS : Hid (∀ (y : Ex), y ∈ l → Ex.In w y) := hsub
    have HR : Hid (RowIn w a 4 (List.map Ex.cells l)) := hrow
    clear ih hsub hrow hin hk
    go_enter Tryd.func70, Tryd.ntmps70
    go_wp2_with fail
    go_loopw [1, 12] (fun t1 t12 wr => ∃ (j : Nat) (m : Int), j ≤ l.length ∧ t1 = .int .i64 m ∧ t12 = .int .i64 j ∧ 0 ≤ m ∧ cntL (l.drop j) m = cntL l (n + 1) ∧ Below w.heap.size w wr) (fun _ t12 _ => l.length - (intOf t12).toNat)
    case atStart => exact ⟨0, n + 1, Nat.zero_le _, rfl, rfl, by omega, by simp, (Below.refl _ w).alloc (Nat.le_refl _) _⟩
    case round =>
      obtain ⟨j, m, hj, rfl, rfl, hm0, hcnt, hb⟩ := hrel
      have HC : Hid (cntL (l.drop j) m = cntL l (n + 1)) := hcnt
      clear hcnt
      have hws := hb.size
      by_cases hlt : j < l.length
      · obtain ⟨b, o, rfl, c0, c1, c2, c3⟩ := row_at (HR.out.below hb) hlt
        have hli : (j : Int) < (l.length : Int) := by omega
        by_cases hm : 4096 < m
        · go_wp2_with fail
          go_ret
          refine ⟨ret_int ?_, hb.alloc hws _⟩
          rw [← HC.out, cntL_drop hlt, if_pos hm]
        · have hy := HS.out l[j] (List.getElem_mem hlt)
          have hsy := szL_mem (List.getElem_mem hlt)
          go_wp2_with fail
          refine (IH.out l[j] m _ (by omega) (Ex.In.below ((Below.mono hb (Nat.le_refl _)).alloc hws _) _ _ (Nat.le_refl _) hy) hm0 (by omega)).mono ?_
          rintro e w' ⟨rfl, hb'⟩
          have hge := cntE_ge l[j] m
          go_wp2_with fail
          go_roundw
          case rel =>
            refine ⟨j + 1, cntE l[j] m, by omega, rfl, by go_num, by omega, ?_, ?_⟩
            · rw [← HC.out, cntL_drop hlt, if_neg (by omega)]
            · exact (hb.alloc hws _).trans (hb'.mono (by simp; omega))
          case measure => simp [intOf]; omega
      · go_wp2_with fail
        go_ret
        refine ⟨ret_int ?_, hb⟩
        rw [← HC.out, List.drop_eq_nil_of_le (by omega)]; simp [cntL]
theorem countExpr_any (x : Ex) (n : Int) (w : World) (hin : x.In w) (h0 : 0 ≤ n) (h1 : n ≤ 4611686018427387904) :
    Calls Tryd.prog 70 #[x.val, .int .i64 n] w fun e w' => e = .returned (.int .i64 (cntE x n)) ∧ Below w.heap.size w w' := countExpr_k _ x n w (Nat.le_refl _) hin h0 h1
end Go.Proofs.YtakaldbhaoidiaaDoor

/- Statements, cases, functions and programs, with the addresses at which their lists lie. -/
namespace Go.Proofs.YtakaldbhaoidiaaDoor
open Go.RowKit

mutual
inductive St where
  | mk (kind : Int) (name : ByteArray) (n : Int) (a b : Ex) (ba : Option Addr) (bc : Nat) (body : List St) (ea : Option Addr) (ec : Nat) (els : List St) (ca : Option Addr) (cc : Nat) (cases : List Ca)
inductive Ca where
  | mk (n : Int) (ba : Option Addr) (bc : Nat) (body : List St)
end

namespace St
def kind : St → Int | mk k _ _ _ _ _ _ _ _ _ _ _ _ _ => k
def name : St → ByteArray | mk _ s _ _ _ _ _ _ _ _ _ _ _ _ => s
def n : St → Int | mk _ _ n _ _ _ _ _ _ _ _ _ _ _ => n
def a : St → Ex | mk _ _ _ a _ _ _ _ _ _ _ _ _ _ => a
def b : St → Ex | mk _ _ _ _ b _ _ _ _ _ _ _ _ _ => b
def ba : St → Option Addr | mk _ _ _ _ _ x _ _ _ _ _ _ _ _ => x
def bc : St → Nat | mk _ _ _ _ _ _ x _ _ _ _ _ _ _ => x
def body : St → List St | mk _ _ _ _ _ _ _ x _ _ _ _ _ _ => x
def ea : St → Option Addr | mk _ _ _ _ _ _ _ _ x _ _ _ _ _ => x
def ec : St → Nat | mk _ _ _ _ _ _ _ _ _ x _ _ _ _ => x
def els : St → List St | mk _ _ _ _ _ _ _ _ _ _ x _ _ _ => x
def ca : St → Option Addr | mk _ _ _ _ _ _ _ _ _ _ _ x _ _ => x
def cc : St → Nat | mk _ _ _ _ _ _ _ _ _ _ _ _ x _ => x
def cases : St → List Ca | mk _ _ _ _ _ _ _ _ _ _ _ _ _ x => x
def cells (s : St) : List Value := [.int .i64 s.kind, .string s.name, .int .i64 s.n,
  .int .i64 s.a.kind, .int .i64 s.a.n, .string s.a.name, .slice s.a.a s.a.args.length s.a.cap,
  .int .i64 s.b.kind, .int .i64 s.b.n, .string s.b.name, .slice s.b.a s.b.args.length s.b.cap,
  .slice s.ba s.body.length s.bc, .slice s.ea s.els.length s.ec, .slice s.ca s.cases.length s.cc]
def val (s : St) : Value := .agg #[.int .i64 s.kind, .string s.name, .int .i64 s.n,
  .int .i64 s.a.kind, .int .i64 s.a.n, .string s.a.name, .slice s.a.a s.a.args.length s.a.cap,
  .int .i64 s.b.kind, .int .i64 s.b.n, .string s.b.name, .slice s.b.a s.b.args.length s.b.cap,
  .slice s.ba s.body.length s.bc, .slice s.ea s.els.length s.ec, .slice s.ca s.cases.length s.cc]
end St
namespace Ca
def n : Ca → Int | mk n _ _ _ => n
def ba : Ca → Option Addr | mk _ x _ _ => x
def bc : Ca → Nat | mk _ _ x _ => x
def body : Ca → List St | mk _ _ _ x => x
def cells (c : Ca) : List Value := [.int .i64 c.n, .slice c.ba c.body.length c.bc]
def val (c : Ca) : Value := .agg #[.int .i64 c.n, .slice c.ba c.body.length c.bc]
end Ca

mutual
def St.sz : St → Nat | .mk _ _ _ _ _ _ _ l _ _ e _ _ c => ssz l + ssz e + csz c + 1
def Ca.sz : Ca → Nat | .mk _ _ _ l => ssz l + 1
def ssz : List St → Nat | [] => 0 | x :: r => x.sz + ssz r
def csz : List Ca → Nat | [] => 0 | x :: r => x.sz + csz r
end
theorem St.sz_eq (s : St) : s.sz = ssz s.body + ssz s.els + csz s.cases + 1 := by cases s; simp [St.sz, St.body, St.els, St.cases]
theorem Ca.sz_eq (c : Ca) : c.sz = ssz c.body + 1 := by cases c; simp [Ca.sz, Ca.body]
theorem ssz_mem {l : List St} {x : St} (h : x ∈ l) : x.sz ≤ ssz l := by
  induction l with
  | nil => cases h
  | cons y r ih =>
    rw [ssz]
    rcases List.mem_cons.1 h with rfl | h
    · omega
    · have := ih h; omega
theorem csz_mem {l : List Ca} {x : Ca} (h : x ∈ l) : x.sz ≤ csz l := by
  induction l with
  | nil => cases h
  | cons y r ih =>
    rw [csz]
    rcases List.mem_cons.1 h with rfl | h
    · omega
    · have := ih h; omega

/-- A list of statements lies at an address. -/
def Lies (W : World) (a : Option Addr) (c : Nat) (l : List St) : Prop := l.length ≤ c ∧ l.length * 216 ≤ 140737488351232 ∧ (a = none → c = 0) ∧ RowIn W a 14 (l.map St.cells)
def LiesC (W : World) (a : Option Addr) (c : Nat) (l : List Ca) : Prop := l.length ≤ c ∧ c * 32 ≤ 140737488351232 ∧ (a = none → c = 0) ∧ RowIn W a 2 (l.map Ca.cells)

mutual
def St.In (W : World) : St → Prop
  | .mk k s n a b ba bc l ea ec e ca cc c => I64 k ∧ s.size ≤ 140737488351232 ∧ I64 n ∧ a.In W ∧ b.In W ∧ Lies W ba bc l ∧ Lies W ea ec e ∧ LiesC W ca cc c ∧ InS W l ∧ InS W e ∧ InC W c
def Ca.In (W : World) : Ca → Prop
  | .mk n a c l => I64 n ∧ Lies W a c l ∧ InS W l
def InS (W : World) : List St → Prop
  | [] => True
  | x :: r => x.In W ∧ InS W r
def InC (W : World) : List Ca → Prop
  | [] => True
  | x :: r => x.In W ∧ InC W r
end
theorem inS_mem {W : World} {l : List St} : InS W l ↔ ∀ x ∈ l, x.In W := by
  induction l with
  | nil => simp [InS]
  | cons y r ih => simp [InS, ih]
theorem inC_mem {W : World} {l : List Ca} : InC W l ↔ ∀ x ∈ l, x.In W := by
  induction l with
  | nil => simp [InC]
  | cons y r ih => simp [InC, ih]
/-- A list of statements lies at an address, and all that they have. -/
def Have (W : World) (a : Option Addr) (c : Nat) (l : List St) : Prop := Lies W a c l ∧ ∀ x ∈ l, x.In W
theorem St.in_iff {W : World} {s : St} : s.In W ↔ I64 s.kind ∧ s.name.size ≤ 140737488351232 ∧ I64 s.n ∧ s.a.In W ∧ s.b.In W ∧ Have W s.ba s.bc s.body ∧ Have W s.ea s.ec s.els ∧ LiesC W s.ca s.cc s.cases ∧ ∀ x ∈ s.cases, x.In W := by
  cases s
  simp only [St.In, St.kind, St.name, St.n, St.a, St.b, St.ba, St.bc, St.body, St.ea, St.ec, St.els, St.ca, St.cc, St.cases, inS_mem, inC_mem, Have]
  constructor
  · rintro ⟨h1, h2, h3, h4, h5, h6, h7, h8, h9, h10, h11⟩; exact ⟨h1, h2, h3, h4, h5, ⟨h6, h9⟩, ⟨h7, h10⟩, h8, h11⟩
  · rintro ⟨h1, h2, h3, h4, h5, ⟨h6, h9⟩, ⟨h7, h10⟩, h8, h11⟩; exact ⟨h1, h2, h3, h4, h5, h6, h7, h8, h9, h10, h11⟩
theorem Ca.in_iff {W : World} {c : Ca} : c.In W ↔ I64 c.n ∧ Have W c.ba c.bc c.body := by
  cases c
  simp only [Ca.In, Ca.n, Ca.ba, Ca.bc, Ca.body, inS_mem, Have]

theorem Lies.below {W W' : World} (hb : Below W.heap.size W W') {a : Option Addr} {c : Nat} {l : List St} (h : Lies W a c l) : Lies W' a c l := ⟨h.1, h.2.1, h.2.2.1, h.2.2.2.below hb⟩
theorem LiesC.below {W W' : World} (hb : Below W.heap.size W W') {a : Option Addr} {c : Nat} {l : List Ca} (h : LiesC W a c l) : LiesC W' a c l := ⟨h.1, h.2.1, h.2.2.1, h.2.2.2.below hb⟩
theorem Ex.In.stay {W W' : World} (hb : Below W.heap.size W W') {x : Ex} (h : x.In W) : x.In W' := Ex.In.below hb _ x (Nat.le_refl _) h

theorem in_below {W W' : World} (hb : Below W.heap.size W W') (k : Nat) : (∀ s : St, s.sz ≤ k → s.In W → s.In W') ∧ (∀ c : Ca, c.sz ≤ k → c.In W → c.In W') := by
  induction k with
  | zero => exact ⟨fun s h => by have := s.sz_eq; omega, fun c h => by have := c.sz_eq; omega⟩
  | succ k ih =>
    refine ⟨fun s hk h => ?_, fun c hk h => ?_⟩
    · obtain ⟨h1, h2, h3, h4, h5, h6, h7, h8, h9⟩ := St.in_iff.1 h
      have := s.sz_eq
      refine St.in_iff.2 ⟨h1, h2, h3, h4.stay hb, h5.stay hb, ⟨h6.1.below hb, fun x hx => ih.1 x ?_ (h6.2 x hx)⟩, ⟨h7.1.below hb, fun x hx => ih.1 x ?_ (h7.2 x hx)⟩, h8.below hb, fun x hx => ih.2 x ?_ (h9 x hx)⟩
      · have := ssz_mem hx; omega
      · have := ssz_mem hx; omega
      · have := csz_mem hx; omega
    · obtain ⟨h1, h2⟩ := Ca.in_iff.1 h
      have := c.sz_eq
      refine Ca.in_iff.2 ⟨h1, h2.1.below hb, fun x hx => ih.1 x ?_ (h2.2 x hx)⟩
      have := ssz_mem hx; omega
theorem St.In.stay {W W' : World} (hb : Below W.heap.size W W') {s : St} (h : s.In W) : s.In W' := (in_below hb _).1 s (Nat.le_refl _) h
theorem Ca.In.stay {W W' : World} (hb : Below W.heap.size W W') {c : Ca} (h : c.In W) : c.In W' := (in_below hb _).2 c (Nat.le_refl _) h
theorem Have.stay {W W' : World} (hb : Below W.heap.size W W') {a : Option Addr} {c : Nat} {l : List St} (h : Have W a c l) : Have W' a c l := ⟨h.1.below hb, fun x hx => (h.2 x hx).stay hb⟩

/-- A parameter; a function; a program. -/
structure Pa where
  name : ByteArray
  lo : Int
  hi : Int
def Pa.cells (p : Pa) : List Value := [.string p.name, .int .i64 p.lo, .int .i64 p.hi]
def Pa.val (p : Pa) : Value := .agg #[.string p.name, .int .i64 p.lo, .int .i64 p.hi]
def Pa.Ok (p : Pa) : Prop := p.name.size ≤ 140737488351232 ∧ I64 p.lo ∧ I64 p.hi
structure Fu where
  name : ByteArray
  pa : Option Addr
  pc : Nat
  params : List Pa
  ba : Option Addr
  bc : Nat
  body : List St
def Fu.cells (f : Fu) : List Value := [.string f.name, .slice f.pa f.params.length f.pc, .slice f.ba f.body.length f.bc]
def Fu.val (f : Fu) : Value := .agg #[.string f.name, .slice f.pa f.params.length f.pc, .slice f.ba f.body.length f.bc]
def Fu.In (W : World) (f : Fu) : Prop := f.name.size ≤ 140737488351232 ∧ f.params.length ≤ f.pc ∧ f.pc * 32 ≤ 140737488351232 ∧ (f.pa = none → f.pc = 0) ∧ RowIn W f.pa 3 (f.params.map Pa.cells) ∧ (∀ p ∈ f.params, p.Ok) ∧ Have W f.ba f.bc f.body
structure Pr where
  wa : Option Addr
  wc : Nat
  widen : List Int
  fa : Option Addr
  fc : Nat
  funcs : List Fu
def Pr.val (p : Pr) : Value := .agg #[.slice p.wa p.widen.length p.wc, .slice p.fa p.funcs.length p.fc]
def Pr.In (W : World) (p : Pr) : Prop := p.widen.length ≤ p.wc ∧ p.wc * 8 ≤ 140737488351232 ∧ (p.wa = none → p.wc = 0) ∧ RowIn W p.wa 1 (p.widen.map fun z => [.int .i64 z]) ∧ (∀ z ∈ p.widen, I64 z) ∧
  p.funcs.length ≤ p.fc ∧ p.fc * 64 ≤ 140737488351232 ∧ (p.fa = none → p.fc = 0) ∧ RowIn W p.fa 3 (p.funcs.map Fu.cells) ∧ ∀ f ∈ p.funcs, f.In W
theorem Fu.In.stay {W W' : World} (hb : Below W.heap.size W W') {f : Fu} (h : f.In W) : f.In W' := by
  obtain ⟨h1, h2, h3, h4, h5, h6, h7⟩ := h
  exact ⟨h1, h2, h3, h4, h5.below hb, h6, h7.stay hb⟩
theorem Pr.In.stay {W W' : World} (hb : Below W.heap.size W W') {p : Pr} (h : p.In W) : p.In W' := by
  obtain ⟨h1, h2, h3, h4, h5, h6, h7, h8, h9, h10⟩ := h
  exact ⟨h1, h2, h3, h4.below hb, h5, h6, h7, h8, h9.below hb, fun f hf => (h10 f hf).stay hb⟩
end Go.Proofs.YtakaldbhaoidiaaDoor

/- Which fields of an expression are not zero; is it one of zeros? -/
namespace Go.Proofs.YtakaldbhaoidiaaDoor
open Go.RowKit

def bitZ (f : Int) (b : Bool) : Int := if b then f else 0

set_option maxHeartbeats 400000 in
theorem bit_any (f : Int) (b : Bool) (w : World) : Calls Tryd.prog 72 #[.int .i64 f, .bool b] w fun e w' => e = .returned (.int .i64 (bitZ f b)) ∧ w' = w := by
  cases b
  · go_enter Tryd.func72, Tryd.ntmps72
    go_wp2
    go_ret
    exact ⟨rfl, rfl⟩
  · go_enter Tryd.func72, Tryd.ntmps72
    go_wp2
    go_ret
    exact ⟨rfl, rfl⟩

theorem _root_.Go.RowKit.Below.drewN {B : Nat} {w w' : World} (h : Below B w w') (n : Nat) : Below B w (w'.drewN n) := h.trans ⟨rfl, rfl, rfl, Nat.le_refl _, fun _ _ => rfl⟩

/-- The fields beside Args that are not zero. -/
def usesE (x : Ex) : Int := bits .or .i64 (bitZ 1 (!x.name.toList.isEmpty)) (bitZ 2 (x.n != 0))

set_option maxRecDepth 100000 in
set_option maxHeartbeats 2000000 in
theorem exprUses_any (x : Ex) (w : World) : Calls Tryd.prog 74 #[x.val] w fun e w' => e = .returned (.int .i64 (usesE x)) ∧ Below w.heap.size w w' := by
  obtain ⟨kd, n, s, a, c, l⟩ := x
  unfold Ex.val usesE
  simp only [Ex.kind, Ex.n, Ex.name, Ex.a, Ex.cap, Ex.args]
  have HB : Hid (∀ (f : Int) (b : Bool) (w : World), Calls Tryd.prog 72 #[.int .i64 f, .bool b] w fun e w' => e = .returned (.int .i64 (bitZ f b)) ∧ w' = w) := bit_any
  go_enter Tryd.func74, Tryd.ntmps74
  go_wp2_with fail
  go_quiet ((go_at_call 72; exact Calls.quiet_of_same (HB.out _ _ _)))
  go_wp2_with fail
  go_ret
  exact ⟨rfl, ((Below.refl _ w).alloc (Nat.le_refl _) _).drewN _⟩

theorem usesE_zero (x : Ex) : (usesE x == 0) = (x.name.toList.isEmpty && (x.n == 0)) := by
  unfold usesE bitZ
  have e : (x.n == 0) = !(x.n != 0) := by simp [bne]
  rw [e]
  cases x.name.toList.isEmpty <;> cases (x.n != 0) <;> decide

theorem own_cell {w w' : World} {cs : Array Value} {t : TypeId} (hb : Below (w.alloc (.cells cs t)).heap.size (w.alloc (.cells cs t)) w') {j : Nat} {v : Value} (h : cs[j]? = some v) : w'.cell? ⟨w.heap.size, j, none⟩ = some v := by
  refine (hb.cell (p := ⟨w.heap.size, j, none⟩) (by simp)).trans ?_
  exact (World.cell?_alloc_at cs t _ _ rfl).trans h

/-- Is an expression one of zeros? -/
def zeroE (x : Ex) : Bool := x.kind == 0 && (x.name.toList.isEmpty && x.n == 0) && x.args.isEmpty

set_option maxRecDepth 100000 in
set_option maxHeartbeats 2000000 in
theorem zero_any (x : Ex) (w : World) : Calls Tryd.prog 69 #[x.val] w fun e w' => e = .returned (.bool (zeroE x)) ∧ Below w.heap.size w w' := by
  have hu := fun w => exprUses_any x w
  have hz := usesE_zero x
  unfold zeroE
  rw [← hz]
  generalize usesE x = u at hu ⊢
  obtain ⟨kd, n, s, a, c, l⟩ := x
  unfold Ex.val at hu ⊢
  simp only [Ex.kind, Ex.n, Ex.name, Ex.a, Ex.cap, Ex.args] at hu ⊢
  clear hz
  have HB : Hid (∀ w, Calls Tryd.prog 74 #[.agg #[.int .i64 kd, .int .i64 n, .string s, .slice a l.length c]] w fun e w' => e = .returned (.int .i64 u) ∧ Below w.heap.size w w') := hu
  clear hu
  by_cases hk : kd = 0
  · subst hk
    cases h2 : (u == 0)
    · go_enter Tryd.func69, Tryd.ntmps69
      go_wp2_with fail
      refine (HB.out _).mono ?_
      rintro e w' ⟨rfl, hb⟩
      have hb' := ((Below.refl _ w).alloc (Nat.le_refl _) _).trans (hb.mono (by simp))
      go_wp2_with fail
      go_ret
      exact ⟨rfl, hb'⟩
    · go_enter Tryd.func69, Tryd.ntmps69
      go_wp2_with fail
      refine (HB.out _).mono ?_
      rintro e w' ⟨rfl, hb⟩
      have c3 := own_cell hb (j := 3) rfl
      have hb' := ((Below.refl _ w).alloc (Nat.le_refl _) _).trans (hb.mono (by simp))
      go_wp2_with fail
      go_ret
      refine ⟨ret_bool ?_, hb'⟩
      cases l <;> simp
      try omega
  · have hk' : (kd == 0) = false := by simpa using hk
    go_enter Tryd.func69, Tryd.ntmps69
    go_wp2_with fail
    go_ret
    exact ⟨ret_bool (by simp [hk]), (Below.refl _ w).alloc (Nat.le_refl _) _⟩
end Go.Proofs.YtakaldbhaoidiaaDoor

/- Plain facts on bytes and lists that the walks of package scan and of its reference share: no program stands in it. -/
namespace Go.Proofs.YtakaldbhaoidiaaDoor

def letB (n : Int) : Bool := decide (97 ≤ n ∧ n ≤ 122)
def digB (n : Int) : Bool := decide (48 ≤ n ∧ n ≤ 57)
def lodB (n : Int) : Bool := letB n || digB n
def isLet (c : UInt8) : Bool := letB c.toNat
def isDig (c : UInt8) : Bool := digB c.toNat
def isLod (c : UInt8) : Bool := lodB c.toNat

def rowLen (p : UInt8 → Bool) (l : List UInt8) : Nat := (l.takeWhile p).length

theorem rowLen_le (p : UInt8 → Bool) (l : List UInt8) : rowLen p l ≤ l.length := by
  unfold rowLen; exact (List.takeWhile_prefix p).length_le

theorem rowLen_nil (p : UInt8 → Bool) : rowLen p [] = 0 := rfl
theorem rowLen_cons (p : UInt8 → Bool) (c : UInt8) (l : List UInt8) : rowLen p (c :: l) = if p c then rowLen p l + 1 else 0 := by
  unfold rowLen; rw [List.takeWhile_cons]; split <;> simp

theorem rowLen_hit (p : UInt8 → Bool) : ∀ (l : List UInt8) (k : Nat), k ≤ rowLen p l → (h : k < l.length) → p l[k] = true → k + 1 ≤ rowLen p l
  | [], k, _, h, _ => by simp at h
  | c :: l, 0, _, _, hp => by rw [rowLen_cons, if_pos (by simpa using hp)]; omega
  | c :: l, k + 1, hk, h, hp => by
    rw [rowLen_cons] at hk ⊢
    by_cases hc : p c = true
    · rw [if_pos hc] at hk ⊢
      have := rowLen_hit p l k (by omega) (by simpa using h) (by simpa using hp)
      omega
    · rw [if_neg hc] at hk; omega

theorem rowLen_miss (p : UInt8 → Bool) : ∀ (l : List UInt8) (k : Nat), k ≤ rowLen p l → (h : k < l.length) → p l[k] = false → rowLen p l = k
  | [], k, _, h, _ => by simp at h
  | c :: l, 0, _, _, hp => by rw [rowLen_cons, if_neg (by simpa using hp)]
  | c :: l, k + 1, hk, h, hp => by
    rw [rowLen_cons] at hk ⊢
    by_cases hc : p c = true
    · rw [if_pos hc] at hk ⊢
      have := rowLen_miss p l k (by omega) (by simpa using h) (by simpa using hp)
      omega
    · rw [if_neg hc] at hk; omega

/-- The bytes that are passed over: blanks, and a remark up to ahead of its line's end. -/
def blankB (c : UInt8) : Bool := (c.toNat : Int) == 32 || (c.toNat : Int) == 9 || (c.toNat : Int) == 10 || (c.toNat : Int) == 13

theorem blank_of32 {c : UInt8} (h : ((c.toNat : Int) == 32) = true) : blankB c = true := by simp [blankB, h]
theorem blank_of9 {c : UInt8} (h : ((c.toNat : Int) == 9) = true) : blankB c = true := by simp [blankB, h]
theorem blank_of10 {c : UInt8} (h : ((c.toNat : Int) == 10) = true) : blankB c = true := by simp [blankB, h]
theorem blank_of13 {c : UInt8} (h : ((c.toNat : Int) == 13) = true) : blankB c = true := by simp [blankB, h]
theorem blank_not {c : UInt8} (h1 : ((c.toNat : Int) == 32) = false) (h2 : ((c.toNat : Int) == 9) = false) (h3 : ((c.toNat : Int) == 10) = false) (h4 : ((c.toNat : Int) == 13) = false) : blankB c = false := by
  unfold blankB; rw [h1, h2, h3, h4]; rfl

/-- How many bytes are passed over (true: within a remark). -/
def skip : Bool → List UInt8 → Nat
  | _, [] => 0
  | false, c :: r => if blankB c then skip false r + 1 else if (c.toNat : Int) == 35 then skip true r + 1 else 0
  | true, c :: r => if (c.toNat : Int) == 10 then skip false r + 1 else skip true r + 1

theorem skip_le : ∀ (b : Bool) (l : List UInt8), skip b l ≤ l.length
  | _, [] => by simp [skip]
  | false, c :: r => by have h1 := skip_le false r; have h2 := skip_le true r; rw [skip]; split; · simpa using h1
                        split; · simpa using h2
                        simp
  | true, c :: r => by have h1 := skip_le false r; have h2 := skip_le true r; rw [skip]; split; · simpa using h1
                       simpa using h2

/-- Where what is passed over from k on ends. -/
def passEnd (b : Bool) (l : List UInt8) (k : Nat) : Nat := k + skip b (l.drop k)

theorem passEnd_le (b : Bool) (l : List UInt8) (k : Nat) (h : k ≤ l.length) : passEnd b l k ≤ l.length := by
  unfold passEnd; have := skip_le b (l.drop k); rw [List.length_drop] at this; omega
theorem passEnd_ge (b : Bool) (l : List UInt8) (k : Nat) : k ≤ passEnd b l k := by unfold passEnd; omega
theorem passEnd_end (b : Bool) (l : List UInt8) (k : Nat) (h : l.length ≤ k) : passEnd b l k = k := by
  unfold passEnd; rw [List.drop_eq_nil_of_le h]; cases b <;> rfl
theorem passEnd_blank (l : List UInt8) (k : Nat) (h : k < l.length) (hb : blankB l[k] = true) : passEnd false l k = passEnd false l (k + 1) := by
  unfold passEnd; rw [List.drop_eq_getElem_cons h, skip, if_pos hb]; omega
theorem passEnd_hash (l : List UInt8) (k : Nat) (h : k < l.length) (hb : ((l[k].toNat : Int) == 35) = true) : passEnd false l k = passEnd true l (k + 1) := by
  have hn : blankB l[k] = false := by simp at hb; simp [blankB, hb]
  unfold passEnd; rw [List.drop_eq_getElem_cons h, skip, if_neg (by simp [hn]), if_pos hb]; omega
theorem passEnd_hash0 (l : List UInt8) (k : Nat) (h : k < l.length) (hb : ((l[k].toNat : Int) == 35) = true) : passEnd false l k = passEnd true l k := by
  rw [passEnd_hash l k h hb]
  unfold passEnd; rw [List.drop_eq_getElem_cons h, skip, if_neg (by simp at hb; simp [hb])]; omega
theorem passEnd_stop (l : List UInt8) (k : Nat) (h : k < l.length) (h1 : blankB l[k] = false) (h2 : ((l[k].toNat : Int) == 35) = false) : passEnd false l k = k := by
  unfold passEnd; rw [List.drop_eq_getElem_cons h, skip, if_neg (by simp [h1]), if_neg (by simp at h2; simp [h2])]; omega
theorem passEnd_line (l : List UInt8) (k : Nat) (h : k < l.length) (hb : ((l[k].toNat : Int) == 10) = true) : passEnd true l k = passEnd false l (k + 1) := by
  unfold passEnd; rw [List.drop_eq_getElem_cons h, skip, if_pos hb]; omega
theorem passEnd_line0 (l : List UInt8) (k : Nat) (h : k < l.length) (hb : ((l[k].toNat : Int) == 10) = true) : passEnd true l k = passEnd false l k := by
  rw [passEnd_line l k h hb, passEnd_blank l k h (by simp at hb; simp [blankB, hb])]
theorem passEnd_in (l : List UInt8) (k : Nat) (h : k < l.length) (hb : ((l[k].toNat : Int) == 10) = false) : passEnd true l k = passEnd true l (k + 1) := by
  unfold passEnd; rw [List.drop_eq_getElem_cons h, skip, if_neg (by simp at hb; simp [hb])]; omega

def wordB (l : List UInt8) : Bool := l == [119, 105, 100, 101, 110] || l == [102, 110] || l == [108, 101, 116] || l == [102, 111, 114] || l == [105, 110] || l == [105, 102] || l == [101, 108, 115, 101] || l == [115, 119, 105, 116, 99, 104] || l == [99, 97, 115, 101] || l == [98, 114, 101, 97, 107] || l == [114, 101, 116, 117, 114, 110]
theorem ba_len (s : ByteArray) : s.data.toList.length = s.size := by rw [Array.length_toList]; rfl
end Go.Proofs.YtakaldbhaoidiaaDoor

/- scan.letter, digit, letterOrDigit, row, Word and Name, as package tree calls them: what each answers; the world stays. -/
namespace Go.Proofs.YtakaldbhaoidiaaDoor
open Go.RowKit

set_option maxHeartbeats 400000 in
theorem letter_any (n : Int) (w : World) (h0 : 0 ≤ n) (h1 : n ≤ 255) :
    Calls Tryd.prog 49 #[.int .u8 n] w fun e w' => e = .returned (.bool (letB n)) ∧ w' = w := by
  by_cases h : 97 ≤ n
  · go_enter Tryd.func49, Tryd.ntmps49
    go_wp2
    go_ret
    exact ⟨ret_bool (by simp [letB, h]), rfl⟩
  · go_enter Tryd.func49, Tryd.ntmps49
    go_wp2
    go_ret
    exact ⟨ret_bool (by simp [letB]; omega), rfl⟩

set_option maxHeartbeats 400000 in
theorem digit_any (n : Int) (w : World) (h0 : 0 ≤ n) (h1 : n ≤ 255) :
    Calls Tryd.prog 71 #[.int .u8 n] w fun e w' => e = .returned (.bool (digB n)) ∧ w' = w := by
  by_cases h : 48 ≤ n
  · go_enter Tryd.func71, Tryd.ntmps71
    go_wp2
    go_ret
    exact ⟨ret_bool (by simp [digB, h]), rfl⟩
  · go_enter Tryd.func71, Tryd.ntmps71
    go_wp2
    go_ret
    exact ⟨ret_bool (by simp [digB]; omega), rfl⟩

set_option maxHeartbeats 400000 in
theorem lod_any (n : Int) (w : World) (h0 : 0 ≤ n) (h1 : n ≤ 255) :
    Calls Tryd.prog 51 #[.int .u8 n] w fun e w' => e = .returned (.bool (lodB n)) ∧ w' = w := by
  by_cases h : letB n = true
  · go_enter Tryd.func51, Tryd.ntmps51
    go_wp2_with (first | (go_at_call 49; refine (letter_any _ _ h0 h1).mono ?_; rintro e w' ⟨rfl, rfl⟩) | (go_at_call 71; refine (digit_any _ _ h0 h1).mono ?_; rintro e w' ⟨rfl, rfl⟩))
    go_ret
    exact ⟨ret_bool (by simp [lodB, h]), rfl⟩
  · have h' : letB n = false := by simpa using h
    go_enter Tryd.func51, Tryd.ntmps51
    go_wp2_with (first | (go_at_call 49; refine (letter_any _ _ h0 h1).mono ?_; rintro e w' ⟨rfl, rfl⟩) | (go_at_call 71; refine (digit_any _ _ h0 h1).mono ?_; rintro e w' ⟨rfl, rfl⟩))
    go_ret
    exact ⟨ret_bool (by simp [lodB, h']), rfl⟩

theorem u8_le (c : UInt8) : (c.toNat : Int) ≤ 255 := by have := c.toNat_lt; omega

set_option maxHeartbeats 400000 in
theorem row_lod (s : ByteArray) (w : World) (hs : s.size ≤ maxLen) :
    Calls Tryd.prog 50 #[.string s, .func (.func 51) #[] #[]] w fun e w' => e = .returned (.int .i64 (rowLen isLod s.data.toList : Nat)) ∧ w' = w := by
  unfold maxLen at hs
  have hle : rowLen isLod s.data.toList ≤ s.size := rowLen_le isLod s.data.toList
  go_enter Tryd.func50, Tryd.ntmps50
  go_wp2
  go_loop [5] (fun i => ∃ k : Nat, k ≤ rowLen isLod s.data.toList ∧ i = .int .i64 k) (fun i => s.size - (intOf i).toNat)
  case atStart => exact ⟨0, Nat.zero_le _, rfl⟩
  case round =>
    obtain ⟨k, hk, rfl⟩ := hrel
    by_cases hlt : k < s.size
    · by_cases hp : lodB s[k].toNat = true
      · have hnext := rowLen_hit isLod s.data.toList k hk hlt hp
        go_wp2_with (go_at_call 51; refine (lod_any _ _ (by omega) (u8_le _)).mono ?_; rintro e w' ⟨rfl, rfl⟩)
        go_round
        case rel => exact ⟨k + 1, hnext, by go_num⟩
        case measure => simp [intOf]; omega
      · have hp' : lodB s[k].toNat = false := by simpa using hp
        have hend := rowLen_miss isLod s.data.toList k hk hlt hp'
        have HE : Hid (rowLen isLod s.data.toList = k) := hend
        clear hend hp
        go_wp2_with (go_at_call 51; refine (lod_any _ _ (by omega) (u8_le _)).mono ?_; rintro e w' ⟨rfl, rfl⟩)
        go_ret
        exact ⟨ret_int (by rw [HE.out]), rfl⟩
    · have HE : Hid (rowLen isLod s.data.toList = k) := (by omega : rowLen isLod s.data.toList = k)
      go_wp2_with (go_at_call 51; refine (lod_any _ _ (by omega) (u8_le _)).mono ?_; rintro e w' ⟨rfl, rfl⟩)
      go_ret
      exact ⟨ret_int (by rw [HE.out]), rfl⟩
theorem ba_list (s : ByteArray) : s.toList = s.data.toList := ByteArray.toList_eq s
theorem ba_take (s : ByteArray) (n : Nat) : (s.extract 0 n).toList = s.data.toList.take n := by
  rw [ba_list]; simp

set_option maxHeartbeats 2000000 in
theorem word_any (s : ByteArray) (w : World) :
    Calls Tryd.prog 48 #[.string s] w fun e w' => e = .returned (.bool (wordB s.data.toList)) ∧ w' = w := by
  rw [← ba_list]
  go_enter Tryd.func48, Tryd.ntmps48
  go_wp2
  all_goals first
    | (exfalso; have hx : ∀ b : Bool, b = true → b = false → False := (fun b h1 h2 => by rw [h1] at h2; cases h2); exact hx _ (by assumption) (by assumption))
    | (go_ret; exact ⟨ret_bool (by simp only [wordB, *, Bool.or_true, Bool.true_or, Bool.or_false]), rfl⟩)


/-- May a text be a name? -/
def nameB (l : List UInt8) : Bool := match l with | [] => false | c :: _ => decide (l.length ≤ 16) && !wordB l && isLet c && decide (rowLen isLod l = l.length)

theorem isEmpty_of (s : ByteArray) (h : 0 < s.size) : s.toList.isEmpty = false := by
  rw [ba_list]
  cases hx : s.data.toList with
  | nil => have := ba_len s; rw [hx] at this; simp at this; omega
  | cons _ _ => rfl

set_option maxHeartbeats 1000000 in
theorem name_empty (w : World) : Calls Tryd.prog 31 #[.string ⟨#[]⟩] w fun e w' => e = .returned (.bool false) ∧ w' = w := by
  go_enter Tryd.func31, Tryd.ntmps31
  go_wp2
  go_ret
  exact ⟨rfl, rfl⟩

set_option maxHeartbeats 1000000 in
theorem name_long (s : ByteArray) (w : World) (he : s.toList.isEmpty = false) (h : 16 < (s.size : Int)) : Calls Tryd.prog 31 #[.string s] w fun e w' => e = .returned (.bool false) ∧ w' = w := by
  go_enter Tryd.func31, Tryd.ntmps31
  go_wp2
  go_ret
  exact ⟨rfl, rfl⟩

set_option maxHeartbeats 1000000 in
theorem name_word (s : ByteArray) (w : World) (he : s.toList.isEmpty = false) (h : ¬ 16 < (s.size : Int)) (hw : wordB s.data.toList = true) : Calls Tryd.prog 31 #[.string s] w fun e w' => e = .returned (.bool false) ∧ w' = w := by
  have h16 : ∀ w, Calls Tryd.prog 48 #[.string s] w fun e w' => e = .returned (.bool true) ∧ w' = w := by intro w; rw [← hw]; exact word_any _ w
  clear hw
  go_enter Tryd.func31, Tryd.ntmps31
  go_wp2_with (go_at_call 48; refine (h16 _).mono ?_; rintro e w' ⟨rfl, rfl⟩)
  go_ret
  exact ⟨rfl, rfl⟩

set_option maxHeartbeats 1000000 in
theorem name_digit (s : ByteArray) (w : World) (h0 : 0 < s.size) (he : s.toList.isEmpty = false) (h : ¬ 16 < (s.size : Int)) (hw : wordB s.data.toList = false) (hl : letB s[0].toNat = false) : Calls Tryd.prog 31 #[.string s] w fun e w' => e = .returned (.bool false) ∧ w' = w := by
  have h16 : ∀ w, Calls Tryd.prog 48 #[.string s] w fun e w' => e = .returned (.bool false) ∧ w' = w := by intro w; rw [← hw]; exact word_any _ w
  have h28 : ∀ w, Calls Tryd.prog 49 #[.int .u8 s[0].toNat] w fun e w' => e = .returned (.bool false) ∧ w' = w := fun w => by rw [← hl]; exact letter_any _ w (by omega) (u8_le _)
  clear hw hl
  go_enter Tryd.func31, Tryd.ntmps31
  go_wp2_with (first | (go_at_call 48; refine (h16 _).mono ?_; rintro e w' ⟨rfl, rfl⟩) | (go_at_call 49; refine (h28 _).mono ?_; rintro e w' ⟨rfl, rfl⟩))
  go_ret
  exact ⟨rfl, rfl⟩

set_option maxHeartbeats 1000000 in
theorem name_rest (s : ByteArray) (b : Bool) (w : World) (h0 : 0 < s.size) (he : s.toList.isEmpty = false) (h : ¬ 16 < (s.size : Int)) (hw : wordB s.data.toList = false) (hl : letB s[0].toNat = true)
    (hb : (((rowLen isLod s.data.toList : Nat) : Int) == (s.size : Int)) = b) : Calls Tryd.prog 31 #[.string s] w fun e w' => e = .returned (.bool b) ∧ w' = w := by
  have h16 : ∀ w, Calls Tryd.prog 48 #[.string s] w fun e w' => e = .returned (.bool false) ∧ w' = w := by intro w; rw [← hw]; exact word_any _ w
  have h28 : ∀ w, Calls Tryd.prog 49 #[.int .u8 s[0].toNat] w fun e w' => e = .returned (.bool true) ∧ w' = w := fun w => by rw [← hl]; exact letter_any _ w (by omega) (u8_le _)
  have h29 : ∀ w, Calls Tryd.prog 50 #[.string s, .func (.func 51) #[] #[]] w fun e w' => e = .returned (.int .i64 (rowLen isLod s.data.toList : Nat)) ∧ w' = w := fun w => row_lod s w (by unfold maxLen; omega)
  clear hw hl
  go_enter Tryd.func31, Tryd.ntmps31
  go_wp2_with (first | (go_at_call 48; refine (h16 _).mono ?_; rintro e w' ⟨rfl, rfl⟩) | (go_at_call 49; refine (h28 _).mono ?_; rintro e w' ⟨rfl, rfl⟩) | (go_at_call 50; refine (h29 _).mono ?_; rintro e w' ⟨rfl, rfl⟩))
  go_ret
  exact ⟨ret_bool (by simp), rfl⟩

theorem nameB_cons {l : List UInt8} (h : 0 < l.length) : nameB l = (decide (l.length ≤ 16) && !wordB l && isLet l[0] && decide (rowLen isLod l = l.length)) := by
  cases l with
  | nil => simp at h
  | cons c r => rfl

theorem name_any (s : ByteArray) (w : World) : Calls Tryd.prog 31 #[.string s] w fun e w' => e = .returned (.bool (nameB s.data.toList)) ∧ w' = w := by
  have hlen := ba_len s
  by_cases h0 : 0 < s.size
  · have he := isEmpty_of s h0
    have hl0 : 0 < s.data.toList.length := by omega
    rw [nameB_cons hl0]
    by_cases h16 : s.size ≤ 16
    · have d1 : decide (s.data.toList.length ≤ 16) = true := by simp only [decide_eq_true_eq]; omega
      rw [d1]
      cases hw : wordB s.data.toList with
      | true => exact name_word s w he (by omega) hw
      | false =>
        cases hl : letB s[0].toNat with
        | false => rw [show isLet s.data.toList[0] = false from hl]; simp only [Bool.and_false, Bool.false_and]; exact name_digit s w h0 he (by omega) hw hl
        | true =>
          rw [show isLet s.data.toList[0] = true from hl]; simp only [Bool.not_false, Bool.and_true, Bool.true_and]
          refine name_rest s _ w h0 he (by omega) hw hl ?_
          rw [hlen, Bool.eq_iff_iff]; simp only [beq_iff_eq, decide_eq_true_eq]; omega
    · have d1 : decide (s.data.toList.length ≤ 16) = false := by simp only [decide_eq_false_iff_not]; omega
      rw [d1]; simp only [Bool.false_and]
      exact name_long s w he (by omega)
  · have : s = ⟨#[]⟩ := by
      apply ByteArray.ext; apply Array.eq_empty_of_size_eq_zero; show s.size = 0; omega
    rw [this]; exact name_empty w

end Go.Proofs.YtakaldbhaoidiaaDoor

/- Which fields of a statement are not zero. -/
namespace Go.Proofs.YtakaldbhaoidiaaDoor
open Go.RowKit Go.Sort

def orZ (a b : Int) : Int := bits .or .i64 a b
/-- The fields of a statement that are not zero. -/
def usesS (s : St) : Int := orZ (orZ (orZ (orZ (orZ (orZ (bitZ 1 (!s.name.toList.isEmpty)) (bitZ 2 (s.n != 0))) (bitZ 4 (!zeroE s.a))) (bitZ 8 (!zeroE s.b))) (bitZ 16 (decide (0 < s.body.length)))) (bitZ 32 (decide (0 < s.els.length)))) (bitZ 64 (decide (0 < s.cases.length)))

theorem cell_new (w : World) (cs : Array Value) (t : TypeId) (j : Nat) (v : Value) (h : cs[j]? = some v) : ∀ d os, (grow (redrawn (w.alloc (.cells cs t)) d) os).cell? ⟨w.heap.size, j, none⟩ = some v :=
  fun d os => cell_regrown ((World.cell?_alloc_at cs t _ _ rfl).trans h) d os

set_option maxRecDepth 100000 in
set_option maxHeartbeats 4000000 in
theorem stmtUses_any (s : St) (w : World) : Calls Tryd.prog 53 #[s.val] w fun e w' => e = .returned (.int .i64 (usesS s)) ∧ Below w.heap.size w w' := by
  have HB : Hid (∀ (f : Int) (b : Bool) (w : World), Calls Tryd.prog 72 #[.int .i64 f, .bool b] w fun e w' => e = .returned (.int .i64 (bitZ f b)) ∧ Below w.heap.size w w') := fun f b w => (bit_any f b w).mono fun e w' ⟨h1, h2⟩ => ⟨h1, h2 ▸ Below.refl _ _⟩
  have HZ : Hid (∀ (x : Ex) (w : World), Calls Tryd.prog 69 #[.agg #[.int .i64 x.kind, .int .i64 x.n, .string x.name, .slice x.a x.args.length x.cap]] w fun e w' => e = .returned (.bool (zeroE x)) ∧ Below w.heap.size w w') := fun x w => zero_any x w
  unfold St.val
  have c := cell_new w #[.int .i64 s.kind, .string s.name, .int .i64 s.n, .int .i64 s.a.kind, .int .i64 s.a.n, .string s.a.name, .slice s.a.a s.a.args.length s.a.cap, .int .i64 s.b.kind, .int .i64 s.b.n, .string s.b.name, .slice s.b.a s.b.args.length s.b.cap, .slice s.ba s.body.length s.bc, .slice s.ea s.els.length s.ec, .slice s.ca s.cases.length s.cc] 43
  have c1 := c 1 _ rfl
  have c2 := c 2 _ rfl
  have c3 := c 3 _ rfl
  have c4 := c 4 _ rfl
  have c5 := c 5 _ rfl
  have c6 := c 6 _ rfl
  have c7 := c 7 _ rfl
  have c8 := c 8 _ rfl
  have c9 := c 9 _ rfl
  have c10 := c 10 _ rfl
  have c11 := c 11 _ rfl
  have c12 := c 12 _ rfl
  have c13 := c 13 _ rfl
  clear c
  go_enter Tryd.func53, Tryd.ntmps53
  go_wp2_with fail
  refine wp_region_quiet_below (by kernel_rfl) (by kernel_rfl) ?_
  repeat (go_big_quiet_step (first | (go_at_call 72; exact Calls.regrown_of (HB.out _ _ _)) | (go_at_call 69; exact Calls.regrown_of (HZ.out _ _))))
  refine wpQuiet_nil ?_
  intro _ hw'
  obtain ⟨⟨dq, osq⟩, hw''⟩ := hw'
  subst hw''
  clear c1 c2 c3 c4 c5 c6 c7 c8 c9 c10 c11 c12 c13
  go_wp2_with fail
  go_ret
  exact ⟨rfl, ((Below.refl _ w).alloc (Nat.le_refl _) _).trans ((below_regrown _ dq osq).mono (by simp))⟩
end Go.Proofs.YtakaldbhaoidiaaDoor

/- A statement's lists of statements. -/
namespace Go.Proofs.YtakaldbhaoidiaaDoor
open Go.RowKit

/-- A list of statements, and where it lies. -/
structure Bd where
  a : Option Addr
  c : Nat
  l : List St
def Bd.v (b : Bd) : Value := .slice b.a b.l.length b.c
def Ca.bd (c : Ca) : Bd := ⟨c.ba, c.bc, c.body⟩
def bods (s : St) : List Bd := ⟨s.ba, s.bc, s.body⟩ :: (s.cases.map Ca.bd ++ [⟨s.ea, s.ec, s.els⟩])

theorem bods_len (s : St) : (bods s).length = s.cases.length + 2 := by simp [bods]
theorem owns_succ {W : World} {base : Nat} {e : TypeId} {v : Value} {n : Nat} {xs : List Value} (h : W.ownsRow base e 1 v (n + 1) xs) : ∃ g cap, v = .slice (some ⟨g, 0, none⟩) (n + 1) cap := by
  rcases h.2 with ⟨_, h⟩ | ⟨g, cap, _, h, _⟩
  · omega
  · exact ⟨g, cap, h⟩
theorem owns_row {W : World} {base : Nat} {e : TypeId} {g n cap : Nat} {xs : List Value} (h : W.ownsRow base e 1 (.slice (some ⟨g, 0, none⟩) n cap) n xs) : ∀ j u, xs[j]? = some u → W.cell? ⟨g, j, none⟩ = some u := by
  intro j u hj
  have := h.cells rfl j u hj
  rwa [Addr.add_lit, Nat.zero_add] at this

theorem rowC_at {W : World} {a : Option Addr} {l : List Ca} (h : RowIn W a 2 (l.map Ca.cells)) {i : Nat} (hi : i < l.length) :
    ∃ b o, a = some ⟨b, o, none⟩ ∧ W.cell? ⟨b, o + i * 2, none⟩ = some (.int .i64 l[i].n) ∧ W.cell? ⟨b, o + i * 2 + 1, none⟩ = some (.slice l[i].ba l[i].body.length l[i].bc) := by
  obtain ⟨b, o, e, hc⟩ := h i l[i].cells (by simp [hi])
  exact ⟨b, o, e, hc 0 _ rfl, hc 1 _ rfl⟩

theorem Tryd.info34 : (Tryd.prog.info? 34).map (fun i => (i.zero, i.size, i.bytes)) = some (some (.slice none 0 0), 1, 24) := by kernel_rfl

theorem new_cell (W : World) (v : Value) (t : TypeId) : ∀ j u, [v][j]? = some u → (W.alloc (.cells #[v] t)).cell? ((⟨W.heap.size, 0, none⟩ : Addr).add j) = some u := by
  intro j u hj
  match j, hj with
  | 0, hj => simp at hj; subst hj; simp [Addr.add]

theorem bods_case (s : St) (j : Nat) (h : j < s.cases.length) : (bods s)[j + 1]? = some s.cases[j].bd := by
  unfold bods
  rw [List.getElem?_cons_succ, List.getElem?_append_left (by simpa using h), List.getElem?_map, List.getElem?_eq_getElem h]
  rfl
theorem bods_last (s : St) : (bods s)[s.cases.length + 1]? = some ⟨s.ea, s.ec, s.els⟩ := by
  unfold bods
  rw [List.getElem?_cons_succ, List.getElem?_append_right (by simp)]
  simp
theorem take_next {l : List Value} {j : Nat} {b : Value} (h : l[j]? = some b) : l.take (j + 1) = l.take j ++ [b] := by
  rw [List.take_add_one, h]; rfl
theorem new_cell2 (W : World) (o : Obj) (v : Value) (t : TypeId) : ∀ j u, [v][j]? = some u → ((W.alloc o).alloc (.cells #[v] t)).cell? ((⟨W.heap.size + 1, 0, none⟩ : Addr).add j) = some u := by
  have := new_cell (W.alloc o) v t
  rwa [World.size_alloc] at this

set_option maxRecDepth 100000 in
set_option maxHeartbeats 2000000 in
theorem bodies_any (s : St) (w : World) (hin : s.In w) : Calls Tryd.prog 33 #[s.val] w fun e w' => ∃ g cap, e = .returned (.slice (some ⟨g, 0, none⟩) (bods s).length cap) ∧
    (∀ i b, (bods s)[i]? = some b → w'.cell? ⟨g, i, none⟩ = some b.v) ∧ Below w.heap.size w w' := by
  have hc := (St.in_iff.1 hin).2.2.2.2.2.2.2.1
  obtain ⟨hc1, hc2, _, hrow⟩ := hc
  have HR : Hid (RowIn w s.ca 2 (List.map Ca.cells s.cases)) := hrow
  obtain ⟨i0, hi, hz0, hz1, hz2⟩ := info_parts Tryd.info34
  have HI : Hid (Tryd.prog.info? 34 = some i0) := hi
  have hlen := bods_len s
  obtain ⟨vs, hvs⟩ : ∃ vs, (bods s).map Bd.v = vs := ⟨_, rfl⟩
  have B0 : Hid (vs[0]? = some (.slice s.ba s.body.length s.bc)) := by show _ = _; rw [← hvs]; rfl
  have B1 : Hid (∀ j (h : j < s.cases.length), vs[j + 1]? = some (.slice s.cases[j].ba s.cases[j].body.length s.cases[j].bc)) := by
    show ∀ j, _; intro j h; rw [← hvs, List.getElem?_map, bods_case s j h]; rfl
  have B2 : Hid (vs[s.cases.length + 1]? = some (.slice s.ea s.els.length s.ec)) := by show _ = _; rw [← hvs, List.getElem?_map, bods_last s]; rfl
  have B3 : Hid (vs.length = s.cases.length + 1 + 1) := by show _ = _; rw [← hvs, List.length_map, hlen]
  have B4 : Hid (∀ (i : Nat) (b : Bd), (bods s)[i]? = some b → vs[i]? = some b.v) := by show ∀ (i : Nat) (b : Bd), _; intro i b h; rw [← hvs, List.getElem?_map, h]; rfl
  rw [hlen]
  clear hrow hin hi hlen hvs
  have hB : ∃ B, B = w.heap.size + 1 := ⟨_, rfl⟩
  obtain ⟨B, hB⟩ := hB
  unfold St.val
  go_enter Tryd.func33, Tryd.ntmps33
  go_wp2_with fail
  obtain ⟨W0, hW0⟩ : ∃ W0, w.alloc (.cells #[.int .i64 s.kind, .string s.name, .int .i64 s.n, .int .i64 s.a.kind, .int .i64 s.a.n, .string s.a.name, .slice s.a.a s.a.args.length s.a.cap, .int .i64 s.b.kind, .int .i64 s.b.n, .string s.b.name, .slice s.b.a s.b.args.length s.b.cap, .slice s.ba s.body.length s.bc, .slice s.ea s.els.length s.ec, .slice s.ca s.cases.length s.cc] 43) = W0 := ⟨_, rfl⟩
  have hs0 : Hid (W0.heap.size = B) := by show _ = _; rw [← hW0, hB]; simp
  have hb0 : Below w.heap.size w W0 := by rw [← hW0]; exact (Below.refl _ w).alloc (Nat.le_refl _) _
  have hcE : W0.cell? ⟨w.heap.size, 12, none⟩ = some (.slice s.ea s.els.length s.ec) := by rw [← hW0]; exact World.cell?_alloc_at _ _ _ _ rfl
  rw [hW0]
  clear hW0
  go_loopw [3, 12] (fun t3 t12 wr => ∃ j : Nat, j ≤ s.cases.length ∧ t12 = .int .i64 j ∧ wr.ownsRow B 34 1 t3 (j + 1) (vs.take (j + 1)) ∧ Below B W0 wr) (fun _ t12 _ => s.cases.length - (intOf t12).toNat)
  case atStart =>
    refine ⟨0, Nat.zero_le _, rfl, ?_, (Below.refl _ W0).alloc (by rw [hs0.out]; exact Nat.le_refl _) _⟩
    rw [take_next B0.out]
    refine ⟨rfl, .inr ⟨w.heap.size + 1, 1, #[.slice s.ba s.body.length s.bc], rfl, by omega, ?_, Nat.le_refl _, by unfold maxLen; omega, rfl, rfl⟩⟩
    rw [← hB, ← hs0.out]; exact heap_alloc_new W0 _
  case round =>
    obtain ⟨j, hj, rfl, hown, hb⟩ := hrel
    have hws := hb.size
    rw [hs0.out] at hws
    obtain ⟨g, cap, rfl⟩ := owns_succ hown
    by_cases hlt : j < s.cases.length
    · obtain ⟨cb, co, hca, k0, k1⟩ := rowC_at (HR.out.below (hb0.trans (hb.mono (by omega)))) hlt
      have hli : (j : Int) < (s.cases.length : Int) := by omega
      rw [hca]
      have HO : Hid (wr.ownsRow B 34 1 (.slice (some ⟨g, 0, none⟩) (j + 1) cap) (j + 1) (vs.take (j + 1))) := hown
      clear hown
      go_wp2_with (at_builtin; refine wpList_append_own _ rfl _ _ 87 rfl B 34 i0 (.slice none 0 0) 1 24 Tryd.underlying87 HI.out hz0 hz1 hz2 rfl (by decide) _ _ _ rfl ((HO.out.alloc _).alloc _) ⟨wr.heap.size + 1, 0, none⟩ 1 1 [.slice s.cases[j].ba s.cases[j].body.length s.cases[j].bc] rfl rfl (new_cell2 _ _ _ _) ?c2 ?c3 ?c4 ?c5 ?_)
      case c2 => intro u hu; simp at hu; subst hu; rfl
      case c3 => unfold maxLen; omega
      case c4 => omega
      case c5 => simp; omega
      intro v' w1 hown' hgrow _
      obtain ⟨g', cap', rfl⟩ := owns_succ hown'
      rw [← hB] at hown'
      have HO' : Hid (w1.ownsRow B 34 1 (.slice (some ⟨g', 0, none⟩) (j + 1 + 1) cap') (j + 1 + 1) (vs.take (j + 1) ++ [.slice s.cases[j].ba s.cases[j].body.length s.cases[j].bc])) := hown'
      clear hown'
      go_wp2_with fail
      go_roundw
      case rel =>
        refine ⟨j + 1, by omega, by go_num, ?_, ?_⟩
        · rw [take_next (B1.out j hlt)]; exact HO'.out
        · exact ((hb.alloc hws _).alloc (by simp; omega) _).grown hgrow (by simp; omega) (fun k hk => (HO.out.lt k hk).1)
      case measure => simp [intOf]; omega
    · have hcE' := (hb.cell (p := ⟨w.heap.size, 12, none⟩) (by show w.heap.size < _; omega)).trans hcE
      have HO : Hid (wr.ownsRow B 34 1 (.slice (some ⟨g, 0, none⟩) (j + 1) cap) (j + 1) (vs.take (j + 1))) := hown
      clear hown
      obtain rfl : j = s.cases.length := by omega
      go_wp2_with (at_builtin; refine wpList_append_own _ rfl _ _ 87 rfl B 34 i0 (.slice none 0 0) 1 24 Tryd.underlying87 HI.out hz0 hz1 hz2 rfl (by decide) _ _ _ rfl (HO.out.alloc _) ⟨wr.heap.size, 0, none⟩ 1 1 [.slice s.ea s.els.length s.ec] rfl rfl (new_cell _ _ _) ?d2 ?d3 ?d4 ?d5 ?_)
      case d2 => intro u hu; simp at hu; subst hu; rfl
      case d3 => unfold maxLen; omega
      case d4 => omega
      case d5 => simp; omega
      intro v' w1 hown' hgrow _
      obtain ⟨g', cap', rfl⟩ := owns_succ hown'
      rw [← hB] at hown'
      have HO' : Hid (w1.ownsRow B 34 1 (.slice (some ⟨g', 0, none⟩) (s.cases.length + 1 + 1) cap') (s.cases.length + 1 + 1) (vs.take (s.cases.length + 1) ++ [.slice s.ea s.els.length s.ec])) := hown'
      clear hown'
      go_wp2_with fail
      go_ret
      refine ⟨g', cap', rfl, fun i b hi => ?_, ?_⟩
      · refine owns_row HO'.out i _ ?_
        rw [← take_next B2.out, ← B3.out, List.take_length]; exact B4.out i b hi
      · exact hb0.trans (((hb.alloc hws _).grown hgrow (by simp; omega) (fun k hk => (HO.out.lt k hk).1)).mono (by omega))
end Go.Proofs.YtakaldbhaoidiaaDoor

/- How many parts statements add, as the program counts them: the limit once passed, nothing more is looked at. -/
namespace Go.Proofs.YtakaldbhaoidiaaDoor
open Go.RowKit

/-- What an A or B adds. -/
def cntZ (x : Ex) (n : Int) : Int := if zeroE x then n else cntE x n
mutual
def cntS : St → Int → Int
  | .mk _ _ _ a b _ _ l _ _ e _ _ c, n =>
    cntSs e (cntCs c (cntSs l (cntZ b (cntZ a (n + (1 + (c.length : Int)))))))
def cntSs : List St → Int → Int | [], n => n | s :: r, n => if 4096 < n then n else cntSs r (cntS s n)
def cntC : Ca → Int → Int | .mk _ _ _ l, n => cntSs l n
def cntCs : List Ca → Int → Int | [], n => n | c :: r, n => cntCs r (cntC c n)
end
def cntB : List Bd → Int → Int | [], n => n | b :: r, n => cntB r (cntSs b.l n)
theorem cntC_eq (c : Ca) (n : Int) : cntC c n = cntSs c.body n := by cases c; simp [cntC, Ca.body]
theorem cntB_cases (l : List Ca) (r : List Bd) (n : Int) : cntB (l.map Ca.bd ++ r) n = cntB r (cntCs l n) := by
  induction l generalizing n with
  | nil => simp [cntCs]
  | cons c l ih =>
    rw [List.map_cons, List.cons_append, cntB, ih, cntCs, cntC_eq]; rfl
theorem cntS_eq (s : St) (n : Int) : cntS s n = cntB (bods s) (cntZ s.b (cntZ s.a (n + (1 + (s.cases.length : Int))))) := by
  have h : cntS s n = cntSs s.els (cntCs s.cases (cntSs s.body (cntZ s.b (cntZ s.a (n + (1 + (s.cases.length : Int))))))) := by
    cases s; simp only [cntS, St.els, St.cases, St.body, St.a, St.b]
  rw [h, bods, cntB, cntB_cases, cntB, cntB]
theorem cntSs_drop {l : List St} {j : Nat} {n : Int} (h : j < l.length) : cntSs (l.drop j) n = if 4096 < n then n else cntSs (l.drop (j + 1)) (cntS l[j] n) := by
  rw [List.drop_eq_getElem_cons h, cntSs]
theorem cntB_drop {l : List Bd} {j : Nat} {n : Int} (h : j < l.length) : cntB (l.drop j) n = cntB (l.drop (j + 1)) (cntSs l[j].l n) := by
  rw [List.drop_eq_getElem_cons h, cntB]

theorem cnt_le (k : Nat) : (∀ (x : Ex) (n : Int), x.sz ≤ k → cntE x n ≤ max (n + 1) 4097) ∧ (∀ (l : List Ex) (n : Int), szL l ≤ k → cntL l n ≤ max n 4097) := by
  induction k with
  | zero =>
    refine ⟨fun x n hk => by have := x.sz_args; omega, fun l n hk => ?_⟩
    cases l with
    | nil => simp [cntL]; omega
    | cons x r => rw [szL] at hk; have := x.sz_args; omega
  | succ k ih =>
    have h1 : ∀ (x : Ex) (n : Int), x.sz ≤ k + 1 → cntE x n ≤ max (n + 1) 4097 := fun x n hk => by
      rw [cntE_args]; exact ih.2 _ _ (by have := x.sz_args; omega)
    refine ⟨h1, fun l => ?_⟩
    induction l with
    | nil => intro n _; simp [cntL]; omega
    | cons x r ihr =>
      intro n hk
      rw [szL] at hk
      rw [cntL]
      split
      · omega
      · have := h1 x n (by omega)
        have := ihr (cntE x n) (by omega)
        omega
theorem cntZ_le (x : Ex) (n : Int) : cntZ x n ≤ max (n + 1) 4097 := by
  unfold cntZ; split
  · omega
  · exact (cnt_le _).1 x n (Nat.le_refl _)
theorem cntZ_ge (x : Ex) (n : Int) : n ≤ cntZ x n := by
  unfold cntZ; split
  · omega
  · have := cntE_ge x n; omega

/-- Every part of a statement's list of lists is smaller than it. -/
theorem bods_sz {s : St} {b : Bd} (h : b ∈ bods s) : ssz b.l + 1 ≤ s.sz := by
  have := s.sz_eq
  unfold bods at h
  rcases List.mem_cons.1 h with rfl | h
  · show ssz s.body + 1 ≤ _; omega
  · rcases List.mem_append.1 h with h | h
    · obtain ⟨c, hc, rfl⟩ := List.mem_map.1 h
      have := csz_mem hc
      have := c.sz_eq
      show ssz c.body + 1 ≤ _; omega
    · rw [List.mem_singleton.1 h]; show ssz s.els + 1 ≤ _; omega
theorem bods_have {W : World} {s : St} (hs : s.In W) {b : Bd} (h : b ∈ bods s) : Have W b.a b.c b.l := by
  obtain ⟨_, _, _, _, _, h6, h7, _, h9⟩ := St.in_iff.1 hs
  unfold bods at h
  rcases List.mem_cons.1 h with rfl | h
  · exact h6
  · rcases List.mem_append.1 h with h | h
    · obtain ⟨c, hc, rfl⟩ := List.mem_map.1 h
      exact (Ca.in_iff.1 (h9 c hc)).2
    · rw [List.mem_singleton.1 h]; exact h7

theorem cntS_bd {W : World} (k : Nat) : (∀ (s : St) (n : Int), s.sz ≤ k → s.In W → n ≤ cntS s n ∧ (n ≤ 4096 → cntS s n ≤ 8796093022208)) ∧ (∀ (l : List St) (n : Int), ssz l ≤ k → (∀ x ∈ l, x.In W) → n ≤ cntSs l n ∧ cntSs l n ≤ max n 8796093022208) := by
  have step : ∀ k, (∀ (s : St) (n : Int), s.sz ≤ k → s.In W → n ≤ cntS s n ∧ (n ≤ 4096 → cntS s n ≤ 8796093022208)) → ∀ (l : List St) (n : Int), ssz l ≤ k → (∀ x ∈ l, x.In W) → n ≤ cntSs l n ∧ cntSs l n ≤ max n 8796093022208 := by
    intro k h1 l
    induction l with
    | nil => intro n _ _; simp only [cntSs]; omega
    | cons x r ihr =>
      intro n hk hin
      rw [ssz] at hk
      rw [cntSs]
      split
      · omega
      · have a1 := h1 x n (by omega) (hin x (by simp))
        have a2 := ihr (cntS x n) (by omega) (fun y hy => hin y (by simp [hy]))
        omega
  induction k with
  | zero =>
    have h0 : ∀ (s : St) (n : Int), s.sz ≤ 0 → s.In W → n ≤ cntS s n ∧ (n ≤ 4096 → cntS s n ≤ 8796093022208) := fun s n hk => by have := s.sz_eq; omega
    exact ⟨h0, step 0 h0⟩
  | succ k ih =>
    have h1 : ∀ (s : St) (n : Int), s.sz ≤ k + 1 → s.In W → n ≤ cntS s n ∧ (n ≤ 4096 → cntS s n ≤ 8796093022208) := by
      intro s n hk hs
      have hc : (s.cases.length : Int) * 32 ≤ 140737488351232 := by
        obtain ⟨_, _, _, _, _, _, _, h8, _⟩ := St.in_iff.1 hs
        have := h8.1; have := h8.2.1; omega
      have fold : ∀ (l : List Bd) (n : Int), (∀ b ∈ l, b ∈ bods s) → n ≤ cntB l n ∧ cntB l n ≤ max n 8796093022208 := by
        intro l
        induction l with
        | nil => intro n _; simp only [cntB]; omega
        | cons b r ihr =>
          intro n hm
          rw [cntB]
          have hb := hm b (by simp)
          have a1 := ih.2 b.l n (by have := bods_sz hb; omega) (bods_have hs hb).2
          have a2 := ihr (cntSs b.l n) (fun y hy => hm y (by simp [hy]))
          omega
      rw [cntS_eq]
      have a1 := cntZ_ge s.a (n + (1 + (s.cases.length : Int)))
      have a2 := cntZ_ge s.b (cntZ s.a (n + (1 + (s.cases.length : Int))))
      have a3 := cntZ_le s.a (n + (1 + (s.cases.length : Int)))
      have a4 := cntZ_le s.b (cntZ s.a (n + (1 + (s.cases.length : Int))))
      have a5 := fold (bods s) (cntZ s.b (cntZ s.a (n + (1 + (s.cases.length : Int))))) (fun b hb => hb)
      omega
    exact ⟨h1, step (k + 1) h1⟩
theorem cntSs_bd {W : World} {l : List St} (h : ∀ x ∈ l, x.In W) (n : Int) : n ≤ cntSs l n ∧ cntSs l n ≤ max n 8796093022208 := (cntS_bd (W := W) _).2 l n (Nat.le_refl _) h
theorem cntS_bd1 {W : World} {s : St} (h : s.In W) (n : Int) : n ≤ cntS s n ∧ (n ≤ 4096 → cntS s n ≤ 8796093022208) := (cntS_bd (W := W) _).1 s n (Nat.le_refl _) h
end Go.Proofs.YtakaldbhaoidiaaDoor

/- countStmts and countStmt: what they answer. -/
namespace Go.Proofs.YtakaldbhaoidiaaDoor
open Go.RowKit

theorem rowS_at {W : World} {a : Option Addr} {l : List St} (h : RowIn W a 14 (l.map St.cells)) {i : Nat} (hi : i < l.length) :
    ∃ b o, a = some ⟨b, o, none⟩ ∧ ∀ j v, l[i].cells[j]? = some v → W.cell? ⟨b, o + (i * 14 + j), none⟩ = some v := h i l[i].cells (by simp [hi])

set_option maxRecDepth 100000 in
set_option maxHeartbeats 4000000 in
theorem countStmts_step (k : Nat) (h1 : ∀ (s : St) (n : Int) (w : World), s.sz ≤ k → s.In w → 0 ≤ n → n ≤ 4096 → Calls Tryd.prog 47 #[s.val, .int .i64 n] w fun e w' => e = .returned (.int .i64 (cntS s n)) ∧ Below w.heap.size w w')
    (l : List St) (a : Option Addr) (c : Nat) (n : Int) (w : World) (hk : ssz l ≤ k) (hin : Have w a c l) (h0 : 0 ≤ n) :
    Calls Tryd.prog 30 #[.slice a l.length c, .int .i64 n] w fun e w' => e = .returned (.int .i64 (cntSs l n)) ∧ Below w.heap.size w w' := by
  obtain ⟨⟨hl, hc, _, hrow⟩, hsub⟩ := hin
  have IH : Hid (∀ (s : St) (n : Int) (w : World), s.sz ≤ k → s.In w → 0 ≤ n → n ≤ 4096 → Calls Tryd.prog 47 #[s.val, .int .i64 n] w fun e w' => e = .returned (.int .i64 (cntS s n)) ∧ Below w.heap.size w w') := h1
  have HS : Hid (∀ x ∈ l, x.In w) := hsub
  have HR : Hid (RowIn w a 14 (List.map St.cells l)) := hrow
  clear h1 hsub hrow
  go_enter Tryd.func30, Tryd.ntmps30
  go_wp2_with fail
  go_loopw [1, 9] (fun t1 t9 wr => ∃ (j : Nat) (m : Int), j ≤ l.length ∧ t1 = .int .i64 m ∧ t9 = .int .i64 j ∧ 0 ≤ m ∧ cntSs (l.drop j) m = cntSs l n ∧ Below w.heap.size w wr) (fun _ t9 _ => l.length - (intOf t9).toNat)
  case atStart => exact ⟨0, n, Nat.zero_le _, rfl, rfl, h0, by simp, Below.refl _ w⟩
  case round =>
    obtain ⟨j, m, hj, rfl, rfl, hm0, hcnt, hb⟩ := hrel
    have HC : Hid (cntSs (l.drop j) m = cntSs l n) := hcnt
    clear hcnt
    have hws := hb.size
    by_cases hlt : j < l.length
    · obtain ⟨b, o, rfl, hcell⟩ := rowS_at (HR.out.below hb) hlt
      have c0 := hcell 0 _ rfl
      have c1 := hcell 1 _ rfl
      have c2 := hcell 2 _ rfl
      have c3 := hcell 3 _ rfl
      have c4 := hcell 4 _ rfl
      have c5 := hcell 5 _ rfl
      have c6 := hcell 6 _ rfl
      have c7 := hcell 7 _ rfl
      have c8 := hcell 8 _ rfl
      have c9 := hcell 9 _ rfl
      have c10 := hcell 10 _ rfl
      have c11 := hcell 11 _ rfl
      have c12 := hcell 12 _ rfl
      have c13 := hcell 13 _ rfl
      simp only [← Nat.add_assoc, Nat.add_zero] at c0 c1 c2 c3 c4 c5 c6 c7 c8 c9 c10 c11 c12 c13
      clear hcell
      have hli : (j : Int) < (l.length : Int) := by omega
      have hy := HS.out l[j] (List.getElem_mem hlt)
      have hsy := ssz_mem (List.getElem_mem hlt)
      have HY : Hid (l[j].In w) := hy
      have HZ : Hid (l[j].sz ≤ k) := (by omega : l[j].sz ≤ k)
      have HD : Hid (cntSs (l.drop j) m = if 4096 < m then m else cntSs (l.drop (j + 1)) (cntS l[j] m)) := cntSs_drop hlt
      clear hy hsy
      generalize l[j] = s at *
      by_cases hm : 4096 < m
      · go_wp2_with fail
        go_ret
        refine ⟨ret_int ?_, hb.alloc hws _⟩
        rw [← HC.out, HD.out, if_pos hm]
      · go_wp2_with fail
        refine (IH.out s m _ HZ.out (HY.out.stay (hb.alloc hws _)) hm0 (by omega)).mono ?_
        rintro e w' ⟨rfl, hb'⟩
        have hge := cntS_bd1 HY.out m
        go_wp2_with fail
        go_roundw
        case rel =>
          refine ⟨j + 1, cntS s m, by omega, rfl, by go_num, by omega, ?_, ?_⟩
          · rw [← HC.out, HD.out, if_neg (by omega)]
          · exact (hb.alloc hws _).trans (hb'.mono (by simp; omega))
        case measure => simp [intOf]; omega
    · go_wp2_with fail
      go_ret
      refine ⟨ret_int ?_, hb⟩
      rw [← HC.out, List.drop_eq_nil_of_le (by omega)]; simp [cntSs]
end Go.Proofs.YtakaldbhaoidiaaDoor

/- countStmt, and with it countStmts, at any depth. -/
namespace Go.Proofs.YtakaldbhaoidiaaDoor
open Go.RowKit

theorem cntZ_true {x : Ex} {n : Int} (h : zeroE x = true) : cntZ x n = n := by simp [cntZ, h]
theorem cntZ_false {x : Ex} {n : Int} (h : zeroE x = false) : cntZ x n = cntE x n := by simp [cntZ, h]

/-- The loop over A and B: how far it has come. -/
def abCnt (s : St) (n : Int) : Nat → Int
  | 0 => n
  | 1 => cntZ s.a n
  | _ => cntZ s.b (cntZ s.a n)

set_option maxRecDepth 100000 in
set_option maxHeartbeats 4000000 in
theorem countStmt_step (k : Nat) (h2 : ∀ (l : List St) (a : Option Addr) (c : Nat) (n : Int) (w : World), ssz l ≤ k → Have w a c l → 0 ≤ n → Calls Tryd.prog 30 #[.slice a l.length c, .int .i64 n] w fun e w' => e = .returned (.int .i64 (cntSs l n)) ∧ Below w.heap.size w w')
    (s : St) (n : Int) (w : World) (hk : s.sz ≤ k + 1) (hin : s.In w) (h0 : 0 ≤ n) (h1 : n ≤ 4096) :
    Calls Tryd.prog 47 #[s.val, .int .i64 n] w fun e w' => e = .returned (.int .i64 (cntS s n)) ∧ Below w.heap.size w w' := by
  have IH : Hid (∀ (l : List St) (a : Option Addr) (c : Nat) (n : Int) (w : World), ssz l ≤ k → Have w a c l → 0 ≤ n → Calls Tryd.prog 30 #[.slice a l.length c, .int .i64 n] w fun e w' => e = .returned (.int .i64 (cntSs l n)) ∧ Below w.heap.size w w') := h2
  have hc : s.cases.length * 32 ≤ 140737488351232 := by
    obtain ⟨_, _, _, _, _, _, _, h8, _⟩ := St.in_iff.1 hin
    have := h8.1; have := h8.2.1; omega
  have HIN : Hid (s.In w) := hin
  have HK : Hid (s.sz ≤ k + 1) := hk
  have HV : Hid (∀ w, s.In w → Calls Tryd.prog 33 #[s.val] w fun e w' => ∃ g cap, e = .returned (.slice (some ⟨g, 0, none⟩) (bods s).length cap) ∧ (∀ i b, (bods s)[i]? = some b → w'.cell? ⟨g, i, none⟩ = some b.v) ∧ Below w.heap.size w w') := fun w h => bodies_any s w h
  have HE : Hid (cntS s n = cntB (bods s) (abCnt s (n + (1 + (s.cases.length : Int))) 2)) := cntS_eq s n
  have hbl := bods_len s
  clear h2 hin hk
  unfold St.val at HV ⊢
  go_enter Tryd.func47, Tryd.ntmps47
  go_wp2_with fail
  obtain ⟨W1, hW1⟩ : ∃ W1, (w.alloc (.cells #[.int .i64 s.kind, .string s.name, .int .i64 s.n, .int .i64 s.a.kind, .int .i64 s.a.n, .string s.a.name, .slice s.a.a s.a.args.length s.a.cap, .int .i64 s.b.kind, .int .i64 s.b.n, .string s.b.name, .slice s.b.a s.b.args.length s.b.cap, .slice s.ba s.body.length s.bc, .slice s.ea s.els.length s.ec, .slice s.ca s.cases.length s.cc] 43)).alloc (.cells #[.int .i64 s.a.kind, .int .i64 s.a.n, .string s.a.name, .slice s.a.a s.a.args.length s.a.cap, .int .i64 s.b.kind, .int .i64 s.b.n, .string s.b.name, .slice s.b.a s.b.args.length s.b.cap] 40) = W1 := ⟨_, rfl⟩
  have BX : Hid (∀ (j : Nat) v, s.cells[j]? = some v → W1.cell? ⟨w.heap.size, j, none⟩ = some v) := by
    show ∀ (j : Nat) v, _; intro j v h
    rw [← hW1, World.cell?_alloc_past _ _ _ (by simp), World.cell?_alloc_at _ _ _ _ rfl]; simpa [St.cells] using h
  have BE : Hid (∀ (j : Nat) v, (s.a.cells ++ s.b.cells)[j]? = some v → W1.cell? ⟨w.heap.size + 1, j, none⟩ = some v) := by
    show ∀ (j : Nat) v, _; intro j v h
    rw [← hW1, World.cell?_alloc_at _ _ _ _ (by simp)]; simpa [Ex.cells] using h
  have hb1 : Below w.heap.size w W1 := by rw [← hW1]; exact ((Below.refl _ w).alloc (Nat.le_refl _) _).alloc (by simp) _
  have hs1 : w.heap.size + 1 + 1 ≤ W1.heap.size := by rw [← hW1]; simp
  rw [hW1]
  clear hW1
  have HN : ∃ n1, n1 = n + (1 + (s.cases.length : Int)) := ⟨_, rfl⟩
  obtain ⟨n1, hn1⟩ := HN
  rw [← hn1] at HE ⊢
  have hn1b : 0 ≤ n1 ∧ n1 ≤ 5000000000000 := by omega
  clear hn1
  go_loopw [1, 21] (fun t1 t21 wr => ∃ (j : Nat), j ≤ 2 ∧ t1 = .int .i64 (abCnt s n1 j) ∧ t21 = .int .i64 j ∧ Below W1.heap.size W1 wr) (fun _ t21 _ => 2 - (intOf t21).toNat)
  case atStart => exact ⟨0, by omega, rfl, rfl, Below.refl _ _⟩
  case round =>
    obtain ⟨j, hj, rfl, rfl, hb⟩ := hrel
    have hws := hb.size
    have hE : ∀ (i : Nat) v, (s.a.cells ++ s.b.cells)[i]? = some v → wr.cell? ⟨w.heap.size + 1, i, none⟩ = some v := fun i v h => (hb.cell (p := ⟨w.heap.size + 1, i, none⟩) (by show w.heap.size + 1 < _; omega)).trans (BE.out i v h)
    obtain ⟨_, _, _, ha, hbb, _⟩ := St.in_iff.1 HIN.out
    have HA : Hid (s.a.In wr) := (ha.stay hb1).stay hb
    have HB : Hid (s.b.In wr) := (hbb.stay hb1).stay hb
    clear ha hbb
    have g1 := cntZ_ge s.a n1
    have g2 := cntZ_ge s.b (cntZ s.a n1)
    have g3 := cntZ_le s.a n1
    have g4 := cntZ_le s.b (cntZ s.a n1)
    by_cases hj0 : j = 0
    · subst hj0
      have c0 := hE 0 _ rfl
      have c1 := hE 1 _ rfl
      have c2 := hE 2 _ rfl
      have c3 := hE 3 _ rfl
      clear hE
      have HZ : Hid (∀ w, Calls Tryd.prog 69 #[s.a.val] w fun e w' => e = .returned (.bool (zeroE s.a)) ∧ Below w.heap.size w w') := fun w => zero_any s.a w
      unfold Ex.val at HZ
      simp only [abCnt]
      cases hz : zeroE s.a
      · rw [hz] at HZ
        go_wp2_with fail
        refine (HZ.out _).mono ?_
        rintro e w' ⟨rfl, hb'⟩
        have d0 := own_cell hb' (j := 0) rfl
        have d1 := own_cell hb' (j := 1) rfl
        have d2 := own_cell hb' (j := 2) rfl
        have d3 := own_cell hb' (j := 3) rfl
        go_wp2_with fail
        refine (countExpr_any s.a n1 _ ((HA.out.stay ((Below.refl _ _).alloc (Nat.le_refl _) _)).stay hb') (by omega) (by omega)).mono ?_
        rintro e w2 ⟨rfl, hb2⟩
        go_wp2_with fail
        go_roundw
        case rel => exact ⟨1, by omega, congrArg (Value.int .i64) (show _ = cntZ s.a n1 from (cntZ_false hz).symm), rfl, (hb.alloc hws _).trans ((hb'.mono (by simp; omega)).trans (hb2.mono (by have := hb'.size; simp at this; omega)))⟩
        case measure => simp [intOf]
      · rw [hz] at HZ
        go_wp2_with fail
        refine (HZ.out _).mono ?_
        rintro e w' ⟨rfl, hb'⟩
        go_wp2_with fail
        go_roundw
        case rel => exact ⟨1, by omega, congrArg (Value.int .i64) (show _ = cntZ s.a n1 from (cntZ_true hz).symm), rfl, (hb.alloc hws _).trans (hb'.mono (by simp; omega))⟩
        case measure => simp [intOf]
    · by_cases hj1 : j = 1
      · subst hj1
        have c0 := hE 4 _ rfl
        have c1 := hE 5 _ rfl
        have c2 := hE 6 _ rfl
        have c3 := hE 7 _ rfl
        clear hE
        have HZ : Hid (∀ w, Calls Tryd.prog 69 #[s.b.val] w fun e w' => e = .returned (.bool (zeroE s.b)) ∧ Below w.heap.size w w') := fun w => zero_any s.b w
        unfold Ex.val at HZ
        simp only [abCnt]
        cases hz : zeroE s.b
        · rw [hz] at HZ
          go_wp2_with fail
          refine (HZ.out _).mono ?_
          rintro e w' ⟨rfl, hb'⟩
          have d0 := own_cell hb' (j := 0) rfl
          have d1 := own_cell hb' (j := 1) rfl
          have d2 := own_cell hb' (j := 2) rfl
          have d3 := own_cell hb' (j := 3) rfl
          go_wp2_with fail
          refine (countExpr_any s.b (cntZ s.a n1) _ ((HB.out.stay ((Below.refl _ _).alloc (Nat.le_refl _) _)).stay hb') (by omega) (by omega)).mono ?_
          rintro e w2 ⟨rfl, hb2⟩
          go_wp2_with fail
          go_roundw
          case rel => exact ⟨2, by omega, congrArg (Value.int .i64) (show _ = cntZ s.b (cntZ s.a n1) from (cntZ_false hz).symm), rfl, (hb.alloc hws _).trans ((hb'.mono (by simp; omega)).trans (hb2.mono (by have := hb'.size; simp at this; omega)))⟩
          case measure => simp [intOf]
        · rw [hz] at HZ
          go_wp2_with fail
          refine (HZ.out _).mono ?_
          rintro e w' ⟨rfl, hb'⟩
          go_wp2_with fail
          go_roundw
          case rel => exact ⟨2, by omega, congrArg (Value.int .i64) (show _ = cntZ s.b (cntZ s.a n1) from (cntZ_true hz).symm), rfl, (hb.alloc hws _).trans (hb'.mono (by simp; omega))⟩
          case measure => simp [intOf]
      · obtain rfl : j = 2 := by omega
        clear hE
        have hX : ∀ (i : Nat) v, s.cells[i]? = some v → wr.cell? ⟨w.heap.size, i, none⟩ = some v := fun i v h => (hb.cell (p := ⟨w.heap.size, i, none⟩) (by show w.heap.size < _; omega)).trans (BX.out i v h)
        have c0 := hX 0 _ rfl
        have c1 := hX 1 _ rfl
        have c2 := hX 2 _ rfl
        have c3 := hX 3 _ rfl
        have c4 := hX 4 _ rfl
        have c5 := hX 5 _ rfl
        have c6 := hX 6 _ rfl
        have c7 := hX 7 _ rfl
        have c8 := hX 8 _ rfl
        have c9 := hX 9 _ rfl
        have c10 := hX 10 _ rfl
        have c11 := hX 11 _ rfl
        have c12 := hX 12 _ rfl
        have c13 := hX 13 _ rfl
        clear hX
        have hn2 : 0 ≤ abCnt s n1 2 ∧ abCnt s n1 2 ≤ 8796093022208 := by simp only [abCnt]; omega
        clear g1 g2 g3 g4
        generalize abCnt s n1 2 = n2 at hn2 HE ⊢
        go_wp2_with fail
        refine (HV.out _ ((HIN.out.stay hb1).stay hb)).mono ?_
        rintro e w' ⟨g, cap, rfl, hcell, hb'⟩
        have HCL : Hid (∀ i b, (bods s)[i]? = some b → w'.cell? ⟨g, i, none⟩ = some b.v) := hcell
        have HIN' : Hid (s.In w') := ((HIN.out.stay hb1).stay hb).stay hb'
        have hb3 : Below w.heap.size w w' := hb1.trans ((hb.mono (by omega)).trans (hb'.mono (by omega)))
        clear hcell c0 c1 c2 c3 c4 c5 c6 c7 c8 c9 c10 c11 c12 c13
        go_wp2_with fail
        go_loopw [1, 35] (fun t1 t35 wq => ∃ (j : Nat) (m : Int), j ≤ s.cases.length + 2 ∧ t1 = .int .i64 m ∧ t35 = .int .i64 j ∧ 0 ≤ m ∧ m ≤ 8796093022208 ∧ cntB ((bods s).drop j) m = cntS s n ∧ Below w'.heap.size w' wq) (fun _ t35 _ => s.cases.length + 2 - (intOf t35).toNat)
        case atStart => exact ⟨0, n2, by omega, rfl, rfl, hn2.1, hn2.2, HE.out.symm, Below.refl _ _⟩
        case round =>
          obtain ⟨j, m, hj, rfl, rfl, hm0, hm1, hcnt, hbq⟩ := hrel
          have HC : Hid (cntB ((bods s).drop j) m = cntS s n) := hcnt
          clear hcnt
          have hwq := hbq.size
          by_cases hlt : j < (bods s).length
          · have hmem := List.getElem_mem hlt
            have hcl := HCL.out j (bods s)[j] (List.getElem?_eq_getElem hlt)
            have hcl' := (hbq.cell (p := ⟨g, j, none⟩) (lt_of_cell hcl)).trans hcl
            have HH : Hid (Have wr (bods s)[j].a (bods s)[j].c (bods s)[j].l) := (bods_have HIN'.out hmem).stay hbq
            have HZ : Hid (ssz (bods s)[j].l ≤ k) := (by have := bods_sz hmem; have := HK.out; omega : ssz (bods s)[j].l ≤ k)
            have HD : Hid (cntB ((bods s).drop j) m = cntB ((bods s).drop (j + 1)) (cntSs (bods s)[j].l m)) := cntB_drop hlt
            have hbd := cntSs_bd HH.out.2 m
            unfold Bd.v at hcl'
            clear hcl hmem
            generalize (bods s)[j] = bd at *
            have hli : (j : Int) < (s.cases.length : Int) + 2 := by omega
            go_wp2_with fail
            refine (IH.out bd.l bd.a bd.c m _ HZ.out HH.out hm0).mono ?_
            rintro e w2 ⟨rfl, hb2⟩
            go_wp2_with fail
            go_roundw
            case rel =>
              refine ⟨j + 1, cntSs bd.l m, by omega, rfl, by go_num, by omega, by omega, ?_, hbq.trans (hb2.mono hwq)⟩
              rw [← HC.out, HD.out]
            case measure => simp [intOf]; omega
          · obtain rfl : j = s.cases.length + 2 := by omega
            go_wp2_with fail
            go_ret
            refine ⟨ret_int ?_, hb3.trans (hbq.mono hb3.size)⟩
            rw [← HC.out, List.drop_eq_nil_of_le (by omega), cntB]

theorem count_any (k : Nat) : (∀ (s : St) (n : Int) (w : World), s.sz ≤ k → s.In w → 0 ≤ n → n ≤ 4096 → Calls Tryd.prog 47 #[s.val, .int .i64 n] w fun e w' => e = .returned (.int .i64 (cntS s n)) ∧ Below w.heap.size w w') ∧
    (∀ (l : List St) (a : Option Addr) (c : Nat) (n : Int) (w : World), ssz l ≤ k → Have w a c l → 0 ≤ n → Calls Tryd.prog 30 #[.slice a l.length c, .int .i64 n] w fun e w' => e = .returned (.int .i64 (cntSs l n)) ∧ Below w.heap.size w w') := by
  induction k with
  | zero =>
    have h0 : ∀ (s : St) (n : Int) (w : World), s.sz ≤ 0 → s.In w → 0 ≤ n → n ≤ 4096 → Calls Tryd.prog 47 #[s.val, .int .i64 n] w fun e w' => e = .returned (.int .i64 (cntS s n)) ∧ Below w.heap.size w w' := fun s _ _ h => by have := s.sz_eq; omega
    exact ⟨h0, fun l a c n w hk hh hn => countStmts_step 0 h0 l a c n w hk hh hn⟩
  | succ k ih =>
    have h1 := fun s n w hk hin h0 h1 => countStmt_step k ih.2 s n w hk hin h0 h1
    exact ⟨h1, fun l a c n w hk hh hn => countStmts_step (k + 1) h1 l a c n w hk hh hn⟩
theorem countStmts_any (l : List St) (a : Option Addr) (c : Nat) (n : Int) (w : World) (hin : Have w a c l) (h0 : 0 ≤ n) : Calls Tryd.prog 30 #[.slice a l.length c, .int .i64 n] w fun e w' => e = .returned (.int .i64 (cntSs l n)) ∧ Below w.heap.size w w' :=
  (count_any _).2 l a c n w (Nat.le_refl _) hin h0
end Go.Proofs.YtakaldbhaoidiaaDoor

/- tree.Nodes: what it answers. -/
namespace Go.Proofs.YtakaldbhaoidiaaDoor
open Go.RowKit

def cntF : List Fu → Int → Int | [], n => n | f :: r, n => cntF r (cntSs f.body n)
theorem cntF_drop {l : List Fu} {j : Nat} {n : Int} (h : j < l.length) : cntF (l.drop j) n = cntF (l.drop (j + 1)) (cntSs l[j].body n) := by
  rw [List.drop_eq_getElem_cons h, cntF]
/-- How many parts a program has, as the program counts them. -/
def nodesZ (p : Pr) : Int := min (cntF p.funcs 0) 4097

theorem rowF_at {W : World} {a : Option Addr} {l : List Fu} (h : RowIn W a 3 (l.map Fu.cells)) {i : Nat} (hi : i < l.length) :
    ∃ b o, a = some ⟨b, o, none⟩ ∧ W.cell? ⟨b, o + i * 3, none⟩ = some (.string l[i].name) ∧ W.cell? ⟨b, o + i * 3 + 1, none⟩ = some (.slice l[i].pa l[i].params.length l[i].pc) ∧ W.cell? ⟨b, o + i * 3 + 2, none⟩ = some (.slice l[i].ba l[i].body.length l[i].bc) := by
  obtain ⟨b, o, e, hc⟩ := h i l[i].cells (by simp [hi])
  exact ⟨b, o, e, hc 0 _ rfl, hc 1 _ rfl, hc 2 _ rfl⟩

set_option maxRecDepth 100000 in
set_option maxHeartbeats 4000000 in
theorem nodes_any (p : Pr) (w : World) (hin : p.In w) : Calls Tryd.prog 22 #[p.val] w fun e w' => e = .returned (.int .i64 (nodesZ p)) ∧ Below w.heap.size w w' := by
  obtain ⟨h1, h2, h3, h4, h5, h6, h7, h8, hrow, hsub⟩ := hin
  have HR : Hid (RowIn w p.fa 3 (List.map Fu.cells p.funcs)) := hrow
  have HS : Hid (∀ f ∈ p.funcs, f.In w) := hsub
  clear hrow hsub h1 h2 h3 h4 h5 h8
  unfold Pr.val nodesZ
  go_enter Tryd.func22, Tryd.ntmps22
  go_wp2_with fail
  go_loopw [3, 9] (fun t3 t9 wr => ∃ (j : Nat) (m : Int), j ≤ p.funcs.length ∧ t3 = .int .i64 m ∧ t9 = .int .i64 j ∧ 0 ≤ m ∧ m ≤ 8796093022208 ∧ cntF (p.funcs.drop j) m = cntF p.funcs 0 ∧ Below w.heap.size w wr) (fun _ t9 _ => p.funcs.length - (intOf t9).toNat)
  case atStart => exact ⟨0, 0, Nat.zero_le _, rfl, rfl, by omega, by omega, by simp, (Below.refl _ w).alloc (Nat.le_refl _) _⟩
  case round =>
    obtain ⟨j, m, hj, rfl, rfl, hm0, hm1, hcnt, hb⟩ := hrel
    have HC : Hid (cntF (p.funcs.drop j) m = cntF p.funcs 0) := hcnt
    clear hcnt
    have hws := hb.size
    by_cases hlt : j < p.funcs.length
    · obtain ⟨b, o, hfa, c0, c1, c2⟩ := rowF_at (HR.out.below hb) hlt
      rw [hfa]
      have hli : (j : Int) < (p.funcs.length : Int) := by omega
      have hy := HS.out p.funcs[j] (List.getElem_mem hlt)
      have HH : Hid (Have wr p.funcs[j].ba p.funcs[j].bc p.funcs[j].body) := hy.2.2.2.2.2.2.stay hb
      have HD : Hid (cntF (p.funcs.drop j) m = cntF (p.funcs.drop (j + 1)) (cntSs p.funcs[j].body m)) := cntF_drop hlt
      have hbd := cntSs_bd HH.out.2 m
      clear hy
      generalize p.funcs[j] = f at *
      go_wp2_with fail
      refine (countStmts_any f.body f.ba f.bc m _ (HH.out.stay ((Below.refl _ _).alloc (Nat.le_refl _) _)) hm0).mono ?_
      rintro e w' ⟨rfl, hb'⟩
      go_wp2_with fail
      go_roundw
      case rel =>
        refine ⟨j + 1, cntSs f.body m, by omega, rfl, by go_num, by omega, by omega, ?_, (hb.alloc hws _).trans (hb'.mono (by simp; omega))⟩
        rw [← HC.out, HD.out]
      case measure => simp [intOf]; omega
    · have he : cntF p.funcs 0 = m := by rw [← HC.out, List.drop_eq_nil_of_le (by omega), cntF]
      have HE : Hid (cntF p.funcs 0 = m) := he
      clear he HC
      by_cases hm : m ≤ 4097
      · go_wp2_with fail
        go_ret
        refine ⟨ret_int ?_, hb⟩
        have := HE.out
        omega
      · go_wp2_with fail
        go_ret
        refine ⟨ret_int ?_, hb⟩
        have := HE.out
        omega
end Go.Proofs.YtakaldbhaoidiaaDoor

/- The program's two tables; isStmt, isExpr, hasLeast; slices.Contains and rise over thresholds. -/
namespace Go.Proofs.YtakaldbhaoidiaaDoor
open Go.RowKit Go.Sort

/-- The fields that count, of each kind of statement. -/
def fldS : Nat → Int
  | 1 => 5 | 2 => 3 | 3 => 5 | 4 => 13 | 5 => 52 | 6 => 100 | 7 => 29 | 8 => 0 | 9 => 4 | 10 => 4 | _ => 0
/-- Fields, arguments, rank and sign, of each kind of expression. -/
structure Form where
  fields : Int
  args : Int
  rank : Int
  sign : ByteArray
def formE : Nat → Form
  | 1 => ⟨2, 0, 9, ⟨#[]⟩⟩ | 2 => ⟨1, 0, 9, ⟨#[]⟩⟩ | 3 => ⟨1, 1, 9, ⟨#[]⟩⟩ | 4 => ⟨1, -1, 9, ⟨#[]⟩⟩
  | 5 => ⟨0, 1, 8, ⟨#[45]⟩⟩ | 6 => ⟨0, 1, 8, ⟨#[33]⟩⟩ | 7 => ⟨0, 2, 6, ⟨#[43]⟩⟩ | 8 => ⟨0, 2, 6, ⟨#[45]⟩⟩
  | 9 => ⟨0, 2, 7, ⟨#[42]⟩⟩ | 10 => ⟨0, 2, 7, ⟨#[47]⟩⟩ | 11 => ⟨0, 2, 7, ⟨#[37]⟩⟩ | 12 => ⟨0, 2, 4, ⟨#[61, 61]⟩⟩
  | 13 => ⟨0, 2, 4, ⟨#[33, 61]⟩⟩ | 14 => ⟨0, 2, 5, ⟨#[60]⟩⟩ | 15 => ⟨0, 2, 5, ⟨#[60, 61]⟩⟩ | 16 => ⟨0, 2, 5, ⟨#[62]⟩⟩
  | 17 => ⟨0, 2, 5, ⟨#[62, 61]⟩⟩ | 18 => ⟨0, 2, 3, ⟨#[38, 38]⟩⟩ | 19 => ⟨0, 2, 2, ⟨#[124, 124]⟩⟩ | 20 => ⟨0, 3, 1, ⟨#[]⟩⟩
  | _ => ⟨0, 0, 0, ⟨#[]⟩⟩
/-- The world holds both tables. -/
def Tabs (w : World) : Prop :=
  (∀ k, k < 11 → w.cell? ⟨0, k, none⟩ = some (.int .i64 (fldS k))) ∧
  (∀ k, k < 21 → w.cell? ⟨1, k * 4, none⟩ = some (.int .i64 (formE k).fields) ∧ w.cell? ⟨1, k * 4 + 1, none⟩ = some (.int .i64 (formE k).args) ∧
    w.cell? ⟨1, k * 4 + 2, none⟩ = some (.int .i64 (formE k).rank) ∧ w.cell? ⟨1, k * 4 + 3, none⟩ = some (.string (formE k).sign))
theorem Tabs.stay {w w' : World} (hb : Below w.heap.size w w') (h : Tabs w) : Tabs w' := by
  have k1 : ∀ {p : Addr} {v : Value}, w.cell? p = some v → w'.cell? p = some v := fun h => (hb.cell (lt_of_cell h)).trans h
  exact ⟨fun k hk => k1 (h.1 k hk), fun k hk => ⟨k1 (h.2 k hk).1, k1 (h.2 k hk).2.1, k1 (h.2 k hk).2.2.1, k1 (h.2 k hk).2.2.2⟩⟩

def isS (k : Int) : Bool := decide (1 ≤ k) && decide (k ≤ 10)
def isE (k : Int) : Bool := decide (1 ≤ k) && decide (k ≤ 20)
set_option maxHeartbeats 400000 in
theorem isStmt_any (k : Int) (w : World) : Calls Tryd.prog 52 #[.int .i64 k] w fun e w' => e = .returned (.bool (isS k)) ∧ w' = w := by
  by_cases h : 1 ≤ k
  all_goals
    go_enter Tryd.func52, Tryd.ntmps52
    go_wp2
    go_ret
    exact ⟨ret_bool (by simp [isS]; try omega), rfl⟩
set_option maxHeartbeats 400000 in
theorem isExpr_any (k : Int) (w : World) : Calls Tryd.prog 73 #[.int .i64 k] w fun e w' => e = .returned (.bool (isE k)) ∧ w' = w := by
  by_cases h : 1 ≤ k
  all_goals
    go_enter Tryd.func73, Tryd.ntmps73
    go_wp2
    go_ret
    exact ⟨ret_bool (by simp [isE]; try omega), rfl⟩

/-- Has a case the least number? -/
def leastC (l : List Ca) : Bool := l.any fun c => c.n == -9223372036854775808
theorem leastC_drop {l : List Ca} {j : Nat} (h : j < l.length) : leastC (l.drop j) = (l[j].n == -9223372036854775808 || leastC (l.drop (j + 1))) := by
  rw [List.drop_eq_getElem_cons h]; rfl
set_option maxRecDepth 100000 in
set_option maxHeartbeats 1000000 in
theorem hasLeast_any (l : List Ca) (a : Option Addr) (c : Nat) (w : World) (hin : LiesC w a c l) : Calls Tryd.prog 54 #[.slice a l.length c] w fun e w' => e = .returned (.bool (leastC l)) ∧ Below w.heap.size w w' := by
  obtain ⟨hl, hc, _, hrow⟩ := hin
  have HR : Hid (RowIn w a 2 (List.map Ca.cells l)) := hrow
  clear hrow
  go_enter Tryd.func54, Tryd.ntmps54
  go_wp2_with fail
  go_loopw [7] (fun t7 wr => ∃ (j : Nat), j ≤ l.length ∧ t7 = .int .i64 j ∧ leastC (l.drop j) = leastC l ∧ Below w.heap.size w wr) (fun t7 _ => l.length - (intOf t7).toNat)
  case atStart => exact ⟨0, Nat.zero_le _, rfl, rfl, Below.refl _ w⟩
  case round =>
    obtain ⟨j, hj, rfl, hcnt, hb⟩ := hrel
    have HC : Hid (leastC (l.drop j) = leastC l) := hcnt
    clear hcnt
    have hws := hb.size
    by_cases hlt : j < l.length
    · obtain ⟨b, o, rfl, c0, c1⟩ := rowC_at (HR.out.below hb) hlt
      have hli : (j : Int) < (l.length : Int) := by omega
      have HD : Hid (leastC (l.drop j) = (l[j].n == -9223372036854775808 || leastC (l.drop (j + 1)))) := leastC_drop hlt
      generalize l[j] = s at *
      cases hm : (s.n == -9223372036854775808)
      · go_wp2_with fail
        go_roundw
        case rel => exact ⟨j + 1, by omega, by go_num, by rw [← HC.out, HD.out, hm]; rfl, hb.alloc hws _⟩
        case measure => simp [intOf]; omega
      · go_wp2_with fail
        go_ret
        exact ⟨ret_bool (by rw [← HC.out, HD.out, hm]; rfl), hb.alloc hws _⟩
    · go_wp2_with fail
      go_ret
      exact ⟨ret_bool (by rw [← HC.out, List.drop_eq_nil_of_le (by omega)]; rfl), hb⟩
end Go.Proofs.YtakaldbhaoidiaaDoor

/- What every card of this seat shares: a start at which the listed variables hold what the program's text lays, and what their list says of the program's two tables. -/
namespace Go.Proofs.YtakaldbhaoidiaaDoor
open Go.ChangeShapes Go.WideShapes Go.ChangeAt Go.RowKit

theorem ownK : ownKnob Tryd.prog.godebug = none := by kernel_rfl
theorem laidOutT : laidOutB Tryd.prog = true := by kernel_rfl

/-- A block's cells, its tag and its frozen range kept. -/
def putCells (c : Array Value) : Obj → Obj
  | .cells _ t fz => .cells c t fz
  | o => o
/-- The two variables as their initialisers lay them. -/
def laidHeap (h : Array Obj) : Array Obj :=
  (h.modify 0 (putCells #[.int .i64 0, .int .i64 5, .int .i64 3, .int .i64 5, .int .i64 13, .int .i64 52, .int .i64 100, .int .i64 29, .int .i64 0, .int .i64 4, .int .i64 4])).modify 1 (putCells #[.int .i64 0, .int .i64 0, .int .i64 0, .string ⟨#[]⟩, .int .i64 2, .int .i64 0, .int .i64 9, .string ⟨#[]⟩, .int .i64 1, .int .i64 0, .int .i64 9, .string ⟨#[]⟩, .int .i64 1, .int .i64 1, .int .i64 9, .string ⟨#[]⟩, .int .i64 1, .int .i64 (-1), .int .i64 9, .string ⟨#[]⟩, .int .i64 0, .int .i64 1, .int .i64 8, .string ⟨#[45]⟩, .int .i64 0, .int .i64 1, .int .i64 8, .string ⟨#[33]⟩, .int .i64 0, .int .i64 2, .int .i64 6, .string ⟨#[43]⟩, .int .i64 0, .int .i64 2, .int .i64 6, .string ⟨#[45]⟩, .int .i64 0, .int .i64 2, .int .i64 7, .string ⟨#[42]⟩, .int .i64 0, .int .i64 2, .int .i64 7, .string ⟨#[47]⟩, .int .i64 0, .int .i64 2, .int .i64 7, .string ⟨#[37]⟩, .int .i64 0, .int .i64 2, .int .i64 4, .string ⟨#[61, 61]⟩, .int .i64 0, .int .i64 2, .int .i64 4, .string ⟨#[33, 61]⟩, .int .i64 0, .int .i64 2, .int .i64 5, .string ⟨#[60]⟩, .int .i64 0, .int .i64 2, .int .i64 5, .string ⟨#[60, 61]⟩, .int .i64 0, .int .i64 2, .int .i64 5, .string ⟨#[62]⟩, .int .i64 0, .int .i64 2, .int .i64 5, .string ⟨#[62, 61]⟩, .int .i64 0, .int .i64 2, .int .i64 3, .string ⟨#[38, 38]⟩, .int .i64 0, .int .i64 2, .int .i64 2, .string ⟨#[124, 124]⟩, .int .i64 0, .int .i64 3, .int .i64 1, .string ⟨#[]⟩])
def laidOf (w : World) : World := { w with heap := laidHeap w.heap }

def fldTab : List Int := [0, 5, 3, 5, 13, 52, 100, 29, 0, 4, 4]
theorem gFld : Tryd.prog.globalNamed "soffit/tree.stmtFields" = some 0 := by kernel_rfl
theorem gFldT : (Tryd.prog.globals[0]?).map (·.type) = some 107 := by kernel_rfl
theorem cInt : Tryd.prog.cellsOf 3 = 1 := by kernel_rfl
theorem cStr : Tryd.prog.cellsOf 9 = 1 := by kernel_rfl
theorem cA11 : Tryd.prog.cellsOf 107 = 11 := by kernel_rfl
theorem fld_laid : (Rows.laid_soffit_tree_stmtFields : DataW Unit) = Lib.tabData .i64 fldTab := by kernel_rfl
theorem fld_at : fldTab = (List.range 11).map fldS := by decide

theorem gFrm : Tryd.prog.globalNamed "soffit/tree.exprForms" = some 1 := by kernel_rfl
theorem gFrmT : (Tryd.prog.globals[1]?).map (·.type) = some 126 := by kernel_rfl
theorem cFrm : Tryd.prog.cellsOf 125 = 4 := by kernel_rfl
/-- A row of the second table, as the list has it. -/
def formD (k : Nat) : DataW Unit := .agg [.lit (.int .i64 (formE k).fields), .lit (.int .i64 (formE k).args), .lit (.int .i64 (formE k).rank), .lit (.string (formE k).sign.data.toList)]
theorem frm_laid : (Rows.laid_soffit_tree_exprForms : DataW Unit) = .agg ((List.range 21).map formD) := by kernel_rfl

theorem arr_at {H : Type} {enc : TypeId × Value → H} {P : Program} {w : World} {base : Nat} {sp : Nat → Bool} {held : Bool} {fuel : Nat} {t e : TypeId} {n : Nat} {cs : List Value} {ds : List (DataW H)} {p : List MemPlace}
    (ht : P.underlying t = some (.array n e)) (h : DataW.trod enc P w base sp held fuel t cs = some (.agg ds, p)) :
    ∃ m, ∀ i d, ds[i]? = some d → ∃ q, DataW.trod enc P w base sp held m e ((cs.drop (i * P.cellsOf e)).take (P.cellsOf e)) = some (d, q) := by
  cases fuel with
  | zero => simp [DataW.trod] at h
  | succ fuel =>
    simp only [DataW.trod, ht] at h
    split at h
    · obtain ⟨xs, hm, hx⟩ := Option.map_eq_some_iff.1 h
      have hxs : xs.map (·.1) = ds := by
        have := congrArg Prod.fst hx
        simpa using this
      refine ⟨fuel, fun i d hd => ?_⟩
      rw [← hxs, List.getElem?_map, Option.map_eq_some_iff] at hd
      obtain ⟨y, hy, rfl⟩ := hd
      have hi : i < n := by
        have h1 := (List.getElem?_eq_some_iff.1 hy).1
        have h2 := Lib.mapM_length hm
        simp at h2; omega
      obtain ⟨b, hb, hf⟩ := Lib.mapM_at hm i i (by simp [hi])
      rw [hy] at hb
      cases hb
      exact ⟨_, hf⟩
    · cases h

theorem four_of : ∀ l : List Value, l.length = 4 → ∃ c0 c1 c2 c3, l = [c0, c1, c2, c3]
  | [c0, c1, c2, c3], _ => ⟨c0, c1, c2, c3, rfl⟩
theorem form_cells {H : Type} {enc : TypeId × Value → H} {w : World} {base : Nat} {sp : Nat → Bool} {held : Bool} {m : Nat} {cs : List Value} {a b c : Int} {s : List UInt8} {q : List MemPlace}
    (h : DataW.trod enc Tryd.prog w base sp held m 125 cs = some (.agg [.lit (.int .i64 a), .lit (.int .i64 b), .lit (.int .i64 c), .lit (.string s)], q)) :
    cs = [.int .i64 a, .int .i64 b, .int .i64 c, .string ⟨s.toArray⟩] := by
  obtain ⟨xs, n, _, hx, hl, hlen, hf⟩ := DataW.trod_struct Tryd.underlying125 h
  rw [cFrm] at hl
  match xs, hlen with
  | [y0, y1, y2, y3], _ =>
      have f0 : DataW.trod enc Tryd.prog w base sp held n 3 ((cs.drop 0).take (Tryd.prog.cellsOf 3)) = some y0 := hf 0 _ rfl
      have f1 : DataW.trod enc Tryd.prog w base sp held n 3 ((cs.drop 1).take (Tryd.prog.cellsOf 3)) = some y1 := hf 1 _ rfl
      have f2 : DataW.trod enc Tryd.prog w base sp held n 3 ((cs.drop 2).take (Tryd.prog.cellsOf 3)) = some y2 := hf 2 _ rfl
      have f3 : DataW.trod enc Tryd.prog w base sp held n 9 ((cs.drop 3).take (Tryd.prog.cellsOf 9)) = some y3 := hf 3 _ rfl
      clear h hf
      obtain ⟨c0, c1, c2, c3, rfl⟩ := four_of cs hl
      rw [cInt] at f0 f1 f2
      rw [cStr] at f3
      obtain ⟨n0, e0, rfl, _⟩ := DataW.trod_int Tryd.underlying3 f0
      obtain ⟨n1, e1, rfl, _⟩ := DataW.trod_int Tryd.underlying3 f1
      obtain ⟨n2, e2, rfl, _⟩ := DataW.trod_int Tryd.underlying3 f2
      obtain ⟨s3, e3, rfl, _⟩ := DataW.trod_string Tryd.underlying9 f3
      simp at e0 e1 e2 e3 hx
      obtain ⟨⟨rfl, rfl, rfl, rfl⟩, _⟩ := hx
      subst e0 e1 e2 e3
      rfl

theorem tabs_of {W : World} (h : laidMetH Tryd.prog Rows.namesBreaksRow.laid W) : Tabs W := by
  have h1 : laidMet Tryd.prog Rows.namesBreaksRow.laid W := h
  have h2 : laidMet Tryd.prog (("soffit/tree.stmtFields", Rows.laid_soffit_tree_stmtFields) :: _) W := h1
  have h3 : laidMet Tryd.prog (("soffit/tree.exprForms", Rows.laid_soffit_tree_exprForms) :: _) W := h1.tail
  rw [fld_laid] at h2
  rw [frm_laid] at h3
  refine ⟨fun k hk => ?_, fun k hk => ?_⟩
  · have := (Lib.tabIs_of_head gFld gFldT Tryd.underlying107 Tryd.underlying3 cInt cA11 h2).cell gFld k (by simpa [fldTab] using hk)
    rw [this, fld_at]
    simp [List.getD, hk]
  · obtain ⟨ps, ⟨g', t', cs, fuel, p, q, hg', ht', hvar, hd, _, _⟩, _⟩ := h3
    obtain rfl := Option.some.inj (gFrm.symm.trans hg')
    obtain rfl := Option.some.inj (gFrmT.symm.trans ht')
    obtain ⟨m, hm⟩ := arr_at Tryd.underlying126 hd
    obtain ⟨q', hq⟩ := hm k (formD k) (by simp [hk])
    rw [cFrm] at hq
    have hc := form_cells hq
    have hcell : ∀ j v, j < 4 → ((cs.toList.drop (k * 4)).take 4)[j]? = some v → W.cell? ⟨1, k * 4 + j, none⟩ = some v := fun j v hj hv => by
      have := World.var?_cell gFrm hvar (k * 4 + j)
      rw [List.getElem?_take, if_pos hj, List.getElem?_drop] at hv
      rw [this]; simpa using hv
    rw [hc] at hcell
    exact ⟨hcell 0 _ (by decide) rfl, hcell 1 _ (by decide) rfl, hcell 2 _ (by decide) rfl, hcell 3 _ (by decide) rfl⟩

end Go.Proofs.YtakaldbhaoidiaaDoor

/- Raw data read at the types of a program are a tree that lies in memory: first, lists of whatever elements, and expressions. -/
namespace Go.Proofs.YtakaldbhaoidiaaDoor
open Go.ChangeShapes Go.WideShapes Go.RowKit

theorem spot_none {w : World} {a : Addr} {v : Value} (h : w.cell? a = some v) : a = ⟨a.block, a.off, none⟩ := by
  obtain ⟨b, o, s⟩ := a
  cases s with
  | none => rfl
  | some s =>
    unfold World.cell? at h
    split at h <;> simp at h

theorem add_spot {a : Addr} {n j : Nat} {w : World} {v : Value} (h : w.cell? ((a.add n).add j) = some v) (h0 : a.spot = none) : w.cell? ⟨a.block, a.off + (n + j), none⟩ = some v := by
  have e : (a.add n).add j = ⟨a.block, a.off + (n + j), none⟩ := by
    rw [Go.Deep.add_add]
    unfold Addr.add
    obtain ⟨b, o, s⟩ := a
    simp only at h0
    subst h0
    split
    · rename_i h; simp [h]
    · rfl
  rw [← e]; exact h

def Small {H : Type} (P : Program) (t : TypeId) (d : DataW H) : Prop := ∀ z ∈ d.weights P t, z ≤ 140737488351232

theorem weightsAll_mem {H : Type} {P : Program} {e : TypeId} {l : List (DataW H)} {d : DataW H} (h : d ∈ l) {z : Nat} (hz : z ∈ d.weights P e) : z ∈ DataW.weightsAll P e l := by
  induction l with
  | nil => cases h
  | cons y r ih =>
    rw [DataW.weightsAll, List.mem_append]
    rcases List.mem_cons.1 h with rfl | h
    · exact Or.inl hz
    · exact Or.inr (ih h)
theorem weightsEach_mem {H : Type} {P : Program} : ∀ {ts : List TypeId} {ds : List (DataW H)} {i : Nat} {t : TypeId} {d : DataW H}, ts[i]? = some t → ds[i]? = some d → ∀ {z : Nat}, z ∈ d.weights P t → z ∈ DataW.weightsEach P ts ds
  | [], _, _, _, _, h, _, _, _ => by simp at h
  | _ :: _, [], _, _, _, _, h, _, _ => by simp at h
  | t :: ts, d :: ds, 0, _, _, h1, h2, z, hz => by
    simp at h1 h2; subst h1 h2
    rw [DataW.weightsEach, List.mem_append]; exact Or.inl hz
  | t :: ts, d :: ds, i + 1, _, _, h1, h2, z, hz => by
    rw [DataW.weightsEach, List.mem_append]
    exact Or.inr (weightsEach_mem (ts := ts) (ds := ds) (i := i) (by simpa using h1) (by simpa using h2) hz)

/-- A field of a struct: what it reads as, and that it is small. -/
theorem open_field {H : Type} {enc : TypeId × Value → H} {P : Program} {w : World} {held : Bool} {t : TypeId} {fs : Array Field} {fuel : Nat} {cs : List Value} {x : DataW H × List MemPlace}
    (ht : P.underlying t = some (.struct fs)) (h : DataW.trod enc P w 0 (fun _ => true) held fuel t cs = some x) (hs : Small P t x.1) :
    ∃ n, fuel = n + 1 ∧ cs.length = P.cellsOf t ∧ ∀ (i : Nat) (f : Field), fs[i]? = some f → ∃ y, DataW.trod enc P w 0 (fun _ => true) held n f.type ((cs.drop f.offset).take (P.cellsOf f.type)) = some y ∧ Small P f.type y.1 := by
  obtain ⟨xs, n, hn, rfl, hl, hlen, hf⟩ := DataW.trod_struct ht h
  refine ⟨n, hn, hl, fun i f hi => ?_⟩
  have hlt : i < xs.length := by rw [hlen]; exact (Array.getElem?_eq_some_iff.1 hi).1
  refine ⟨xs[i], ?_, fun z hz => hs z ?_⟩
  · rw [hf i f hi, List.getElem?_eq_getElem hlt]
  · rw [DataW.weights]; simp only [ht]
    refine weightsEach_mem (i := i) (t := f.type) (d := xs[i].1) ?_ ?_ hz
    · simp [hi]
    · simp [List.getElem?_eq_getElem hlt]

/-- A list of whatever elements. -/
theorem open_rows {H : Type} {enc : TypeId × Value → H} {P : Program} {w : World} {held : Bool} {t e : TypeId} {k B fuel : Nat} {cs : List Value} {x : DataW H × List MemPlace} {α : Type} [Inhabited α] {cells : α → List Value} {In : α → Prop}
    (ht : P.underlying t = some (.slice e)) (hk : P.cellsOf e = k) (hk0 : 0 < k) (hB : P.bytesOf e = B)
    (el : ∀ m cs y, m < fuel → DataW.trod enc P w 0 (fun _ => true) held m e cs = some y → Small P e y.1 → ∃ z : α, cs = cells z ∧ In z)
    (h : DataW.trod enc P w 0 (fun _ => true) held fuel t cs = some x) (hs : Small P t x.1) :
    ∃ (a : Option Addr) (c : Nat) (l : List α), cs = [.slice a l.length c] ∧ l.length ≤ c ∧ c * B ≤ 140737488351232 ∧ (a = none → c = 0) ∧ RowIn w a k (l.map cells) ∧ ∀ y ∈ l, In y := by
  rcases DataW.trod_slice ht h with ⟨rfl, rfl⟩ | ⟨a, len, cap, elems, rest, n, hn, rfl, rfl, _, hl, _, hlen, hel, hsp, _⟩
  · exact ⟨none, 0, [], rfl, Nat.le_refl _, by simp, fun _ => rfl, fun i cs h => by simp at h, by simp⟩
  · have hw : ∀ z, z ∈ ((elems.map (·.1)).length + (rest.map (·.1)).length) * P.bytesOf e :: (DataW.weightsAll P e (elems.map (·.1)) ++ DataW.weightsAll P e (rest.map (·.1))) → z ≤ 140737488351232 := fun z hz => hs z (by rw [DataW.weights]; simp only [ht]; exact hz)
    obtain ⟨hr, _⟩ := hsp rfl
    have hcap := hw _ (List.mem_cons_self ..)
    rw [List.length_map, List.length_map, hlen, hr, show len + (cap - len) = cap by omega, hB] at hcap
    have hone : ∀ i, i < len → ∃ z : α, w.cells? 0 (a.add (i * k)) k = some (cells z) ∧ In z := fun i hi => by
      have h1 := hel i hi
      rw [hk, List.getElem?_eq_getElem (by omega)] at h1
      obtain ⟨cs', h2, h3⟩ := Option.bind_eq_some_iff.1 h1
      obtain ⟨z, rfl, hz⟩ := el n cs' _ (by omega) h3 (fun z hz => hw z (List.mem_cons_of_mem _ (List.mem_append_left _ (weightsAll_mem (List.mem_map_of_mem (List.getElem_mem _)) hz))))
      exact ⟨z, h2, hz⟩
    obtain ⟨f, hf⟩ := Go.Deep.choose_lt hone
    refine ⟨some a, cap, (List.range len).map f, by simp, by simpa using hl, hcap, fun h => by simp at h, fun i cs hi => ?_, fun y hy => ?_⟩
    · rw [List.getElem?_map, List.getElem?_map, Option.map_map, Option.map_eq_some_iff] at hi
      obtain ⟨i', hi', rfl⟩ := hi
      obtain ⟨hlt, rfl⟩ := List.getElem?_eq_some_iff.1 hi'
      simp only [List.length_range] at hlt
      obtain ⟨h1, _⟩ := hf i hlt
      obtain ⟨_, hcl, hc⟩ := World.cells?_some h1
      obtain ⟨h01, _⟩ := hf 0 (by omega)
      obtain ⟨_, hcl0, hc0⟩ := World.cells?_some h01
      have hsp : a.spot = none := by
        have := hc0 0 hk0
        rw [List.getElem?_eq_getElem (by omega)] at this
        have := spot_none this
        simp [Addr.add] at this
        rw [this]
      refine ⟨a.block, a.off, by rw [show (⟨a.block, a.off, none⟩ : Addr) = a by obtain ⟨b, o, s⟩ := a; simp_all], fun j v hj => ?_⟩
      simp only [List.getElem_range, Function.comp] at hj ⊢
      have hjl := (List.getElem?_eq_some_iff.1 hj).1
      exact add_spot ((hc j (by omega)).trans hj) hsp
    · obtain ⟨i, hi, rfl⟩ := List.mem_map.1 hy
      exact (hf i (by simpa using hi)).2

theorem i64_of {n : Int} (h : (Lit.int .i64 n).wf = true) : I64 n := by
  simpa [Lit.wf, I64, IntKind.min, IntKind.max, IntKind.signed, IntKind.bits] using h
end Go.Proofs.YtakaldbhaoidiaaDoor

/- Raw data read at the types of a program are a tree that lies in memory: expressions, statements, functions, programs. -/
namespace Go.Proofs.YtakaldbhaoidiaaDoor
theorem le_216 {a c : Nat} (h : a ≤ c) (h2 : c * 216 ≤ 140737488351232) : a * 216 ≤ 140737488351232 := by omega
open Go.ChangeShapes Go.WideShapes Go.RowKit
set_option maxRecDepth 100000

theorem cIntO : Tryd.prog.cellsOf 3 = 1 := by kernel_rfl
theorem cI64O : Tryd.prog.cellsOf 2 = 1 := by kernel_rfl
theorem cStrO : Tryd.prog.cellsOf 9 = 1 := by kernel_rfl
theorem cEx : Tryd.prog.cellsOf 40 = 4 := by kernel_rfl
theorem cSt : Tryd.prog.cellsOf 43 = 14 := by kernel_rfl
theorem cCa : Tryd.prog.cellsOf 58 = 2 := by kernel_rfl
theorem cPa : Tryd.prog.cellsOf 55 = 3 := by kernel_rfl
theorem cFu : Tryd.prog.cellsOf 36 = 3 := by kernel_rfl
theorem cPr : Tryd.prog.cellsOf 25 = 2 := by kernel_rfl
theorem cLe : Tryd.prog.cellsOf 38 = 1 := by kernel_rfl
theorem cLs : Tryd.prog.cellsOf 34 = 1 := by kernel_rfl
theorem cLc : Tryd.prog.cellsOf 41 = 1 := by kernel_rfl
theorem cLp : Tryd.prog.cellsOf 33 = 1 := by kernel_rfl
theorem cLf : Tryd.prog.cellsOf 23 = 1 := by kernel_rfl
theorem cLi : Tryd.prog.cellsOf 22 = 1 := by kernel_rfl
theorem bEx : Tryd.prog.bytesOf 40 = 56 := by kernel_rfl
theorem bSt : Tryd.prog.bytesOf 43 = 216 := by kernel_rfl
theorem bCa : Tryd.prog.bytesOf 58 = 32 := by kernel_rfl
theorem bPa : Tryd.prog.bytesOf 55 = 32 := by kernel_rfl
theorem bFu : Tryd.prog.bytesOf 36 = 64 := by kernel_rfl
theorem bI64 : Tryd.prog.bytesOf 2 = 8 := by kernel_rfl

instance : Inhabited Ex := ⟨.mk 0 0 ⟨#[]⟩ none 0 []⟩
instance : Inhabited St := ⟨.mk 0 ⟨#[]⟩ 0 default default none 0 [] none 0 [] none 0 []⟩
instance : Inhabited Ca := ⟨.mk 0 none 0 []⟩
instance : Inhabited Pa := ⟨⟨⟨#[]⟩, 0, 0⟩⟩
instance : Inhabited Fu := ⟨⟨⟨#[]⟩, none, 0, [], none, 0, []⟩⟩

theorem len2 : ∀ l : List Value, l.length = 2 → ∃ c0 c1, l = [c0, c1]
  | [c0, c1], _ => ⟨c0, c1, rfl⟩
theorem len3 : ∀ l : List Value, l.length = 3 → ∃ c0 c1 c2, l = [c0, c1, c2]
  | [c0, c1, c2], _ => ⟨c0, c1, c2, rfl⟩
theorem len4 : ∀ l : List Value, l.length = 4 → ∃ c0 c1 c2 c3, l = [c0, c1, c2, c3]
  | [c0, c1, c2, c3], _ => ⟨c0, c1, c2, c3, rfl⟩
theorem len14 : ∀ l : List Value, l.length = 14 → ∃ c0 c1 c2 c3 c4 c5 c6 c7 c8 c9 c10 c11 c12 c13, l = [c0, c1, c2, c3, c4, c5, c6, c7, c8, c9, c10, c11, c12, c13]
  | [c0, c1, c2, c3, c4, c5, c6, c7, c8, c9, c10, c11, c12, c13], _ => ⟨c0, c1, c2, c3, c4, c5, c6, c7, c8, c9, c10, c11, c12, c13, rfl⟩

section
variable {H : Type} {enc : TypeId × Value → H} {w : World} {held : Bool}

theorem open_i {t : TypeId} {n : Nat} {c : Value} {y : DataW H × List MemPlace} (ht : Tryd.prog.underlying t = some (.int .i64)) (h : DataW.trod enc Tryd.prog w 0 (fun _ => true) held n t [c] = some y) : ∃ z, c = .int .i64 z ∧ I64 z := by
  obtain ⟨z, e, _, hw⟩ := DataW.trod_int ht h
  exact ⟨z, by simpa using e, i64_of hw⟩
theorem open_s {t : TypeId} {n : Nat} {c : Value} {y : DataW H × List MemPlace} (ht : Tryd.prog.underlying t = some .string) (h : DataW.trod enc Tryd.prog w 0 (fun _ => true) held n t [c] = some y) (hs : Small Tryd.prog t y.1) : ∃ s : ByteArray, c = .string s ∧ s.size ≤ 140737488351232 := by
  obtain ⟨s, e, rfl, _⟩ := DataW.trod_string ht h
  refine ⟨s, by simpa using e, ?_⟩
  have := hs s.data.toList.length (by rw [DataW.weights]; exact List.mem_singleton.2 rfl)
  rw [Array.length_toList] at this
  exact this

theorem fld {fs : Array Field} {n : Nat} {cs : List Value} (hf : ∀ (i : Nat) (f : Field), fs[i]? = some f → ∃ y, DataW.trod enc Tryd.prog w 0 (fun _ => true) held n f.type ((cs.drop f.offset).take (Tryd.prog.cellsOf f.type)) = some y ∧ Small Tryd.prog f.type y.1)
    (i : Nat) {f : Field} (hi : fs[i]? = some f) {t : TypeId} {o k : Nat} {l : List Value} (ht : f.type = t) (ho : f.offset = o) (hk : Tryd.prog.cellsOf t = k) (e : (cs.drop o).take k = l) :
    ∃ y, DataW.trod enc Tryd.prog w 0 (fun _ => true) held n t l = some y ∧ Small Tryd.prog t y.1 := by
  have := hf i f hi
  rw [ht, ho, hk, e] at this
  exact this

theorem open_ex : ∀ (fuel : Nat) (cs : List Value) (x : DataW H × List MemPlace), DataW.trod enc Tryd.prog w 0 (fun _ => true) held fuel 40 cs = some x → Small Tryd.prog 40 x.1 → ∃ y : Ex, cs = y.cells ∧ y.In w := by
  intro fuel
  induction fuel using Nat.strongRecOn with
  | _ fuel ih =>
    intro cs x h hs
    obtain ⟨n, rfl, hl, hf⟩ := open_field Tryd.underlying40 h hs
    rw [cEx] at hl
    obtain ⟨c0, c1, c2, c3, rfl⟩ := len4 cs hl
    obtain ⟨y0, f0, s0⟩ := fld hf 0 rfl (t := 3) (o := 0) (l := [c0]) rfl rfl cIntO rfl
    obtain ⟨y1, f1, s1⟩ := fld hf 1 rfl (t := 2) (o := 1) (l := [c1]) rfl rfl cI64O rfl
    obtain ⟨y2, f2, s2⟩ := fld hf 2 rfl (t := 9) (o := 2) (l := [c2]) rfl rfl cStrO rfl
    obtain ⟨y3, f3, s3⟩ := fld hf 3 rfl (t := 38) (o := 3) (l := [c3]) rfl rfl cLe rfl
    obtain ⟨k, rfl, hk⟩ := open_i Tryd.underlying3 f0
    obtain ⟨m, rfl, hm⟩ := open_i Tryd.underlying2 f1
    obtain ⟨s, rfl, hsz⟩ := open_s Tryd.underlying9 f2 s2
    obtain ⟨a, c, l, e, h1, h2, h3, h4, h5⟩ := open_rows (In := fun y : Ex => y.In w) Tryd.underlying38 cEx (by decide) bEx (fun m cs y hm => ih m (by omega) cs y) f3 s3
    obtain rfl : c3 = .slice a l.length c := by simpa using e
    exact ⟨.mk k m s a c l, rfl, Ex.in_iff.2 ⟨hk, hm, hsz, h1, h2, h3, h4, h5⟩⟩

theorem open_st : ∀ (fuel : Nat), (∀ (cs : List Value) (x : DataW H × List MemPlace), DataW.trod enc Tryd.prog w 0 (fun _ => true) held fuel 43 cs = some x → Small Tryd.prog 43 x.1 → ∃ y : St, cs = y.cells ∧ y.In w) ∧
    (∀ (cs : List Value) (x : DataW H × List MemPlace), DataW.trod enc Tryd.prog w 0 (fun _ => true) held fuel 58 cs = some x → Small Tryd.prog 58 x.1 → ∃ y : Ca, cs = y.cells ∧ y.In w) := by
  intro fuel
  induction fuel using Nat.strongRecOn with
  | _ fuel ih =>
    refine ⟨fun cs x h hs => ?_, fun cs x h hs => ?_⟩
    · obtain ⟨n, rfl, hl, hf⟩ := open_field Tryd.underlying43 h hs
      rw [cSt] at hl
      obtain ⟨c0, c1, c2, c3, c4, c5, c6, c7, c8, c9, c10, c11, c12, c13, rfl⟩ := len14 cs hl
      obtain ⟨y0, f0, s0⟩ := fld hf 0 rfl (t := 3) (o := 0) (l := [c0]) rfl rfl cIntO rfl
      obtain ⟨y1, f1, s1⟩ := fld hf 1 rfl (t := 9) (o := 1) (l := [c1]) rfl rfl cStrO rfl
      obtain ⟨y2, f2, s2⟩ := fld hf 2 rfl (t := 2) (o := 2) (l := [c2]) rfl rfl cI64O rfl
      obtain ⟨y3, f3, s3⟩ := fld hf 3 rfl (t := 40) (o := 3) (l := [c3, c4, c5, c6]) rfl rfl cEx rfl
      obtain ⟨y4, f4, s4⟩ := fld hf 4 rfl (t := 40) (o := 7) (l := [c7, c8, c9, c10]) rfl rfl cEx rfl
      obtain ⟨y5, f5, s5⟩ := fld hf 5 rfl (t := 34) (o := 11) (l := [c11]) rfl rfl cLs rfl
      obtain ⟨y6, f6, s6⟩ := fld hf 6 rfl (t := 34) (o := 12) (l := [c12]) rfl rfl cLs rfl
      obtain ⟨y7, f7, s7⟩ := fld hf 7 rfl (t := 41) (o := 13) (l := [c13]) rfl rfl cLc rfl
      obtain ⟨k, rfl, hk⟩ := open_i Tryd.underlying3 f0
      obtain ⟨s, rfl, hsz⟩ := open_s Tryd.underlying9 f1 s1
      obtain ⟨m, rfl, hm⟩ := open_i Tryd.underlying2 f2
      obtain ⟨xa, ea, ha⟩ := open_ex _ _ _ f3 s3
      obtain ⟨xb, eb, hb⟩ := open_ex _ _ _ f4 s4
      simp only [Ex.cells, List.cons.injEq, and_true] at ea eb
      obtain ⟨rfl, rfl, rfl, rfl⟩ := ea
      obtain ⟨rfl, rfl, rfl, rfl⟩ := eb
      obtain ⟨a1, k1, l1, e1, p1, p2, p3, p4, p5⟩ := open_rows (In := fun y : St => y.In w) Tryd.underlying34 cSt (by decide) bSt (fun m cs y hm => (ih m (by omega)).1 cs y) f5 s5
      obtain ⟨a2, k2, l2, e2, q1, q2, q3, q4, q5⟩ := open_rows (In := fun y : St => y.In w) Tryd.underlying34 cSt (by decide) bSt (fun m cs y hm => (ih m (by omega)).1 cs y) f6 s6
      obtain ⟨a3, k3, l3, e3, r1, r2, r3, r4, r5⟩ := open_rows (In := fun y : Ca => y.In w) Tryd.underlying41 cCa (by decide) bCa (fun m cs y hm => (ih m (by omega)).2 cs y) f7 s7
      obtain rfl : c11 = .slice a1 l1.length k1 := by simpa using e1
      obtain rfl : c12 = .slice a2 l2.length k2 := by simpa using e2
      obtain rfl : c13 = .slice a3 l3.length k3 := by simpa using e3
      exact ⟨.mk k s m xa xb a1 k1 l1 a2 k2 l2 a3 k3 l3, rfl, St.in_iff.2 ⟨hk, hsz, hm, ha, hb, ⟨⟨p1, le_216 p1 p2, p3, p4⟩, p5⟩, ⟨⟨q1, le_216 q1 q2, q3, q4⟩, q5⟩, ⟨r1, r2, r3, r4⟩, r5⟩⟩
    · obtain ⟨n, rfl, hl, hf⟩ := open_field Tryd.underlying58 h hs
      rw [cCa] at hl
      obtain ⟨c0, c1, rfl⟩ := len2 cs hl
      obtain ⟨y0, f0, s0⟩ := fld hf 0 rfl (t := 2) (o := 0) (l := [c0]) rfl rfl cI64O rfl
      obtain ⟨y1, f1, s1⟩ := fld hf 1 rfl (t := 34) (o := 1) (l := [c1]) rfl rfl cLs rfl
      obtain ⟨m, rfl, hm⟩ := open_i Tryd.underlying2 f0
      obtain ⟨a1, k1, l1, e1, p1, p2, p3, p4, p5⟩ := open_rows (In := fun y : St => y.In w) Tryd.underlying34 cSt (by decide) bSt (fun m cs y hm => (ih m (by omega)).1 cs y) f1 s1
      obtain rfl : c1 = .slice a1 l1.length k1 := by simpa using e1
      exact ⟨.mk m a1 k1 l1, rfl, Ca.in_iff.2 ⟨hm, ⟨⟨p1, le_216 p1 p2, p3, p4⟩, p5⟩⟩⟩

theorem open_pa (fuel : Nat) (cs : List Value) (x : DataW H × List MemPlace) (h : DataW.trod enc Tryd.prog w 0 (fun _ => true) held fuel 55 cs = some x) (hs : Small Tryd.prog 55 x.1) : ∃ y : Pa, cs = y.cells ∧ y.Ok := by
  obtain ⟨n, rfl, hl, hf⟩ := open_field Tryd.underlying55 h hs
  rw [cPa] at hl
  obtain ⟨c0, c1, c2, rfl⟩ := len3 cs hl
  obtain ⟨y0, f0, s0⟩ := fld hf 0 rfl (t := 9) (o := 0) (l := [c0]) rfl rfl cStrO rfl
  obtain ⟨y1, f1, s1⟩ := fld hf 1 rfl (t := 2) (o := 1) (l := [c1]) rfl rfl cI64O rfl
  obtain ⟨y2, f2, s2⟩ := fld hf 2 rfl (t := 2) (o := 2) (l := [c2]) rfl rfl cI64O rfl
  obtain ⟨s, rfl, hsz⟩ := open_s Tryd.underlying9 f0 s0
  obtain ⟨a, rfl, ha⟩ := open_i Tryd.underlying2 f1
  obtain ⟨b, rfl, hb⟩ := open_i Tryd.underlying2 f2
  exact ⟨⟨s, a, b⟩, rfl, hsz, ha, hb⟩

theorem open_fu (fuel : Nat) (cs : List Value) (x : DataW H × List MemPlace) (h : DataW.trod enc Tryd.prog w 0 (fun _ => true) held fuel 36 cs = some x) (hs : Small Tryd.prog 36 x.1) : ∃ y : Fu, cs = y.cells ∧ y.In w := by
  obtain ⟨n, rfl, hl, hf⟩ := open_field Tryd.underlying36 h hs
  rw [cFu] at hl
  obtain ⟨c0, c1, c2, rfl⟩ := len3 cs hl
  obtain ⟨y0, f0, s0⟩ := fld hf 0 rfl (t := 9) (o := 0) (l := [c0]) rfl rfl cStrO rfl
  obtain ⟨y1, f1, s1⟩ := fld hf 1 rfl (t := 33) (o := 1) (l := [c1]) rfl rfl cLp rfl
  obtain ⟨y2, f2, s2⟩ := fld hf 2 rfl (t := 34) (o := 2) (l := [c2]) rfl rfl cLs rfl
  obtain ⟨s, rfl, hsz⟩ := open_s Tryd.underlying9 f0 s0
  obtain ⟨a1, k1, l1, e1, p1, p2, p3, p4, p5⟩ := open_rows (In := fun y : Pa => y.Ok) Tryd.underlying33 cPa (by decide) bPa (fun m cs y _ => open_pa m cs y) f1 s1
  obtain ⟨a2, k2, l2, e2, q1, q2, q3, q4, q5⟩ := open_rows (In := fun y : St => y.In w) Tryd.underlying34 cSt (by decide) bSt (fun m cs y _ => (open_st m).1 cs y) f2 s2
  obtain rfl : c1 = .slice a1 l1.length k1 := by simpa using e1
  obtain rfl : c2 = .slice a2 l2.length k2 := by simpa using e2
  exact ⟨⟨s, a1, k1, l1, a2, k2, l2⟩, rfl, hsz, p1, p2, p3, p4, p5, ⟨⟨q1, le_216 q1 q2, q3, q4⟩, q5⟩⟩

theorem open_pr (fuel : Nat) (cs : List Value) (x : DataW H × List MemPlace) (h : DataW.trod enc Tryd.prog w 0 (fun _ => true) held fuel 25 cs = some x) (hs : Small Tryd.prog 25 x.1) :
    ∃ y : Pr, cs = [.slice y.wa y.widen.length y.wc, .slice y.fa y.funcs.length y.fc] ∧ y.In w := by
  obtain ⟨n, rfl, hl, hf⟩ := open_field Tryd.underlying25 h hs
  rw [cPr] at hl
  obtain ⟨c0, c1, rfl⟩ := len2 cs hl
  obtain ⟨y0, f0, s0⟩ := fld hf 0 rfl (t := 22) (o := 0) (l := [c0]) rfl rfl cLi rfl
  obtain ⟨y1, f1, s1⟩ := fld hf 1 rfl (t := 23) (o := 1) (l := [c1]) rfl rfl cLf rfl
  obtain ⟨a1, k1, l1, e1, p1, p2, p3, p4, p5⟩ := open_rows (α := Int) (cells := fun z => [.int .i64 z]) (In := I64) Tryd.underlying22 cI64O (by decide) bI64 (fun m cs y _ hy _ => by
    obtain ⟨z, e, _, hw⟩ := DataW.trod_int Tryd.underlying2 hy
    exact ⟨z, e, i64_of hw⟩) f0 s0
  obtain ⟨a2, k2, l2, e2, q1, q2, q3, q4, q5⟩ := open_rows (In := fun y : Fu => y.In w) Tryd.underlying23 cFu (by decide) bFu (fun m cs y _ => open_fu m cs y) f1 s1
  obtain rfl : c0 = .slice a1 l1.length k1 := by simpa using e1
  obtain rfl : c1 = .slice a2 l2.length k2 := by simpa using e2
  exact ⟨⟨a1, k1, l1, a2, k2, l2⟩, rfl, p1, p2, p3, p4, p5, q1, q2, q3, q4, q5⟩
end

/-- An argument that is a program. -/
theorem open_program {H : Type} {enc : TypeId × Value → H} {W : World} {base : Nat} {v : Value} {d : DataW H} {p : List MemPlace} (hv : Value.okWide Tryd.prog W .any base 25 v)
    (h : DataW.Trod enc Tryd.prog W 0 (fun _ => true) true 25 v d p) (hs : Small Tryd.prog 25 d) : ∃ y : Pr, v = y.val ∧ y.In W := by
  obtain ⟨cs, rfl, hsz⟩ := okWide_struct (P := Tryd.prog) (t := 25) (v := v) (r := .any) (base := base) (w := W) Tryd.underlying25 hv
  obtain ⟨fuel, hf⟩ := h
  obtain ⟨y, e, hy⟩ := open_pr fuel _ (d, p) hf hs
  refine ⟨y, ?_, hy⟩
  rw [Pr.val]
  congr 1
  have e' : cs.toList = [.slice y.wa y.widen.length y.wc, .slice y.fa y.funcs.length y.fc] := by simpa [Value.cells] using e
  rw [← Array.toList_inj, e']
end Go.Proofs.YtakaldbhaoidiaaDoor
