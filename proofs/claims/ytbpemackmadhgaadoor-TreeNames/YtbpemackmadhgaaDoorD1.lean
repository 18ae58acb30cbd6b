/- Statements, cases, functions and programs, with the addresses at which their lists lie. -/
import Derived.Test.YtbpemackmadhgaaDoorD
namespace Go.Proofs.YtbpemackmadhgaaDoor
open Go.RowKit

mutual
inductive St where
  | mk (kind : Int) (name : ByteArray) (n : Int) (a b : Ex) (ba : Option Addr) (bc : Nat) (body : List St) (ea : Option Addr) (ec : Nat) (els : List St) (ca : Option Addr) (cc : Nat) (cases : List Ca)
inductive Ca where
  | mk (n : Int) (ba : Option Addr) (bc : Nat) (body : List St)
end

namespace St
def kind : St → Int | mk k _ _ _ _ _ _ _ _ _ _ _ _ _ => k
def name : St → ByteArray | mk _ s _ _ _ _ _ _ _ _ _ _ _ _ => s
def n : St → Int | mk _ _ n _ _ _ _ _ _ _ _ _ _ _ => n
def a : St → Ex | mk _ _ _ a _ _ _ _ _ _ _ _ _ _ => a
def b : St → Ex | mk _ _ _ _ b _ _ _ _ _ _ _ _ _ => b
def ba : St → Option Addr | mk _ _ _ _ _ x _ _ _ _ _ _ _ _ => x
def bc : St → Nat | mk _ _ _ _ _ _ x _ _ _ _ _ _ _ => x
def body : St → List St | mk _ _ _ _ _ _ _ x _ _ _ _ _ _ => x
def ea : St → Option Addr | mk _ _ _ _ _ _ _ _ x _ _ _ _ _ => x
def ec : St → Nat | mk _ _ _ _ _ _ _ _ _ x _ _ _ _ => x
def els : St → List St | mk _ _ _ _ _ _ _ _ _ _ x _ _ _ => x
def ca : St → Option Addr | mk _ _ _ _ _ _ _ _ _ _ _ x _ _ => x
def cc : St → Nat | mk _ _ _ _ _ _ _ _ _ _ _ _ x _ => x
def cases : St → List Ca | mk _ _ _ _ _ _ _ _ _ _ _ _ _ x => x
def cells (s : St) : List Value := [.int .i64 s.kind, .string s.name, .int .i64 s.n,
  .int .i64 s.a.kind, .int .i64 s.a.n, .string s.a.name, .slice s.a.a s.a.args.length s.a.cap,
  .int .i64 s.b.kind, .int .i64 s.b.n, .string s.b.name, .slice s.b.a s.b.args.length s.b.cap,
  .slice s.ba s.body.length s.bc, .slice s.ea s.els.length s.ec, .slice s.ca s.cases.length s.cc]
def val (s : St) : Value := .agg #[.int .i64 s.kind, .string s.name, .int .i64 s.n,
  .int .i64 s.a.kind, .int .i64 s.a.n, .string s.a.name, .slice s.a.a s.a.args.length s.a.cap,
  .int .i64 s.b.kind, .int .i64 s.b.n, .string s.b.name, .slice s.b.a s.b.args.length s.b.cap,
  .slice s.ba s.body.length s.bc, .slice s.ea s.els.length s.ec, .slice s.ca s.cases.length s.cc]
end St
namespace Ca
def n : Ca → Int | mk n _ _ _ => n
def ba : Ca → Option Addr | mk _ x _ _ => x
def bc : Ca → Nat | mk _ _ x _ => x
def body : Ca → List St | mk _ _ _ x => x
def cells (c : Ca) : List Value := [.int .i64 c.n, .slice c.ba c.body.length c.bc]
def val (c : Ca) : Value := .agg #[.int .i64 c.n, .slice c.ba c.body.length c.bc]
end Ca

mutual
def St.sz : St → Nat | .mk _ _ _ _ _ _ _ l _ _ e _ _ c => ssz l + ssz e + csz c + 1
def Ca.sz : Ca → Nat | .mk _ _ _ l => ssz l + 1
def ssz : List St → Nat | [] => 0 | x :: r => x.sz + ssz r
def csz : List Ca → Nat | [] => 0 | x :: r => x.sz + csz r
end
theorem St.sz_eq (s : St) : s.sz = ssz s.body + ssz s.els + csz s.cases + 1 := by cases s; simp [St.sz, St.body, St.els, St.cases]
theorem Ca.sz_eq (c : Ca) : c.sz = ssz c.body + 1 := by cases c; simp [Ca.sz, Ca.body]
theorem ssz_mem {l : List St} {x : St} (h : x ∈ l) : x.sz ≤ ssz l := by
  induction l with
  | nil => cases h
  | cons y r ih =>
    rw [ssz]
    rcases List.mem_cons.1 h with rfl | h
    · omega
    · have := ih h; omega
theorem csz_mem {l : List Ca} {x : Ca} (h : x ∈ l) : x.sz ≤ csz l := by
  induction l with
  | nil => cases h
  | cons y r ih =>
    rw [csz]
    rcases List.mem_cons.1 h with rfl | h
    · omega
    · have := ih h; omega

/-- A list of statements lies at an address. -/
def Lies (W : World) (a : Option Addr) (c : Nat) (l : List St) : Prop := l.length ≤ c ∧ c * 216 ≤ 140737488351232 ∧ (a = none → c = 0) ∧ RowIn W a 14 (l.map St.cells)
def LiesC (W : World) (a : Option Addr) (c : Nat) (l : List Ca) : Prop := l.length ≤ c ∧ c * 32 ≤ 140737488351232 ∧ (a = none → c = 0) ∧ RowIn W a 2 (l.map Ca.cells)

mutual
def St.In (W : World) : St → Prop
  | .mk k s n a b ba bc l ea ec e ca cc c => I64 k ∧ s.size ≤ 140737488351232 ∧ I64 n ∧ a.In W ∧ b.In W ∧ Lies W ba bc l ∧ Lies W ea ec e ∧ LiesC W ca cc c ∧ InS W l ∧ InS W e ∧ InC W c
def Ca.In (W : World) : Ca → Prop
  | .mk n a c l => I64 n ∧ Lies W a c l ∧ InS W l
def InS (W : World) : List St → Prop
  | [] => True
  | x :: r => x.In W ∧ InS W r
def InC (W : World) : List Ca → Prop
  | [] => True
  | x :: r => x.In W ∧ InC W r
end
theorem inS_mem {W : World} {l : List St} : InS W l ↔ ∀ x ∈ l, x.In W := by
  induction l with
  | nil => simp [InS]
  | cons y r ih => simp [InS, ih]
theorem inC_mem {W : World} {l : List Ca} : InC W l ↔ ∀ x ∈ l, x.In W := by
  induction l with
  | nil => simp [InC]
  | cons y r ih => simp [InC, ih]
/-- A list of statements lies at an address, and all that they have. -/
def Have (W : World) (a : Option Addr) (c : Nat) (l : List St) : Prop := Lies W a c l ∧ ∀ x ∈ l, x.In W
theorem St.in_iff {W : World} {s : St} : s.In W ↔ I64 s.kind ∧ s.name.size ≤ 140737488351232 ∧ I64 s.n ∧ s.a.In W ∧ s.b.In W ∧ Have W s.ba s.bc s.body ∧ Have W s.ea s.ec s.els ∧ LiesC W s.ca s.cc s.cases ∧ ∀ x ∈ s.cases, x.In W := by
  cases s
  simp only [St.In, St.kind, St.name, St.n, St.a, St.b, St.ba, St.bc, St.body, St.ea, St.ec, St.els, St.ca, St.cc, St.cases, inS_mem, inC_mem, Have]
  constructor
  · rintro ⟨h1, h2, h3, h4, h5, h6, h7, h8, h9, h10, h11⟩; exact ⟨h1, h2, h3, h4, h5, ⟨h6, h9⟩, ⟨h7, h10⟩, h8, h11⟩
  · rintro ⟨h1, h2, h3, h4, h5, ⟨h6, h9⟩, ⟨h7, h10⟩, h8, h11⟩; exact ⟨h1, h2, h3, h4, h5, h6, h7, h8, h9, h10, h11⟩
theorem Ca.in_iff {W : World} {c : Ca} : c.In W ↔ I64 c.n ∧ Have W c.ba c.bc c.body := by
  cases c
  simp only [Ca.In, Ca.n, Ca.ba, Ca.bc, Ca.body, inS_mem, Have]

theorem Lies.below {W W' : World} (hb : Below W.heap.size W W') {a : Option Addr} {c : Nat} {l : List St} (h : Lies W a c l) : Lies W' a c l := ⟨h.1, h.2.1, h.2.2.1, h.2.2.2.below hb⟩
theorem LiesC.below {W W' : World} (hb : Below W.heap.size W W') {a : Option Addr} {c : Nat} {l : List Ca} (h : LiesC W a c l) : LiesC W' a c l := ⟨h.1, h.2.1, h.2.2.1, h.2.2.2.below hb⟩
theorem Ex.In.stay {W W' : World} (hb : Below W.heap.size W W') {x : Ex} (h : x.In W) : x.In W' := Ex.In.below hb _ x (Nat.le_refl _) h

theorem in_below {W W' : World} (hb : Below W.heap.size W W') (k : Nat) : (∀ s : St, s.sz ≤ k → s.In W → s.In W') ∧ (∀ c : Ca, c.sz ≤ k → c.In W → c.In W') := by
  induction k with
  | zero => exact ⟨fun s h => by have := s.sz_eq; omega, fun c h => by have := c.sz_eq; omega⟩
  | succ k ih =>
    refine ⟨fun s hk h => ?_, fun c hk h => ?_⟩
    · obtain ⟨h1, h2, h3, h4, h5, h6, h7, h8, h9⟩ := St.in_iff.1 h
      have := s.sz_eq
      refine St.in_iff.2 ⟨h1, h2, h3, h4.stay hb, h5.stay hb, ⟨h6.1.below hb, fun x hx => ih.1 x ?_ (h6.2 x hx)⟩, ⟨h7.1.below hb, fun x hx => ih.1 x ?_ (h7.2 x hx)⟩, h8.below hb, fun x hx => ih.2 x ?_ (h9 x hx)⟩
      · have := ssz_mem hx; omega
      · have := ssz_mem hx; omega
      · have := csz_mem hx; omega
    · obtain ⟨h1, h2⟩ := Ca.in_iff.1 h
      have := c.sz_eq
      refine Ca.in_iff.2 ⟨h1, h2.1.below hb, fun x hx => ih.1 x ?_ (h2.2 x hx)⟩
      have := ssz_mem hx; omega
theorem St.In.stay {W W' : World} (hb : Below W.heap.size W W') {s : St} (h : s.In W) : s.In W' := (in_below hb _).1 s (Nat.le_refl _) h
theorem Ca.In.stay {W W' : World} (hb : Below W.heap.size W W') {c : Ca} (h : c.In W) : c.In W' := (in_below hb _).2 c (Nat.le_refl _) h
theorem Have.stay {W W' : World} (hb : Below W.heap.size W W') {a : Option Addr} {c : Nat} {l : List St} (h : Have W a c l) : Have W' a c l := ⟨h.1.below hb, fun x hx => (h.2 x hx).stay hb⟩

/-- A parameter; a function; a program. -/
structure Pa where
  name : ByteArray
  lo : Int
  hi : Int
def Pa.cells (p : Pa) : List Value := [.string p.name, .int .i64 p.lo, .int .i64 p.hi]
def Pa.val (p : Pa) : Value := .agg #[.string p.name, .int .i64 p.lo, .int .i64 p.hi]
def Pa.Ok (p : Pa) : Prop := p.name.size ≤ 140737488351232 ∧ I64 p.lo ∧ I64 p.hi
structure Fu where
  name : ByteArray
  pa : Option Addr
  pc : Nat
  params : List Pa
  ba : Option Addr
  bc : Nat
  body : List St
def Fu.cells (f : Fu) : List Value := [.string f.name, .slice f.pa f.params.length f.pc, .slice f.ba f.body.length f.bc]
def Fu.val (f : Fu) : Value := .agg #[.string f.name, .slice f.pa f.params.length f.pc, .slice f.ba f.body.length f.bc]
def Fu.In (W : World) (f : Fu) : Prop := f.name.size ≤ 140737488351232 ∧ f.params.length ≤ f.pc ∧ f.pc * 32 ≤ 140737488351232 ∧ (f.pa = none → f.pc = 0) ∧ RowIn W f.pa 3 (f.params.map Pa.cells) ∧ (∀ p ∈ f.params, p.Ok) ∧ Have W f.ba f.bc f.body
structure Pr where
  wa : Option Addr
  wc : Nat
  widen : List Int
  fa : Option Addr
  fc : Nat
  funcs : List Fu
def Pr.val (p : Pr) : Value := .agg #[.slice p.wa p.widen.length p.wc, .slice p.fa p.funcs.length p.fc]
def Pr.In (W : World) (p : Pr) : Prop := p.widen.length ≤ p.wc ∧ p.wc * 8 ≤ 140737488351232 ∧ (p.wa = none → p.wc = 0) ∧ RowIn W p.wa 1 (p.widen.map fun z => [.int .i64 z]) ∧ (∀ z ∈ p.widen, I64 z) ∧
  p.funcs.length ≤ p.fc ∧ p.fc * 64 ≤ 140737488351232 ∧ (p.fa = none → p.fc = 0) ∧ RowIn W p.fa 3 (p.funcs.map Fu.cells) ∧ ∀ f ∈ p.funcs, f.In W
theorem Fu.In.stay {W W' : World} (hb : Below W.heap.size W W') {f : Fu} (h : f.In W) : f.In W' := by
  obtain ⟨h1, h2, h3, h4, h5, h6, h7⟩ := h
  exact ⟨h1, h2, h3, h4, h5.below hb, h6, h7.stay hb⟩
theorem Pr.In.stay {W W' : World} (hb : Below W.heap.size W W') {p : Pr} (h : p.In W) : p.In W' := by
  obtain ⟨h1, h2, h3, h4, h5, h6, h7, h8, h9, h10⟩ := h
  exact ⟨h1, h2, h3, h4.below hb, h5, h6, h7, h8, h9.below hb, fun f hf => (h10 f hf).stay hb⟩
end Go.Proofs.YtbpemackmadhgaaDoor
