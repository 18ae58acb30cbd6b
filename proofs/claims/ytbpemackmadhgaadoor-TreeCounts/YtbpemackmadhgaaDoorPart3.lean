/- Raw data read at the types of a program are a tree that lies in memory: expressions, statements, functions, programs. -/
import Derived.Test.YtbpemackmadhgaaDoorPart2
import Derived.Test.YtbpemackmadhgaaDoorPart1
import Derived.Lib.ItoaLen
import Derived.Lib.ItoaNum
namespace Go.Proofs.YtbpemackmadhgaaDoor
open Go.ChangeShapes Go.WideShapes Go.RowKit
set_option maxRecDepth 100000

theorem cIntO : Tryd.prog.cellsOf 3 = 1 := by kernel_rfl
theorem cI64O : Tryd.prog.cellsOf 2 = 1 := by kernel_rfl
theorem cStrO : Tryd.prog.cellsOf 9 = 1 := by kernel_rfl
theorem cEx : Tryd.prog.cellsOf 39 = 4 := by kernel_rfl
theorem cSt : Tryd.prog.cellsOf 46 = 14 := by kernel_rfl
theorem cCa : Tryd.prog.cellsOf 71 = 2 := by kernel_rfl
theorem cPa : Tryd.prog.cellsOf 41 = 3 := by kernel_rfl
theorem cFu : Tryd.prog.cellsOf 48 = 3 := by kernel_rfl
theorem cPr : Tryd.prog.cellsOf 26 = 2 := by kernel_rfl
theorem cLe : Tryd.prog.cellsOf 37 = 1 := by kernel_rfl
theorem cLs : Tryd.prog.cellsOf 43 = 1 := by kernel_rfl
theorem cLc : Tryd.prog.cellsOf 44 = 1 := by kernel_rfl
theorem cLp : Tryd.prog.cellsOf 42 = 1 := by kernel_rfl
theorem cLf : Tryd.prog.cellsOf 24 = 1 := by kernel_rfl
theorem cLi : Tryd.prog.cellsOf 23 = 1 := by kernel_rfl
theorem bEx : Tryd.prog.bytesOf 39 = 56 := by kernel_rfl
theorem bSt : Tryd.prog.bytesOf 46 = 216 := by kernel_rfl
theorem bCa : Tryd.prog.bytesOf 71 = 32 := by kernel_rfl
theorem bPa : Tryd.prog.bytesOf 41 = 32 := by kernel_rfl
theorem bFu : Tryd.prog.bytesOf 48 = 64 := by kernel_rfl
theorem bI64 : Tryd.prog.bytesOf 2 = 8 := by kernel_rfl

instance : Inhabited Ex := ⟨.mk 0 0 ⟨#[]⟩ none 0 []⟩
instance : Inhabited St := ⟨.mk 0 ⟨#[]⟩ 0 default default none 0 [] none 0 [] none 0 []⟩
instance : Inhabited Ca := ⟨.mk 0 none 0 []⟩
instance : Inhabited Pa := ⟨⟨⟨#[]⟩, 0, 0⟩⟩
instance : Inhabited Fu := ⟨⟨⟨#[]⟩, none, 0, [], none, 0, []⟩⟩

theorem len2 : ∀ l : List Value, l.length = 2 → ∃ c0 c1, l = [c0, c1]
  | [c0, c1], _ => ⟨c0, c1, rfl⟩
theorem len3 : ∀ l : List Value, l.length = 3 → ∃ c0 c1 c2, l = [c0, c1, c2]
  | [c0, c1, c2], _ => ⟨c0, c1, c2, rfl⟩
theorem len4 : ∀ l : List Value, l.length = 4 → ∃ c0 c1 c2 c3, l = [c0, c1, c2, c3]
  | [c0, c1, c2, c3], _ => ⟨c0, c1, c2, c3, rfl⟩
theorem len14 : ∀ l : List Value, l.length = 14 → ∃ c0 c1 c2 c3 c4 c5 c6 c7 c8 c9 c10 c11 c12 c13, l = [c0, c1, c2, c3, c4, c5, c6, c7, c8, c9, c10, c11, c12, c13]
  | [c0, c1, c2, c3, c4, c5, c6, c7, c8, c9, c10, c11, c12, c13], _ => ⟨c0, c1, c2, c3, c4, c5, c6, c7, c8, c9, c10, c11, c12, c13, rfl⟩

section
variable {H : Type} {enc : TypeId × Value → H} {w : World} {held : Bool}

theorem open_i {t : TypeId} {n : Nat} {c : Value} {y : DataW H × List MemPlace} (ht : Tryd.prog.underlying t = some (.int .i64)) (h : DataW.trod enc Tryd.prog w 0 (fun _ => true) held n t [c] = some y) : ∃ z, c = .int .i64 z ∧ I64 z := by
  obtain ⟨z, e, _, hw⟩ := DataW.trod_int ht h
  exact ⟨z, by simpa using e, i64_of hw⟩
theorem open_s {t : TypeId} {n : Nat} {c : Value} {y : DataW H × List MemPlace} (ht : Tryd.prog.underlying t = some .string) (h : DataW.trod enc Tryd.prog w 0 (fun _ => true) held n t [c] = some y) (hs : Small Tryd.prog t y.1) : ∃ s : ByteArray, c = .string s ∧ s.size ≤ 140737488351232 := by
  obtain ⟨s, e, rfl, _⟩ := DataW.trod_string ht h
  refine ⟨s, by simpa using e, ?_⟩
  have := hs s.data.toList.length (by rw [DataW.weights]; exact List.mem_singleton.2 rfl)
  rw [Array.length_toList] at this
  exact this

theorem fld {fs : Array Field} {n : Nat} {cs : List Value} (hf : ∀ (i : Nat) (f : Field), fs[i]? = some f → ∃ y, DataW.trod enc Tryd.prog w 0 (fun _ => true) held n f.type ((cs.drop f.offset).take (Tryd.prog.cellsOf f.type)) = some y ∧ Small Tryd.prog f.type y.1)
    (i : Nat) {f : Field} (hi : fs[i]? = some f) {t : TypeId} {o k : Nat} {l : List Value} (ht : f.type = t) (ho : f.offset = o) (hk : Tryd.prog.cellsOf t = k) (e : (cs.drop o).take k = l) :
    ∃ y, DataW.trod enc Tryd.prog w 0 (fun _ => true) held n t l = some y ∧ Small Tryd.prog t y.1 := by
  have := hf i f hi
  rw [ht, ho, hk, e] at this
  exact this

theorem open_ex : ∀ (fuel : Nat) (cs : List Value) (x : DataW H × List MemPlace), DataW.trod enc Tryd.prog w 0 (fun _ => true) held fuel 39 cs = some x → Small Tryd.prog 39 x.1 → ∃ y : Ex, cs = y.cells ∧ y.In w := by
  intro fuel
  induction fuel using Nat.strongRecOn with
  | _ fuel ih =>
    intro cs x h hs
    obtain ⟨n, rfl, hl, hf⟩ := open_field Tryd.underlying39 h hs
    rw [cEx] at hl
    obtain ⟨c0, c1, c2, c3, rfl⟩ := len4 cs hl
    obtain ⟨y0, f0, s0⟩ := fld hf 0 rfl (t := 3) (o := 0) (l := [c0]) rfl rfl cIntO rfl
    obtain ⟨y1, f1, s1⟩ := fld hf 1 rfl (t := 2) (o := 1) (l := [c1]) rfl rfl cI64O rfl
    obtain ⟨y2, f2, s2⟩ := fld hf 2 rfl (t := 9) (o := 2) (l := [c2]) rfl rfl cStrO rfl
    obtain ⟨y3, f3, s3⟩ := fld hf 3 rfl (t := 37) (o := 3) (l := [c3]) rfl rfl cLe rfl
    obtain ⟨k, rfl, hk⟩ := open_i Tryd.underlying3 f0
    obtain ⟨m, rfl, hm⟩ := open_i Tryd.underlying2 f1
    obtain ⟨s, rfl, hsz⟩ := open_s Tryd.underlying9 f2 s2
    obtain ⟨a, c, l, e, h1, h2, h3, h4, h5⟩ := open_rows (In := fun y : Ex => y.In w) Tryd.underlying37 cEx (by decide) bEx (fun m cs y hm => ih m (by omega) cs y) f3 s3
    obtain rfl : c3 = .slice a l.length c := by simpa using e
    exact ⟨.mk k m s a c l, rfl, Ex.in_iff.2 ⟨hk, hm, hsz, h1, h2, h3, h4, h5⟩⟩

theorem open_st : ∀ (fuel : Nat), (∀ (cs : List Value) (x : DataW H × List MemPlace), DataW.trod enc Tryd.prog w 0 (fun _ => true) held fuel 46 cs = some x → Small Tryd.prog 46 x.1 → ∃ y : St, cs = y.cells ∧ y.In w) ∧
    (∀ (cs : List Value) (x : DataW H × List MemPlace), DataW.trod enc Tryd.prog w 0 (fun _ => true) held fuel 71 cs = some x → Small Tryd.prog 71 x.1 → ∃ y : Ca, cs = y.cells ∧ y.In w) := by
  intro fuel
  induction fuel using Nat.strongRecOn with
  | _ fuel ih =>
    refine ⟨fun cs x h hs => ?_, fun cs x h hs => ?_⟩
    · obtain ⟨n, rfl, hl, hf⟩ := open_field Tryd.underlying46 h hs
      rw [cSt] at hl
      obtain ⟨c0, c1, c2, c3, c4, c5, c6, c7, c8, c9, c10, c11, c12, c13, rfl⟩ := len14 cs hl
      obtain ⟨y0, f0, s0⟩ := fld hf 0 rfl (t := 3) (o := 0) (l := [c0]) rfl rfl cIntO rfl
      obtain ⟨y1, f1, s1⟩ := fld hf 1 rfl (t := 9) (o := 1) (l := [c1]) rfl rfl cStrO rfl
      obtain ⟨y2, f2, s2⟩ := fld hf 2 rfl (t := 2) (o := 2) (l := [c2]) rfl rfl cI64O rfl
      obtain ⟨y3, f3, s3⟩ := fld hf 3 rfl (t := 39) (o := 3) (l := [c3, c4, c5, c6]) rfl rfl cEx rfl
      obtain ⟨y4, f4, s4⟩ := fld hf 4 rfl (t := 39) (o := 7) (l := [c7, c8, c9, c10]) rfl rfl cEx rfl
      obtain ⟨y5, f5, s5⟩ := fld hf 5 rfl (t := 43) (o := 11) (l := [c11]) rfl rfl cLs rfl
      obtain ⟨y6, f6, s6⟩ := fld hf 6 rfl (t := 43) (o := 12) (l := [c12]) rfl rfl cLs rfl
      obtain ⟨y7, f7, s7⟩ := fld hf 7 rfl (t := 44) (o := 13) (l := [c13]) rfl rfl cLc rfl
      obtain ⟨k, rfl, hk⟩ := open_i Tryd.underlying3 f0
      obtain ⟨s, rfl, hsz⟩ := open_s Tryd.underlying9 f1 s1
      obtain ⟨m, rfl, hm⟩ := open_i Tryd.underlying2 f2
      obtain ⟨xa, ea, ha⟩ := open_ex _ _ _ f3 s3
      obtain ⟨xb, eb, hb⟩ := open_ex _ _ _ f4 s4
      simp only [Ex.cells, List.cons.injEq, and_true] at ea eb
      obtain ⟨rfl, rfl, rfl, rfl⟩ := ea
      obtain ⟨rfl, rfl, rfl, rfl⟩ := eb
      obtain ⟨a1, k1, l1, e1, p1, p2, p3, p4, p5⟩ := open_rows (In := fun y : St => y.In w) Tryd.underlying43 cSt (by decide) bSt (fun m cs y hm => (ih m (by omega)).1 cs y) f5 s5
      obtain ⟨a2, k2, l2, e2, q1, q2, q3, q4, q5⟩ := open_rows (In := fun y : St => y.In w) Tryd.underlying43 cSt (by decide) bSt (fun m cs y hm => (ih m (by omega)).1 cs y) f6 s6
      obtain ⟨a3, k3, l3, e3, r1, r2, r3, r4, r5⟩ := open_rows (In := fun y : Ca => y.In w) Tryd.underlying44 cCa (by decide) bCa (fun m cs y hm => (ih m (by omega)).2 cs y) f7 s7
      obtain rfl : c11 = .slice a1 l1.length k1 := by simpa using e1
      obtain rfl : c12 = .slice a2 l2.length k2 := by simpa using e2
      obtain rfl : c13 = .slice a3 l3.length k3 := by simpa using e3
      exact ⟨.mk k s m xa xb a1 k1 l1 a2 k2 l2 a3 k3 l3, rfl, St.in_iff.2 ⟨hk, hsz, hm, ha, hb, ⟨⟨p1, p2, p3, p4⟩, p5⟩, ⟨⟨q1, q2, q3, q4⟩, q5⟩, ⟨r1, r2, r3, r4⟩, r5⟩⟩
    · obtain ⟨n, rfl, hl, hf⟩ := open_field Tryd.underlying71 h hs
      rw [cCa] at hl
      obtain ⟨c0, c1, rfl⟩ := len2 cs hl
      obtain ⟨y0, f0, s0⟩ := fld hf 0 rfl (t := 2) (o := 0) (l := [c0]) rfl rfl cI64O rfl
      obtain ⟨y1, f1, s1⟩ := fld hf 1 rfl (t := 43) (o := 1) (l := [c1]) rfl rfl cLs rfl
      obtain ⟨m, rfl, hm⟩ := open_i Tryd.underlying2 f0
      obtain ⟨a1, k1, l1, e1, p1, p2, p3, p4, p5⟩ := open_rows (In := fun y : St => y.In w) Tryd.underlying43 cSt (by decide) bSt (fun m cs y hm => (ih m (by omega)).1 cs y) f1 s1
      obtain rfl : c1 = .slice a1 l1.length k1 := by simpa using e1
      exact ⟨.mk m a1 k1 l1, rfl, Ca.in_iff.2 ⟨hm, ⟨⟨p1, p2, p3, p4⟩, p5⟩⟩⟩

theorem open_pa (fuel : Nat) (cs : List Value) (x : DataW H × List MemPlace) (h : DataW.trod enc Tryd.prog w 0 (fun _ => true) held fuel 41 cs = some x) (hs : Small Tryd.prog 41 x.1) : ∃ y : Pa, cs = y.cells ∧ y.Ok := by
  obtain ⟨n, rfl, hl, hf⟩ := open_field Tryd.underlying41 h hs
  rw [cPa] at hl
  obtain ⟨c0, c1, c2, rfl⟩ := len3 cs hl
  obtain ⟨y0, f0, s0⟩ := fld hf 0 rfl (t := 9) (o := 0) (l := [c0]) rfl rfl cStrO rfl
  obtain ⟨y1, f1, s1⟩ := fld hf 1 rfl (t := 2) (o := 1) (l := [c1]) rfl rfl cI64O rfl
  obtain ⟨y2, f2, s2⟩ := fld hf 2 rfl (t := 2) (o := 2) (l := [c2]) rfl rfl cI64O rfl
  obtain ⟨s, rfl, hsz⟩ := open_s Tryd.underlying9 f0 s0
  obtain ⟨a, rfl, ha⟩ := open_i Tryd.underlying2 f1
  obtain ⟨b, rfl, hb⟩ := open_i Tryd.underlying2 f2
  exact ⟨⟨s, a, b⟩, rfl, hsz, ha, hb⟩

theorem open_fu (fuel : Nat) (cs : List Value) (x : DataW H × List MemPlace) (h : DataW.trod enc Tryd.prog w 0 (fun _ => true) held fuel 48 cs = some x) (hs : Small Tryd.prog 48 x.1) : ∃ y : Fu, cs = y.cells ∧ y.In w := by
  obtain ⟨n, rfl, hl, hf⟩ := open_field Tryd.underlying48 h hs
  rw [cFu] at hl
  obtain ⟨c0, c1, c2, rfl⟩ := len3 cs hl
  obtain ⟨y0, f0, s0⟩ := fld hf 0 rfl (t := 9) (o := 0) (l := [c0]) rfl rfl cStrO rfl
  obtain ⟨y1, f1, s1⟩ := fld hf 1 rfl (t := 42) (o := 1) (l := [c1]) rfl rfl cLp rfl
  obtain ⟨y2, f2, s2⟩ := fld hf 2 rfl (t := 43) (o := 2) (l := [c2]) rfl rfl cLs rfl
  obtain ⟨s, rfl, hsz⟩ := open_s Tryd.underlying9 f0 s0
  obtain ⟨a1, k1, l1, e1, p1, p2, p3, p4, p5⟩ := open_rows (In := fun y : Pa => y.Ok) Tryd.underlying42 cPa (by decide) bPa (fun m cs y _ => open_pa m cs y) f1 s1
  obtain ⟨a2, k2, l2, e2, q1, q2, q3, q4, q5⟩ := open_rows (In := fun y : St => y.In w) Tryd.underlying43 cSt (by decide) bSt (fun m cs y _ => (open_st m).1 cs y) f2 s2
  obtain rfl : c1 = .slice a1 l1.length k1 := by simpa using e1
  obtain rfl : c2 = .slice a2 l2.length k2 := by simpa using e2
  exact ⟨⟨s, a1, k1, l1, a2, k2, l2⟩, rfl, hsz, p1, p2, p3, p4, p5, ⟨⟨q1, q2, q3, q4⟩, q5⟩⟩

theorem open_pr (fuel : Nat) (cs : List Value) (x : DataW H × List MemPlace) (h : DataW.trod enc Tryd.prog w 0 (fun _ => true) held fuel 26 cs = some x) (hs : Small Tryd.prog 26 x.1) :
    ∃ y : Pr, cs = [.slice y.wa y.widen.length y.wc, .slice y.fa y.funcs.length y.fc] ∧ y.In w := by
  obtain ⟨n, rfl, hl, hf⟩ := open_field Tryd.underlying26 h hs
  rw [cPr] at hl
  obtain ⟨c0, c1, rfl⟩ := len2 cs hl
  obtain ⟨y0, f0, s0⟩ := fld hf 0 rfl (t := 23) (o := 0) (l := [c0]) rfl rfl cLi rfl
  obtain ⟨y1, f1, s1⟩ := fld hf 1 rfl (t := 24) (o := 1) (l := [c1]) rfl rfl cLf rfl
  obtain ⟨a1, k1, l1, e1, p1, p2, p3, p4, p5⟩ := open_rows (α := Int) (cells := fun z => [.int .i64 z]) (In := I64) Tryd.underlying23 cI64O (by decide) bI64 (fun m cs y _ hy _ => by
    obtain ⟨z, e, _, hw⟩ := DataW.trod_int Tryd.underlying2 hy
    exact ⟨z, e, i64_of hw⟩) f0 s0
  obtain ⟨a2, k2, l2, e2, q1, q2, q3, q4, q5⟩ := open_rows (In := fun y : Fu => y.In w) Tryd.underlying24 cFu (by decide) bFu (fun m cs y _ => open_fu m cs y) f1 s1
  obtain rfl : c0 = .slice a1 l1.length k1 := by simpa using e1
  obtain rfl : c1 = .slice a2 l2.length k2 := by simpa using e2
  exact ⟨⟨a1, k1, l1, a2, k2, l2⟩, rfl, p1, p2, p3, p4, p5, q1, q2, q3, q4, q5⟩
end

/-- An argument that is a program. -/
theorem open_program {H : Type} {enc : TypeId × Value → H} {W : World} {base : Nat} {v : Value} {d : DataW H} {p : List MemPlace} (hv : Value.okWide Tryd.prog W .any base 26 v)
    (h : DataW.Trod enc Tryd.prog W 0 (fun _ => true) true 26 v d p) (hs : Small Tryd.prog 26 d) : ∃ y : Pr, v = y.val ∧ y.In W := by
  obtain ⟨cs, rfl, hsz⟩ := okWide_struct (P := Tryd.prog) (t := 26) (v := v) (r := .any) (base := base) (w := W) Tryd.underlying26 hv
  obtain ⟨fuel, hf⟩ := h
  obtain ⟨y, e, hy⟩ := open_pr fuel _ (d, p) hf hs
  refine ⟨y, ?_, hy⟩
  rw [Pr.val]
  congr 1
  have e' : cs.toList = [.slice y.wa y.widen.length y.wc, .slice y.fa y.funcs.length y.fc] := by simpa [Value.cells] using e
  rw [← Array.toList_inj, e']
end Go.Proofs.YtbpemackmadhgaaDoor

/- Are two expressions the same? -/
namespace Go.Proofs.YtbpemackmadhgaaDoor
open Go.RowKit

mutual
def samE : Ex → Ex → Bool
  | .mk k n s _ _ l, y => k == y.kind && (n == y.n && (s.toList == y.name.toList && samEs l y.args))
def samEs : List Ex → List Ex → Bool
  | [], [] => true
  | x :: r, y :: t => samE x y && samEs r t
  | [], _ :: _ => false
  | _ :: _, [] => false
end
theorem samE_eq (x y : Ex) : samE x y = (x.kind == y.kind && (x.n == y.n && (x.name.toList == y.name.toList && samEs x.args y.args))) := by cases x; simp only [samE, Ex.kind, Ex.n, Ex.name, Ex.args]
theorem samEs_len : ∀ {l t : List Ex}, l.length ≠ t.length → samEs l t = false
  | [], [], h => by simp at h
  | [], _ :: _, _ => by simp [samEs]
  | _ :: _, [], _ => by simp [samEs]
  | x :: r, y :: t, h => by simp only [samEs]; rw [samEs_len (by simpa using h)]; simp
theorem samEs_drop {l t : List Ex} {j : Nat} (h : j < l.length) (h' : j < t.length) : samEs (l.drop j) (t.drop j) = (samE l[j] t[j] && samEs (l.drop (j + 1)) (t.drop (j + 1))) := by
  rw [List.drop_eq_getElem_cons h, List.drop_eq_getElem_cons h', samEs]
def HaveE (W : World) (a : Option Addr) (c : Nat) (l : List Ex) : Prop := l.length ≤ c ∧ c * 56 ≤ 140737488351232 ∧ RowIn W a 4 (l.map Ex.cells) ∧ ∀ x ∈ l, x.In W
theorem HaveE.stay {W W' : World} (hb : Below W.heap.size W W') {a : Option Addr} {c : Nat} {l : List Ex} (h : HaveE W a c l) : HaveE W' a c l := ⟨h.1, h.2.1, h.2.2.1.below hb, fun x hx => (h.2.2.2 x hx).stay hb⟩
theorem Ex.In.have {W : World} {x : Ex} (h : x.In W) : HaveE W x.a x.cap x.args := by
  obtain ⟨_, _, _, h4, h5, _, h7, h8⟩ := Ex.in_iff.1 h
  exact ⟨h4, h5, h7, h8⟩

set_option maxRecDepth 100000 in
set_option maxHeartbeats 4000000 in
theorem eqE_step (k : Nat) (h1 : ∀ (x y : Ex) (w : World), x.sz ≤ k → x.In w → y.In w → Calls Tryd.prog 62 #[x.val, y.val] w fun e w' => e = .returned (.bool (samE x y)) ∧ Below w.heap.size w w')
    (l t : List Ex) (a a' : Option Addr) (c c' : Nat) (w : World) (hk : szL l ≤ k) (hin : HaveE w a c l) (hin' : HaveE w a' c' t) :
    Calls Tryd.prog 80 #[.slice a l.length c, .slice a' t.length c', .func (.func 62) #[] #[]] w fun e w' => e = .returned (.bool (samEs l t)) ∧ Below w.heap.size w w' := by
  have IH : Hid (∀ (x y : Ex) (w : World), x.sz ≤ k → x.In w → y.In w → Calls Tryd.prog 62 #[x.val, y.val] w fun e w' => e = .returned (.bool (samE x y)) ∧ Below w.heap.size w w') := h1
  have HA : Hid (HaveE w a c l) := hin
  have HB : Hid (HaveE w a' c' t) := hin'
  have hl := hin.1
  have hc := hin.2.1
  have hl' := hin'.1
  have hc' := hin'.2.1
  clear h1 hin hin'
  by_cases hle : l.length = t.length
  · have HL : Hid (l.length = t.length) := hle
    rw [← hle] at hl' ⊢
    clear hle
    go_enter Tryd.func80, Tryd.ntmps80
    go_wp2_with fail
    go_loopw [17] (fun t17 wr => ∃ (j : Nat), j ≤ l.length ∧ t17 = .int .i64 j ∧ samEs (l.drop j) (t.drop j) = samEs l t ∧ Below w.heap.size w wr) (fun t17 _ => l.length - (intOf t17).toNat)
    case atStart => exact ⟨0, Nat.zero_le _, rfl, rfl, Below.refl _ w⟩
    case round =>
      obtain ⟨j, hj, rfl, hcnt, hb⟩ := hrel
      have HC : Hid (samEs (l.drop j) (t.drop j) = samEs l t) := hcnt
      clear hcnt
      have hws := hb.size
      by_cases hlt : j < l.length
      · have hlt' : j < t.length := by have := HL.out; omega
        obtain ⟨b, o, rfl, c0, c1, c2, c3⟩ := row_at (HA.out.2.2.1.below hb) hlt
        obtain ⟨b', o', rfl, d0, d1, d2, d3⟩ := row_at (HB.out.2.2.1.below hb) hlt'
        have hbl := lt_of_cell c0
        have hbl' := lt_of_cell d0
        simp only at hbl hbl'
        have hli : (j : Int) < (l.length : Int) := by omega
        have hsy := szL_mem (List.getElem_mem hlt)
        have HY : Hid (Ex.In w l[j]) := HA.out.2.2.2 l[j] (List.getElem_mem hlt)
        have HY' : Hid (Ex.In w t[j]) := HB.out.2.2.2 t[j] (List.getElem_mem hlt')
        have HZ : Hid (l[j].sz ≤ k) := (by omega : l[j].sz ≤ k)
        have HD : Hid (samEs (l.drop j) (t.drop j) = (samE l[j] t[j] && samEs (l.drop (j + 1)) (t.drop (j + 1)))) := samEs_drop hlt hlt'
        clear hsy
        generalize l[j] = x at *
        generalize t[j] = y at *
        have hb2 := (hb.alloc hws (.cells #[.int .i64 x.kind, .int .i64 x.n, .string x.name, .slice x.a x.args.length x.cap] 39)).alloc (by simp; omega) (.cells #[.int .i64 y.kind, .int .i64 y.n, .string y.name, .slice y.a y.args.length y.cap] 39)
        have hs2 := hb2.size
        go_wp2_with fail
        refine (IH.out x y _ HZ.out (HY.out.stay hb2) (HY'.out.stay hb2)).mono ?_
        rintro e w' ⟨rfl, hb'⟩
        have hb4 : Below w.heap.size w w' := hb2.trans (hb'.mono hs2)
        cases ev : samE x y
        · rw [ev] at HD
          go_wp2_with fail
          go_ret
          exact ⟨ret_bool (by rw [← HC.out, HD.out]; rfl), hb4⟩
        · rw [ev] at HD
          go_wp2_with fail
          go_roundw
          case rel => exact ⟨j + 1, by omega, by go_num, by rw [← HC.out, HD.out]; rfl, hb4⟩
          case measure => simp [intOf]; omega
      · go_wp2_with fail
        go_ret
        refine ⟨ret_bool ?_, hb⟩
        rw [← HC.out, List.drop_eq_nil_of_le (by omega), List.drop_eq_nil_of_le (by have := HL.out; omega)]; simp [samEs]
  · have hne : ((l.length : Int) != (t.length : Int)) = true := by simp only [bne_iff_ne]; omega
    go_enter Tryd.func80, Tryd.ntmps80
    go_wp2_with fail
    go_ret
    exact ⟨ret_bool (by rw [samEs_len hle]), Below.refl _ w⟩
end Go.Proofs.YtbpemackmadhgaaDoor

/- The document's own count of expressions, as it counts them. -/
namespace Go.Proofs.YtbpemackmadhgaaDoor
open Go.RowKit

mutual
def rE : Ex → Int → Int | .mk _ _ _ _ _ l, left => rL l left 0
def rL : List Ex → Int → Int → Int | [], _, n => n | x :: r, left, n => if n ≤ left then rL r left (n + (1 + rE x (left - n - 1))) else n
end
theorem rE_args (x : Ex) (left : Int) : rE x left = rL x.args left 0 := by cases x; simp [rE, Ex.args]
theorem rL_drop {l : List Ex} {j : Nat} {left n : Int} (h : j < l.length) : rL (l.drop j) left n = if n ≤ left then rL (l.drop (j + 1)) left (n + (1 + rE l[j] (left - n - 1))) else n := by
  rw [List.drop_eq_getElem_cons h, rL]
theorem r_bd (k : Nat) : (∀ (x : Ex) (left : Int), x.sz ≤ k → 0 ≤ rE x left ∧ rE x left ≤ max 0 (left + 1)) ∧ (∀ (l : List Ex) (left n : Int), szL l ≤ k → n ≤ rL l left n ∧ rL l left n ≤ max n (left + 1)) := by
  induction k with
  | zero =>
    refine ⟨fun x n hk => by have := x.sz_args; omega, fun l left n hk => ?_⟩
    cases l with
    | nil => simp only [rL]; omega
    | cons x r => rw [szL] at hk; have := x.sz_args; omega
  | succ k ih =>
    have h1 : ∀ (x : Ex) (left : Int), x.sz ≤ k + 1 → 0 ≤ rE x left ∧ rE x left ≤ max 0 (left + 1) := fun x n hk => by
      rw [rE_args]; exact ih.2 _ _ _ (by have := x.sz_args; omega)
    refine ⟨h1, fun l => ?_⟩
    induction l with
    | nil => intro left n _; simp only [rL]; omega
    | cons x r ihr =>
      intro left n hk
      rw [szL] at hk
      rw [rL]
      split
      · have := h1 x (left - n - 1) (by omega)
        have := ihr left (n + (1 + rE x (left - n - 1))) (by omega)
        omega
      · omega
theorem rE_bd (x : Ex) (left : Int) : 0 ≤ rE x left ∧ rE x left ≤ max 0 (left + 1) := (r_bd _).1 x left (Nat.le_refl _)
theorem rL_bd (l : List Ex) (left n : Int) : n ≤ rL l left n ∧ rL l left n ≤ max n (left + 1) := (r_bd _).2 l left n (Nat.le_refl _)

set_option maxRecDepth 100000 in
set_option maxHeartbeats 2000000 in
theorem rexprs_k (k : Nat) : ∀ (l : List Ex) (a : Option Addr) (c : Nat) (left : Int) (w : World), szL l ≤ k → HaveE w a c l → -8 ≤ left → left ≤ 4611686018427387904 →
    Calls Tryd.prog 30 #[.slice a l.length c, .int .i64 left] w fun e w' => e = .returned (.int .i64 (rL l left 0)) ∧ Below w.heap.size w w' := by
  induction k with
  | zero =>
    intro l a c left w hk hin h0 h1
    obtain rfl : l = [] := by
      cases l with
      | nil => rfl
      | cons x r => rw [szL] at hk; have := x.sz_args; omega
    rw [rL]
    show Calls Tryd.prog 30 #[.slice a 0 c, .int .i64 left] w _
    go_enter Tryd.func30, Tryd.ntmps30
    go_wp2_with fail
    go_loopw [5, 6] (fun t5 t6 wr => t5 = .int .i64 0 ∧ t6 = .int .i64 0 ∧ wr = w) (fun _ _ _ => 0)
    case atStart => exact ⟨rfl, rfl, rfl⟩
    case round =>
      obtain ⟨rfl, rfl, rfl⟩ := hrel
      go_wp2_with fail
      go_ret
      exact ⟨rfl, Below.refl _ _⟩
  | succ k ih =>
    intro l a c left w hk hin h0 h1
    have hl := hin.1
    have hc := hin.2.1
    have IH : Hid (∀ (l : List Ex) (a : Option Addr) (c : Nat) (left : Int) (w : World), szL l ≤ k → HaveE w a c l → -8 ≤ left → left ≤ 4611686018427387904 →
      Calls Tryd.prog 30 #[.slice a l.length c, .int .i64 left] w fun e w' => e = .returned (.int .i64 (rL l left 0)) ∧ Below w.heap.size w w') := ih
    have HE : Hid (HaveE w a c l) := hin
    have HK : Hid (szL l ≤ k + 1) := hk
    clear ih hin hk
    go_enter Tryd.func30, Tryd.ntmps30
    go_wp2_with fail
    go_loopw [5, 6] (fun t5 t6 wr => ∃ (j : Nat) (m : Int), j ≤ l.length ∧ t5 = .int .i64 m ∧ t6 = .int .i64 j ∧ 0 ≤ m ∧ m ≤ max 0 (left + 1) ∧ rL (l.drop j) left m = rL l left 0 ∧ Below w.heap.size w wr) (fun _ t6 _ => l.length - (intOf t6).toNat)
    case atStart => exact ⟨0, 0, Nat.zero_le _, rfl, rfl, by omega, by omega, by simp, Below.refl _ w⟩
    case round =>
      obtain ⟨j, m, hj, rfl, rfl, hm0, hm1, hcnt, hb⟩ := hrel
      have HC : Hid (rL (l.drop j) left m = rL l left 0) := hcnt
      clear hcnt
      have hws := hb.size
      by_cases hlt : j < l.length
      · have hli : (j : Int) < (l.length : Int) := by omega
        have HD : Hid (rL (l.drop j) left m = if m ≤ left then rL (l.drop (j + 1)) left (m + (1 + rE l[j] (left - m - 1))) else m) := rL_drop hlt
        by_cases hm : m ≤ left
        · obtain ⟨b, o, rfl, c0, c1, c2, c3⟩ := row_at (HE.out.2.2.1.below hb) hlt
          have HI : Hid (l[j].In wr) := (HE.out.2.2.2 _ (List.getElem_mem hlt)).stay hb
          have HZ : Hid (szL l[j].args ≤ k) := by
            have h1 := szL_mem (List.getElem_mem hlt)
            have h2 := (l[j]).sz_args
            have h3 := HK.out
            show szL l[j].args ≤ k
            omega
          have hbd := rE_bd l[j] (left - m - 1)
          rw [if_pos hm] at HD
          generalize l[j] = x at *
          go_wp2_with fail
          refine (IH.out x.args x.a x.cap (left - m - 1) _ HZ.out HI.out.have (by omega) (by omega)).mono ?_
          rintro e w' ⟨rfl, hb'⟩
          rw [← rE_args]
          generalize rE x (left - m - 1) = q at *
          go_wp2_with fail
          go_roundw
          case rel =>
            refine ⟨j + 1, m + (1 + q), by omega, rfl, by go_num, by omega, by omega, ?_, hb.trans (hb'.mono hws)⟩
            rw [← HC.out, HD.out]
          case measure => simp [intOf]; omega
        · rw [if_neg hm] at HD
          go_wp2_with fail
          go_ret
          exact ⟨ret_int (by rw [← HC.out, HD.out]), hb⟩
      · obtain rfl : j = l.length := by omega
        go_wp2_with fail
        go_ret
        exact ⟨ret_int (by rw [← HC.out, List.drop_eq_nil_of_le (Nat.le_refl _), rL]), hb⟩
theorem rexprs_any (l : List Ex) (a : Option Addr) (c : Nat) (left : Int) (w : World) (hin : HaveE w a c l) (h0 : -8 ≤ left) (h1 : left ≤ 4611686018427387904) :
    Calls Tryd.prog 30 #[.slice a l.length c, .int .i64 left] w fun e w' => e = .returned (.int .i64 (rL l left 0)) ∧ Below w.heap.size w w' := rexprs_k _ l a c left w (Nat.le_refl _) hin h0 h1
end Go.Proofs.YtbpemackmadhgaaDoor

/- The document's own count of statements, as it counts them; is an expression one of zeros? -/
namespace Go.Proofs.YtbpemackmadhgaaDoor
open Go.RowKit

def rZ (x : Ex) (left n : Int) : Int := if zeroE x then n else n + (1 + rL x.args (left - n - 1) 0)
mutual
def rS : St → Int → Int → Int
  | .mk _ _ _ a b _ _ l _ _ e _ _ c, left, n =>
    (fun m => m + rSs e (left - m) 0) (rCs c left ((fun m => m + rSs l (left - m) 0) (rZ b left (rZ a left (n + 1)))))
def rSs : List St → Int → Int → Int | [], _, n => n | s :: r, left, n => if n ≤ left then rSs r left (rS s left n) else n
def rC : Ca → Int → Int | .mk _ _ _ l, left => rSs l left 0
def rCs : List Ca → Int → Int → Int | [], _, n => n | c :: r, left, n => if n ≤ left then rCs r left (n + (1 + rC c (left - n - 1))) else n
end
def rB (l : List St) (left n : Int) : Int := n + rSs l (left - n) 0
theorem rC_eq (c : Ca) (left : Int) : rC c left = rSs c.body left 0 := by cases c; simp [rC, Ca.body]
theorem rS_eq (s : St) (left n : Int) : rS s left n = rB s.els left (rCs s.cases left (rB s.body left (rZ s.b left (rZ s.a left (n + 1))))) := by
  cases s; simp only [rS, rB, St.els, St.cases, St.body, St.a, St.b]
theorem rSs_drop {l : List St} {j : Nat} {left n : Int} (h : j < l.length) : rSs (l.drop j) left n = if n ≤ left then rSs (l.drop (j + 1)) left (rS l[j] left n) else n := by
  rw [List.drop_eq_getElem_cons h, rSs]
theorem rCs_drop {l : List Ca} {j : Nat} {left n : Int} (h : j < l.length) : rCs (l.drop j) left n = if n ≤ left then rCs (l.drop (j + 1)) left (n + (1 + rC l[j] (left - n - 1))) else n := by
  rw [List.drop_eq_getElem_cons h, rCs]
theorem rZ_bd (x : Ex) (left n : Int) : n ≤ rZ x left n ∧ rZ x left n ≤ max (n + 1) (left + 1) := by
  unfold rZ
  have := rL_bd x.args (left - n - 1) 0
  split <;> omega

theorem rs_bd (k : Nat) : (∀ (s : St) (left n : Int), s.sz ≤ k → n ≤ left → n + 1 ≤ rS s left n ∧ rS s left n ≤ left + 3) ∧ (∀ (l : List St) (left n : Int), ssz l ≤ k → n ≤ rSs l left n ∧ rSs l left n ≤ max n (left + 3)) := by
  induction k with
  | zero =>
    refine ⟨fun s left n hk => by have := s.sz_eq; omega, fun l left n hk => ?_⟩
    cases l with
    | nil => simp only [rSs]; omega
    | cons x r => rw [ssz] at hk; have := x.sz_eq; omega
  | succ k ih =>
    have hC : ∀ (l : List Ca) (left n : Int), csz l ≤ k → n ≤ rCs l left n ∧ rCs l left n ≤ max n (left + 3) := fun l => by
      induction l with
      | nil => intro left n _; simp only [rCs]; omega
      | cons c r ihr =>
        intro left n hk
        rw [csz] at hk
        rw [rCs]
        split
        · have h1 := ih.2 c.body (left - n - 1) 0 (by have := c.sz_eq; omega)
          rw [← rC_eq] at h1
          have := ihr left (n + (1 + rC c (left - n - 1))) (by omega)
          omega
        · omega
    have hB : ∀ (l : List St) (left n : Int), ssz l ≤ k → n ≤ rB l left n ∧ rB l left n ≤ max n (left + 3) := fun l left n hk => by
      have := ih.2 l (left - n) 0 hk
      unfold rB; omega
    have h1 : ∀ (s : St) (left n : Int), s.sz ≤ k + 1 → n ≤ left → n + 1 ≤ rS s left n ∧ rS s left n ≤ left + 3 := fun s left n hk hn => by
      rw [rS_eq]
      have hz := s.sz_eq
      have a1 := rZ_bd s.a left (n + 1)
      have a2 := rZ_bd s.b left (rZ s.a left (n + 1))
      have a3 := hB s.body left (rZ s.b left (rZ s.a left (n + 1))) (by omega)
      have a4 := hC s.cases left (rB s.body left (rZ s.b left (rZ s.a left (n + 1)))) (by omega)
      have a5 := hB s.els left (rCs s.cases left (rB s.body left (rZ s.b left (rZ s.a left (n + 1))))) (by omega)
      omega
    refine ⟨h1, fun l => ?_⟩
    induction l with
    | nil => intro left n _; simp only [rSs]; omega
    | cons x r ihr =>
      intro left n hk
      rw [ssz] at hk
      rw [rSs]
      split
      · have := h1 x left n (by omega) (by assumption)
        have := ihr left (rS x left n) (by omega)
        omega
      · omega
theorem rSs_bd (l : List St) (left n : Int) : n ≤ rSs l left n ∧ rSs l left n ≤ max n (left + 3) := (rs_bd _).2 l left n (Nat.le_refl _)
theorem rS_bd (s : St) (left n : Int) (h : n ≤ left) : n + 1 ≤ rS s left n ∧ rS s left n ≤ left + 3 := (rs_bd _).1 s left n (Nat.le_refl _) h
theorem rC_bd (c : Ca) (left : Int) : 0 ≤ rC c left ∧ rC c left ≤ max 0 (left + 3) := by rw [rC_eq]; exact rSs_bd _ _ _
theorem rB_bd (l : List St) (left n : Int) : n ≤ rB l left n ∧ rB l left n ≤ max n (left + 3) := by
  have := rSs_bd l (left - n) 0
  unfold rB; omega

set_option maxRecDepth 100000 in
set_option maxHeartbeats 2000000 in
theorem rzero_any (x : Ex) (w : World) : Calls Tryd.prog 29 #[x.val] w fun e w' => e = .returned (.bool (zeroE x)) ∧ Below w.heap.size w w' := by
  obtain ⟨kd, n, s, a, c, l⟩ := x
  unfold Ex.val zeroE
  simp only [Ex.kind, Ex.n, Ex.name, Ex.a, Ex.cap, Ex.args]
  have hb := (Below.refl _ w).alloc (Nat.le_refl _) (.cells #[.int .i64 kd, .int .i64 n, .string s, .slice a l.length c] 39)
  cases h1 : (kd == 0)
  · go_enter Tryd.func29, Tryd.ntmps29
    go_wp2_with fail
    go_ret
    exact ⟨rfl, hb⟩
  · cases h2 : (n == 0)
    · go_enter Tryd.func29, Tryd.ntmps29
      go_wp2_with fail
      go_ret
      exact ⟨ret_bool (by simp), hb⟩
    · have e : s.toList.isEmpty = (s.toList == []) := by cases s.toList <;> rfl
      cases h3 : (s.toList == [])
      · go_enter Tryd.func29, Tryd.ntmps29
        go_wp2_with fail
        go_ret
        exact ⟨ret_bool (by rw [e, h3]; rfl), hb⟩
      · go_enter Tryd.func29, Tryd.ntmps29
        go_wp2_with fail
        go_ret
        refine ⟨ret_bool ?_, hb⟩
        rw [e, h3]
        cases l
        · rfl
        · simp; omega
theorem rZ_t {x : Ex} {left n : Int} (h : zeroE x = true) : rZ x left n = n := by simp [rZ, h]
theorem rZ_f {x : Ex} {left n : Int} (h : zeroE x = false) : rZ x left n = n + (1 + rL x.args (left - n - 1) 0) := by simp [rZ, h]
end Go.Proofs.YtbpemackmadhgaaDoor

/- The document's own count of statements: what it answers. -/
namespace Go.Proofs.YtbpemackmadhgaaDoor
open Go.RowKit

set_option maxRecDepth 100000 in
set_option maxHeartbeats 16000000 in
theorem rstmts_k (k : Nat) : ∀ (l : List St) (a : Option Addr) (c : Nat) (left : Int) (w : World), ssz l ≤ k → Have w a c l → -8 ≤ left → left ≤ 4611686018427387904 →
    Calls Tryd.prog 17 #[.slice a l.length c, .int .i64 left] w fun e w' => e = .returned (.int .i64 (rSs l left 0)) ∧ Below w.heap.size w w' := by
  induction k with
  | zero =>
    intro l a c left w hk hin h0 h1
    obtain rfl : l = [] := by
      cases l with
      | nil => rfl
      | cons x r => rw [ssz] at hk; have := x.sz_eq; omega
    rw [rSs]
    show Calls Tryd.prog 17 #[.slice a 0 c, .int .i64 left] w _
    go_enter Tryd.func17, Tryd.ntmps17
    go_wp2_with fail
    go_loopw [5, 6] (fun t5 t6 wr => t5 = .int .i64 0 ∧ t6 = .int .i64 0 ∧ wr = w) (fun _ _ _ => 0)
    case atStart => exact ⟨rfl, rfl, rfl⟩
    case round =>
      obtain ⟨rfl, rfl, rfl⟩ := hrel
      go_wp2_with fail
      go_ret
      exact ⟨rfl, Below.refl _ _⟩
  | succ k ih =>
    intro l a c left w hk hin h0 h1
    obtain ⟨⟨hl, hc, _, hrow⟩, hsub⟩ := hin
    have IH : Hid (∀ (l : List St) (a : Option Addr) (c : Nat) (left : Int) (w : World), ssz l ≤ k → Have w a c l → -8 ≤ left → left ≤ 4611686018427387904 → Calls Tryd.prog 17 #[.slice a l.length c, .int .i64 left] w fun e w' => e = .returned (.int .i64 (rSs l left 0)) ∧ Below w.heap.size w w') := ih
    have HS : Hid (∀ x ∈ l, x.In w) := hsub
    have HR : Hid (RowIn w a 14 (List.map St.cells l)) := hrow
    have HK : Hid (ssz l ≤ k + 1) := hk
    clear ih hsub hrow hk
    go_enter Tryd.func17, Tryd.ntmps17
    go_wp2_with fail
    go_loopw [5, 6] (fun t5 t6 wr => ∃ (j : Nat) (m : Int), j ≤ l.length ∧ t5 = .int .i64 m ∧ t6 = .int .i64 j ∧ 0 ≤ m ∧ m ≤ max 0 (left + 3) ∧ rSs (l.drop j) left m = rSs l left 0 ∧ Below w.heap.size w wr) (fun _ t6 _ => l.length - (intOf t6).toNat)
    case atStart => exact ⟨0, 0, Nat.zero_le _, rfl, rfl, by omega, by omega, by simp, Below.refl _ w⟩
    case round =>
      obtain ⟨j, m, hj, rfl, rfl, hm0, hm1, hcnt, hb⟩ := hrel
      have HC : Hid (rSs (l.drop j) left m = rSs l left 0) := hcnt
      clear hcnt
      have hws := hb.size
      by_cases hlt : j < l.length
      · have hli : (j : Int) < (l.length : Int) := by omega
        have HD : Hid (rSs (l.drop j) left m = if m ≤ left then rSs (l.drop (j + 1)) left (rS l[j] left m) else m) := rSs_drop hlt
        by_cases hm : m ≤ left
        · obtain ⟨b, o, rfl, hcell⟩ := rowS_at (HR.out.below hb) hlt
          have c0 := hcell 0 _ rfl
          have c1 := hcell 1 _ rfl
          have c2 := hcell 2 _ rfl
          have c3 := hcell 3 _ rfl
          have c4 := hcell 4 _ rfl
          have c5 := hcell 5 _ rfl
          have c6 := hcell 6 _ rfl
          have c7 := hcell 7 _ rfl
          have c8 := hcell 8 _ rfl
          have c9 := hcell 9 _ rfl
          have c10 := hcell 10 _ rfl
          have c11 := hcell 11 _ rfl
          have c12 := hcell 12 _ rfl
          have c13 := hcell 13 _ rfl
          simp only [← Nat.add_assoc, Nat.add_zero] at c0 c1 c2 c3 c4 c5 c6 c7 c8 c9 c10 c11 c12 c13
          clear hcell
          have HI : Hid (l[j].In wr) := (HS.out _ (List.getElem_mem hlt)).stay hb
          have HZ : Hid (l[j].sz ≤ k + 1) := by
            have h1 := ssz_mem (List.getElem_mem hlt)
            have h3 := HK.out
            show l[j].sz ≤ k + 1
            omega
          rw [if_pos hm] at HD
          generalize l[j] = s at *
          have HZA : Hid (∀ w, Calls Tryd.prog 29 #[s.a.val] w fun e w' => e = .returned (.bool (zeroE s.a)) ∧ Below w.heap.size w w') := fun w => rzero_any s.a w
          have HZB : Hid (∀ w, Calls Tryd.prog 29 #[s.b.val] w fun e w' => e = .returned (.bool (zeroE s.b)) ∧ Below w.heap.size w w') := fun w => rzero_any s.b w
          unfold Ex.val at HZA HZB
          cases hza : zeroE s.a
          · cases hzb : zeroE s.b
            · have EQ : Hid (rS s left m = rB s.els left (rCs s.cases left (((m + 1) + (1 + rL s.a.args (left - (m + 1) - 1) 0)) + (1 + rL s.b.args (left - ((m + 1) + (1 + rL s.a.args (left - (m + 1) - 1) 0)) - 1) 0) + rSs s.body (left - (((m + 1) + (1 + rL s.a.args (left - (m + 1) - 1) 0)) + (1 + rL s.b.args (left - ((m + 1) + (1 + rL s.a.args (left - (m + 1) - 1) 0)) - 1) 0))) 0))) := by
                show _ = _; rw [rS_eq, rZ_f hza, rZ_f hzb]; rfl
              rw [hza] at HZA
              rw [hzb] at HZB
              go_wp2_with fail
              obtain ⟨W1, hW1⟩ : ∃ W1, wr.alloc (.cells #[.int .i64 s.kind, .string s.name, .int .i64 s.n, .int .i64 s.a.kind, .int .i64 s.a.n, .string s.a.name, .slice s.a.a s.a.args.length s.a.cap, .int .i64 s.b.kind, .int .i64 s.b.n, .string s.b.name, .slice s.b.a s.b.args.length s.b.cap, .slice s.ba s.body.length s.bc, .slice s.ea s.els.length s.ec, .slice s.ca s.cases.length s.cc] 46) = W1 := ⟨_, rfl⟩
              have BX : Hid (∀ (j : Nat) v, s.cells[j]? = some v → W1.cell? ⟨wr.heap.size, j, none⟩ = some v) := by
                show ∀ (j : Nat) v, _; intro j v h
                rw [← hW1, World.cell?_alloc_at _ _ _ _ rfl]; simpa [St.cells] using h
              have hb1 : Below w.heap.size w W1 := by rw [← hW1]; exact hb.alloc hws _
              have hbr : Below wr.heap.size wr W1 := by rw [← hW1]; exact (Below.refl _ wr).alloc (Nat.le_refl _) _
              have hs1 : wr.heap.size < W1.heap.size := by rw [← hW1]; simp
              rw [hW1]
              clear hW1 c0 c1 c2 c3 c4 c5 c6 c7 c8 c9 c10 c11 c12 c13
              have HI1 : Hid (s.In W1) := HI.out.stay hbr
              obtain ⟨Z, hZ⟩ : ∃ Z, wr.heap.size = Z := ⟨_, rfl⟩
              rw [hZ] at BX hs1 ⊢
              have CX : Hid (∀ w', Below W1.heap.size W1 w' → ∀ (j : Nat) v, s.cells[j]? = some v → w'.cell? ⟨Z, j, none⟩ = some v) := fun w' h j v e => (h.cell (p := ⟨Z, j, none⟩) hs1).trans (BX.out j v e)
              clear hbr hZ hb hws
              refine (HZA.out W1).mono ?_
              rintro e w2 ⟨rfl, hb2⟩
              have c6 := CX.out _ hb2 6 _ rfl
              go_wp2_with fail
              refine (rexprs_any s.a.args s.a.a s.a.cap (left - (m + 1) - 1) _ ((St.in_iff.1 (HI1.out.stay hb2)).2.2.2.1.have) (by omega) (by omega)).mono ?_
              have b1 := rL_bd s.a.args (left - (m + 1) - 1) 0
              generalize rL s.a.args (left - (m + 1) - 1) 0 = q1 at b1 EQ ⊢
              rintro e w3 ⟨rfl, hb3⟩
              have hb3' := hb2.trans (hb3.mono hb2.size)
              clear hb2 hb3 c6
              have c7 := CX.out _ hb3' 7 _ rfl
              have c8 := CX.out _ hb3' 8 _ rfl
              have c9 := CX.out _ hb3' 9 _ rfl
              have c10 := CX.out _ hb3' 10 _ rfl
              go_wp2_with fail
              refine (HZB.out _).mono ?_
              rintro e w4 ⟨rfl, hb4⟩
              have hb4' := hb3'.trans (hb4.mono hb3'.size)
              clear hb3' hb4 c7 c8 c9 c10
              have c10 := CX.out _ hb4' 10 _ rfl
              go_wp2_with fail
              refine (rexprs_any s.b.args s.b.a s.b.cap (left - ((m + 1) + (1 + q1)) - 1) _ ((St.in_iff.1 (HI1.out.stay hb4')).2.2.2.2.1.have) (by omega) (by omega)).mono ?_
              have b2 := rL_bd s.b.args (left - ((m + 1) + (1 + q1)) - 1) 0
              generalize rL s.b.args (left - ((m + 1) + (1 + q1)) - 1) 0 = q2 at b2 EQ ⊢
              rintro e w5 ⟨rfl, hb5⟩
              have hb5' := hb4'.trans (hb5.mono hb4'.size)
              clear hb4' hb5 c10
              have c11 := CX.out _ hb5' 11 _ rfl
              go_wp2_with fail
              refine (IH.out s.body s.ba s.bc (left - (((m + 1) + (1 + q1)) + (1 + q2))) _ (by have := s.sz_eq; have := HZ.out; omega) (St.in_iff.1 (HI1.out.stay hb5')).2.2.2.2.2.1 (by omega) (by omega)).mono ?_
              have b3 := rSs_bd s.body (left - (((m + 1) + (1 + q1)) + (1 + q2))) 0
              generalize rSs s.body (left - (((m + 1) + (1 + q1)) + (1 + q2))) 0 = q3 at b3 EQ ⊢
              rintro e w6 ⟨rfl, hb6⟩
              have hb6' := hb5'.trans (hb6.mono hb5'.size)
              clear hb5' hb6 c11
              obtain ⟨n4, hn4⟩ : ∃ n4, ((m + 1) + (1 + q1)) + (1 + q2) + q3 = n4 := ⟨_, rfl⟩
              have hn4b : 0 ≤ n4 ∧ n4 ≤ left + 3 := by omega
              rw [hn4] at EQ
              have HN4 := show Hid _ from hn4
              clear hn4
              go_wp2_with fail
              go_loopw [5, 8] (fun t5 t8 wq => ∃ (i : Nat) (p : Int), i ≤ s.cases.length ∧ t5 = .int .i64 p ∧ t8 = .int .i64 i ∧ 0 ≤ p ∧ p ≤ left + 3 ∧ rCs (s.cases.drop i) left p = rCs s.cases left n4 ∧ Below W1.heap.size W1 wq) (fun _ t8 _ => s.cases.length - (intOf t8).toNat)
              case atStart => exact ⟨0, n4, Nat.zero_le _, by have := HN4.out; go_num, rfl, hn4b.1, hn4b.2, by simp, hb6'⟩
              case round =>
                obtain ⟨i, p, hi, rfl, rfl, hp0, hp1, hpc, hbq⟩ := hrel
                have HPC : Hid (rCs (s.cases.drop i) left p = rCs s.cases left n4) := hpc
                clear hpc
                obtain ⟨hcl, hcc, _, hcr⟩ := (St.in_iff.1 (HI1.out.stay hbq)).2.2.2.2.2.2.2.1
                have HCR : Hid (RowIn wr s.ca 2 (s.cases.map Ca.cells)) := hcr
                clear hcr
                have c13 := CX.out _ hbq 13 _ rfl
                by_cases hilt : i < s.cases.length
                · have hili : (i : Int) < (s.cases.length : Int) := by omega
                  have HD2 : Hid (rCs (s.cases.drop i) left p = if p ≤ left then rCs (s.cases.drop (i + 1)) left (p + (1 + rC s.cases[i] (left - p - 1))) else p) := rCs_drop hilt
                  by_cases hpl : p ≤ left
                  · obtain ⟨b', o', hca, d0, d1⟩ := rowC_at HCR.out hilt
                    rw [hca] at c13
                    clear hca
                    rw [if_pos hpl, rC_eq] at HD2
                    have HIc : Hid (Have wr s.cases[i].ba s.cases[i].bc s.cases[i].body) := (Ca.in_iff.1 ((St.in_iff.1 (HI1.out.stay hbq)).2.2.2.2.2.2.2.2 _ (List.getElem_mem hilt))).2
                    have HZc : Hid (ssz s.cases[i].body ≤ k) := by
                      have h1 := csz_mem (List.getElem_mem hilt)
                      have h2 := (s.cases[i]).sz_eq
                      have h3 := s.sz_eq
                      have h4 := HZ.out
                      show ssz s.cases[i].body ≤ k
                      omega
                    generalize s.cases[i] = y at *
                    go_wp2_with fail
                    refine (IH.out y.body y.ba y.bc (left - p - 1) _ HZc.out HIc.out (by omega) (by omega)).mono ?_
                    have b4 := rSs_bd y.body (left - p - 1) 0
                    generalize rSs y.body (left - p - 1) 0 = q4 at b4 HD2 ⊢
                    rintro e w7 ⟨rfl, hb7⟩
                    have hb7' := hbq.trans (hb7.mono hbq.size)
                    clear hb7 c13 d0 d1
                    go_wp2_with fail
                    go_roundw
                    case rel =>
                      refine ⟨i + 1, p + (1 + q4), by omega, by go_num, by go_num, by omega, by omega, ?_, hb7'⟩
                      rw [← HPC.out, HD2.out]
                    case measure => simp [intOf]; omega
                  · rw [if_neg hpl] at HD2
                    have hpe : rCs s.cases left n4 = p := by rw [← HPC.out, HD2.out]
                    have c12 := CX.out _ hbq 12 _ rfl
                    go_wp2_with fail
                    refine (IH.out s.els s.ea s.ec (left - p) _ (by have := s.sz_eq; have := HZ.out; omega) (St.in_iff.1 (HI1.out.stay hbq)).2.2.2.2.2.2.1 (by omega) (by omega)).mono ?_
                    have b5 := rSs_bd s.els (left - p) 0
                    have EQ2 : Hid (rS s left m = p + rSs s.els (left - p) 0) := by show _ = _; rw [EQ.out, hpe]; rfl
                    generalize rSs s.els (left - p) 0 = q5 at b5 EQ2 ⊢
                    rintro e w8 ⟨rfl, hb8⟩
                    have hb8' := hb1.trans ((hbq.trans (hb8.mono hbq.size)).mono hb1.size)
                    clear hb8 c12 c13 hpe
                    go_wp2_with fail
                    go_roundw
                    case rel =>
                      refine ⟨j + 1, p + q5, by omega, by go_num, by go_num, by omega, by omega, ?_, hb8'⟩
                      rw [← HC.out, HD.out, EQ2.out]
                    case measure => simp [intOf]; omega
                · obtain rfl : i = s.cases.length := by omega
                  have hpe : rCs s.cases left n4 = p := by rw [← HPC.out, List.drop_eq_nil_of_le (Nat.le_refl _), rCs]
                  have c12 := CX.out _ hbq 12 _ rfl
                  go_wp2_with fail
                  refine (IH.out s.els s.ea s.ec (left - p) _ (by have := s.sz_eq; have := HZ.out; omega) (St.in_iff.1 (HI1.out.stay hbq)).2.2.2.2.2.2.1 (by omega) (by omega)).mono ?_
                  have b5 := rSs_bd s.els (left - p) 0
                  have EQ2 : Hid (rS s left m = p + rSs s.els (left - p) 0) := by show _ = _; rw [EQ.out, hpe]; rfl
                  generalize rSs s.els (left - p) 0 = q5 at b5 EQ2 ⊢
                  rintro e w8 ⟨rfl, hb8⟩
                  have hb8' := hb1.trans ((hbq.trans (hb8.mono hbq.size)).mono hb1.size)
                  clear hb8 c12 c13 hpe
                  go_wp2_with fail
                  go_roundw
                  case rel =>
                    refine ⟨j + 1, p + q5, by omega, by go_num, by go_num, by omega, by omega, ?_, hb8'⟩
                    rw [← HC.out, HD.out, EQ2.out]
                  case measure => simp [intOf]; omega
            · have EQ : Hid (rS s left m = rB s.els left (rCs s.cases left ((m + 1) + (1 + rL s.a.args (left - (m + 1) - 1) 0) + rSs s.body (left - ((m + 1) + (1 + rL s.a.args (left - (m + 1) - 1) 0))) 0))) := by
                show _ = _; rw [rS_eq, rZ_f hza, rZ_t hzb]; rfl
              rw [hza] at HZA
              rw [hzb] at HZB
              go_wp2_with fail
              obtain ⟨W1, hW1⟩ : ∃ W1, wr.alloc (.cells #[.int .i64 s.kind, .string s.name, .int .i64 s.n, .int .i64 s.a.kind, .int .i64 s.a.n, .string s.a.name, .slice s.a.a s.a.args.length s.a.cap, .int .i64 s.b.kind, .int .i64 s.b.n, .string s.b.name, .slice s.b.a s.b.args.length s.b.cap, .slice s.ba s.body.length s.bc, .slice s.ea s.els.length s.ec, .slice s.ca s.cases.length s.cc] 46) = W1 := ⟨_, rfl⟩
              have BX : Hid (∀ (j : Nat) v, s.cells[j]? = some v → W1.cell? ⟨wr.heap.size, j, none⟩ = some v) := by
                show ∀ (j : Nat) v, _; intro j v h
                rw [← hW1, World.cell?_alloc_at _ _ _ _ rfl]; simpa [St.cells] using h
              have hb1 : Below w.heap.size w W1 := by rw [← hW1]; exact hb.alloc hws _
              have hbr : Below wr.heap.size wr W1 := by rw [← hW1]; exact (Below.refl _ wr).alloc (Nat.le_refl _) _
              have hs1 : wr.heap.size < W1.heap.size := by rw [← hW1]; simp
              rw [hW1]
              clear hW1 c0 c1 c2 c3 c4 c5 c6 c7 c8 c9 c10 c11 c12 c13
              have HI1 : Hid (s.In W1) := HI.out.stay hbr
              obtain ⟨Z, hZ⟩ : ∃ Z, wr.heap.size = Z := ⟨_, rfl⟩
              rw [hZ] at BX hs1 ⊢
              have CX : Hid (∀ w', Below W1.heap.size W1 w' → ∀ (j : Nat) v, s.cells[j]? = some v → w'.cell? ⟨Z, j, none⟩ = some v) := fun w' h j v e => (h.cell (p := ⟨Z, j, none⟩) hs1).trans (BX.out j v e)
              clear hbr hZ hb hws
              refine (HZA.out W1).mono ?_
              rintro e w2 ⟨rfl, hb2⟩
              have c6 := CX.out _ hb2 6 _ rfl
              go_wp2_with fail
              refine (rexprs_any s.a.args s.a.a s.a.cap (left - (m + 1) - 1) _ ((St.in_iff.1 (HI1.out.stay hb2)).2.2.2.1.have) (by omega) (by omega)).mono ?_
              have b1 := rL_bd s.a.args (left - (m + 1) - 1) 0
              generalize rL s.a.args (left - (m + 1) - 1) 0 = q1 at b1 EQ ⊢
              rintro e w3 ⟨rfl, hb3⟩
              have hb3' := hb2.trans (hb3.mono hb2.size)
              clear hb2 hb3 c6
              have c7 := CX.out _ hb3' 7 _ rfl
              have c8 := CX.out _ hb3' 8 _ rfl
              have c9 := CX.out _ hb3' 9 _ rfl
              have c10 := CX.out _ hb3' 10 _ rfl
              go_wp2_with fail
              refine (HZB.out _).mono ?_
              rintro e w4 ⟨rfl, hb4⟩
              have hb4' := hb3'.trans (hb4.mono hb3'.size)
              clear hb3' hb4 c7 c8 c9 c10
              have c11 := CX.out _ hb4' 11 _ rfl
              go_wp2_with fail
              refine (IH.out s.body s.ba s.bc (left - ((m + 1) + (1 + q1))) _ (by have := s.sz_eq; have := HZ.out; omega) (St.in_iff.1 (HI1.out.stay hb4')).2.2.2.2.2.1 (by omega) (by omega)).mono ?_
              have b3 := rSs_bd s.body (left - ((m + 1) + (1 + q1))) 0
              generalize rSs s.body (left - ((m + 1) + (1 + q1))) 0 = q3 at b3 EQ ⊢
              rintro e w6 ⟨rfl, hb6⟩
              have hb6' := hb4'.trans (hb6.mono hb4'.size)
              clear hb4' hb6 c11
              obtain ⟨n4, hn4⟩ : ∃ n4, (m + 1) + (1 + q1) + q3 = n4 := ⟨_, rfl⟩
              have hn4b : 0 ≤ n4 ∧ n4 ≤ left + 3 := by omega
              rw [hn4] at EQ
              have HN4 := show Hid _ from hn4
              clear hn4
              go_wp2_with fail
              go_loopw [5, 8] (fun t5 t8 wq => ∃ (i : Nat) (p : Int), i ≤ s.cases.length ∧ t5 = .int .i64 p ∧ t8 = .int .i64 i ∧ 0 ≤ p ∧ p ≤ left + 3 ∧ rCs (s.cases.drop i) left p = rCs s.cases left n4 ∧ Below W1.heap.size W1 wq) (fun _ t8 _ => s.cases.length - (intOf t8).toNat)
              case atStart => exact ⟨0, n4, Nat.zero_le _, by have := HN4.out; go_num, rfl, hn4b.1, hn4b.2, by simp, hb6'⟩
              case round =>
                obtain ⟨i, p, hi, rfl, rfl, hp0, hp1, hpc, hbq⟩ := hrel
                have HPC : Hid (rCs (s.cases.drop i) left p = rCs s.cases left n4) := hpc
                clear hpc
                obtain ⟨hcl, hcc, _, hcr⟩ := (St.in_iff.1 (HI1.out.stay hbq)).2.2.2.2.2.2.2.1
                have HCR : Hid (RowIn wr s.ca 2 (s.cases.map Ca.cells)) := hcr
                clear hcr
                have c13 := CX.out _ hbq 13 _ rfl
                by_cases hilt : i < s.cases.length
                · have hili : (i : Int) < (s.cases.length : Int) := by omega
                  have HD2 : Hid (rCs (s.cases.drop i) left p = if p ≤ left then rCs (s.cases.drop (i + 1)) left (p + (1 + rC s.cases[i] (left - p - 1))) else p) := rCs_drop hilt
                  by_cases hpl : p ≤ left
                  · obtain ⟨b', o', hca, d0, d1⟩ := rowC_at HCR.out hilt
                    rw [hca] at c13
                    clear hca
                    rw [if_pos hpl, rC_eq] at HD2
                    have HIc : Hid (Have wr s.cases[i].ba s.cases[i].bc s.cases[i].body) := (Ca.in_iff.1 ((St.in_iff.1 (HI1.out.stay hbq)).2.2.2.2.2.2.2.2 _ (List.getElem_mem hilt))).2
                    have HZc : Hid (ssz s.cases[i].body ≤ k) := by
                      have h1 := csz_mem (List.getElem_mem hilt)
                      have h2 := (s.cases[i]).sz_eq
                      have h3 := s.sz_eq
                      have h4 := HZ.out
                      show ssz s.cases[i].body ≤ k
                      omega
                    generalize s.cases[i] = y at *
                    go_wp2_with fail
                    refine (IH.out y.body y.ba y.bc (left - p - 1) _ HZc.out HIc.out (by omega) (by omega)).mono ?_
                    have b4 := rSs_bd y.body (left - p - 1) 0
                    generalize rSs y.body (left - p - 1) 0 = q4 at b4 HD2 ⊢
                    rintro e w7 ⟨rfl, hb7⟩
                    have hb7' := hbq.trans (hb7.mono hbq.size)
                    clear hb7 c13 d0 d1
                    go_wp2_with fail
                    go_roundw
                    case rel =>
                      refine ⟨i + 1, p + (1 + q4), by omega, by go_num, by go_num, by omega, by omega, ?_, hb7'⟩
                      rw [← HPC.out, HD2.out]
                    case measure => simp [intOf]; omega
                  · rw [if_neg hpl] at HD2
                    have hpe : rCs s.cases left n4 = p := by rw [← HPC.out, HD2.out]
                    have c12 := CX.out _ hbq 12 _ rfl
                    go_wp2_with fail
                    refine (IH.out s.els s.ea s.ec (left - p) _ (by have := s.sz_eq; have := HZ.out; omega) (St.in_iff.1 (HI1.out.stay hbq)).2.2.2.2.2.2.1 (by omega) (by omega)).mono ?_
                    have b5 := rSs_bd s.els (left - p) 0
                    have EQ2 : Hid (rS s left m = p + rSs s.els (left - p) 0) := by show _ = _; rw [EQ.out, hpe]; rfl
                    generalize rSs s.els (left - p) 0 = q5 at b5 EQ2 ⊢
                    rintro e w8 ⟨rfl, hb8⟩
                    have hb8' := hb1.trans ((hbq.trans (hb8.mono hbq.size)).mono hb1.size)
                    clear hb8 c12 c13 hpe
                    go_wp2_with fail
                    go_roundw
                    case rel =>
                      refine ⟨j + 1, p + q5, by omega, by go_num, by go_num, by omega, by omega, ?_, hb8'⟩
                      rw [← HC.out, HD.out, EQ2.out]
                    case measure => simp [intOf]; omega
                · obtain rfl : i = s.cases.length := by omega
                  have hpe : rCs s.cases left n4 = p := by rw [← HPC.out, List.drop_eq_nil_of_le (Nat.le_refl _), rCs]
                  have c12 := CX.out _ hbq 12 _ rfl
                  go_wp2_with fail
                  refine (IH.out s.els s.ea s.ec (left - p) _ (by have := s.sz_eq; have := HZ.out; omega) (St.in_iff.1 (HI1.out.stay hbq)).2.2.2.2.2.2.1 (by omega) (by omega)).mono ?_
                  have b5 := rSs_bd s.els (left - p) 0
                  have EQ2 : Hid (rS s left m = p + rSs s.els (left - p) 0) := by show _ = _; rw [EQ.out, hpe]; rfl
                  generalize rSs s.els (left - p) 0 = q5 at b5 EQ2 ⊢
                  rintro e w8 ⟨rfl, hb8⟩
                  have hb8' := hb1.trans ((hbq.trans (hb8.mono hbq.size)).mono hb1.size)
                  clear hb8 c12 c13 hpe
                  go_wp2_with fail
                  go_roundw
                  case rel =>
                    refine ⟨j + 1, p + q5, by omega, by go_num, by go_num, by omega, by omega, ?_, hb8'⟩
                    rw [← HC.out, HD.out, EQ2.out]
                  case measure => simp [intOf]; omega
          · cases hzb : zeroE s.b
            · have EQ : Hid (rS s left m = rB s.els left (rCs s.cases left ((m + 1) + (1 + rL s.b.args (left - (m + 1) - 1) 0) + rSs s.body (left - ((m + 1) + (1 + rL s.b.args (left - (m + 1) - 1) 0))) 0))) := by
                show _ = _; rw [rS_eq, rZ_t hza, rZ_f hzb]; rfl
              rw [hza] at HZA
              rw [hzb] at HZB
              go_wp2_with fail
              obtain ⟨W1, hW1⟩ : ∃ W1, wr.alloc (.cells #[.int .i64 s.kind, .string s.name, .int .i64 s.n, .int .i64 s.a.kind, .int .i64 s.a.n, .string s.a.name, .slice s.a.a s.a.args.length s.a.cap, .int .i64 s.b.kind, .int .i64 s.b.n, .string s.b.name, .slice s.b.a s.b.args.length s.b.cap, .slice s.ba s.body.length s.bc, .slice s.ea s.els.length s.ec, .slice s.ca s.cases.length s.cc] 46) = W1 := ⟨_, rfl⟩
              have BX : Hid (∀ (j : Nat) v, s.cells[j]? = some v → W1.cell? ⟨wr.heap.size, j, none⟩ = some v) := by
                show ∀ (j : Nat) v, _; intro j v h
                rw [← hW1, World.cell?_alloc_at _ _ _ _ rfl]; simpa [St.cells] using h
              have hb1 : Below w.heap.size w W1 := by rw [← hW1]; exact hb.alloc hws _
              have hbr : Below wr.heap.size wr W1 := by rw [← hW1]; exact (Below.refl _ wr).alloc (Nat.le_refl _) _
              have hs1 : wr.heap.size < W1.heap.size := by rw [← hW1]; simp
              rw [hW1]
              clear hW1 c0 c1 c2 c3 c4 c5 c6 c7 c8 c9 c10 c11 c12 c13
              have HI1 : Hid (s.In W1) := HI.out.stay hbr
              obtain ⟨Z, hZ⟩ : ∃ Z, wr.heap.size = Z := ⟨_, rfl⟩
              rw [hZ] at BX hs1 ⊢
              have CX : Hid (∀ w', Below W1.heap.size W1 w' → ∀ (j : Nat) v, s.cells[j]? = some v → w'.cell? ⟨Z, j, none⟩ = some v) := fun w' h j v e => (h.cell (p := ⟨Z, j, none⟩) hs1).trans (BX.out j v e)
              clear hbr hZ hb hws
              refine (HZA.out W1).mono ?_
              rintro e w2 ⟨rfl, hb2⟩
              have c7 := CX.out _ hb2 7 _ rfl
              have c8 := CX.out _ hb2 8 _ rfl
              have c9 := CX.out _ hb2 9 _ rfl
              have c10 := CX.out _ hb2 10 _ rfl
              go_wp2_with fail
              refine (HZB.out _).mono ?_
              rintro e w4 ⟨rfl, hb4⟩
              have hb4' := hb2.trans (hb4.mono hb2.size)
              clear hb2 hb4 c7 c8 c9 c10
              have c10 := CX.out _ hb4' 10 _ rfl
              go_wp2_with fail
              refine (rexprs_any s.b.args s.b.a s.b.cap (left - (m + 1) - 1) _ ((St.in_iff.1 (HI1.out.stay hb4')).2.2.2.2.1.have) (by omega) (by omega)).mono ?_
              have b2 := rL_bd s.b.args (left - (m + 1) - 1) 0
              generalize rL s.b.args (left - (m + 1) - 1) 0 = q2 at b2 EQ ⊢
              rintro e w5 ⟨rfl, hb5⟩
              have hb5' := hb4'.trans (hb5.mono hb4'.size)
              clear hb4' hb5 c10
              have c11 := CX.out _ hb5' 11 _ rfl
              go_wp2_with fail
              refine (IH.out s.body s.ba s.bc (left - ((m + 1) + (1 + q2))) _ (by have := s.sz_eq; have := HZ.out; omega) (St.in_iff.1 (HI1.out.stay hb5')).2.2.2.2.2.1 (by omega) (by omega)).mono ?_
              have b3 := rSs_bd s.body (left - ((m + 1) + (1 + q2))) 0
              generalize rSs s.body (left - ((m + 1) + (1 + q2))) 0 = q3 at b3 EQ ⊢
              rintro e w6 ⟨rfl, hb6⟩
              have hb6' := hb5'.trans (hb6.mono hb5'.size)
              clear hb5' hb6 c11
              obtain ⟨n4, hn4⟩ : ∃ n4, (m + 1) + (1 + q2) + q3 = n4 := ⟨_, rfl⟩
              have hn4b : 0 ≤ n4 ∧ n4 ≤ left + 3 := by omega
              rw [hn4] at EQ
              have HN4 := show Hid _ from hn4
              clear hn4
              go_wp2_with fail
              go_loopw [5, 8] (fun t5 t8 wq => ∃ (i : Nat) (p : Int), i ≤ s.cases.length ∧ t5 = .int .i64 p ∧ t8 = .int .i64 i ∧ 0 ≤ p ∧ p ≤ left + 3 ∧ rCs (s.cases.drop i) left p = rCs s.cases left n4 ∧ Below W1.heap.size W1 wq) (fun _ t8 _ => s.cases.length - (intOf t8).toNat)
              case atStart => exact ⟨0, n4, Nat.zero_le _, by have := HN4.out; go_num, rfl, hn4b.1, hn4b.2, by simp, hb6'⟩
              case round =>
                obtain ⟨i, p, hi, rfl, rfl, hp0, hp1, hpc, hbq⟩ := hrel
                have HPC : Hid (rCs (s.cases.drop i) left p = rCs s.cases left n4) := hpc
                clear hpc
                obtain ⟨hcl, hcc, _, hcr⟩ := (St.in_iff.1 (HI1.out.stay hbq)).2.2.2.2.2.2.2.1
                have HCR : Hid (RowIn wr s.ca 2 (s.cases.map Ca.cells)) := hcr
                clear hcr
                have c13 := CX.out _ hbq 13 _ rfl
                by_cases hilt : i < s.cases.length
                · have hili : (i : Int) < (s.cases.length : Int) := by omega
                  have HD2 : Hid (rCs (s.cases.drop i) left p = if p ≤ left then rCs (s.cases.drop (i + 1)) left (p + (1 + rC s.cases[i] (left - p - 1))) else p) := rCs_drop hilt
                  by_cases hpl : p ≤ left
                  · obtain ⟨b', o', hca, d0, d1⟩ := rowC_at HCR.out hilt
                    rw [hca] at c13
                    clear hca
                    rw [if_pos hpl, rC_eq] at HD2
                    have HIc : Hid (Have wr s.cases[i].ba s.cases[i].bc s.cases[i].body) := (Ca.in_iff.1 ((St.in_iff.1 (HI1.out.stay hbq)).2.2.2.2.2.2.2.2 _ (List.getElem_mem hilt))).2
                    have HZc : Hid (ssz s.cases[i].body ≤ k) := by
                      have h1 := csz_mem (List.getElem_mem hilt)
                      have h2 := (s.cases[i]).sz_eq
                      have h3 := s.sz_eq
                      have h4 := HZ.out
                      show ssz s.cases[i].body ≤ k
                      omega
                    generalize s.cases[i] = y at *
                    go_wp2_with fail
                    refine (IH.out y.body y.ba y.bc (left - p - 1) _ HZc.out HIc.out (by omega) (by omega)).mono ?_
                    have b4 := rSs_bd y.body (left - p - 1) 0
                    generalize rSs y.body (left - p - 1) 0 = q4 at b4 HD2 ⊢
                    rintro e w7 ⟨rfl, hb7⟩
                    have hb7' := hbq.trans (hb7.mono hbq.size)
                    clear hb7 c13 d0 d1
                    go_wp2_with fail
                    go_roundw
                    case rel =>
                      refine ⟨i + 1, p + (1 + q4), by omega, by go_num, by go_num, by omega, by omega, ?_, hb7'⟩
                      rw [← HPC.out, HD2.out]
                    case measure => simp [intOf]; omega
                  · rw [if_neg hpl] at HD2
                    have hpe : rCs s.cases left n4 = p := by rw [← HPC.out, HD2.out]
                    have c12 := CX.out _ hbq 12 _ rfl
                    go_wp2_with fail
                    refine (IH.out s.els s.ea s.ec (left - p) _ (by have := s.sz_eq; have := HZ.out; omega) (St.in_iff.1 (HI1.out.stay hbq)).2.2.2.2.2.2.1 (by omega) (by omega)).mono ?_
                    have b5 := rSs_bd s.els (left - p) 0
                    have EQ2 : Hid (rS s left m = p + rSs s.els (left - p) 0) := by show _ = _; rw [EQ.out, hpe]; rfl
                    generalize rSs s.els (left - p) 0 = q5 at b5 EQ2 ⊢
                    rintro e w8 ⟨rfl, hb8⟩
                    have hb8' := hb1.trans ((hbq.trans (hb8.mono hbq.size)).mono hb1.size)
                    clear hb8 c12 c13 hpe
                    go_wp2_with fail
                    go_roundw
                    case rel =>
                      refine ⟨j + 1, p + q5, by omega, by go_num, by go_num, by omega, by omega, ?_, hb8'⟩
                      rw [← HC.out, HD.out, EQ2.out]
                    case measure => simp [intOf]; omega
                · obtain rfl : i = s.cases.length := by omega
                  have hpe : rCs s.cases left n4 = p := by rw [← HPC.out, List.drop_eq_nil_of_le (Nat.le_refl _), rCs]
                  have c12 := CX.out _ hbq 12 _ rfl
                  go_wp2_with fail
                  refine (IH.out s.els s.ea s.ec (left - p) _ (by have := s.sz_eq; have := HZ.out; omega) (St.in_iff.1 (HI1.out.stay hbq)).2.2.2.2.2.2.1 (by omega) (by omega)).mono ?_
                  have b5 := rSs_bd s.els (left - p) 0
                  have EQ2 : Hid (rS s left m = p + rSs s.els (left - p) 0) := by show _ = _; rw [EQ.out, hpe]; rfl
                  generalize rSs s.els (left - p) 0 = q5 at b5 EQ2 ⊢
                  rintro e w8 ⟨rfl, hb8⟩
                  have hb8' := hb1.trans ((hbq.trans (hb8.mono hbq.size)).mono hb1.size)
                  clear hb8 c12 c13 hpe
                  go_wp2_with fail
                  go_roundw
                  case rel =>
                    refine ⟨j + 1, p + q5, by omega, by go_num, by go_num, by omega, by omega, ?_, hb8'⟩
                    rw [← HC.out, HD.out, EQ2.out]
                  case measure => simp [intOf]; omega
            · have EQ : Hid (rS s left m = rB s.els left (rCs s.cases left (m + 1 + rSs s.body (left - (m + 1)) 0))) := by
                show _ = _; rw [rS_eq, rZ_t hza, rZ_t hzb]; rfl
              rw [hza] at HZA
              rw [hzb] at HZB
              go_wp2_with fail
              obtain ⟨W1, hW1⟩ : ∃ W1, wr.alloc (.cells #[.int .i64 s.kind, .string s.name, .int .i64 s.n, .int .i64 s.a.kind, .int .i64 s.a.n, .string s.a.name, .slice s.a.a s.a.args.length s.a.cap, .int .i64 s.b.kind, .int .i64 s.b.n, .string s.b.name, .slice s.b.a s.b.args.length s.b.cap, .slice s.ba s.body.length s.bc, .slice s.ea s.els.length s.ec, .slice s.ca s.cases.length s.cc] 46) = W1 := ⟨_, rfl⟩
              have BX : Hid (∀ (j : Nat) v, s.cells[j]? = some v → W1.cell? ⟨wr.heap.size, j, none⟩ = some v) := by
                show ∀ (j : Nat) v, _; intro j v h
                rw [← hW1, World.cell?_alloc_at _ _ _ _ rfl]; simpa [St.cells] using h
              have hb1 : Below w.heap.size w W1 := by rw [← hW1]; exact hb.alloc hws _
              have hbr : Below wr.heap.size wr W1 := by rw [← hW1]; exact (Below.refl _ wr).alloc (Nat.le_refl _) _
              have hs1 : wr.heap.size < W1.heap.size := by rw [← hW1]; simp
              rw [hW1]
              clear hW1 c0 c1 c2 c3 c4 c5 c6 c7 c8 c9 c10 c11 c12 c13
              have HI1 : Hid (s.In W1) := HI.out.stay hbr
              obtain ⟨Z, hZ⟩ : ∃ Z, wr.heap.size = Z := ⟨_, rfl⟩
              rw [hZ] at BX hs1 ⊢
              have CX : Hid (∀ w', Below W1.heap.size W1 w' → ∀ (j : Nat) v, s.cells[j]? = some v → w'.cell? ⟨Z, j, none⟩ = some v) := fun w' h j v e => (h.cell (p := ⟨Z, j, none⟩) hs1).trans (BX.out j v e)
              clear hbr hZ hb hws
              refine (HZA.out W1).mono ?_
              rintro e w2 ⟨rfl, hb2⟩
              have c7 := CX.out _ hb2 7 _ rfl
              have c8 := CX.out _ hb2 8 _ rfl
              have c9 := CX.out _ hb2 9 _ rfl
              have c10 := CX.out _ hb2 10 _ rfl
              go_wp2_with fail
              refine (HZB.out _).mono ?_
              rintro e w4 ⟨rfl, hb4⟩
              have hb4' := hb2.trans (hb4.mono hb2.size)
              clear hb2 hb4 c7 c8 c9 c10
              have c11 := CX.out _ hb4' 11 _ rfl
              go_wp2_with fail
              refine (IH.out s.body s.ba s.bc (left - (m + 1)) _ (by have := s.sz_eq; have := HZ.out; omega) (St.in_iff.1 (HI1.out.stay hb4')).2.2.2.2.2.1 (by omega) (by omega)).mono ?_
              have b3 := rSs_bd s.body (left - (m + 1)) 0
              generalize rSs s.body (left - (m + 1)) 0 = q3 at b3 EQ ⊢
              rintro e w6 ⟨rfl, hb6⟩
              have hb6' := hb4'.trans (hb6.mono hb4'.size)
              clear hb4' hb6 c11
              obtain ⟨n4, hn4⟩ : ∃ n4, m + 1 + q3 = n4 := ⟨_, rfl⟩
              have hn4b : 0 ≤ n4 ∧ n4 ≤ left + 3 := by omega
              rw [hn4] at EQ
              have HN4 := show Hid _ from hn4
              clear hn4
              go_wp2_with fail
              go_loopw [5, 8] (fun t5 t8 wq => ∃ (i : Nat) (p : Int), i ≤ s.cases.length ∧ t5 = .int .i64 p ∧ t8 = .int .i64 i ∧ 0 ≤ p ∧ p ≤ left + 3 ∧ rCs (s.cases.drop i) left p = rCs s.cases left n4 ∧ Below W1.heap.size W1 wq) (fun _ t8 _ => s.cases.length - (intOf t8).toNat)
              case atStart => exact ⟨0, n4, Nat.zero_le _, by have := HN4.out; go_num, rfl, hn4b.1, hn4b.2, by simp, hb6'⟩
              case round =>
                obtain ⟨i, p, hi, rfl, rfl, hp0, hp1, hpc, hbq⟩ := hrel
                have HPC : Hid (rCs (s.cases.drop i) left p = rCs s.cases left n4) := hpc
                clear hpc
                obtain ⟨hcl, hcc, _, hcr⟩ := (St.in_iff.1 (HI1.out.stay hbq)).2.2.2.2.2.2.2.1
                have HCR : Hid (RowIn wr s.ca 2 (s.cases.map Ca.cells)) := hcr
                clear hcr
                have c13 := CX.out _ hbq 13 _ rfl
                by_cases hilt : i < s.cases.length
                · have hili : (i : Int) < (s.cases.length : Int) := by omega
                  have HD2 : Hid (rCs (s.cases.drop i) left p = if p ≤ left then rCs (s.cases.drop (i + 1)) left (p + (1 + rC s.cases[i] (left - p - 1))) else p) := rCs_drop hilt
                  by_cases hpl : p ≤ left
                  · obtain ⟨b', o', hca, d0, d1⟩ := rowC_at HCR.out hilt
                    rw [hca] at c13
                    clear hca
                    rw [if_pos hpl, rC_eq] at HD2
                    have HIc : Hid (Have wr s.cases[i].ba s.cases[i].bc s.cases[i].body) := (Ca.in_iff.1 ((St.in_iff.1 (HI1.out.stay hbq)).2.2.2.2.2.2.2.2 _ (List.getElem_mem hilt))).2
                    have HZc : Hid (ssz s.cases[i].body ≤ k) := by
                      have h1 := csz_mem (List.getElem_mem hilt)
                      have h2 := (s.cases[i]).sz_eq
                      have h3 := s.sz_eq
                      have h4 := HZ.out
                      show ssz s.cases[i].body ≤ k
                      omega
                    generalize s.cases[i] = y at *
                    go_wp2_with fail
                    refine (IH.out y.body y.ba y.bc (left - p - 1) _ HZc.out HIc.out (by omega) (by omega)).mono ?_
                    have b4 := rSs_bd y.body (left - p - 1) 0
                    generalize rSs y.body (left - p - 1) 0 = q4 at b4 HD2 ⊢
                    rintro e w7 ⟨rfl, hb7⟩
                    have hb7' := hbq.trans (hb7.mono hbq.size)
                    clear hb7 c13 d0 d1
                    go_wp2_with fail
                    go_roundw
                    case rel =>
                      refine ⟨i + 1, p + (1 + q4), by omega, by go_num, by go_num, by omega, by omega, ?_, hb7'⟩
                      rw [← HPC.out, HD2.out]
                    case measure => simp [intOf]; omega
                  · rw [if_neg hpl] at HD2
                    have hpe : rCs s.cases left n4 = p := by rw [← HPC.out, HD2.out]
                    have c12 := CX.out _ hbq 12 _ rfl
                    go_wp2_with fail
                    refine (IH.out s.els s.ea s.ec (left - p) _ (by have := s.sz_eq; have := HZ.out; omega) (St.in_iff.1 (HI1.out.stay hbq)).2.2.2.2.2.2.1 (by omega) (by omega)).mono ?_
                    have b5 := rSs_bd s.els (left - p) 0
                    have EQ2 : Hid (rS s left m = p + rSs s.els (left - p) 0) := by show _ = _; rw [EQ.out, hpe]; rfl
                    generalize rSs s.els (left - p) 0 = q5 at b5 EQ2 ⊢
                    rintro e w8 ⟨rfl, hb8⟩
                    have hb8' := hb1.trans ((hbq.trans (hb8.mono hbq.size)).mono hb1.size)
                    clear hb8 c12 c13 hpe
                    go_wp2_with fail
                    go_roundw
                    case rel =>
                      refine ⟨j + 1, p + q5, by omega, by go_num, by go_num, by omega, by omega, ?_, hb8'⟩
                      rw [← HC.out, HD.out, EQ2.out]
                    case measure => simp [intOf]; omega
                · obtain rfl : i = s.cases.length := by omega
                  have hpe : rCs s.cases left n4 = p := by rw [← HPC.out, List.drop_eq_nil_of_le (Nat.le_refl _), rCs]
                  have c12 := CX.out _ hbq 12 _ rfl
                  go_wp2_with fail
                  refine (IH.out s.els s.ea s.ec (left - p) _ (by have := s.sz_eq; have := HZ.out; omega) (St.in_iff.1 (HI1.out.stay hbq)).2.2.2.2.2.2.1 (by omega) (by omega)).mono ?_
                  have b5 := rSs_bd s.els (left - p) 0
                  have EQ2 : Hid (rS s left m = p + rSs s.els (left - p) 0) := by show _ = _; rw [EQ.out, hpe]; rfl
                  generalize rSs s.els (left - p) 0 = q5 at b5 EQ2 ⊢
                  rintro e w8 ⟨rfl, hb8⟩
                  have hb8' := hb1.trans ((hbq.trans (hb8.mono hbq.size)).mono hb1.size)
                  clear hb8 c12 c13 hpe
                  go_wp2_with fail
                  go_roundw
                  case rel =>
                    refine ⟨j + 1, p + q5, by omega, by go_num, by go_num, by omega, by omega, ?_, hb8'⟩
                    rw [← HC.out, HD.out, EQ2.out]
                  case measure => simp [intOf]; omega
        · rw [if_neg hm] at HD
          go_wp2_with fail
          go_ret
          exact ⟨ret_int (by rw [← HC.out, HD.out]), hb⟩
      · obtain rfl : j = l.length := by omega
        go_wp2_with fail
        go_ret
        exact ⟨ret_int (by rw [← HC.out, List.drop_eq_nil_of_le (Nat.le_refl _), rSs]), hb⟩
theorem rstmts_any (l : List St) (a : Option Addr) (c : Nat) (left : Int) (w : World) (hin : Have w a c l) (h0 : -8 ≤ left) (h1 : left ≤ 4611686018427387904) :
    Calls Tryd.prog 17 #[.slice a l.length c, .int .i64 left] w fun e w' => e = .returned (.int .i64 (rSs l left 0)) ∧ Below w.heap.size w w' := rstmts_k _ l a c left w (Nat.le_refl _) hin h0 h1
end Go.Proofs.YtbpemackmadhgaaDoor

/- The document's own count of a program's parts: what it answers. -/
namespace Go.Proofs.YtbpemackmadhgaaDoor
open Go.RowKit

def rF : List Fu → Int → Int | [], n => n | f :: r, n => if n ≤ 4096 then rF r (n + rSs f.body (4096 - n) 0) else n
theorem rF_drop {l : List Fu} {j : Nat} {n : Int} (h : j < l.length) : rF (l.drop j) n = if n ≤ 4096 then rF (l.drop (j + 1)) (n + rSs l[j].body (4096 - n) 0) else n := by
  rw [List.drop_eq_getElem_cons h, rF]
/-- How many parts a program has, as the document's own answer counts them. -/
def rnodesZ (p : Pr) : Int := if 4096 < rF p.funcs 0 then 4097 else rF p.funcs 0

set_option maxRecDepth 100000 in
set_option maxHeartbeats 4000000 in
theorem rnodes_any (p : Pr) (w : World) (hin : p.In w) : Calls Tryd.prog 9 #[p.val] w fun e w' => e = .returned (.int .i64 (rnodesZ p)) ∧ Below w.heap.size w w' := by
  obtain ⟨h1, h2, h3, h4, h5, h6, h7, h8, hrow, hsub⟩ := hin
  have HR : Hid (RowIn w p.fa 3 (List.map Fu.cells p.funcs)) := hrow
  have HS : Hid (∀ f ∈ p.funcs, f.In w) := hsub
  clear hrow hsub h1 h2 h3 h4 h5 h8
  have hZ : rnodesZ p = if 4096 < rF p.funcs 0 then 4097 else rF p.funcs 0 := rfl
  have HZ := show Hid _ from hZ
  clear hZ
  generalize rnodesZ p = res at HZ ⊢
  unfold Pr.val
  obtain ⟨W1, hW1⟩ : ∃ W1, w.alloc (.cells #[.slice p.wa p.widen.length p.wc, .slice p.fa p.funcs.length p.fc] 26) = W1 := ⟨_, rfl⟩
  have HW1 := show Hid _ from hW1
  have hb1 : Below w.heap.size w W1 := by rw [← hW1]; exact (Below.refl _ w).alloc (Nat.le_refl _) _
  have CX : Hid (∀ w', Below W1.heap.size W1 w' → w'.cell? ⟨w.heap.size, 1, none⟩ = some (.slice p.fa p.funcs.length p.fc)) := fun w' h => by
    refine (h.cell (p := ⟨w.heap.size, 1, none⟩) (by rw [← hW1]; simp)).trans ?_
    rw [← hW1, World.cell?_alloc_at _ _ _ _ rfl]; rfl
  clear hW1
  go_enter Tryd.func9, Tryd.ntmps9
  go_wp2_with fail
  rw [HW1.out]
  clear HW1
  obtain ⟨Z, hZ⟩ : ∃ Z, w.heap.size = Z := ⟨_, rfl⟩
  have HW : Hid (w.heap.size = Z) := hZ
  rw [hZ] at CX ⊢
  clear hZ
  go_loopw [3, 4] (fun t3 t4 wr => ∃ (j : Nat) (m : Int), j ≤ p.funcs.length ∧ t3 = .int .i64 m ∧ t4 = .int .i64 j ∧ 0 ≤ m ∧ m ≤ 4099 ∧ rF (p.funcs.drop j) m = rF p.funcs 0 ∧ Below W1.heap.size W1 wr) (fun _ t4 _ => p.funcs.length - (intOf t4).toNat)
  case atStart => exact ⟨0, 0, Nat.zero_le _, rfl, rfl, by omega, by omega, by simp, Below.refl _ _⟩
  case round =>
    obtain ⟨j, m, hj, rfl, rfl, hm0, hm1, hcnt, hb⟩ := hrel
    have HC : Hid (rF (p.funcs.drop j) m = rF p.funcs 0) := hcnt
    clear hcnt
    have hws := hb.size
    have hbw : Below w.heap.size w wr := hb1.trans (hb.mono hb1.size)
    have c1 := CX.out _ hb
    by_cases hlt : j < p.funcs.length
    · have hli : (j : Int) < (p.funcs.length : Int) := by omega
      have HD : Hid (rF (p.funcs.drop j) m = if m ≤ 4096 then rF (p.funcs.drop (j + 1)) (m + rSs p.funcs[j].body (4096 - m) 0) else m) := rF_drop hlt
      by_cases hm : m ≤ 4096
      · obtain ⟨b, o, hfa, d0, d1, d2⟩ := rowF_at (HR.out.below hbw) hlt
        rw [hfa] at c1
        clear hfa
        have HH : Hid (Have wr p.funcs[j].ba p.funcs[j].bc p.funcs[j].body) := (HS.out p.funcs[j] (List.getElem_mem hlt)).2.2.2.2.2.2.stay hbw
        rw [if_pos hm] at HD
        have hbd := rSs_bd p.funcs[j].body (4096 - m) 0
        generalize p.funcs[j] = f at *
        go_wp2_with fail
        refine (rstmts_any f.body f.ba f.bc (4096 - m) _ HH.out (by omega) (by omega)).mono ?_
        generalize rSs f.body (4096 - m) 0 = q at hbd HD ⊢
        rintro e w' ⟨rfl, hb'⟩
        have hb2 := hb.trans (hb'.mono hws)
        clear c1 d0 d1 d2
        go_wp2_with fail
        go_roundw
        case rel =>
          refine ⟨j + 1, m + q, by omega, by go_num, by go_num, by omega, by omega, ?_, hb2⟩
          rw [← HC.out, HD.out]
        case measure => simp [intOf]; omega
      · rw [if_neg hm] at HD
        have he : res = 4097 := by rw [HZ.out, ← HC.out, HD.out, if_pos (by omega)]
        clear HZ
        subst he
        go_wp2_with fail
        go_ret
        exact ⟨rfl, hbw⟩
    · obtain rfl : j = p.funcs.length := by omega
      have he : rF p.funcs 0 = m := by rw [← HC.out, List.drop_eq_nil_of_le (Nat.le_refl _), rF]
      rw [he] at HZ
      clear he HC
      by_cases hm : m ≤ 4096
      · have he : res = m := by rw [HZ.out, if_neg (by omega)]
        clear HZ
        subst he
        go_wp2_with fail
        go_ret
        exact ⟨rfl, hbw⟩
      · have he : res = 4097 := by rw [HZ.out, if_pos (by omega)]
        clear HZ
        subst he
        go_wp2_with fail
        go_ret
        exact ⟨rfl, hbw⟩
end Go.Proofs.YtbpemackmadhgaaDoor

/- Both counts are the same. -/
namespace Go.Proofs.YtbpemackmadhgaaDoor
open Go.RowKit

/-- r is n and N, if that is within the limit, else past it. -/
def PP (lim n N r : Int) : Prop := n ≤ r ∧ (n + N ≤ lim → r = n + N) ∧ (lim < n + N → lim < r)
theorem PP.comp {lim n A r B s : Int} (h : PP lim n A r) (h' : PP lim r B s) (hB : 0 ≤ B) : PP lim n (A + B) s := by
  unfold PP at *; omega
theorem PP.of {lim n N N' r : Int} (h : PP lim n N r) (e : N = N') : PP lim n N' r := by subst e; exact h
theorem PP.past {lim n N : Int} (h : lim < n) (_ : 0 ≤ N) : PP lim n N n := by unfold PP; omega
theorem PP.nil (lim n : Int) : PP lim n 0 n := by unfold PP; omega
theorem PP.plus (lim n : Int) (A : Int) (h : 0 ≤ A) : PP lim n A (n + A) := by unfold PP; omega
theorem PP.under {lim n A q : Int} (h : PP (lim - n) 0 A q) : PP lim n A (n + q) := by unfold PP at *; omega
theorem PP.under1 {lim n A q : Int} (h : PP (lim - n - 1) 0 A q) : PP lim n (A + 1) (n + (1 + q)) := by unfold PP at *; omega

theorem pe (k : Nat) : (∀ (x : Ex) (n : Int), x.sz ≤ k → PP 4096 n x.sz (cntE x n)) ∧ (∀ (l : List Ex) (n : Int), szL l ≤ k → PP 4096 n (szL l) (cntL l n)) := by
  induction k with
  | zero =>
    refine ⟨fun x n hk => by have := x.sz_args; omega, fun l n hk => ?_⟩
    cases l with
    | nil => simp only [cntL, szL]; exact PP.nil _ _
    | cons x r => rw [szL] at hk; have := x.sz_args; omega
  | succ k ih =>
    have h1 : ∀ (x : Ex) (n : Int), x.sz ≤ k + 1 → PP 4096 n x.sz (cntE x n) := fun x n hk => by
      have e := x.sz_args
      rw [cntE_args]
      exact ((PP.plus 4096 n 1 (by omega)).comp (ih.2 x.args (n + 1) (by omega)) (by omega)).of (by omega)
    refine ⟨h1, fun l => ?_⟩
    induction l with
    | nil => intro n _; simp only [cntL, szL]; exact PP.nil _ _
    | cons x r ihr =>
      intro n hk
      rw [szL] at hk
      rw [cntL]
      split
      · exact PP.past (by assumption) (by omega)
      · exact ((h1 x n (by omega)).comp (ihr (cntE x n) (by omega)) (by omega)).of (by rw [szL]; omega)
theorem pe' (k : Nat) : (∀ (x : Ex) (left n : Int), x.sz ≤ k → PP left n x.sz (n + (1 + rE x (left - n - 1)))) ∧ (∀ (l : List Ex) (left n : Int), szL l ≤ k → PP left n (szL l) (rL l left n)) := by
  induction k with
  | zero =>
    refine ⟨fun x left n hk => by have := x.sz_args; omega, fun l left n hk => ?_⟩
    cases l with
    | nil => simp only [rL, szL]; exact PP.nil _ _
    | cons x r => rw [szL] at hk; have := x.sz_args; omega
  | succ k ih =>
    have h1 : ∀ (x : Ex) (left n : Int), x.sz ≤ k + 1 → PP left n x.sz (n + (1 + rE x (left - n - 1))) := fun x left n hk => by
      have e := x.sz_args
      rw [rE_args]
      exact (PP.under1 (ih.2 x.args (left - n - 1) 0 (by omega))).of (by omega)
    refine ⟨h1, fun l => ?_⟩
    induction l with
    | nil => intro left n _; simp only [rL, szL]; exact PP.nil _ _
    | cons x r ihr =>
      intro left n hk
      rw [szL] at hk
      rw [rL]
      split
      · exact ((h1 x left n (by omega)).comp (ihr left _ (by omega)) (by omega)).of (by rw [szL]; omega)
      · exact PP.past (by omega) (by omega)

def tZ (x : Ex) : Int := if zeroE x then 0 else x.sz
theorem tZ_ge (x : Ex) : 0 ≤ tZ x := by unfold tZ; split <;> omega
theorem pz (x : Ex) (n : Int) : PP 4096 n (tZ x) (cntZ x n) := by
  unfold tZ cntZ; split
  · exact PP.nil _ _
  · exact (pe _).1 x n (Nat.le_refl _)
theorem pz' (x : Ex) (left n : Int) : PP left n (tZ x) (rZ x left n) := by
  unfold tZ rZ; split
  · exact PP.nil _ _
  · rw [← rE_args]; exact (pe' _).1 x left n (Nat.le_refl _)
mutual
def tS : St → Int
  | .mk _ _ _ a b _ _ l _ _ e _ _ c => 1 + (tZ a + (tZ b + (tSs l + (tCs c + tSs e))))
def tSs : List St → Int | [] => 0 | s :: r => tS s + tSs r
def tC : Ca → Int | .mk _ _ _ l => tSs l + 1
def tCs : List Ca → Int | [] => 0 | c :: r => tC c + tCs r
end
theorem tS_eq (s : St) : tS s = 1 + (tZ s.a + (tZ s.b + (tSs s.body + (tCs s.cases + tSs s.els)))) := by cases s; simp only [tS, St.a, St.b, St.body, St.cases, St.els]
theorem tC_eq (c : Ca) : tC c = tSs c.body + 1 := by cases c; simp only [tC, Ca.body]
theorem t_ge (k : Nat) : (∀ s : St, s.sz ≤ k → 0 ≤ tS s) ∧ (∀ l : List St, ssz l ≤ k → 0 ≤ tSs l) ∧ (∀ l : List Ca, csz l ≤ k → (l.length : Int) ≤ tCs l) := by
  induction k with
  | zero =>
    refine ⟨fun s hk => by have := s.sz_eq; omega, fun l hk => ?_, fun l hk => ?_⟩
    · cases l with
      | nil => simp [tSs]
      | cons x r => rw [ssz] at hk; have := x.sz_eq; omega
    · cases l with
      | nil => simp [tCs]
      | cons x r => rw [csz] at hk; have := x.sz_eq; omega
  | succ k ih =>
    have h1 : ∀ s : St, s.sz ≤ k + 1 → 0 ≤ tS s := fun s hk => by
      have e := s.sz_eq
      rw [tS_eq]
      have := tZ_ge s.a
      have := tZ_ge s.b
      have := ih.2.1 s.body (by omega)
      have := ih.2.1 s.els (by omega)
      have := ih.2.2 s.cases (by omega)
      omega
    refine ⟨h1, fun l => ?_, fun l => ?_⟩
    · induction l with
      | nil => simp [tSs]
      | cons x r ihr =>
        intro hk
        rw [ssz] at hk
        rw [tSs]
        have := h1 x (by omega)
        have := ihr (by omega)
        omega
    · induction l with
      | nil => simp [tCs]
      | cons x r ihr =>
        intro hk
        rw [csz] at hk
        rw [tCs, tC_eq]
        have := x.sz_eq
        have := ih.2.1 x.body (by omega)
        have := ihr (by omega)
        simp only [List.length_cons]
        omega
theorem tSs_ge (l : List St) : 0 ≤ tSs l := (t_ge _).2.1 l (Nat.le_refl _)
theorem tS_ge (s : St) : 0 ≤ tS s := (t_ge _).1 s (Nat.le_refl _)
theorem tCs_ge (l : List Ca) : (l.length : Int) ≤ tCs l := (t_ge _).2.2 l (Nat.le_refl _)

theorem cntS_eq' (s : St) (n : Int) : cntS s n = cntSs s.els (cntCs s.cases (cntSs s.body (cntZ s.b (cntZ s.a (n + (1 + (s.cases.length : Int))))))) := by
  cases s; simp only [cntS, St.els, St.cases, St.body, St.a, St.b]
theorem ps (k : Nat) : (∀ (s : St) (n : Int), s.sz ≤ k → PP 4096 n (tS s) (cntS s n)) ∧ (∀ (l : List St) (n : Int), ssz l ≤ k → PP 4096 n (tSs l) (cntSs l n)) := by
  induction k with
  | zero =>
    refine ⟨fun s n hk => by have := s.sz_eq; omega, fun l n hk => ?_⟩
    cases l with
    | nil => simp only [cntSs, tSs]; exact PP.nil _ _
    | cons x r => rw [ssz] at hk; have := x.sz_eq; omega
  | succ k ih =>
    have hC : ∀ (l : List Ca) (n : Int), csz l ≤ k → PP 4096 n (tCs l - (l.length : Int)) (cntCs l n) := fun l => by
      induction l with
      | nil => intro n _; simp only [cntCs, tCs]; exact (PP.nil _ _).of (by simp)
      | cons c r ihr =>
        intro n hk
        rw [csz] at hk
        rw [cntCs, cntC_eq]
        have := c.sz_eq
        have := tCs_ge r
        exact ((ih.2 c.body n (by omega)).comp (ihr _ (by omega)) (by omega)).of (by rw [tCs, tC_eq]; simp only [List.length_cons]; omega)
    have h1 : ∀ (s : St) (n : Int), s.sz ≤ k + 1 → PP 4096 n (tS s) (cntS s n) := fun s n hk => by
      have e := s.sz_eq
      have a1 := tZ_ge s.a
      have a2 := tZ_ge s.b
      have a3 := tSs_ge s.body
      have a4 := tSs_ge s.els
      have a5 := tCs_ge s.cases
      rw [cntS_eq']
      exact ((((((PP.plus 4096 n (1 + (s.cases.length : Int)) (by omega)).comp (pz s.a _) a1).comp (pz s.b _) a2).comp (ih.2 s.body _ (by omega)) a3).comp (hC s.cases _ (by omega)) (by omega)).comp (ih.2 s.els _ (by omega)) a4).of (by rw [tS_eq]; omega)
    refine ⟨h1, fun l => ?_⟩
    induction l with
    | nil => intro n _; simp only [cntSs, tSs]; exact PP.nil _ _
    | cons x r ihr =>
      intro n hk
      rw [ssz] at hk
      have := tSs_ge r
      have := tS_ge x
      rw [cntSs]
      split
      · exact PP.past (by assumption) (by rw [tSs]; omega)
      · exact ((h1 x n (by omega)).comp (ihr _ (by omega)) (by omega)).of (by rw [tSs])
theorem ps' (k : Nat) : (∀ (s : St) (left n : Int), s.sz ≤ k → PP left n (tS s) (rS s left n)) ∧ (∀ (l : List St) (left n : Int), ssz l ≤ k → PP left n (tSs l) (rSs l left n)) := by
  induction k with
  | zero =>
    refine ⟨fun s left n hk => by have := s.sz_eq; omega, fun l left n hk => ?_⟩
    cases l with
    | nil => simp only [rSs, tSs]; exact PP.nil _ _
    | cons x r => rw [ssz] at hk; have := x.sz_eq; omega
  | succ k ih =>
    have hC : ∀ (l : List Ca) (left n : Int), csz l ≤ k → PP left n (tCs l) (rCs l left n) := fun l => by
      induction l with
      | nil => intro left n _; simp only [rCs, tCs]; exact PP.nil _ _
      | cons c r ihr =>
        intro left n hk
        rw [csz] at hk
        have := c.sz_eq
        have := tCs_ge r
        have := tSs_ge c.body
        rw [rCs]
        split
        · rw [rC_eq]
          exact ((PP.under1 (ih.2 c.body (left - n - 1) 0 (by omega))).comp (ihr left _ (by omega)) (by omega)).of (by rw [tCs, tC_eq])
        · exact PP.past (by omega) (by rw [tCs, tC_eq]; omega)
    have hB : ∀ (l : List St) (left n : Int), ssz l ≤ k → PP left n (tSs l) (rB l left n) := fun l left n hk => PP.under (ih.2 l (left - n) 0 hk)
    have h1 : ∀ (s : St) (left n : Int), s.sz ≤ k + 1 → PP left n (tS s) (rS s left n) := fun s left n hk => by
      have e := s.sz_eq
      have a1 := tZ_ge s.a
      have a2 := tZ_ge s.b
      have a3 := tSs_ge s.body
      have a4 := tSs_ge s.els
      have a5 := tCs_ge s.cases
      rw [rS_eq]
      exact ((((((PP.plus left n 1 (by omega)).comp (pz' s.a left _) a1).comp (pz' s.b left _) a2).comp (hB s.body left _ (by omega)) a3).comp (hC s.cases left _ (by omega)) (by omega)).comp (hB s.els left _ (by omega)) a4).of (by rw [tS_eq]; omega)
    refine ⟨h1, fun l => ?_⟩
    induction l with
    | nil => intro left n _; simp only [rSs, tSs]; exact PP.nil _ _
    | cons x r ihr =>
      intro left n hk
      rw [ssz] at hk
      have := tSs_ge r
      have := tS_ge x
      rw [rSs]
      split
      · exact ((h1 x left n (by omega)).comp (ihr left _ (by omega)) (by omega)).of (by rw [tSs])
      · exact PP.past (by omega) (by rw [tSs]; omega)

def tF : List Fu → Int | [] => 0 | f :: r => tSs f.body + tF r
theorem tF_ge : ∀ l : List Fu, 0 ≤ tF l
  | [] => by simp [tF]
  | f :: r => by rw [tF]; have := tSs_ge f.body; have := tF_ge r; omega
theorem pf : ∀ (l : List Fu) (n : Int), PP 4096 n (tF l) (cntF l n)
  | [], n => by rw [tF, cntF]; exact PP.nil _ _
  | f :: r, n => by
    rw [tF, cntF]
    exact ((ps _).2 f.body n (Nat.le_refl _)).comp (pf r _) (tF_ge r)
theorem pf' : ∀ (l : List Fu) (n : Int), PP 4096 n (tF l) (rF l n)
  | [], n => by rw [tF, rF]; exact PP.nil _ _
  | f :: r, n => by
    rw [tF, rF]
    have := tSs_ge f.body
    have := tF_ge r
    split
    · exact (PP.under ((ps' _).2 f.body (4096 - n) 0 (Nat.le_refl _))).comp (pf' r _) (tF_ge r)
    · exact PP.past (by omega) (by omega)
theorem nodes_same (p : Pr) : nodesZ p = rnodesZ p := by
  have h1 := pf p.funcs 0
  have h2 := pf' p.funcs 0
  have h3 := tF_ge p.funcs
  unfold nodesZ rnodesZ
  unfold PP at h1 h2
  split <;> omega
end Go.Proofs.YtbpemackmadhgaaDoor

/- What is written of each element: thresholds, parameters. -/
namespace Go.Proofs.YtbpemackmadhgaaDoor
open Go.RowKit Go.Sort

/-- A slice of strings that a call has made. -/
def Strs (w : World) (v : Value) (xs : List ByteArray) : Prop := ∃ a cap, v = .slice a xs.length cap ∧ xs.length ≤ cap ∧ (xs ≠ [] → ∃ g, a = some ⟨g, 0, none⟩ ∧ g < w.heap.size ∧ ∀ (j : Nat) x, xs[j]? = some x → w.cell? ⟨g, j, none⟩ = some (.string x))
theorem strs_own {w : World} {B : Nat} {v : Value} {xs : List ByteArray} (h : w.ownsRow B 9 1 v xs.length (xs.map Value.string)) : Strs w v xs := by
  rcases h.2 with ⟨rfl, h0⟩ | ⟨g, cap, cur, rfl, _, hg, hcap, _⟩
  · refine ⟨none, 0, by rw [h0], by omega, fun hne => absurd (List.eq_nil_of_length_eq_zero h0) hne⟩
  · refine ⟨some ⟨g, 0, none⟩, cap, rfl, hcap, fun _ => ⟨g, rfl, (Array.getElem?_eq_some_iff.1 hg).1, fun j x hj => ?_⟩⟩
    have := h.cells (g := g) rfl j (.string x) (by simp [hj])
    rwa [Addr.add_lit, Nat.zero_add] at this
theorem Tryd.infoStr : (Tryd.prog.info? 9).map (fun i => (i.zero, i.size, i.bytes)) = some (some (.string ⟨#[]⟩), 1, 16) := by kernel_rfl
theorem owns_slice {W : World} {base : Nat} {e : TypeId} {v : Value} {n : Nat} {xs : List Value} (h : W.ownsRow base e 1 v n xs) : ∃ a cap, v = .slice a n cap := by
  rcases h.2 with ⟨rfl, rfl⟩ | ⟨g, cap, _, h, _⟩
  · exact ⟨none, 0, rfl⟩
  · exact ⟨_, cap, h⟩
theorem map_take {α : Type} (f : α → ByteArray) (l : List α) (j : Nat) (h : j < l.length) : ((l.take (j + 1)).map f).map Value.string = ((l.take j).map f).map Value.string ++ [.string (f l[j])] := by
  rw [List.take_add_one, List.getElem?_eq_getElem h, Option.toList_some, List.map_append, List.map_append]; rfl

theorem owns_stay {w w' : World} {B : Nat} {e : TypeId} {v : Value} {n : Nat} {xs : List Value} (h : w.ownsRow B e 1 v n xs) (hb : Below w.heap.size w w') : w'.ownsRow B e 1 v n xs := by
  refine ⟨h.1, ?_⟩
  rcases h.2 with h0 | ⟨g, cap, cur, e, hg1, hg, r⟩
  · exact .inl h0
  · exact .inr ⟨g, cap, cur, e, hg1, (hb.block g (Array.getElem?_eq_some_iff.1 hg).1).trans hg, r⟩

set_option maxRecDepth 100000 in
set_option maxHeartbeats 4000000 in
theorem eachint64_any (l : List Int) (a : Option Addr) (c : Nat) (w : World) (hm : l.length ≤ 1000000) (hrow : RowIn w a 1 (l.map fun z => [.int .i64 z]))
    (hf : ∀ x ∈ l, ∀ w', Below w.heap.size w w' → Calls Tryd.prog 39 #[.int .i64 x] w' fun e w'' => e = .returned (sB (Lib.itoa x)) ∧ Below w'.heap.size w' w'') :
    Calls Tryd.prog 38 #[.slice a l.length c, .func (.func 39) #[] #[]] w fun e w' => ∃ v, e = .returned v ∧ Strs w' v (l.map fun x => ⟨(Lib.itoa x).toArray⟩) ∧ Below w.heap.size w w' := by
  obtain ⟨i0, hi, hz0, hz1, hz2⟩ := info_parts Tryd.infoStr
  have HI : Hid (Tryd.prog.info? 9 = some i0) := hi
  have HR : Hid (RowIn w a 1 (l.map fun z => [.int .i64 z])) := hrow
  have HF : Hid (∀ x ∈ l, ∀ w', Below w.heap.size w w' → Calls Tryd.prog 39 #[.int .i64 x] w' fun e w'' => e = .returned (sB (Lib.itoa x)) ∧ Below w'.heap.size w' w'') := hf
  clear hrow hf hi
  go_enter Tryd.func38, Tryd.ntmps38
  go_wp2_with fail
  go_loopw [5, 10] (fun t5 t10 wr => ∃ (j : Nat), j ≤ l.length ∧ t10 = .int .i64 j ∧ wr.ownsRow w.heap.size 9 1 t5 j (((l.take j).map fun x => (⟨(Lib.itoa x).toArray⟩ : ByteArray)).map Value.string) ∧ Below w.heap.size w wr) (fun _ t10 _ => l.length - (intOf t10).toNat)
  case atStart => exact ⟨0, Nat.zero_le _, rfl, World.ownsRow_nil _ _ _ _, Below.refl _ w⟩
  case round =>
    obtain ⟨j, hj, rfl, hown, hb⟩ := hrel
    obtain ⟨va, vc, rfl⟩ := owns_slice hown
    have HO : Hid (wr.ownsRow w.heap.size 9 1 (.slice va j vc) j (((l.take j).map fun x => (⟨(Lib.itoa x).toArray⟩ : ByteArray)).map Value.string)) := hown
    clear hown
    have hws := hb.size
    by_cases hlt : j < l.length
    · obtain ⟨b, o, rfl, c0⟩ := rowW_at (HR.out.below hb) hlt
      have hli : (j : Int) < (l.length : Int) := by omega
      have HT := map_take (fun x => (⟨(Lib.itoa x).toArray⟩ : ByteArray)) l j hlt
      have HM : Hid (l[j] ∈ l) := List.getElem_mem hlt
      have HT' : Hid (((l.take (j + 1)).map fun x => (⟨(Lib.itoa x).toArray⟩ : ByteArray)).map Value.string = ((l.take j).map fun x => (⟨(Lib.itoa x).toArray⟩ : ByteArray)).map Value.string ++ [.string ⟨(Lib.itoa l[j]).toArray⟩]) := HT
      clear HT
      generalize l[j] = x at *
      generalize ((l.take j).map fun x => (⟨(Lib.itoa x).toArray⟩ : ByteArray)).map Value.string = pre at HO HT'
      have hb1 : Below w.heap.size w _ := hb
      have hs1 := hb1.size
      go_wp2_with fail
      refine (HF.out x HM.out _ hb1).mono ?_
      rintro e w1 ⟨rfl, hbf⟩
      have hb2 : Below w.heap.size w w1 := hb1.trans (hbf.mono hs1)
      have hs2 := hb2.size
      have HO1 : Hid (w1.ownsRow w.heap.size 9 1 (.slice va j vc) j pre) := owns_stay HO.out hbf
      clear c0 hbf
      go_wp2_with (at_builtin; refine wpList_append_own _ rfl _ _ 79 rfl w.heap.size 9 i0 (.string ⟨#[]⟩) 1 16 Tryd.underlying79 HI.out hz0 hz1 hz2 rfl (by decide) _ _ _ rfl (HO1.out.alloc _) ⟨w1.heap.size, 0, none⟩ 1 1 [sB (Lib.itoa x)] rfl rfl (new_cell _ _ _) ?c2 ?c3 ?c4 ?c5 ?_)
      case c2 => intro u hu; simp at hu; subst hu; rfl
      case c3 => unfold maxLen; omega
      case c4 => omega
      case c5 => simp; omega
      intro v' w2 hown' hgrow _
      obtain ⟨g', cap', rfl⟩ := owns_succ hown'
      have HO' : Hid (w2.ownsRow w.heap.size 9 1 (.slice (some ⟨g', 0, none⟩) (j + 1) cap') (j + 1) (pre ++ [sB (Lib.itoa x)])) := hown'
      clear hown'
      go_wp2_with fail
      go_roundw
      case rel =>
        refine ⟨j + 1, by omega, by go_num, ?_, ?_⟩
        · rw [HT'.out]; exact HO'.out
        · exact (hb2.alloc hs2 _).grown hgrow (by simp; omega) (fun k hk => (HO1.out.lt k hk).1)
      case measure => simp [intOf]; omega
    · obtain rfl : j = l.length := by omega
      go_wp2_with fail
      go_ret
      refine ⟨_, rfl, strs_own (B := w.heap.size) ?_, hb⟩
      have := HO.out
      rw [List.take_length] at this
      simpa using this

set_option maxRecDepth 100000 in
set_option maxHeartbeats 4000000 in
theorem eachParam_any (l : List Pa) (a : Option Addr) (c : Nat) (w : World) (hm : l.length ≤ 1000000) (hrow : RowIn w a 3 (l.map Pa.cells))
    (hf : ∀ x ∈ l, ∀ w', Below w.heap.size w w' → Calls Tryd.prog 41 #[x.val] w' fun e w'' => e = .returned (sB (paB x)) ∧ Below w'.heap.size w' w'') :
    Calls Tryd.prog 40 #[.slice a l.length c, .func (.func 41) #[] #[]] w fun e w' => ∃ v, e = .returned v ∧ Strs w' v (l.map fun x => ⟨(paB x).toArray⟩) ∧ Below w.heap.size w w' := by
  obtain ⟨i0, hi, hz0, hz1, hz2⟩ := info_parts Tryd.infoStr
  have HI : Hid (Tryd.prog.info? 9 = some i0) := hi
  have HR : Hid (RowIn w a 3 (l.map Pa.cells)) := hrow
  have HF : Hid (∀ x ∈ l, ∀ w', Below w.heap.size w w' → Calls Tryd.prog 41 #[x.val] w' fun e w'' => e = .returned (sB (paB x)) ∧ Below w'.heap.size w' w'') := hf
  clear hrow hf hi
  go_enter Tryd.func40, Tryd.ntmps40
  go_wp2_with fail
  go_loopw [5, 10] (fun t5 t10 wr => ∃ (j : Nat), j ≤ l.length ∧ t10 = .int .i64 j ∧ wr.ownsRow w.heap.size 9 1 t5 j (((l.take j).map fun x => (⟨(paB x).toArray⟩ : ByteArray)).map Value.string) ∧ Below w.heap.size w wr) (fun _ t10 _ => l.length - (intOf t10).toNat)
  case atStart => exact ⟨0, Nat.zero_le _, rfl, World.ownsRow_nil _ _ _ _, Below.refl _ w⟩
  case round =>
    obtain ⟨j, hj, rfl, hown, hb⟩ := hrel
    obtain ⟨va, vc, rfl⟩ := owns_slice hown
    have HO : Hid (wr.ownsRow w.heap.size 9 1 (.slice va j vc) j (((l.take j).map fun x => (⟨(paB x).toArray⟩ : ByteArray)).map Value.string)) := hown
    clear hown
    have hws := hb.size
    by_cases hlt : j < l.length
    · obtain ⟨b, o, rfl, c0, c1, c2⟩ := rowP_at (HR.out.below hb) hlt
      have hli : (j : Int) < (l.length : Int) := by omega
      have HT := map_take (fun x => (⟨(paB x).toArray⟩ : ByteArray)) l j hlt
      have HM : Hid (l[j] ∈ l) := List.getElem_mem hlt
      have HT' : Hid (((l.take (j + 1)).map fun x => (⟨(paB x).toArray⟩ : ByteArray)).map Value.string = ((l.take j).map fun x => (⟨(paB x).toArray⟩ : ByteArray)).map Value.string ++ [.string ⟨(paB l[j]).toArray⟩]) := HT
      clear HT
      generalize l[j] = x at *
      generalize ((l.take j).map fun x => (⟨(paB x).toArray⟩ : ByteArray)).map Value.string = pre at HO HT'
      have hb1 : Below w.heap.size w _ := (hb.alloc hws (.cells #[.string x.name, .int .i64 x.lo, .int .i64 x.hi] 41))
      have hs1 := hb1.size
      go_wp2_with fail
      refine (HF.out x HM.out _ hb1).mono ?_
      rintro e w1 ⟨rfl, hbf⟩
      have hb2 : Below w.heap.size w w1 := hb1.trans (hbf.mono hs1)
      have hs2 := hb2.size
      have HO1 : Hid (w1.ownsRow w.heap.size 9 1 (.slice va j vc) j pre) := owns_stay (HO.out.alloc _) hbf
      clear c0 c1 c2 hbf
      go_wp2_with (at_builtin; refine wpList_append_own _ rfl _ _ 79 rfl w.heap.size 9 i0 (.string ⟨#[]⟩) 1 16 Tryd.underlying79 HI.out hz0 hz1 hz2 rfl (by decide) _ _ _ rfl (HO1.out.alloc _) ⟨w1.heap.size, 0, none⟩ 1 1 [sB (paB x)] rfl rfl (new_cell _ _ _) ?c2 ?c3 ?c4 ?c5 ?_)
      case c2 => intro u hu; simp at hu; subst hu; rfl
      case c3 => unfold maxLen; omega
      case c4 => omega
      case c5 => simp; omega
      intro v' w2 hown' hgrow _
      obtain ⟨g', cap', rfl⟩ := owns_succ hown'
      have HO' : Hid (w2.ownsRow w.heap.size 9 1 (.slice (some ⟨g', 0, none⟩) (j + 1) cap') (j + 1) (pre ++ [sB (paB x)])) := hown'
      clear hown'
      go_wp2_with fail
      go_roundw
      case rel =>
        refine ⟨j + 1, by omega, by go_num, ?_, ?_⟩
        · rw [HT'.out]; exact HO'.out
        · exact (hb2.alloc hs2 _).grown hgrow (by simp; omega) (fun k hk => (HO1.out.lt k hk).1)
      case measure => simp [intOf]; omega
    · obtain rfl : j = l.length := by omega
      go_wp2_with fail
      go_ret
      refine ⟨_, rfl, strs_own (B := w.heap.size) ?_, hb⟩
      have := HO.out
      rw [List.take_length] at this
      simpa using this
end Go.Proofs.YtbpemackmadhgaaDoor

/- An expression's text. -/
namespace Go.Proofs.YtbpemackmadhgaaDoor
open Go.RowKit

def rkE (k : Int) : Int := (formE k.toNat).rank
def sgE (k : Int) : List UInt8 := (formE k.toNat).sign.data.toList
/-- A text that must have a rank. -/
def wiB (r least : Int) (t : List UInt8) : List UInt8 := if r < least then [40] ++ t ++ [41] else t
/-- An expression's text, of its fields, its arguments' kinds and their texts. -/
def txOf (k n : Int) (s : ByteArray) (ks : List Int) (ts : List (List UInt8)) : List UInt8 :=
  if k = 1 then Lib.itoa n
  else if k = 2 then s.data.toList
  else if k = 3 then s.data.toList ++ [91] ++ ts.getD 0 [] ++ [93]
  else if k = 4 then s.data.toList ++ [40] ++ comB ts ++ [41]
  else if k = 5 ∨ k = 6 then sgE k ++ wiB (rkE (ks.getD 0 0)) (rkE k) (ts.getD 0 [])
  else if k = 20 then wiB (rkE (ks.getD 0 0)) (rkE k + 1) (ts.getD 0 []) ++ [32, 63, 32] ++ ts.getD 1 [] ++ [32, 58, 32] ++ ts.getD 2 []
  else wiB (rkE (ks.getD 0 0)) (rkE k) (ts.getD 0 []) ++ [32] ++ sgE k ++ [32] ++ wiB (rkE (ks.getD 1 0)) (rkE k + 1) (ts.getD 1 [])
mutual
def txE : Ex → List UInt8
  | .mk k n s _ _ l => txOf k n s (l.map Ex.kind) (txL l)
def txL : List Ex → List (List UInt8)
  | [] => []
  | x :: r => txE x :: txL r
end
theorem txL_map (l : List Ex) : txL l = l.map txE := by
  induction l with
  | nil => simp [txL]
  | cons x r ih => simp [txL, ih]
theorem txE_eq (x : Ex) : txE x = txOf x.kind x.n x.name (x.args.map Ex.kind) (x.args.map txE) := by
  cases x; simp only [txE, Ex.kind, Ex.n, Ex.name, Ex.args, txL_map]

/-- An expression that has a form. -/
def OkE (x : Ex) : Prop := ∃ lv, chkE x lv = 0
theorem chkL_mem {l : List Ex} {lv : Int} (h : chkL l lv = 0) : ∀ y ∈ l, chkE y lv = 0 := by
  induction l with
  | nil => intro y hy; cases hy
  | cons x r ih =>
    rw [chkL] at h
    by_cases hx : chkE x lv ≠ 0
    · rw [if_pos hx] at h; exact absurd h hx
    · rw [if_neg hx] at h
      intro y hy
      rcases List.mem_cons.1 hy with rfl | hy
      · simpa using hx
      · exact ih h y hy
theorem OkE.parts {x : Ex} (h : OkE x) : selfE x = 0 ∧ ∀ y ∈ x.args, OkE y := by
  obtain ⟨lv, h⟩ := h
  rw [chkE_eq] at h
  by_cases h1 : 32 < lv
  · rw [if_pos h1] at h; omega
  · rw [if_neg h1] at h
    by_cases h2 : selfE x ≠ 0
    · rw [if_pos h2] at h; exact absurd h h2
    · rw [if_neg h2] at h
      exact ⟨by simpa using h2, fun y hy => ⟨_, chkL_mem h y hy⟩⟩
theorem nameZ_len {s : ByteArray} (h : nameZ s = true) : s.size ≤ 16 := by
  unfold nameZ nameB at h
  rw [← ba_len]
  split at h
  · cases h
  · rename_i c r hl
    simp only [Bool.and_eq_true, decide_eq_true_eq] at h
    exact h.1.1.1
/-- What the tests on its own fields tell. -/
theorem selfE_zero {x : Ex} (h : selfE x = 0) : ∃ kn : Nat, x.kind = kn ∧ 1 ≤ kn ∧ kn ≤ 20 ∧ ((formE kn).args ≠ -1 → (x.args.length : Int) = (formE kn).args) ∧ (bits .and .i64 (formE kn).fields 1 ≠ 0 → nameZ x.name = true) ∧ 0 ≤ x.n := by
  unfold selfE at h
  split at h
  · omega
  rename_i h1
  split at h
  · omega
  split at h
  · omega
  rename_i h3
  split at h
  · omega
  rename_i h4
  split at h
  · omega
  rename_i h5
  have hk : isE x.kind = true := by simpa using h1
  simp only [isE, Bool.and_eq_true, decide_eq_true_eq] at hk
  refine ⟨x.kind.toNat, by omega, by omega, by omega, fun hne => ?_, fun hne => ?_, by omega⟩
  · simp only [Bool.and_eq_true, bne_iff_ne, not_and, Decidable.not_not] at h3
    exact h3 hne
  · simp only [Bool.and_eq_true, bne_iff_ne, Bool.not_eq_true', not_and, Bool.not_eq_false] at h4
    exact h4 hne
theorem comB_len (ts : List (List UInt8)) : (comB ts).length ≤ (ts.map fun t => t.length + 2).sum := by
  induction ts with
  | nil => simp [comB]
  | cons x r ih =>
    cases r with
    | nil => simp [comB]
    | cons y r =>
      rw [comB]
      simp only [List.length_append, List.map_cons, List.sum_cons, List.length_cons, List.length_nil] at ih ⊢
      omega
theorem wiB_len (r least : Int) (t : List UInt8) : (wiB r least t).length ≤ t.length + 2 := by
  unfold wiB; split
  · simp
  · omega
theorem sgE_len (kn : Nat) (h : kn ≤ 20) : (sgE (kn : Int)).length ≤ 2 := by
  have : ∀ k, k < 21 → (formE k).sign.data.toList.length ≤ 2 := by decide
  unfold sgE; rw [Int.toNat_natCast]; exact this kn (by omega)
theorem szL_sum (l : List Ex) : szL l = (l.map Ex.sz).sum := by
  induction l with
  | nil => simp [szL]
  | cons x r ih => rw [szL, ih]; simp
theorem Ex.sz_pos (x : Ex) : 1 ≤ x.sz := by rw [x.sz_args]; omega
theorem args_two (k : Nat) (h : 7 ≤ k) (h' : k ≤ 20) (h2 : k ≠ 20) : (formE k).args = 2 := by
  have : ∀ k, k < 21 → k < 7 ∨ k = 20 ∨ (formE k).args = 2 := by decide
  rcases this k (by omega) with h | h | h
  · omega
  · omega
  · exact h
/-- A text is no longer than this. -/
theorem txE_len {w : World} (k : Nat) : ∀ x : Ex, x.sz ≤ k → x.In w → OkE x → (txE x).length + 4 ≤ 32 * x.sz := by
  induction k with
  | zero => intro x hk; have := x.sz_pos; omega
  | succ k ih =>
    intro x hk hin hok
    obtain ⟨hself, hargs⟩ := hok.parts
    obtain ⟨kn, hkn, hk1, hk2, hlen, hname, hn⟩ := selfE_zero hself
    obtain ⟨_, hI, _, _, _, _, _, hsub⟩ := Ex.in_iff.1 hin
    have hsz := x.sz_args
    have hsub' : ∀ y ∈ x.args, (txE y).length + 4 ≤ 32 * y.sz := fun y hy => ih y (by have := szL_mem hy; omega) (hsub y hy) (hargs y hy)
    have hnm : bits .and .i64 (formE kn).fields 1 ≠ 0 → x.name.data.toList.length ≤ 16 := fun h => by rw [ba_len]; exact nameZ_len (hname h)
    rw [txE_eq, txOf, hkn]
    by_cases e1 : (kn : Int) = 1
    · rw [if_pos e1]; have := Lib.itoa_length_le x.n hI.1 hI.2; omega
    rw [if_neg e1]
    by_cases e2 : (kn : Int) = 2
    · rw [if_pos e2]; obtain rfl : kn = 2 := by omega
      have := hnm (by decide); omega
    rw [if_neg e2]
    by_cases e3 : (kn : Int) = 3
    · rw [if_pos e3]; obtain rfl : kn = 3 := by omega
      have h16 := hnm (by decide)
      have hl := hlen (by decide)
      match hx : x.args, hl with
      | [y], _ =>
        have := hsub' y (by rw [hx]; simp)
        rw [hx, szL, szL] at hsz
        simp only [List.map_cons, List.map_nil, List.getD_cons_zero, List.length_append, List.length_cons, List.length_nil]; omega
      | [], hl => simp [formE] at hl
      | _ :: _ :: _, hl => simp [formE] at hl; omega
    rw [if_neg e3]
    by_cases e4 : (kn : Int) = 4
    · rw [if_pos e4]; obtain rfl : kn = 4 := by omega
      have h16 := hnm (by decide)
      have hc := comB_len (x.args.map txE)
      have hs : ((x.args.map txE).map fun t => t.length + 2).sum ≤ 32 * szL x.args := by
        have : ∀ l : List Ex, (∀ y ∈ l, (txE y).length + 4 ≤ 32 * y.sz) → ((l.map txE).map fun t => t.length + 2).sum ≤ 32 * szL l := by
          intro l
          induction l with
          | nil => intro _; simp
          | cons y r ihr =>
            intro h
            have a1 := h y (by simp)
            have a2 := ihr (fun z hz => h z (by simp [hz]))
            rw [szL]; simp only [List.map_cons, List.sum_cons]; omega
        exact this _ hsub'
      simp only [List.length_append, List.length_cons, List.length_nil]; omega
    rw [if_neg e4]
    by_cases e5 : (kn : Int) = 5 ∨ (kn : Int) = 6
    · rw [if_pos e5]
      have hl := hlen (by rcases e5 with h | h <;> (have h' : kn = _ := Int.ofNat_inj.1 h; rw [h']; decide))
      have hla : (formE kn).args = 1 := by rcases e5 with h | h <;> (have h' : kn = _ := Int.ofNat_inj.1 h; rw [h']; rfl)
      rw [hla] at hl
      match hx : x.args, hl with
      | [y], _ =>
        have := hsub' y (by rw [hx]; simp)
        have hw := wiB_len (rkE y.kind) (rkE kn) (txE y)
        have hg := sgE_len kn hk2
        rw [hx, szL, szL] at hsz
        simp only [List.map_cons, List.map_nil, List.getD_cons_zero, List.length_append]; omega
      | [], hl => simp at hl
      | _ :: _ :: _, hl => simp at hl; omega
    rw [if_neg e5]
    by_cases e6 : (kn : Int) = 20
    · rw [if_pos e6]; obtain rfl : kn = 20 := by omega
      have hl := hlen (by decide)
      match hx : x.args, hl with
      | [y, z, u], _ =>
        have a1 := hsub' y (by rw [hx]; simp)
        have a2 := hsub' z (by rw [hx]; simp)
        have a3 := hsub' u (by rw [hx]; simp)
        have hw := wiB_len (rkE y.kind) (rkE ((20 : Nat) : Int) + 1) (txE y)
        rw [hx, szL, szL, szL, szL] at hsz
        simp only [List.map_cons, List.map_nil, List.getD_cons_zero, List.getD_cons_succ, List.length_append, List.length_cons, List.length_nil]; omega
      | [], hl => simp [formE] at hl
      | [_], hl => simp [formE] at hl
      | [_, _], hl => simp [formE] at hl
      | _ :: _ :: _ :: _ :: _, hl => simp [formE] at hl; omega
    · rw [if_neg e6]
      have hla : (formE kn).args = 2 := by
        exact args_two kn (by omega) (by omega) (by omega)
      have hl := hlen (by rw [hla]; decide)
      rw [hla] at hl
      match hx : x.args, hl with
      | [y, z], _ =>
        have a1 := hsub' y (by rw [hx]; simp)
        have a2 := hsub' z (by rw [hx]; simp)
        have hw := wiB_len (rkE y.kind) (rkE kn) (txE y)
        have hw2 := wiB_len (rkE z.kind) (rkE kn + 1) (txE z)
        have hg := sgE_len kn hk2
        rw [hx, szL, szL, szL] at hsz
        simp only [List.map_cons, List.map_nil, List.getD_cons_zero, List.getD_cons_succ, List.length_append, List.length_cons, List.length_nil]; omega
      | [], hl => simp at hl
      | [_], hl => simp at hl
      | _ :: _ :: _ :: _, hl => simp at hl; omega
end Go.Proofs.YtbpemackmadhgaaDoor

/- within and expr: an expression's text. -/
namespace Go.Proofs.YtbpemackmadhgaaDoor
open Go.RowKit Go.Sort

set_option maxRecDepth 100000 in
set_option maxHeartbeats 4000000 in
theorem eachExpr_any (l : List Ex) (a : Option Addr) (c : Nat) (w : World) (hm : l.length ≤ 1000000) (hrow : RowIn w a 4 (l.map Ex.cells))
    (hf : ∀ x ∈ l, ∀ w', Below w.heap.size w w' → Calls Tryd.prog 68 #[x.val] w' fun e w'' => e = .returned (sB (txE x)) ∧ Below w'.heap.size w' w'') :
    Calls Tryd.prog 87 #[.slice a l.length c, .func (.func 68) #[] #[]] w fun e w' => ∃ v, e = .returned v ∧ Strs w' v (l.map fun x => ⟨(txE x).toArray⟩) ∧ Below w.heap.size w w' := by
  obtain ⟨i0, hi, hz0, hz1, hz2⟩ := info_parts Tryd.infoStr
  have HI : Hid (Tryd.prog.info? 9 = some i0) := hi
  have HR : Hid (RowIn w a 4 (l.map Ex.cells)) := hrow
  have HF : Hid (∀ x ∈ l, ∀ w', Below w.heap.size w w' → Calls Tryd.prog 68 #[x.val] w' fun e w'' => e = .returned (sB (txE x)) ∧ Below w'.heap.size w' w'') := hf
  clear hrow hf hi
  go_enter Tryd.func87, Tryd.ntmps87
  go_wp2_with fail
  go_loopw [5, 10] (fun t5 t10 wr => ∃ (j : Nat), j ≤ l.length ∧ t10 = .int .i64 j ∧ wr.ownsRow w.heap.size 9 1 t5 j (((l.take j).map fun x => (⟨(txE x).toArray⟩ : ByteArray)).map Value.string) ∧ Below w.heap.size w wr) (fun _ t10 _ => l.length - (intOf t10).toNat)
  case atStart => exact ⟨0, Nat.zero_le _, rfl, World.ownsRow_nil _ _ _ _, Below.refl _ w⟩
  case round =>
    obtain ⟨j, hj, rfl, hown, hb⟩ := hrel
    obtain ⟨va, vc, rfl⟩ := owns_slice hown
    have HO : Hid (wr.ownsRow w.heap.size 9 1 (.slice va j vc) j (((l.take j).map fun x => (⟨(txE x).toArray⟩ : ByteArray)).map Value.string)) := hown
    clear hown
    have hws := hb.size
    by_cases hlt : j < l.length
    · obtain ⟨b, o, rfl, c0, c1, c2, c3⟩ := row_at (HR.out.below hb) hlt
      have hli : (j : Int) < (l.length : Int) := by omega
      have HT := map_take (fun x => (⟨(txE x).toArray⟩ : ByteArray)) l j hlt
      have HM : Hid (l[j] ∈ l) := List.getElem_mem hlt
      have HT' : Hid (((l.take (j + 1)).map fun x => (⟨(txE x).toArray⟩ : ByteArray)).map Value.string = ((l.take j).map fun x => (⟨(txE x).toArray⟩ : ByteArray)).map Value.string ++ [.string ⟨(txE l[j]).toArray⟩]) := HT
      clear HT
      generalize l[j] = x at *
      generalize ((l.take j).map fun x => (⟨(txE x).toArray⟩ : ByteArray)).map Value.string = pre at HO HT'
      have hb1 : Below w.heap.size w _ := (hb.alloc hws (.cells #[.int .i64 x.kind, .int .i64 x.n, .string x.name, .slice x.a x.args.length x.cap] 39))
      have hs1 := hb1.size
      go_wp2_with fail
      refine (HF.out x HM.out _ hb1).mono ?_
      rintro e w1 ⟨rfl, hbf⟩
      have hb2 : Below w.heap.size w w1 := hb1.trans (hbf.mono hs1)
      have hs2 := hb2.size
      have HO1 : Hid (w1.ownsRow w.heap.size 9 1 (.slice va j vc) j pre) := owns_stay (HO.out.alloc _) hbf
      clear c0 c1 c2 c3 hbf
      go_wp2_with (at_builtin; refine wpList_append_own _ rfl _ _ 79 rfl w.heap.size 9 i0 (.string ⟨#[]⟩) 1 16 Tryd.underlying79 HI.out hz0 hz1 hz2 rfl (by decide) _ _ _ rfl (HO1.out.alloc _) ⟨w1.heap.size, 0, none⟩ 1 1 [sB (txE x)] rfl rfl (new_cell _ _ _) ?c2 ?c3 ?c4 ?c5 ?_)
      case c2 => intro u hu; simp at hu; subst hu; rfl
      case c3 => unfold maxLen; omega
      case c4 => omega
      case c5 => simp; omega
      intro v' w2 hown' hgrow _
      obtain ⟨g', cap', rfl⟩ := owns_succ hown'
      have HO' : Hid (w2.ownsRow w.heap.size 9 1 (.slice (some ⟨g', 0, none⟩) (j + 1) cap') (j + 1) (pre ++ [sB (txE x)])) := hown'
      clear hown'
      go_wp2_with fail
      go_roundw
      case rel =>
        refine ⟨j + 1, by omega, by go_num, ?_, ?_⟩
        · rw [HT'.out]; exact HO'.out
        · exact (hb2.alloc hs2 _).grown hgrow (by simp; omega) (fun k hk => (HO1.out.lt k hk).1)
      case measure => simp [intOf]; omega
    · obtain rfl : j = l.length := by omega
      go_wp2_with fail
      go_ret
      refine ⟨_, rfl, strs_own (B := w.heap.size) ?_, hb⟩
      have := HO.out
      rw [List.take_length] at this
      simpa using this

abbrev ExprOk (k : Nat) : Prop := ∀ (x : Ex) (w : World), x.sz ≤ k → x.In w → Tabs w → NumT w → OkE x → x.sz ≤ 1000000 → Calls Tryd.prog 68 #[x.val] w fun e w' => e = .returned (sB (txE x)) ∧ Below w.heap.size w w'

set_option maxRecDepth 100000 in
set_option maxHeartbeats 4000000 in
theorem within_step (k : Nat) (h1 : ExprOk k) (x : Ex) (least : Int) (w : World) (hk : x.sz ≤ k) (hin : x.In w) (ht : Tabs w) (hnt : NumT w) (hok : OkE x) (hsz : x.sz ≤ 1000000) :
    Calls Tryd.prog 88 #[x.val, .int .i64 least] w fun e w' => e = .returned (sB (wiB (rkE x.kind) least (txE x))) ∧ Below w.heap.size w w' := by
  have hlen := txE_len (w := w) _ x (Nat.le_refl _) hin hok
  obtain ⟨kn, hkn, hk1, hk2, _⟩ := selfE_zero hok.parts.1
  have HE : Hid (∀ w', Below w.heap.size w w' → Calls Tryd.prog 68 #[x.val] w' fun e w'' => e = .returned (sB (txE x)) ∧ Below w'.heap.size w' w'') := fun w' hb => h1 x w' hk (hin.stay hb) (ht.stay hb) (hnt.stay hb) hok hsz
  have t2 := (ht.2 kn (by omega)).2.2.1
  have h1w : 1 < w.heap.size := lt_of_cell t2
  have HR : Hid (rkE x.kind = (formE kn).rank) := by show _ = _; unfold rkE; rw [hkn, Int.toNat_natCast]
  rw [HR.out]
  clear h1 hin ht hnt hok HR
  generalize (formE kn).rank = rk at t2 ⊢
  generalize txE x = tx at HE hlen ⊢
  have hb0 := (Below.refl _ w).alloc (Nat.le_refl _) (.cells #[.int .i64 x.kind, .int .i64 x.n, .string x.name, .slice x.a x.args.length x.cap] 39)
  unfold Ex.val at HE ⊢
  rw [hkn] at HE hb0 ⊢
  by_cases hr : rk < least
  · have HW : Hid (wiB rk least tx = cat [⟨#[40]⟩, ⟨tx.toArray⟩, ⟨#[41]⟩]) := by show _ = _; simp [wiB, hr, cat]
    have HLEN : Hid ((cat [⟨#[40]⟩, ⟨tx.toArray⟩, ⟨#[41]⟩]).length ≤ 140737488355328) := by show _ ≤ _; simp [cat]; omega
    go_enter Tryd.func88, Tryd.ntmps88
    go_wp2_with fail
    refine (HE.out _ hb0).mono ?_
    rintro e w1 ⟨rfl, hb1⟩
    have hb2 := Below.on hb0 hb1
    go_wp2_with fail
    refine (join_new [⟨#[40]⟩, ⟨tx.toArray⟩, ⟨#[41]⟩] w1 (Nat.le_of_ble_eq_true rfl) HLEN.out).mono ?_
    rintro e w2 ⟨rfl, hb3⟩
    go_wp2_with fail
    go_ret
    exact ⟨ret_str HW.out.symm, Below.on (Below.one hb2 _) hb3⟩
  · have HW : Hid (wiB rk least tx = tx) := by show _ = _; simp [wiB, hr]
    go_enter Tryd.func88, Tryd.ntmps88
    go_wp2_with fail
    refine (HE.out _ hb0).mono ?_
    rintro e w1 ⟨rfl, hb1⟩
    go_wp2_with fail
    go_ret
    exact ⟨ret_str HW.out.symm, Below.on hb0 hb1⟩
end Go.Proofs.YtbpemackmadhgaaDoor
