/- Raw data read at the types of a program are a tree that lies in memory: expressions, statements, functions, programs. -/
import Derived.Test.YtbpemackmadhgabDoorPart2
import Derived.Test.YtbpemackmadhgabDoorPart1
import Derived.Laws.StructEq
import Derived.Lib.ItoaLen
import Derived.Lib.ItoaNum
namespace Go.Proofs.YtbpemackmadhgabDoor
open Go.ChangeShapes Go.WideShapes Go.RowKit
set_option maxRecDepth 100000

theorem cIntO : Tryd.prog.cellsOf 3 = 1 := by kernel_rfl
theorem cI64O : Tryd.prog.cellsOf 2 = 1 := by kernel_rfl
theorem cStrO : Tryd.prog.cellsOf 9 = 1 := by kernel_rfl
theorem cEx : Tryd.prog.cellsOf 48 = 4 := by kernel_rfl
theorem cSt : Tryd.prog.cellsOf 53 = 14 := by kernel_rfl
theorem cCa : Tryd.prog.cellsOf 59 = 2 := by kernel_rfl
theorem cPa : Tryd.prog.cellsOf 50 = 3 := by kernel_rfl
theorem cFu : Tryd.prog.cellsOf 36 = 3 := by kernel_rfl
theorem cPr : Tryd.prog.cellsOf 25 = 2 := by kernel_rfl
theorem cLe : Tryd.prog.cellsOf 46 = 1 := by kernel_rfl
theorem cLs : Tryd.prog.cellsOf 34 = 1 := by kernel_rfl
theorem cLc : Tryd.prog.cellsOf 51 = 1 := by kernel_rfl
theorem cLp : Tryd.prog.cellsOf 33 = 1 := by kernel_rfl
theorem cLf : Tryd.prog.cellsOf 23 = 1 := by kernel_rfl
theorem cLi : Tryd.prog.cellsOf 22 = 1 := by kernel_rfl
theorem bEx : Tryd.prog.bytesOf 48 = 56 := by kernel_rfl
theorem bSt : Tryd.prog.bytesOf 53 = 216 := by kernel_rfl
theorem bCa : Tryd.prog.bytesOf 59 = 32 := by kernel_rfl
theorem bPa : Tryd.prog.bytesOf 50 = 32 := by kernel_rfl
theorem bFu : Tryd.prog.bytesOf 36 = 64 := by kernel_rfl
theorem bI64 : Tryd.prog.bytesOf 2 = 8 := by kernel_rfl

instance : Inhabited Ex := ⟨.mk 0 0 ⟨#[]⟩ none 0 []⟩
instance : Inhabited St := ⟨.mk 0 ⟨#[]⟩ 0 default default none 0 [] none 0 [] none 0 []⟩
instance : Inhabited Ca := ⟨.mk 0 none 0 []⟩
instance : Inhabited Pa := ⟨⟨⟨#[]⟩, 0, 0⟩⟩
instance : Inhabited Fu := ⟨⟨⟨#[]⟩, none, 0, [], none, 0, []⟩⟩

theorem len2 : ∀ l : List Value, l.length = 2 → ∃ c0 c1, l = [c0, c1]
  | [c0, c1], _ => ⟨c0, c1, rfl⟩
theorem len3 : ∀ l : List Value, l.length = 3 → ∃ c0 c1 c2, l = [c0, c1, c2]
  | [c0, c1, c2], _ => ⟨c0, c1, c2, rfl⟩
theorem len4 : ∀ l : List Value, l.length = 4 → ∃ c0 c1 c2 c3, l = [c0, c1, c2, c3]
  | [c0, c1, c2, c3], _ => ⟨c0, c1, c2, c3, rfl⟩
theorem len14 : ∀ l : List Value, l.length = 14 → ∃ c0 c1 c2 c3 c4 c5 c6 c7 c8 c9 c10 c11 c12 c13, l = [c0, c1, c2, c3, c4, c5, c6, c7, c8, c9, c10, c11, c12, c13]
  | [c0, c1, c2, c3, c4, c5, c6, c7, c8, c9, c10, c11, c12, c13], _ => ⟨c0, c1, c2, c3, c4, c5, c6, c7, c8, c9, c10, c11, c12, c13, rfl⟩

section
variable {H : Type} {enc : TypeId × Value → H} {w : World} {held : Bool}

theorem open_i {t : TypeId} {n : Nat} {c : Value} {y : DataW H × List MemPlace} (ht : Tryd.prog.underlying t = some (.int .i64)) (h : DataW.trod enc Tryd.prog w 0 (fun _ => true) held n t [c] = some y) : ∃ z, c = .int .i64 z ∧ I64 z := by
  obtain ⟨z, e, _, hw⟩ := DataW.trod_int ht h
  exact ⟨z, by simpa using e, i64_of hw⟩
theorem open_s {t : TypeId} {n : Nat} {c : Value} {y : DataW H × List MemPlace} (ht : Tryd.prog.underlying t = some .string) (h : DataW.trod enc Tryd.prog w 0 (fun _ => true) held n t [c] = some y) (hs : Small Tryd.prog t y.1) : ∃ s : ByteArray, c = .string s ∧ s.size ≤ 140737488351232 := by
  obtain ⟨s, e, rfl, _⟩ := DataW.trod_string ht h
  refine ⟨s, by simpa using e, ?_⟩
  have := hs s.data.toList.length (by rw [DataW.weights]; exact List.mem_singleton.2 rfl)
  rw [Array.length_toList] at this
  exact this

theorem fld {fs : Array Field} {n : Nat} {cs : List Value} (hf : ∀ (i : Nat) (f : Field), fs[i]? = some f → ∃ y, DataW.trod enc Tryd.prog w 0 (fun _ => true) held n f.type ((cs.drop f.offset).take (Tryd.prog.cellsOf f.type)) = some y ∧ Small Tryd.prog f.type y.1)
    (i : Nat) {f : Field} (hi : fs[i]? = some f) {t : TypeId} {o k : Nat} {l : List Value} (ht : f.type = t) (ho : f.offset = o) (hk : Tryd.prog.cellsOf t = k) (e : (cs.drop o).take k = l) :
    ∃ y, DataW.trod enc Tryd.prog w 0 (fun _ => true) held n t l = some y ∧ Small Tryd.prog t y.1 := by
  have := hf i f hi
  rw [ht, ho, hk, e] at this
  exact this

theorem open_ex : ∀ (fuel : Nat) (cs : List Value) (x : DataW H × List MemPlace), DataW.trod enc Tryd.prog w 0 (fun _ => true) held fuel 48 cs = some x → Small Tryd.prog 48 x.1 → ∃ y : Ex, cs = y.cells ∧ y.In w := by
  intro fuel
  induction fuel using Nat.strongRecOn with
  | _ fuel ih =>
    intro cs x h hs
    obtain ⟨n, rfl, hl, hf⟩ := open_field Tryd.underlying48 h hs
    rw [cEx] at hl
    obtain ⟨c0, c1, c2, c3, rfl⟩ := len4 cs hl
    obtain ⟨y0, f0, s0⟩ := fld hf 0 rfl (t := 3) (o := 0) (l := [c0]) rfl rfl cIntO rfl
    obtain ⟨y1, f1, s1⟩ := fld hf 1 rfl (t := 2) (o := 1) (l := [c1]) rfl rfl cI64O rfl
    obtain ⟨y2, f2, s2⟩ := fld hf 2 rfl (t := 9) (o := 2) (l := [c2]) rfl rfl cStrO rfl
    obtain ⟨y3, f3, s3⟩ := fld hf 3 rfl (t := 46) (o := 3) (l := [c3]) rfl rfl cLe rfl
    obtain ⟨k, rfl, hk⟩ := open_i Tryd.underlying3 f0
    obtain ⟨m, rfl, hm⟩ := open_i Tryd.underlying2 f1
    obtain ⟨s, rfl, hsz⟩ := open_s Tryd.underlying9 f2 s2
    obtain ⟨a, c, l, e, h1, h2, h3, h4, h5⟩ := open_rows (In := fun y : Ex => y.In w) Tryd.underlying46 cEx (by decide) bEx (fun m cs y hm => ih m (by omega) cs y) f3 s3
    obtain rfl : c3 = .slice a l.length c := by simpa using e
    exact ⟨.mk k m s a c l, rfl, Ex.in_iff.2 ⟨hk, hm, hsz, h1, h2, h3, h4, h5⟩⟩

theorem open_st : ∀ (fuel : Nat), (∀ (cs : List Value) (x : DataW H × List MemPlace), DataW.trod enc Tryd.prog w 0 (fun _ => true) held fuel 53 cs = some x → Small Tryd.prog 53 x.1 → ∃ y : St, cs = y.cells ∧ y.In w) ∧
    (∀ (cs : List Value) (x : DataW H × List MemPlace), DataW.trod enc Tryd.prog w 0 (fun _ => true) held fuel 59 cs = some x → Small Tryd.prog 59 x.1 → ∃ y : Ca, cs = y.cells ∧ y.In w) := by
  intro fuel
  induction fuel using Nat.strongRecOn with
  | _ fuel ih =>
    refine ⟨fun cs x h hs => ?_, fun cs x h hs => ?_⟩
    · obtain ⟨n, rfl, hl, hf⟩ := open_field Tryd.underlying53 h hs
      rw [cSt] at hl
      obtain ⟨c0, c1, c2, c3, c4, c5, c6, c7, c8, c9, c10, c11, c12, c13, rfl⟩ := len14 cs hl
      obtain ⟨y0, f0, s0⟩ := fld hf 0 rfl (t := 3) (o := 0) (l := [c0]) rfl rfl cIntO rfl
      obtain ⟨y1, f1, s1⟩ := fld hf 1 rfl (t := 9) (o := 1) (l := [c1]) rfl rfl cStrO rfl
      obtain ⟨y2, f2, s2⟩ := fld hf 2 rfl (t := 2) (o := 2) (l := [c2]) rfl rfl cI64O rfl
      obtain ⟨y3, f3, s3⟩ := fld hf 3 rfl (t := 48) (o := 3) (l := [c3, c4, c5, c6]) rfl rfl cEx rfl
      obtain ⟨y4, f4, s4⟩ := fld hf 4 rfl (t := 48) (o := 7) (l := [c7, c8, c9, c10]) rfl rfl cEx rfl
      obtain ⟨y5, f5, s5⟩ := fld hf 5 rfl (t := 34) (o := 11) (l := [c11]) rfl rfl cLs rfl
      obtain ⟨y6, f6, s6⟩ := fld hf 6 rfl (t := 34) (o := 12) (l := [c12]) rfl rfl cLs rfl
      obtain ⟨y7, f7, s7⟩ := fld hf 7 rfl (t := 51) (o := 13) (l := [c13]) rfl rfl cLc rfl
      obtain ⟨k, rfl, hk⟩ := open_i Tryd.underlying3 f0
      obtain ⟨s, rfl, hsz⟩ := open_s Tryd.underlying9 f1 s1
      obtain ⟨m, rfl, hm⟩ := open_i Tryd.underlying2 f2
      obtain ⟨xa, ea, ha⟩ := open_ex _ _ _ f3 s3
      obtain ⟨xb, eb, hb⟩ := open_ex _ _ _ f4 s4
      simp only [Ex.cells, List.cons.injEq, and_true] at ea eb
      obtain ⟨rfl, rfl, rfl, rfl⟩ := ea
      obtain ⟨rfl, rfl, rfl, rfl⟩ := eb
      obtain ⟨a1, k1, l1, e1, p1, p2, p3, p4, p5⟩ := open_rows (In := fun y : St => y.In w) Tryd.underlying34 cSt (by decide) bSt (fun m cs y hm => (ih m (by omega)).1 cs y) f5 s5
      obtain ⟨a2, k2, l2, e2, q1, q2, q3, q4, q5⟩ := open_rows (In := fun y : St => y.In w) Tryd.underlying34 cSt (by decide) bSt (fun m cs y hm => (ih m (by omega)).1 cs y) f6 s6
      obtain ⟨a3, k3, l3, e3, r1, r2, r3, r4, r5⟩ := open_rows (In := fun y : Ca => y.In w) Tryd.underlying51 cCa (by decide) bCa (fun m cs y hm => (ih m (by omega)).2 cs y) f7 s7
      obtain rfl : c11 = .slice a1 l1.length k1 := by simpa using e1
      obtain rfl : c12 = .slice a2 l2.length k2 := by simpa using e2
      obtain rfl : c13 = .slice a3 l3.length k3 := by simpa using e3
      exact ⟨.mk k s m xa xb a1 k1 l1 a2 k2 l2 a3 k3 l3, rfl, St.in_iff.2 ⟨hk, hsz, hm, ha, hb, ⟨⟨p1, p2, p3, p4⟩, p5⟩, ⟨⟨q1, q2, q3, q4⟩, q5⟩, ⟨r1, r2, r3, r4⟩, r5⟩⟩
    · obtain ⟨n, rfl, hl, hf⟩ := open_field Tryd.underlying59 h hs
      rw [cCa] at hl
      obtain ⟨c0, c1, rfl⟩ := len2 cs hl
      obtain ⟨y0, f0, s0⟩ := fld hf 0 rfl (t := 2) (o := 0) (l := [c0]) rfl rfl cI64O rfl
      obtain ⟨y1, f1, s1⟩ := fld hf 1 rfl (t := 34) (o := 1) (l := [c1]) rfl rfl cLs rfl
      obtain ⟨m, rfl, hm⟩ := open_i Tryd.underlying2 f0
      obtain ⟨a1, k1, l1, e1, p1, p2, p3, p4, p5⟩ := open_rows (In := fun y : St => y.In w) Tryd.underlying34 cSt (by decide) bSt (fun m cs y hm => (ih m (by omega)).1 cs y) f1 s1
      obtain rfl : c1 = .slice a1 l1.length k1 := by simpa using e1
      exact ⟨.mk m a1 k1 l1, rfl, Ca.in_iff.2 ⟨hm, ⟨⟨p1, p2, p3, p4⟩, p5⟩⟩⟩

theorem open_pa (fuel : Nat) (cs : List Value) (x : DataW H × List MemPlace) (h : DataW.trod enc Tryd.prog w 0 (fun _ => true) held fuel 50 cs = some x) (hs : Small Tryd.prog 50 x.1) : ∃ y : Pa, cs = y.cells ∧ y.Ok := by
  obtain ⟨n, rfl, hl, hf⟩ := open_field Tryd.underlying50 h hs
  rw [cPa] at hl
  obtain ⟨c0, c1, c2, rfl⟩ := len3 cs hl
  obtain ⟨y0, f0, s0⟩ := fld hf 0 rfl (t := 9) (o := 0) (l := [c0]) rfl rfl cStrO rfl
  obtain ⟨y1, f1, s1⟩ := fld hf 1 rfl (t := 2) (o := 1) (l := [c1]) rfl rfl cI64O rfl
  obtain ⟨y2, f2, s2⟩ := fld hf 2 rfl (t := 2) (o := 2) (l := [c2]) rfl rfl cI64O rfl
  obtain ⟨s, rfl, hsz⟩ := open_s Tryd.underlying9 f0 s0
  obtain ⟨a, rfl, ha⟩ := open_i Tryd.underlying2 f1
  obtain ⟨b, rfl, hb⟩ := open_i Tryd.underlying2 f2
  exact ⟨⟨s, a, b⟩, rfl, hsz, ha, hb⟩

theorem open_fu (fuel : Nat) (cs : List Value) (x : DataW H × List MemPlace) (h : DataW.trod enc Tryd.prog w 0 (fun _ => true) held fuel 36 cs = some x) (hs : Small Tryd.prog 36 x.1) : ∃ y : Fu, cs = y.cells ∧ y.In w := by
  obtain ⟨n, rfl, hl, hf⟩ := open_field Tryd.underlying36 h hs
  rw [cFu] at hl
  obtain ⟨c0, c1, c2, rfl⟩ := len3 cs hl
  obtain ⟨y0, f0, s0⟩ := fld hf 0 rfl (t := 9) (o := 0) (l := [c0]) rfl rfl cStrO rfl
  obtain ⟨y1, f1, s1⟩ := fld hf 1 rfl (t := 33) (o := 1) (l := [c1]) rfl rfl cLp rfl
  obtain ⟨y2, f2, s2⟩ := fld hf 2 rfl (t := 34) (o := 2) (l := [c2]) rfl rfl cLs rfl
  obtain ⟨s, rfl, hsz⟩ := open_s Tryd.underlying9 f0 s0
  obtain ⟨a1, k1, l1, e1, p1, p2, p3, p4, p5⟩ := open_rows (In := fun y : Pa => y.Ok) Tryd.underlying33 cPa (by decide) bPa (fun m cs y _ => open_pa m cs y) f1 s1
  obtain ⟨a2, k2, l2, e2, q1, q2, q3, q4, q5⟩ := open_rows (In := fun y : St => y.In w) Tryd.underlying34 cSt (by decide) bSt (fun m cs y _ => (open_st m).1 cs y) f2 s2
  obtain rfl : c1 = .slice a1 l1.length k1 := by simpa using e1
  obtain rfl : c2 = .slice a2 l2.length k2 := by simpa using e2
  exact ⟨⟨s, a1, k1, l1, a2, k2, l2⟩, rfl, hsz, p1, p2, p3, p4, p5, ⟨⟨q1, q2, q3, q4⟩, q5⟩⟩

theorem open_pr (fuel : Nat) (cs : List Value) (x : DataW H × List MemPlace) (h : DataW.trod enc Tryd.prog w 0 (fun _ => true) held fuel 25 cs = some x) (hs : Small Tryd.prog 25 x.1) :
    ∃ y : Pr, cs = [.slice y.wa y.widen.length y.wc, .slice y.fa y.funcs.length y.fc] ∧ y.In w := by
  obtain ⟨n, rfl, hl, hf⟩ := open_field Tryd.underlying25 h hs
  rw [cPr] at hl
  obtain ⟨c0, c1, rfl⟩ := len2 cs hl
  obtain ⟨y0, f0, s0⟩ := fld hf 0 rfl (t := 22) (o := 0) (l := [c0]) rfl rfl cLi rfl
  obtain ⟨y1, f1, s1⟩ := fld hf 1 rfl (t := 23) (o := 1) (l := [c1]) rfl rfl cLf rfl
  obtain ⟨a1, k1, l1, e1, p1, p2, p3, p4, p5⟩ := open_rows (α := Int) (cells := fun z => [.int .i64 z]) (In := I64) Tryd.underlying22 cI64O (by decide) bI64 (fun m cs y _ hy _ => by
    obtain ⟨z, e, _, hw⟩ := DataW.trod_int Tryd.underlying2 hy
    exact ⟨z, e, i64_of hw⟩) f0 s0
  obtain ⟨a2, k2, l2, e2, q1, q2, q3, q4, q5⟩ := open_rows (In := fun y : Fu => y.In w) Tryd.underlying23 cFu (by decide) bFu (fun m cs y _ => open_fu m cs y) f1 s1
  obtain rfl : c0 = .slice a1 l1.length k1 := by simpa using e1
  obtain rfl : c1 = .slice a2 l2.length k2 := by simpa using e2
  exact ⟨⟨a1, k1, l1, a2, k2, l2⟩, rfl, p1, p2, p3, p4, p5, q1, q2, q3, q4, q5⟩
end

/-- An argument that is a program. -/
theorem open_program {H : Type} {enc : TypeId × Value → H} {W : World} {base : Nat} {v : Value} {d : DataW H} {p : List MemPlace} (hv : Value.okWide Tryd.prog W .any base 25 v)
    (h : DataW.Trod enc Tryd.prog W 0 (fun _ => true) true 25 v d p) (hs : Small Tryd.prog 25 d) : ∃ y : Pr, v = y.val ∧ y.In W := by
  obtain ⟨cs, rfl, hsz⟩ := okWide_struct (P := Tryd.prog) (t := 25) (v := v) (r := .any) (base := base) (w := W) Tryd.underlying25 hv
  obtain ⟨fuel, hf⟩ := h
  obtain ⟨y, e, hy⟩ := open_pr fuel _ (d, p) hf hs
  refine ⟨y, ?_, hy⟩
  rw [Pr.val]
  congr 1
  have e' : cs.toList = [.slice y.wa y.widen.length y.wc, .slice y.fa y.funcs.length y.fc] := by simpa [Value.cells] using e
  rw [← Array.toList_inj, e']
end Go.Proofs.YtbpemackmadhgabDoor

/- Are two expressions the same? -/
namespace Go.Proofs.YtbpemackmadhgabDoor
open Go.RowKit

mutual
def samE : Ex → Ex → Bool
  | .mk k n s _ _ l, y => k == y.kind && (n == y.n && (s.toList == y.name.toList && samEs l y.args))
def samEs : List Ex → List Ex → Bool
  | [], [] => true
  | x :: r, y :: t => samE x y && samEs r t
  | [], _ :: _ => false
  | _ :: _, [] => false
end
theorem samE_eq (x y : Ex) : samE x y = (x.kind == y.kind && (x.n == y.n && (x.name.toList == y.name.toList && samEs x.args y.args))) := by cases x; simp only [samE, Ex.kind, Ex.n, Ex.name, Ex.args]
theorem samEs_len : ∀ {l t : List Ex}, l.length ≠ t.length → samEs l t = false
  | [], [], h => by simp at h
  | [], _ :: _, _ => by simp [samEs]
  | _ :: _, [], _ => by simp [samEs]
  | x :: r, y :: t, h => by simp only [samEs]; rw [samEs_len (by simpa using h)]; simp
theorem samEs_drop {l t : List Ex} {j : Nat} (h : j < l.length) (h' : j < t.length) : samEs (l.drop j) (t.drop j) = (samE l[j] t[j] && samEs (l.drop (j + 1)) (t.drop (j + 1))) := by
  rw [List.drop_eq_getElem_cons h, List.drop_eq_getElem_cons h', samEs]
def HaveE (W : World) (a : Option Addr) (c : Nat) (l : List Ex) : Prop := l.length ≤ c ∧ c * 56 ≤ 140737488351232 ∧ RowIn W a 4 (l.map Ex.cells) ∧ ∀ x ∈ l, x.In W
theorem HaveE.stay {W W' : World} (hb : Below W.heap.size W W') {a : Option Addr} {c : Nat} {l : List Ex} (h : HaveE W a c l) : HaveE W' a c l := ⟨h.1, h.2.1, h.2.2.1.below hb, fun x hx => (h.2.2.2 x hx).stay hb⟩
theorem Ex.In.have {W : World} {x : Ex} (h : x.In W) : HaveE W x.a x.cap x.args := by
  obtain ⟨_, _, _, h4, h5, _, h7, h8⟩ := Ex.in_iff.1 h
  exact ⟨h4, h5, h7, h8⟩

set_option maxRecDepth 100000 in
set_option maxHeartbeats 4000000 in
theorem eqE_step (k : Nat) (h1 : ∀ (x y : Ex) (w : World), x.sz ≤ k → x.In w → y.In w → Calls Tryd.prog 75 #[x.val, y.val] w fun e w' => e = .returned (.bool (samE x y)) ∧ Below w.heap.size w w')
    (l t : List Ex) (a a' : Option Addr) (c c' : Nat) (w : World) (hk : szL l ≤ k) (hin : HaveE w a c l) (hin' : HaveE w a' c' t) :
    Calls Tryd.prog 88 #[.slice a l.length c, .slice a' t.length c', .func (.func 75) #[] #[]] w fun e w' => e = .returned (.bool (samEs l t)) ∧ Below w.heap.size w w' := by
  have IH : Hid (∀ (x y : Ex) (w : World), x.sz ≤ k → x.In w → y.In w → Calls Tryd.prog 75 #[x.val, y.val] w fun e w' => e = .returned (.bool (samE x y)) ∧ Below w.heap.size w w') := h1
  have HA : Hid (HaveE w a c l) := hin
  have HB : Hid (HaveE w a' c' t) := hin'
  have hl := hin.1
  have hc := hin.2.1
  have hl' := hin'.1
  have hc' := hin'.2.1
  clear h1 hin hin'
  by_cases hle : l.length = t.length
  · have HL : Hid (l.length = t.length) := hle
    rw [← hle] at hl' ⊢
    clear hle
    go_enter Tryd.func88, Tryd.ntmps88
    go_wp2_with fail
    go_loopw [17] (fun t17 wr => ∃ (j : Nat), j ≤ l.length ∧ t17 = .int .i64 j ∧ samEs (l.drop j) (t.drop j) = samEs l t ∧ Below w.heap.size w wr) (fun t17 _ => l.length - (intOf t17).toNat)
    case atStart => exact ⟨0, Nat.zero_le _, rfl, rfl, Below.refl _ w⟩
    case round =>
      obtain ⟨j, hj, rfl, hcnt, hb⟩ := hrel
      have HC : Hid (samEs (l.drop j) (t.drop j) = samEs l t) := hcnt
      clear hcnt
      have hws := hb.size
      by_cases hlt : j < l.length
      · have hlt' : j < t.length := by have := HL.out; omega
        obtain ⟨b, o, rfl, c0, c1, c2, c3⟩ := row_at (HA.out.2.2.1.below hb) hlt
        obtain ⟨b', o', rfl, d0, d1, d2, d3⟩ := row_at (HB.out.2.2.1.below hb) hlt'
        have hbl := lt_of_cell c0
        have hbl' := lt_of_cell d0
        simp only at hbl hbl'
        have hli : (j : Int) < (l.length : Int) := by omega
        have hsy := szL_mem (List.getElem_mem hlt)
        have HY : Hid (Ex.In w l[j]) := HA.out.2.2.2 l[j] (List.getElem_mem hlt)
        have HY' : Hid (Ex.In w t[j]) := HB.out.2.2.2 t[j] (List.getElem_mem hlt')
        have HZ : Hid (l[j].sz ≤ k) := (by omega : l[j].sz ≤ k)
        have HD : Hid (samEs (l.drop j) (t.drop j) = (samE l[j] t[j] && samEs (l.drop (j + 1)) (t.drop (j + 1)))) := samEs_drop hlt hlt'
        clear hsy
        generalize l[j] = x at *
        generalize t[j] = y at *
        have hb2 := (hb.alloc hws (.cells #[.int .i64 x.kind, .int .i64 x.n, .string x.name, .slice x.a x.args.length x.cap] 48)).alloc (by simp; omega) (.cells #[.int .i64 y.kind, .int .i64 y.n, .string y.name, .slice y.a y.args.length y.cap] 48)
        have hs2 := hb2.size
        go_wp2_with fail
        refine (IH.out x y _ HZ.out (HY.out.stay hb2) (HY'.out.stay hb2)).mono ?_
        rintro e w' ⟨rfl, hb'⟩
        have hb4 : Below w.heap.size w w' := hb2.trans (hb'.mono hs2)
        cases ev : samE x y
        · rw [ev] at HD
          go_wp2_with fail
          go_ret
          exact ⟨ret_bool (by rw [← HC.out, HD.out]; rfl), hb4⟩
        · rw [ev] at HD
          go_wp2_with fail
          go_roundw
          case rel => exact ⟨j + 1, by omega, by go_num, by rw [← HC.out, HD.out]; rfl, hb4⟩
          case measure => simp [intOf]; omega
      · go_wp2_with fail
        go_ret
        refine ⟨ret_bool ?_, hb⟩
        rw [← HC.out, List.drop_eq_nil_of_le (by omega), List.drop_eq_nil_of_le (by have := HL.out; omega)]; simp [samEs]
  · have hne : ((l.length : Int) != (t.length : Int)) = true := by simp only [bne_iff_ne]; omega
    go_enter Tryd.func88, Tryd.ntmps88
    go_wp2_with fail
    go_ret
    exact ⟨ret_bool (by rw [samEs_len hle]), Below.refl _ w⟩
end Go.Proofs.YtbpemackmadhgabDoor

/- sameExpr at any depth. -/
namespace Go.Proofs.YtbpemackmadhgabDoor
open Go.RowKit

set_option maxRecDepth 100000 in
set_option maxHeartbeats 4000000 in
theorem sameExpr_step (k : Nat) (h2 : ∀ (l t : List Ex) (a a' : Option Addr) (c c' : Nat) (w : World), szL l ≤ k → HaveE w a c l → HaveE w a' c' t → Calls Tryd.prog 88 #[.slice a l.length c, .slice a' t.length c', .func (.func 75) #[] #[]] w fun e w' => e = .returned (.bool (samEs l t)) ∧ Below w.heap.size w w')
    (x y : Ex) (w : World) (hk : x.sz ≤ k + 1) (hx : x.In w) (hy : y.In w) : Calls Tryd.prog 75 #[x.val, y.val] w fun e w' => e = .returned (.bool (samE x y)) ∧ Below w.heap.size w w' := by
  have hb1 := ((Below.refl _ w).alloc (Nat.le_refl _) (.cells #[.int .i64 x.kind, .int .i64 x.n, .string x.name, .slice x.a x.args.length x.cap] 48)).alloc (by simp) (.cells #[.int .i64 y.kind, .int .i64 y.n, .string y.name, .slice y.a y.args.length y.cap] 48)
  have HQ : Hid (∀ w', Below w.heap.size w w' → Calls Tryd.prog 88 #[.slice x.a x.args.length x.cap, .slice y.a y.args.length y.cap, .func (.func 75) #[] #[]] w' fun e w'' => e = .returned (.bool (samEs x.args y.args)) ∧ Below w'.heap.size w' w'') := fun w' hb => h2 _ _ _ _ _ _ w' (by have := x.sz_args; omega) ((hx.stay hb).have) ((hy.stay hb).have)
  have HE : Hid (samE x y = (x.kind == y.kind && (x.n == y.n && (x.name.toList == y.name.toList && samEs x.args y.args)))) := samE_eq x y
  clear h2 hx hy
  generalize samE x y = res at HE ⊢
  generalize samEs x.args y.args = sub at HE HQ
  unfold Ex.val
  cases e1 : (x.kind == y.kind)
  · go_enter Tryd.func75, Tryd.ntmps75
    go_wp2_with fail
    go_ret
    exact ⟨ret_bool (by rw [HE.out, e1]; rfl), hb1⟩
  · cases e2 : (x.n == y.n)
    · go_enter Tryd.func75, Tryd.ntmps75
      go_wp2_with fail
      go_ret
      exact ⟨ret_bool (by rw [HE.out, e1, e2]; rfl), hb1⟩
    · cases e3 : (x.name.toList == y.name.toList)
      · go_enter Tryd.func75, Tryd.ntmps75
        go_wp2_with fail
        go_ret
        exact ⟨ret_bool (by rw [HE.out, e1, e2, e3]; rfl), hb1⟩
      · go_enter Tryd.func75, Tryd.ntmps75
        go_wp2_with fail
        refine (HQ.out _ hb1).mono ?_
        rintro e w' ⟨rfl, hb'⟩
        go_wp2_with fail
        go_ret
        exact ⟨ret_bool (by rw [HE.out, e1, e2, e3]; rfl), hb1.trans (hb'.mono hb1.size)⟩

theorem sameE_any (k : Nat) : (∀ (x y : Ex) (w : World), x.sz ≤ k → x.In w → y.In w → Calls Tryd.prog 75 #[x.val, y.val] w fun e w' => e = .returned (.bool (samE x y)) ∧ Below w.heap.size w w') := by
  induction k with
  | zero => intro x y w h; have := x.sz_args; omega
  | succ k ih => exact fun x y w hk hx hy => sameExpr_step k (fun l t a a' c c' w hk ha hb => eqE_step k ih l t a a' c c' w hk ha hb) x y w hk hx hy
theorem sameExpr_any (x y : Ex) (w : World) (hx : x.In w) (hy : y.In w) : Calls Tryd.prog 75 #[x.val, y.val] w fun e w' => e = .returned (.bool (samE x y)) ∧ Below w.heap.size w w' := sameE_any _ x y w (Nat.le_refl _) hx hy

mutual
def samS : St → St → Bool
  | .mk k s n a b _ _ l _ _ e _ _ c, y => k == y.kind && (s.toList == y.name.toList && (n == y.n && (samE a y.a && (samE b y.b && (samSs l y.body && (samSs e y.els && samCs c y.cases))))))
def samSs : List St → List St → Bool
  | [], [] => true
  | x :: r, y :: t => samS x y && samSs r t
  | [], _ :: _ => false
  | _ :: _, [] => false
def samC : Ca → Ca → Bool
  | .mk n _ _ l, y => n == y.n && samSs l y.body
def samCs : List Ca → List Ca → Bool
  | [], [] => true
  | x :: r, y :: t => samC x y && samCs r t
  | [], _ :: _ => false
  | _ :: _, [] => false
end
theorem samS_eq (x y : St) : samS x y = (x.kind == y.kind && (x.name.toList == y.name.toList && (x.n == y.n && (samE x.a y.a && (samE x.b y.b && (samSs x.body y.body && (samSs x.els y.els && samCs x.cases y.cases))))))) := by
  cases x; simp only [samS, St.kind, St.name, St.n, St.a, St.b, St.body, St.els, St.cases]
theorem samC_eq (x y : Ca) : samC x y = (x.n == y.n && samSs x.body y.body) := by cases x; simp only [samC, Ca.n, Ca.body]
theorem samSs_len : ∀ {l t : List St}, l.length ≠ t.length → samSs l t = false
  | [], [], h => by simp at h
  | [], _ :: _, _ => by simp [samSs]
  | _ :: _, [], _ => by simp [samSs]
  | x :: r, y :: t, h => by simp only [samSs]; rw [samSs_len (by simpa using h)]; simp
theorem samCs_len : ∀ {l t : List Ca}, l.length ≠ t.length → samCs l t = false
  | [], [], h => by simp at h
  | [], _ :: _, _ => by simp [samCs]
  | _ :: _, [], _ => by simp [samCs]
  | x :: r, y :: t, h => by simp only [samCs]; rw [samCs_len (by simpa using h)]; simp
theorem samSs_drop {l t : List St} {j : Nat} (h : j < l.length) (h' : j < t.length) : samSs (l.drop j) (t.drop j) = (samS l[j] t[j] && samSs (l.drop (j + 1)) (t.drop (j + 1))) := by
  rw [List.drop_eq_getElem_cons h, List.drop_eq_getElem_cons h', samSs]
theorem samCs_drop {l t : List Ca} {j : Nat} (h : j < l.length) (h' : j < t.length) : samCs (l.drop j) (t.drop j) = (samC l[j] t[j] && samCs (l.drop (j + 1)) (t.drop (j + 1))) := by
  rw [List.drop_eq_getElem_cons h, List.drop_eq_getElem_cons h', samCs]
def HaveC (W : World) (a : Option Addr) (c : Nat) (l : List Ca) : Prop := LiesC W a c l ∧ ∀ x ∈ l, x.In W
end Go.Proofs.YtbpemackmadhgabDoor

/- slices.EqualFunc at cases. -/
namespace Go.Proofs.YtbpemackmadhgabDoor
open Go.RowKit

theorem rowC_cells {W : World} {a : Option Addr} {l : List Ca} (h : RowIn W a 2 (l.map Ca.cells)) {i : Nat} (hi : i < l.length) :
    ∃ b o, a = some ⟨b, o, none⟩ ∧ ∀ j v, l[i].cells[j]? = some v → W.cell? ⟨b, o + (i * 2 + j), none⟩ = some v := h i l[i].cells (by simp [hi])
set_option maxRecDepth 100000 in
set_option maxHeartbeats 8000000 in
theorem eqC_step (k : Nat) (h1 : ∀ (x y : Ca) (w : World), x.sz ≤ k → x.In w → y.In w → Calls Tryd.prog 77 #[x.val, y.val] w fun e w' => e = .returned (.bool (samC x y)) ∧ Below w.heap.size w w')
    (l t : List Ca) (a a' : Option Addr) (c c' : Nat) (w : World) (hk : csz l ≤ k) (hin : HaveC w a c l) (hin' : HaveC w a' c' t) :
    Calls Tryd.prog 76 #[.slice a l.length c, .slice a' t.length c', .func (.func 77) #[] #[]] w fun e w' => e = .returned (.bool (samCs l t)) ∧ Below w.heap.size w w' := by
  have IH : Hid (∀ (x y : Ca) (w : World), x.sz ≤ k → x.In w → y.In w → Calls Tryd.prog 77 #[x.val, y.val] w fun e w' => e = .returned (.bool (samC x y)) ∧ Below w.heap.size w w') := h1
  have HA : Hid (HaveC w a c l) := hin
  have HB : Hid (HaveC w a' c' t) := hin'
  have hl := hin.1.1
  have hc := hin.1.2.1
  have hl' := hin'.1.1
  have hc' := hin'.1.2.1
  clear h1 hin hin'
  by_cases hle : l.length = t.length
  · have HL : Hid (l.length = t.length) := hle
    rw [← hle] at hl' ⊢
    clear hle
    go_enter Tryd.func76, Tryd.ntmps76
    go_wp2_with fail
    go_loopw [17] (fun t17 wr => ∃ (j : Nat), j ≤ l.length ∧ t17 = .int .i64 j ∧ samCs (l.drop j) (t.drop j) = samCs l t ∧ Below w.heap.size w wr) (fun t17 _ => l.length - (intOf t17).toNat)
    case atStart => exact ⟨0, Nat.zero_le _, rfl, rfl, Below.refl _ w⟩
    case round =>
      obtain ⟨j, hj, rfl, hcnt, hb⟩ := hrel
      have HC : Hid (samCs (l.drop j) (t.drop j) = samCs l t) := hcnt
      clear hcnt
      have hws := hb.size
      by_cases hlt : j < l.length
      · have hlt' : j < t.length := by have := HL.out; omega
        obtain ⟨b, o, rfl, hc1⟩ := rowC_cells (HA.out.1.2.2.2.below hb) hlt
        obtain ⟨b', o', rfl, hc2⟩ := rowC_cells (HB.out.1.2.2.2.below hb) hlt'
        have c0 := hc1 0 _ rfl
        have d0 := hc2 0 _ rfl
        have c1 := hc1 1 _ rfl
        have d1 := hc2 1 _ rfl
        simp only [← Nat.add_assoc, Nat.add_zero] at c0 d0 c1 d1
        clear hc1 hc2
        have hbl : b < wr.heap.size := lt_of_cell c0
        have hbl' : b' < wr.heap.size := lt_of_cell d0
        have hli : (j : Int) < (l.length : Int) := by omega
        have hsy := csz_mem (List.getElem_mem hlt)
        have HZ : Hid (l[j].sz ≤ k) := (by omega : l[j].sz ≤ k)
        clear hsy
        have HY : Hid (l[j].In w) := HA.out.2 l[j] (List.getElem_mem hlt)
        have HY' : Hid (t[j].In w) := HB.out.2 t[j] (List.getElem_mem hlt')
        have HD : Hid (samCs (l.drop j) (t.drop j) = (samC l[j] t[j] && samCs (l.drop (j + 1)) (t.drop (j + 1)))) := samCs_drop hlt hlt'
        generalize l[j] = x at *
        generalize t[j] = y at *
        have hb2 := (hb.alloc hws (.cells #[.int .i64 x.n, .slice x.ba x.body.length x.bc] 59)).alloc (by simp; omega) (.cells #[.int .i64 y.n, .slice y.ba y.body.length y.bc] 59)
        have hs2 := hb2.size
        go_wp2_with fail
        refine (IH.out x y _ HZ.out (HY.out.stay hb2) (HY'.out.stay hb2)).mono ?_
        rintro e w' ⟨rfl, hb'⟩
        have hb4 : Below w.heap.size w w' := hb2.trans (hb'.mono hs2)
        clear c0 d0 c1 d1
        cases ev : samC x y
        · rw [ev] at HD
          go_wp2_with fail
          go_ret
          exact ⟨ret_bool (by rw [← HC.out, HD.out]; rfl), hb4⟩
        · rw [ev] at HD
          go_wp2_with fail
          go_roundw
          case rel => exact ⟨j + 1, by omega, by go_num, by rw [← HC.out, HD.out]; rfl, hb4⟩
          case measure => simp [intOf]; omega
      · go_wp2_with fail
        go_ret
        refine ⟨ret_bool ?_, hb⟩
        rw [← HC.out, List.drop_eq_nil_of_le (by omega), List.drop_eq_nil_of_le (by have := HL.out; omega)]; simp [samCs]
  · have hne : ((l.length : Int) != (t.length : Int)) = true := by simp only [bne_iff_ne]; omega
    go_enter Tryd.func76, Tryd.ntmps76
    go_wp2_with fail
    go_ret
    exact ⟨ret_bool (by rw [samCs_len hle]), Below.refl _ w⟩
end Go.Proofs.YtbpemackmadhgabDoor

/- slices.EqualFunc at statements. -/
namespace Go.Proofs.YtbpemackmadhgabDoor
open Go.RowKit

set_option maxRecDepth 100000 in
set_option maxHeartbeats 8000000 in
theorem eqS_step (k : Nat) (h1 : ∀ (x y : St) (w : World), x.sz ≤ k → x.In w → y.In w → Calls Tryd.prog 58 #[x.val, y.val] w fun e w' => e = .returned (.bool (samS x y)) ∧ Below w.heap.size w w')
    (l t : List St) (a a' : Option Addr) (c c' : Nat) (w : World) (hk : ssz l ≤ k) (hin : Have w a c l) (hin' : Have w a' c' t) :
    Calls Tryd.prog 57 #[.slice a l.length c, .slice a' t.length c', .func (.func 58) #[] #[]] w fun e w' => e = .returned (.bool (samSs l t)) ∧ Below w.heap.size w w' := by
  have IH : Hid (∀ (x y : St) (w : World), x.sz ≤ k → x.In w → y.In w → Calls Tryd.prog 58 #[x.val, y.val] w fun e w' => e = .returned (.bool (samS x y)) ∧ Below w.heap.size w w') := h1
  have HA : Hid (Have w a c l) := hin
  have HB : Hid (Have w a' c' t) := hin'
  have hl := hin.1.1
  have hc := hin.1.2.1
  have hl' := hin'.1.1
  have hc' := hin'.1.2.1
  clear h1 hin hin'
  by_cases hle : l.length = t.length
  · have HL : Hid (l.length = t.length) := hle
    rw [← hle] at hl' ⊢
    clear hle
    go_enter Tryd.func57, Tryd.ntmps57
    go_wp2_with fail
    go_loopw [17] (fun t17 wr => ∃ (j : Nat), j ≤ l.length ∧ t17 = .int .i64 j ∧ samSs (l.drop j) (t.drop j) = samSs l t ∧ Below w.heap.size w wr) (fun t17 _ => l.length - (intOf t17).toNat)
    case atStart => exact ⟨0, Nat.zero_le _, rfl, rfl, Below.refl _ w⟩
    case round =>
      obtain ⟨j, hj, rfl, hcnt, hb⟩ := hrel
      have HC : Hid (samSs (l.drop j) (t.drop j) = samSs l t) := hcnt
      clear hcnt
      have hws := hb.size
      by_cases hlt : j < l.length
      · have hlt' : j < t.length := by have := HL.out; omega
        obtain ⟨b, o, rfl, hc1⟩ := rowS_at (HA.out.1.2.2.2.below hb) hlt
        obtain ⟨b', o', rfl, hc2⟩ := rowS_at (HB.out.1.2.2.2.below hb) hlt'
        have c0 := hc1 0 _ rfl
        have d0 := hc2 0 _ rfl
        have c1 := hc1 1 _ rfl
        have d1 := hc2 1 _ rfl
        have c2 := hc1 2 _ rfl
        have d2 := hc2 2 _ rfl
        have c3 := hc1 3 _ rfl
        have d3 := hc2 3 _ rfl
        have c4 := hc1 4 _ rfl
        have d4 := hc2 4 _ rfl
        have c5 := hc1 5 _ rfl
        have d5 := hc2 5 _ rfl
        have c6 := hc1 6 _ rfl
        have d6 := hc2 6 _ rfl
        have c7 := hc1 7 _ rfl
        have d7 := hc2 7 _ rfl
        have c8 := hc1 8 _ rfl
        have d8 := hc2 8 _ rfl
        have c9 := hc1 9 _ rfl
        have d9 := hc2 9 _ rfl
        have c10 := hc1 10 _ rfl
        have d10 := hc2 10 _ rfl
        have c11 := hc1 11 _ rfl
        have d11 := hc2 11 _ rfl
        have c12 := hc1 12 _ rfl
        have d12 := hc2 12 _ rfl
        have c13 := hc1 13 _ rfl
        have d13 := hc2 13 _ rfl
        simp only [← Nat.add_assoc, Nat.add_zero] at c0 d0 c1 d1 c2 d2 c3 d3 c4 d4 c5 d5 c6 d6 c7 d7 c8 d8 c9 d9 c10 d10 c11 d11 c12 d12 c13 d13
        clear hc1 hc2
        have hbl : b < wr.heap.size := lt_of_cell c0
        have hbl' : b' < wr.heap.size := lt_of_cell d0
        have hli : (j : Int) < (l.length : Int) := by omega
        have hsy := ssz_mem (List.getElem_mem hlt)
        have HZ : Hid (l[j].sz ≤ k) := (by omega : l[j].sz ≤ k)
        clear hsy
        have HY : Hid (l[j].In w) := HA.out.2 l[j] (List.getElem_mem hlt)
        have HY' : Hid (t[j].In w) := HB.out.2 t[j] (List.getElem_mem hlt')
        have HD : Hid (samSs (l.drop j) (t.drop j) = (samS l[j] t[j] && samSs (l.drop (j + 1)) (t.drop (j + 1)))) := samSs_drop hlt hlt'
        generalize l[j] = x at *
        generalize t[j] = y at *
        have hb2 := (hb.alloc hws (.cells #[.int .i64 x.kind, .string x.name, .int .i64 x.n, .int .i64 x.a.kind, .int .i64 x.a.n, .string x.a.name, .slice x.a.a x.a.args.length x.a.cap, .int .i64 x.b.kind, .int .i64 x.b.n, .string x.b.name, .slice x.b.a x.b.args.length x.b.cap, .slice x.ba x.body.length x.bc, .slice x.ea x.els.length x.ec, .slice x.ca x.cases.length x.cc] 53)).alloc (by simp; omega) (.cells #[.int .i64 y.kind, .string y.name, .int .i64 y.n, .int .i64 y.a.kind, .int .i64 y.a.n, .string y.a.name, .slice y.a.a y.a.args.length y.a.cap, .int .i64 y.b.kind, .int .i64 y.b.n, .string y.b.name, .slice y.b.a y.b.args.length y.b.cap, .slice y.ba y.body.length y.bc, .slice y.ea y.els.length y.ec, .slice y.ca y.cases.length y.cc] 53)
        have hs2 := hb2.size
        go_wp2_with fail
        refine (IH.out x y _ HZ.out (HY.out.stay hb2) (HY'.out.stay hb2)).mono ?_
        rintro e w' ⟨rfl, hb'⟩
        have hb4 : Below w.heap.size w w' := hb2.trans (hb'.mono hs2)
        clear c0 d0 c1 d1 c2 d2 c3 d3 c4 d4 c5 d5 c6 d6 c7 d7 c8 d8 c9 d9 c10 d10 c11 d11 c12 d12 c13 d13
        cases ev : samS x y
        · rw [ev] at HD
          go_wp2_with fail
          go_ret
          exact ⟨ret_bool (by rw [← HC.out, HD.out]; rfl), hb4⟩
        · rw [ev] at HD
          go_wp2_with fail
          go_roundw
          case rel => exact ⟨j + 1, by omega, by go_num, by rw [← HC.out, HD.out]; rfl, hb4⟩
          case measure => simp [intOf]; omega
      · go_wp2_with fail
        go_ret
        refine ⟨ret_bool ?_, hb⟩
        rw [← HC.out, List.drop_eq_nil_of_le (by omega), List.drop_eq_nil_of_le (by have := HL.out; omega)]; simp [samSs]
  · have hne : ((l.length : Int) != (t.length : Int)) = true := by simp only [bne_iff_ne]; omega
    go_enter Tryd.func57, Tryd.ntmps57
    go_wp2_with fail
    go_ret
    exact ⟨ret_bool (by rw [samSs_len hle]), Below.refl _ w⟩
end Go.Proofs.YtbpemackmadhgabDoor

/- sameCase, sameStmts and sameStmt at any depth. -/
namespace Go.Proofs.YtbpemackmadhgabDoor
open Go.RowKit

/-- Two new blocks hold two statements' cells, in every world behind. -/
theorem boxes {w w1 : World} {x y : St} (hb : Below ((w.alloc (.cells #[.int .i64 x.kind, .string x.name, .int .i64 x.n, .int .i64 x.a.kind, .int .i64 x.a.n, .string x.a.name, .slice x.a.a x.a.args.length x.a.cap, .int .i64 x.b.kind, .int .i64 x.b.n, .string x.b.name, .slice x.b.a x.b.args.length x.b.cap, .slice x.ba x.body.length x.bc, .slice x.ea x.els.length x.ec, .slice x.ca x.cases.length x.cc] 53)).alloc (.cells #[.int .i64 y.kind, .string y.name, .int .i64 y.n, .int .i64 y.a.kind, .int .i64 y.a.n, .string y.a.name, .slice y.a.a y.a.args.length y.a.cap, .int .i64 y.b.kind, .int .i64 y.b.n, .string y.b.name, .slice y.b.a y.b.args.length y.b.cap, .slice y.ba y.body.length y.bc, .slice y.ea y.els.length y.ec, .slice y.ca y.cases.length y.cc] 53)).heap.size ((w.alloc (.cells #[.int .i64 x.kind, .string x.name, .int .i64 x.n, .int .i64 x.a.kind, .int .i64 x.a.n, .string x.a.name, .slice x.a.a x.a.args.length x.a.cap, .int .i64 x.b.kind, .int .i64 x.b.n, .string x.b.name, .slice x.b.a x.b.args.length x.b.cap, .slice x.ba x.body.length x.bc, .slice x.ea x.els.length x.ec, .slice x.ca x.cases.length x.cc] 53)).alloc (.cells #[.int .i64 y.kind, .string y.name, .int .i64 y.n, .int .i64 y.a.kind, .int .i64 y.a.n, .string y.a.name, .slice y.a.a y.a.args.length y.a.cap, .int .i64 y.b.kind, .int .i64 y.b.n, .string y.b.name, .slice y.b.a y.b.args.length y.b.cap, .slice y.ba y.body.length y.bc, .slice y.ea y.els.length y.ec, .slice y.ca y.cases.length y.cc] 53)) w1) : BoxS w1 w.heap.size x ∧ BoxS w1 (w.heap.size + 1) y := by
  obtain ⟨h1, h2, _⟩ := two_cells hb
  exact ⟨fun i v h => h1 i v (by simpa [St.cells] using h), fun i v h => h2 i v (by simpa [St.cells] using h)⟩

abbrev StmtOk (k : Nat) : Prop := ∀ (x y : St) (w : World), x.sz ≤ k → x.In w → y.In w → Calls Tryd.prog 58 #[x.val, y.val] w fun e w' => e = .returned (.bool (samS x y)) ∧ Below w.heap.size w w'
abbrev StmtsOk (k : Nat) : Prop := ∀ (l t : List St) (a a' : Option Addr) (c c' : Nat) (w : World), ssz l ≤ k → Have w a c l → Have w a' c' t → Calls Tryd.prog 38 #[.slice a l.length c, .slice a' t.length c'] w fun e w' => e = .returned (.bool (samSs l t)) ∧ Below w.heap.size w w'
abbrev CaseOk (k : Nat) : Prop := ∀ (x y : Ca) (w : World), x.sz ≤ k → x.In w → y.In w → Calls Tryd.prog 77 #[x.val, y.val] w fun e w' => e = .returned (.bool (samC x y)) ∧ Below w.heap.size w w'
abbrev CasesOk (k : Nat) : Prop := ∀ (l t : List Ca) (a a' : Option Addr) (c c' : Nat) (w : World), csz l ≤ k → HaveC w a c l → HaveC w a' c' t → Calls Tryd.prog 76 #[.slice a l.length c, .slice a' t.length c', .func (.func 77) #[] #[]] w fun e w' => e = .returned (.bool (samCs l t)) ∧ Below w.heap.size w w'

set_option maxHeartbeats 1000000 in
theorem sameStmts_step (k : Nat) (h1 : StmtOk k) : StmtsOk k := by
  intro l t a a' c c' w hk ha hb
  have HQ : Hid (Calls Tryd.prog 57 #[.slice a l.length c, .slice a' t.length c', .func (.func 58) #[] #[]] w fun e w' => e = .returned (.bool (samSs l t)) ∧ Below w.heap.size w w') := eqS_step k h1 l t a a' c c' w hk ha hb
  clear h1 ha hb
  go_enter Tryd.func38, Tryd.ntmps38
  go_wp2_with fail
  refine HQ.out.mono ?_
  rintro e w' ⟨rfl, hb'⟩
  go_wp2_with fail
  go_ret
  exact ⟨rfl, hb'⟩

set_option maxRecDepth 100000 in
set_option maxHeartbeats 4000000 in
theorem sameCase_step (k : Nat) (h2 : StmtsOk k) : CaseOk (k + 1) := by
  intro x y w hk hx hy
  have hb1 := ((Below.refl _ w).alloc (Nat.le_refl _) (.cells #[.int .i64 x.n, .slice x.ba x.body.length x.bc] 59)).alloc (by simp) (.cells #[.int .i64 y.n, .slice y.ba y.body.length y.bc] 59)
  have HQ : Hid (∀ w', Below w.heap.size w w' → Calls Tryd.prog 38 #[.slice x.ba x.body.length x.bc, .slice y.ba y.body.length y.bc] w' fun e w'' => e = .returned (.bool (samSs x.body y.body)) ∧ Below w'.heap.size w' w'') := fun w' hb => h2 _ _ _ _ _ _ w' (by have := x.sz_eq; omega) ((Ca.in_iff.1 hx).2.stay hb) ((Ca.in_iff.1 hy).2.stay hb)
  have HE : Hid (samC x y = (x.n == y.n && samSs x.body y.body)) := samC_eq x y
  clear h2 hx hy
  generalize samC x y = res at HE ⊢
  generalize samSs x.body y.body = sub at HE HQ
  unfold Ca.val
  cases e1 : (x.n == y.n)
  · go_enter Tryd.func77, Tryd.ntmps77
    go_wp2_with fail
    go_ret
    exact ⟨ret_bool (by rw [HE.out, e1]; rfl), hb1⟩
  · go_enter Tryd.func77, Tryd.ntmps77
    go_wp2_with fail
    refine (HQ.out _ hb1).mono ?_
    rintro e w' ⟨rfl, hb'⟩
    go_wp2_with fail
    go_ret
    exact ⟨ret_bool (by rw [HE.out, e1]; rfl), hb1.trans (hb'.mono hb1.size)⟩

set_option maxRecDepth 100000 in
set_option maxHeartbeats 8000000 in
theorem sameStmt_step (k : Nat) (h2 : StmtsOk k) (h4 : CasesOk k) : StmtOk (k + 1) := by
  intro x y w hk hx hy
  have hsz := x.sz_eq
  obtain ⟨_, _, _, xa, xb, xl, xe, xc, xs⟩ := St.in_iff.1 hx
  obtain ⟨_, _, _, ya, yb, yl, ye, yc, ys⟩ := St.in_iff.1 hy
  have hb1 := ((Below.refl _ w).alloc (Nat.le_refl _) (.cells #[.int .i64 x.kind, .string x.name, .int .i64 x.n, .int .i64 x.a.kind, .int .i64 x.a.n, .string x.a.name, .slice x.a.a x.a.args.length x.a.cap, .int .i64 x.b.kind, .int .i64 x.b.n, .string x.b.name, .slice x.b.a x.b.args.length x.b.cap, .slice x.ba x.body.length x.bc, .slice x.ea x.els.length x.ec, .slice x.ca x.cases.length x.cc] 53)).alloc (by simp) (.cells #[.int .i64 y.kind, .string y.name, .int .i64 y.n, .int .i64 y.a.kind, .int .i64 y.a.n, .string y.a.name, .slice y.a.a y.a.args.length y.a.cap, .int .i64 y.b.kind, .int .i64 y.b.n, .string y.b.name, .slice y.b.a y.b.args.length y.b.cap, .slice y.ba y.body.length y.bc, .slice y.ea y.els.length y.ec, .slice y.ca y.cases.length y.cc] 53)
  have HA : Hid (∀ w', Below w.heap.size w w' → Calls Tryd.prog 75 #[x.a.val, y.a.val] w' fun e w'' => e = .returned (.bool (samE x.a y.a)) ∧ Below w'.heap.size w' w'') := fun w' hb => sameExpr_any _ _ w' (xa.stay hb) (ya.stay hb)
  have HB : Hid (∀ w', Below w.heap.size w w' → Calls Tryd.prog 75 #[x.b.val, y.b.val] w' fun e w'' => e = .returned (.bool (samE x.b y.b)) ∧ Below w'.heap.size w' w'') := fun w' hb => sameExpr_any _ _ w' (xb.stay hb) (yb.stay hb)
  have HL : Hid (∀ w', Below w.heap.size w w' → Calls Tryd.prog 38 #[.slice x.ba x.body.length x.bc, .slice y.ba y.body.length y.bc] w' fun e w'' => e = .returned (.bool (samSs x.body y.body)) ∧ Below w'.heap.size w' w'') := fun w' hb => h2 _ _ _ _ _ _ w' (by omega) (xl.stay hb) (yl.stay hb)
  have HM : Hid (∀ w', Below w.heap.size w w' → Calls Tryd.prog 38 #[.slice x.ea x.els.length x.ec, .slice y.ea y.els.length y.ec] w' fun e w'' => e = .returned (.bool (samSs x.els y.els)) ∧ Below w'.heap.size w' w'') := fun w' hb => h2 _ _ _ _ _ _ w' (by omega) (xe.stay hb) (ye.stay hb)
  have HC : Hid (∀ w', Below w.heap.size w w' → Calls Tryd.prog 76 #[.slice x.ca x.cases.length x.cc, .slice y.ca y.cases.length y.cc, .func (.func 77) #[] #[]] w' fun e w'' => e = .returned (.bool (samCs x.cases y.cases)) ∧ Below w'.heap.size w' w'') := fun w' hb => h4 _ _ _ _ _ _ w' (by omega) ⟨xc.below hb, fun z hz => (xs z hz).stay hb⟩ ⟨yc.below hb, fun z hz => (ys z hz).stay hb⟩
  have HE : Hid (samS x y = (x.kind == y.kind && (x.name.toList == y.name.toList && (x.n == y.n && (samE x.a y.a && (samE x.b y.b && (samSs x.body y.body && (samSs x.els y.els && samCs x.cases y.cases)))))))) := samS_eq x y
  clear h2 h4 hx hy xa xb xl xe xc xs ya yb yl ye yc ys hsz hk
  generalize samS x y = res at HE ⊢
  generalize samE x.a y.a = ra at HE HA
  generalize samE x.b y.b = rb at HE HB
  generalize samSs x.body y.body = rl at HE HL
  generalize samSs x.els y.els = re at HE HM
  generalize samCs x.cases y.cases = rc at HE HC
  unfold Ex.val at HA HB
  unfold St.val
  cases e1 : (x.kind == y.kind)
  · go_enter Tryd.func58, Tryd.ntmps58
    go_wp2_with fail
    go_ret
    exact ⟨ret_bool (by rw [HE.out, e1]; rfl), hb1⟩
  cases e2 : (x.name.toList == y.name.toList)
  · go_enter Tryd.func58, Tryd.ntmps58
    go_wp2_with fail
    go_ret
    exact ⟨ret_bool (by rw [HE.out, e1, e2]; rfl), hb1⟩
  cases e3 : (x.n == y.n)
  · go_enter Tryd.func58, Tryd.ntmps58
    go_wp2_with fail
    go_ret
    exact ⟨ret_bool (by rw [HE.out, e1, e2, e3]; rfl), hb1⟩
  have HE2 : Hid (res = (ra && (rb && (rl && (re && rc))))) := (by rw [HE.out, e1, e2, e3]; rfl : res = _)
  clear HE
  go_enter Tryd.func58, Tryd.ntmps58
  go_wp2_with fail
  refine (HA.out _ hb1).mono ?_
  rintro e w1 ⟨rfl, k0⟩
  obtain ⟨X0, Y0⟩ := boxes k0
  have g0 : Below w.heap.size w w1 := hb1.trans (k0.mono hb1.size)
  have hs1 : w.heap.size + 1 < w1.heap.size := by have := k0.size; simp at this; omega
  have XH0 : Hid (BoxS w1 w.heap.size x) := X0
  have YH0 : Hid (BoxS w1 (w.heap.size + 1) y) := Y0
  clear X0 Y0 k0
  have c7 := XH0.out 7 _ rfl
  have d7 := YH0.out 7 _ rfl
  have c8 := XH0.out 8 _ rfl
  have d8 := YH0.out 8 _ rfl
  have c9 := XH0.out 9 _ rfl
  have d9 := YH0.out 9 _ rfl
  have c10 := XH0.out 10 _ rfl
  have d10 := YH0.out 10 _ rfl
  cases ra
  · go_wp2_with fail
    go_ret
    exact ⟨ret_bool (by rw [HE2.out]; rfl), g0⟩
  go_wp2_with fail
  refine (HB.out _ g0).mono ?_
  rintro e w2 ⟨rfl, k1⟩
  have X1 := XH0.out.below k1 (by omega)
  have Y1 := YH0.out.below k1 (by omega)
  have g1 : Below w.heap.size w w2 := g0.trans (k1.mono g0.size)
  have hs2 : w.heap.size + 1 < w2.heap.size := by have := k1.size; omega
  clear c7 d7 c8 d8 c9 d9 c10 d10
  have XH1 : Hid (BoxS w2 w.heap.size x) := X1
  have YH1 : Hid (BoxS w2 (w.heap.size + 1) y) := Y1
  clear X1 Y1 k1
  have c11 := XH1.out 11 _ rfl
  have d11 := YH1.out 11 _ rfl
  cases rb
  · go_wp2_with fail
    go_ret
    exact ⟨ret_bool (by rw [HE2.out]; rfl), g1⟩
  go_wp2_with fail
  refine (HL.out _ g1).mono ?_
  rintro e w3 ⟨rfl, k2⟩
  have X2 := XH1.out.below k2 (by omega)
  have Y2 := YH1.out.below k2 (by omega)
  have g2 : Below w.heap.size w w3 := g1.trans (k2.mono g1.size)
  have hs3 : w.heap.size + 1 < w3.heap.size := by have := k2.size; omega
  clear c11 d11
  have XH2 : Hid (BoxS w3 w.heap.size x) := X2
  have YH2 : Hid (BoxS w3 (w.heap.size + 1) y) := Y2
  clear X2 Y2 k2
  have c12 := XH2.out 12 _ rfl
  have d12 := YH2.out 12 _ rfl
  cases rl
  · go_wp2_with fail
    go_ret
    exact ⟨ret_bool (by rw [HE2.out]; rfl), g2⟩
  go_wp2_with fail
  refine (HM.out _ g2).mono ?_
  rintro e w4 ⟨rfl, k3⟩
  have X3 := XH2.out.below k3 (by omega)
  have Y3 := YH2.out.below k3 (by omega)
  have g3 : Below w.heap.size w w4 := g2.trans (k3.mono g2.size)
  have hs4 : w.heap.size + 1 < w4.heap.size := by have := k3.size; omega
  clear c12 d12
  have XH3 : Hid (BoxS w4 w.heap.size x) := X3
  have YH3 : Hid (BoxS w4 (w.heap.size + 1) y) := Y3
  clear X3 Y3 k3
  have c13 := XH3.out 13 _ rfl
  have d13 := YH3.out 13 _ rfl
  cases re
  · go_wp2_with fail
    go_ret
    exact ⟨ret_bool (by rw [HE2.out]; rfl), g3⟩
  go_wp2_with fail
  refine (HC.out _ g3).mono ?_
  rintro e w5 ⟨rfl, k4⟩
  have X4 := XH3.out.below k4 (by omega)
  have Y4 := YH3.out.below k4 (by omega)
  have g4 : Below w.heap.size w w5 := g3.trans (k4.mono g3.size)
  have hs5 : w.heap.size + 1 < w5.heap.size := by have := k4.size; omega
  clear c13 d13
  have XH4 : Hid (BoxS w5 w.heap.size x) := X4
  have YH4 : Hid (BoxS w5 (w.heap.size + 1) y) := Y4
  clear X4 Y4 k4
  go_wp2_with fail
  go_ret
  exact ⟨ret_bool (by rw [HE2.out]; rfl), g4⟩

theorem same_all (k : Nat) : StmtOk k ∧ CaseOk k := by
  induction k with
  | zero => exact ⟨fun x _ _ h => by have := x.sz_eq; omega, fun x _ _ h => by have := x.sz_eq; omega⟩
  | succ k ih =>
    have hS := sameStmts_step k ih.1
    exact ⟨sameStmt_step k hS (fun l t a a' c c' w hk ha hb => eqC_step k ih.2 l t a a' c c' w hk ha hb), sameCase_step k hS⟩
theorem sameStmts_any (l t : List St) (a a' : Option Addr) (c c' : Nat) (w : World) (ha : Have w a c l) (hb : Have w a' c' t) : Calls Tryd.prog 38 #[.slice a l.length c, .slice a' t.length c'] w fun e w' => e = .returned (.bool (samSs l t)) ∧ Below w.heap.size w w' :=
  sameStmts_step _ (same_all _).1 l t a a' c c' w (Nat.le_refl _) ha hb
end Go.Proofs.YtbpemackmadhgabDoor

/- slices.Equal at thresholds and at parameters; sameFn. -/
namespace Go.Proofs.YtbpemackmadhgabDoor
open Go.RowKit

def samI : List Int → List Int → Bool
  | [], [] => true
  | x :: r, y :: t => x == y && samI r t
  | [], _ :: _ => false
  | _ :: _, [] => false
theorem samI_len : ∀ {l t : List Int}, l.length ≠ t.length → samI l t = false
  | [], [], h => by simp at h
  | [], _ :: _, _ => by simp [samI]
  | _ :: _, [], _ => by simp [samI]
  | x :: r, y :: t, h => by simp only [samI]; rw [samI_len (by simpa using h)]; simp
theorem samI_drop {l t : List Int} {j : Nat} (h : j < l.length) (h' : j < t.length) : samI (l.drop j) (t.drop j) = (l[j] == t[j] && samI (l.drop (j + 1)) (t.drop (j + 1))) := by
  rw [List.drop_eq_getElem_cons h, List.drop_eq_getElem_cons h', samI]
def samP (x y : Pa) : Bool := x.name.toList == y.name.toList && (x.lo == y.lo && x.hi == y.hi)
def samPs : List Pa → List Pa → Bool
  | [], [] => true
  | x :: r, y :: t => samP x y && samPs r t
  | [], _ :: _ => false
  | _ :: _, [] => false
theorem samPs_len : ∀ {l t : List Pa}, l.length ≠ t.length → samPs l t = false
  | [], [], h => by simp at h
  | [], _ :: _, _ => by simp [samPs]
  | _ :: _, [], _ => by simp [samPs]
  | x :: r, y :: t, h => by simp only [samPs]; rw [samPs_len (by simpa using h)]; simp
theorem samPs_drop {l t : List Pa} {j : Nat} (h : j < l.length) (h' : j < t.length) : samPs (l.drop j) (t.drop j) = (samP l[j] t[j] && samPs (l.drop (j + 1)) (t.drop (j + 1))) := by
  rw [List.drop_eq_getElem_cons h, List.drop_eq_getElem_cons h', samPs]

set_option maxRecDepth 100000 in
set_option maxHeartbeats 4000000 in
theorem equalI_any (l t : List Int) (a a' : Option Addr) (c c' : Nat) (w : World) (hin : Thr w a c l) (hin' : Thr w a' c' t) :
    Calls Tryd.prog 21 #[.slice a l.length c, .slice a' t.length c'] w fun e w' => e = .returned (.bool (samI l t)) ∧ Below w.heap.size w w' := by
  have HA : Hid (Thr w a c l) := hin
  have HB : Hid (Thr w a' c' t) := hin'
  have hl := hin.1
  have hc := hin.2.1
  have hl' := hin'.1
  have hc' := hin'.2.1
  clear hin hin'
  by_cases hle : l.length = t.length
  · have HL : Hid (l.length = t.length) := hle
    rw [← hle] at hl' ⊢
    clear hle
    go_enter Tryd.func21, Tryd.ntmps21
    go_wp2_with fail
    go_loopw [13] (fun t13 wr => ∃ (j nq : Nat), j ≤ l.length ∧ t13 = .int .i64 j ∧ samI (l.drop j) (t.drop j) = samI l t ∧ wr = w.drewN nq) (fun t13 _ => l.length - (intOf t13).toNat)
    case atStart => exact ⟨0, 0, Nat.zero_le _, rfl, rfl, rfl⟩
    case round =>
      obtain ⟨j, nq, hj, rfl, hcnt, rfl⟩ := hrel
      have HC : Hid (samI (l.drop j) (t.drop j) = samI l t) := hcnt
      clear hcnt
      by_cases hlt : j < l.length
      · have hlt' : j < t.length := by have := HL.out; omega
        obtain ⟨b, o, rfl, c0⟩ := rowW_at HA.out.2.2 hlt
        obtain ⟨b', o', rfl, d0⟩ := rowW_at HB.out.2.2 hlt'
        have hli : (j : Int) < (l.length : Int) := by omega
        have HD : Hid (samI (l.drop j) (t.drop j) = (l[j] == t[j] && samI (l.drop (j + 1)) (t.drop (j + 1)))) := samI_drop hlt hlt'
        generalize l[j] = x at *
        generalize t[j] = y at *
        clear hlt'
        go_wp2_with fail
        go_quiet (fail)
        cases ev : (x == y)
        · have ev' : (x != y) = true := by simp [bne, ev]
          rw [ev] at HD
          go_wp2_with fail
          go_ret
          exact ⟨ret_bool (by rw [← HC.out, HD.out]; rfl), ((Below.refl _ w).drewN _).drewN _⟩
        · have ev' : (x != y) = false := by simp [bne, ev]
          rw [ev] at HD
          go_wp2_with fail
          go_roundw
          case rel => exact ⟨j + 1, _, by omega, by go_num, by rw [← HC.out, HD.out]; rfl, rfl⟩
          case measure => simp [intOf]; omega
      · go_wp2_with fail
        go_ret
        refine ⟨ret_bool ?_, (Below.refl _ w).drewN _⟩
        rw [← HC.out, List.drop_eq_nil_of_le (by omega), List.drop_eq_nil_of_le (by have := HL.out; omega)]; rfl
  · have hne : ((l.length : Int) != (t.length : Int)) = true := by simp only [bne_iff_ne]; omega
    go_enter Tryd.func21, Tryd.ntmps21
    go_wp2_with fail
    go_ret
    exact ⟨ret_bool (by rw [samI_len hle]), Below.refl _ w⟩

theorem equalIn_pa (x y : Pa) (w : World) : (Op.equalIn 10000 50 (.agg #[.string x.name, .int .i64 x.lo, .int .i64 x.hi]) (.agg #[.string y.name, .int .i64 y.lo, .int .i64 y.hi])).run Tryd.prog w = .ok (samP x y) w := by
  have u2 := Tryd.underlying2
  have a2 := Tryd.isAgg2
  have z2 := Tryd.sizeOf2
  have u9 := Tryd.underlying9
  have a9 := Tryd.isAgg9
  have z9 := Tryd.sizeOf9
  have hS : Tryd.prog.underlying 50 = some (.struct (Tryd.prog.fieldsOf 50)) := by kernel_rfl
  have hp : Tryd.prog.stoodInHeld 50 = false := by kernel_rfl
  rw [show (10000 : Nat) = 9999 + 1 from rfl, run_equalIn_agg w 9999 50 _ _ hS hp]
  simp only [Program.fieldsOf, Tryd.underlying50]
  go_simp
  unfold samP
  by_cases h1 : x.name.toList = y.name.toList <;> by_cases h2 : x.lo = y.lo <;> by_cases h3 : x.hi = y.hi <;> simp [h1, h2, h3]

def HaveP (W : World) (a : Option Addr) (c : Nat) (l : List Pa) : Prop := l.length ≤ c ∧ c * 32 ≤ 140737488351232 ∧ RowIn W a 3 (l.map Pa.cells)
set_option maxRecDepth 100000 in
set_option maxHeartbeats 4000000 in
theorem equalP_any (l t : List Pa) (a a' : Option Addr) (c c' : Nat) (w : World) (hin : HaveP w a c l) (hin' : HaveP w a' c' t) :
    Calls Tryd.prog 37 #[.slice a l.length c, .slice a' t.length c'] w fun e w' => e = .returned (.bool (samPs l t)) ∧ Below w.heap.size w w' := by
  have HA : Hid (HaveP w a c l) := hin
  have HB : Hid (HaveP w a' c' t) := hin'
  have hl := hin.1
  have hc := hin.2.1
  have hl' := hin'.1
  have hc' := hin'.2.1
  clear hin hin'
  by_cases hle : l.length = t.length
  · have HL : Hid (l.length = t.length) := hle
    rw [← hle] at hl' ⊢
    clear hle
    go_enter Tryd.func37, Tryd.ntmps37
    go_wp2_with fail
    go_loopw [13] (fun t13 wr => ∃ (j nq : Nat), j ≤ l.length ∧ t13 = .int .i64 j ∧ samPs (l.drop j) (t.drop j) = samPs l t ∧ wr = w.drewN nq) (fun t13 _ => l.length - (intOf t13).toNat)
    case atStart => exact ⟨0, 0, Nat.zero_le _, rfl, rfl, rfl⟩
    case round =>
      obtain ⟨j, nq, hj, rfl, hcnt, rfl⟩ := hrel
      have HC : Hid (samPs (l.drop j) (t.drop j) = samPs l t) := hcnt
      clear hcnt
      by_cases hlt : j < l.length
      · have hlt' : j < t.length := by have := HL.out; omega
        obtain ⟨b, o, rfl, c0, c1, c2⟩ := rowP_at HA.out.2.2 hlt
        obtain ⟨b', o', rfl, d0, d1, d2⟩ := rowP_at HB.out.2.2 hlt'
        have hli : (j : Int) < (l.length : Int) := by omega
        have HD : Hid (samPs (l.drop j) (t.drop j) = (samP l[j] t[j] && samPs (l.drop (j + 1)) (t.drop (j + 1)))) := samPs_drop hlt hlt'
        generalize l[j] = x at *
        generalize t[j] = y at *
        clear hlt'
        go_wp2_with fail
        have hq := fun w => equalIn_pa x y w
        have hg : ∀ (w : World) (op : BinOp) (a b : Operand) (xs ys : Array Value), (eqGuard op 50 a b (.agg xs) (.agg ys)).run Tryd.prog w = .ok () w := fun w op a b xs ys => run_eqGuard_agg w op 50 a b xs ys (by kernel_rfl)
        go_quiet (fail)
        clear hq hg
        cases ev : samP x y
        · rw [ev] at HD
          go_wp2_with fail
          go_ret
          exact ⟨ret_bool (by rw [← HC.out, HD.out]; rfl), ((Below.refl _ w).drewN _).drewN _⟩
        · rw [ev] at HD
          go_wp2_with fail
          go_roundw
          case rel => exact ⟨j + 1, _, by omega, by go_num, by rw [← HC.out, HD.out]; rfl, rfl⟩
          case measure => simp [intOf]; omega
      · go_wp2_with fail
        go_ret
        refine ⟨ret_bool ?_, (Below.refl _ w).drewN _⟩
        rw [← HC.out, List.drop_eq_nil_of_le (by omega), List.drop_eq_nil_of_le (by have := HL.out; omega)]; rfl
  · have hne : ((l.length : Int) != (t.length : Int)) = true := by simp only [bne_iff_ne]; omega
    go_enter Tryd.func37, Tryd.ntmps37
    go_wp2_with fail
    go_ret
    exact ⟨ret_bool (by rw [samPs_len hle]), Below.refl _ w⟩

def samF (x y : Fu) : Bool := x.name.toList == y.name.toList && (samPs x.params y.params && samSs x.body y.body)
def samFs : List Fu → List Fu → Bool
  | [], [] => true
  | x :: r, y :: t => samF x y && samFs r t
  | [], _ :: _ => false
  | _ :: _, [] => false
theorem samFs_len : ∀ {l t : List Fu}, l.length ≠ t.length → samFs l t = false
  | [], [], h => by simp at h
  | [], _ :: _, _ => by simp [samFs]
  | _ :: _, [], _ => by simp [samFs]
  | x :: r, y :: t, h => by simp only [samFs]; rw [samFs_len (by simpa using h)]; simp
theorem samFs_drop {l t : List Fu} {j : Nat} (h : j < l.length) (h' : j < t.length) : samFs (l.drop j) (t.drop j) = (samF l[j] t[j] && samFs (l.drop (j + 1)) (t.drop (j + 1))) := by
  rw [List.drop_eq_getElem_cons h, List.drop_eq_getElem_cons h', samFs]

set_option maxRecDepth 100000 in
set_option maxHeartbeats 4000000 in
theorem sameFn_any (x y : Fu) (w : World) (hx : x.In w) (hy : y.In w) : Calls Tryd.prog 23 #[x.val, y.val] w fun e w' => e = .returned (.bool (samF x y)) ∧ Below w.heap.size w w' := by
  have hb1 := ((Below.refl _ w).alloc (Nat.le_refl _) (.cells #[.string x.name, .slice x.pa x.params.length x.pc, .slice x.ba x.body.length x.bc] 36)).alloc (by simp) (.cells #[.string y.name, .slice y.pa y.params.length y.pc, .slice y.ba y.body.length y.bc] 36)
  have HP : Hid (∀ w', Below w.heap.size w w' → Calls Tryd.prog 37 #[.slice x.pa x.params.length x.pc, .slice y.pa y.params.length y.pc] w' fun e w'' => e = .returned (.bool (samPs x.params y.params)) ∧ Below w'.heap.size w' w'') := fun w' hb => equalP_any _ _ _ _ _ _ w' ⟨hx.2.1, hx.2.2.1, hx.2.2.2.2.1.below hb⟩ ⟨hy.2.1, hy.2.2.1, hy.2.2.2.2.1.below hb⟩
  have HS : Hid (∀ w', Below w.heap.size w w' → Calls Tryd.prog 38 #[.slice x.ba x.body.length x.bc, .slice y.ba y.body.length y.bc] w' fun e w'' => e = .returned (.bool (samSs x.body y.body)) ∧ Below w'.heap.size w' w'') := fun w' hb => sameStmts_any _ _ _ _ _ _ w' (hx.2.2.2.2.2.2.stay hb) (hy.2.2.2.2.2.2.stay hb)
  have HE : Hid (samF x y = (x.name.toList == y.name.toList && (samPs x.params y.params && samSs x.body y.body))) := (rfl : samF x y = _)
  clear hx hy
  generalize samF x y = res at HE ⊢
  generalize samPs x.params y.params = rp at HE HP
  generalize samSs x.body y.body = rs at HE HS
  unfold Fu.val
  cases e1 : (x.name.toList == y.name.toList)
  · go_enter Tryd.func23, Tryd.ntmps23
    go_wp2_with fail
    go_ret
    exact ⟨ret_bool (by rw [HE.out, e1]; rfl), hb1⟩
  · go_enter Tryd.func23, Tryd.ntmps23
    go_wp2_with fail
    refine (HP.out _ hb1).mono ?_
    rintro e w1 ⟨rfl, k0⟩
    obtain ⟨hX, hY, _⟩ := two_cells k0
    have c2 := hX 2 _ rfl
    have d2 := hY 2 _ rfl
    have hb2 : Below w.heap.size w w1 := hb1.trans (k0.mono hb1.size)
    clear hX hY k0 hb1
    cases rp
    · go_wp2_with fail
      go_ret
      exact ⟨ret_bool (by rw [HE.out, e1]; rfl), hb2⟩
    · go_wp2_with fail
      refine (HS.out _ hb2).mono ?_
      rintro e w2 ⟨rfl, k1⟩
      go_wp2_with fail
      go_ret
      exact ⟨ret_bool (by rw [HE.out, e1]; rfl), hb2.trans (k1.mono hb2.size)⟩
end Go.Proofs.YtbpemackmadhgabDoor

/- slices.EqualFunc at functions. -/
namespace Go.Proofs.YtbpemackmadhgabDoor
open Go.RowKit

theorem rowF_cells {W : World} {a : Option Addr} {l : List Fu} (h : RowIn W a 3 (l.map Fu.cells)) {i : Nat} (hi : i < l.length) :
    ∃ b o, a = some ⟨b, o, none⟩ ∧ ∀ j v, l[i].cells[j]? = some v → W.cell? ⟨b, o + (i * 3 + j), none⟩ = some v := h i l[i].cells (by simp [hi])
def HaveF (W : World) (a : Option Addr) (c : Nat) (l : List Fu) : Prop := (l.length ≤ c ∧ c * 64 ≤ 140737488351232 ∧ RowIn W a 3 (l.map Fu.cells)) ∧ ∀ x ∈ l, x.In W
set_option maxRecDepth 100000 in
set_option maxHeartbeats 8000000 in
theorem eqF_step (h1 : ∀ (x y : Fu) (w : World), x.In w → y.In w → Calls Tryd.prog 23 #[x.val, y.val] w fun e w' => e = .returned (.bool (samF x y)) ∧ Below w.heap.size w w')
    (l t : List Fu) (a a' : Option Addr) (c c' : Nat) (w : World) (hin : HaveF w a c l) (hin' : HaveF w a' c' t) :
    Calls Tryd.prog 22 #[.slice a l.length c, .slice a' t.length c', .func (.func 23) #[] #[]] w fun e w' => e = .returned (.bool (samFs l t)) ∧ Below w.heap.size w w' := by
  have IH : Hid (∀ (x y : Fu) (w : World), x.In w → y.In w → Calls Tryd.prog 23 #[x.val, y.val] w fun e w' => e = .returned (.bool (samF x y)) ∧ Below w.heap.size w w') := h1
  have HA : Hid (HaveF w a c l) := hin
  have HB : Hid (HaveF w a' c' t) := hin'
  have hl := hin.1.1
  have hc := hin.1.2.1
  have hl' := hin'.1.1
  have hc' := hin'.1.2.1
  clear h1 hin hin'
  by_cases hle : l.length = t.length
  · have HL : Hid (l.length = t.length) := hle
    rw [← hle] at hl' ⊢
    clear hle
    go_enter Tryd.func22, Tryd.ntmps22
    go_wp2_with fail
    go_loopw [17] (fun t17 wr => ∃ (j : Nat), j ≤ l.length ∧ t17 = .int .i64 j ∧ samFs (l.drop j) (t.drop j) = samFs l t ∧ Below w.heap.size w wr) (fun t17 _ => l.length - (intOf t17).toNat)
    case atStart => exact ⟨0, Nat.zero_le _, rfl, rfl, Below.refl _ w⟩
    case round =>
      obtain ⟨j, hj, rfl, hcnt, hb⟩ := hrel
      have HC : Hid (samFs (l.drop j) (t.drop j) = samFs l t) := hcnt
      clear hcnt
      have hws := hb.size
      by_cases hlt : j < l.length
      · have hlt' : j < t.length := by have := HL.out; omega
        obtain ⟨b, o, rfl, hc1⟩ := rowF_cells (HA.out.1.2.2.below hb) hlt
        obtain ⟨b', o', rfl, hc2⟩ := rowF_cells (HB.out.1.2.2.below hb) hlt'
        have c0 := hc1 0 _ rfl
        have d0 := hc2 0 _ rfl
        have c1 := hc1 1 _ rfl
        have d1 := hc2 1 _ rfl
        have c2 := hc1 2 _ rfl
        have d2 := hc2 2 _ rfl
        simp only [← Nat.add_assoc, Nat.add_zero] at c0 d0 c1 d1 c2 d2
        clear hc1 hc2
        have hbl : b < wr.heap.size := lt_of_cell c0
        have hbl' : b' < wr.heap.size := lt_of_cell d0
        have hli : (j : Int) < (l.length : Int) := by omega
        have HY : Hid (l[j].In w) := HA.out.2 l[j] (List.getElem_mem hlt)
        have HY' : Hid (t[j].In w) := HB.out.2 t[j] (List.getElem_mem hlt')
        have HD : Hid (samFs (l.drop j) (t.drop j) = (samF l[j] t[j] && samFs (l.drop (j + 1)) (t.drop (j + 1)))) := samFs_drop hlt hlt'
        generalize l[j] = x at *
        generalize t[j] = y at *
        have hb2 := (hb.alloc hws (.cells #[.string x.name, .slice x.pa x.params.length x.pc, .slice x.ba x.body.length x.bc] 36)).alloc (by simp; omega) (.cells #[.string y.name, .slice y.pa y.params.length y.pc, .slice y.ba y.body.length y.bc] 36)
        have hs2 := hb2.size
        go_wp2_with fail
        refine (IH.out x y _ (HY.out.stay hb2) (HY'.out.stay hb2)).mono ?_
        rintro e w' ⟨rfl, hb'⟩
        have hb4 : Below w.heap.size w w' := hb2.trans (hb'.mono hs2)
        clear c0 d0 c1 d1 c2 d2
        cases ev : samF x y
        · rw [ev] at HD
          go_wp2_with fail
          go_ret
          exact ⟨ret_bool (by rw [← HC.out, HD.out]; rfl), hb4⟩
        · rw [ev] at HD
          go_wp2_with fail
          go_roundw
          case rel => exact ⟨j + 1, by omega, by go_num, by rw [← HC.out, HD.out]; rfl, hb4⟩
          case measure => simp [intOf]; omega
      · go_wp2_with fail
        go_ret
        refine ⟨ret_bool ?_, hb⟩
        rw [← HC.out, List.drop_eq_nil_of_le (by omega), List.drop_eq_nil_of_le (by have := HL.out; omega)]; simp [samFs]
  · have hne : ((l.length : Int) != (t.length : Int)) = true := by simp only [bne_iff_ne]; omega
    go_enter Tryd.func22, Tryd.ntmps22
    go_wp2_with fail
    go_ret
    exact ⟨ret_bool (by rw [samFs_len hle]), Below.refl _ w⟩
end Go.Proofs.YtbpemackmadhgabDoor

/- tree.Same: are two programs the same? -/
namespace Go.Proofs.YtbpemackmadhgabDoor
open Go.RowKit

def samPr (p q : Pr) : Bool := samI p.widen q.widen && samFs p.funcs q.funcs
theorem Pr.In.thr {w : World} {p : Pr} (h : p.In w) : Thr w p.wa p.wc p.widen := ⟨h.1, h.2.1, h.2.2.2.1⟩
theorem Pr.In.haveF {w : World} {p : Pr} (h : p.In w) : HaveF w p.fa p.fc p.funcs := by
  obtain ⟨_, _, _, _, _, h6, h7, _, h9, h10⟩ := h
  exact ⟨⟨h6, h7, h9⟩, h10⟩
set_option maxRecDepth 100000 in
set_option maxHeartbeats 4000000 in
theorem same_any (p q : Pr) (w : World) (hx : p.In w) (hy : q.In w) : Calls Tryd.prog 10 #[p.val, q.val] w fun e w' => e = .returned (.bool (samPr p q)) ∧ Below w.heap.size w w' := by
  have hb1 := ((Below.refl _ w).alloc (Nat.le_refl _) (.cells #[.slice p.wa p.widen.length p.wc, .slice p.fa p.funcs.length p.fc] 25)).alloc (by simp) (.cells #[.slice q.wa q.widen.length q.wc, .slice q.fa q.funcs.length q.fc] 25)
  have HP : Hid (∀ w', Below w.heap.size w w' → Calls Tryd.prog 21 #[.slice p.wa p.widen.length p.wc, .slice q.wa q.widen.length q.wc] w' fun e w'' => e = .returned (.bool (samI p.widen q.widen)) ∧ Below w'.heap.size w' w'') := fun w' hb => equalI_any _ _ _ _ _ _ w' (hx.stay hb).thr (hy.stay hb).thr
  have HS : Hid (∀ w', Below w.heap.size w w' → Calls Tryd.prog 22 #[.slice p.fa p.funcs.length p.fc, .slice q.fa q.funcs.length q.fc, .func (.func 23) #[] #[]] w' fun e w'' => e = .returned (.bool (samFs p.funcs q.funcs)) ∧ Below w'.heap.size w' w'') := fun w' hb => eqF_step (fun x y w hx hy => sameFn_any x y w hx hy) _ _ _ _ _ _ w' (hx.stay hb).haveF (hy.stay hb).haveF
  have HE : Hid (samPr p q = (samI p.widen q.widen && samFs p.funcs q.funcs)) := (rfl : samPr p q = _)
  clear hx hy
  generalize samPr p q = res at HE ⊢
  generalize samI p.widen q.widen = ri at HE HP
  generalize samFs p.funcs q.funcs = rf at HE HS
  unfold Pr.val
  go_enter Tryd.func10, Tryd.ntmps10
  go_wp2_with fail
  refine (HP.out _ hb1).mono ?_
  rintro e w1 ⟨rfl, k0⟩
  obtain ⟨hX, hY, _⟩ := two_cells k0
  have c1 := hX 1 _ rfl
  have d1 := hY 1 _ rfl
  have hb2 : Below w.heap.size w w1 := hb1.trans (k0.mono hb1.size)
  clear hX hY k0 hb1
  cases ri
  · go_wp2_with fail
    go_ret
    exact ⟨ret_bool (by rw [HE.out]; rfl), hb2⟩
  · go_wp2_with fail
    refine (HS.out _ hb2).mono ?_
    rintro e w2 ⟨rfl, k1⟩
    go_wp2_with fail
    go_ret
    exact ⟨ret_bool (by rw [HE.out]; rfl), hb2.trans (k1.mono hb2.size)⟩
end Go.Proofs.YtbpemackmadhgabDoor

/- Copies: programs without their addresses; the blocks in which a program lies; programs of which each list has a block of its own, with room for one more. -/
namespace Go.Proofs.YtbpemackmadhgabDoor
open Go.RowKit

/- Without addresses. -/
mutual
def Ex.er : Ex → Ex | .mk k n s _ _ l => .mk k n s none 0 (erL l)
def erL : List Ex → List Ex | [] => [] | x :: r => x.er :: erL r
end
mutual
def St.er : St → St | .mk k s n a b _ _ l _ _ e _ _ c => .mk k s n a.er b.er none 0 (erS l) none 0 (erS e) none 0 (erC c)
def Ca.er : Ca → Ca | .mk n _ _ l => .mk n none 0 (erS l)
def erS : List St → List St | [] => [] | x :: r => x.er :: erS r
def erC : List Ca → List Ca | [] => [] | x :: r => x.er :: erC r
end
def Fu.er (f : Fu) : Fu := ⟨f.name, none, 0, f.params, none, 0, erS f.body⟩
def Pr.er (p : Pr) : Pr := ⟨none, 0, p.widen, none, 0, p.funcs.map Fu.er⟩
theorem erL_map (l : List Ex) : erL l = l.map Ex.er := by induction l <;> simp_all [erL]
theorem erS_map (l : List St) : erS l = l.map St.er := by induction l <;> simp_all [erS]
theorem erC_map (l : List Ca) : erC l = l.map Ca.er := by induction l <;> simp_all [erC]
theorem Ex.er_eq (x : Ex) : x.er = .mk x.kind x.n x.name none 0 (erL x.args) := by cases x; simp only [Ex.er, Ex.kind, Ex.n, Ex.name, Ex.args]
theorem St.er_eq (s : St) : s.er = .mk s.kind s.name s.n s.a.er s.b.er none 0 (erS s.body) none 0 (erS s.els) none 0 (erC s.cases) := by
  cases s; simp only [St.er, St.kind, St.name, St.n, St.a, St.b, St.body, St.els, St.cases]
theorem Ca.er_eq (c : Ca) : c.er = .mk c.n none 0 (erS c.body) := by cases c; simp only [Ca.er, Ca.n, Ca.body]

theorem samE_er (k : Nat) : (∀ x y : Ex, x.sz ≤ k → x.er = y.er → samE x y = true) ∧ (∀ l t : List Ex, szL l ≤ k → erL l = erL t → samEs l t = true) := by
  induction k with
  | zero =>
    refine ⟨fun x y hk => by have := x.sz_args; omega, fun l t hk h => ?_⟩
    cases l with
    | nil => cases t with
      | nil => simp [samEs]
      | cons y t => simp [erL] at h
    | cons x r => rw [szL] at hk; have := x.sz_args; omega
  | succ k ih =>
    have h1 : ∀ x y : Ex, x.sz ≤ k + 1 → x.er = y.er → samE x y = true := fun x y hk h => by
      rw [x.er_eq, y.er_eq] at h
      injection h with e1 e2 e3 _ _ e6
      rw [samE_eq, e1, e2, e3, ih.2 _ _ (by have := x.sz_args; omega) e6]
      simp
    refine ⟨h1, fun l => ?_⟩
    induction l with
    | nil => intro t _ h; cases t with
      | nil => simp [samEs]
      | cons y t => simp [erL] at h
    | cons x r ihr =>
      intro t hk h
      cases t with
      | nil => simp [erL] at h
      | cons y t =>
        rw [szL] at hk
        simp only [erL, List.cons.injEq] at h
        rw [samEs, h1 x y (by omega) h.1, ihr t (by omega) h.2]; rfl

theorem samS_er (k : Nat) : (∀ x y : St, x.sz ≤ k → x.er = y.er → samS x y = true) ∧ (∀ l t : List St, ssz l ≤ k → erS l = erS t → samSs l t = true) ∧ (∀ l t : List Ca, csz l ≤ k → erC l = erC t → samCs l t = true) := by
  induction k with
  | zero =>
    refine ⟨fun x y hk => by have := x.sz_eq; omega, fun l t hk h => ?_, fun l t hk h => ?_⟩
    · cases l with
      | nil => cases t with
        | nil => simp [samSs]
        | cons y t => simp [erS] at h
      | cons x r => rw [ssz] at hk; have := x.sz_eq; omega
    · cases l with
      | nil => cases t with
        | nil => simp [samCs]
        | cons y t => simp [erC] at h
      | cons x r => rw [csz] at hk; have := x.sz_eq; omega
  | succ k ih =>
    have h1 : ∀ x y : St, x.sz ≤ k + 1 → x.er = y.er → samS x y = true := fun x y hk h => by
      rw [x.er_eq, y.er_eq] at h
      have hz := x.sz_eq
      injection h with e1 e2 e3 e4 e5 _ _ e6 _ _ e7 _ _ e8
      rw [samS_eq, e1, e2, e3, (samE_er _).1 _ _ (Nat.le_refl _) e4, (samE_er _).1 _ _ (Nat.le_refl _) e5, ih.2.1 _ _ (by omega) e6, ih.2.1 _ _ (by omega) e7, ih.2.2 _ _ (by omega) e8]
      simp
    refine ⟨h1, fun l => ?_, fun l => ?_⟩
    · induction l with
      | nil => intro t _ h; cases t with
        | nil => simp [samSs]
        | cons y t => simp [erS] at h
      | cons x r ihr =>
        intro t hk h
        cases t with
        | nil => simp [erS] at h
        | cons y t =>
          rw [ssz] at hk
          simp only [erS, List.cons.injEq] at h
          rw [samSs, h1 x y (by omega) h.1, ihr t (by omega) h.2]; rfl
    · induction l with
      | nil => intro t _ h; cases t with
        | nil => simp [samCs]
        | cons y t => simp [erC] at h
      | cons x r ihr =>
        intro t hk h
        cases t with
        | nil => simp [erC] at h
        | cons y t =>
          rw [csz] at hk
          simp only [erC, List.cons.injEq] at h
          have h2 := h.1
          rw [x.er_eq, y.er_eq] at h2
          injection h2 with e1 _ _ e4
          rw [samCs, samC_eq, e1, ih.2.1 _ _ (by have := x.sz_eq; omega) e4, ihr t (by omega) h.2]; simp
theorem samI_self (l : List Int) : samI l l = true := by induction l <;> simp_all [samI]
theorem samPs_self (l : List Pa) : samPs l l = true := by induction l <;> simp_all [samPs, samP]
theorem samPr_er {p q : Pr} (h : p.er = q.er) : samPr p q = true := by
  unfold Pr.er at h
  injection h with _ _ e1 _ _ e2
  unfold samPr
  rw [e1, samI_self, Bool.true_and]
  generalize p.funcs = l at e2
  generalize q.funcs = t at e2
  induction l generalizing t with
  | nil => cases t with
    | nil => rfl
    | cons y t => simp at e2
  | cons x r ih =>
    cases t with
    | nil => simp at e2
    | cons y t =>
      simp only [List.map_cons, List.cons.injEq] at e2
      rw [samFs, ih t e2.2, Bool.and_true]
      have := e2.1
      unfold Fu.er at this
      injection this with f1 _ _ f2 _ _ f3
      unfold samF
      rw [f1, f2, samPs_self, (samS_er _).2.1 _ _ (Nat.le_refl _) f3]; simp

/-- The blocks of a program's lists. -/
def blk : Option Addr → Nat | some a => a.block | none => 0
mutual
def Ex.bl : Ex → List Nat | .mk _ _ _ a _ l => blk a :: blL l
def blL : List Ex → List Nat | [] => [] | x :: r => x.bl ++ blL r
end
mutual
def St.bl : St → List Nat | .mk _ _ _ a b ba _ l ea _ e ca _ c => a.bl ++ (b.bl ++ (blk ba :: blS l ++ (blk ea :: blS e ++ (blk ca :: blC c))))
def Ca.bl : Ca → List Nat | .mk _ a _ l => blk a :: blS l
def blS : List St → List Nat | [] => [] | x :: r => x.bl ++ blS r
def blC : List Ca → List Nat | [] => [] | x :: r => x.bl ++ blC r
end
def Fu.bl (f : Fu) : List Nat := blk f.pa :: blk f.ba :: blS f.body
def Pr.bl (p : Pr) : List Nat := blk p.wa :: blk p.fa :: p.funcs.flatMap Fu.bl
theorem Ex.bl_eq (x : Ex) : x.bl = blk x.a :: blL x.args := by cases x; simp only [Ex.bl, Ex.a, Ex.args]
theorem St.bl_eq (s : St) : s.bl = s.a.bl ++ (s.b.bl ++ (blk s.ba :: blS s.body ++ (blk s.ea :: blS s.els ++ (blk s.ca :: blC s.cases)))) := by
  cases s; simp only [St.bl, St.a, St.b, St.ba, St.body, St.ea, St.els, St.ca, St.cases]
theorem Ca.bl_eq (c : Ca) : c.bl = blk c.ba :: blS c.body := by cases c; simp only [Ca.bl, Ca.ba, Ca.body]
theorem blL_map (l : List Ex) : blL l = l.flatMap Ex.bl := by induction l <;> simp_all [blL]
theorem blS_map (l : List St) : blS l = l.flatMap St.bl := by induction l <;> simp_all [blS]
theorem blC_map (l : List Ca) : blC l = l.flatMap Ca.bl := by induction l <;> simp_all [blC]

/-- A list has a block of its own, with room for one more, and that one is there. -/
def RowCp (W : World) (a : Option Addr) (c n B : Nat) (T : TypeId) (cs : List Value) : Prop := ∃ g, a = some ⟨g, 0, none⟩ ∧ c = n + 1 ∧ c * B ≤ 140737488351232 ∧ W.heap[g]? = some (.cells ⟨cs⟩ T (0, 0))
theorem RowCp.keep {W W' : World} {a : Option Addr} {c n B : Nat} {T : TypeId} {cs : List Value} (h : RowCp W a c n B T cs) (hk : W'.heap[blk a]? = W.heap[blk a]?) : RowCp W' a c n B T cs := by
  obtain ⟨g, rfl, h1, h2, h3⟩ := h
  exact ⟨g, rfl, h1, h2, hk.trans h3⟩
theorem flatC_at {α : Type} {f : α → List Value} {k : Nat} (hf : ∀ x, (f x).length = k) (r : List Value) : ∀ (l : List α) (i : Nat) (x : α) (j : Nat), l[i]? = some x → j < k → (l.flatMap f ++ r)[i * k + j]? = (f x)[j]?
  | [], i, x, j, h, _ => by simp at h
  | y :: l, 0, x, j, h, hj => by
    simp at h; subst h
    rw [List.flatMap_cons, List.append_assoc, List.getElem?_append_left (by rw [hf]; omega)]; simp
  | y :: l, i + 1, x, j, h, hj => by
    rw [List.flatMap_cons, List.append_assoc, List.getElem?_append_right (by rw [hf, Nat.add_mul]; omega), hf]
    have := flatC_at hf r l i x j (by simpa using h) hj
    rw [← this]; congr 1; rw [Nat.add_mul]; omega
theorem RowCp.row {W : World} {a : Option Addr} {c n B : Nat} {T : TypeId} {α : Type} {f : α → List Value} {k : Nat} {l : List α} {r : List Value} (h : RowCp W a c n B T (l.flatMap f ++ r)) (hf : ∀ x, (f x).length = k) : RowIn W a k (l.map f) := by
  obtain ⟨g, rfl, _, _, h3⟩ := h
  intro i cs hi
  rw [List.getElem?_map, Option.map_eq_some_iff] at hi
  obtain ⟨x, hx, rfl⟩ := hi
  refine ⟨g, 0, rfl, fun j v hj => ?_⟩
  have hjl := (List.getElem?_eq_some_iff.1 hj).1
  rw [hf] at hjl
  have := flatC_at hf r l i x j hx hjl
  rw [hj] at this
  simp [World.cell?, h3, this]

def senE : List Value := [.int .i64 (-77), .int .i64 0, .string ⟨#[]⟩, .slice none 0 0]
def senS : List Value := [.int .i64 (-77), .string ⟨#[]⟩, .int .i64 0, .int .i64 0, .int .i64 0, .string ⟨#[]⟩, .slice none 0 0, .int .i64 0, .int .i64 0, .string ⟨#[]⟩, .slice none 0 0, .slice none 0 0, .slice none 0 0, .slice none 0 0]
def senC : List Value := [.int .i64 (-77), .slice none 0 0]
def senP : List Value := [.string ⟨#[63]⟩, .int .i64 0, .int .i64 0]
def senF : List Value := [.string ⟨#[63]⟩, .slice none 0 0, .slice none 0 0]
mutual
def Ex.Cp (W : World) : Ex → Prop
  | .mk k n s a c l => I64 k ∧ I64 n ∧ s.size ≤ 140737488351232 ∧ RowCp W a c l.length 56 48 (l.flatMap Ex.cells ++ senE) ∧ CpL W l
def CpL (W : World) : List Ex → Prop
  | [] => True
  | x :: r => x.Cp W ∧ CpL W r
end
mutual
def St.Cp (W : World) : St → Prop
  | .mk k s n a b ba bc l ea ec e ca cc c => I64 k ∧ s.size ≤ 140737488351232 ∧ I64 n ∧ a.Cp W ∧ b.Cp W ∧ RowCp W ba bc l.length 216 53 (l.flatMap St.cells ++ senS) ∧ RowCp W ea ec e.length 216 53 (e.flatMap St.cells ++ senS) ∧ RowCp W ca cc c.length 32 59 (c.flatMap Ca.cells ++ senC) ∧ CpS W l ∧ CpS W e ∧ CpC W c
def Ca.Cp (W : World) : Ca → Prop
  | .mk n a c l => I64 n ∧ RowCp W a c l.length 216 53 (l.flatMap St.cells ++ senS) ∧ CpS W l
def CpS (W : World) : List St → Prop
  | [] => True
  | x :: r => x.Cp W ∧ CpS W r
def CpC (W : World) : List Ca → Prop
  | [] => True
  | x :: r => x.Cp W ∧ CpC W r
end
theorem cpL_mem {W : World} {l : List Ex} : CpL W l ↔ ∀ x ∈ l, x.Cp W := by induction l <;> simp_all [CpL]
theorem cpS_mem {W : World} {l : List St} : CpS W l ↔ ∀ x ∈ l, x.Cp W := by induction l <;> simp_all [CpS]
theorem cpC_mem {W : World} {l : List Ca} : CpC W l ↔ ∀ x ∈ l, x.Cp W := by induction l <;> simp_all [CpC]
theorem Ex.cp_iff {W : World} {x : Ex} : x.Cp W ↔ I64 x.kind ∧ I64 x.n ∧ x.name.size ≤ 140737488351232 ∧ RowCp W x.a x.cap x.args.length 56 48 (x.args.flatMap Ex.cells ++ senE) ∧ ∀ y ∈ x.args, y.Cp W := by
  cases x; simp only [Ex.Cp, Ex.kind, Ex.n, Ex.name, Ex.a, Ex.cap, Ex.args, cpL_mem]
theorem St.cp_iff {W : World} {s : St} : s.Cp W ↔ I64 s.kind ∧ s.name.size ≤ 140737488351232 ∧ I64 s.n ∧ s.a.Cp W ∧ s.b.Cp W ∧ RowCp W s.ba s.bc s.body.length 216 53 (s.body.flatMap St.cells ++ senS) ∧ RowCp W s.ea s.ec s.els.length 216 53 (s.els.flatMap St.cells ++ senS) ∧ RowCp W s.ca s.cc s.cases.length 32 59 (s.cases.flatMap Ca.cells ++ senC) ∧
    (∀ x ∈ s.body, x.Cp W) ∧ (∀ x ∈ s.els, x.Cp W) ∧ ∀ x ∈ s.cases, x.Cp W := by
  cases s; simp only [St.Cp, St.kind, St.name, St.n, St.a, St.b, St.ba, St.bc, St.body, St.ea, St.ec, St.els, St.ca, St.cc, St.cases, cpS_mem, cpC_mem]
theorem Ca.cp_iff {W : World} {c : Ca} : c.Cp W ↔ I64 c.n ∧ RowCp W c.ba c.bc c.body.length 216 53 (c.body.flatMap St.cells ++ senS) ∧ ∀ x ∈ c.body, x.Cp W := by
  cases c; simp only [Ca.Cp, Ca.n, Ca.ba, Ca.bc, Ca.body, cpS_mem]

theorem Ex.Cp.toIn {W : World} : ∀ (k : Nat) (x : Ex), x.sz ≤ k → x.Cp W → x.In W := by
  intro k
  induction k with
  | zero => intro x hk; have := x.sz_args; omega
  | succ k ih =>
    intro x hk h
    obtain ⟨h1, h2, h3, h4, h5⟩ := Ex.cp_iff.1 h
    have hr := h4.row (k := 4) (fun x => rfl)
    obtain ⟨g, e, e1, e2, _⟩ := h4
    refine Ex.in_iff.2 ⟨h1, h2, h3, by omega, e2, fun h => (by rw [e] at h; cases h), hr, fun y hy => ih y ?_ (h5 y hy)⟩
    have := x.sz_args; have := szL_mem hy; omega
theorem Ex.Cp.in {W : World} {x : Ex} (h : x.Cp W) : x.In W := Ex.Cp.toIn _ x (Nat.le_refl _) h
theorem cp_in {W : World} (k : Nat) : (∀ s : St, s.sz ≤ k → s.Cp W → s.In W) ∧ (∀ c : Ca, c.sz ≤ k → c.Cp W → c.In W) := by
  induction k with
  | zero => exact ⟨fun s h => by have := s.sz_eq; omega, fun c h => by have := c.sz_eq; omega⟩
  | succ k ih =>
    have lies : ∀ {a : Option Addr} {c : Nat} {l : List St}, RowCp W a c l.length 216 53 (l.flatMap St.cells ++ senS) → Lies W a c l := fun {a c l} h => by
      have hr := h.row (k := 14) (fun x => rfl)
      obtain ⟨g, e, e1, e2, _⟩ := h
      exact ⟨by omega, e2, fun h => (by rw [e] at h; cases h), hr⟩
    refine ⟨fun s hk h => ?_, fun c hk h => ?_⟩
    · obtain ⟨h1, h2, h3, h4, h5, h6, h7, h8, h9, h10, h11⟩ := St.cp_iff.1 h
      have := s.sz_eq
      have hr := h8.row (k := 2) (fun x => rfl)
      obtain ⟨g, e, e1, e2, _⟩ := h8
      refine St.in_iff.2 ⟨h1, h2, h3, h4.in, h5.in, ⟨lies h6, fun x hx => ih.1 x ?_ (h9 x hx)⟩, ⟨lies h7, fun x hx => ih.1 x ?_ (h10 x hx)⟩, ⟨by omega, e2, fun h => (by rw [e] at h; cases h), hr⟩, fun x hx => ih.2 x ?_ (h11 x hx)⟩
      · have := ssz_mem hx; omega
      · have := ssz_mem hx; omega
      · have := csz_mem hx; omega
    · obtain ⟨h1, h2, h3⟩ := Ca.cp_iff.1 h
      have := c.sz_eq
      refine Ca.in_iff.2 ⟨h1, lies h2, fun x hx => ih.1 x ?_ (h3 x hx)⟩
      have := ssz_mem hx; omega
theorem St.Cp.in {W : World} {s : St} (h : s.Cp W) : s.In W := (cp_in _).1 s (Nat.le_refl _) h

/-- What lies in blocks that are as they were is there as it was. -/
theorem Ex.Cp.keep {W W' : World} : ∀ (k : Nat) (x : Ex), x.sz ≤ k → x.Cp W → (∀ b ∈ x.bl, W'.heap[b]? = W.heap[b]?) → x.Cp W' := by
  intro k
  induction k with
  | zero => intro x hk; have := x.sz_args; omega
  | succ k ih =>
    intro x hk h hb
    obtain ⟨h1, h2, h3, h4, h5⟩ := Ex.cp_iff.1 h
    rw [x.bl_eq] at hb
    refine Ex.cp_iff.2 ⟨h1, h2, h3, h4.keep (hb _ (List.mem_cons_self ..)), fun y hy => ih y ?_ (h5 y hy) (fun b hbb => hb b (List.mem_cons_of_mem _ ?_))⟩
    · have := x.sz_args; have := szL_mem hy; omega
    · rw [blL_map]; exact List.mem_flatMap.2 ⟨y, hy, hbb⟩
theorem Ex.Cp.kept {W W' : World} {x : Ex} (h : x.Cp W) (hb : ∀ b ∈ x.bl, W'.heap[b]? = W.heap[b]?) : x.Cp W' := Ex.Cp.keep _ x (Nat.le_refl _) h hb
theorem cp_keep {W W' : World} (k : Nat) : (∀ s : St, s.sz ≤ k → s.Cp W → (∀ b ∈ s.bl, W'.heap[b]? = W.heap[b]?) → s.Cp W') ∧ (∀ c : Ca, c.sz ≤ k → c.Cp W → (∀ b ∈ c.bl, W'.heap[b]? = W.heap[b]?) → c.Cp W') := by
  induction k with
  | zero => exact ⟨fun s h => by have := s.sz_eq; omega, fun c h => by have := c.sz_eq; omega⟩
  | succ k ih =>
    refine ⟨fun s hk h hb => ?_, fun c hk h hb => ?_⟩
    · obtain ⟨h1, h2, h3, h4, h5, h6, h7, h8, h9, h10, h11⟩ := St.cp_iff.1 h
      have := s.sz_eq
      rw [s.bl_eq] at hb
      simp only [List.mem_append, List.mem_cons, List.cons_append] at hb
      refine St.cp_iff.2 ⟨h1, h2, h3, h4.kept fun b h => hb b (by simp [h]), h5.kept fun b h => hb b (by simp [h]), h6.keep (hb _ (by simp)), h7.keep (hb _ (by simp)), h8.keep (hb _ (by simp)), fun x hx => ih.1 x ?_ (h9 x hx) fun b h => hb b ?_, fun x hx => ih.1 x ?_ (h10 x hx) fun b h => hb b ?_, fun x hx => ih.2 x ?_ (h11 x hx) fun b h => hb b ?_⟩
      · have := ssz_mem hx; omega
      · have : b ∈ blS s.body := by rw [blS_map]; exact List.mem_flatMap.2 ⟨x, hx, h⟩
        simp [this]
      · have := ssz_mem hx; omega
      · have : b ∈ blS s.els := by rw [blS_map]; exact List.mem_flatMap.2 ⟨x, hx, h⟩
        simp [this]
      · have := csz_mem hx; omega
      · have : b ∈ blC s.cases := by rw [blC_map]; exact List.mem_flatMap.2 ⟨x, hx, h⟩
        simp [this]
    · obtain ⟨h1, h2, h3⟩ := Ca.cp_iff.1 h
      have := c.sz_eq
      rw [c.bl_eq] at hb
      refine Ca.cp_iff.2 ⟨h1, h2.keep (hb _ (List.mem_cons_self ..)), fun x hx => ih.1 x ?_ (h3 x hx) fun b h => hb b (List.mem_cons_of_mem _ ?_)⟩
      · have := ssz_mem hx; omega
      · rw [blS_map]; exact List.mem_flatMap.2 ⟨x, hx, h⟩
theorem St.Cp.kept {W W' : World} {s : St} (h : s.Cp W) (hb : ∀ b ∈ s.bl, W'.heap[b]? = W.heap[b]?) : s.Cp W' := (cp_keep _).1 s (Nat.le_refl _) h hb
theorem Ca.Cp.kept {W W' : World} {c : Ca} (h : c.Cp W) (hb : ∀ b ∈ c.bl, W'.heap[b]? = W.heap[b]?) : c.Cp W' := (cp_keep _).2 c (Nat.le_refl _) h hb
end Go.Proofs.YtbpemackmadhgabDoor

/- What is written of each element: thresholds, parameters. -/
namespace Go.Proofs.YtbpemackmadhgabDoor
open Go.RowKit Go.Sort

/-- A slice of strings that a call has made. -/
def Strs (w : World) (v : Value) (xs : List ByteArray) : Prop := ∃ a cap, v = .slice a xs.length cap ∧ xs.length ≤ cap ∧ (xs ≠ [] → ∃ g, a = some ⟨g, 0, none⟩ ∧ g < w.heap.size ∧ ∀ (j : Nat) x, xs[j]? = some x → w.cell? ⟨g, j, none⟩ = some (.string x))
theorem strs_own {w : World} {B : Nat} {v : Value} {xs : List ByteArray} (h : w.ownsRow B 9 1 v xs.length (xs.map Value.string)) : Strs w v xs := by
  rcases h.2 with ⟨rfl, h0⟩ | ⟨g, cap, cur, rfl, _, hg, hcap, _⟩
  · refine ⟨none, 0, by rw [h0], by omega, fun hne => absurd (List.eq_nil_of_length_eq_zero h0) hne⟩
  · refine ⟨some ⟨g, 0, none⟩, cap, rfl, hcap, fun _ => ⟨g, rfl, (Array.getElem?_eq_some_iff.1 hg).1, fun j x hj => ?_⟩⟩
    have := h.cells (g := g) rfl j (.string x) (by simp [hj])
    rwa [Addr.add_lit, Nat.zero_add] at this
theorem Tryd.infoStr : (Tryd.prog.info? 9).map (fun i => (i.zero, i.size, i.bytes)) = some (some (.string ⟨#[]⟩), 1, 16) := by kernel_rfl
theorem owns_slice {W : World} {base : Nat} {e : TypeId} {v : Value} {n : Nat} {xs : List Value} (h : W.ownsRow base e 1 v n xs) : ∃ a cap, v = .slice a n cap := by
  rcases h.2 with ⟨rfl, rfl⟩ | ⟨g, cap, _, h, _⟩
  · exact ⟨none, 0, rfl⟩
  · exact ⟨_, cap, h⟩
theorem map_take {α : Type} (f : α → ByteArray) (l : List α) (j : Nat) (h : j < l.length) : ((l.take (j + 1)).map f).map Value.string = ((l.take j).map f).map Value.string ++ [.string (f l[j])] := by
  rw [List.take_add_one, List.getElem?_eq_getElem h, Option.toList_some, List.map_append, List.map_append]; rfl

theorem owns_stay {w w' : World} {B : Nat} {e : TypeId} {v : Value} {n : Nat} {xs : List Value} (h : w.ownsRow B e 1 v n xs) (hb : Below w.heap.size w w') : w'.ownsRow B e 1 v n xs := by
  refine ⟨h.1, ?_⟩
  rcases h.2 with h0 | ⟨g, cap, cur, e, hg1, hg, r⟩
  · exact .inl h0
  · exact .inr ⟨g, cap, cur, e, hg1, (hb.block g (Array.getElem?_eq_some_iff.1 hg).1).trans hg, r⟩

set_option maxRecDepth 100000 in
set_option maxHeartbeats 4000000 in
theorem eachint64_any (l : List Int) (a : Option Addr) (c : Nat) (w : World) (hm : l.length ≤ 1000000) (hrow : RowIn w a 1 (l.map fun z => [.int .i64 z]))
    (hf : ∀ x ∈ l, ∀ w', Below w.heap.size w w' → Calls Tryd.prog 42 #[.int .i64 x] w' fun e w'' => e = .returned (sB (Lib.itoa x)) ∧ Below w'.heap.size w' w'') :
    Calls Tryd.prog 41 #[.slice a l.length c, .func (.func 42) #[] #[]] w fun e w' => ∃ v, e = .returned v ∧ Strs w' v (l.map fun x => ⟨(Lib.itoa x).toArray⟩) ∧ Below w.heap.size w w' := by
  obtain ⟨i0, hi, hz0, hz1, hz2⟩ := info_parts Tryd.infoStr
  have HI : Hid (Tryd.prog.info? 9 = some i0) := hi
  have HR : Hid (RowIn w a 1 (l.map fun z => [.int .i64 z])) := hrow
  have HF : Hid (∀ x ∈ l, ∀ w', Below w.heap.size w w' → Calls Tryd.prog 42 #[.int .i64 x] w' fun e w'' => e = .returned (sB (Lib.itoa x)) ∧ Below w'.heap.size w' w'') := hf
  clear hrow hf hi
  go_enter Tryd.func41, Tryd.ntmps41
  go_wp2_with fail
  go_loopw [5, 10] (fun t5 t10 wr => ∃ (j : Nat), j ≤ l.length ∧ t10 = .int .i64 j ∧ wr.ownsRow w.heap.size 9 1 t5 j (((l.take j).map fun x => (⟨(Lib.itoa x).toArray⟩ : ByteArray)).map Value.string) ∧ Below w.heap.size w wr) (fun _ t10 _ => l.length - (intOf t10).toNat)
  case atStart => exact ⟨0, Nat.zero_le _, rfl, World.ownsRow_nil _ _ _ _, Below.refl _ w⟩
  case round =>
    obtain ⟨j, hj, rfl, hown, hb⟩ := hrel
    obtain ⟨va, vc, rfl⟩ := owns_slice hown
    have HO : Hid (wr.ownsRow w.heap.size 9 1 (.slice va j vc) j (((l.take j).map fun x => (⟨(Lib.itoa x).toArray⟩ : ByteArray)).map Value.string)) := hown
    clear hown
    have hws := hb.size
    by_cases hlt : j < l.length
    · obtain ⟨b, o, rfl, c0⟩ := rowW_at (HR.out.below hb) hlt
      have hli : (j : Int) < (l.length : Int) := by omega
      have HT := map_take (fun x => (⟨(Lib.itoa x).toArray⟩ : ByteArray)) l j hlt
      have HM : Hid (l[j] ∈ l) := List.getElem_mem hlt
      have HT' : Hid (((l.take (j + 1)).map fun x => (⟨(Lib.itoa x).toArray⟩ : ByteArray)).map Value.string = ((l.take j).map fun x => (⟨(Lib.itoa x).toArray⟩ : ByteArray)).map Value.string ++ [.string ⟨(Lib.itoa l[j]).toArray⟩]) := HT
      clear HT
      generalize l[j] = x at *
      generalize ((l.take j).map fun x => (⟨(Lib.itoa x).toArray⟩ : ByteArray)).map Value.string = pre at HO HT'
      have hb1 : Below w.heap.size w _ := hb
      have hs1 := hb1.size
      go_wp2_with fail
      refine (HF.out x HM.out _ hb1).mono ?_
      rintro e w1 ⟨rfl, hbf⟩
      have hb2 : Below w.heap.size w w1 := hb1.trans (hbf.mono hs1)
      have hs2 := hb2.size
      have HO1 : Hid (w1.ownsRow w.heap.size 9 1 (.slice va j vc) j pre) := owns_stay HO.out hbf
      clear c0 hbf
      go_wp2_with (at_builtin; refine wpList_append_own _ rfl _ _ 84 rfl w.heap.size 9 i0 (.string ⟨#[]⟩) 1 16 Tryd.underlying84 HI.out hz0 hz1 hz2 rfl (by decide) _ _ _ rfl (HO1.out.alloc _) ⟨w1.heap.size, 0, none⟩ 1 1 [sB (Lib.itoa x)] rfl rfl (new_cell _ _ _) ?c2 ?c3 ?c4 ?c5 ?_)
      case c2 => intro u hu; simp at hu; subst hu; rfl
      case c3 => unfold maxLen; omega
      case c4 => omega
      case c5 => simp; omega
      intro v' w2 hown' hgrow _
      obtain ⟨g', cap', rfl⟩ := owns_succ hown'
      have HO' : Hid (w2.ownsRow w.heap.size 9 1 (.slice (some ⟨g', 0, none⟩) (j + 1) cap') (j + 1) (pre ++ [sB (Lib.itoa x)])) := hown'
      clear hown'
      go_wp2_with fail
      go_roundw
      case rel =>
        refine ⟨j + 1, by omega, by go_num, ?_, ?_⟩
        · rw [HT'.out]; exact HO'.out
        · exact (hb2.alloc hs2 _).grown hgrow (by simp; omega) (fun k hk => (HO1.out.lt k hk).1)
      case measure => simp [intOf]; omega
    · obtain rfl : j = l.length := by omega
      go_wp2_with fail
      go_ret
      refine ⟨_, rfl, strs_own (B := w.heap.size) ?_, hb⟩
      have := HO.out
      rw [List.take_length] at this
      simpa using this

set_option maxRecDepth 100000 in
set_option maxHeartbeats 4000000 in
theorem eachParam_any (l : List Pa) (a : Option Addr) (c : Nat) (w : World) (hm : l.length ≤ 1000000) (hrow : RowIn w a 3 (l.map Pa.cells))
    (hf : ∀ x ∈ l, ∀ w', Below w.heap.size w w' → Calls Tryd.prog 44 #[x.val] w' fun e w'' => e = .returned (sB (paB x)) ∧ Below w'.heap.size w' w'') :
    Calls Tryd.prog 43 #[.slice a l.length c, .func (.func 44) #[] #[]] w fun e w' => ∃ v, e = .returned v ∧ Strs w' v (l.map fun x => ⟨(paB x).toArray⟩) ∧ Below w.heap.size w w' := by
  obtain ⟨i0, hi, hz0, hz1, hz2⟩ := info_parts Tryd.infoStr
  have HI : Hid (Tryd.prog.info? 9 = some i0) := hi
  have HR : Hid (RowIn w a 3 (l.map Pa.cells)) := hrow
  have HF : Hid (∀ x ∈ l, ∀ w', Below w.heap.size w w' → Calls Tryd.prog 44 #[x.val] w' fun e w'' => e = .returned (sB (paB x)) ∧ Below w'.heap.size w' w'') := hf
  clear hrow hf hi
  go_enter Tryd.func43, Tryd.ntmps43
  go_wp2_with fail
  go_loopw [5, 10] (fun t5 t10 wr => ∃ (j : Nat), j ≤ l.length ∧ t10 = .int .i64 j ∧ wr.ownsRow w.heap.size 9 1 t5 j (((l.take j).map fun x => (⟨(paB x).toArray⟩ : ByteArray)).map Value.string) ∧ Below w.heap.size w wr) (fun _ t10 _ => l.length - (intOf t10).toNat)
  case atStart => exact ⟨0, Nat.zero_le _, rfl, World.ownsRow_nil _ _ _ _, Below.refl _ w⟩
  case round =>
    obtain ⟨j, hj, rfl, hown, hb⟩ := hrel
    obtain ⟨va, vc, rfl⟩ := owns_slice hown
    have HO : Hid (wr.ownsRow w.heap.size 9 1 (.slice va j vc) j (((l.take j).map fun x => (⟨(paB x).toArray⟩ : ByteArray)).map Value.string)) := hown
    clear hown
    have hws := hb.size
    by_cases hlt : j < l.length
    · obtain ⟨b, o, rfl, c0, c1, c2⟩ := rowP_at (HR.out.below hb) hlt
      have hli : (j : Int) < (l.length : Int) := by omega
      have HT := map_take (fun x => (⟨(paB x).toArray⟩ : ByteArray)) l j hlt
      have HM : Hid (l[j] ∈ l) := List.getElem_mem hlt
      have HT' : Hid (((l.take (j + 1)).map fun x => (⟨(paB x).toArray⟩ : ByteArray)).map Value.string = ((l.take j).map fun x => (⟨(paB x).toArray⟩ : ByteArray)).map Value.string ++ [.string ⟨(paB l[j]).toArray⟩]) := HT
      clear HT
      generalize l[j] = x at *
      generalize ((l.take j).map fun x => (⟨(paB x).toArray⟩ : ByteArray)).map Value.string = pre at HO HT'
      have hb1 : Below w.heap.size w _ := (hb.alloc hws (.cells #[.string x.name, .int .i64 x.lo, .int .i64 x.hi] 50))
      have hs1 := hb1.size
      go_wp2_with fail
      refine (HF.out x HM.out _ hb1).mono ?_
      rintro e w1 ⟨rfl, hbf⟩
      have hb2 : Below w.heap.size w w1 := hb1.trans (hbf.mono hs1)
      have hs2 := hb2.size
      have HO1 : Hid (w1.ownsRow w.heap.size 9 1 (.slice va j vc) j pre) := owns_stay (HO.out.alloc _) hbf
      clear c0 c1 c2 hbf
      go_wp2_with (at_builtin; refine wpList_append_own _ rfl _ _ 84 rfl w.heap.size 9 i0 (.string ⟨#[]⟩) 1 16 Tryd.underlying84 HI.out hz0 hz1 hz2 rfl (by decide) _ _ _ rfl (HO1.out.alloc _) ⟨w1.heap.size, 0, none⟩ 1 1 [sB (paB x)] rfl rfl (new_cell _ _ _) ?c2 ?c3 ?c4 ?c5 ?_)
      case c2 => intro u hu; simp at hu; subst hu; rfl
      case c3 => unfold maxLen; omega
      case c4 => omega
      case c5 => simp; omega
      intro v' w2 hown' hgrow _
      obtain ⟨g', cap', rfl⟩ := owns_succ hown'
      have HO' : Hid (w2.ownsRow w.heap.size 9 1 (.slice (some ⟨g', 0, none⟩) (j + 1) cap') (j + 1) (pre ++ [sB (paB x)])) := hown'
      clear hown'
      go_wp2_with fail
      go_roundw
      case rel =>
        refine ⟨j + 1, by omega, by go_num, ?_, ?_⟩
        · rw [HT'.out]; exact HO'.out
        · exact (hb2.alloc hs2 _).grown hgrow (by simp; omega) (fun k hk => (HO1.out.lt k hk).1)
      case measure => simp [intOf]; omega
    · obtain rfl : j = l.length := by omega
      go_wp2_with fail
      go_ret
      refine ⟨_, rfl, strs_own (B := w.heap.size) ?_, hb⟩
      have := HO.out
      rw [List.take_length] at this
      simpa using this
end Go.Proofs.YtbpemackmadhgabDoor

/- An expression's text. -/
namespace Go.Proofs.YtbpemackmadhgabDoor
open Go.RowKit

def rkE (k : Int) : Int := (formE k.toNat).rank
def sgE (k : Int) : List UInt8 := (formE k.toNat).sign.data.toList
/-- A text that must have a rank. -/
def wiB (r least : Int) (t : List UInt8) : List UInt8 := if r < least then [40] ++ t ++ [41] else t
/-- An expression's text, of its fields, its arguments' kinds and their texts. -/
def txOf (k n : Int) (s : ByteArray) (ks : List Int) (ts : List (List UInt8)) : List UInt8 :=
  if k = 1 then Lib.itoa n
  else if k = 2 then s.data.toList
  else if k = 3 then s.data.toList ++ [91] ++ ts.getD 0 [] ++ [93]
  else if k = 4 then s.data.toList ++ [40] ++ comB ts ++ [41]
  else if k = 5 ∨ k = 6 then sgE k ++ wiB (rkE (ks.getD 0 0)) (rkE k) (ts.getD 0 [])
  else if k = 20 then wiB (rkE (ks.getD 0 0)) (rkE k + 1) (ts.getD 0 []) ++ [32, 63, 32] ++ ts.getD 1 [] ++ [32, 58, 32] ++ ts.getD 2 []
  else wiB (rkE (ks.getD 0 0)) (rkE k) (ts.getD 0 []) ++ [32] ++ sgE k ++ [32] ++ wiB (rkE (ks.getD 1 0)) (rkE k + 1) (ts.getD 1 [])
mutual
def txE : Ex → List UInt8
  | .mk k n s _ _ l => txOf k n s (l.map Ex.kind) (txL l)
def txL : List Ex → List (List UInt8)
  | [] => []
  | x :: r => txE x :: txL r
end
theorem txL_map (l : List Ex) : txL l = l.map txE := by
  induction l with
  | nil => simp [txL]
  | cons x r ih => simp [txL, ih]
theorem txE_eq (x : Ex) : txE x = txOf x.kind x.n x.name (x.args.map Ex.kind) (x.args.map txE) := by
  cases x; simp only [txE, Ex.kind, Ex.n, Ex.name, Ex.args, txL_map]

/-- An expression that has a form. -/
def OkE (x : Ex) : Prop := ∃ lv, chkE x lv = 0
theorem chkL_mem {l : List Ex} {lv : Int} (h : chkL l lv = 0) : ∀ y ∈ l, chkE y lv = 0 := by
  induction l with
  | nil => intro y hy; cases hy
  | cons x r ih =>
    rw [chkL] at h
    by_cases hx : chkE x lv ≠ 0
    · rw [if_pos hx] at h; exact absurd h hx
    · rw [if_neg hx] at h
      intro y hy
      rcases List.mem_cons.1 hy with rfl | hy
      · simpa using hx
      · exact ih h y hy
theorem OkE.parts {x : Ex} (h : OkE x) : selfE x = 0 ∧ ∀ y ∈ x.args, OkE y := by
  obtain ⟨lv, h⟩ := h
  rw [chkE_eq] at h
  by_cases h1 : 32 < lv
  · rw [if_pos h1] at h; omega
  · rw [if_neg h1] at h
    by_cases h2 : selfE x ≠ 0
    · rw [if_pos h2] at h; exact absurd h h2
    · rw [if_neg h2] at h
      exact ⟨by simpa using h2, fun y hy => ⟨_, chkL_mem h y hy⟩⟩
theorem nameZ_len {s : ByteArray} (h : nameZ s = true) : s.size ≤ 16 := by
  unfold nameZ nameB at h
  rw [← ba_len]
  split at h
  · cases h
  · rename_i c r hl
    simp only [Bool.and_eq_true, decide_eq_true_eq] at h
    exact h.1.1.1
/-- What the tests on its own fields tell. -/
theorem selfE_zero {x : Ex} (h : selfE x = 0) : ∃ kn : Nat, x.kind = kn ∧ 1 ≤ kn ∧ kn ≤ 20 ∧ ((formE kn).args ≠ -1 → (x.args.length : Int) = (formE kn).args) ∧ (bits .and .i64 (formE kn).fields 1 ≠ 0 → nameZ x.name = true) ∧ 0 ≤ x.n := by
  unfold selfE at h
  split at h
  · omega
  rename_i h1
  split at h
  · omega
  split at h
  · omega
  rename_i h3
  split at h
  · omega
  rename_i h4
  split at h
  · omega
  rename_i h5
  have hk : isE x.kind = true := by simpa using h1
  simp only [isE, Bool.and_eq_true, decide_eq_true_eq] at hk
  refine ⟨x.kind.toNat, by omega, by omega, by omega, fun hne => ?_, fun hne => ?_, by omega⟩
  · simp only [Bool.and_eq_true, bne_iff_ne, not_and, Decidable.not_not] at h3
    exact h3 hne
  · simp only [Bool.and_eq_true, bne_iff_ne, Bool.not_eq_true', not_and, Bool.not_eq_false] at h4
    exact h4 hne
theorem comB_len (ts : List (List UInt8)) : (comB ts).length ≤ (ts.map fun t => t.length + 2).sum := by
  induction ts with
  | nil => simp [comB]
  | cons x r ih =>
    cases r with
    | nil => simp [comB]
    | cons y r =>
      rw [comB]
      simp only [List.length_append, List.map_cons, List.sum_cons, List.length_cons, List.length_nil] at ih ⊢
      omega
theorem wiB_len (r least : Int) (t : List UInt8) : (wiB r least t).length ≤ t.length + 2 := by
  unfold wiB; split
  · simp
  · omega
theorem sgE_len (kn : Nat) (h : kn ≤ 20) : (sgE (kn : Int)).length ≤ 2 := by
  have : ∀ k, k < 21 → (formE k).sign.data.toList.length ≤ 2 := by decide
  unfold sgE; rw [Int.toNat_natCast]; exact this kn (by omega)
theorem szL_sum (l : List Ex) : szL l = (l.map Ex.sz).sum := by
  induction l with
  | nil => simp [szL]
  | cons x r ih => rw [szL, ih]; simp
theorem Ex.sz_pos (x : Ex) : 1 ≤ x.sz := by rw [x.sz_args]; omega
theorem args_two (k : Nat) (h : 7 ≤ k) (h' : k ≤ 20) (h2 : k ≠ 20) : (formE k).args = 2 := by
  have : ∀ k, k < 21 → k < 7 ∨ k = 20 ∨ (formE k).args = 2 := by decide
  rcases this k (by omega) with h | h | h
  · omega
  · omega
  · exact h
/-- A text is no longer than this. -/
theorem txE_len {w : World} (k : Nat) : ∀ x : Ex, x.sz ≤ k → x.In w → OkE x → (txE x).length + 4 ≤ 32 * x.sz := by
  induction k with
  | zero => intro x hk; have := x.sz_pos; omega
  | succ k ih =>
    intro x hk hin hok
    obtain ⟨hself, hargs⟩ := hok.parts
    obtain ⟨kn, hkn, hk1, hk2, hlen, hname, hn⟩ := selfE_zero hself
    obtain ⟨_, hI, _, _, _, _, _, hsub⟩ := Ex.in_iff.1 hin
    have hsz := x.sz_args
    have hsub' : ∀ y ∈ x.args, (txE y).length + 4 ≤ 32 * y.sz := fun y hy => ih y (by have := szL_mem hy; omega) (hsub y hy) (hargs y hy)
    have hnm : bits .and .i64 (formE kn).fields 1 ≠ 0 → x.name.data.toList.length ≤ 16 := fun h => by rw [ba_len]; exact nameZ_len (hname h)
    rw [txE_eq, txOf, hkn]
    by_cases e1 : (kn : Int) = 1
    · rw [if_pos e1]; have := Lib.itoa_length_le x.n hI.1 hI.2; omega
    rw [if_neg e1]
    by_cases e2 : (kn : Int) = 2
    · rw [if_pos e2]; obtain rfl : kn = 2 := by omega
      have := hnm (by decide); omega
    rw [if_neg e2]
    by_cases e3 : (kn : Int) = 3
    · rw [if_pos e3]; obtain rfl : kn = 3 := by omega
      have h16 := hnm (by decide)
      have hl := hlen (by decide)
      match hx : x.args, hl with
      | [y], _ =>
        have := hsub' y (by rw [hx]; simp)
        rw [hx, szL, szL] at hsz
        simp only [List.map_cons, List.map_nil, List.getD_cons_zero, List.length_append, List.length_cons, List.length_nil]; omega
      | [], hl => simp [formE] at hl
      | _ :: _ :: _, hl => simp [formE] at hl; omega
    rw [if_neg e3]
    by_cases e4 : (kn : Int) = 4
    · rw [if_pos e4]; obtain rfl : kn = 4 := by omega
      have h16 := hnm (by decide)
      have hc := comB_len (x.args.map txE)
      have hs : ((x.args.map txE).map fun t => t.length + 2).sum ≤ 32 * szL x.args := by
        have : ∀ l : List Ex, (∀ y ∈ l, (txE y).length + 4 ≤ 32 * y.sz) → ((l.map txE).map fun t => t.length + 2).sum ≤ 32 * szL l := by
          intro l
          induction l with
          | nil => intro _; simp
          | cons y r ihr =>
            intro h
            have a1 := h y (by simp)
            have a2 := ihr (fun z hz => h z (by simp [hz]))
            rw [szL]; simp only [List.map_cons, List.sum_cons]; omega
        exact this _ hsub'
      simp only [List.length_append, List.length_cons, List.length_nil]; omega
    rw [if_neg e4]
    by_cases e5 : (kn : Int) = 5 ∨ (kn : Int) = 6
    · rw [if_pos e5]
      have hl := hlen (by rcases e5 with h | h <;> (have h' : kn = _ := Int.ofNat_inj.1 h; rw [h']; decide))
      have hla : (formE kn).args = 1 := by rcases e5 with h | h <;> (have h' : kn = _ := Int.ofNat_inj.1 h; rw [h']; rfl)
      rw [hla] at hl
      match hx : x.args, hl with
      | [y], _ =>
        have := hsub' y (by rw [hx]; simp)
        have hw := wiB_len (rkE y.kind) (rkE kn) (txE y)
        have hg := sgE_len kn hk2
        rw [hx, szL, szL] at hsz
        simp only [List.map_cons, List.map_nil, List.getD_cons_zero, List.length_append]; omega
      | [], hl => simp at hl
      | _ :: _ :: _, hl => simp at hl; omega
    rw [if_neg e5]
    by_cases e6 : (kn : Int) = 20
    · rw [if_pos e6]; obtain rfl : kn = 20 := by omega
      have hl := hlen (by decide)
      match hx : x.args, hl with
      | [y, z, u], _ =>
        have a1 := hsub' y (by rw [hx]; simp)
        have a2 := hsub' z (by rw [hx]; simp)
        have a3 := hsub' u (by rw [hx]; simp)
        have hw := wiB_len (rkE y.kind) (rkE ((20 : Nat) : Int) + 1) (txE y)
        rw [hx, szL, szL, szL, szL] at hsz
        simp only [List.map_cons, List.map_nil, List.getD_cons_zero, List.getD_cons_succ, List.length_append, List.length_cons, List.length_nil]; omega
      | [], hl => simp [formE] at hl
      | [_], hl => simp [formE] at hl
      | [_, _], hl => simp [formE] at hl
      | _ :: _ :: _ :: _ :: _, hl => simp [formE] at hl; omega
    · rw [if_neg e6]
      have hla : (formE kn).args = 2 := by
        exact args_two kn (by omega) (by omega) (by omega)
      have hl := hlen (by rw [hla]; decide)
      rw [hla] at hl
      match hx : x.args, hl with
      | [y, z], _ =>
        have a1 := hsub' y (by rw [hx]; simp)
        have a2 := hsub' z (by rw [hx]; simp)
        have hw := wiB_len (rkE y.kind) (rkE kn) (txE y)
        have hw2 := wiB_len (rkE z.kind) (rkE kn + 1) (txE z)
        have hg := sgE_len kn hk2
        rw [hx, szL, szL, szL] at hsz
        simp only [List.map_cons, List.map_nil, List.getD_cons_zero, List.getD_cons_succ, List.length_append, List.length_cons, List.length_nil]; omega
      | [], hl => simp at hl
      | [_], hl => simp at hl
      | _ :: _ :: _ :: _, hl => simp at hl; omega
end Go.Proofs.YtbpemackmadhgabDoor

/- within and expr: an expression's text. -/
namespace Go.Proofs.YtbpemackmadhgabDoor
open Go.RowKit Go.Sort

set_option maxRecDepth 100000 in
set_option maxHeartbeats 4000000 in
theorem eachExpr_any (l : List Ex) (a : Option Addr) (c : Nat) (w : World) (hm : l.length ≤ 1000000) (hrow : RowIn w a 4 (l.map Ex.cells))
    (hf : ∀ x ∈ l, ∀ w', Below w.heap.size w w' → Calls Tryd.prog 81 #[x.val] w' fun e w'' => e = .returned (sB (txE x)) ∧ Below w'.heap.size w' w'') :
    Calls Tryd.prog 95 #[.slice a l.length c, .func (.func 81) #[] #[]] w fun e w' => ∃ v, e = .returned v ∧ Strs w' v (l.map fun x => ⟨(txE x).toArray⟩) ∧ Below w.heap.size w w' := by
  obtain ⟨i0, hi, hz0, hz1, hz2⟩ := info_parts Tryd.infoStr
  have HI : Hid (Tryd.prog.info? 9 = some i0) := hi
  have HR : Hid (RowIn w a 4 (l.map Ex.cells)) := hrow
  have HF : Hid (∀ x ∈ l, ∀ w', Below w.heap.size w w' → Calls Tryd.prog 81 #[x.val] w' fun e w'' => e = .returned (sB (txE x)) ∧ Below w'.heap.size w' w'') := hf
  clear hrow hf hi
  go_enter Tryd.func95, Tryd.ntmps95
  go_wp2_with fail
  go_loopw [5, 10] (fun t5 t10 wr => ∃ (j : Nat), j ≤ l.length ∧ t10 = .int .i64 j ∧ wr.ownsRow w.heap.size 9 1 t5 j (((l.take j).map fun x => (⟨(txE x).toArray⟩ : ByteArray)).map Value.string) ∧ Below w.heap.size w wr) (fun _ t10 _ => l.length - (intOf t10).toNat)
  case atStart => exact ⟨0, Nat.zero_le _, rfl, World.ownsRow_nil _ _ _ _, Below.refl _ w⟩
  case round =>
    obtain ⟨j, hj, rfl, hown, hb⟩ := hrel
    obtain ⟨va, vc, rfl⟩ := owns_slice hown
    have HO : Hid (wr.ownsRow w.heap.size 9 1 (.slice va j vc) j (((l.take j).map fun x => (⟨(txE x).toArray⟩ : ByteArray)).map Value.string)) := hown
    clear hown
    have hws := hb.size
    by_cases hlt : j < l.length
    · obtain ⟨b, o, rfl, c0, c1, c2, c3⟩ := row_at (HR.out.below hb) hlt
      have hli : (j : Int) < (l.length : Int) := by omega
      have HT := map_take (fun x => (⟨(txE x).toArray⟩ : ByteArray)) l j hlt
      have HM : Hid (l[j] ∈ l) := List.getElem_mem hlt
      have HT' : Hid (((l.take (j + 1)).map fun x => (⟨(txE x).toArray⟩ : ByteArray)).map Value.string = ((l.take j).map fun x => (⟨(txE x).toArray⟩ : ByteArray)).map Value.string ++ [.string ⟨(txE l[j]).toArray⟩]) := HT
      clear HT
      generalize l[j] = x at *
      generalize ((l.take j).map fun x => (⟨(txE x).toArray⟩ : ByteArray)).map Value.string = pre at HO HT'
      have hb1 : Below w.heap.size w _ := (hb.alloc hws (.cells #[.int .i64 x.kind, .int .i64 x.n, .string x.name, .slice x.a x.args.length x.cap] 48))
      have hs1 := hb1.size
      go_wp2_with fail
      refine (HF.out x HM.out _ hb1).mono ?_
      rintro e w1 ⟨rfl, hbf⟩
      have hb2 : Below w.heap.size w w1 := hb1.trans (hbf.mono hs1)
      have hs2 := hb2.size
      have HO1 : Hid (w1.ownsRow w.heap.size 9 1 (.slice va j vc) j pre) := owns_stay (HO.out.alloc _) hbf
      clear c0 c1 c2 c3 hbf
      go_wp2_with (at_builtin; refine wpList_append_own _ rfl _ _ 84 rfl w.heap.size 9 i0 (.string ⟨#[]⟩) 1 16 Tryd.underlying84 HI.out hz0 hz1 hz2 rfl (by decide) _ _ _ rfl (HO1.out.alloc _) ⟨w1.heap.size, 0, none⟩ 1 1 [sB (txE x)] rfl rfl (new_cell _ _ _) ?c2 ?c3 ?c4 ?c5 ?_)
      case c2 => intro u hu; simp at hu; subst hu; rfl
      case c3 => unfold maxLen; omega
      case c4 => omega
      case c5 => simp; omega
      intro v' w2 hown' hgrow _
      obtain ⟨g', cap', rfl⟩ := owns_succ hown'
      have HO' : Hid (w2.ownsRow w.heap.size 9 1 (.slice (some ⟨g', 0, none⟩) (j + 1) cap') (j + 1) (pre ++ [sB (txE x)])) := hown'
      clear hown'
      go_wp2_with fail
      go_roundw
      case rel =>
        refine ⟨j + 1, by omega, by go_num, ?_, ?_⟩
        · rw [HT'.out]; exact HO'.out
        · exact (hb2.alloc hs2 _).grown hgrow (by simp; omega) (fun k hk => (HO1.out.lt k hk).1)
      case measure => simp [intOf]; omega
    · obtain rfl : j = l.length := by omega
      go_wp2_with fail
      go_ret
      refine ⟨_, rfl, strs_own (B := w.heap.size) ?_, hb⟩
      have := HO.out
      rw [List.take_length] at this
      simpa using this

abbrev ExprOk (k : Nat) : Prop := ∀ (x : Ex) (w : World), x.sz ≤ k → x.In w → Tabs w → NumT w → OkE x → x.sz ≤ 1000000 → Calls Tryd.prog 81 #[x.val] w fun e w' => e = .returned (sB (txE x)) ∧ Below w.heap.size w w'

set_option maxRecDepth 100000 in
set_option maxHeartbeats 4000000 in
theorem within_step (k : Nat) (h1 : ExprOk k) (x : Ex) (least : Int) (w : World) (hk : x.sz ≤ k) (hin : x.In w) (ht : Tabs w) (hnt : NumT w) (hok : OkE x) (hsz : x.sz ≤ 1000000) :
    Calls Tryd.prog 96 #[x.val, .int .i64 least] w fun e w' => e = .returned (sB (wiB (rkE x.kind) least (txE x))) ∧ Below w.heap.size w w' := by
  have hlen := txE_len (w := w) _ x (Nat.le_refl _) hin hok
  obtain ⟨kn, hkn, hk1, hk2, _⟩ := selfE_zero hok.parts.1
  have HE : Hid (∀ w', Below w.heap.size w w' → Calls Tryd.prog 81 #[x.val] w' fun e w'' => e = .returned (sB (txE x)) ∧ Below w'.heap.size w' w'') := fun w' hb => h1 x w' hk (hin.stay hb) (ht.stay hb) (hnt.stay hb) hok hsz
  have t2 := (ht.2 kn (by omega)).2.2.1
  have h1w : 1 < w.heap.size := lt_of_cell t2
  have HR : Hid (rkE x.kind = (formE kn).rank) := by show _ = _; unfold rkE; rw [hkn, Int.toNat_natCast]
  rw [HR.out]
  clear h1 hin ht hnt hok HR
  generalize (formE kn).rank = rk at t2 ⊢
  generalize txE x = tx at HE hlen ⊢
  have hb0 := (Below.refl _ w).alloc (Nat.le_refl _) (.cells #[.int .i64 x.kind, .int .i64 x.n, .string x.name, .slice x.a x.args.length x.cap] 48)
  unfold Ex.val at HE ⊢
  rw [hkn] at HE hb0 ⊢
  by_cases hr : rk < least
  · have HW : Hid (wiB rk least tx = cat [⟨#[40]⟩, ⟨tx.toArray⟩, ⟨#[41]⟩]) := by show _ = _; simp [wiB, hr, cat]
    have HLEN : Hid ((cat [⟨#[40]⟩, ⟨tx.toArray⟩, ⟨#[41]⟩]).length ≤ 140737488355328) := by show _ ≤ _; simp [cat]; omega
    go_enter Tryd.func96, Tryd.ntmps96
    go_wp2_with fail
    refine (HE.out _ hb0).mono ?_
    rintro e w1 ⟨rfl, hb1⟩
    have hb2 := Below.on hb0 hb1
    go_wp2_with fail
    refine (join_new [⟨#[40]⟩, ⟨tx.toArray⟩, ⟨#[41]⟩] w1 (Nat.le_of_ble_eq_true rfl) HLEN.out).mono ?_
    rintro e w2 ⟨rfl, hb3⟩
    go_wp2_with fail
    go_ret
    exact ⟨ret_str HW.out.symm, Below.on (Below.one hb2 _) hb3⟩
  · have HW : Hid (wiB rk least tx = tx) := by show _ = _; simp [wiB, hr]
    go_enter Tryd.func96, Tryd.ntmps96
    go_wp2_with fail
    refine (HE.out _ hb0).mono ?_
    rintro e w1 ⟨rfl, hb1⟩
    go_wp2_with fail
    go_ret
    exact ⟨ret_str HW.out.symm, Below.on hb0 hb1⟩
end Go.Proofs.YtbpemackmadhgabDoor
