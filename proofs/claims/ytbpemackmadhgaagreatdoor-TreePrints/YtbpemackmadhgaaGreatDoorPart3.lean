/- Raw data read at the types of a program are a tree that lies in memory: expressions, statements, functions, programs. -/
import Derived.Test.YtbpemackmadhgaaGreatDoorPart2
import Derived.Test.YtbpemackmadhgaaGreatDoorPart1
import Derived.Lib.ItoaLen
import Derived.Lib.ItoaNum
namespace Go.Proofs.YtbpemackmadhgaaGreatDoor
open Go.ChangeShapes Go.WideShapes Go.RowKit
set_option maxRecDepth 100000

theorem cIntO : Tryz.prog.cellsOf 3 = 1 := by kernel_rfl
theorem cI64O : Tryz.prog.cellsOf 2 = 1 := by kernel_rfl
theorem cStrO : Tryz.prog.cellsOf 9 = 1 := by kernel_rfl
theorem cEx : Tryz.prog.cellsOf 36 = 4 := by kernel_rfl
theorem cSt : Tryz.prog.cellsOf 43 = 14 := by kernel_rfl
theorem cCa : Tryz.prog.cellsOf 101 = 2 := by kernel_rfl
theorem cPa : Tryz.prog.cellsOf 38 = 3 := by kernel_rfl
theorem cFu : Tryz.prog.cellsOf 45 = 3 := by kernel_rfl
theorem cPr : Tryz.prog.cellsOf 25 = 2 := by kernel_rfl
theorem cLe : Tryz.prog.cellsOf 34 = 1 := by kernel_rfl
theorem cLs : Tryz.prog.cellsOf 40 = 1 := by kernel_rfl
theorem cLc : Tryz.prog.cellsOf 41 = 1 := by kernel_rfl
theorem cLp : Tryz.prog.cellsOf 39 = 1 := by kernel_rfl
theorem cLf : Tryz.prog.cellsOf 23 = 1 := by kernel_rfl
theorem cLi : Tryz.prog.cellsOf 22 = 1 := by kernel_rfl
theorem bEx : Tryz.prog.bytesOf 36 = 56 := by kernel_rfl
theorem bSt : Tryz.prog.bytesOf 43 = 216 := by kernel_rfl
theorem bCa : Tryz.prog.bytesOf 101 = 32 := by kernel_rfl
theorem bPa : Tryz.prog.bytesOf 38 = 32 := by kernel_rfl
theorem bFu : Tryz.prog.bytesOf 45 = 64 := by kernel_rfl
theorem bI64 : Tryz.prog.bytesOf 2 = 8 := by kernel_rfl

instance : Inhabited Ex := ⟨.mk 0 0 ⟨#[]⟩ none 0 []⟩
instance : Inhabited St := ⟨.mk 0 ⟨#[]⟩ 0 default default none 0 [] none 0 [] none 0 []⟩
instance : Inhabited Ca := ⟨.mk 0 none 0 []⟩
instance : Inhabited Pa := ⟨⟨⟨#[]⟩, 0, 0⟩⟩
instance : Inhabited Fu := ⟨⟨⟨#[]⟩, none, 0, [], none, 0, []⟩⟩

theorem len2 : ∀ l : List Value, l.length = 2 → ∃ c0 c1, l = [c0, c1]
  | [c0, c1], _ => ⟨c0, c1, rfl⟩
theorem len3 : ∀ l : List Value, l.length = 3 → ∃ c0 c1 c2, l = [c0, c1, c2]
  | [c0, c1, c2], _ => ⟨c0, c1, c2, rfl⟩
theorem len4 : ∀ l : List Value, l.length = 4 → ∃ c0 c1 c2 c3, l = [c0, c1, c2, c3]
  | [c0, c1, c2, c3], _ => ⟨c0, c1, c2, c3, rfl⟩
theorem len14 : ∀ l : List Value, l.length = 14 → ∃ c0 c1 c2 c3 c4 c5 c6 c7 c8 c9 c10 c11 c12 c13, l = [c0, c1, c2, c3, c4, c5, c6, c7, c8, c9, c10, c11, c12, c13]
  | [c0, c1, c2, c3, c4, c5, c6, c7, c8, c9, c10, c11, c12, c13], _ => ⟨c0, c1, c2, c3, c4, c5, c6, c7, c8, c9, c10, c11, c12, c13, rfl⟩

section
variable {H : Type} {enc : TypeId × Value → H} {w : World} {held : Bool}

theorem open_i {t : TypeId} {n : Nat} {c : Value} {y : DataW H × List MemPlace} (ht : Tryz.prog.underlying t = some (.int .i64)) (h : DataW.trod enc Tryz.prog w 0 (fun _ => true) held n t [c] = some y) : ∃ z, c = .int .i64 z ∧ I64 z := by
  obtain ⟨z, e, _, hw⟩ := DataW.trod_int ht h
  exact ⟨z, by simpa using e, i64_of hw⟩
theorem open_s {t : TypeId} {n : Nat} {c : Value} {y : DataW H × List MemPlace} (ht : Tryz.prog.underlying t = some .string) (h : DataW.trod enc Tryz.prog w 0 (fun _ => true) held n t [c] = some y) (hs : Small Tryz.prog t y.1) : ∃ s : ByteArray, c = .string s ∧ s.size ≤ 140737488351232 := by
  obtain ⟨s, e, rfl, _⟩ := DataW.trod_string ht h
  refine ⟨s, by simpa using e, ?_⟩
  have := hs s.data.toList.length (by rw [DataW.weights]; exact List.mem_singleton.2 rfl)
  rw [Array.length_toList] at this
  exact this

theorem fld {fs : Array Field} {n : Nat} {cs : List Value} (hf : ∀ (i : Nat) (f : Field), fs[i]? = some f → ∃ y, DataW.trod enc Tryz.prog w 0 (fun _ => true) held n f.type ((cs.drop f.offset).take (Tryz.prog.cellsOf f.type)) = some y ∧ Small Tryz.prog f.type y.1)
    (i : Nat) {f : Field} (hi : fs[i]? = some f) {t : TypeId} {o k : Nat} {l : List Value} (ht : f.type = t) (ho : f.offset = o) (hk : Tryz.prog.cellsOf t = k) (e : (cs.drop o).take k = l) :
    ∃ y, DataW.trod enc Tryz.prog w 0 (fun _ => true) held n t l = some y ∧ Small Tryz.prog t y.1 := by
  have := hf i f hi
  rw [ht, ho, hk, e] at this
  exact this

theorem open_ex : ∀ (fuel : Nat) (cs : List Value) (x : DataW H × List MemPlace), DataW.trod enc Tryz.prog w 0 (fun _ => true) held fuel 36 cs = some x → Small Tryz.prog 36 x.1 → ∃ y : Ex, cs = y.cells ∧ y.In w := by
  intro fuel
  induction fuel using Nat.strongRecOn with
  | _ fuel ih =>
    intro cs x h hs
    obtain ⟨n, rfl, hl, hf⟩ := open_field Tryz.underlying36 h hs
    rw [cEx] at hl
    obtain ⟨c0, c1, c2, c3, rfl⟩ := len4 cs hl
    obtain ⟨y0, f0, s0⟩ := fld hf 0 rfl (t := 3) (o := 0) (l := [c0]) rfl rfl cIntO rfl
    obtain ⟨y1, f1, s1⟩ := fld hf 1 rfl (t := 2) (o := 1) (l := [c1]) rfl rfl cI64O rfl
    obtain ⟨y2, f2, s2⟩ := fld hf 2 rfl (t := 9) (o := 2) (l := [c2]) rfl rfl cStrO rfl
    obtain ⟨y3, f3, s3⟩ := fld hf 3 rfl (t := 34) (o := 3) (l := [c3]) rfl rfl cLe rfl
    obtain ⟨k, rfl, hk⟩ := open_i Tryz.underlying3 f0
    obtain ⟨m, rfl, hm⟩ := open_i Tryz.underlying2 f1
    obtain ⟨s, rfl, hsz⟩ := open_s Tryz.underlying9 f2 s2
    obtain ⟨a, c, l, e, h1, h2, h3, h4, h5⟩ := open_rows (In := fun y : Ex => y.In w) Tryz.underlying34 cEx (by decide) bEx (fun m cs y hm => ih m (by omega) cs y) f3 s3
    obtain rfl : c3 = .slice a l.length c := by simpa using e
    exact ⟨.mk k m s a c l, rfl, Ex.in_iff.2 ⟨hk, hm, hsz, h1, h2, h3, h4, h5⟩⟩

theorem open_st : ∀ (fuel : Nat), (∀ (cs : List Value) (x : DataW H × List MemPlace), DataW.trod enc Tryz.prog w 0 (fun _ => true) held fuel 43 cs = some x → Small Tryz.prog 43 x.1 → ∃ y : St, cs = y.cells ∧ y.In w) ∧
    (∀ (cs : List Value) (x : DataW H × List MemPlace), DataW.trod enc Tryz.prog w 0 (fun _ => true) held fuel 101 cs = some x → Small Tryz.prog 101 x.1 → ∃ y : Ca, cs = y.cells ∧ y.In w) := by
  intro fuel
  induction fuel using Nat.strongRecOn with
  | _ fuel ih =>
    refine ⟨fun cs x h hs => ?_, fun cs x h hs => ?_⟩
    · obtain ⟨n, rfl, hl, hf⟩ := open_field Tryz.underlying43 h hs
      rw [cSt] at hl
      obtain ⟨c0, c1, c2, c3, c4, c5, c6, c7, c8, c9, c10, c11, c12, c13, rfl⟩ := len14 cs hl
      obtain ⟨y0, f0, s0⟩ := fld hf 0 rfl (t := 3) (o := 0) (l := [c0]) rfl rfl cIntO rfl
      obtain ⟨y1, f1, s1⟩ := fld hf 1 rfl (t := 9) (o := 1) (l := [c1]) rfl rfl cStrO rfl
      obtain ⟨y2, f2, s2⟩ := fld hf 2 rfl (t := 2) (o := 2) (l := [c2]) rfl rfl cI64O rfl
      obtain ⟨y3, f3, s3⟩ := fld hf 3 rfl (t := 36) (o := 3) (l := [c3, c4, c5, c6]) rfl rfl cEx rfl
      obtain ⟨y4, f4, s4⟩ := fld hf 4 rfl (t := 36) (o := 7) (l := [c7, c8, c9, c10]) rfl rfl cEx rfl
      obtain ⟨y5, f5, s5⟩ := fld hf 5 rfl (t := 40) (o := 11) (l := [c11]) rfl rfl cLs rfl
      obtain ⟨y6, f6, s6⟩ := fld hf 6 rfl (t := 40) (o := 12) (l := [c12]) rfl rfl cLs rfl
      obtain ⟨y7, f7, s7⟩ := fld hf 7 rfl (t := 41) (o := 13) (l := [c13]) rfl rfl cLc rfl
      obtain ⟨k, rfl, hk⟩ := open_i Tryz.underlying3 f0
      obtain ⟨s, rfl, hsz⟩ := open_s Tryz.underlying9 f1 s1
      obtain ⟨m, rfl, hm⟩ := open_i Tryz.underlying2 f2
      obtain ⟨xa, ea, ha⟩ := open_ex _ _ _ f3 s3
      obtain ⟨xb, eb, hb⟩ := open_ex _ _ _ f4 s4
      simp only [Ex.cells, List.cons.injEq, and_true] at ea eb
      obtain ⟨rfl, rfl, rfl, rfl⟩ := ea
      obtain ⟨rfl, rfl, rfl, rfl⟩ := eb
      obtain ⟨a1, k1, l1, e1, p1, p2, p3, p4, p5⟩ := open_rows (In := fun y : St => y.In w) Tryz.underlying40 cSt (by decide) bSt (fun m cs y hm => (ih m (by omega)).1 cs y) f5 s5
      obtain ⟨a2, k2, l2, e2, q1, q2, q3, q4, q5⟩ := open_rows (In := fun y : St => y.In w) Tryz.underlying40 cSt (by decide) bSt (fun m cs y hm => (ih m (by omega)).1 cs y) f6 s6
      obtain ⟨a3, k3, l3, e3, r1, r2, r3, r4, r5⟩ := open_rows (In := fun y : Ca => y.In w) Tryz.underlying41 cCa (by decide) bCa (fun m cs y hm => (ih m (by omega)).2 cs y) f7 s7
      obtain rfl : c11 = .slice a1 l1.length k1 := by simpa using e1
      obtain rfl : c12 = .slice a2 l2.length k2 := by simpa using e2
      obtain rfl : c13 = .slice a3 l3.length k3 := by simpa using e3
      exact ⟨.mk k s m xa xb a1 k1 l1 a2 k2 l2 a3 k3 l3, rfl, St.in_iff.2 ⟨hk, hsz, hm, ha, hb, ⟨⟨p1, p2, p3, p4⟩, p5⟩, ⟨⟨q1, q2, q3, q4⟩, q5⟩, ⟨r1, r2, r3, r4⟩, r5⟩⟩
    · obtain ⟨n, rfl, hl, hf⟩ := open_field Tryz.underlying101 h hs
      rw [cCa] at hl
      obtain ⟨c0, c1, rfl⟩ := len2 cs hl
      obtain ⟨y0, f0, s0⟩ := fld hf 0 rfl (t := 2) (o := 0) (l := [c0]) rfl rfl cI64O rfl
      obtain ⟨y1, f1, s1⟩ := fld hf 1 rfl (t := 40) (o := 1) (l := [c1]) rfl rfl cLs rfl
      obtain ⟨m, rfl, hm⟩ := open_i Tryz.underlying2 f0
      obtain ⟨a1, k1, l1, e1, p1, p2, p3, p4, p5⟩ := open_rows (In := fun y : St => y.In w) Tryz.underlying40 cSt (by decide) bSt (fun m cs y hm => (ih m (by omega)).1 cs y) f1 s1
      obtain rfl : c1 = .slice a1 l1.length k1 := by simpa using e1
      exact ⟨.mk m a1 k1 l1, rfl, Ca.in_iff.2 ⟨hm, ⟨⟨p1, p2, p3, p4⟩, p5⟩⟩⟩

theorem open_pa (fuel : Nat) (cs : List Value) (x : DataW H × List MemPlace) (h : DataW.trod enc Tryz.prog w 0 (fun _ => true) held fuel 38 cs = some x) (hs : Small Tryz.prog 38 x.1) : ∃ y : Pa, cs = y.cells ∧ y.Ok := by
  obtain ⟨n, rfl, hl, hf⟩ := open_field Tryz.underlying38 h hs
  rw [cPa] at hl
  obtain ⟨c0, c1, c2, rfl⟩ := len3 cs hl
  obtain ⟨y0, f0, s0⟩ := fld hf 0 rfl (t := 9) (o := 0) (l := [c0]) rfl rfl cStrO rfl
  obtain ⟨y1, f1, s1⟩ := fld hf 1 rfl (t := 2) (o := 1) (l := [c1]) rfl rfl cI64O rfl
  obtain ⟨y2, f2, s2⟩ := fld hf 2 rfl (t := 2) (o := 2) (l := [c2]) rfl rfl cI64O rfl
  obtain ⟨s, rfl, hsz⟩ := open_s Tryz.underlying9 f0 s0
  obtain ⟨a, rfl, ha⟩ := open_i Tryz.underlying2 f1
  obtain ⟨b, rfl, hb⟩ := open_i Tryz.underlying2 f2
  exact ⟨⟨s, a, b⟩, rfl, hsz, ha, hb⟩

theorem open_fu (fuel : Nat) (cs : List Value) (x : DataW H × List MemPlace) (h : DataW.trod enc Tryz.prog w 0 (fun _ => true) held fuel 45 cs = some x) (hs : Small Tryz.prog 45 x.1) : ∃ y : Fu, cs = y.cells ∧ y.In w := by
  obtain ⟨n, rfl, hl, hf⟩ := open_field Tryz.underlying45 h hs
  rw [cFu] at hl
  obtain ⟨c0, c1, c2, rfl⟩ := len3 cs hl
  obtain ⟨y0, f0, s0⟩ := fld hf 0 rfl (t := 9) (o := 0) (l := [c0]) rfl rfl cStrO rfl
  obtain ⟨y1, f1, s1⟩ := fld hf 1 rfl (t := 39) (o := 1) (l := [c1]) rfl rfl cLp rfl
  obtain ⟨y2, f2, s2⟩ := fld hf 2 rfl (t := 40) (o := 2) (l := [c2]) rfl rfl cLs rfl
  obtain ⟨s, rfl, hsz⟩ := open_s Tryz.underlying9 f0 s0
  obtain ⟨a1, k1, l1, e1, p1, p2, p3, p4, p5⟩ := open_rows (In := fun y : Pa => y.Ok) Tryz.underlying39 cPa (by decide) bPa (fun m cs y _ => open_pa m cs y) f1 s1
  obtain ⟨a2, k2, l2, e2, q1, q2, q3, q4, q5⟩ := open_rows (In := fun y : St => y.In w) Tryz.underlying40 cSt (by decide) bSt (fun m cs y _ => (open_st m).1 cs y) f2 s2
  obtain rfl : c1 = .slice a1 l1.length k1 := by simpa using e1
  obtain rfl : c2 = .slice a2 l2.length k2 := by simpa using e2
  exact ⟨⟨s, a1, k1, l1, a2, k2, l2⟩, rfl, hsz, p1, p2, p3, p4, p5, ⟨⟨q1, q2, q3, q4⟩, q5⟩⟩

theorem open_pr (fuel : Nat) (cs : List Value) (x : DataW H × List MemPlace) (h : DataW.trod enc Tryz.prog w 0 (fun _ => true) held fuel 25 cs = some x) (hs : Small Tryz.prog 25 x.1) :
    ∃ y : Pr, cs = [.slice y.wa y.widen.length y.wc, .slice y.fa y.funcs.length y.fc] ∧ y.In w := by
  obtain ⟨n, rfl, hl, hf⟩ := open_field Tryz.underlying25 h hs
  rw [cPr] at hl
  obtain ⟨c0, c1, rfl⟩ := len2 cs hl
  obtain ⟨y0, f0, s0⟩ := fld hf 0 rfl (t := 22) (o := 0) (l := [c0]) rfl rfl cLi rfl
  obtain ⟨y1, f1, s1⟩ := fld hf 1 rfl (t := 23) (o := 1) (l := [c1]) rfl rfl cLf rfl
  obtain ⟨a1, k1, l1, e1, p1, p2, p3, p4, p5⟩ := open_rows (α := Int) (cells := fun z => [.int .i64 z]) (In := I64) Tryz.underlying22 cI64O (by decide) bI64 (fun m cs y _ hy _ => by
    obtain ⟨z, e, _, hw⟩ := DataW.trod_int Tryz.underlying2 hy
    exact ⟨z, e, i64_of hw⟩) f0 s0
  obtain ⟨a2, k2, l2, e2, q1, q2, q3, q4, q5⟩ := open_rows (In := fun y : Fu => y.In w) Tryz.underlying23 cFu (by decide) bFu (fun m cs y _ => open_fu m cs y) f1 s1
  obtain rfl : c0 = .slice a1 l1.length k1 := by simpa using e1
  obtain rfl : c1 = .slice a2 l2.length k2 := by simpa using e2
  exact ⟨⟨a1, k1, l1, a2, k2, l2⟩, rfl, p1, p2, p3, p4, p5, q1, q2, q3, q4, q5⟩
end

/-- An argument that is a program. -/
theorem open_program {H : Type} {enc : TypeId × Value → H} {W : World} {base : Nat} {v : Value} {d : DataW H} {p : List MemPlace} (hv : Value.okWide Tryz.prog W .any base 25 v)
    (h : DataW.Trod enc Tryz.prog W 0 (fun _ => true) true 25 v d p) (hs : Small Tryz.prog 25 d) : ∃ y : Pr, v = y.val ∧ y.In W := by
  obtain ⟨cs, rfl, hsz⟩ := okWide_struct (P := Tryz.prog) (t := 25) (v := v) (r := .any) (base := base) (w := W) Tryz.underlying25 hv
  obtain ⟨fuel, hf⟩ := h
  obtain ⟨y, e, hy⟩ := open_pr fuel _ (d, p) hf hs
  refine ⟨y, ?_, hy⟩
  rw [Pr.val]
  congr 1
  have e' : cs.toList = [.slice y.wa y.widen.length y.wc, .slice y.fa y.funcs.length y.fc] := by simpa [Value.cells] using e
  rw [← Array.toList_inj, e']
end Go.Proofs.YtbpemackmadhgaaGreatDoor

/- What is written of each element: thresholds, parameters. -/
namespace Go.Proofs.YtbpemackmadhgaaGreatDoor
open Go.RowKit Go.Sort

/-- A slice of strings that a call has made. -/
def Strs (w : World) (v : Value) (xs : List ByteArray) : Prop := ∃ a cap, v = .slice a xs.length cap ∧ xs.length ≤ cap ∧ (xs ≠ [] → ∃ g, a = some ⟨g, 0, none⟩ ∧ g < w.heap.size ∧ ∀ (j : Nat) x, xs[j]? = some x → w.cell? ⟨g, j, none⟩ = some (.string x))
theorem strs_own {w : World} {B : Nat} {v : Value} {xs : List ByteArray} (h : w.ownsRow B 9 1 v xs.length (xs.map Value.string)) : Strs w v xs := by
  rcases h.2 with ⟨rfl, h0⟩ | ⟨g, cap, cur, rfl, _, hg, hcap, _⟩
  · refine ⟨none, 0, by rw [h0], by omega, fun hne => absurd (List.eq_nil_of_length_eq_zero h0) hne⟩
  · refine ⟨some ⟨g, 0, none⟩, cap, rfl, hcap, fun _ => ⟨g, rfl, (Array.getElem?_eq_some_iff.1 hg).1, fun j x hj => ?_⟩⟩
    have := h.cells (g := g) rfl j (.string x) (by simp [hj])
    rwa [Addr.add_lit, Nat.zero_add] at this
theorem Tryz.infoStr : (Tryz.prog.info? 9).map (fun i => (i.zero, i.size, i.bytes)) = some (some (.string ⟨#[]⟩), 1, 16) := by kernel_rfl
theorem owns_slice {W : World} {base : Nat} {e : TypeId} {v : Value} {n : Nat} {xs : List Value} (h : W.ownsRow base e 1 v n xs) : ∃ a cap, v = .slice a n cap := by
  rcases h.2 with ⟨rfl, rfl⟩ | ⟨g, cap, _, h, _⟩
  · exact ⟨none, 0, rfl⟩
  · exact ⟨_, cap, h⟩
theorem map_take {α : Type} (f : α → ByteArray) (l : List α) (j : Nat) (h : j < l.length) : ((l.take (j + 1)).map f).map Value.string = ((l.take j).map f).map Value.string ++ [.string (f l[j])] := by
  rw [List.take_add_one, List.getElem?_eq_getElem h, Option.toList_some, List.map_append, List.map_append]; rfl

theorem owns_stay {w w' : World} {B : Nat} {e : TypeId} {v : Value} {n : Nat} {xs : List Value} (h : w.ownsRow B e 1 v n xs) (hb : Below w.heap.size w w') : w'.ownsRow B e 1 v n xs := by
  refine ⟨h.1, ?_⟩
  rcases h.2 with h0 | ⟨g, cap, cur, e, hg1, hg, r⟩
  · exact .inl h0
  · exact .inr ⟨g, cap, cur, e, hg1, (hb.block g (Array.getElem?_eq_some_iff.1 hg).1).trans hg, r⟩

set_option maxRecDepth 100000 in
set_option maxHeartbeats 4000000 in
theorem eachint64_any (l : List Int) (a : Option Addr) (c : Nat) (w : World) (hm : l.length ≤ 1000000) (hrow : RowIn w a 1 (l.map fun z => [.int .i64 z]))
    (hf : ∀ x ∈ l, ∀ w', Below w.heap.size w w' → Calls Tryz.prog 38 #[.int .i64 x] w' fun e w'' => e = .returned (sB (Lib.itoa x)) ∧ Below w'.heap.size w' w'') :
    Calls Tryz.prog 37 #[.slice a l.length c, .func (.func 38) #[] #[]] w fun e w' => ∃ v, e = .returned v ∧ Strs w' v (l.map fun x => ⟨(Lib.itoa x).toArray⟩) ∧ Below w.heap.size w w' := by
  obtain ⟨i0, hi, hz0, hz1, hz2⟩ := info_parts Tryz.infoStr
  have HI : Hid (Tryz.prog.info? 9 = some i0) := hi
  have HR : Hid (RowIn w a 1 (l.map fun z => [.int .i64 z])) := hrow
  have HF : Hid (∀ x ∈ l, ∀ w', Below w.heap.size w w' → Calls Tryz.prog 38 #[.int .i64 x] w' fun e w'' => e = .returned (sB (Lib.itoa x)) ∧ Below w'.heap.size w' w'') := hf
  clear hrow hf hi
  go_enter Tryz.func37, Tryz.ntmps37
  go_wp2_with fail
  go_loopw [5, 10] (fun t5 t10 wr => ∃ (j : Nat), j ≤ l.length ∧ t10 = .int .i64 j ∧ wr.ownsRow w.heap.size 9 1 t5 j (((l.take j).map fun x => (⟨(Lib.itoa x).toArray⟩ : ByteArray)).map Value.string) ∧ Below w.heap.size w wr) (fun _ t10 _ => l.length - (intOf t10).toNat)
  case atStart => exact ⟨0, Nat.zero_le _, rfl, World.ownsRow_nil _ _ _ _, Below.refl _ w⟩
  case round =>
    obtain ⟨j, hj, rfl, hown, hb⟩ := hrel
    obtain ⟨va, vc, rfl⟩ := owns_slice hown
    have HO : Hid (wr.ownsRow w.heap.size 9 1 (.slice va j vc) j (((l.take j).map fun x => (⟨(Lib.itoa x).toArray⟩ : ByteArray)).map Value.string)) := hown
    clear hown
    have hws := hb.size
    by_cases hlt : j < l.length
    · obtain ⟨b, o, rfl, c0⟩ := rowW_at (HR.out.below hb) hlt
      have hli : (j : Int) < (l.length : Int) := by omega
      have HT := map_take (fun x => (⟨(Lib.itoa x).toArray⟩ : ByteArray)) l j hlt
      have HM : Hid (l[j] ∈ l) := List.getElem_mem hlt
      have HT' : Hid (((l.take (j + 1)).map fun x => (⟨(Lib.itoa x).toArray⟩ : ByteArray)).map Value.string = ((l.take j).map fun x => (⟨(Lib.itoa x).toArray⟩ : ByteArray)).map Value.string ++ [.string ⟨(Lib.itoa l[j]).toArray⟩]) := HT
      clear HT
      generalize l[j] = x at *
      generalize ((l.take j).map fun x => (⟨(Lib.itoa x).toArray⟩ : ByteArray)).map Value.string = pre at HO HT'
      have hb1 : Below w.heap.size w _ := hb
      have hs1 := hb1.size
      go_wp2_with fail
      refine (HF.out x HM.out _ hb1).mono ?_
      rintro e w1 ⟨rfl, hbf⟩
      have hb2 : Below w.heap.size w w1 := hb1.trans (hbf.mono hs1)
      have hs2 := hb2.size
      have HO1 : Hid (w1.ownsRow w.heap.size 9 1 (.slice va j vc) j pre) := owns_stay HO.out hbf
      clear c0 hbf
      go_wp2_with (at_builtin; refine wpList_append_own _ rfl _ _ 81 rfl w.heap.size 9 i0 (.string ⟨#[]⟩) 1 16 Tryz.underlying81 HI.out hz0 hz1 hz2 rfl (by decide) _ _ _ rfl (HO1.out.alloc _) ⟨w1.heap.size, 0, none⟩ 1 1 [sB (Lib.itoa x)] rfl rfl (new_cell _ _ _) ?c2 ?c3 ?c4 ?c5 ?_)
      case c2 => intro u hu; simp at hu; subst hu; rfl
      case c3 => unfold maxLen; omega
      case c4 => omega
      case c5 => simp; omega
      intro v' w2 hown' hgrow _
      obtain ⟨g', cap', rfl⟩ := owns_succ hown'
      have HO' : Hid (w2.ownsRow w.heap.size 9 1 (.slice (some ⟨g', 0, none⟩) (j + 1) cap') (j + 1) (pre ++ [sB (Lib.itoa x)])) := hown'
      clear hown'
      go_wp2_with fail
      go_roundw
      case rel =>
        refine ⟨j + 1, by omega, by go_num, ?_, ?_⟩
        · rw [HT'.out]; exact HO'.out
        · exact (hb2.alloc hs2 _).grown hgrow (by simp; omega) (fun k hk => (HO1.out.lt k hk).1)
      case measure => simp [intOf]; omega
    · obtain rfl : j = l.length := by omega
      go_wp2_with fail
      go_ret
      refine ⟨_, rfl, strs_own (B := w.heap.size) ?_, hb⟩
      have := HO.out
      rw [List.take_length] at this
      simpa using this

set_option maxRecDepth 100000 in
set_option maxHeartbeats 4000000 in
theorem eachParam_any (l : List Pa) (a : Option Addr) (c : Nat) (w : World) (hm : l.length ≤ 1000000) (hrow : RowIn w a 3 (l.map Pa.cells))
    (hf : ∀ x ∈ l, ∀ w', Below w.heap.size w w' → Calls Tryz.prog 40 #[x.val] w' fun e w'' => e = .returned (sB (paB x)) ∧ Below w'.heap.size w' w'') :
    Calls Tryz.prog 39 #[.slice a l.length c, .func (.func 40) #[] #[]] w fun e w' => ∃ v, e = .returned v ∧ Strs w' v (l.map fun x => ⟨(paB x).toArray⟩) ∧ Below w.heap.size w w' := by
  obtain ⟨i0, hi, hz0, hz1, hz2⟩ := info_parts Tryz.infoStr
  have HI : Hid (Tryz.prog.info? 9 = some i0) := hi
  have HR : Hid (RowIn w a 3 (l.map Pa.cells)) := hrow
  have HF : Hid (∀ x ∈ l, ∀ w', Below w.heap.size w w' → Calls Tryz.prog 40 #[x.val] w' fun e w'' => e = .returned (sB (paB x)) ∧ Below w'.heap.size w' w'') := hf
  clear hrow hf hi
  go_enter Tryz.func39, Tryz.ntmps39
  go_wp2_with fail
  go_loopw [5, 10] (fun t5 t10 wr => ∃ (j : Nat), j ≤ l.length ∧ t10 = .int .i64 j ∧ wr.ownsRow w.heap.size 9 1 t5 j (((l.take j).map fun x => (⟨(paB x).toArray⟩ : ByteArray)).map Value.string) ∧ Below w.heap.size w wr) (fun _ t10 _ => l.length - (intOf t10).toNat)
  case atStart => exact ⟨0, Nat.zero_le _, rfl, World.ownsRow_nil _ _ _ _, Below.refl _ w⟩
  case round =>
    obtain ⟨j, hj, rfl, hown, hb⟩ := hrel
    obtain ⟨va, vc, rfl⟩ := owns_slice hown
    have HO : Hid (wr.ownsRow w.heap.size 9 1 (.slice va j vc) j (((l.take j).map fun x => (⟨(paB x).toArray⟩ : ByteArray)).map Value.string)) := hown
    clear hown
    have hws := hb.size
    by_cases hlt : j < l.length
    · obtain ⟨b, o, rfl, c0, c1, c2⟩ := rowP_at (HR.out.below hb) hlt
      have hli : (j : Int) < (l.length : Int) := by omega
      have HT := map_take (fun x => (⟨(paB x).toArray⟩ : ByteArray)) l j hlt
      have HM : Hid (l[j] ∈ l) := List.getElem_mem hlt
      have HT' : Hid (((l.take (j + 1)).map fun x => (⟨(paB x).toArray⟩ : ByteArray)).map Value.string = ((l.take j).map fun x => (⟨(paB x).toArray⟩ : ByteArray)).map Value.string ++ [.string ⟨(paB l[j]).toArray⟩]) := HT
      clear HT
      generalize l[j] = x at *
      generalize ((l.take j).map fun x => (⟨(paB x).toArray⟩ : ByteArray)).map Value.string = pre at HO HT'
      have hb1 : Below w.heap.size w _ := (hb.alloc hws (.cells #[.string x.name, .int .i64 x.lo, .int .i64 x.hi] 38))
      have hs1 := hb1.size
      go_wp2_with fail
      refine (HF.out x HM.out _ hb1).mono ?_
      rintro e w1 ⟨rfl, hbf⟩
      have hb2 : Below w.heap.size w w1 := hb1.trans (hbf.mono hs1)
      have hs2 := hb2.size
      have HO1 : Hid (w1.ownsRow w.heap.size 9 1 (.slice va j vc) j pre) := owns_stay (HO.out.alloc _) hbf
      clear c0 c1 c2 hbf
      go_wp2_with (at_builtin; refine wpList_append_own _ rfl _ _ 81 rfl w.heap.size 9 i0 (.string ⟨#[]⟩) 1 16 Tryz.underlying81 HI.out hz0 hz1 hz2 rfl (by decide) _ _ _ rfl (HO1.out.alloc _) ⟨w1.heap.size, 0, none⟩ 1 1 [sB (paB x)] rfl rfl (new_cell _ _ _) ?c2 ?c3 ?c4 ?c5 ?_)
      case c2 => intro u hu; simp at hu; subst hu; rfl
      case c3 => unfold maxLen; omega
      case c4 => omega
      case c5 => simp; omega
      intro v' w2 hown' hgrow _
      obtain ⟨g', cap', rfl⟩ := owns_succ hown'
      have HO' : Hid (w2.ownsRow w.heap.size 9 1 (.slice (some ⟨g', 0, none⟩) (j + 1) cap') (j + 1) (pre ++ [sB (paB x)])) := hown'
      clear hown'
      go_wp2_with fail
      go_roundw
      case rel =>
        refine ⟨j + 1, by omega, by go_num, ?_, ?_⟩
        · rw [HT'.out]; exact HO'.out
        · exact (hb2.alloc hs2 _).grown hgrow (by simp; omega) (fun k hk => (HO1.out.lt k hk).1)
      case measure => simp [intOf]; omega
    · obtain rfl : j = l.length := by omega
      go_wp2_with fail
      go_ret
      refine ⟨_, rfl, strs_own (B := w.heap.size) ?_, hb⟩
      have := HO.out
      rw [List.take_length] at this
      simpa using this
end Go.Proofs.YtbpemackmadhgaaGreatDoor

/- An expression's text. -/
namespace Go.Proofs.YtbpemackmadhgaaGreatDoor
open Go.RowKit

def rkE (k : Int) : Int := (formE k.toNat).rank
def sgE (k : Int) : List UInt8 := (formE k.toNat).sign.data.toList
/-- A text that must have a rank. -/
def wiB (r least : Int) (t : List UInt8) : List UInt8 := if r < least then [40] ++ t ++ [41] else t
/-- An expression's text, of its fields, its arguments' kinds and their texts. -/
def txOf (k n : Int) (s : ByteArray) (ks : List Int) (ts : List (List UInt8)) : List UInt8 :=
  if k = 1 then Lib.itoa n
  else if k = 2 then s.data.toList
  else if k = 3 then s.data.toList ++ [91] ++ ts.getD 0 [] ++ [93]
  else if k = 4 then s.data.toList ++ [40] ++ comB ts ++ [41]
  else if k = 5 ∨ k = 6 then sgE k ++ wiB (rkE (ks.getD 0 0)) (rkE k) (ts.getD 0 [])
  else if k = 20 then wiB (rkE (ks.getD 0 0)) (rkE k + 1) (ts.getD 0 []) ++ [32, 63, 32] ++ ts.getD 1 [] ++ [32, 58, 32] ++ ts.getD 2 []
  else wiB (rkE (ks.getD 0 0)) (rkE k) (ts.getD 0 []) ++ [32] ++ sgE k ++ [32] ++ wiB (rkE (ks.getD 1 0)) (rkE k + 1) (ts.getD 1 [])
mutual
def txE : Ex → List UInt8
  | .mk k n s _ _ l => txOf k n s (l.map Ex.kind) (txL l)
def txL : List Ex → List (List UInt8)
  | [] => []
  | x :: r => txE x :: txL r
end
theorem txL_map (l : List Ex) : txL l = l.map txE := by
  induction l with
  | nil => simp [txL]
  | cons x r ih => simp [txL, ih]
theorem txE_eq (x : Ex) : txE x = txOf x.kind x.n x.name (x.args.map Ex.kind) (x.args.map txE) := by
  cases x; simp only [txE, Ex.kind, Ex.n, Ex.name, Ex.args, txL_map]

/-- An expression that has a form. -/
def OkE (x : Ex) : Prop := ∃ lv, chkE x lv = 0
theorem chkL_mem {l : List Ex} {lv : Int} (h : chkL l lv = 0) : ∀ y ∈ l, chkE y lv = 0 := by
  induction l with
  | nil => intro y hy; cases hy
  | cons x r ih =>
    rw [chkL] at h
    by_cases hx : chkE x lv ≠ 0
    · rw [if_pos hx] at h; exact absurd h hx
    · rw [if_neg hx] at h
      intro y hy
      rcases List.mem_cons.1 hy with rfl | hy
      · simpa using hx
      · exact ih h y hy
theorem OkE.parts {x : Ex} (h : OkE x) : selfE x = 0 ∧ ∀ y ∈ x.args, OkE y := by
  obtain ⟨lv, h⟩ := h
  rw [chkE_eq] at h
  by_cases h1 : 32 < lv
  · rw [if_pos h1] at h; omega
  · rw [if_neg h1] at h
    by_cases h2 : selfE x ≠ 0
    · rw [if_pos h2] at h; exact absurd h h2
    · rw [if_neg h2] at h
      exact ⟨by simpa using h2, fun y hy => ⟨_, chkL_mem h y hy⟩⟩
theorem nameZ_len {s : ByteArray} (h : nameZ s = true) : s.size ≤ 16 := by
  unfold nameZ nameB at h
  rw [← ba_len]
  split at h
  · cases h
  · rename_i c r hl
    simp only [Bool.and_eq_true, decide_eq_true_eq] at h
    exact h.1.1.1
/-- What the tests on its own fields tell. -/
theorem selfE_zero {x : Ex} (h : selfE x = 0) : ∃ kn : Nat, x.kind = kn ∧ 1 ≤ kn ∧ kn ≤ 20 ∧ ((formE kn).args ≠ -1 → (x.args.length : Int) = (formE kn).args) ∧ (bits .and .i64 (formE kn).fields 1 ≠ 0 → nameZ x.name = true) ∧ 0 ≤ x.n := by
  unfold selfE at h
  split at h
  · omega
  rename_i h1
  split at h
  · omega
  split at h
  · omega
  rename_i h3
  split at h
  · omega
  rename_i h4
  split at h
  · omega
  rename_i h5
  have hk : isE x.kind = true := by simpa using h1
  simp only [isE, Bool.and_eq_true, decide_eq_true_eq] at hk
  refine ⟨x.kind.toNat, by omega, by omega, by omega, fun hne => ?_, fun hne => ?_, by omega⟩
  · simp only [Bool.and_eq_true, bne_iff_ne, not_and, Decidable.not_not] at h3
    exact h3 hne
  · simp only [Bool.and_eq_true, bne_iff_ne, Bool.not_eq_true', not_and, Bool.not_eq_false] at h4
    exact h4 hne
theorem comB_len (ts : List (List UInt8)) : (comB ts).length ≤ (ts.map fun t => t.length + 2).sum := by
  induction ts with
  | nil => simp [comB]
  | cons x r ih =>
    cases r with
    | nil => simp [comB]
    | cons y r =>
      rw [comB]
      simp only [List.length_append, List.map_cons, List.sum_cons, List.length_cons, List.length_nil] at ih ⊢
      omega
theorem wiB_len (r least : Int) (t : List UInt8) : (wiB r least t).length ≤ t.length + 2 := by
  unfold wiB; split
  · simp
  · omega
theorem sgE_len (kn : Nat) (h : kn ≤ 20) : (sgE (kn : Int)).length ≤ 2 := by
  have : ∀ k, k < 21 → (formE k).sign.data.toList.length ≤ 2 := by decide
  unfold sgE; rw [Int.toNat_natCast]; exact this kn (by omega)
theorem szL_sum (l : List Ex) : szL l = (l.map Ex.sz).sum := by
  induction l with
  | nil => simp [szL]
  | cons x r ih => rw [szL, ih]; simp
theorem Ex.sz_pos (x : Ex) : 1 ≤ x.sz := by rw [x.sz_args]; omega
theorem args_two (k : Nat) (h : 7 ≤ k) (h' : k ≤ 20) (h2 : k ≠ 20) : (formE k).args = 2 := by
  have : ∀ k, k < 21 → k < 7 ∨ k = 20 ∨ (formE k).args = 2 := by decide
  rcases this k (by omega) with h | h | h
  · omega
  · omega
  · exact h
/-- A text is no longer than this. -/
theorem txE_len {w : World} (k : Nat) : ∀ x : Ex, x.sz ≤ k → x.In w → OkE x → (txE x).length + 4 ≤ 32 * x.sz := by
  induction k with
  | zero => intro x hk; have := x.sz_pos; omega
  | succ k ih =>
    intro x hk hin hok
    obtain ⟨hself, hargs⟩ := hok.parts
    obtain ⟨kn, hkn, hk1, hk2, hlen, hname, hn⟩ := selfE_zero hself
    obtain ⟨_, hI, _, _, _, _, _, hsub⟩ := Ex.in_iff.1 hin
    have hsz := x.sz_args
    have hsub' : ∀ y ∈ x.args, (txE y).length + 4 ≤ 32 * y.sz := fun y hy => ih y (by have := szL_mem hy; omega) (hsub y hy) (hargs y hy)
    have hnm : bits .and .i64 (formE kn).fields 1 ≠ 0 → x.name.data.toList.length ≤ 16 := fun h => by rw [ba_len]; exact nameZ_len (hname h)
    rw [txE_eq, txOf, hkn]
    by_cases e1 : (kn : Int) = 1
    · rw [if_pos e1]; have := Lib.itoa_length_le x.n hI.1 hI.2; omega
    rw [if_neg e1]
    by_cases e2 : (kn : Int) = 2
    · rw [if_pos e2]; obtain rfl : kn = 2 := by omega
      have := hnm (by decide); omega
    rw [if_neg e2]
    by_cases e3 : (kn : Int) = 3
    · rw [if_pos e3]; obtain rfl : kn = 3 := by omega
      have h16 := hnm (by decide)
      have hl := hlen (by decide)
      match hx : x.args, hl with
      | [y], _ =>
        have := hsub' y (by rw [hx]; simp)
        rw [hx, szL, szL] at hsz
        simp only [List.map_cons, List.map_nil, List.getD_cons_zero, List.length_append, List.length_cons, List.length_nil]; omega
      | [], hl => simp [formE] at hl
      | _ :: _ :: _, hl => simp [formE] at hl; omega
    rw [if_neg e3]
    by_cases e4 : (kn : Int) = 4
    · rw [if_pos e4]; obtain rfl : kn = 4 := by omega
      have h16 := hnm (by decide)
      have hc := comB_len (x.args.map txE)
      have hs : ((x.args.map txE).map fun t => t.length + 2).sum ≤ 32 * szL x.args := by
        have : ∀ l : List Ex, (∀ y ∈ l, (txE y).length + 4 ≤ 32 * y.sz) → ((l.map txE).map fun t => t.length + 2).sum ≤ 32 * szL l := by
          intro l
          induction l with
          | nil => intro _; simp
          | cons y r ihr =>
            intro h
            have a1 := h y (by simp)
            have a2 := ihr (fun z hz => h z (by simp [hz]))
            rw [szL]; simp only [List.map_cons, List.sum_cons]; omega
        exact this _ hsub'
      simp only [List.length_append, List.length_cons, List.length_nil]; omega
    rw [if_neg e4]
    by_cases e5 : (kn : Int) = 5 ∨ (kn : Int) = 6
    · rw [if_pos e5]
      have hl := hlen (by rcases e5 with h | h <;> (have h' : kn = _ := Int.ofNat_inj.1 h; rw [h']; decide))
      have hla : (formE kn).args = 1 := by rcases e5 with h | h <;> (have h' : kn = _ := Int.ofNat_inj.1 h; rw [h']; rfl)
      rw [hla] at hl
      match hx : x.args, hl with
      | [y], _ =>
        have := hsub' y (by rw [hx]; simp)
        have hw := wiB_len (rkE y.kind) (rkE kn) (txE y)
        have hg := sgE_len kn hk2
        rw [hx, szL, szL] at hsz
        simp only [List.map_cons, List.map_nil, List.getD_cons_zero, List.length_append]; omega
      | [], hl => simp at hl
      | _ :: _ :: _, hl => simp at hl; omega
    rw [if_neg e5]
    by_cases e6 : (kn : Int) = 20
    · rw [if_pos e6]; obtain rfl : kn = 20 := by omega
      have hl := hlen (by decide)
      match hx : x.args, hl with
      | [y, z, u], _ =>
        have a1 := hsub' y (by rw [hx]; simp)
        have a2 := hsub' z (by rw [hx]; simp)
        have a3 := hsub' u (by rw [hx]; simp)
        have hw := wiB_len (rkE y.kind) (rkE ((20 : Nat) : Int) + 1) (txE y)
        rw [hx, szL, szL, szL, szL] at hsz
        simp only [List.map_cons, List.map_nil, List.getD_cons_zero, List.getD_cons_succ, List.length_append, List.length_cons, List.length_nil]; omega
      | [], hl => simp [formE] at hl
      | [_], hl => simp [formE] at hl
      | [_, _], hl => simp [formE] at hl
      | _ :: _ :: _ :: _ :: _, hl => simp [formE] at hl; omega
    · rw [if_neg e6]
      have hla : (formE kn).args = 2 := by
        exact args_two kn (by omega) (by omega) (by omega)
      have hl := hlen (by rw [hla]; decide)
      rw [hla] at hl
      match hx : x.args, hl with
      | [y, z], _ =>
        have a1 := hsub' y (by rw [hx]; simp)
        have a2 := hsub' z (by rw [hx]; simp)
        have hw := wiB_len (rkE y.kind) (rkE kn) (txE y)
        have hw2 := wiB_len (rkE z.kind) (rkE kn + 1) (txE z)
        have hg := sgE_len kn hk2
        rw [hx, szL, szL, szL] at hsz
        simp only [List.map_cons, List.map_nil, List.getD_cons_zero, List.getD_cons_succ, List.length_append, List.length_cons, List.length_nil]; omega
      | [], hl => simp at hl
      | [_], hl => simp at hl
      | _ :: _ :: _ :: _, hl => simp at hl; omega
end Go.Proofs.YtbpemackmadhgaaGreatDoor

/- within and expr: an expression's text. -/
namespace Go.Proofs.YtbpemackmadhgaaGreatDoor
open Go.RowKit Go.Sort

set_option maxRecDepth 100000 in
set_option maxHeartbeats 4000000 in
theorem eachExpr_any (l : List Ex) (a : Option Addr) (c : Nat) (w : World) (hm : l.length ≤ 1000000) (hrow : RowIn w a 4 (l.map Ex.cells))
    (hf : ∀ x ∈ l, ∀ w', Below w.heap.size w w' → Calls Tryz.prog 88 #[x.val] w' fun e w'' => e = .returned (sB (txE x)) ∧ Below w'.heap.size w' w'') :
    Calls Tryz.prog 108 #[.slice a l.length c, .func (.func 88) #[] #[]] w fun e w' => ∃ v, e = .returned v ∧ Strs w' v (l.map fun x => ⟨(txE x).toArray⟩) ∧ Below w.heap.size w w' := by
  obtain ⟨i0, hi, hz0, hz1, hz2⟩ := info_parts Tryz.infoStr
  have HI : Hid (Tryz.prog.info? 9 = some i0) := hi
  have HR : Hid (RowIn w a 4 (l.map Ex.cells)) := hrow
  have HF : Hid (∀ x ∈ l, ∀ w', Below w.heap.size w w' → Calls Tryz.prog 88 #[x.val] w' fun e w'' => e = .returned (sB (txE x)) ∧ Below w'.heap.size w' w'') := hf
  clear hrow hf hi
  go_enter Tryz.func108, Tryz.ntmps108
  go_wp2_with fail
  go_loopw [5, 10] (fun t5 t10 wr => ∃ (j : Nat), j ≤ l.length ∧ t10 = .int .i64 j ∧ wr.ownsRow w.heap.size 9 1 t5 j (((l.take j).map fun x => (⟨(txE x).toArray⟩ : ByteArray)).map Value.string) ∧ Below w.heap.size w wr) (fun _ t10 _ => l.length - (intOf t10).toNat)
  case atStart => exact ⟨0, Nat.zero_le _, rfl, World.ownsRow_nil _ _ _ _, Below.refl _ w⟩
  case round =>
    obtain ⟨j, hj, rfl, hown, hb⟩ := hrel
    obtain ⟨va, vc, rfl⟩ := owns_slice hown
    have HO : Hid (wr.ownsRow w.heap.size 9 1 (.slice va j vc) j (((l.take j).map fun x => (⟨(txE x).toArray⟩ : ByteArray)).map Value.string)) := hown
    clear hown
    have hws := hb.size
    by_cases hlt : j < l.length
    · obtain ⟨b, o, rfl, c0, c1, c2, c3⟩ := row_at (HR.out.below hb) hlt
      have hli : (j : Int) < (l.length : Int) := by omega
      have HT := map_take (fun x => (⟨(txE x).toArray⟩ : ByteArray)) l j hlt
      have HM : Hid (l[j] ∈ l) := List.getElem_mem hlt
      have HT' : Hid (((l.take (j + 1)).map fun x => (⟨(txE x).toArray⟩ : ByteArray)).map Value.string = ((l.take j).map fun x => (⟨(txE x).toArray⟩ : ByteArray)).map Value.string ++ [.string ⟨(txE l[j]).toArray⟩]) := HT
      clear HT
      generalize l[j] = x at *
      generalize ((l.take j).map fun x => (⟨(txE x).toArray⟩ : ByteArray)).map Value.string = pre at HO HT'
      have hb1 : Below w.heap.size w _ := (hb.alloc hws (.cells #[.int .i64 x.kind, .int .i64 x.n, .string x.name, .slice x.a x.args.length x.cap] 36))
      have hs1 := hb1.size
      go_wp2_with fail
      refine (HF.out x HM.out _ hb1).mono ?_
      rintro e w1 ⟨rfl, hbf⟩
      have hb2 : Below w.heap.size w w1 := hb1.trans (hbf.mono hs1)
      have hs2 := hb2.size
      have HO1 : Hid (w1.ownsRow w.heap.size 9 1 (.slice va j vc) j pre) := owns_stay (HO.out.alloc _) hbf
      clear c0 c1 c2 c3 hbf
      go_wp2_with (at_builtin; refine wpList_append_own _ rfl _ _ 81 rfl w.heap.size 9 i0 (.string ⟨#[]⟩) 1 16 Tryz.underlying81 HI.out hz0 hz1 hz2 rfl (by decide) _ _ _ rfl (HO1.out.alloc _) ⟨w1.heap.size, 0, none⟩ 1 1 [sB (txE x)] rfl rfl (new_cell _ _ _) ?c2 ?c3 ?c4 ?c5 ?_)
      case c2 => intro u hu; simp at hu; subst hu; rfl
      case c3 => unfold maxLen; omega
      case c4 => omega
      case c5 => simp; omega
      intro v' w2 hown' hgrow _
      obtain ⟨g', cap', rfl⟩ := owns_succ hown'
      have HO' : Hid (w2.ownsRow w.heap.size 9 1 (.slice (some ⟨g', 0, none⟩) (j + 1) cap') (j + 1) (pre ++ [sB (txE x)])) := hown'
      clear hown'
      go_wp2_with fail
      go_roundw
      case rel =>
        refine ⟨j + 1, by omega, by go_num, ?_, ?_⟩
        · rw [HT'.out]; exact HO'.out
        · exact (hb2.alloc hs2 _).grown hgrow (by simp; omega) (fun k hk => (HO1.out.lt k hk).1)
      case measure => simp [intOf]; omega
    · obtain rfl : j = l.length := by omega
      go_wp2_with fail
      go_ret
      refine ⟨_, rfl, strs_own (B := w.heap.size) ?_, hb⟩
      have := HO.out
      rw [List.take_length] at this
      simpa using this

abbrev ExprOk (k : Nat) : Prop := ∀ (x : Ex) (w : World), x.sz ≤ k → x.In w → Tabs w → NumT w → OkE x → x.sz ≤ 1000000 → Calls Tryz.prog 88 #[x.val] w fun e w' => e = .returned (sB (txE x)) ∧ Below w.heap.size w w'

set_option maxRecDepth 100000 in
set_option maxHeartbeats 4000000 in
theorem within_step (k : Nat) (h1 : ExprOk k) (x : Ex) (least : Int) (w : World) (hk : x.sz ≤ k) (hin : x.In w) (ht : Tabs w) (hnt : NumT w) (hok : OkE x) (hsz : x.sz ≤ 1000000) :
    Calls Tryz.prog 109 #[x.val, .int .i64 least] w fun e w' => e = .returned (sB (wiB (rkE x.kind) least (txE x))) ∧ Below w.heap.size w w' := by
  have hlen := txE_len (w := w) _ x (Nat.le_refl _) hin hok
  obtain ⟨kn, hkn, hk1, hk2, _⟩ := selfE_zero hok.parts.1
  have HE : Hid (∀ w', Below w.heap.size w w' → Calls Tryz.prog 88 #[x.val] w' fun e w'' => e = .returned (sB (txE x)) ∧ Below w'.heap.size w' w'') := fun w' hb => h1 x w' hk (hin.stay hb) (ht.stay hb) (hnt.stay hb) hok hsz
  have t2 := (ht.2 kn (by omega)).2.2.1
  have h1w : 1 < w.heap.size := lt_of_cell t2
  have HR : Hid (rkE x.kind = (formE kn).rank) := by show _ = _; unfold rkE; rw [hkn, Int.toNat_natCast]
  rw [HR.out]
  clear h1 hin ht hnt hok HR
  generalize (formE kn).rank = rk at t2 ⊢
  generalize txE x = tx at HE hlen ⊢
  have hb0 := (Below.refl _ w).alloc (Nat.le_refl _) (.cells #[.int .i64 x.kind, .int .i64 x.n, .string x.name, .slice x.a x.args.length x.cap] 36)
  unfold Ex.val at HE ⊢
  rw [hkn] at HE hb0 ⊢
  by_cases hr : rk < least
  · have HW : Hid (wiB rk least tx = cat [⟨#[40]⟩, ⟨tx.toArray⟩, ⟨#[41]⟩]) := by show _ = _; simp [wiB, hr, cat]
    have HLEN : Hid ((cat [⟨#[40]⟩, ⟨tx.toArray⟩, ⟨#[41]⟩]).length ≤ 140737488355328) := by show _ ≤ _; simp [cat]; omega
    go_enter Tryz.func109, Tryz.ntmps109
    go_wp2_with fail
    refine (HE.out _ hb0).mono ?_
    rintro e w1 ⟨rfl, hb1⟩
    have hb2 := Below.on hb0 hb1
    go_wp2_with fail
    refine (join_new [⟨#[40]⟩, ⟨tx.toArray⟩, ⟨#[41]⟩] w1 (Nat.le_of_ble_eq_true rfl) HLEN.out).mono ?_
    rintro e w2 ⟨rfl, hb3⟩
    go_wp2_with fail
    go_ret
    exact ⟨ret_str HW.out.symm, Below.on (Below.one hb2 _) hb3⟩
  · have HW : Hid (wiB rk least tx = tx) := by show _ = _; simp [wiB, hr]
    go_enter Tryz.func109, Tryz.ntmps109
    go_wp2_with fail
    refine (HE.out _ hb0).mono ?_
    rintro e w1 ⟨rfl, hb1⟩
    go_wp2_with fail
    go_ret
    exact ⟨ret_str HW.out.symm, Below.on hb0 hb1⟩
end Go.Proofs.YtbpemackmadhgaaGreatDoor

/- expr: the text of an expression that has a form. -/
namespace Go.Proofs.YtbpemackmadhgaaGreatDoor
open Go.RowKit Go.Sort

abbrev WithinOk (k : Nat) : Prop := ∀ (x : Ex) (least : Int) (w : World), x.sz ≤ k → x.In w → Tabs w → NumT w → OkE x → x.sz ≤ 1000000 → Calls Tryz.prog 109 #[x.val, .int .i64 least] w fun e w' => e = .returned (sB (wiB (rkE x.kind) least (txE x))) ∧ Below w.heap.size w w'
theorem seen_list {W0 : World} {b o sz i : Nat} {cs : List Value} (h : ∀ j v, cs[j]? = some v → W0.cell? ⟨b, o + (i * sz + j), none⟩ = some v) (j : Nat) (v : Value) (hj : cs[j]? = some v) : ∀ w', Below W0.heap.size W0 w' → w'.cell? ⟨b, o + (i * sz + j), none⟩ = some v := seen (h j v hj)
/-- The world behind both boxes. -/
def exW (kn n : Int) (s : ByteArray) (sl : Value) (fm : Form) (w : World) : World := (w.alloc (.cells #[.int .i64 kn, .int .i64 n, .string s, sl] 36)).alloc (.cells #[.int .i64 fm.fields, .int .i64 fm.args, .int .i64 fm.rank, .string fm.sign] 135)
theorem exW_facts (kn n : Int) (s : ByteArray) (sl : Value) (fm : Form) (w : World) : Below w.heap.size w (exW kn n s sl fm w) ∧ (exW kn n s sl fm w).cell? ⟨w.heap.size, 0, none⟩ = some (.int .i64 kn) ∧ (exW kn n s sl fm w).cell? ⟨w.heap.size, 1, none⟩ = some (.int .i64 n) ∧ (exW kn n s sl fm w).cell? ⟨w.heap.size, 2, none⟩ = some (.string s) ∧ (exW kn n s sl fm w).cell? ⟨w.heap.size, 3, none⟩ = some sl ∧ (exW kn n s sl fm w).cell? ⟨w.heap.size + 1, 2, none⟩ = some (.int .i64 fm.rank) ∧ (exW kn n s sl fm w).cell? ⟨w.heap.size + 1, 3, none⟩ = some (.string fm.sign) := by
  unfold exW
  have h1 : ∀ j, ((w.alloc (.cells #[.int .i64 kn, .int .i64 n, .string s, sl] 36)).alloc (.cells #[.int .i64 fm.fields, .int .i64 fm.args, .int .i64 fm.rank, .string fm.sign] 135)).cell? ⟨w.heap.size, j, none⟩ = (#[.int .i64 kn, .int .i64 n, .string s, sl] : Array Value)[j]? := fun j => by
    rw [World.cell?_alloc_past _ _ _ (by simp), World.cell?_alloc_at _ _ _ _ rfl]
  have h2 : ∀ j, ((w.alloc (.cells #[.int .i64 kn, .int .i64 n, .string s, sl] 36)).alloc (.cells #[.int .i64 fm.fields, .int .i64 fm.args, .int .i64 fm.rank, .string fm.sign] 135)).cell? ⟨w.heap.size + 1, j, none⟩ = (#[.int .i64 fm.fields, .int .i64 fm.args, .int .i64 fm.rank, .string fm.sign] : Array Value)[j]? := fun j => by
    rw [World.cell?_alloc_at _ _ _ _ (by simp)]
  exact ⟨((Below.refl _ w).alloc (Nat.le_refl _) _).alloc (by simp) _, h1 0, h1 1, h1 2, h1 3, h2 2, h2 3⟩

theorem row_0 {W : World} {a : Option Addr} {y : Ex} {r : List Ex} (h : RowIn W a 4 ((y :: r).map Ex.cells)) : ∃ b o, a = some ⟨b, o, none⟩ ∧ W.cell? ⟨b, o, none⟩ = some (.int .i64 y.kind) ∧ W.cell? ⟨b, o + 1, none⟩ = some (.int .i64 y.n) ∧ W.cell? ⟨b, o + 2, none⟩ = some (.string y.name) ∧ W.cell? ⟨b, o + 3, none⟩ = some (.slice y.a y.args.length y.cap) := by
  obtain ⟨b, o, e, hc⟩ := h 0 y.cells rfl
  exact ⟨b, o, e, hc 0 _ rfl, hc 1 _ rfl, hc 2 _ rfl, hc 3 _ rfl⟩
theorem row_1 {W : World} {a : Option Addr} {x y : Ex} {r : List Ex} (h : RowIn W a 4 ((x :: y :: r).map Ex.cells)) : ∃ b o, a = some ⟨b, o, none⟩ ∧ W.cell? ⟨b, o + 4, none⟩ = some (.int .i64 y.kind) ∧ W.cell? ⟨b, o + 5, none⟩ = some (.int .i64 y.n) ∧ W.cell? ⟨b, o + 6, none⟩ = some (.string y.name) ∧ W.cell? ⟨b, o + 7, none⟩ = some (.slice y.a y.args.length y.cap) := by
  obtain ⟨b, o, e, hc⟩ := h 1 y.cells rfl
  exact ⟨b, o, e, hc 0 _ rfl, hc 1 _ rfl, hc 2 _ rfl, hc 3 _ rfl⟩
theorem row_2 {W : World} {a : Option Addr} {x z y : Ex} {r : List Ex} (h : RowIn W a 4 ((x :: z :: y :: r).map Ex.cells)) : ∃ b o, a = some ⟨b, o, none⟩ ∧ W.cell? ⟨b, o + 8, none⟩ = some (.int .i64 y.kind) ∧ W.cell? ⟨b, o + 9, none⟩ = some (.int .i64 y.n) ∧ W.cell? ⟨b, o + 10, none⟩ = some (.string y.name) ∧ W.cell? ⟨b, o + 11, none⟩ = some (.slice y.a y.args.length y.cap) := by
  obtain ⟨b, o, e, hc⟩ := h 2 y.cells rfl
  exact ⟨b, o, e, hc 0 _ rfl, hc 1 _ rfl, hc 2 _ rfl, hc 3 _ rfl⟩
theorem rank_bd (k : Nat) (h : k < 21) : 0 ≤ (formE k).rank ∧ (formE k).rank ≤ 9 := by
  have : ∀ k, k < 21 → 0 ≤ (formE k).rank ∧ (formE k).rank ≤ 9 := by decide
  exact this k h
theorem tx3 (n : Int) (s : ByteArray) (a : Option Addr) (c : Nat) (y : Ex) : cat [s, ⟨#[91]⟩, ⟨(txE y).toArray⟩, ⟨#[93]⟩] = txE (Ex.mk 3 n s a c [y]) := by
  rw [txE_eq (Ex.mk 3 n s a c [y])]; show _ = txOf 3 n s [y.kind] [txE y]
  rw [txOf, if_neg (by decide), if_neg (by decide), if_pos rfl]; simp [cat]
theorem tx4 (n : Int) (s : ByteArray) (a : Option Addr) (c : Nat) (l : List Ex) : cat [s, ⟨#[40]⟩, ⟨(comB (l.map txE)).toArray⟩, ⟨#[41]⟩] = txE (Ex.mk 4 n s a c l) := by
  rw [txE_eq (Ex.mk 4 n s a c l)]; show _ = txOf 4 n s (l.map Ex.kind) (l.map txE)
  rw [txOf, if_neg (by decide), if_neg (by decide), if_neg (by decide), if_pos rfl]; simp [cat]
theorem tx56 (k n : Int) (hk : k = 5 ∨ k = 6) (s : ByteArray) (a : Option Addr) (c : Nat) (y : Ex) : cat [⟨(sgE k).toArray⟩, ⟨(wiB (rkE y.kind) (rkE k) (txE y)).toArray⟩] = txE (Ex.mk k n s a c [y]) := by
  rw [txE_eq (Ex.mk k n s a c [y])]; show _ = txOf k n s [y.kind] [txE y]
  rw [txOf, if_neg (by omega), if_neg (by omega), if_neg (by omega), if_neg (by omega), if_pos hk]; simp [cat]
theorem tx20 (n : Int) (s : ByteArray) (a : Option Addr) (c : Nat) (x y z : Ex) : cat [⟨(wiB (rkE x.kind) (rkE 20 + 1) (txE x)).toArray⟩, ⟨#[32, 63, 32]⟩, ⟨(txE y).toArray⟩, ⟨#[32, 58, 32]⟩, ⟨(txE z).toArray⟩] = txE (Ex.mk 20 n s a c [x, y, z]) := by
  rw [txE_eq (Ex.mk 20 n s a c [x, y, z])]; show _ = txOf 20 n s [x.kind, y.kind, z.kind] [txE x, txE y, txE z]
  rw [txOf, if_neg (by decide), if_neg (by decide), if_neg (by decide), if_neg (by decide), if_neg (by decide), if_pos rfl]; simp [cat]
theorem tx2 (k n : Int) (hk : 7 ≤ k) (hk' : k ≤ 19) (s : ByteArray) (a : Option Addr) (c : Nat) (x y : Ex) : cat [⟨(wiB (rkE x.kind) (rkE k) (txE x)).toArray⟩, ⟨#[32]⟩, ⟨(sgE k).toArray⟩, ⟨#[32]⟩, ⟨(wiB (rkE y.kind) (rkE k + 1) (txE y)).toArray⟩] = txE (Ex.mk k n s a c [x, y]) := by
  rw [txE_eq (Ex.mk k n s a c [x, y])]; show _ = txOf k n s [x.kind, y.kind] [txE x, txE y]
  rw [txOf, if_neg (by omega), if_neg (by omega), if_neg (by omega), if_neg (by omega), if_neg (by omega), if_neg (by omega)]; simp [cat]

set_option maxRecDepth 100000 in
set_option maxHeartbeats 8000000 in
theorem expr3 (k : Nat) (h1 : ExprOk k) (n : Int) (s : ByteArray) (a : Option Addr) (c : Nat) (y : Ex) (w : World) (hk : (Ex.mk 3 n s a c [y]).sz ≤ k + 1) (hin : (Ex.mk 3 n s a c [y]).In w) (ht : Tabs w) (hnt : NumT w) (hok : OkE (Ex.mk 3 n s a c [y])) (hsz : (Ex.mk 3 n s a c [y]).sz ≤ 1000000) :
    Calls Tryz.prog 88 #[(Ex.mk 3 n s a c [y]).val] w fun e w' => e = .returned (sB (txE (Ex.mk 3 n s a c [y]))) ∧ Below w.heap.size w w' := by
  have hlen := txE_len (w := w) _ _ (Nat.le_refl _) hin hok
  have hz := (Ex.mk 3 n s a c [y]).sz_args
  simp only [Ex.args, szL] at hz
  have hin' := Ex.in_iff.1 hin
  simp only [Ex.kind, Ex.n, Ex.name, Ex.a, Ex.cap, Ex.args] at hin'
  obtain ⟨_, _, _, _, _, _, hrow, hsub⟩ := hin'
  have hoks := hok.parts.2
  simp only [Ex.args] at hoks
  have HC : Hid (cat [s, ⟨#[91]⟩, ⟨(txE y).toArray⟩, ⟨#[93]⟩] = txE (Ex.mk 3 n s a c [y])) := tx3 n s a c y
  have HLEN : Hid ((cat [s, ⟨#[91]⟩, ⟨(txE y).toArray⟩, ⟨#[93]⟩]).length ≤ 140737488355328) := by show _ ≤ _; rw [HC.out]; omega
  have HY : Hid (∀ w', Below w.heap.size w w' → Calls Tryz.prog 88 #[.agg #[.int .i64 y.kind, .int .i64 y.n, .string y.name, .slice y.a y.args.length y.cap]] w' fun e w'' => e = .returned (sB (txE y)) ∧ Below w'.heap.size w' w'') := fun w' hb => h1 y w' (by omega) ((hsub y (by simp)).stay hb) (ht.stay hb) (hnt.stay hb) (hoks y (by simp)) (by omega)
  obtain ⟨t0, t1, t2, t3⟩ := ht.2 3 (by omega)
  have h1w : 1 < w.heap.size := lt_of_cell t0
  obtain ⟨b, o, rfl, c0, c1, c2, c3⟩ := row_0 hrow
  clear h1 hin ht hnt hok hrow hsub hoks
  unfold Ex.val
  simp only [Ex.kind, Ex.n, Ex.name, Ex.a, Ex.cap, Ex.args]
  go_enter Tryz.func88, Tryz.ntmps88
  go_wp2_with fail
  obtain ⟨hb0, x0, x1, x2, x3, f2, f3⟩ := exW_facts 3 n s (.slice (some ⟨b, o, none⟩) 1 c) (formE 3) w
  obtain ⟨W0, hW0⟩ : ∃ W0, exW 3 n s (.slice (some ⟨b, o, none⟩) 1 c) (formE 3) w = W0 := ⟨_, rfl⟩
  rw [hW0] at hb0 x0 x1 x2 x3 f2 f3
  unfold exW at hW0
  rw [hW0]
  have HB0 : Hid (Below w.heap.size w W0) := hb0
  have c0 := seen ((hb0.cell (lt_of_cell c0)).trans c0)
  have c1 := seen ((hb0.cell (lt_of_cell c1)).trans c1)
  have c2 := seen ((hb0.cell (lt_of_cell c2)).trans c2)
  have c3 := seen ((hb0.cell (lt_of_cell c3)).trans c3)
  have x2 := seen x2
  have x3 := seen x3
  have f2 := seen f2
  have f3 := seen f3
  clear hW0 hb0 x0 x1 t0 t1 t2 t3 h1w hk hsz hlen hz
  go_region_held3 (fun w' => Below W0.heap.size W0 w') (first | exact Below.drew (Below.refl _ _) | exact Below.on (by assumption) (by assumption) | exact Below.one (by assumption) _)
    (first
      | (go_at_call 88; (first | (refine (HY.out _ (Below.on HB0.out (by assumption))).mono ?_)); rintro e w' ⟨rfl, hb⟩)
      | (go_at_call 61; refine (join_new [s, ⟨#[91]⟩, ⟨(txE y).toArray⟩, ⟨#[93]⟩] _ (Nat.le_of_ble_eq_true rfl) HLEN.out).mono ?_; rintro e w' ⟨rfl, hb⟩))
  all_goals go_wp2_with fail
  all_goals go_ret
  all_goals exact ⟨ret_str HC.out, Below.on HB0.out (by assumption)⟩

set_option maxRecDepth 100000 in
set_option maxHeartbeats 8000000 in
theorem expr5 (k : Nat) (h2 : WithinOk k) (n : Int) (s : ByteArray) (a : Option Addr) (c : Nat) (y : Ex) (w : World) (hk : (Ex.mk 5 n s a c [y]).sz ≤ k + 1) (hin : (Ex.mk 5 n s a c [y]).In w) (ht : Tabs w) (hnt : NumT w) (hok : OkE (Ex.mk 5 n s a c [y])) (hsz : (Ex.mk 5 n s a c [y]).sz ≤ 1000000) :
    Calls Tryz.prog 88 #[(Ex.mk 5 n s a c [y]).val] w fun e w' => e = .returned (sB (txE (Ex.mk 5 n s a c [y]))) ∧ Below w.heap.size w w' := by
  have hlen := txE_len (w := w) _ _ (Nat.le_refl _) hin hok
  have hz := (Ex.mk 5 n s a c [y]).sz_args
  simp only [Ex.args, szL] at hz
  have hin' := Ex.in_iff.1 hin
  simp only [Ex.kind, Ex.n, Ex.name, Ex.a, Ex.cap, Ex.args] at hin'
  obtain ⟨_, _, _, _, _, _, hrow, hsub⟩ := hin'
  have hoks := hok.parts.2
  simp only [Ex.args] at hoks
  have HC : Hid (cat [(formE 5).sign, ⟨(wiB (rkE y.kind) (formE 5).rank (txE y)).toArray⟩] = txE (Ex.mk 5 n s a c [y])) := tx56 5 n (.inl rfl) s a c y
  have HLEN : Hid ((cat [(formE 5).sign, ⟨(wiB (rkE y.kind) (formE 5).rank (txE y)).toArray⟩]).length ≤ 140737488355328) := by show _ ≤ _; rw [HC.out]; omega
  have HY : Hid (∀ w', Below w.heap.size w w' → Calls Tryz.prog 109 #[.agg #[.int .i64 y.kind, .int .i64 y.n, .string y.name, .slice y.a y.args.length y.cap], .int .i64 (formE 5).rank] w' fun e w'' => e = .returned (sB (wiB (rkE y.kind) (formE 5).rank (txE y))) ∧ Below w'.heap.size w' w'') := fun w' hb => h2 y ((formE 5).rank) w' (by omega) ((hsub y (by simp)).stay hb) (ht.stay hb) (hnt.stay hb) (hoks y (by simp)) (by omega)
  obtain ⟨t0, t1, t2, t3⟩ := ht.2 5 (by omega)
  have h1w : 1 < w.heap.size := lt_of_cell t0
  obtain ⟨b, o, rfl, c0, c1, c2, c3⟩ := row_0 hrow
  clear h2 hin ht hnt hok hrow hsub hoks
  unfold Ex.val
  simp only [Ex.kind, Ex.n, Ex.name, Ex.a, Ex.cap, Ex.args]
  go_enter Tryz.func88, Tryz.ntmps88
  go_wp2_with fail
  obtain ⟨hb0, x0, x1, x2, x3, f2, f3⟩ := exW_facts 5 n s (.slice (some ⟨b, o, none⟩) 1 c) (formE 5) w
  obtain ⟨W0, hW0⟩ : ∃ W0, exW 5 n s (.slice (some ⟨b, o, none⟩) 1 c) (formE 5) w = W0 := ⟨_, rfl⟩
  rw [hW0] at hb0 x0 x1 x2 x3 f2 f3
  unfold exW at hW0
  rw [hW0]
  have HB0 : Hid (Below w.heap.size w W0) := hb0
  have c0 := seen ((hb0.cell (lt_of_cell c0)).trans c0)
  have c1 := seen ((hb0.cell (lt_of_cell c1)).trans c1)
  have c2 := seen ((hb0.cell (lt_of_cell c2)).trans c2)
  have c3 := seen ((hb0.cell (lt_of_cell c3)).trans c3)
  have x2 := seen x2
  have x3 := seen x3
  have f2 := seen f2
  have f3 := seen f3
  clear hW0 hb0 x0 x1 t0 t1 t2 t3 h1w hk hsz hlen hz
  go_region_held3 (fun w' => Below W0.heap.size W0 w') (first | exact Below.drew (Below.refl _ _) | exact Below.on (by assumption) (by assumption) | exact Below.one (by assumption) _)
    (first
      | (go_at_call 109; (first | (refine (HY.out _ (Below.on HB0.out (by assumption))).mono ?_)); rintro e w' ⟨rfl, hb⟩)
      | (go_at_call 61; refine (join_new [(formE 5).sign, ⟨(wiB (rkE y.kind) (formE 5).rank (txE y)).toArray⟩] _ (Nat.le_of_ble_eq_true rfl) HLEN.out).mono ?_; rintro e w' ⟨rfl, hb⟩))
  all_goals go_wp2_with fail
  all_goals go_ret
  all_goals exact ⟨ret_str HC.out, Below.on HB0.out (by assumption)⟩

set_option maxRecDepth 100000 in
set_option maxHeartbeats 8000000 in
theorem expr6 (k : Nat) (h2 : WithinOk k) (n : Int) (s : ByteArray) (a : Option Addr) (c : Nat) (y : Ex) (w : World) (hk : (Ex.mk 6 n s a c [y]).sz ≤ k + 1) (hin : (Ex.mk 6 n s a c [y]).In w) (ht : Tabs w) (hnt : NumT w) (hok : OkE (Ex.mk 6 n s a c [y])) (hsz : (Ex.mk 6 n s a c [y]).sz ≤ 1000000) :
    Calls Tryz.prog 88 #[(Ex.mk 6 n s a c [y]).val] w fun e w' => e = .returned (sB (txE (Ex.mk 6 n s a c [y]))) ∧ Below w.heap.size w w' := by
  have hlen := txE_len (w := w) _ _ (Nat.le_refl _) hin hok
  have hz := (Ex.mk 6 n s a c [y]).sz_args
  simp only [Ex.args, szL] at hz
  have hin' := Ex.in_iff.1 hin
  simp only [Ex.kind, Ex.n, Ex.name, Ex.a, Ex.cap, Ex.args] at hin'
  obtain ⟨_, _, _, _, _, _, hrow, hsub⟩ := hin'
  have hoks := hok.parts.2
  simp only [Ex.args] at hoks
  have HC : Hid (cat [(formE 6).sign, ⟨(wiB (rkE y.kind) (formE 6).rank (txE y)).toArray⟩] = txE (Ex.mk 6 n s a c [y])) := tx56 6 n (.inr rfl) s a c y
  have HLEN : Hid ((cat [(formE 6).sign, ⟨(wiB (rkE y.kind) (formE 6).rank (txE y)).toArray⟩]).length ≤ 140737488355328) := by show _ ≤ _; rw [HC.out]; omega
  have HY : Hid (∀ w', Below w.heap.size w w' → Calls Tryz.prog 109 #[.agg #[.int .i64 y.kind, .int .i64 y.n, .string y.name, .slice y.a y.args.length y.cap], .int .i64 (formE 6).rank] w' fun e w'' => e = .returned (sB (wiB (rkE y.kind) (formE 6).rank (txE y))) ∧ Below w'.heap.size w' w'') := fun w' hb => h2 y ((formE 6).rank) w' (by omega) ((hsub y (by simp)).stay hb) (ht.stay hb) (hnt.stay hb) (hoks y (by simp)) (by omega)
  obtain ⟨t0, t1, t2, t3⟩ := ht.2 6 (by omega)
  have h1w : 1 < w.heap.size := lt_of_cell t0
  obtain ⟨b, o, rfl, c0, c1, c2, c3⟩ := row_0 hrow
  clear h2 hin ht hnt hok hrow hsub hoks
  unfold Ex.val
  simp only [Ex.kind, Ex.n, Ex.name, Ex.a, Ex.cap, Ex.args]
  go_enter Tryz.func88, Tryz.ntmps88
  go_wp2_with fail
  obtain ⟨hb0, x0, x1, x2, x3, f2, f3⟩ := exW_facts 6 n s (.slice (some ⟨b, o, none⟩) 1 c) (formE 6) w
  obtain ⟨W0, hW0⟩ : ∃ W0, exW 6 n s (.slice (some ⟨b, o, none⟩) 1 c) (formE 6) w = W0 := ⟨_, rfl⟩
  rw [hW0] at hb0 x0 x1 x2 x3 f2 f3
  unfold exW at hW0
  rw [hW0]
  have HB0 : Hid (Below w.heap.size w W0) := hb0
  have c0 := seen ((hb0.cell (lt_of_cell c0)).trans c0)
  have c1 := seen ((hb0.cell (lt_of_cell c1)).trans c1)
  have c2 := seen ((hb0.cell (lt_of_cell c2)).trans c2)
  have c3 := seen ((hb0.cell (lt_of_cell c3)).trans c3)
  have x2 := seen x2
  have x3 := seen x3
  have f2 := seen f2
  have f3 := seen f3
  clear hW0 hb0 x0 x1 t0 t1 t2 t3 h1w hk hsz hlen hz
  go_region_held3 (fun w' => Below W0.heap.size W0 w') (first | exact Below.drew (Below.refl _ _) | exact Below.on (by assumption) (by assumption) | exact Below.one (by assumption) _)
    (first
      | (go_at_call 109; (first | (refine (HY.out _ (Below.on HB0.out (by assumption))).mono ?_)); rintro e w' ⟨rfl, hb⟩)
      | (go_at_call 61; refine (join_new [(formE 6).sign, ⟨(wiB (rkE y.kind) (formE 6).rank (txE y)).toArray⟩] _ (Nat.le_of_ble_eq_true rfl) HLEN.out).mono ?_; rintro e w' ⟨rfl, hb⟩))
  all_goals go_wp2_with fail
  all_goals go_ret
  all_goals exact ⟨ret_str HC.out, Below.on HB0.out (by assumption)⟩
end Go.Proofs.YtbpemackmadhgaaGreatDoor

/- expr, at more kinds. -/
namespace Go.Proofs.YtbpemackmadhgaaGreatDoor
open Go.RowKit Go.Sort

set_option maxRecDepth 100000 in
set_option maxHeartbeats 8000000 in
theorem expr20 (k : Nat) (h1 : ExprOk k) (h2 : WithinOk k) (n : Int) (s : ByteArray) (a : Option Addr) (c : Nat) (x y z : Ex) (w : World) (hk : (Ex.mk 20 n s a c [x, y, z]).sz ≤ k + 1) (hin : (Ex.mk 20 n s a c [x, y, z]).In w) (ht : Tabs w) (hnt : NumT w) (hok : OkE (Ex.mk 20 n s a c [x, y, z])) (hsz : (Ex.mk 20 n s a c [x, y, z]).sz ≤ 1000000) :
    Calls Tryz.prog 88 #[(Ex.mk 20 n s a c [x, y, z]).val] w fun e w' => e = .returned (sB (txE (Ex.mk 20 n s a c [x, y, z]))) ∧ Below w.heap.size w w' := by
  have hlen := txE_len (w := w) _ _ (Nat.le_refl _) hin hok
  have hz := (Ex.mk 20 n s a c [x, y, z]).sz_args
  simp only [Ex.args, szL] at hz
  have hin' := Ex.in_iff.1 hin
  simp only [Ex.kind, Ex.n, Ex.name, Ex.a, Ex.cap, Ex.args] at hin'
  obtain ⟨_, _, _, _, _, _, hrow, hsub⟩ := hin'
  have hoks := hok.parts.2
  simp only [Ex.args] at hoks
  have HC : Hid (cat [⟨(wiB (rkE x.kind) ((formE 20).rank + 1) (txE x)).toArray⟩, ⟨#[32, 63, 32]⟩, ⟨(txE y).toArray⟩, ⟨#[32, 58, 32]⟩, ⟨(txE z).toArray⟩] = txE (Ex.mk 20 n s a c [x, y, z])) := tx20 n s a c x y z
  have HLEN : Hid ((cat [⟨(wiB (rkE x.kind) ((formE 20).rank + 1) (txE x)).toArray⟩, ⟨#[32, 63, 32]⟩, ⟨(txE y).toArray⟩, ⟨#[32, 58, 32]⟩, ⟨(txE z).toArray⟩]).length ≤ 140737488355328) := by show _ ≤ _; rw [HC.out]; omega
  have HX : Hid (∀ w', Below w.heap.size w w' → Calls Tryz.prog 109 #[.agg #[.int .i64 x.kind, .int .i64 x.n, .string x.name, .slice x.a x.args.length x.cap], .int .i64 ((formE 20).rank + 1)] w' fun e w'' => e = .returned (sB (wiB (rkE x.kind) ((formE 20).rank + 1) (txE x))) ∧ Below w'.heap.size w' w'') := fun w' hb => h2 x ((formE 20).rank + 1) w' (by omega) ((hsub x (by simp)).stay hb) (ht.stay hb) (hnt.stay hb) (hoks x (by simp)) (by omega)
  have HY : Hid (∀ w', Below w.heap.size w w' → Calls Tryz.prog 88 #[.agg #[.int .i64 y.kind, .int .i64 y.n, .string y.name, .slice y.a y.args.length y.cap]] w' fun e w'' => e = .returned (sB (txE y)) ∧ Below w'.heap.size w' w'') := fun w' hb => h1 y w' (by omega) ((hsub y (by simp)).stay hb) (ht.stay hb) (hnt.stay hb) (hoks y (by simp)) (by omega)
  have HZ : Hid (∀ w', Below w.heap.size w w' → Calls Tryz.prog 88 #[.agg #[.int .i64 z.kind, .int .i64 z.n, .string z.name, .slice z.a z.args.length z.cap]] w' fun e w'' => e = .returned (sB (txE z)) ∧ Below w'.heap.size w' w'') := fun w' hb => h1 z w' (by omega) ((hsub z (by simp)).stay hb) (ht.stay hb) (hnt.stay hb) (hoks z (by simp)) (by omega)
  obtain ⟨t0, t1, t2, t3⟩ := ht.2 20 (by omega)
  have h1w : 1 < w.heap.size := lt_of_cell t0
  obtain ⟨b, o, rfl, c0, c1, c2, c3⟩ := row_0 hrow
  obtain ⟨b1, o1, he1, d0, d1, d2, d3⟩ := row_1 hrow
  cases he1
  obtain ⟨b2, o2, he2, e0, e1, e2, e3⟩ := row_2 hrow
  cases he2
  have hwr : IntKind.i64.wrap ((formE 20).rank + 1) = (formE 20).rank + 1 := by rw [IntKind.wrap_i64]; have := rank_bd 20 (by omega); omega
  clear h1 h2 hin ht hnt hok hrow hsub hoks
  unfold Ex.val
  simp only [Ex.kind, Ex.n, Ex.name, Ex.a, Ex.cap, Ex.args]
  go_enter Tryz.func88, Tryz.ntmps88
  go_wp2_with fail
  obtain ⟨hb0, x0, x1, x2, x3, f2, f3⟩ := exW_facts 20 n s (.slice (some ⟨b, o, none⟩) 3 c) (formE 20) w
  obtain ⟨W0, hW0⟩ : ∃ W0, exW 20 n s (.slice (some ⟨b, o, none⟩) 3 c) (formE 20) w = W0 := ⟨_, rfl⟩
  rw [hW0] at hb0 x0 x1 x2 x3 f2 f3
  unfold exW at hW0
  rw [hW0]
  have HB0 : Hid (Below w.heap.size w W0) := hb0
  have c0 := seen ((hb0.cell (lt_of_cell c0)).trans c0)
  have c1 := seen ((hb0.cell (lt_of_cell c1)).trans c1)
  have c2 := seen ((hb0.cell (lt_of_cell c2)).trans c2)
  have c3 := seen ((hb0.cell (lt_of_cell c3)).trans c3)
  have d0 := seen ((hb0.cell (lt_of_cell d0)).trans d0)
  have d1 := seen ((hb0.cell (lt_of_cell d1)).trans d1)
  have d2 := seen ((hb0.cell (lt_of_cell d2)).trans d2)
  have d3 := seen ((hb0.cell (lt_of_cell d3)).trans d3)
  have e0 := seen ((hb0.cell (lt_of_cell e0)).trans e0)
  have e1 := seen ((hb0.cell (lt_of_cell e1)).trans e1)
  have e2 := seen ((hb0.cell (lt_of_cell e2)).trans e2)
  have e3 := seen ((hb0.cell (lt_of_cell e3)).trans e3)
  have x2 := seen x2
  have x3 := seen x3
  have f2 := seen f2
  have f3 := seen f3
  clear hW0 hb0 x0 x1 t0 t1 t2 t3 h1w hk hsz hlen hz
  go_region_held3 (fun w' => Below W0.heap.size W0 w') (first | exact Below.drew (Below.refl _ _) | exact Below.on (by assumption) (by assumption) | exact Below.one (by assumption) _)
    (first
      | (go_at_call_of 109 (x.kind); refine (HX.out _ (Below.on HB0.out (by assumption))).mono ?_; rintro e w' ⟨rfl, hb⟩)
      | (go_at_call_of 88 (y.kind); refine (HY.out _ (Below.on HB0.out (by assumption))).mono ?_; rintro e w' ⟨rfl, hb⟩)
      | (go_at_call_of 88 (z.kind); refine (HZ.out _ (Below.on HB0.out (by assumption))).mono ?_; rintro e w' ⟨rfl, hb⟩)
      | (go_at_call 61; refine (join_new [⟨(wiB (rkE x.kind) ((formE 20).rank + 1) (txE x)).toArray⟩, ⟨#[32, 63, 32]⟩, ⟨(txE y).toArray⟩, ⟨#[32, 58, 32]⟩, ⟨(txE z).toArray⟩] _ (Nat.le_of_ble_eq_true rfl) HLEN.out).mono ?_; rintro e w' ⟨rfl, hb⟩))
  all_goals go_wp2_with fail
  all_goals go_ret
  all_goals exact ⟨ret_str HC.out, Below.on HB0.out (by assumption)⟩
end Go.Proofs.YtbpemackmadhgaaGreatDoor

/- expr, at more kinds. -/
namespace Go.Proofs.YtbpemackmadhgaaGreatDoor
open Go.RowKit Go.Sort

set_option maxRecDepth 100000 in
set_option maxHeartbeats 8000000 in
theorem exprTwo (k : Nat) (h2 : WithinOk k) (kn : Nat) (hkl : 7 ≤ kn) (hkh : kn ≤ 19) (n : Int) (s : ByteArray) (a : Option Addr) (c : Nat) (x y : Ex) (w : World) (hk : (Ex.mk kn n s a c [x, y]).sz ≤ k + 1) (hin : (Ex.mk kn n s a c [x, y]).In w) (ht : Tabs w) (hnt : NumT w) (hok : OkE (Ex.mk kn n s a c [x, y])) (hsz : (Ex.mk kn n s a c [x, y]).sz ≤ 1000000) :
    Calls Tryz.prog 88 #[(Ex.mk kn n s a c [x, y]).val] w fun e w' => e = .returned (sB (txE (Ex.mk kn n s a c [x, y]))) ∧ Below w.heap.size w w' := by
  have hlen := txE_len (w := w) _ _ (Nat.le_refl _) hin hok
  have hz := (Ex.mk kn n s a c [x, y]).sz_args
  simp only [Ex.args, szL] at hz
  have hin' := Ex.in_iff.1 hin
  simp only [Ex.kind, Ex.n, Ex.name, Ex.a, Ex.cap, Ex.args] at hin'
  obtain ⟨_, _, _, _, _, _, hrow, hsub⟩ := hin'
  have hoks := hok.parts.2
  simp only [Ex.args] at hoks
  have HC : Hid (cat [⟨(wiB (rkE x.kind) (formE kn).rank (txE x)).toArray⟩, ⟨#[32]⟩, (formE kn).sign, ⟨#[32]⟩, ⟨(wiB (rkE y.kind) ((formE kn).rank + 1) (txE y)).toArray⟩] = txE (Ex.mk kn n s a c [x, y])) := tx2 kn n (by omega) (by omega) s a c x y
  have HLEN : Hid ((cat [⟨(wiB (rkE x.kind) (formE kn).rank (txE x)).toArray⟩, ⟨#[32]⟩, (formE kn).sign, ⟨#[32]⟩, ⟨(wiB (rkE y.kind) ((formE kn).rank + 1) (txE y)).toArray⟩]).length ≤ 140737488355328) := by show _ ≤ _; rw [HC.out]; omega
  have HX : Hid (∀ w', Below w.heap.size w w' → Calls Tryz.prog 109 #[.agg #[.int .i64 x.kind, .int .i64 x.n, .string x.name, .slice x.a x.args.length x.cap], .int .i64 (formE kn).rank] w' fun e w'' => e = .returned (sB (wiB (rkE x.kind) (formE kn).rank (txE x))) ∧ Below w'.heap.size w' w'') := fun w' hb => h2 x ((formE kn).rank) w' (by omega) ((hsub x (by simp)).stay hb) (ht.stay hb) (hnt.stay hb) (hoks x (by simp)) (by omega)
  have HY : Hid (∀ w', Below w.heap.size w w' → Calls Tryz.prog 109 #[.agg #[.int .i64 y.kind, .int .i64 y.n, .string y.name, .slice y.a y.args.length y.cap], .int .i64 ((formE kn).rank + 1)] w' fun e w'' => e = .returned (sB (wiB (rkE y.kind) ((formE kn).rank + 1) (txE y))) ∧ Below w'.heap.size w' w'') := fun w' hb => h2 y ((formE kn).rank + 1) w' (by omega) ((hsub y (by simp)).stay hb) (ht.stay hb) (hnt.stay hb) (hoks y (by simp)) (by omega)
  obtain ⟨t0, t1, t2, t3⟩ := ht.2 kn (by omega)
  have h1w : 1 < w.heap.size := lt_of_cell t0
  obtain ⟨b, o, rfl, c0, c1, c2, c3⟩ := row_0 hrow
  obtain ⟨b1, o1, he1, d0, d1, d2, d3⟩ := row_1 hrow
  cases he1
  have q1 : ((kn : Int) == 1) = false := by simp only [beq_eq_false_iff_ne]; omega
  have q2 : ((kn : Int) == 2) = false := by simp only [beq_eq_false_iff_ne]; omega
  have q3 : ((kn : Int) == 3) = false := by simp only [beq_eq_false_iff_ne]; omega
  have q4 : ((kn : Int) == 4) = false := by simp only [beq_eq_false_iff_ne]; omega
  have q5 : ((kn : Int) == 5) = false := by simp only [beq_eq_false_iff_ne]; omega
  have q6 : ((kn : Int) == 6) = false := by simp only [beq_eq_false_iff_ne]; omega
  have q20 : ((kn : Int) == 20) = false := by simp only [beq_eq_false_iff_ne]; omega
  have hwr : IntKind.i64.wrap ((formE kn).rank + 1) = (formE kn).rank + 1 := by rw [IntKind.wrap_i64]; have := rank_bd kn (by omega); omega
  clear h2 hin ht hnt hok hrow hsub hoks
  unfold Ex.val
  simp only [Ex.kind, Ex.n, Ex.name, Ex.a, Ex.cap, Ex.args]
  go_enter Tryz.func88, Tryz.ntmps88
  go_wp2_with fail
  obtain ⟨hb0, x0, x1, x2, x3, f2, f3⟩ := exW_facts kn n s (.slice (some ⟨b, o, none⟩) 2 c) (formE kn) w
  obtain ⟨W0, hW0⟩ : ∃ W0, exW kn n s (.slice (some ⟨b, o, none⟩) 2 c) (formE kn) w = W0 := ⟨_, rfl⟩
  rw [hW0] at hb0 x0 x1 x2 x3 f2 f3
  unfold exW at hW0
  rw [hW0]
  have HB0 : Hid (Below w.heap.size w W0) := hb0
  have c0 := seen ((hb0.cell (lt_of_cell c0)).trans c0)
  have c1 := seen ((hb0.cell (lt_of_cell c1)).trans c1)
  have c2 := seen ((hb0.cell (lt_of_cell c2)).trans c2)
  have c3 := seen ((hb0.cell (lt_of_cell c3)).trans c3)
  have d0 := seen ((hb0.cell (lt_of_cell d0)).trans d0)
  have d1 := seen ((hb0.cell (lt_of_cell d1)).trans d1)
  have d2 := seen ((hb0.cell (lt_of_cell d2)).trans d2)
  have d3 := seen ((hb0.cell (lt_of_cell d3)).trans d3)
  have x2 := seen x2
  have x3 := seen x3
  have f2 := seen f2
  have f3 := seen f3
  clear hW0 hb0 x0 x1 t0 t1 t2 t3 h1w hk hsz hlen hz
  go_region_held3 (fun w' => Below W0.heap.size W0 w') (first | exact Below.drew (Below.refl _ _) | exact Below.on (by assumption) (by assumption) | exact Below.one (by assumption) _)
    (first
      | (go_at_call_of 109 (x.kind); refine (HX.out _ (Below.on HB0.out (by assumption))).mono ?_; rintro e w' ⟨rfl, hb⟩)
      | (go_at_call_of 109 (y.kind); refine (HY.out _ (Below.on HB0.out (by assumption))).mono ?_; rintro e w' ⟨rfl, hb⟩)
      | (go_at_call 61; refine (join_new [⟨(wiB (rkE x.kind) (formE kn).rank (txE x)).toArray⟩, ⟨#[32]⟩, (formE kn).sign, ⟨#[32]⟩, ⟨(wiB (rkE y.kind) ((formE kn).rank + 1) (txE y)).toArray⟩] _ (Nat.le_of_ble_eq_true rfl) HLEN.out).mono ?_; rintro e w' ⟨rfl, hb⟩))
  all_goals go_wp2_with fail
  all_goals go_ret
  all_goals exact ⟨ret_str HC.out, Below.on HB0.out (by assumption)⟩
end Go.Proofs.YtbpemackmadhgaaGreatDoor

/- expr at numbers, names and calls; expr at every expression that has a form. -/
namespace Go.Proofs.YtbpemackmadhgaaGreatDoor
open Go.RowKit Go.Sort

theorem commas_of {w : World} {v : Value} {xs : List ByteArray} {t : List UInt8} (h : Strs w v xs) (ht : comB (xs.map (·.data.toList)) = t) (hn : xs.length ≤ 1000000) (hlen : t.length ≤ 140737488355328) :
    Calls Tryz.prog 36 #[v] w fun e w' => e = .returned (sB t) ∧ Below w.heap.size w w' := by
  obtain ⟨a, cap, rfl, hcap, hc⟩ := h
  have := commas_any xs a cap w hc hn hcap (by rw [ht]; exact hlen)
  rwa [ht] at this
theorem len_szL : ∀ l : List Ex, l.length ≤ szL l
  | [] => by simp
  | x :: r => by rw [szL, List.length_cons]; have := x.sz_pos; have := len_szL r; omega
theorem comB_map (l : List Ex) : comB ((l.map fun x => (⟨(txE x).toArray⟩ : ByteArray)).map (·.data.toList)) = comB (l.map txE) := by
  rw [List.map_map]; rfl

set_option maxRecDepth 100000 in
set_option maxHeartbeats 4000000 in
theorem expr1 (n : Int) (s : ByteArray) (a : Option Addr) (c : Nat) (l : List Ex) (w : World) (hI : I64 n) (ht : Tabs w) (hnt : NumT w) :
    Calls Tryz.prog 88 #[(Ex.mk 1 n s a c l).val] w fun e w' => e = .returned (sB (Lib.itoa n)) ∧ Below w.heap.size w w' := by
  have HN : Hid (∀ w', Below w.heap.size w w' → Calls Tryz.prog 38 #[.int .i64 n] w' fun e w'' => e = .returned (sB (Lib.itoa n)) ∧ Below w'.heap.size w' w'') := fun w' hb => number_any n w' hI (hnt.stay hb)
  obtain ⟨t0, t1, t2, t3⟩ := ht.2 1 (by omega)
  have h1w : 1 < w.heap.size := lt_of_cell t0
  have hb0 := (exW_facts 1 n s (.slice a l.length c) (formE 1) w).1
  unfold exW at hb0
  clear ht hnt
  unfold Ex.val
  simp only [Ex.kind, Ex.n, Ex.name, Ex.a, Ex.cap, Ex.args]
  go_enter Tryz.func88, Tryz.ntmps88
  go_wp2_with fail
  refine (HN.out _ hb0).mono ?_
  rintro e w1 ⟨rfl, hb1⟩
  go_wp2_with fail
  go_ret
  exact ⟨rfl, Below.on hb0 hb1⟩

set_option maxRecDepth 100000 in
set_option maxHeartbeats 4000000 in
theorem expr2 (n : Int) (s : ByteArray) (a : Option Addr) (c : Nat) (l : List Ex) (w : World) (ht : Tabs w) :
    Calls Tryz.prog 88 #[(Ex.mk 2 n s a c l).val] w fun e w' => e = .returned (.string s) ∧ Below w.heap.size w w' := by
  obtain ⟨t0, t1, t2, t3⟩ := ht.2 2 (by omega)
  have h1w : 1 < w.heap.size := lt_of_cell t0
  have hb0 := (exW_facts 2 n s (.slice a l.length c) (formE 2) w).1
  unfold exW at hb0
  clear ht
  unfold Ex.val
  simp only [Ex.kind, Ex.n, Ex.name, Ex.a, Ex.cap, Ex.args]
  go_enter Tryz.func88, Tryz.ntmps88
  go_wp2_with fail
  go_ret
  exact ⟨rfl, hb0⟩

set_option maxRecDepth 100000 in
set_option maxHeartbeats 8000000 in
theorem expr4 (k : Nat) (h1 : ExprOk k) (n : Int) (s : ByteArray) (a : Option Addr) (c : Nat) (l : List Ex) (w : World) (hk : (Ex.mk 4 n s a c l).sz ≤ k + 1) (hin : (Ex.mk 4 n s a c l).In w) (ht : Tabs w) (hnt : NumT w) (hok : OkE (Ex.mk 4 n s a c l)) (hsz : (Ex.mk 4 n s a c l).sz ≤ 1000000) :
    Calls Tryz.prog 88 #[(Ex.mk 4 n s a c l).val] w fun e w' => e = .returned (sB (txE (Ex.mk 4 n s a c l))) ∧ Below w.heap.size w w' := by
  have hlen := txE_len (w := w) _ _ (Nat.le_refl _) hin hok
  have hz := (Ex.mk 4 n s a c l).sz_args
  simp only [Ex.args] at hz
  have hin' := Ex.in_iff.1 hin
  simp only [Ex.kind, Ex.n, Ex.name, Ex.a, Ex.cap, Ex.args] at hin'
  obtain ⟨_, _, _, _, _, _, hrow, hsub⟩ := hin'
  have hoks := hok.parts.2
  simp only [Ex.args] at hoks
  have hll := len_szL l
  have HC : Hid (cat [s, ⟨#[40]⟩, ⟨(comB (l.map txE)).toArray⟩, ⟨#[41]⟩] = txE (Ex.mk 4 n s a c l)) := tx4 n s a c l
  have HLEN : Hid ((cat [s, ⟨#[40]⟩, ⟨(comB (l.map txE)).toArray⟩, ⟨#[41]⟩]).length ≤ 140737488355328) := by show _ ≤ _; rw [HC.out]; omega
  have HLE2 : Hid ((comB (l.map txE)).length ≤ 140737488355328) := by show _ ≤ _; have := HLEN.out; simp [cat] at this; omega
  have HEA : Hid (∀ w', Below w.heap.size w w' → Calls Tryz.prog 108 #[.slice a l.length c, .func (.func 88) #[] #[]] w' fun e w'' => ∃ va vc, e = .returned (.slice va l.length vc) ∧ Hid (Strs w'' (.slice va l.length vc) (l.map fun x => ⟨(txE x).toArray⟩)) ∧ Below w'.heap.size w' w'') := fun w' hb =>
    (eachExpr_any l a c w' (by omega) (hrow.below hb) (fun x hx w'' hb' => h1 x w'' (by have := szL_mem hx; omega) (((hsub x hx).stay hb).stay hb') ((ht.stay hb).stay hb') ((hnt.stay hb).stay hb') (hoks x hx) (by have := szL_mem hx; omega))).mono fun e w'' ⟨v, he, hs, hb'⟩ => by
      obtain ⟨va, vc, hv, hcap, hcc⟩ := hs
      rw [List.length_map] at hv hcap
      subst hv
      exact ⟨va, vc, he, ⟨va, vc, by rw [List.length_map], by rw [List.length_map]; exact hcap, hcc⟩, hb'⟩
  have HLM : Hid ((l.map fun x => (⟨(txE x).toArray⟩ : ByteArray)).length ≤ 1000000) := by show _ ≤ _; rw [List.length_map]; omega
  obtain ⟨t0, t1, t2, t3⟩ := ht.2 4 (by omega)
  have h1w : 1 < w.heap.size := lt_of_cell t0
  clear h1 hin ht hnt hok hrow hsub hoks
  unfold Ex.val
  simp only [Ex.kind, Ex.n, Ex.name, Ex.a, Ex.cap, Ex.args]
  go_enter Tryz.func88, Tryz.ntmps88
  go_wp2_with fail
  obtain ⟨hb0, x0, x1, x2, x3, f2, f3⟩ := exW_facts 4 n s (.slice a l.length c) (formE 4) w
  obtain ⟨W0, hW0⟩ : ∃ W0, exW 4 n s (.slice a l.length c) (formE 4) w = W0 := ⟨_, rfl⟩
  rw [hW0] at hb0 x0 x1 x2 x3 f2 f3
  unfold exW at hW0
  rw [hW0]
  have HB0 : Hid (Below w.heap.size w W0) := hb0
  have x2 := seen x2
  have x3 := seen x3
  clear hW0 hb0 x0 x1 f2 f3 t0 t1 t2 t3 h1w hk hsz hlen hz hll
  go_region_held3 (fun w' => Below W0.heap.size W0 w') (first | exact Below.drew (Below.refl _ _) | exact Below.on (by assumption) (by assumption) | exact Below.one (by assumption) _)
    (first
      | (go_at_call 108; refine (HEA.out _ (Below.on HB0.out (by assumption))).mono ?_; rintro e w' ⟨va, vc, rfl, hs, hb⟩)
      | (go_at_call 36; refine (commas_of hs.out (comB_map l) HLM.out HLE2.out).mono ?_; rintro e w' ⟨rfl, hb⟩)
      | (go_at_call 61; refine (join_new [s, ⟨#[40]⟩, ⟨(comB (l.map txE)).toArray⟩, ⟨#[41]⟩] _ (Nat.le_of_ble_eq_true rfl) HLEN.out).mono ?_; rintro e w' ⟨rfl, hb⟩))
  all_goals go_wp2_with fail
  all_goals go_ret
  all_goals exact ⟨ret_str HC.out, Below.on HB0.out (by assumption)⟩

theorem expr_step (k : Nat) (h1 : ExprOk k) : ExprOk (k + 1) := by
  have h2 : WithinOk k := fun x least w hk hin ht hnt hok hsz => within_step k h1 x least w hk hin ht hnt hok hsz
  intro x w hk hin ht hnt hok hsz
  obtain ⟨kn, hkn, hk1, hk2, hlen, _, _⟩ := selfE_zero hok.parts.1
  obtain ⟨kd, n, s, a, c, l⟩ := x
  simp only [Ex.kind, Ex.args] at hkn hlen
  subst hkn
  have hI : I64 n := (Ex.in_iff.1 hin).2.1
  by_cases e1 : kn = 1
  · subst e1
    have : txE (Ex.mk ((1 : Nat) : Int) n s a c l) = Lib.itoa n := by rw [txE_eq]; rfl
    rw [this]
    exact expr1 n s a c l w hI ht hnt
  by_cases e2 : kn = 2
  · subst e2
    have : txE (Ex.mk ((2 : Nat) : Int) n s a c l) = s.data.toList := by rw [txE_eq]; rfl
    rw [this]
    exact expr2 n s a c l w ht
  by_cases e3 : kn = 3
  · subst e3
    match l, hlen (by decide) with
    | [y], _ => exact expr3 k h1 n s a c y w hk hin ht hnt hok hsz
    | [], h => simp [formE] at h
    | _ :: _ :: _, h => simp [formE] at h; omega
  by_cases e4 : kn = 4
  · subst e4; exact expr4 k h1 n s a c l w hk hin ht hnt hok hsz
  by_cases e5 : kn = 5
  · subst e5
    match l, hlen (by decide) with
    | [y], _ => exact expr5 k h2 n s a c y w hk hin ht hnt hok hsz
    | [], h => simp [formE] at h
    | _ :: _ :: _, h => simp [formE] at h; omega
  by_cases e6 : kn = 6
  · subst e6
    match l, hlen (by decide) with
    | [y], _ => exact expr6 k h2 n s a c y w hk hin ht hnt hok hsz
    | [], h => simp [formE] at h
    | _ :: _ :: _, h => simp [formE] at h; omega
  by_cases e20 : kn = 20
  · subst e20
    match l, hlen (by decide) with
    | [x, y, z], _ => exact expr20 k h1 h2 n s a c x y z w hk hin ht hnt hok hsz
    | [], h => simp [formE] at h
    | [_], h => simp [formE] at h
    | [_, _], h => simp [formE] at h
    | _ :: _ :: _ :: _ :: _, h => simp [formE] at h; omega
  · have ha := args_two kn (by omega) hk2 e20
    rw [ha] at hlen
    match l, hlen (by decide) with
    | [x, y], _ => exact exprTwo k h2 kn (by omega) (by omega) n s a c x y w hk hin ht hnt hok hsz
    | [], h => simp at h
    | [_], h => simp at h
    | _ :: _ :: _ :: _, h => simp at h; omega
theorem expr_all (k : Nat) : ExprOk k := by
  induction k with
  | zero => intro x w h; have := x.sz_pos; omega
  | succ k ih => exact expr_step k ih
theorem expr_any (x : Ex) (w : World) (hin : x.In w) (ht : Tabs w) (hnt : NumT w) (hok : OkE x) (hsz : x.sz ≤ 1000000) : Calls Tryz.prog 88 #[x.val] w fun e w' => e = .returned (sB (txE x)) ∧ Below w.heap.size w w' := expr_all _ x w (Nat.le_refl _) hin ht hnt hok hsz
end Go.Proofs.YtbpemackmadhgaaGreatDoor

/- Statements' and programs' texts. -/
namespace Go.Proofs.YtbpemackmadhgaaGreatDoor
open Go.RowKit

mutual
def txS : St → Nat → List UInt8
  | .mk k s n a b _ _ l _ _ e _ _ c, d =>
    if k = 1 then lineB d ([108, 101, 116, 32] ++ s.data.toList ++ [32, 61, 32] ++ txE a ++ [59])
    else if k = 2 then lineB d ([108, 101, 116, 32] ++ s.data.toList ++ [91] ++ Lib.itoa n ++ [93, 59])
    else if k = 3 then lineB d (s.data.toList ++ [32, 61, 32] ++ txE a ++ [59])
    else if k = 4 then lineB d (s.data.toList ++ [91] ++ txE a ++ [93, 32, 61, 32] ++ txE b ++ [59])
    else if k = 5 then lineB d ([105, 102, 32] ++ txE a ++ [32, 123]) ++ txSs l (d + 1) ++ (if e.length = 0 then [] else lineB d [125, 32, 101, 108, 115, 101, 32, 123] ++ txSs e (d + 1)) ++ lineB d [125]
    else if k = 6 then lineB d ([115, 119, 105, 116, 99, 104, 32] ++ txE a ++ [32, 123]) ++ txCs c (d + 1) ++ (if e.length = 0 then [] else lineB (d + 1) [101, 108, 115, 101, 32, 123] ++ txSs e (d + 2) ++ lineB (d + 1) [125]) ++ lineB d [125]
    else if k = 7 then lineB d ([102, 111, 114, 32] ++ s.data.toList ++ [32, 105, 110, 32] ++ txE a ++ [46, 46] ++ txE b ++ [32, 123]) ++ txSs l (d + 1) ++ lineB d [125]
    else if k = 8 then lineB d [98, 114, 101, 97, 107, 59]
    else if k = 9 then lineB d ([114, 101, 116, 117, 114, 110, 32] ++ txE a ++ [59])
    else lineB d (txE a ++ [59])
def txSs : List St → Nat → List UInt8
  | [], _ => []
  | s :: r, d => txS s d ++ txSs r d
def txC : Ca → Nat → List UInt8
  | .mk n _ _ l, d => lineB d ([99, 97, 115, 101, 32] ++ Lib.itoa n ++ [32, 123]) ++ txSs l (d + 1) ++ lineB d [125]
def txCs : List Ca → Nat → List UInt8
  | [], _ => []
  | c :: r, d => txC c d ++ txCs r d
end
theorem txSs_take (l : List St) (d j : Nat) (h : j < l.length) : txSs (l.take (j + 1)) d = txSs (l.take j) d ++ txS l[j] d := by
  induction l generalizing j with
  | nil => simp at h
  | cons x r ih =>
    cases j with
    | zero => simp [txSs]
    | succ j =>
      have := ih j (by simpa using h)
      rw [List.take_succ_cons, List.take_succ_cons, txSs, txSs, this]; simp
theorem txSs_le (l : List St) (d j : Nat) : (txSs (l.take j) d).length ≤ (txSs l d).length := by
  induction l generalizing j with
  | nil => simp
  | cons x r ih =>
    cases j with
    | zero => simp [txSs]
    | succ j => rw [List.take_succ_cons, txSs, txSs]; simp only [List.length_append]; have := ih j; omega
/-- A function's text. -/
def txF (f : Fu) : List UInt8 := lineB 0 ([102, 110, 32] ++ f.name.data.toList ++ [40] ++ comB (f.params.map paB) ++ [41, 32, 123]) ++ txSs f.body 1 ++ lineB 0 [125]
def txFs : List Fu → List UInt8
  | [] => []
  | f :: r => txF f ++ txFs r
theorem txFs_take (l : List Fu) (j : Nat) (h : j < l.length) : txFs (l.take (j + 1)) = txFs (l.take j) ++ txF l[j] := by
  induction l generalizing j with
  | nil => simp at h
  | cons x r ih =>
    cases j with
    | zero => simp [txFs]
    | succ j =>
      have := ih j (by simpa using h)
      rw [List.take_succ_cons, List.take_succ_cons, txFs, txFs, this]; simp
theorem txFs_le (l : List Fu) (j : Nat) : (txFs (l.take j)).length ≤ (txFs l).length := by
  induction l generalizing j with
  | nil => simp
  | cons x r ih =>
    cases j with
    | zero => simp [txFs]
    | succ j => rw [List.take_succ_cons, txFs, txFs]; simp only [List.length_append]; have := ih j; omega
def txW (l : List Int) : List UInt8 := if l.length = 0 then [] else lineB 0 ([119, 105, 100, 101, 110, 32] ++ comB (l.map Lib.itoa) ++ [59])
/-- A program's text. -/
def txP (p : Pr) : List UInt8 := txW p.widen ++ txFs p.funcs
end Go.Proofs.YtbpemackmadhgaaGreatDoor

/- A page's body of statements; a return. -/
namespace Go.Proofs.YtbpemackmadhgaaGreatDoor
open Go.RowKit Go.Sort

/-- line at pieces that have just been laid. -/
theorem line_new (B b : Nat) (l : List UInt8) (d : Nat) (xs : List ByteArray) (W : World) (h : PgT B b l d W) (hB : B ≤ W.heap.size) (hn : xs.length ≤ 1000) (hd : d ≤ 100) (hlen : (l ++ lineB d (cat xs)).length ≤ 140737488355328) :
    Calls Tryz.prog 35 #[.pointer (some ⟨b, 0, none⟩), .slice (some ⟨W.heap.size, 0, none⟩) xs.length xs.length] (W.alloc (.cells (xs.map Value.string).toArray 9)) fun e w' => e = .returned (.tuple #[]) ∧ PgT B b (l ++ lineB d (cat xs)) d w' ∧ Below B (W.alloc (.cells (xs.map Value.string).toArray 9)) w' ∧ Oth b (W.alloc (.cells (xs.map Value.string).toArray 9)) w' := by
  have hlt : b < W.heap.size := by obtain ⟨p, h1⟩ := h.some; exact h1.lt
  have hb := (Below.refl _ W).alloc (Nat.le_refl _) (.cells (xs.map Value.string).toArray 9)
  refine line_any B b l d xs W.heap.size xs.length _ (h.stay hb) (by simp; omega) ⟨_, _, heap_alloc_new W _, fun j x hj => by simp [hj]⟩ (by omega) hn hd hlen

/-- What page.stmt does at a statement, in every world behind w0. -/
abbrev StmtD (w0 : World) (D : Nat) (s : St) : Prop := ∀ (b : Nat) (l : List UInt8) (d : Nat) (w : World), Below w0.heap.size w0 w → PgT w0.heap.size b l d w → d ≤ D → (l ++ txS s d).length ≤ 140737488355328 →
  Calls Tryz.prog 62 #[.pointer (some ⟨b, 0, none⟩), s.val] w fun e w' => e = .returned (.tuple #[]) ∧ PgT w0.heap.size b (l ++ txS s d) d w' ∧ Below w0.heap.size w w' ∧ Oth b w w'

/-- .. in at most 60 bodies. -/
abbrev StmtPr (w0 : World) (s : St) : Prop := StmtD w0 90 s

theorem stmtD_le {w0 : World} {D D' : Nat} {s : St} (h : StmtD w0 D s) (hD : D' ≤ D) : StmtD w0 D' s := fun b l d w h1 h2 h3 h4 => h b l d w h1 h2 (Nat.le_trans h3 hD) h4
theorem box_oth {W W' : World} {b B1 : Nat} {cs : Array Value} (h : W.heap[B1]? = some (.cells cs 43 (0, 0))) (hb : B1 ≠ b) (ho : Oth b W W') : W'.heap[B1]? = some (.cells cs 43 (0, 0)) :=
  ho B1 _ h (by simpa using hb) (fun c fz e => by cases e)

set_option maxRecDepth 100000 in
set_option maxHeartbeats 8000000 in
theorem bodyD (w0 : World) (D : Nat) (b : Nat) (l : List UInt8) (d : Nat) (list : List St) (a : Option Addr) (c : Nat) (w : World) (hB : Below w0.heap.size w0 w) (hp : PgT w0.heap.size b l d w) (hd : d + 1 ≤ D) (hd6 : d ≤ 95) (hin : Have w0 a c list) (hs : ∀ s ∈ list, StmtD w0 D s) (hlen : (l ++ txSs list (d + 1)).length ≤ 140737488355328) :
    Calls Tryz.prog 41 #[.pointer (some ⟨b, 0, none⟩), .slice a list.length c] w fun e w' => e = .returned (.tuple #[]) ∧ PgT w0.heap.size b (l ++ txSs list (d + 1)) d w' ∧ Below w0.heap.size w w' ∧ Oth b w w' := by
  obtain ⟨⟨hl, hc, _, hrow⟩, hsub⟩ := hin
  have HR : Hid (RowIn w0 a 14 (List.map St.cells list)) := hrow
  have HS : Hid (∀ s ∈ list, StmtD w0 D s) := hs
  have HB : Hid (Below w0.heap.size w0 w) := hB
  have HLEN : Hid (l.length + (txSs list (d + 1)).length ≤ 140737488355328) := by show _ ≤ _; simpa using hlen
  obtain ⟨p, h1⟩ := hp.some
  have hBb := h1.1
  have hblt := h1.lt
  have c2 : w.cell? ⟨b, 2, none⟩ = some (.int .i64 d) := by
    obtain ⟨ao, cp, hbk, _⟩ := h1.slice
    rw [Lib.cell_of_heap hbk]; rfl
  have q2 := h1.frozen 2
  have HP1 : Hid (PgT w0.heap.size b l (d + 1) (w.setCell ⟨b, 2, none⟩ (.int .i64 (d + 1)))) := by
    show Pg _ _ _ _ _
    rcases hp with h | h
    · exact .inl (h.deep _)
    · exact .inr (h.deep _)
  have HB1 : Hid (Below w0.heap.size w (w.setCell ⟨b, 2, none⟩ (.int .i64 (d + 1)))) := (Below.refl _ w).setCell (p := ⟨b, 2, none⟩) hBb _
  have HO1 : Hid (Oth b w (w.setCell ⟨b, 2, none⟩ (.int .i64 (d + 1)))) := (Lib.OthersKept.refl _ (some b) w).setCell ⟨b, 2, none⟩ rfl _
  clear hrow hsub hs hB hlen hp h1
  go_enter Tryz.func41, Tryz.ntmps41
  go_wp2_with fail
  go_loopw [15] (fun t15 wr => ∃ (j : Nat), j ≤ list.length ∧ t15 = .int .i64 j ∧ PgT w0.heap.size b (l ++ txSs (list.take j) (d + 1)) (d + 1) wr ∧ Below w0.heap.size w wr ∧ Oth b w wr) (fun t15 _ => list.length - (intOf t15).toNat)
  case atStart => exact ⟨0, Nat.zero_le _, rfl, by simpa [txSs] using HP1.out, HB1.out, HO1.out⟩
  case round =>
    obtain ⟨j, hj, rfl, hpg, hb, ho⟩ := hrel
    have HPG : Hid (PgT w0.heap.size b (l ++ txSs (list.take j) (d + 1)) (d + 1) wr) := hpg
    clear hpg c2 q2 HP1 HB1 HO1
    have hws := hb.size
    have hws0 := HB.out.size
    have hb0 : Below w0.heap.size w0 wr := HB.out.trans hb
    by_cases hlt : j < list.length
    · obtain ⟨rb, o, rfl, hcell⟩ := rowS_at (HR.out.below hb0) hlt
      have c0 := hcell 0 _ rfl
      have c1 := hcell 1 _ rfl
      have c2 := hcell 2 _ rfl
      have c3 := hcell 3 _ rfl
      have c4 := hcell 4 _ rfl
      have c5 := hcell 5 _ rfl
      have c6 := hcell 6 _ rfl
      have c7 := hcell 7 _ rfl
      have c8 := hcell 8 _ rfl
      have c9 := hcell 9 _ rfl
      have c10 := hcell 10 _ rfl
      have c11 := hcell 11 _ rfl
      have c12 := hcell 12 _ rfl
      have c13 := hcell 13 _ rfl
      simp only [← Nat.add_assoc, Nat.add_zero] at c0 c1 c2 c3 c4 c5 c6 c7 c8 c9 c10 c11 c12 c13
      clear hcell
      have hli : (j : Int) < (list.length : Int) := by omega
      have HT : Hid (txSs (list.take (j + 1)) (d + 1) = txSs (list.take j) (d + 1) ++ txS list[j] (d + 1)) := txSs_take list (d + 1) j hlt
      have HLE : Hid ((txSs (list.take (j + 1)) (d + 1)).length ≤ (txSs list (d + 1)).length) := txSs_le list (d + 1) (j + 1)
      have HST : Hid (StmtD w0 D list[j]) := HS.out list[j] (List.getElem_mem hlt)
      generalize list[j] = s at *
      have hb1 := (Below.refl _ wr).alloc (Nat.le_refl _) (.cells #[.int .i64 s.kind, .string s.name, .int .i64 s.n, .int .i64 s.a.kind, .int .i64 s.a.n, .string s.a.name, .slice s.a.a s.a.args.length s.a.cap, .int .i64 s.b.kind, .int .i64 s.b.n, .string s.b.name, .slice s.b.a s.b.args.length s.b.cap, .slice s.ba s.body.length s.bc, .slice s.ea s.els.length s.ec, .slice s.ca s.cases.length s.cc] 43)
      have HPG1 := HPG.out.stay hb1
      have HO1 : Oth b wr _ := oth_below hb1
      have hb2 : Below w0.heap.size w _ := hb.alloc (by omega) (.cells #[.int .i64 s.kind, .string s.name, .int .i64 s.n, .int .i64 s.a.kind, .int .i64 s.a.n, .string s.a.name, .slice s.a.a s.a.args.length s.a.cap, .int .i64 s.b.kind, .int .i64 s.b.n, .string s.b.name, .slice s.b.a s.b.args.length s.b.cap, .slice s.ba s.body.length s.bc, .slice s.ea s.els.length s.ec, .slice s.ca s.cases.length s.cc] 43)
      go_wp2_with fail
      refine (HST.out b _ (d + 1) _ (HB.out.trans hb2) HPG1 (by omega) (by have := HLE.out; have := HLEN.out; rw [HT.out] at *; simp only [List.length_append] at *; omega)).mono ?_
      rintro e w1 ⟨rfl, hp1, hbs, hos⟩
      have HPG2 : Hid (PgT w0.heap.size b (l ++ txSs (list.take (j + 1)) (d + 1)) (d + 1) w1) := by
        show PgT _ _ _ _ _; rw [HT.out, ← List.append_assoc]; exact hp1
      clear hp1 HPG1
      go_wp2_with fail
      go_roundw
      case rel => exact ⟨j + 1, by omega, by go_num, HPG2.out, hb2.trans hbs, (ho.trans HO1).trans hos⟩
      case measure => simp [intOf]; omega
    · obtain rfl : j = list.length := by omega
      have HPG3 : Hid (PgT w0.heap.size b (l ++ txSs list (d + 1)) (d + 1) wr) := by
        show PgT _ _ _ _ _; have := HPG.out; rwa [List.take_length] at this
      obtain ⟨p, h1⟩ := HPG3.out.some
      have c2 : wr.cell? ⟨b, 2, none⟩ = some (.int .i64 ((d + 1 : Nat) : Int)) := by
        obtain ⟨ao, cp, hbk, _⟩ := h1.slice
        rw [Lib.cell_of_heap hbk]; rfl
      have q2 := h1.frozen 2
      have HP4 : Hid (PgT w0.heap.size b (l ++ txSs list (d + 1)) d (wr.setCell ⟨b, 2, none⟩ (.int .i64 d))) := by
        show Pg _ _ _ _ _
        rcases HPG3.out with h | h
        · exact .inl (h.deep _)
        · exact .inr (h.deep _)
      clear h1
      go_wp2_with fail
      go_end0
      exact ⟨rfl, HP4.out, hb.setCell (p := ⟨b, 2, none⟩) hBb _, ho.setCell ⟨b, 2, none⟩ rfl _⟩

theorem body_any (w0 : World) (b : Nat) (l : List UInt8) (d : Nat) (list : List St) (a : Option Addr) (c : Nat) (w : World) (hB : Below w0.heap.size w0 w) (hp : PgT w0.heap.size b l d w) (hd : d ≤ 50) (hin : Have w0 a c list) (hs : ∀ s ∈ list, StmtPr w0 s) (hlen : (l ++ txSs list (d + 1)).length ≤ 140737488355328) :
    Calls Tryz.prog 41 #[.pointer (some ⟨b, 0, none⟩), .slice a list.length c] w fun e w' => e = .returned (.tuple #[]) ∧ PgT w0.heap.size b (l ++ txSs list (d + 1)) d w' ∧ Below w0.heap.size w w' ∧ Oth b w w' := bodyD w0 90 b l d list a c w hB hp (by omega) (by omega) hin hs hlen

set_option maxRecDepth 100000 in
set_option maxHeartbeats 8000000 in
theorem stmt9 (w0 : World) (s : St) (hk : s.kind = 9) (hin : s.In w0) (ht : Tabs w0) (hnt : NumT w0) (hok : OkE s.a) (hsz : s.a.sz ≤ 1000000) : StmtPr w0 s := by
  intro b l d w hB hp hd hlen
  have HT : Hid (lineB d (cat [⟨#[114, 101, 116, 117, 114, 110, 32]⟩, ⟨(txE s.a).toArray⟩, ⟨#[59]⟩]) = txS s d) := by
    show _ = _; cases s; simp only [St.kind] at hk; subst hk; simp [txS, cat, St.a]
  rw [← HT.out] at hlen ⊢
  have HLEN : Hid ((l ++ lineB d (cat [⟨#[114, 101, 116, 117, 114, 110, 32]⟩, ⟨(txE s.a).toArray⟩, ⟨#[59]⟩])).length ≤ 140737488355328) := hlen
  have HX : Hid (∀ w', Below w0.heap.size w0 w' → Calls Tryz.prog 88 #[.agg #[.int .i64 s.a.kind, .int .i64 s.a.n, .string s.a.name, .slice s.a.a s.a.args.length s.a.cap]] w' fun e w'' => e = .returned (sB (txE s.a)) ∧ Below w'.heap.size w' w'') := fun w' hb => expr_any s.a w' ((St.in_iff.1 hin).2.2.2.1.stay hb) (ht.stay hb) (hnt.stay hb) hok hsz
  have HP : Hid (PgT w0.heap.size b l d w) := hp
  have hsw := hB.size
  clear hin ht hnt hok hp hlen HT
  unfold St.val
  rw [hk]
  go_enter Tryz.func62, Tryz.ntmps62
  go_wp2_with fail
  have hb0 := (Below.refl _ w).alloc (Nat.le_refl _) (.cells #[.int .i64 9, .string s.name, .int .i64 s.n, .int .i64 s.a.kind, .int .i64 s.a.n, .string s.a.name, .slice s.a.a s.a.args.length s.a.cap, .int .i64 s.b.kind, .int .i64 s.b.n, .string s.b.name, .slice s.b.a s.b.args.length s.b.cap, .slice s.ba s.body.length s.bc, .slice s.ea s.els.length s.ec, .slice s.ca s.cases.length s.cc] 43)
  have hB0 : Below w0.heap.size w0 _ := hB.alloc hsw (.cells #[.int .i64 9, .string s.name, .int .i64 s.n, .int .i64 s.a.kind, .int .i64 s.a.n, .string s.a.name, .slice s.a.a s.a.args.length s.a.cap, .int .i64 s.b.kind, .int .i64 s.b.n, .string s.b.name, .slice s.b.a s.b.args.length s.b.cap, .slice s.ba s.body.length s.bc, .slice s.ea s.els.length s.ec, .slice s.ca s.cases.length s.cc] 43)
  refine (HX.out _ hB0).mono ?_
  rintro e w1 ⟨rfl, hb1⟩
  have hb2 := Below.on hb0 hb1
  go_wp2_with fail
  refine (line_new w0.heap.size b l d [⟨#[114, 101, 116, 117, 114, 110, 32]⟩, ⟨(txE s.a).toArray⟩, ⟨#[59]⟩] w1 (HP.out.stay hb2) (by have := hb2.size; omega) (Nat.le_of_ble_eq_true rfl) (by omega) HLEN.out).mono ?_
  rintro e w2 ⟨rfl, hp2, hb3, ho3⟩
  have HP2 : Hid (PgT w0.heap.size b (l ++ lineB d (cat [⟨#[114, 101, 116, 117, 114, 110, 32]⟩, ⟨(txE s.a).toArray⟩, ⟨#[59]⟩])) d w2) := hp2
  clear hp2
  go_wp2_with fail
  go_end0
  exact ⟨rfl, HP2.out, ((hb2.mono hsw).alloc (by have := hb2.size; omega) _).trans hb3, ((oth_below hb2).alloc _).trans ho3⟩
end Go.Proofs.YtbpemackmadhgaaGreatDoor

/- Are two expressions the same? -/
namespace Go.Proofs.YtbpemackmadhgaaGreatDoor
open Go.RowKit

mutual
def samE : Ex → Ex → Bool
  | .mk k n s _ _ l, y => k == y.kind && (n == y.n && (s.toList == y.name.toList && samEs l y.args))
def samEs : List Ex → List Ex → Bool
  | [], [] => true
  | x :: r, y :: t => samE x y && samEs r t
  | [], _ :: _ => false
  | _ :: _, [] => false
end
theorem samE_eq (x y : Ex) : samE x y = (x.kind == y.kind && (x.n == y.n && (x.name.toList == y.name.toList && samEs x.args y.args))) := by cases x; simp only [samE, Ex.kind, Ex.n, Ex.name, Ex.args]
theorem samEs_len : ∀ {l t : List Ex}, l.length ≠ t.length → samEs l t = false
  | [], [], h => by simp at h
  | [], _ :: _, _ => by simp [samEs]
  | _ :: _, [], _ => by simp [samEs]
  | x :: r, y :: t, h => by simp only [samEs]; rw [samEs_len (by simpa using h)]; simp
theorem samEs_drop {l t : List Ex} {j : Nat} (h : j < l.length) (h' : j < t.length) : samEs (l.drop j) (t.drop j) = (samE l[j] t[j] && samEs (l.drop (j + 1)) (t.drop (j + 1))) := by
  rw [List.drop_eq_getElem_cons h, List.drop_eq_getElem_cons h', samEs]
def HaveE (W : World) (a : Option Addr) (c : Nat) (l : List Ex) : Prop := l.length ≤ c ∧ c * 56 ≤ 140737488351232 ∧ RowIn W a 4 (l.map Ex.cells) ∧ ∀ x ∈ l, x.In W
theorem HaveE.stay {W W' : World} (hb : Below W.heap.size W W') {a : Option Addr} {c : Nat} {l : List Ex} (h : HaveE W a c l) : HaveE W' a c l := ⟨h.1, h.2.1, h.2.2.1.below hb, fun x hx => (h.2.2.2 x hx).stay hb⟩
theorem Ex.In.have {W : World} {x : Ex} (h : x.In W) : HaveE W x.a x.cap x.args := by
  obtain ⟨_, _, _, h4, h5, _, h7, h8⟩ := Ex.in_iff.1 h
  exact ⟨h4, h5, h7, h8⟩

set_option maxRecDepth 100000 in
set_option maxHeartbeats 4000000 in
theorem eqE_step (k : Nat) (h1 : ∀ (x y : Ex) (w : World), x.sz ≤ k → x.In w → y.In w → Calls Tryz.prog 96 #[x.val, y.val] w fun e w' => e = .returned (.bool (samE x y)) ∧ Below w.heap.size w w')
    (l t : List Ex) (a a' : Option Addr) (c c' : Nat) (w : World) (hk : szL l ≤ k) (hin : HaveE w a c l) (hin' : HaveE w a' c' t) :
    Calls Tryz.prog 110 #[.slice a l.length c, .slice a' t.length c', .func (.func 96) #[] #[]] w fun e w' => e = .returned (.bool (samEs l t)) ∧ Below w.heap.size w w' := by
  have IH : Hid (∀ (x y : Ex) (w : World), x.sz ≤ k → x.In w → y.In w → Calls Tryz.prog 96 #[x.val, y.val] w fun e w' => e = .returned (.bool (samE x y)) ∧ Below w.heap.size w w') := h1
  have HA : Hid (HaveE w a c l) := hin
  have HB : Hid (HaveE w a' c' t) := hin'
  have hl := hin.1
  have hc := hin.2.1
  have hl' := hin'.1
  have hc' := hin'.2.1
  clear h1 hin hin'
  by_cases hle : l.length = t.length
  · have HL : Hid (l.length = t.length) := hle
    rw [← hle] at hl' ⊢
    clear hle
    go_enter Tryz.func110, Tryz.ntmps110
    go_wp2_with fail
    go_loopw [17] (fun t17 wr => ∃ (j : Nat), j ≤ l.length ∧ t17 = .int .i64 j ∧ samEs (l.drop j) (t.drop j) = samEs l t ∧ Below w.heap.size w wr) (fun t17 _ => l.length - (intOf t17).toNat)
    case atStart => exact ⟨0, Nat.zero_le _, rfl, rfl, Below.refl _ w⟩
    case round =>
      obtain ⟨j, hj, rfl, hcnt, hb⟩ := hrel
      have HC : Hid (samEs (l.drop j) (t.drop j) = samEs l t) := hcnt
      clear hcnt
      have hws := hb.size
      by_cases hlt : j < l.length
      · have hlt' : j < t.length := by have := HL.out; omega
        obtain ⟨b, o, rfl, c0, c1, c2, c3⟩ := row_at (HA.out.2.2.1.below hb) hlt
        obtain ⟨b', o', rfl, d0, d1, d2, d3⟩ := row_at (HB.out.2.2.1.below hb) hlt'
        have hbl := lt_of_cell c0
        have hbl' := lt_of_cell d0
        simp only at hbl hbl'
        have hli : (j : Int) < (l.length : Int) := by omega
        have hsy := szL_mem (List.getElem_mem hlt)
        have HY : Hid (Ex.In w l[j]) := HA.out.2.2.2 l[j] (List.getElem_mem hlt)
        have HY' : Hid (Ex.In w t[j]) := HB.out.2.2.2 t[j] (List.getElem_mem hlt')
        have HZ : Hid (l[j].sz ≤ k) := (by omega : l[j].sz ≤ k)
        have HD : Hid (samEs (l.drop j) (t.drop j) = (samE l[j] t[j] && samEs (l.drop (j + 1)) (t.drop (j + 1)))) := samEs_drop hlt hlt'
        clear hsy
        generalize l[j] = x at *
        generalize t[j] = y at *
        have hb2 := (hb.alloc hws (.cells #[.int .i64 x.kind, .int .i64 x.n, .string x.name, .slice x.a x.args.length x.cap] 36)).alloc (by simp; omega) (.cells #[.int .i64 y.kind, .int .i64 y.n, .string y.name, .slice y.a y.args.length y.cap] 36)
        have hs2 := hb2.size
        go_wp2_with fail
        refine (IH.out x y _ HZ.out (HY.out.stay hb2) (HY'.out.stay hb2)).mono ?_
        rintro e w' ⟨rfl, hb'⟩
        have hb4 : Below w.heap.size w w' := hb2.trans (hb'.mono hs2)
        cases ev : samE x y
        · rw [ev] at HD
          go_wp2_with fail
          go_ret
          exact ⟨ret_bool (by rw [← HC.out, HD.out]; rfl), hb4⟩
        · rw [ev] at HD
          go_wp2_with fail
          go_roundw
          case rel => exact ⟨j + 1, by omega, by go_num, by rw [← HC.out, HD.out]; rfl, hb4⟩
          case measure => simp [intOf]; omega
      · go_wp2_with fail
        go_ret
        refine ⟨ret_bool ?_, hb⟩
        rw [← HC.out, List.drop_eq_nil_of_le (by omega), List.drop_eq_nil_of_le (by have := HL.out; omega)]; simp [samEs]
  · have hne : ((l.length : Int) != (t.length : Int)) = true := by simp only [bne_iff_ne]; omega
    go_enter Tryz.func110, Tryz.ntmps110
    go_wp2_with fail
    go_ret
    exact ⟨ret_bool (by rw [samEs_len hle]), Below.refl _ w⟩
end Go.Proofs.YtbpemackmadhgaaGreatDoor

/- sameExpr at any depth. -/
namespace Go.Proofs.YtbpemackmadhgaaGreatDoor
open Go.RowKit

set_option maxRecDepth 100000 in
set_option maxHeartbeats 4000000 in
theorem sameExpr_step (k : Nat) (h2 : ∀ (l t : List Ex) (a a' : Option Addr) (c c' : Nat) (w : World), szL l ≤ k → HaveE w a c l → HaveE w a' c' t → Calls Tryz.prog 110 #[.slice a l.length c, .slice a' t.length c', .func (.func 96) #[] #[]] w fun e w' => e = .returned (.bool (samEs l t)) ∧ Below w.heap.size w w')
    (x y : Ex) (w : World) (hk : x.sz ≤ k + 1) (hx : x.In w) (hy : y.In w) : Calls Tryz.prog 96 #[x.val, y.val] w fun e w' => e = .returned (.bool (samE x y)) ∧ Below w.heap.size w w' := by
  have hb1 := ((Below.refl _ w).alloc (Nat.le_refl _) (.cells #[.int .i64 x.kind, .int .i64 x.n, .string x.name, .slice x.a x.args.length x.cap] 36)).alloc (by simp) (.cells #[.int .i64 y.kind, .int .i64 y.n, .string y.name, .slice y.a y.args.length y.cap] 36)
  have HQ : Hid (∀ w', Below w.heap.size w w' → Calls Tryz.prog 110 #[.slice x.a x.args.length x.cap, .slice y.a y.args.length y.cap, .func (.func 96) #[] #[]] w' fun e w'' => e = .returned (.bool (samEs x.args y.args)) ∧ Below w'.heap.size w' w'') := fun w' hb => h2 _ _ _ _ _ _ w' (by have := x.sz_args; omega) ((hx.stay hb).have) ((hy.stay hb).have)
  have HE : Hid (samE x y = (x.kind == y.kind && (x.n == y.n && (x.name.toList == y.name.toList && samEs x.args y.args)))) := samE_eq x y
  clear h2 hx hy
  generalize samE x y = res at HE ⊢
  generalize samEs x.args y.args = sub at HE HQ
  unfold Ex.val
  cases e1 : (x.kind == y.kind)
  · go_enter Tryz.func96, Tryz.ntmps96
    go_wp2_with fail
    go_ret
    exact ⟨ret_bool (by rw [HE.out, e1]; rfl), hb1⟩
  · cases e2 : (x.n == y.n)
    · go_enter Tryz.func96, Tryz.ntmps96
      go_wp2_with fail
      go_ret
      exact ⟨ret_bool (by rw [HE.out, e1, e2]; rfl), hb1⟩
    · cases e3 : (x.name.toList == y.name.toList)
      · go_enter Tryz.func96, Tryz.ntmps96
        go_wp2_with fail
        go_ret
        exact ⟨ret_bool (by rw [HE.out, e1, e2, e3]; rfl), hb1⟩
      · go_enter Tryz.func96, Tryz.ntmps96
        go_wp2_with fail
        refine (HQ.out _ hb1).mono ?_
        rintro e w' ⟨rfl, hb'⟩
        go_wp2_with fail
        go_ret
        exact ⟨ret_bool (by rw [HE.out, e1, e2, e3]; rfl), hb1.trans (hb'.mono hb1.size)⟩

theorem sameE_any (k : Nat) : (∀ (x y : Ex) (w : World), x.sz ≤ k → x.In w → y.In w → Calls Tryz.prog 96 #[x.val, y.val] w fun e w' => e = .returned (.bool (samE x y)) ∧ Below w.heap.size w w') := by
  induction k with
  | zero => intro x y w h; have := x.sz_args; omega
  | succ k ih => exact fun x y w hk hx hy => sameExpr_step k (fun l t a a' c c' w hk ha hb => eqE_step k ih l t a a' c c' w hk ha hb) x y w hk hx hy
theorem sameExpr_any (x y : Ex) (w : World) (hx : x.In w) (hy : y.In w) : Calls Tryz.prog 96 #[x.val, y.val] w fun e w' => e = .returned (.bool (samE x y)) ∧ Below w.heap.size w w' := sameE_any _ x y w (Nat.le_refl _) hx hy

mutual
def samS : St → St → Bool
  | .mk k s n a b _ _ l _ _ e _ _ c, y => k == y.kind && (s.toList == y.name.toList && (n == y.n && (samE a y.a && (samE b y.b && (samSs l y.body && (samSs e y.els && samCs c y.cases))))))
def samSs : List St → List St → Bool
  | [], [] => true
  | x :: r, y :: t => samS x y && samSs r t
  | [], _ :: _ => false
  | _ :: _, [] => false
def samC : Ca → Ca → Bool
  | .mk n _ _ l, y => n == y.n && samSs l y.body
def samCs : List Ca → List Ca → Bool
  | [], [] => true
  | x :: r, y :: t => samC x y && samCs r t
  | [], _ :: _ => false
  | _ :: _, [] => false
end
theorem samS_eq (x y : St) : samS x y = (x.kind == y.kind && (x.name.toList == y.name.toList && (x.n == y.n && (samE x.a y.a && (samE x.b y.b && (samSs x.body y.body && (samSs x.els y.els && samCs x.cases y.cases))))))) := by
  cases x; simp only [samS, St.kind, St.name, St.n, St.a, St.b, St.body, St.els, St.cases]
theorem samC_eq (x y : Ca) : samC x y = (x.n == y.n && samSs x.body y.body) := by cases x; simp only [samC, Ca.n, Ca.body]
theorem samSs_len : ∀ {l t : List St}, l.length ≠ t.length → samSs l t = false
  | [], [], h => by simp at h
  | [], _ :: _, _ => by simp [samSs]
  | _ :: _, [], _ => by simp [samSs]
  | x :: r, y :: t, h => by simp only [samSs]; rw [samSs_len (by simpa using h)]; simp
theorem samCs_len : ∀ {l t : List Ca}, l.length ≠ t.length → samCs l t = false
  | [], [], h => by simp at h
  | [], _ :: _, _ => by simp [samCs]
  | _ :: _, [], _ => by simp [samCs]
  | x :: r, y :: t, h => by simp only [samCs]; rw [samCs_len (by simpa using h)]; simp
theorem samSs_drop {l t : List St} {j : Nat} (h : j < l.length) (h' : j < t.length) : samSs (l.drop j) (t.drop j) = (samS l[j] t[j] && samSs (l.drop (j + 1)) (t.drop (j + 1))) := by
  rw [List.drop_eq_getElem_cons h, List.drop_eq_getElem_cons h', samSs]
theorem samCs_drop {l t : List Ca} {j : Nat} (h : j < l.length) (h' : j < t.length) : samCs (l.drop j) (t.drop j) = (samC l[j] t[j] && samCs (l.drop (j + 1)) (t.drop (j + 1))) := by
  rw [List.drop_eq_getElem_cons h, List.drop_eq_getElem_cons h', samCs]
def HaveC (W : World) (a : Option Addr) (c : Nat) (l : List Ca) : Prop := LiesC W a c l ∧ ∀ x ∈ l, x.In W
end Go.Proofs.YtbpemackmadhgaaGreatDoor

/- slices.EqualFunc at cases. -/
namespace Go.Proofs.YtbpemackmadhgaaGreatDoor
open Go.RowKit

theorem rowC_cells {W : World} {a : Option Addr} {l : List Ca} (h : RowIn W a 2 (l.map Ca.cells)) {i : Nat} (hi : i < l.length) :
    ∃ b o, a = some ⟨b, o, none⟩ ∧ ∀ j v, l[i].cells[j]? = some v → W.cell? ⟨b, o + (i * 2 + j), none⟩ = some v := h i l[i].cells (by simp [hi])
set_option maxRecDepth 100000 in
set_option maxHeartbeats 8000000 in
theorem eqC_step (k : Nat) (h1 : ∀ (x y : Ca) (w : World), x.sz ≤ k → x.In w → y.In w → Calls Tryz.prog 98 #[x.val, y.val] w fun e w' => e = .returned (.bool (samC x y)) ∧ Below w.heap.size w w')
    (l t : List Ca) (a a' : Option Addr) (c c' : Nat) (w : World) (hk : csz l ≤ k) (hin : HaveC w a c l) (hin' : HaveC w a' c' t) :
    Calls Tryz.prog 97 #[.slice a l.length c, .slice a' t.length c', .func (.func 98) #[] #[]] w fun e w' => e = .returned (.bool (samCs l t)) ∧ Below w.heap.size w w' := by
  have IH : Hid (∀ (x y : Ca) (w : World), x.sz ≤ k → x.In w → y.In w → Calls Tryz.prog 98 #[x.val, y.val] w fun e w' => e = .returned (.bool (samC x y)) ∧ Below w.heap.size w w') := h1
  have HA : Hid (HaveC w a c l) := hin
  have HB : Hid (HaveC w a' c' t) := hin'
  have hl := hin.1.1
  have hc := hin.1.2.1
  have hl' := hin'.1.1
  have hc' := hin'.1.2.1
  clear h1 hin hin'
  by_cases hle : l.length = t.length
  · have HL : Hid (l.length = t.length) := hle
    rw [← hle] at hl' ⊢
    clear hle
    go_enter Tryz.func97, Tryz.ntmps97
    go_wp2_with fail
    go_loopw [17] (fun t17 wr => ∃ (j : Nat), j ≤ l.length ∧ t17 = .int .i64 j ∧ samCs (l.drop j) (t.drop j) = samCs l t ∧ Below w.heap.size w wr) (fun t17 _ => l.length - (intOf t17).toNat)
    case atStart => exact ⟨0, Nat.zero_le _, rfl, rfl, Below.refl _ w⟩
    case round =>
      obtain ⟨j, hj, rfl, hcnt, hb⟩ := hrel
      have HC : Hid (samCs (l.drop j) (t.drop j) = samCs l t) := hcnt
      clear hcnt
      have hws := hb.size
      by_cases hlt : j < l.length
      · have hlt' : j < t.length := by have := HL.out; omega
        obtain ⟨b, o, rfl, hc1⟩ := rowC_cells (HA.out.1.2.2.2.below hb) hlt
        obtain ⟨b', o', rfl, hc2⟩ := rowC_cells (HB.out.1.2.2.2.below hb) hlt'
        have c0 := hc1 0 _ rfl
        have d0 := hc2 0 _ rfl
        have c1 := hc1 1 _ rfl
        have d1 := hc2 1 _ rfl
        simp only [← Nat.add_assoc, Nat.add_zero] at c0 d0 c1 d1
        clear hc1 hc2
        have hbl : b < wr.heap.size := lt_of_cell c0
        have hbl' : b' < wr.heap.size := lt_of_cell d0
        have hli : (j : Int) < (l.length : Int) := by omega
        have hsy := csz_mem (List.getElem_mem hlt)
        have HZ : Hid (l[j].sz ≤ k) := (by omega : l[j].sz ≤ k)
        clear hsy
        have HY : Hid (l[j].In w) := HA.out.2 l[j] (List.getElem_mem hlt)
        have HY' : Hid (t[j].In w) := HB.out.2 t[j] (List.getElem_mem hlt')
        have HD : Hid (samCs (l.drop j) (t.drop j) = (samC l[j] t[j] && samCs (l.drop (j + 1)) (t.drop (j + 1)))) := samCs_drop hlt hlt'
        generalize l[j] = x at *
        generalize t[j] = y at *
        have hb2 := (hb.alloc hws (.cells #[.int .i64 x.n, .slice x.ba x.body.length x.bc] 101)).alloc (by simp; omega) (.cells #[.int .i64 y.n, .slice y.ba y.body.length y.bc] 101)
        have hs2 := hb2.size
        go_wp2_with fail
        refine (IH.out x y _ HZ.out (HY.out.stay hb2) (HY'.out.stay hb2)).mono ?_
        rintro e w' ⟨rfl, hb'⟩
        have hb4 : Below w.heap.size w w' := hb2.trans (hb'.mono hs2)
        clear c0 d0 c1 d1
        cases ev : samC x y
        · rw [ev] at HD
          go_wp2_with fail
          go_ret
          exact ⟨ret_bool (by rw [← HC.out, HD.out]; rfl), hb4⟩
        · rw [ev] at HD
          go_wp2_with fail
          go_roundw
          case rel => exact ⟨j + 1, by omega, by go_num, by rw [← HC.out, HD.out]; rfl, hb4⟩
          case measure => simp [intOf]; omega
      · go_wp2_with fail
        go_ret
        refine ⟨ret_bool ?_, hb⟩
        rw [← HC.out, List.drop_eq_nil_of_le (by omega), List.drop_eq_nil_of_le (by have := HL.out; omega)]; simp [samCs]
  · have hne : ((l.length : Int) != (t.length : Int)) = true := by simp only [bne_iff_ne]; omega
    go_enter Tryz.func97, Tryz.ntmps97
    go_wp2_with fail
    go_ret
    exact ⟨ret_bool (by rw [samCs_len hle]), Below.refl _ w⟩
end Go.Proofs.YtbpemackmadhgaaGreatDoor

/- slices.EqualFunc at statements. -/
namespace Go.Proofs.YtbpemackmadhgaaGreatDoor
open Go.RowKit

set_option maxRecDepth 100000 in
set_option maxHeartbeats 8000000 in
theorem eqS_step (k : Nat) (h1 : ∀ (x y : St) (w : World), x.sz ≤ k → x.In w → y.In w → Calls Tryz.prog 68 #[x.val, y.val] w fun e w' => e = .returned (.bool (samS x y)) ∧ Below w.heap.size w w')
    (l t : List St) (a a' : Option Addr) (c c' : Nat) (w : World) (hk : ssz l ≤ k) (hin : Have w a c l) (hin' : Have w a' c' t) :
    Calls Tryz.prog 67 #[.slice a l.length c, .slice a' t.length c', .func (.func 68) #[] #[]] w fun e w' => e = .returned (.bool (samSs l t)) ∧ Below w.heap.size w w' := by
  have IH : Hid (∀ (x y : St) (w : World), x.sz ≤ k → x.In w → y.In w → Calls Tryz.prog 68 #[x.val, y.val] w fun e w' => e = .returned (.bool (samS x y)) ∧ Below w.heap.size w w') := h1
  have HA : Hid (Have w a c l) := hin
  have HB : Hid (Have w a' c' t) := hin'
  have hl := hin.1.1
  have hc := hin.1.2.1
  have hl' := hin'.1.1
  have hc' := hin'.1.2.1
  clear h1 hin hin'
  by_cases hle : l.length = t.length
  · have HL : Hid (l.length = t.length) := hle
    rw [← hle] at hl' ⊢
    clear hle
    go_enter Tryz.func67, Tryz.ntmps67
    go_wp2_with fail
    go_loopw [17] (fun t17 wr => ∃ (j : Nat), j ≤ l.length ∧ t17 = .int .i64 j ∧ samSs (l.drop j) (t.drop j) = samSs l t ∧ Below w.heap.size w wr) (fun t17 _ => l.length - (intOf t17).toNat)
    case atStart => exact ⟨0, Nat.zero_le _, rfl, rfl, Below.refl _ w⟩
    case round =>
      obtain ⟨j, hj, rfl, hcnt, hb⟩ := hrel
      have HC : Hid (samSs (l.drop j) (t.drop j) = samSs l t) := hcnt
      clear hcnt
      have hws := hb.size
      by_cases hlt : j < l.length
      · have hlt' : j < t.length := by have := HL.out; omega
        obtain ⟨b, o, rfl, hc1⟩ := rowS_at (HA.out.1.2.2.2.below hb) hlt
        obtain ⟨b', o', rfl, hc2⟩ := rowS_at (HB.out.1.2.2.2.below hb) hlt'
        have c0 := hc1 0 _ rfl
        have d0 := hc2 0 _ rfl
        have c1 := hc1 1 _ rfl
        have d1 := hc2 1 _ rfl
        have c2 := hc1 2 _ rfl
        have d2 := hc2 2 _ rfl
        have c3 := hc1 3 _ rfl
        have d3 := hc2 3 _ rfl
        have c4 := hc1 4 _ rfl
        have d4 := hc2 4 _ rfl
        have c5 := hc1 5 _ rfl
        have d5 := hc2 5 _ rfl
        have c6 := hc1 6 _ rfl
        have d6 := hc2 6 _ rfl
        have c7 := hc1 7 _ rfl
        have d7 := hc2 7 _ rfl
        have c8 := hc1 8 _ rfl
        have d8 := hc2 8 _ rfl
        have c9 := hc1 9 _ rfl
        have d9 := hc2 9 _ rfl
        have c10 := hc1 10 _ rfl
        have d10 := hc2 10 _ rfl
        have c11 := hc1 11 _ rfl
        have d11 := hc2 11 _ rfl
        have c12 := hc1 12 _ rfl
        have d12 := hc2 12 _ rfl
        have c13 := hc1 13 _ rfl
        have d13 := hc2 13 _ rfl
        simp only [← Nat.add_assoc, Nat.add_zero] at c0 d0 c1 d1 c2 d2 c3 d3 c4 d4 c5 d5 c6 d6 c7 d7 c8 d8 c9 d9 c10 d10 c11 d11 c12 d12 c13 d13
        clear hc1 hc2
        have hbl : b < wr.heap.size := lt_of_cell c0
        have hbl' : b' < wr.heap.size := lt_of_cell d0
        have hli : (j : Int) < (l.length : Int) := by omega
        have hsy := ssz_mem (List.getElem_mem hlt)
        have HZ : Hid (l[j].sz ≤ k) := (by omega : l[j].sz ≤ k)
        clear hsy
        have HY : Hid (l[j].In w) := HA.out.2 l[j] (List.getElem_mem hlt)
        have HY' : Hid (t[j].In w) := HB.out.2 t[j] (List.getElem_mem hlt')
        have HD : Hid (samSs (l.drop j) (t.drop j) = (samS l[j] t[j] && samSs (l.drop (j + 1)) (t.drop (j + 1)))) := samSs_drop hlt hlt'
        generalize l[j] = x at *
        generalize t[j] = y at *
        have hb2 := (hb.alloc hws (.cells #[.int .i64 x.kind, .string x.name, .int .i64 x.n, .int .i64 x.a.kind, .int .i64 x.a.n, .string x.a.name, .slice x.a.a x.a.args.length x.a.cap, .int .i64 x.b.kind, .int .i64 x.b.n, .string x.b.name, .slice x.b.a x.b.args.length x.b.cap, .slice x.ba x.body.length x.bc, .slice x.ea x.els.length x.ec, .slice x.ca x.cases.length x.cc] 43)).alloc (by simp; omega) (.cells #[.int .i64 y.kind, .string y.name, .int .i64 y.n, .int .i64 y.a.kind, .int .i64 y.a.n, .string y.a.name, .slice y.a.a y.a.args.length y.a.cap, .int .i64 y.b.kind, .int .i64 y.b.n, .string y.b.name, .slice y.b.a y.b.args.length y.b.cap, .slice y.ba y.body.length y.bc, .slice y.ea y.els.length y.ec, .slice y.ca y.cases.length y.cc] 43)
        have hs2 := hb2.size
        go_wp2_with fail
        refine (IH.out x y _ HZ.out (HY.out.stay hb2) (HY'.out.stay hb2)).mono ?_
        rintro e w' ⟨rfl, hb'⟩
        have hb4 : Below w.heap.size w w' := hb2.trans (hb'.mono hs2)
        clear c0 d0 c1 d1 c2 d2 c3 d3 c4 d4 c5 d5 c6 d6 c7 d7 c8 d8 c9 d9 c10 d10 c11 d11 c12 d12 c13 d13
        cases ev : samS x y
        · rw [ev] at HD
          go_wp2_with fail
          go_ret
          exact ⟨ret_bool (by rw [← HC.out, HD.out]; rfl), hb4⟩
        · rw [ev] at HD
          go_wp2_with fail
          go_roundw
          case rel => exact ⟨j + 1, by omega, by go_num, by rw [← HC.out, HD.out]; rfl, hb4⟩
          case measure => simp [intOf]; omega
      · go_wp2_with fail
        go_ret
        refine ⟨ret_bool ?_, hb⟩
        rw [← HC.out, List.drop_eq_nil_of_le (by omega), List.drop_eq_nil_of_le (by have := HL.out; omega)]; simp [samSs]
  · have hne : ((l.length : Int) != (t.length : Int)) = true := by simp only [bne_iff_ne]; omega
    go_enter Tryz.func67, Tryz.ntmps67
    go_wp2_with fail
    go_ret
    exact ⟨ret_bool (by rw [samSs_len hle]), Below.refl _ w⟩
end Go.Proofs.YtbpemackmadhgaaGreatDoor
