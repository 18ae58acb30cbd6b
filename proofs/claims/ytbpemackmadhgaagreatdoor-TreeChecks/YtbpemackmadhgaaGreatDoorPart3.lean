/- Raw data read at the types of a program are a tree that lies in memory: expressions, statements, functions, programs. -/
import Derived.Test.YtbpemackmadhgaaGreatDoorPart2
import Derived.Test.YtbpemackmadhgaaGreatDoorPart1
import Derived.Deep.CutBlock
namespace Go.Proofs.YtbpemackmadhgaaGreatDoor
open Go.ChangeShapes Go.WideShapes Go.RowKit
set_option maxRecDepth 100000

theorem cIntO : Tryz.prog.cellsOf 3 = 1 := by kernel_rfl
theorem cI64O : Tryz.prog.cellsOf 2 = 1 := by kernel_rfl
theorem cStrO : Tryz.prog.cellsOf 9 = 1 := by kernel_rfl
theorem cEx : Tryz.prog.cellsOf 36 = 4 := by kernel_rfl
theorem cSt : Tryz.prog.cellsOf 43 = 14 := by kernel_rfl
theorem cCa : Tryz.prog.cellsOf 101 = 2 := by kernel_rfl
theorem cPa : Tryz.prog.cellsOf 38 = 3 := by kernel_rfl
theorem cFu : Tryz.prog.cellsOf 45 = 3 := by kernel_rfl
theorem cPr : Tryz.prog.cellsOf 25 = 2 := by kernel_rfl
theorem cLe : Tryz.prog.cellsOf 34 = 1 := by kernel_rfl
theorem cLs : Tryz.prog.cellsOf 40 = 1 := by kernel_rfl
theorem cLc : Tryz.prog.cellsOf 41 = 1 := by kernel_rfl
theorem cLp : Tryz.prog.cellsOf 39 = 1 := by kernel_rfl
theorem cLf : Tryz.prog.cellsOf 23 = 1 := by kernel_rfl
theorem cLi : Tryz.prog.cellsOf 22 = 1 := by kernel_rfl
theorem bEx : Tryz.prog.bytesOf 36 = 56 := by kernel_rfl
theorem bSt : Tryz.prog.bytesOf 43 = 216 := by kernel_rfl
theorem bCa : Tryz.prog.bytesOf 101 = 32 := by kernel_rfl
theorem bPa : Tryz.prog.bytesOf 38 = 32 := by kernel_rfl
theorem bFu : Tryz.prog.bytesOf 45 = 64 := by kernel_rfl
theorem bI64 : Tryz.prog.bytesOf 2 = 8 := by kernel_rfl

instance : Inhabited Ex := ⟨.mk 0 0 ⟨#[]⟩ none 0 []⟩
instance : Inhabited St := ⟨.mk 0 ⟨#[]⟩ 0 default default none 0 [] none 0 [] none 0 []⟩
instance : Inhabited Ca := ⟨.mk 0 none 0 []⟩
instance : Inhabited Pa := ⟨⟨⟨#[]⟩, 0, 0⟩⟩
instance : Inhabited Fu := ⟨⟨⟨#[]⟩, none, 0, [], none, 0, []⟩⟩

theorem len2 : ∀ l : List Value, l.length = 2 → ∃ c0 c1, l = [c0, c1]
  | [c0, c1], _ => ⟨c0, c1, rfl⟩
theorem len3 : ∀ l : List Value, l.length = 3 → ∃ c0 c1 c2, l = [c0, c1, c2]
  | [c0, c1, c2], _ => ⟨c0, c1, c2, rfl⟩
theorem len4 : ∀ l : List Value, l.length = 4 → ∃ c0 c1 c2 c3, l = [c0, c1, c2, c3]
  | [c0, c1, c2, c3], _ => ⟨c0, c1, c2, c3, rfl⟩
theorem len14 : ∀ l : List Value, l.length = 14 → ∃ c0 c1 c2 c3 c4 c5 c6 c7 c8 c9 c10 c11 c12 c13, l = [c0, c1, c2, c3, c4, c5, c6, c7, c8, c9, c10, c11, c12, c13]
  | [c0, c1, c2, c3, c4, c5, c6, c7, c8, c9, c10, c11, c12, c13], _ => ⟨c0, c1, c2, c3, c4, c5, c6, c7, c8, c9, c10, c11, c12, c13, rfl⟩

section
variable {H : Type} {enc : TypeId × Value → H} {w : World} {held : Bool}

theorem open_i {t : TypeId} {n : Nat} {c : Value} {y : DataW H × List MemPlace} (ht : Tryz.prog.underlying t = some (.int .i64)) (h : DataW.trod enc Tryz.prog w 0 (fun _ => true) held n t [c] = some y) : ∃ z, c = .int .i64 z ∧ I64 z := by
  obtain ⟨z, e, _, hw⟩ := DataW.trod_int ht h
  exact ⟨z, by simpa using e, i64_of hw⟩
theorem open_s {t : TypeId} {n : Nat} {c : Value} {y : DataW H × List MemPlace} (ht : Tryz.prog.underlying t = some .string) (h : DataW.trod enc Tryz.prog w 0 (fun _ => true) held n t [c] = some y) (hs : Small Tryz.prog t y.1) : ∃ s : ByteArray, c = .string s ∧ s.size ≤ 140737488351232 := by
  obtain ⟨s, e, rfl, _⟩ := DataW.trod_string ht h
  refine ⟨s, by simpa using e, ?_⟩
  have := hs s.data.toList.length (by rw [DataW.weights]; exact List.mem_singleton.2 rfl)
  rw [Array.length_toList] at this
  exact this

theorem fld {fs : Array Field} {n : Nat} {cs : List Value} (hf : ∀ (i : Nat) (f : Field), fs[i]? = some f → ∃ y, DataW.trod enc Tryz.prog w 0 (fun _ => true) held n f.type ((cs.drop f.offset).take (Tryz.prog.cellsOf f.type)) = some y ∧ Small Tryz.prog f.type y.1)
    (i : Nat) {f : Field} (hi : fs[i]? = some f) {t : TypeId} {o k : Nat} {l : List Value} (ht : f.type = t) (ho : f.offset = o) (hk : Tryz.prog.cellsOf t = k) (e : (cs.drop o).take k = l) :
    ∃ y, DataW.trod enc Tryz.prog w 0 (fun _ => true) held n t l = some y ∧ Small Tryz.prog t y.1 := by
  have := hf i f hi
  rw [ht, ho, hk, e] at this
  exact this

theorem open_ex : ∀ (fuel : Nat) (cs : List Value) (x : DataW H × List MemPlace), DataW.trod enc Tryz.prog w 0 (fun _ => true) held fuel 36 cs = some x → Small Tryz.prog 36 x.1 → ∃ y : Ex, cs = y.cells ∧ y.In w := by
  intro fuel
  induction fuel using Nat.strongRecOn with
  | _ fuel ih =>
    intro cs x h hs
    obtain ⟨n, rfl, hl, hf⟩ := open_field Tryz.underlying36 h hs
    rw [cEx] at hl
    obtain ⟨c0, c1, c2, c3, rfl⟩ := len4 cs hl
    obtain ⟨y0, f0, s0⟩ := fld hf 0 rfl (t := 3) (o := 0) (l := [c0]) rfl rfl cIntO rfl
    obtain ⟨y1, f1, s1⟩ := fld hf 1 rfl (t := 2) (o := 1) (l := [c1]) rfl rfl cI64O rfl
    obtain ⟨y2, f2, s2⟩ := fld hf 2 rfl (t := 9) (o := 2) (l := [c2]) rfl rfl cStrO rfl
    obtain ⟨y3, f3, s3⟩ := fld hf 3 rfl (t := 34) (o := 3) (l := [c3]) rfl rfl cLe rfl
    obtain ⟨k, rfl, hk⟩ := open_i Tryz.underlying3 f0
    obtain ⟨m, rfl, hm⟩ := open_i Tryz.underlying2 f1
    obtain ⟨s, rfl, hsz⟩ := open_s Tryz.underlying9 f2 s2
    obtain ⟨a, c, l, e, h1, h2, h3, h4, h5⟩ := open_rows (In := fun y : Ex => y.In w) Tryz.underlying34 cEx (by decide) bEx (fun m cs y hm => ih m (by omega) cs y) f3 s3
    obtain rfl : c3 = .slice a l.length c := by simpa using e
    exact ⟨.mk k m s a c l, rfl, Ex.in_iff.2 ⟨hk, hm, hsz, h1, h2, h3, h4, h5⟩⟩

theorem open_st : ∀ (fuel : Nat), (∀ (cs : List Value) (x : DataW H × List MemPlace), DataW.trod enc Tryz.prog w 0 (fun _ => true) held fuel 43 cs = some x → Small Tryz.prog 43 x.1 → ∃ y : St, cs = y.cells ∧ y.In w) ∧
    (∀ (cs : List Value) (x : DataW H × List MemPlace), DataW.trod enc Tryz.prog w 0 (fun _ => true) held fuel 101 cs = some x → Small Tryz.prog 101 x.1 → ∃ y : Ca, cs = y.cells ∧ y.In w) := by
  intro fuel
  induction fuel using Nat.strongRecOn with
  | _ fuel ih =>
    refine ⟨fun cs x h hs => ?_, fun cs x h hs => ?_⟩
    · obtain ⟨n, rfl, hl, hf⟩ := open_field Tryz.underlying43 h hs
      rw [cSt] at hl
      obtain ⟨c0, c1, c2, c3, c4, c5, c6, c7, c8, c9, c10, c11, c12, c13, rfl⟩ := len14 cs hl
      obtain ⟨y0, f0, s0⟩ := fld hf 0 rfl (t := 3) (o := 0) (l := [c0]) rfl rfl cIntO rfl
      obtain ⟨y1, f1, s1⟩ := fld hf 1 rfl (t := 9) (o := 1) (l := [c1]) rfl rfl cStrO rfl
      obtain ⟨y2, f2, s2⟩ := fld hf 2 rfl (t := 2) (o := 2) (l := [c2]) rfl rfl cI64O rfl
      obtain ⟨y3, f3, s3⟩ := fld hf 3 rfl (t := 36) (o := 3) (l := [c3, c4, c5, c6]) rfl rfl cEx rfl
      obtain ⟨y4, f4, s4⟩ := fld hf 4 rfl (t := 36) (o := 7) (l := [c7, c8, c9, c10]) rfl rfl cEx rfl
      obtain ⟨y5, f5, s5⟩ := fld hf 5 rfl (t := 40) (o := 11) (l := [c11]) rfl rfl cLs rfl
      obtain ⟨y6, f6, s6⟩ := fld hf 6 rfl (t := 40) (o := 12) (l := [c12]) rfl rfl cLs rfl
      obtain ⟨y7, f7, s7⟩ := fld hf 7 rfl (t := 41) (o := 13) (l := [c13]) rfl rfl cLc rfl
      obtain ⟨k, rfl, hk⟩ := open_i Tryz.underlying3 f0
      obtain ⟨s, rfl, hsz⟩ := open_s Tryz.underlying9 f1 s1
      obtain ⟨m, rfl, hm⟩ := open_i Tryz.underlying2 f2
      obtain ⟨xa, ea, ha⟩ := open_ex _ _ _ f3 s3
      obtain ⟨xb, eb, hb⟩ := open_ex _ _ _ f4 s4
      simp only [Ex.cells, List.cons.injEq, and_true] at ea eb
      obtain ⟨rfl, rfl, rfl, rfl⟩ := ea
      obtain ⟨rfl, rfl, rfl, rfl⟩ := eb
      obtain ⟨a1, k1, l1, e1, p1, p2, p3, p4, p5⟩ := open_rows (In := fun y : St => y.In w) Tryz.underlying40 cSt (by decide) bSt (fun m cs y hm => (ih m (by omega)).1 cs y) f5 s5
      obtain ⟨a2, k2, l2, e2, q1, q2, q3, q4, q5⟩ := open_rows (In := fun y : St => y.In w) Tryz.underlying40 cSt (by decide) bSt (fun m cs y hm => (ih m (by omega)).1 cs y) f6 s6
      obtain ⟨a3, k3, l3, e3, r1, r2, r3, r4, r5⟩ := open_rows (In := fun y : Ca => y.In w) Tryz.underlying41 cCa (by decide) bCa (fun m cs y hm => (ih m (by omega)).2 cs y) f7 s7
      obtain rfl : c11 = .slice a1 l1.length k1 := by simpa using e1
      obtain rfl : c12 = .slice a2 l2.length k2 := by simpa using e2
      obtain rfl : c13 = .slice a3 l3.length k3 := by simpa using e3
      exact ⟨.mk k s m xa xb a1 k1 l1 a2 k2 l2 a3 k3 l3, rfl, St.in_iff.2 ⟨hk, hsz, hm, ha, hb, ⟨⟨p1, p2, p3, p4⟩, p5⟩, ⟨⟨q1, q2, q3, q4⟩, q5⟩, ⟨r1, r2, r3, r4⟩, r5⟩⟩
    · obtain ⟨n, rfl, hl, hf⟩ := open_field Tryz.underlying101 h hs
      rw [cCa] at hl
      obtain ⟨c0, c1, rfl⟩ := len2 cs hl
      obtain ⟨y0, f0, s0⟩ := fld hf 0 rfl (t := 2) (o := 0) (l := [c0]) rfl rfl cI64O rfl
      obtain ⟨y1, f1, s1⟩ := fld hf 1 rfl (t := 40) (o := 1) (l := [c1]) rfl rfl cLs rfl
      obtain ⟨m, rfl, hm⟩ := open_i Tryz.underlying2 f0
      obtain ⟨a1, k1, l1, e1, p1, p2, p3, p4, p5⟩ := open_rows (In := fun y : St => y.In w) Tryz.underlying40 cSt (by decide) bSt (fun m cs y hm => (ih m (by omega)).1 cs y) f1 s1
      obtain rfl : c1 = .slice a1 l1.length k1 := by simpa using e1
      exact ⟨.mk m a1 k1 l1, rfl, Ca.in_iff.2 ⟨hm, ⟨⟨p1, p2, p3, p4⟩, p5⟩⟩⟩

theorem open_pa (fuel : Nat) (cs : List Value) (x : DataW H × List MemPlace) (h : DataW.trod enc Tryz.prog w 0 (fun _ => true) held fuel 38 cs = some x) (hs : Small Tryz.prog 38 x.1) : ∃ y : Pa, cs = y.cells ∧ y.Ok := by
  obtain ⟨n, rfl, hl, hf⟩ := open_field Tryz.underlying38 h hs
  rw [cPa] at hl
  obtain ⟨c0, c1, c2, rfl⟩ := len3 cs hl
  obtain ⟨y0, f0, s0⟩ := fld hf 0 rfl (t := 9) (o := 0) (l := [c0]) rfl rfl cStrO rfl
  obtain ⟨y1, f1, s1⟩ := fld hf 1 rfl (t := 2) (o := 1) (l := [c1]) rfl rfl cI64O rfl
  obtain ⟨y2, f2, s2⟩ := fld hf 2 rfl (t := 2) (o := 2) (l := [c2]) rfl rfl cI64O rfl
  obtain ⟨s, rfl, hsz⟩ := open_s Tryz.underlying9 f0 s0
  obtain ⟨a, rfl, ha⟩ := open_i Tryz.underlying2 f1
  obtain ⟨b, rfl, hb⟩ := open_i Tryz.underlying2 f2
  exact ⟨⟨s, a, b⟩, rfl, hsz, ha, hb⟩

theorem open_fu (fuel : Nat) (cs : List Value) (x : DataW H × List MemPlace) (h : DataW.trod enc Tryz.prog w 0 (fun _ => true) held fuel 45 cs = some x) (hs : Small Tryz.prog 45 x.1) : ∃ y : Fu, cs = y.cells ∧ y.In w := by
  obtain ⟨n, rfl, hl, hf⟩ := open_field Tryz.underlying45 h hs
  rw [cFu] at hl
  obtain ⟨c0, c1, c2, rfl⟩ := len3 cs hl
  obtain ⟨y0, f0, s0⟩ := fld hf 0 rfl (t := 9) (o := 0) (l := [c0]) rfl rfl cStrO rfl
  obtain ⟨y1, f1, s1⟩ := fld hf 1 rfl (t := 39) (o := 1) (l := [c1]) rfl rfl cLp rfl
  obtain ⟨y2, f2, s2⟩ := fld hf 2 rfl (t := 40) (o := 2) (l := [c2]) rfl rfl cLs rfl
  obtain ⟨s, rfl, hsz⟩ := open_s Tryz.underlying9 f0 s0
  obtain ⟨a1, k1, l1, e1, p1, p2, p3, p4, p5⟩ := open_rows (In := fun y : Pa => y.Ok) Tryz.underlying39 cPa (by decide) bPa (fun m cs y _ => open_pa m cs y) f1 s1
  obtain ⟨a2, k2, l2, e2, q1, q2, q3, q4, q5⟩ := open_rows (In := fun y : St => y.In w) Tryz.underlying40 cSt (by decide) bSt (fun m cs y _ => (open_st m).1 cs y) f2 s2
  obtain rfl : c1 = .slice a1 l1.length k1 := by simpa using e1
  obtain rfl : c2 = .slice a2 l2.length k2 := by simpa using e2
  exact ⟨⟨s, a1, k1, l1, a2, k2, l2⟩, rfl, hsz, p1, p2, p3, p4, p5, ⟨⟨q1, q2, q3, q4⟩, q5⟩⟩

theorem open_pr (fuel : Nat) (cs : List Value) (x : DataW H × List MemPlace) (h : DataW.trod enc Tryz.prog w 0 (fun _ => true) held fuel 25 cs = some x) (hs : Small Tryz.prog 25 x.1) :
    ∃ y : Pr, cs = [.slice y.wa y.widen.length y.wc, .slice y.fa y.funcs.length y.fc] ∧ y.In w := by
  obtain ⟨n, rfl, hl, hf⟩ := open_field Tryz.underlying25 h hs
  rw [cPr] at hl
  obtain ⟨c0, c1, rfl⟩ := len2 cs hl
  obtain ⟨y0, f0, s0⟩ := fld hf 0 rfl (t := 22) (o := 0) (l := [c0]) rfl rfl cLi rfl
  obtain ⟨y1, f1, s1⟩ := fld hf 1 rfl (t := 23) (o := 1) (l := [c1]) rfl rfl cLf rfl
  obtain ⟨a1, k1, l1, e1, p1, p2, p3, p4, p5⟩ := open_rows (α := Int) (cells := fun z => [.int .i64 z]) (In := I64) Tryz.underlying22 cI64O (by decide) bI64 (fun m cs y _ hy _ => by
    obtain ⟨z, e, _, hw⟩ := DataW.trod_int Tryz.underlying2 hy
    exact ⟨z, e, i64_of hw⟩) f0 s0
  obtain ⟨a2, k2, l2, e2, q1, q2, q3, q4, q5⟩ := open_rows (In := fun y : Fu => y.In w) Tryz.underlying23 cFu (by decide) bFu (fun m cs y _ => open_fu m cs y) f1 s1
  obtain rfl : c0 = .slice a1 l1.length k1 := by simpa using e1
  obtain rfl : c1 = .slice a2 l2.length k2 := by simpa using e2
  exact ⟨⟨a1, k1, l1, a2, k2, l2⟩, rfl, p1, p2, p3, p4, p5, q1, q2, q3, q4, q5⟩
end

/-- An argument that is a program. -/
theorem open_program {H : Type} {enc : TypeId × Value → H} {W : World} {base : Nat} {v : Value} {d : DataW H} {p : List MemPlace} (hv : Value.okWide Tryz.prog W .any base 25 v)
    (h : DataW.Trod enc Tryz.prog W 0 (fun _ => true) true 25 v d p) (hs : Small Tryz.prog 25 d) : ∃ y : Pr, v = y.val ∧ y.In W := by
  obtain ⟨cs, rfl, hsz⟩ := okWide_struct (P := Tryz.prog) (t := 25) (v := v) (r := .any) (base := base) (w := W) Tryz.underlying25 hv
  obtain ⟨fuel, hf⟩ := h
  obtain ⟨y, e, hy⟩ := open_pr fuel _ (d, p) hf hs
  refine ⟨y, ?_, hy⟩
  rw [Pr.val]
  congr 1
  have e' : cs.toList = [.slice y.wa y.widen.length y.wc, .slice y.fa y.funcs.length y.fc] := by simpa [Value.cells] using e
  rw [← Array.toList_inj, e']
end Go.Proofs.YtbpemackmadhgaaGreatDoor

/- The document's own Name: a text is a name just where scan's is; nothing that lay has turned. -/
namespace Go.Proofs.YtbpemackmadhgaaGreatDoor
open Go.RowKit

set_option maxHeartbeats 400000 in
theorem rLetter_any (n : Int) (w : World) (h0 : 0 ≤ n) (h1 : n ≤ 255) :
    Calls Tryz.prog 79 #[.int .u8 n] w fun e w' => e = .returned (.bool (letB n)) ∧ w' = w := by
  by_cases h : 97 ≤ n
  · go_enter Tryz.func79, Tryz.ntmps79
    go_wp2
    go_ret
    exact ⟨ret_bool (by simp [letB, h]), rfl⟩
  · go_enter Tryz.func79, Tryz.ntmps79
    go_wp2
    go_ret
    exact ⟨ret_bool (by simp [letB]; omega), rfl⟩

set_option maxHeartbeats 400000 in
theorem rDigit_any (n : Int) (w : World) (h0 : 0 ≤ n) (h1 : n ≤ 255) :
    Calls Tryz.prog 80 #[.int .u8 n] w fun e w' => e = .returned (.bool (digB n)) ∧ w' = w := by
  by_cases h : 48 ≤ n
  · go_enter Tryz.func80, Tryz.ntmps80
    go_wp2
    go_ret
    exact ⟨ret_bool (by simp [digB, h]), rfl⟩
  · go_enter Tryz.func80, Tryz.ntmps80
    go_wp2
    go_ret
    exact ⟨ret_bool (by simp [digB]; omega), rfl⟩

def anyIs (s : ByteArray) (xs : List ByteArray) : Bool := xs.any (fun x => x.toList == s.toList)
theorem anyIs_drop_hit (s : ByteArray) (xs : List ByteArray) (k : Nat) (h : k < xs.length) (hx : (xs[k].toList == s.toList) = true) : anyIs s (xs.drop k) = true := by
  rw [List.drop_eq_getElem_cons h]; simp only [anyIs, List.any_cons, hx, Bool.true_or]
theorem anyIs_drop_miss (s : ByteArray) (xs : List ByteArray) (k : Nat) (h : k < xs.length) (hx : (xs[k].toList == s.toList) = false) : anyIs s (xs.drop k) = anyIs s (xs.drop (k + 1)) := by
  rw [List.drop_eq_getElem_cons h]; simp only [anyIs, List.any_cons, hx, Bool.false_or]

set_option maxHeartbeats 1000000 in
theorem in_any (s : ByteArray) (xs : List ByteArray) (b cap : Nat) (w : World) (hl : xs.length ≤ 1000) (hc : ∀ j (h : j < xs.length), w.cell? ⟨b, j, none⟩ = some (.string xs[j])) :
    Calls Tryz.prog 81 #[.string s, .slice (some ⟨b, 0, none⟩) xs.length cap] w fun e w' => e = .returned (.bool (anyIs s xs)) ∧ w' = w := by
  go_enter Tryz.func81, Tryz.ntmps81
  go_wp2
  go_loop [5] (fun i => ∃ k : Nat, k ≤ xs.length ∧ i = .int .i64 k ∧ Hid (anyIs s (xs.drop k) = anyIs s xs)) (fun i => xs.length - (intOf i).toNat)
  case atStart => exact ⟨0, Nat.zero_le _, rfl, rfl⟩
  case round =>
    obtain ⟨k, hk, rfl, HI⟩ := hrel
    by_cases hlt : k < xs.length
    · have hcell := hc k hlt
      cases hx : (xs[k].toList == s.toList) with
      | true =>
        have HE := HI.out.symm.trans (anyIs_drop_hit s xs k hlt hx)
        have HE' : Hid (anyIs s xs = true) := HE
        clear HE hc HI
        go_wp2
        go_ret
        exact ⟨ret_bool (by rw [HE'.out]), rfl⟩
      | false =>
        have HE : Hid (anyIs s (xs.drop (k + 1)) = anyIs s xs) := (anyIs_drop_miss s xs k hlt hx).symm.trans HI.out
        clear hc HI
        go_wp2
        go_round
        case rel => exact ⟨k + 1, by omega, by go_num, HE⟩
        case measure => simp [intOf]; omega
    · have HE : Hid (anyIs s xs = false) := by
        have := HI.out; rw [List.drop_eq_nil_of_le (by omega)] at this; exact this.symm
      clear hc HI
      go_wp2
      go_ret
      exact ⟨ret_bool (by rw [HE.out]), rfl⟩

def wordsB : List ByteArray := [⟨#[119, 105, 100, 101, 110]⟩, ⟨#[102, 110]⟩, ⟨#[108, 101, 116]⟩, ⟨#[102, 111, 114]⟩, ⟨#[105, 110]⟩, ⟨#[105, 102]⟩, ⟨#[101, 108, 115, 101]⟩, ⟨#[115, 119, 105, 116, 99, 104]⟩, ⟨#[99, 97, 115, 101]⟩, ⟨#[98, 114, 101, 97, 107]⟩, ⟨#[114, 101, 116, 117, 114, 110]⟩]
def rStrCells (xs : List ByteArray) : Array Value := (xs.map Value.string).toArray

theorem new_cells (w : World) (xs : List ByteArray) : ∀ j (h : j < xs.length), (w.alloc (.cells (rStrCells xs) 9)).cell? ⟨w.heap.size, j, none⟩ = some (.string xs[j]) := by
  intro j h
  rw [World.cell?_alloc_at _ _ _ _ rfl]
  simp [rStrCells, h]

set_option maxHeartbeats 400000 in
theorem words_any (w : World) : Calls Tryz.prog 82 #[] w fun e w' => e = .returned (.slice (some ⟨w.heap.size, 0, none⟩) 11 11) ∧ w' = w.alloc (.cells (rStrCells wordsB) 9) := by
  go_enter Tryz.func82, Tryz.ntmps82
  go_wp2
  go_ret
  exact ⟨rfl, rfl⟩

def wordList : List (List UInt8) := [[119, 105, 100, 101, 110], [102, 110], [108, 101, 116], [102, 111, 114], [105, 110], [105, 102], [101, 108, 115, 101], [115, 119, 105, 116, 99, 104], [99, 97, 115, 101], [98, 114, 101, 97, 107], [114, 101, 116, 117, 114, 110]]
theorem wordB_eq (l : List UInt8) : wordB l = wordList.any (fun x => x == l) := by
  simp [wordB, wordList, Bool.or_assoc, Bool.beq_comm (a := l)]
theorem anyIs_words (s : ByteArray) : anyIs s wordsB = wordB s.data.toList := by
  rw [wordB_eq]
  simp only [anyIs, wordsB, wordList, List.any_cons, List.any_nil, ba_list]

set_option maxHeartbeats 400000 in
theorem rWord_any (s : ByteArray) (w : World) :
    Calls Tryz.prog 52 #[.string s] w fun e w' => e = .returned (.bool (wordB s.data.toList)) ∧ Below w.heap.size w w' := by
  have h26 : Calls Tryz.prog 81 #[.string s, .slice (some ⟨w.heap.size, 0, none⟩) 11 11] (w.alloc (.cells (rStrCells wordsB) 9)) fun e w' => e = .returned (.bool (wordB s.data.toList)) ∧ w' = w.alloc (.cells (rStrCells wordsB) 9) := by
    rw [← anyIs_words]; exact in_any s wordsB w.heap.size 11 _ (by decide) (new_cells w wordsB)
  go_enter Tryz.func52, Tryz.ntmps52
  go_wp2_with (first | (go_at_call 82; refine (words_any _).mono ?_; rintro e w' ⟨rfl, rfl⟩) | (go_at_call 81; refine h26.mono ?_; rintro e w' ⟨rfl, rfl⟩))
  go_ret
  exact ⟨rfl, (Below.refl _ w).alloc (Nat.le_refl _) _⟩

def plainB (l : List UInt8) : Bool := match l with | [] => false | c :: _ => isLet c && decide (rowLen isLod l = l.length)
theorem plainB_cons {l : List UInt8} (h : 0 < l.length) : plainB l = (isLet l[0] && decide (rowLen isLod l = l.length)) := by
  cases l with
  | nil => simp at h
  | cons c r => rfl
theorem nameB_eq (l : List UInt8) : nameB l = (decide (l.length ≤ 16) && plainB l && !wordB l) := by
  cases l with
  | nil => rfl
  | cons c r =>
    simp only [nameB, plainB]
    cases decide ((c :: r).length ≤ 16) <;> cases wordB (c :: r) <;> cases isLet c <;> cases decide (rowLen isLod (c :: r) = (c :: r).length) <;> rfl

theorem beq_nat {a b : Nat} (h : a ≠ b) : ((a : Int) == (b : Int)) = false := by rw [beq_eq_false_iff_ne]; omega

set_option maxHeartbeats 1000000 in
theorem plain_any (s : ByteArray) (w : World) (hs : s.size ≤ maxLen) :
    Calls Tryz.prog 51 #[.string s] w fun e w' => e = .returned (.bool (plainB s.data.toList)) ∧ w' = w := by
  unfold maxLen at hs
  have hlen := ba_len s
  have HLen : Hid (s.data.toList.length = s.size) := hlen
  clear hlen
  go_enter Tryz.func51, Tryz.ntmps51
  go_wp2
  go_loop [3] (fun i => ∃ k : Nat, k ≤ s.size ∧ i = .int .i64 k ∧ k ≤ rowLen isLod s.data.toList ∧ Hid (0 < k → ∃ h : 0 < s.data.toList.length, isLet s.data.toList[0] = true)) (fun i => s.size - (intOf i).toNat)
  case atStart => exact ⟨0, Nat.zero_le _, rfl, Nat.zero_le _, fun h => by omega⟩
  case round =>
    obtain ⟨k, hk, rfl, hr, HL⟩ := hrel
    by_cases hlt : k < s.size
    · have c0 : (0 : Int) ≤ s[k].toNat := by omega
      have h35 : ∀ b, letB s[k].toNat = b → ∀ w, Calls Tryz.prog 79 #[.int .u8 s[k].toNat] w fun e w' => e = .returned (.bool b) ∧ w' = w := fun b hb w => by rw [← hb]; exact rLetter_any _ w c0 (u8_le _)
      have h36 : ∀ b, digB s[k].toNat = b → ∀ w, Calls Tryz.prog 80 #[.int .u8 s[k].toNat] w fun e w' => e = .returned (.bool b) ∧ w' = w := fun b hb w => by rw [← hb]; exact rDigit_any _ w c0 (u8_le _)
      have hl0 : 0 < s.data.toList.length := by rw [HLen.out]; omega
      cases hb1 : letB s[k].toNat with
      | true =>
        have g35 := h35 true hb1
        have hit := rowLen_hit isLod s.data.toList k hr hlt (by show (letB _ || digB _) = true; rw [show letB (s.data.toList[k].toNat) = true from hb1]; rfl)
        have HL' : Hid (0 < k + 1 → ∃ h : 0 < s.data.toList.length, isLet s.data.toList[0] = true) := fun _ => by
          rcases Nat.eq_zero_or_pos k with h | h
          · subst h; exact ⟨hl0, hb1⟩
          · exact HL.out h
        clear h35 h36 hb1 hl0
        go_wp2_with (go_at_call 79; refine (g35 _).mono ?_; rintro e w' ⟨rfl, rfl⟩)
        go_round
        case rel => exact ⟨k + 1, by omega, by go_num, hit, HL'⟩
        case measure => simp [intOf]; omega
      | false =>
        have g35 := h35 false hb1
        by_cases hk0 : k = 0
        · have HE : Hid (plainB s.data.toList = false) := by
            show plainB s.data.toList = false
            rw [plainB_cons hl0]
            subst hk0
            rw [show isLet s.data.toList[0] = false from hb1]; rfl
          have hz : ((k : Int) == 0) = true := by rw [hk0]; rfl
          clear h35 h36 hb1 hl0 hk0
          go_wp2_with (go_at_call 79; refine (g35 _).mono ?_; rintro e w' ⟨rfl, rfl⟩)
          go_ret
          exact ⟨ret_bool (by rw [HE.out]), rfl⟩
        · have hz : ((k : Int) == 0) = false := beq_nat hk0
          cases hb2 : digB s[k].toNat with
          | true =>
            have g36 := h36 true hb2
            have hit := rowLen_hit isLod s.data.toList k hr hlt (by show (letB _ || digB _) = true; rw [show digB (s.data.toList[k].toNat) = true from hb2]; simp)
            have HL' : Hid (0 < k + 1 → ∃ h : 0 < s.data.toList.length, isLet s.data.toList[0] = true) := fun _ => HL.out (by omega)
            clear h35 h36 hb1 hb2 hl0 hk0
            go_wp2_with (first | (go_at_call 79; refine (g35 _).mono ?_; rintro e w' ⟨rfl, rfl⟩) | (go_at_call 80; refine (g36 _).mono ?_; rintro e w' ⟨rfl, rfl⟩))
            go_round
            case rel => exact ⟨k + 1, by omega, by go_num, hit, HL'⟩
            case measure => simp [intOf]; omega
          | false =>
            have g36 := h36 false hb2
            have hend := rowLen_miss isLod s.data.toList k hr hlt (by show (letB _ || digB _) = false; rw [show letB (s.data.toList[k].toNat) = false from hb1, show digB (s.data.toList[k].toNat) = false from hb2]; rfl)
            have HE : Hid (plainB s.data.toList = false) := by
              show plainB s.data.toList = false
              rw [plainB_cons hl0, hend, HLen.out]
              rw [show decide (k = s.size) = false from by simp only [decide_eq_false_iff_not]; omega]; simp
            clear h35 h36 hb1 hb2 hl0 hk0 hend
            go_wp2_with (first | (go_at_call 79; refine (g35 _).mono ?_; rintro e w' ⟨rfl, rfl⟩) | (go_at_call 80; refine (g36 _).mono ?_; rintro e w' ⟨rfl, rfl⟩))
            go_ret
            exact ⟨ret_bool (by rw [HE.out]), rfl⟩
    · have hks : k = s.size := by omega
      have HE : Hid (decide (0 < (s.size : Int)) = plainB s.data.toList) := by
        show decide (0 < (s.size : Int)) = plainB s.data.toList
        have hle := rowLen_le isLod s.data.toList
        rw [HLen.out] at hle
        by_cases h0 : 0 < s.size
        · obtain ⟨hl0, h1⟩ := HL.out (by omega)
          rw [plainB_cons hl0, h1, HLen.out, show decide (rowLen isLod s.data.toList = s.size) = true from by simp only [decide_eq_true_eq]; omega]
          simp only [Bool.and_self, decide_eq_true_eq]; omega
        · have he : s.data.toList = [] := by apply List.eq_nil_of_length_eq_zero; rw [HLen.out]; omega
          rw [he, show decide (0 < (s.size : Int)) = false from by simp only [decide_eq_false_iff_not]; omega]; rfl
      clear hks
      go_wp2
      go_ret
      exact ⟨ret_bool (by rw [← HE.out]; simp), rfl⟩

set_option maxHeartbeats 1000000 in
theorem rName_long (s : ByteArray) (w : World) (h : ¬ (s.size : Int) ≤ 16) :
    Calls Tryz.prog 33 #[.string s] w fun e w' => e = .returned (.bool false) ∧ Below w.heap.size w w' := by
  go_enter Tryz.func33, Tryz.ntmps33
  go_wp2
  go_ret
  exact ⟨rfl, Below.refl _ _⟩

set_option maxHeartbeats 1000000 in
theorem rName_unplain (s : ByteArray) (w : World) (h : (s.size : Int) ≤ 16) (hp : plainB s.data.toList = false) :
    Calls Tryz.prog 33 #[.string s] w fun e w' => e = .returned (.bool false) ∧ Below w.heap.size w w' := by
  have h31 : ∀ w, Calls Tryz.prog 51 #[.string s] w fun e w' => e = .returned (.bool false) ∧ w' = w := fun w => by rw [← hp]; exact plain_any s w (by unfold maxLen; omega)
  clear hp
  go_enter Tryz.func33, Tryz.ntmps33
  go_wp2_with (go_at_call 51; refine (h31 _).mono ?_; rintro e w' ⟨rfl, rfl⟩)
  go_ret
  exact ⟨rfl, Below.refl _ _⟩

set_option maxHeartbeats 1000000 in
theorem rName_plain (s : ByteArray) (b : Bool) (w : World) (h : (s.size : Int) ≤ 16) (hp : plainB s.data.toList = true) (hb : wordB s.data.toList = b) :
    Calls Tryz.prog 33 #[.string s] w fun e w' => e = .returned (.bool (!b)) ∧ Below w.heap.size w w' := by
  have h31 : ∀ w, Calls Tryz.prog 51 #[.string s] w fun e w' => e = .returned (.bool true) ∧ w' = w := fun w => by rw [← hp]; exact plain_any s w (by unfold maxLen; omega)
  have h17 : ∀ w, Calls Tryz.prog 52 #[.string s] w fun e w' => e = .returned (.bool b) ∧ Below w.heap.size w w' := fun w => by rw [← hb]; exact rWord_any s w
  clear hp hb
  cases b
  all_goals
    go_enter Tryz.func33, Tryz.ntmps33
    go_wp2_with (first | (go_at_call 51; refine (h31 _).mono ?_; rintro e w' ⟨rfl, rfl⟩) | (go_at_call 52; refine (h17 _).mono ?_; rintro e w1 ⟨rfl, hb1⟩))
    go_ret
    exact ⟨rfl, hb1⟩

theorem rName_any (s : ByteArray) (w : World) :
    Calls Tryz.prog 33 #[.string s] w fun e w' => e = .returned (.bool (nameB s.data.toList)) ∧ Below w.heap.size w w' := by
  have hlen := ba_len s
  rw [nameB_eq]
  by_cases h : s.size ≤ 16
  · rw [show decide (s.data.toList.length ≤ 16) = true from by simp only [decide_eq_true_eq]; omega]
    cases hp : plainB s.data.toList with
    | true => exact rName_plain s _ w (by omega) hp rfl
    | false => exact rName_unplain s w (by omega) hp
  · rw [show decide (s.data.toList.length ≤ 16) = false from by simp only [decide_eq_false_iff_not]; omega]
    exact rName_long s w (by omega)

end Go.Proofs.YtbpemackmadhgaaGreatDoor

/- The document's own way to say a form: arguments, names, fields; that it is the program's. -/
namespace Go.Proofs.YtbpemackmadhgaaGreatDoor
open Go.RowKit Go.Sort

def argsZ (k : Int) : Int := if k = 1 ∨ k = 2 then 0 else if k = 3 ∨ k = 5 ∨ k = 6 then 1 else if k = 4 then -1 else if 7 ≤ k ∧ k ≤ 19 then 2 else if k = 20 then 3 else -2
def namedZ (k : Int) : Bool := k == 2 || k == 3 || k == 4
theorem form_args : ∀ k : Fin 21, 0 < k.val → (formE k.val).args = argsZ k.val := by decide
theorem form_named : ∀ k : Fin 21, 0 < k.val → (bits .and .i64 (formE k.val).fields 1 != 0) = namedZ k.val := by decide
theorem form_uses : ∀ (k : Fin 21) (e n : Bool), 0 < k.val → (bits .andNot .i64 (orZ (bitZ 1 e) (bitZ 2 n)) (formE k.val).fields != 0) = (n && (k.val : Int) != 1 || e && !namedZ k.val) := by decide
theorem args_val : ∀ k : Fin 21, 0 < k.val → argsZ k.val = -1 ∨ (0 ≤ argsZ k.val ∧ argsZ k.val ≤ 3) := by decide
/-- A form that may not be, as the document's own text says it. -/
def formBad (x : Ex) : Bool := argsZ x.kind == -2 || decide (0 ≤ argsZ x.kind) && (x.args.length : Int) != argsZ x.kind || x.n != 0 && x.kind != 1 || !x.name.toList.isEmpty && !namedZ x.kind
theorem isE_fin {k : Int} (h : isE k = true) : ∃ q : Fin 21, 0 < q.val ∧ k = q.val := by
  simp [isE] at h
  exact ⟨⟨k.toNat, by omega⟩, by show 0 < k.toNat; omega, by show k = (k.toNat : Int); omega⟩
theorem argsZ_not {k : Int} (h : isE k = false) : argsZ k = -2 := by
  simp [isE] at h
  unfold argsZ
  rw [if_neg (by omega), if_neg (by omega), if_neg (by omega), if_neg (by omega), if_neg (by omega)]
theorem selfE_ref (x : Ex) : selfE x = if formBad x = true then 5 else if (namedZ x.kind && !nameZ x.name) = true then 8 else if x.n < 0 then 1 else 0 := by
  cases h : isE x.kind
  · simp only [selfE, h, if_true, formBad, argsZ_not h]; rfl
  · obtain ⟨q, h0, hq⟩ := isE_fin h
    have h' : isE (q.val : Int) = true := hq ▸ h
    have e1 := form_args q h0
    have e2 := form_named q h0
    have e3 := form_uses q (!x.name.toList.isEmpty) (x.n != 0) h0
    have e4 := args_val q h0
    unfold selfE formBad
    simp only [h', Bool.true_eq_false, if_false, hq, Int.toNat_natCast, e1, e2]
    rw [show usesE x = orZ (bitZ 1 (!x.name.toList.isEmpty)) (bitZ 2 (x.n != 0)) from rfl, e3]
    generalize argsZ q.val = A at e4 ⊢
    generalize (x.args.length : Int) = L
    generalize namedZ q.val = N
    generalize (x.n != 0) = n0
    generalize ((q.val : Int) != 1) = k1
    generalize x.name.toList.isEmpty = em
    have e5 : (A == -2) = false := by rw [beq_eq_false_iff_ne]; omega
    have e6 : (A != -1) = decide (0 ≤ A) := by
      rcases e4 with rfl | e
      · rfl
      · rw [decide_eq_true e.1, bne_iff_ne]; omega
    rw [e5, e6]
    generalize (decide (0 ≤ A) && L != A) = g
    cases g <;> cases n0 <;> cases k1 <;> cases em <;> cases N <;> rfl

/-- Which fields of a statement count: Name, N, A, B, Body, Else, Cases. -/
def cB (k : Int) (i : Nat) : Bool := isS k && (bits .and .i64 (fldS k.toNat) (2 ^ i : Nat) != 0)
theorem stmt_uses : ∀ (k : Fin 11) (b0 b1 b2 b3 b4 b5 b6 : Bool), 0 < k.val → (bits .andNot .i64 (orZ (orZ (orZ (orZ (orZ (orZ (bitZ 1 b0) (bitZ 2 b1)) (bitZ 4 b2)) (bitZ 8 b3)) (bitZ 16 b4)) (bitZ 32 b5)) (bitZ 64 b6)) (fldS k.val) != 0) =
    !((cB k.val 0 || !b0) && (cB k.val 1 || !b1) && (cB k.val 2 || !b2) && (cB k.val 3 || !b3) && (cB k.val 4 || !b4) && (cB k.val 5 || !b5) && (cB k.val 6 || !b6)) := by decide +kernel
theorem isS_fin {k : Int} (h : isS k = true) : ∃ q : Fin 11, 0 < q.val ∧ k = q.val := by
  simp [isS] at h
  exact ⟨⟨k.toNat, by omega⟩, by show 0 < k.toNat; omega, by show k = (k.toNat : Int); omega⟩
/-- A statement's form is right, by its own fields. -/
def okS (s : St) : Bool := isS s.kind && (cB s.kind 0 || s.name.toList.isEmpty) && (cB s.kind 1 || s.n == 0) && (cB s.kind 2 || zeroE s.a) && (cB s.kind 3 || zeroE s.b) && (cB s.kind 4 || s.body.isEmpty) && (cB s.kind 5 || s.els.isEmpty) && (cB s.kind 6 || s.cases.isEmpty)
theorem len_empty {α : Type} (l : List α) : decide (0 < l.length) = !l.isEmpty := by cases l <;> simp
theorem selfS_ref (s : St) : selfS s = if okS s = false then 5 else if (cB s.kind 0 && !nameZ s.name) = true then 8 else if (decide (s.n < 0) || leastC s.cases) = true then 1 else if (s.kind == 10 && s.a.kind != 4) = true then 5 else 0 := by
  cases h : isS s.kind
  · simp only [selfS, okS, h, if_true, Bool.false_and]
  · obtain ⟨q, h0, hq⟩ := isS_fin h
    have e3 := stmt_uses q (!s.name.toList.isEmpty) (s.n != 0) (!zeroE s.a) (!zeroE s.b) (decide (0 < s.body.length)) (decide (0 < s.els.length)) (decide (0 < s.cases.length)) h0
    have h' : isS (q.val : Int) = true := hq ▸ h
    have e0 : (bits .and .i64 (fldS q.val) 1 != 0) = cB q.val 0 := by
      unfold cB; rw [← hq, h, hq, Int.toNat_natCast]; rfl
    unfold selfS okS
    simp only [h', Bool.true_eq_false, if_false, hq, Int.toNat_natCast, e0]
    rw [show usesS s = orZ (orZ (orZ (orZ (orZ (orZ (bitZ 1 (!s.name.toList.isEmpty)) (bitZ 2 (s.n != 0))) (bitZ 4 (!zeroE s.a))) (bitZ 8 (!zeroE s.b))) (bitZ 16 (decide (0 < s.body.length)))) (bitZ 32 (decide (0 < s.els.length)))) (bitZ 64 (decide (0 < s.cases.length))) from rfl, e3]
    rw [len_empty, len_empty, len_empty]
    simp only [Bool.not_not, bne, Bool.true_and]
    cases ((cB q.val 0 || s.name.toList.isEmpty) && (cB q.val 1 || s.n == 0) && (cB q.val 2 || zeroE s.a) && (cB q.val 3 || zeroE s.b) && (cB q.val 4 || s.body.isEmpty) && (cB q.val 5 || s.els.isEmpty) && (cB q.val 6 || s.cases.isEmpty)) <;> rfl
end Go.Proofs.YtbpemackmadhgaaGreatDoor

/- Is an expression one of zeros? The document's own answer. -/
namespace Go.Proofs.YtbpemackmadhgaaGreatDoor
open Go.RowKit

set_option maxRecDepth 100000 in
set_option maxHeartbeats 2000000 in
theorem rzero_any (x : Ex) (w : World) : Calls Tryz.prog 77 #[x.val] w fun e w' => e = .returned (.bool (zeroE x)) ∧ Below w.heap.size w w' := by
  obtain ⟨kd, n, s, a, c, l⟩ := x
  unfold Ex.val zeroE
  simp only [Ex.kind, Ex.n, Ex.name, Ex.a, Ex.cap, Ex.args]
  have hb := (Below.refl _ w).alloc (Nat.le_refl _) (.cells #[.int .i64 kd, .int .i64 n, .string s, .slice a l.length c] 36)
  cases h1 : (kd == 0)
  · go_enter Tryz.func77, Tryz.ntmps77
    go_wp2_with fail
    go_ret
    exact ⟨rfl, hb⟩
  · cases h2 : (n == 0)
    · go_enter Tryz.func77, Tryz.ntmps77
      go_wp2_with fail
      go_ret
      exact ⟨ret_bool (by simp), hb⟩
    · have e : s.toList.isEmpty = (s.toList == []) := by cases s.toList <;> rfl
      cases h3 : (s.toList == [])
      · go_enter Tryz.func77, Tryz.ntmps77
        go_wp2_with fail
        go_ret
        exact ⟨ret_bool (by rw [e, h3]; rfl), hb⟩
      · go_enter Tryz.func77, Tryz.ntmps77
        go_wp2_with fail
        go_ret
        refine ⟨ret_bool ?_, hb⟩
        rw [e, h3]
        cases l
        · rfl
        · simp; omega
end Go.Proofs.YtbpemackmadhgaaGreatDoor

/- The document's own small questions on forms: args, named, counts, lowest. -/
namespace Go.Proofs.YtbpemackmadhgaaGreatDoor
open Go.RowKit Go.Sort

theorem kindE_of {k : Int} (h : isE k = true) : (7 ≤ k ∧ k ≤ 19) ∨ k = 1 ∨ k = 2 ∨ k = 3 ∨ k = 4 ∨ k = 5 ∨ k = 6 ∨ k = 20 := by
  simp [isE] at h; omega
theorem kindS_of {k : Int} (h : isS k = true) : k = 1 ∨ k = 2 ∨ k = 3 ∨ k = 4 ∨ k = 5 ∨ k = 6 ∨ k = 7 ∨ k = 8 ∨ k = 9 ∨ k = 10 := by
  simp [isS] at h; omega
theorem beq_no {a b : Int} (h : a ≠ b) : (a == b) = false := by rw [beq_eq_false_iff_ne]; exact h

set_option maxHeartbeats 1000000 in
theorem args_mid (k : Int) (w : World) (h0 : 7 ≤ k) (h1 : k ≤ 19) : Calls Tryz.prog 83 #[.int .i64 k] w fun e w' => e = .returned (.int .i64 2) ∧ w' = w := by
  have e1 := beq_no (show k ≠ 1 by omega)
  have e2 := beq_no (show k ≠ 2 by omega)
  have e3 := beq_no (show k ≠ 3 by omega)
  have e4 := beq_no (show k ≠ 4 by omega)
  have e5 := beq_no (show k ≠ 5 by omega)
  have e6 := beq_no (show k ≠ 6 by omega)
  go_enter Tryz.func83, Tryz.ntmps83
  go_wp2_with fail
  go_ret
  exact ⟨rfl, rfl⟩
set_option maxHeartbeats 1000000 in
theorem args_low (k : Int) (w : World) (h : k < 1) : Calls Tryz.prog 83 #[.int .i64 k] w fun e w' => e = .returned (.int .i64 (-2)) ∧ w' = w := by
  have e1 := beq_no (show k ≠ 1 by omega)
  have e2 := beq_no (show k ≠ 2 by omega)
  have e3 := beq_no (show k ≠ 3 by omega)
  have e4 := beq_no (show k ≠ 4 by omega)
  have e5 := beq_no (show k ≠ 5 by omega)
  have e6 := beq_no (show k ≠ 6 by omega)
  have e7 := beq_no (show k ≠ 20 by omega)
  go_enter Tryz.func83, Tryz.ntmps83
  go_wp2_with fail
  go_ret
  exact ⟨rfl, rfl⟩
set_option maxHeartbeats 1000000 in
theorem args_high (k : Int) (w : World) (h : 20 < k) : Calls Tryz.prog 83 #[.int .i64 k] w fun e w' => e = .returned (.int .i64 (-2)) ∧ w' = w := by
  have e1 := beq_no (show k ≠ 1 by omega)
  have e2 := beq_no (show k ≠ 2 by omega)
  have e3 := beq_no (show k ≠ 3 by omega)
  have e4 := beq_no (show k ≠ 4 by omega)
  have e5 := beq_no (show k ≠ 5 by omega)
  have e6 := beq_no (show k ≠ 6 by omega)
  have e7 := beq_no (show k ≠ 20 by omega)
  go_enter Tryz.func83, Tryz.ntmps83
  go_wp2_with fail
  go_ret
  exact ⟨rfl, rfl⟩
set_option maxHeartbeats 4000000 in
theorem args_any (k : Int) (w : World) : Calls Tryz.prog 83 #[.int .i64 k] w fun e w' => e = .returned (.int .i64 (argsZ k)) ∧ w' = w := by
  cases hk : isE k
  · rw [argsZ_not hk]
    simp [isE] at hk
    by_cases h : k < 1
    · exact args_low k w h
    · exact args_high k w (by omega)
  · rcases kindE_of hk with h | rfl | rfl | rfl | rfl | rfl | rfl | rfl
    · have e : argsZ k = 2 := by
        unfold argsZ; rw [if_neg (by omega), if_neg (by omega), if_neg (by omega), if_pos h]
      rw [e]; exact args_mid k w h.1 h.2
    all_goals
      clear hk
      go_enter Tryz.func83, Tryz.ntmps83
      go_wp2_with fail
      go_ret
      exact ⟨rfl, rfl⟩

set_option maxHeartbeats 1000000 in
theorem named_any (k : Int) (w : World) : Calls Tryz.prog 84 #[.int .i64 k] w fun e w' => e = .returned (.bool (namedZ k)) ∧ w' = w := by
  cases e2 : (k == 2)
  · cases e3 : (k == 3)
    · go_enter Tryz.func84, Tryz.ntmps84
      go_wp2_with fail
      go_ret
      exact ⟨ret_bool (by unfold namedZ; rw [e2, e3]; rfl), rfl⟩
    · go_enter Tryz.func84, Tryz.ntmps84
      go_wp2_with fail
      go_ret
      exact ⟨ret_bool (by unfold namedZ; rw [e2, e3]; rfl), rfl⟩
  · go_enter Tryz.func84, Tryz.ntmps84
    go_wp2_with fail
    go_ret
    exact ⟨ret_bool (by unfold namedZ; rw [e2]; rfl), rfl⟩

def cV (k : Int) : Value := .agg #[.bool (cB k 0), .bool (cB k 1), .bool (cB k 2), .bool (cB k 3), .bool (cB k 4), .bool (cB k 5), .bool (cB k 6)]
theorem cV_not {k : Int} (h : isS k = false) : cV k = .agg #[.bool false, .bool false, .bool false, .bool false, .bool false, .bool false, .bool false] := by
  simp [cV, cB, h]
set_option maxHeartbeats 4000000 in
theorem counts_any (k : Int) (w : World) : Calls Tryz.prog 53 #[.int .i64 k] w fun e w' => e = .returned (cV k) ∧ Below w.heap.size w w' := by
  have hb : ∀ o, Below w.heap.size w (w.alloc o) := fun o => (Below.refl _ w).alloc (Nat.le_refl _) o
  have HB : Hid (∀ o, Below w.heap.size w (w.alloc o)) := hb
  clear hb
  cases hk : isS k
  · rw [cV_not hk]
    simp [isS] at hk
    have e1 := beq_no (show k ≠ 1 by omega)
    have e2 := beq_no (show k ≠ 2 by omega)
    have e3 := beq_no (show k ≠ 3 by omega)
    have e4 := beq_no (show k ≠ 4 by omega)
    have e5 := beq_no (show k ≠ 5 by omega)
    have e6 := beq_no (show k ≠ 6 by omega)
    have e7 := beq_no (show k ≠ 7 by omega)
    have e9 := beq_no (show k ≠ 9 by omega)
    have e10 := beq_no (show k ≠ 10 by omega)
    clear hk
    go_enter Tryz.func53, Tryz.ntmps53
    go_wp2_with fail
    refine bodyPost_ret (v := .agg #[.bool false, .bool false, .bool false, .bool false, .bool false, .bool false, .bool false]) (by simp [results, Tryz.results53, go_sem]) rfl ⟨rfl, HB.out _⟩
  · rcases kindS_of hk with rfl | rfl | rfl | rfl | rfl | rfl | rfl | rfl | rfl | rfl
    · clear hk
      rw [show cV 1 = .agg #[.bool true, .bool false, .bool true, .bool false, .bool false, .bool false, .bool false] from rfl]
      go_enter Tryz.func53, Tryz.ntmps53
      go_wp2_with fail
      refine bodyPost_ret (v := .agg #[.bool true, .bool false, .bool true, .bool false, .bool false, .bool false, .bool false]) (by simp [results, Tryz.results53, go_sem]) rfl ⟨rfl, HB.out _⟩
    · clear hk
      rw [show cV 2 = .agg #[.bool true, .bool true, .bool false, .bool false, .bool false, .bool false, .bool false] from rfl]
      go_enter Tryz.func53, Tryz.ntmps53
      go_wp2_with fail
      refine bodyPost_ret (v := .agg #[.bool true, .bool true, .bool false, .bool false, .bool false, .bool false, .bool false]) (by simp [results, Tryz.results53, go_sem]) rfl ⟨rfl, HB.out _⟩
    · clear hk
      rw [show cV 3 = .agg #[.bool true, .bool false, .bool true, .bool false, .bool false, .bool false, .bool false] from rfl]
      go_enter Tryz.func53, Tryz.ntmps53
      go_wp2_with fail
      refine bodyPost_ret (v := .agg #[.bool true, .bool false, .bool true, .bool false, .bool false, .bool false, .bool false]) (by simp [results, Tryz.results53, go_sem]) rfl ⟨rfl, HB.out _⟩
    · clear hk
      rw [show cV 4 = .agg #[.bool true, .bool false, .bool true, .bool true, .bool false, .bool false, .bool false] from rfl]
      go_enter Tryz.func53, Tryz.ntmps53
      go_wp2_with fail
      refine bodyPost_ret (v := .agg #[.bool true, .bool false, .bool true, .bool true, .bool false, .bool false, .bool false]) (by simp [results, Tryz.results53, go_sem]) rfl ⟨rfl, HB.out _⟩
    · clear hk
      rw [show cV 5 = .agg #[.bool false, .bool false, .bool true, .bool false, .bool true, .bool true, .bool false] from rfl]
      go_enter Tryz.func53, Tryz.ntmps53
      go_wp2_with fail
      refine bodyPost_ret (v := .agg #[.bool false, .bool false, .bool true, .bool false, .bool true, .bool true, .bool false]) (by simp [results, Tryz.results53, go_sem]) rfl ⟨rfl, HB.out _⟩
    · clear hk
      rw [show cV 6 = .agg #[.bool false, .bool false, .bool true, .bool false, .bool false, .bool true, .bool true] from rfl]
      go_enter Tryz.func53, Tryz.ntmps53
      go_wp2_with fail
      refine bodyPost_ret (v := .agg #[.bool false, .bool false, .bool true, .bool false, .bool false, .bool true, .bool true]) (by simp [results, Tryz.results53, go_sem]) rfl ⟨rfl, HB.out _⟩
    · clear hk
      rw [show cV 7 = .agg #[.bool true, .bool false, .bool true, .bool true, .bool true, .bool false, .bool false] from rfl]
      go_enter Tryz.func53, Tryz.ntmps53
      go_wp2_with fail
      refine bodyPost_ret (v := .agg #[.bool true, .bool false, .bool true, .bool true, .bool true, .bool false, .bool false]) (by simp [results, Tryz.results53, go_sem]) rfl ⟨rfl, HB.out _⟩
    · clear hk
      rw [show cV 8 = .agg #[.bool false, .bool false, .bool false, .bool false, .bool false, .bool false, .bool false] from rfl]
      go_enter Tryz.func53, Tryz.ntmps53
      go_wp2_with fail
      refine bodyPost_ret (v := .agg #[.bool false, .bool false, .bool false, .bool false, .bool false, .bool false, .bool false]) (by simp [results, Tryz.results53, go_sem]) rfl ⟨rfl, HB.out _⟩
    · clear hk
      rw [show cV 9 = .agg #[.bool false, .bool false, .bool true, .bool false, .bool false, .bool false, .bool false] from rfl]
      go_enter Tryz.func53, Tryz.ntmps53
      go_wp2_with fail
      refine bodyPost_ret (v := .agg #[.bool false, .bool false, .bool true, .bool false, .bool false, .bool false, .bool false]) (by simp [results, Tryz.results53, go_sem]) rfl ⟨rfl, HB.out _⟩
    · clear hk
      rw [show cV 10 = .agg #[.bool false, .bool false, .bool true, .bool false, .bool false, .bool false, .bool false] from rfl]
      go_enter Tryz.func53, Tryz.ntmps53
      go_wp2_with fail
      refine bodyPost_ret (v := .agg #[.bool false, .bool false, .bool true, .bool false, .bool false, .bool false, .bool false]) (by simp [results, Tryz.results53, go_sem]) rfl ⟨rfl, HB.out _⟩

set_option maxRecDepth 100000 in
set_option maxHeartbeats 1000000 in
theorem lowest_any (l : List Ca) (a : Option Addr) (c : Nat) (w : World) (hin : LiesC w a c l) : Calls Tryz.prog 55 #[.slice a l.length c] w fun e w' => e = .returned (.bool (leastC l)) ∧ Below w.heap.size w w' := by
  obtain ⟨hl, hc, _, hrow⟩ := hin
  have HR : Hid (RowIn w a 2 (List.map Ca.cells l)) := hrow
  clear hrow
  go_enter Tryz.func55, Tryz.ntmps55
  go_wp2_with fail
  go_loopw [3] (fun t7 wr => ∃ (j : Nat), j ≤ l.length ∧ t7 = .int .i64 j ∧ leastC (l.drop j) = leastC l ∧ Below w.heap.size w wr) (fun t7 _ => l.length - (intOf t7).toNat)
  case atStart => exact ⟨0, Nat.zero_le _, rfl, rfl, Below.refl _ w⟩
  case round =>
    obtain ⟨j, hj, rfl, hcnt, hb⟩ := hrel
    have HC : Hid (leastC (l.drop j) = leastC l) := hcnt
    clear hcnt
    have hws := hb.size
    by_cases hlt : j < l.length
    · obtain ⟨b, o, rfl, c0, c1⟩ := rowC_at (HR.out.below hb) hlt
      have hli : (j : Int) < (l.length : Int) := by omega
      have HD : Hid (leastC (l.drop j) = (l[j].n == -9223372036854775808 || leastC (l.drop (j + 1)))) := leastC_drop hlt
      generalize l[j] = s at *
      cases hm : (s.n == -9223372036854775808)
      · go_wp2_with fail
        go_roundw
        case rel => exact ⟨j + 1, by omega, by go_num, by rw [← HC.out, HD.out, hm]; rfl, hb⟩
        case measure => simp [intOf]; omega
      · go_wp2_with fail
        go_ret
        exact ⟨ret_bool (by rw [← HC.out, HD.out, hm]; rfl), hb⟩
    · go_wp2_with fail
      go_ret
      exact ⟨ret_bool (by rw [← HC.out, List.drop_eq_nil_of_le (by omega)]; rfl), hb⟩
end Go.Proofs.YtbpemackmadhgaaGreatDoor

/- A statement's box, behind calls that only lay blocks. -/
namespace Go.Proofs.YtbpemackmadhgaaGreatDoor
open Go.RowKit Go.Sort
theorem len_beq {α : Type} (l : List α) : ((l.length : Int) == 0) = l.isEmpty := by cases l <;> simp <;> omega
theorem nil_beq (l : List UInt8) : (l == []) = l.isEmpty := by cases l <;> rfl
end Go.Proofs.YtbpemackmadhgaaGreatDoor

/- The document's own question whether a statement has a form: kinds 8, 1, 5. -/
namespace Go.Proofs.YtbpemackmadhgaaGreatDoor
open Go.RowKit Go.Sort

set_option maxRecDepth 100000 in
set_option maxHeartbeats 4000000 in
theorem formed_8 (s : St) (w : World) (hk : s.kind = 8) : Calls Tryz.prog 54 #[s.val] w fun e w' => e = .returned (.bool ((s.name.toList == []) && (s.n == 0) && zeroE s.a && zeroE s.b && ((s.body.length : Int) == 0) && ((s.els.length : Int) == 0) && ((s.cases.length : Int) == 0))) ∧ Below w.heap.size w w' := by
  have HC : Hid (∀ w, Calls Tryz.prog 53 #[.int .i64 8] w fun e w' => e = .returned (.agg #[.bool false, .bool false, .bool false, .bool false, .bool false, .bool false, .bool false]) ∧ Below w.heap.size w w') := fun w => counts_any 8 w
  have HA : Hid (∀ w, Calls Tryz.prog 77 #[s.a.val] w fun e w' => e = .returned (.bool (zeroE s.a)) ∧ Below w.heap.size w w') := fun w => rzero_any s.a w
  have HB : Hid (∀ w, Calls Tryz.prog 77 #[s.b.val] w fun e w' => e = .returned (.bool (zeroE s.b)) ∧ Below w.heap.size w w') := fun w => rzero_any s.b w
  have hb0 := (Below.refl _ w).alloc (Nat.le_refl _) (.cells #[.int .i64 s.kind, .string s.name, .int .i64 s.n, .int .i64 s.a.kind, .int .i64 s.a.n, .string s.a.name, .slice s.a.a s.a.args.length s.a.cap, .int .i64 s.b.kind, .int .i64 s.b.n, .string s.b.name, .slice s.b.a s.b.args.length s.b.cap, .slice s.ba s.body.length s.bc, .slice s.ea s.els.length s.ec, .slice s.ca s.cases.length s.cc] 43)
  have BXN : Hid (BoxS _ w.heap.size s) := boxS_new w s
  unfold St.val
  unfold Ex.val at HA HB
  rw [hk] at BXN hb0 ⊢
  have HK : Hid (s.kind = 8) := hk
  clear hk
  cases t0 : (s.name.toList == [])
  · go_enter Tryz.func54, Tryz.ntmps54
    go_wp2_with fail
    refine (HC.out _).mono ?_
    rintro e w1 ⟨rfl, hb1⟩
    have BX : Hid (BoxS w1 w.heap.size s) := BXN.out.below hb1 (by simp)
    have hbl : Below w.heap.size w w1 := hb0.trans (hb1.mono (by simp))
    have hs1 : w.heap.size < w1.heap.size := by have := hb1.size; simp at this; omega
    clear hb1
    have HBL : Hid (Below w.heap.size w (w1.alloc (.cells #[.bool false, .bool false, .bool false, .bool false, .bool false, .bool false, .bool false] 95))) := hbl.alloc (by omega) _
    have BX0 := BX.out
    have c0 := BX0 0 _ rfl
    have c1 := BX0 1 _ rfl
    have c2 := BX0 2 _ rfl
    have c3 := BX0 3 _ rfl
    have c4 := BX0 4 _ rfl
    have c5 := BX0 5 _ rfl
    have c6 := BX0 6 _ rfl
    have c7 := BX0 7 _ rfl
    have c8 := BX0 8 _ rfl
    have c9 := BX0 9 _ rfl
    have c10 := BX0 10 _ rfl
    have c11 := BX0 11 _ rfl
    have c12 := BX0 12 _ rfl
    have c13 := BX0 13 _ rfl
    rw [HK.out] at c0
    clear BX0
    go_upto_region 2 with fail
    simp only [List.append]
    go_wp2_with fail
    go_ret
    exact ⟨rfl, HBL.out⟩
  · cases t1 : (s.n == 0)
    · go_enter Tryz.func54, Tryz.ntmps54
      go_wp2_with fail
      refine (HC.out _).mono ?_
      rintro e w1 ⟨rfl, hb1⟩
      have BX : Hid (BoxS w1 w.heap.size s) := BXN.out.below hb1 (by simp)
      have hbl : Below w.heap.size w w1 := hb0.trans (hb1.mono (by simp))
      have hs1 : w.heap.size < w1.heap.size := by have := hb1.size; simp at this; omega
      clear hb1
      have HBL : Hid (Below w.heap.size w (w1.alloc (.cells #[.bool false, .bool false, .bool false, .bool false, .bool false, .bool false, .bool false] 95))) := hbl.alloc (by omega) _
      have BX0 := BX.out
      have c0 := BX0 0 _ rfl
      have c1 := BX0 1 _ rfl
      have c2 := BX0 2 _ rfl
      have c3 := BX0 3 _ rfl
      have c4 := BX0 4 _ rfl
      have c5 := BX0 5 _ rfl
      have c6 := BX0 6 _ rfl
      have c7 := BX0 7 _ rfl
      have c8 := BX0 8 _ rfl
      have c9 := BX0 9 _ rfl
      have c10 := BX0 10 _ rfl
      have c11 := BX0 11 _ rfl
      have c12 := BX0 12 _ rfl
      have c13 := BX0 13 _ rfl
      rw [HK.out] at c0
      clear BX0
      go_upto_region 2 with fail
      simp only [List.append]
      go_wp2_with fail
      go_ret
      exact ⟨rfl, HBL.out⟩
    · cases t2 : zeroE s.a
      · rw [t2] at HA
        go_enter Tryz.func54, Tryz.ntmps54
        go_wp2_with fail
        refine (HC.out _).mono ?_
        rintro e w1 ⟨rfl, hb1⟩
        have BX : Hid (BoxS w1 w.heap.size s) := BXN.out.below hb1 (by simp)
        have hbl : Below w.heap.size w w1 := hb0.trans (hb1.mono (by simp))
        have hs1 : w.heap.size < w1.heap.size := by have := hb1.size; simp at this; omega
        clear hb1
        have HBL : Hid (Below w.heap.size w (w1.alloc (.cells #[.bool false, .bool false, .bool false, .bool false, .bool false, .bool false, .bool false] 95))) := hbl.alloc (by omega) _
        have BX0 := BX.out
        have c0 := BX0 0 _ rfl
        have c1 := BX0 1 _ rfl
        have c2 := BX0 2 _ rfl
        have c3 := BX0 3 _ rfl
        have c4 := BX0 4 _ rfl
        have c5 := BX0 5 _ rfl
        have c6 := BX0 6 _ rfl
        have c7 := BX0 7 _ rfl
        have c8 := BX0 8 _ rfl
        have c9 := BX0 9 _ rfl
        have c10 := BX0 10 _ rfl
        have c11 := BX0 11 _ rfl
        have c12 := BX0 12 _ rfl
        have c13 := BX0 13 _ rfl
        rw [HK.out] at c0
        clear BX0
        go_upto_region 2 with fail
        simp only [List.append]
        go_wp2_with fail
        refine (HA.out _).mono ?_
        rintro e w2 ⟨rfl, hbc2⟩
        have CA : Hid (∀ (i : Nat) v, ([.bool false, .bool false, .bool false, .bool false, .bool false, .bool false, .bool false] : List Value)[i]? = some v → w2.cell? ⟨w1.heap.size, i, none⟩ = some v) := fun i v h => (hbc2.cell (p := ⟨w1.heap.size, i, none⟩) (by simp)).trans (by rw [World.cell?_alloc_at _ _ _ _ rfl]; simpa using h)
        have BY : Hid (BoxS w2 w.heap.size s) := BoxS.below (fun i v h => (World.cell?_alloc_past _ _ _ hs1).trans (BX.out i v h)) hbc2 (by simp; omega)
        have HBM : Hid (Below w.heap.size w w2) := HBL.out.trans (hbc2.mono (by simp; omega))
        have hs2 : w1.heap.size < w2.heap.size := by have := hbc2.size; simp at this; omega
        clear hbc2 c0 c1 c2 c3 c4 c5 c6 c7 c8 c9 c10 c11 c12 c13
        have CA0 := CA.out
        have BY0 := BY.out
        have d0 := CA0 0 _ rfl
        have d1 := CA0 1 _ rfl
        have d2 := CA0 2 _ rfl
        have d3 := CA0 3 _ rfl
        have d4 := CA0 4 _ rfl
        have d5 := CA0 5 _ rfl
        have d6 := CA0 6 _ rfl
        have c0 := BY0 0 _ rfl
        have c1 := BY0 1 _ rfl
        have c2 := BY0 2 _ rfl
        have c3 := BY0 3 _ rfl
        have c4 := BY0 4 _ rfl
        have c5 := BY0 5 _ rfl
        have c6 := BY0 6 _ rfl
        have c7 := BY0 7 _ rfl
        have c8 := BY0 8 _ rfl
        have c9 := BY0 9 _ rfl
        have c10 := BY0 10 _ rfl
        have c11 := BY0 11 _ rfl
        have c12 := BY0 12 _ rfl
        have c13 := BY0 13 _ rfl
        rw [HK.out] at c0
        clear CA0 BY0
        go_wp2_with fail
        go_ret
        exact ⟨rfl, HBM.out⟩
      · rw [t2] at HA
        cases t3 : zeroE s.b
        · rw [t3] at HB
          go_enter Tryz.func54, Tryz.ntmps54
          go_wp2_with fail
          refine (HC.out _).mono ?_
          rintro e w1 ⟨rfl, hb1⟩
          have BX : Hid (BoxS w1 w.heap.size s) := BXN.out.below hb1 (by simp)
          have hbl : Below w.heap.size w w1 := hb0.trans (hb1.mono (by simp))
          have hs1 : w.heap.size < w1.heap.size := by have := hb1.size; simp at this; omega
          clear hb1
          have HBL : Hid (Below w.heap.size w (w1.alloc (.cells #[.bool false, .bool false, .bool false, .bool false, .bool false, .bool false, .bool false] 95))) := hbl.alloc (by omega) _
          have BX0 := BX.out
          have c0 := BX0 0 _ rfl
          have c1 := BX0 1 _ rfl
          have c2 := BX0 2 _ rfl
          have c3 := BX0 3 _ rfl
          have c4 := BX0 4 _ rfl
          have c5 := BX0 5 _ rfl
          have c6 := BX0 6 _ rfl
          have c7 := BX0 7 _ rfl
          have c8 := BX0 8 _ rfl
          have c9 := BX0 9 _ rfl
          have c10 := BX0 10 _ rfl
          have c11 := BX0 11 _ rfl
          have c12 := BX0 12 _ rfl
          have c13 := BX0 13 _ rfl
          rw [HK.out] at c0
          clear BX0
          go_upto_region 2 with fail
          simp only [List.append]
          go_wp2_with fail
          refine (HA.out _).mono ?_
          rintro e w2 ⟨rfl, hbc2⟩
          have CA : Hid (∀ (i : Nat) v, ([.bool false, .bool false, .bool false, .bool false, .bool false, .bool false, .bool false] : List Value)[i]? = some v → w2.cell? ⟨w1.heap.size, i, none⟩ = some v) := fun i v h => (hbc2.cell (p := ⟨w1.heap.size, i, none⟩) (by simp)).trans (by rw [World.cell?_alloc_at _ _ _ _ rfl]; simpa using h)
          have BY : Hid (BoxS w2 w.heap.size s) := BoxS.below (fun i v h => (World.cell?_alloc_past _ _ _ hs1).trans (BX.out i v h)) hbc2 (by simp; omega)
          have HBM : Hid (Below w.heap.size w w2) := HBL.out.trans (hbc2.mono (by simp; omega))
          have hs2 : w1.heap.size < w2.heap.size := by have := hbc2.size; simp at this; omega
          clear hbc2 c0 c1 c2 c3 c4 c5 c6 c7 c8 c9 c10 c11 c12 c13
          have CA0 := CA.out
          have BY0 := BY.out
          have d0 := CA0 0 _ rfl
          have d1 := CA0 1 _ rfl
          have d2 := CA0 2 _ rfl
          have d3 := CA0 3 _ rfl
          have d4 := CA0 4 _ rfl
          have d5 := CA0 5 _ rfl
          have d6 := CA0 6 _ rfl
          have c0 := BY0 0 _ rfl
          have c1 := BY0 1 _ rfl
          have c2 := BY0 2 _ rfl
          have c3 := BY0 3 _ rfl
          have c4 := BY0 4 _ rfl
          have c5 := BY0 5 _ rfl
          have c6 := BY0 6 _ rfl
          have c7 := BY0 7 _ rfl
          have c8 := BY0 8 _ rfl
          have c9 := BY0 9 _ rfl
          have c10 := BY0 10 _ rfl
          have c11 := BY0 11 _ rfl
          have c12 := BY0 12 _ rfl
          have c13 := BY0 13 _ rfl
          rw [HK.out] at c0
          clear CA0 BY0
          go_wp2_with fail
          clear d0 d1 d2 d3 d4 d5 d6
          refine (HB.out _).mono ?_
          rintro e w3 ⟨rfl, hbc3⟩
          have CA3 : Hid (∀ (i : Nat) v, ([.bool false, .bool false, .bool false, .bool false, .bool false, .bool false, .bool false] : List Value)[i]? = some v → w3.cell? ⟨w1.heap.size, i, none⟩ = some v) := fun i v h => (hbc3.cell (p := ⟨w1.heap.size, i, none⟩) hs2).trans (CA.out i v h)
          have BY3 : Hid (BoxS w3 w.heap.size s) := BY.out.below hbc3 (by omega)
          have HBM3 : Hid (Below w.heap.size w w3) := HBM.out.trans (hbc3.mono (by omega))
          clear hbc3 c0 c1 c2 c3 c4 c5 c6 c7 c8 c9 c10 c11 c12 c13
          have CA0 := CA3.out
          have BY0 := BY3.out
          have d0 := CA0 0 _ rfl
          have d1 := CA0 1 _ rfl
          have d2 := CA0 2 _ rfl
          have d3 := CA0 3 _ rfl
          have d4 := CA0 4 _ rfl
          have d5 := CA0 5 _ rfl
          have d6 := CA0 6 _ rfl
          have c0 := BY0 0 _ rfl
          have c1 := BY0 1 _ rfl
          have c2 := BY0 2 _ rfl
          have c3 := BY0 3 _ rfl
          have c4 := BY0 4 _ rfl
          have c5 := BY0 5 _ rfl
          have c6 := BY0 6 _ rfl
          have c7 := BY0 7 _ rfl
          have c8 := BY0 8 _ rfl
          have c9 := BY0 9 _ rfl
          have c10 := BY0 10 _ rfl
          have c11 := BY0 11 _ rfl
          have c12 := BY0 12 _ rfl
          have c13 := BY0 13 _ rfl
          rw [HK.out] at c0
          clear CA0 BY0
          go_wp2_with fail
          go_ret
          exact ⟨rfl, HBM3.out⟩
        · rw [t3] at HB
          cases t4 : ((s.body.length : Int) == 0)
          · go_enter Tryz.func54, Tryz.ntmps54
            go_wp2_with fail
            refine (HC.out _).mono ?_
            rintro e w1 ⟨rfl, hb1⟩
            have BX : Hid (BoxS w1 w.heap.size s) := BXN.out.below hb1 (by simp)
            have hbl : Below w.heap.size w w1 := hb0.trans (hb1.mono (by simp))
            have hs1 : w.heap.size < w1.heap.size := by have := hb1.size; simp at this; omega
            clear hb1
            have HBL : Hid (Below w.heap.size w (w1.alloc (.cells #[.bool false, .bool false, .bool false, .bool false, .bool false, .bool false, .bool false] 95))) := hbl.alloc (by omega) _
            have BX0 := BX.out
            have c0 := BX0 0 _ rfl
            have c1 := BX0 1 _ rfl
            have c2 := BX0 2 _ rfl
            have c3 := BX0 3 _ rfl
            have c4 := BX0 4 _ rfl
            have c5 := BX0 5 _ rfl
            have c6 := BX0 6 _ rfl
            have c7 := BX0 7 _ rfl
            have c8 := BX0 8 _ rfl
            have c9 := BX0 9 _ rfl
            have c10 := BX0 10 _ rfl
            have c11 := BX0 11 _ rfl
            have c12 := BX0 12 _ rfl
            have c13 := BX0 13 _ rfl
            rw [HK.out] at c0
            clear BX0
            go_upto_region 2 with fail
            simp only [List.append]
            go_wp2_with fail
            refine (HA.out _).mono ?_
            rintro e w2 ⟨rfl, hbc2⟩
            have CA : Hid (∀ (i : Nat) v, ([.bool false, .bool false, .bool false, .bool false, .bool false, .bool false, .bool false] : List Value)[i]? = some v → w2.cell? ⟨w1.heap.size, i, none⟩ = some v) := fun i v h => (hbc2.cell (p := ⟨w1.heap.size, i, none⟩) (by simp)).trans (by rw [World.cell?_alloc_at _ _ _ _ rfl]; simpa using h)
            have BY : Hid (BoxS w2 w.heap.size s) := BoxS.below (fun i v h => (World.cell?_alloc_past _ _ _ hs1).trans (BX.out i v h)) hbc2 (by simp; omega)
            have HBM : Hid (Below w.heap.size w w2) := HBL.out.trans (hbc2.mono (by simp; omega))
            have hs2 : w1.heap.size < w2.heap.size := by have := hbc2.size; simp at this; omega
            clear hbc2 c0 c1 c2 c3 c4 c5 c6 c7 c8 c9 c10 c11 c12 c13
            have CA0 := CA.out
            have BY0 := BY.out
            have d0 := CA0 0 _ rfl
            have d1 := CA0 1 _ rfl
            have d2 := CA0 2 _ rfl
            have d3 := CA0 3 _ rfl
            have d4 := CA0 4 _ rfl
            have d5 := CA0 5 _ rfl
            have d6 := CA0 6 _ rfl
            have c0 := BY0 0 _ rfl
            have c1 := BY0 1 _ rfl
            have c2 := BY0 2 _ rfl
            have c3 := BY0 3 _ rfl
            have c4 := BY0 4 _ rfl
            have c5 := BY0 5 _ rfl
            have c6 := BY0 6 _ rfl
            have c7 := BY0 7 _ rfl
            have c8 := BY0 8 _ rfl
            have c9 := BY0 9 _ rfl
            have c10 := BY0 10 _ rfl
            have c11 := BY0 11 _ rfl
            have c12 := BY0 12 _ rfl
            have c13 := BY0 13 _ rfl
            rw [HK.out] at c0
            clear CA0 BY0
            go_wp2_with fail
            clear d0 d1 d2 d3 d4 d5 d6
            refine (HB.out _).mono ?_
            rintro e w3 ⟨rfl, hbc3⟩
            have CA3 : Hid (∀ (i : Nat) v, ([.bool false, .bool false, .bool false, .bool false, .bool false, .bool false, .bool false] : List Value)[i]? = some v → w3.cell? ⟨w1.heap.size, i, none⟩ = some v) := fun i v h => (hbc3.cell (p := ⟨w1.heap.size, i, none⟩) hs2).trans (CA.out i v h)
            have BY3 : Hid (BoxS w3 w.heap.size s) := BY.out.below hbc3 (by omega)
            have HBM3 : Hid (Below w.heap.size w w3) := HBM.out.trans (hbc3.mono (by omega))
            clear hbc3 c0 c1 c2 c3 c4 c5 c6 c7 c8 c9 c10 c11 c12 c13
            have CA0 := CA3.out
            have BY0 := BY3.out
            have d0 := CA0 0 _ rfl
            have d1 := CA0 1 _ rfl
            have d2 := CA0 2 _ rfl
            have d3 := CA0 3 _ rfl
            have d4 := CA0 4 _ rfl
            have d5 := CA0 5 _ rfl
            have d6 := CA0 6 _ rfl
            have c0 := BY0 0 _ rfl
            have c1 := BY0 1 _ rfl
            have c2 := BY0 2 _ rfl
            have c3 := BY0 3 _ rfl
            have c4 := BY0 4 _ rfl
            have c5 := BY0 5 _ rfl
            have c6 := BY0 6 _ rfl
            have c7 := BY0 7 _ rfl
            have c8 := BY0 8 _ rfl
            have c9 := BY0 9 _ rfl
            have c10 := BY0 10 _ rfl
            have c11 := BY0 11 _ rfl
            have c12 := BY0 12 _ rfl
            have c13 := BY0 13 _ rfl
            rw [HK.out] at c0
            clear CA0 BY0
            go_wp2_with fail
            go_ret
            exact ⟨rfl, HBM3.out⟩
          · cases t5 : ((s.els.length : Int) == 0)
            · go_enter Tryz.func54, Tryz.ntmps54
              go_wp2_with fail
              refine (HC.out _).mono ?_
              rintro e w1 ⟨rfl, hb1⟩
              have BX : Hid (BoxS w1 w.heap.size s) := BXN.out.below hb1 (by simp)
              have hbl : Below w.heap.size w w1 := hb0.trans (hb1.mono (by simp))
              have hs1 : w.heap.size < w1.heap.size := by have := hb1.size; simp at this; omega
              clear hb1
              have HBL : Hid (Below w.heap.size w (w1.alloc (.cells #[.bool false, .bool false, .bool false, .bool false, .bool false, .bool false, .bool false] 95))) := hbl.alloc (by omega) _
              have BX0 := BX.out
              have c0 := BX0 0 _ rfl
              have c1 := BX0 1 _ rfl
              have c2 := BX0 2 _ rfl
              have c3 := BX0 3 _ rfl
              have c4 := BX0 4 _ rfl
              have c5 := BX0 5 _ rfl
              have c6 := BX0 6 _ rfl
              have c7 := BX0 7 _ rfl
              have c8 := BX0 8 _ rfl
              have c9 := BX0 9 _ rfl
              have c10 := BX0 10 _ rfl
              have c11 := BX0 11 _ rfl
              have c12 := BX0 12 _ rfl
              have c13 := BX0 13 _ rfl
              rw [HK.out] at c0
              clear BX0
              go_upto_region 2 with fail
              simp only [List.append]
              go_wp2_with fail
              refine (HA.out _).mono ?_
              rintro e w2 ⟨rfl, hbc2⟩
              have CA : Hid (∀ (i : Nat) v, ([.bool false, .bool false, .bool false, .bool false, .bool false, .bool false, .bool false] : List Value)[i]? = some v → w2.cell? ⟨w1.heap.size, i, none⟩ = some v) := fun i v h => (hbc2.cell (p := ⟨w1.heap.size, i, none⟩) (by simp)).trans (by rw [World.cell?_alloc_at _ _ _ _ rfl]; simpa using h)
              have BY : Hid (BoxS w2 w.heap.size s) := BoxS.below (fun i v h => (World.cell?_alloc_past _ _ _ hs1).trans (BX.out i v h)) hbc2 (by simp; omega)
              have HBM : Hid (Below w.heap.size w w2) := HBL.out.trans (hbc2.mono (by simp; omega))
              have hs2 : w1.heap.size < w2.heap.size := by have := hbc2.size; simp at this; omega
              clear hbc2 c0 c1 c2 c3 c4 c5 c6 c7 c8 c9 c10 c11 c12 c13
              have CA0 := CA.out
              have BY0 := BY.out
              have d0 := CA0 0 _ rfl
              have d1 := CA0 1 _ rfl
              have d2 := CA0 2 _ rfl
              have d3 := CA0 3 _ rfl
              have d4 := CA0 4 _ rfl
              have d5 := CA0 5 _ rfl
              have d6 := CA0 6 _ rfl
              have c0 := BY0 0 _ rfl
              have c1 := BY0 1 _ rfl
              have c2 := BY0 2 _ rfl
              have c3 := BY0 3 _ rfl
              have c4 := BY0 4 _ rfl
              have c5 := BY0 5 _ rfl
              have c6 := BY0 6 _ rfl
              have c7 := BY0 7 _ rfl
              have c8 := BY0 8 _ rfl
              have c9 := BY0 9 _ rfl
              have c10 := BY0 10 _ rfl
              have c11 := BY0 11 _ rfl
              have c12 := BY0 12 _ rfl
              have c13 := BY0 13 _ rfl
              rw [HK.out] at c0
              clear CA0 BY0
              go_wp2_with fail
              clear d0 d1 d2 d3 d4 d5 d6
              refine (HB.out _).mono ?_
              rintro e w3 ⟨rfl, hbc3⟩
              have CA3 : Hid (∀ (i : Nat) v, ([.bool false, .bool false, .bool false, .bool false, .bool false, .bool false, .bool false] : List Value)[i]? = some v → w3.cell? ⟨w1.heap.size, i, none⟩ = some v) := fun i v h => (hbc3.cell (p := ⟨w1.heap.size, i, none⟩) hs2).trans (CA.out i v h)
              have BY3 : Hid (BoxS w3 w.heap.size s) := BY.out.below hbc3 (by omega)
              have HBM3 : Hid (Below w.heap.size w w3) := HBM.out.trans (hbc3.mono (by omega))
              clear hbc3 c0 c1 c2 c3 c4 c5 c6 c7 c8 c9 c10 c11 c12 c13
              have CA0 := CA3.out
              have BY0 := BY3.out
              have d0 := CA0 0 _ rfl
              have d1 := CA0 1 _ rfl
              have d2 := CA0 2 _ rfl
              have d3 := CA0 3 _ rfl
              have d4 := CA0 4 _ rfl
              have d5 := CA0 5 _ rfl
              have d6 := CA0 6 _ rfl
              have c0 := BY0 0 _ rfl
              have c1 := BY0 1 _ rfl
              have c2 := BY0 2 _ rfl
              have c3 := BY0 3 _ rfl
              have c4 := BY0 4 _ rfl
              have c5 := BY0 5 _ rfl
              have c6 := BY0 6 _ rfl
              have c7 := BY0 7 _ rfl
              have c8 := BY0 8 _ rfl
              have c9 := BY0 9 _ rfl
              have c10 := BY0 10 _ rfl
              have c11 := BY0 11 _ rfl
              have c12 := BY0 12 _ rfl
              have c13 := BY0 13 _ rfl
              rw [HK.out] at c0
              clear CA0 BY0
              go_wp2_with fail
              go_ret
              exact ⟨rfl, HBM3.out⟩
            · cases t6 : ((s.cases.length : Int) == 0)
              · go_enter Tryz.func54, Tryz.ntmps54
                go_wp2_with fail
                refine (HC.out _).mono ?_
                rintro e w1 ⟨rfl, hb1⟩
                have BX : Hid (BoxS w1 w.heap.size s) := BXN.out.below hb1 (by simp)
                have hbl : Below w.heap.size w w1 := hb0.trans (hb1.mono (by simp))
                have hs1 : w.heap.size < w1.heap.size := by have := hb1.size; simp at this; omega
                clear hb1
                have HBL : Hid (Below w.heap.size w (w1.alloc (.cells #[.bool false, .bool false, .bool false, .bool false, .bool false, .bool false, .bool false] 95))) := hbl.alloc (by omega) _
                have BX0 := BX.out
                have c0 := BX0 0 _ rfl
                have c1 := BX0 1 _ rfl
                have c2 := BX0 2 _ rfl
                have c3 := BX0 3 _ rfl
                have c4 := BX0 4 _ rfl
                have c5 := BX0 5 _ rfl
                have c6 := BX0 6 _ rfl
                have c7 := BX0 7 _ rfl
                have c8 := BX0 8 _ rfl
                have c9 := BX0 9 _ rfl
                have c10 := BX0 10 _ rfl
                have c11 := BX0 11 _ rfl
                have c12 := BX0 12 _ rfl
                have c13 := BX0 13 _ rfl
                rw [HK.out] at c0
                clear BX0
                go_upto_region 2 with fail
                simp only [List.append]
                go_wp2_with fail
                refine (HA.out _).mono ?_
                rintro e w2 ⟨rfl, hbc2⟩
                have CA : Hid (∀ (i : Nat) v, ([.bool false, .bool false, .bool false, .bool false, .bool false, .bool false, .bool false] : List Value)[i]? = some v → w2.cell? ⟨w1.heap.size, i, none⟩ = some v) := fun i v h => (hbc2.cell (p := ⟨w1.heap.size, i, none⟩) (by simp)).trans (by rw [World.cell?_alloc_at _ _ _ _ rfl]; simpa using h)
                have BY : Hid (BoxS w2 w.heap.size s) := BoxS.below (fun i v h => (World.cell?_alloc_past _ _ _ hs1).trans (BX.out i v h)) hbc2 (by simp; omega)
                have HBM : Hid (Below w.heap.size w w2) := HBL.out.trans (hbc2.mono (by simp; omega))
                have hs2 : w1.heap.size < w2.heap.size := by have := hbc2.size; simp at this; omega
                clear hbc2 c0 c1 c2 c3 c4 c5 c6 c7 c8 c9 c10 c11 c12 c13
                have CA0 := CA.out
                have BY0 := BY.out
                have d0 := CA0 0 _ rfl
                have d1 := CA0 1 _ rfl
                have d2 := CA0 2 _ rfl
                have d3 := CA0 3 _ rfl
                have d4 := CA0 4 _ rfl
                have d5 := CA0 5 _ rfl
                have d6 := CA0 6 _ rfl
                have c0 := BY0 0 _ rfl
                have c1 := BY0 1 _ rfl
                have c2 := BY0 2 _ rfl
                have c3 := BY0 3 _ rfl
                have c4 := BY0 4 _ rfl
                have c5 := BY0 5 _ rfl
                have c6 := BY0 6 _ rfl
                have c7 := BY0 7 _ rfl
                have c8 := BY0 8 _ rfl
                have c9 := BY0 9 _ rfl
                have c10 := BY0 10 _ rfl
                have c11 := BY0 11 _ rfl
                have c12 := BY0 12 _ rfl
                have c13 := BY0 13 _ rfl
                rw [HK.out] at c0
                clear CA0 BY0
                go_wp2_with fail
                clear d0 d1 d2 d3 d4 d5 d6
                refine (HB.out _).mono ?_
                rintro e w3 ⟨rfl, hbc3⟩
                have CA3 : Hid (∀ (i : Nat) v, ([.bool false, .bool false, .bool false, .bool false, .bool false, .bool false, .bool false] : List Value)[i]? = some v → w3.cell? ⟨w1.heap.size, i, none⟩ = some v) := fun i v h => (hbc3.cell (p := ⟨w1.heap.size, i, none⟩) hs2).trans (CA.out i v h)
                have BY3 : Hid (BoxS w3 w.heap.size s) := BY.out.below hbc3 (by omega)
                have HBM3 : Hid (Below w.heap.size w w3) := HBM.out.trans (hbc3.mono (by omega))
                clear hbc3 c0 c1 c2 c3 c4 c5 c6 c7 c8 c9 c10 c11 c12 c13
                have CA0 := CA3.out
                have BY0 := BY3.out
                have d0 := CA0 0 _ rfl
                have d1 := CA0 1 _ rfl
                have d2 := CA0 2 _ rfl
                have d3 := CA0 3 _ rfl
                have d4 := CA0 4 _ rfl
                have d5 := CA0 5 _ rfl
                have d6 := CA0 6 _ rfl
                have c0 := BY0 0 _ rfl
                have c1 := BY0 1 _ rfl
                have c2 := BY0 2 _ rfl
                have c3 := BY0 3 _ rfl
                have c4 := BY0 4 _ rfl
                have c5 := BY0 5 _ rfl
                have c6 := BY0 6 _ rfl
                have c7 := BY0 7 _ rfl
                have c8 := BY0 8 _ rfl
                have c9 := BY0 9 _ rfl
                have c10 := BY0 10 _ rfl
                have c11 := BY0 11 _ rfl
                have c12 := BY0 12 _ rfl
                have c13 := BY0 13 _ rfl
                rw [HK.out] at c0
                clear CA0 BY0
                go_wp2_with fail
                go_ret
                exact ⟨rfl, HBM3.out⟩
              · go_enter Tryz.func54, Tryz.ntmps54
                go_wp2_with fail
                refine (HC.out _).mono ?_
                rintro e w1 ⟨rfl, hb1⟩
                have BX : Hid (BoxS w1 w.heap.size s) := BXN.out.below hb1 (by simp)
                have hbl : Below w.heap.size w w1 := hb0.trans (hb1.mono (by simp))
                have hs1 : w.heap.size < w1.heap.size := by have := hb1.size; simp at this; omega
                clear hb1
                have HBL : Hid (Below w.heap.size w (w1.alloc (.cells #[.bool false, .bool false, .bool false, .bool false, .bool false, .bool false, .bool false] 95))) := hbl.alloc (by omega) _
                have BX0 := BX.out
                have c0 := BX0 0 _ rfl
                have c1 := BX0 1 _ rfl
                have c2 := BX0 2 _ rfl
                have c3 := BX0 3 _ rfl
                have c4 := BX0 4 _ rfl
                have c5 := BX0 5 _ rfl
                have c6 := BX0 6 _ rfl
                have c7 := BX0 7 _ rfl
                have c8 := BX0 8 _ rfl
                have c9 := BX0 9 _ rfl
                have c10 := BX0 10 _ rfl
                have c11 := BX0 11 _ rfl
                have c12 := BX0 12 _ rfl
                have c13 := BX0 13 _ rfl
                rw [HK.out] at c0
                clear BX0
                go_upto_region 2 with fail
                simp only [List.append]
                go_wp2_with fail
                refine (HA.out _).mono ?_
                rintro e w2 ⟨rfl, hbc2⟩
                have CA : Hid (∀ (i : Nat) v, ([.bool false, .bool false, .bool false, .bool false, .bool false, .bool false, .bool false] : List Value)[i]? = some v → w2.cell? ⟨w1.heap.size, i, none⟩ = some v) := fun i v h => (hbc2.cell (p := ⟨w1.heap.size, i, none⟩) (by simp)).trans (by rw [World.cell?_alloc_at _ _ _ _ rfl]; simpa using h)
                have BY : Hid (BoxS w2 w.heap.size s) := BoxS.below (fun i v h => (World.cell?_alloc_past _ _ _ hs1).trans (BX.out i v h)) hbc2 (by simp; omega)
                have HBM : Hid (Below w.heap.size w w2) := HBL.out.trans (hbc2.mono (by simp; omega))
                have hs2 : w1.heap.size < w2.heap.size := by have := hbc2.size; simp at this; omega
                clear hbc2 c0 c1 c2 c3 c4 c5 c6 c7 c8 c9 c10 c11 c12 c13
                have CA0 := CA.out
                have BY0 := BY.out
                have d0 := CA0 0 _ rfl
                have d1 := CA0 1 _ rfl
                have d2 := CA0 2 _ rfl
                have d3 := CA0 3 _ rfl
                have d4 := CA0 4 _ rfl
                have d5 := CA0 5 _ rfl
                have d6 := CA0 6 _ rfl
                have c0 := BY0 0 _ rfl
                have c1 := BY0 1 _ rfl
                have c2 := BY0 2 _ rfl
                have c3 := BY0 3 _ rfl
                have c4 := BY0 4 _ rfl
                have c5 := BY0 5 _ rfl
                have c6 := BY0 6 _ rfl
                have c7 := BY0 7 _ rfl
                have c8 := BY0 8 _ rfl
                have c9 := BY0 9 _ rfl
                have c10 := BY0 10 _ rfl
                have c11 := BY0 11 _ rfl
                have c12 := BY0 12 _ rfl
                have c13 := BY0 13 _ rfl
                rw [HK.out] at c0
                clear CA0 BY0
                go_wp2_with fail
                clear d0 d1 d2 d3 d4 d5 d6
                refine (HB.out _).mono ?_
                rintro e w3 ⟨rfl, hbc3⟩
                have CA3 : Hid (∀ (i : Nat) v, ([.bool false, .bool false, .bool false, .bool false, .bool false, .bool false, .bool false] : List Value)[i]? = some v → w3.cell? ⟨w1.heap.size, i, none⟩ = some v) := fun i v h => (hbc3.cell (p := ⟨w1.heap.size, i, none⟩) hs2).trans (CA.out i v h)
                have BY3 : Hid (BoxS w3 w.heap.size s) := BY.out.below hbc3 (by omega)
                have HBM3 : Hid (Below w.heap.size w w3) := HBM.out.trans (hbc3.mono (by omega))
                clear hbc3 c0 c1 c2 c3 c4 c5 c6 c7 c8 c9 c10 c11 c12 c13
                have CA0 := CA3.out
                have BY0 := BY3.out
                have d0 := CA0 0 _ rfl
                have d1 := CA0 1 _ rfl
                have d2 := CA0 2 _ rfl
                have d3 := CA0 3 _ rfl
                have d4 := CA0 4 _ rfl
                have d5 := CA0 5 _ rfl
                have d6 := CA0 6 _ rfl
                have c0 := BY0 0 _ rfl
                have c1 := BY0 1 _ rfl
                have c2 := BY0 2 _ rfl
                have c3 := BY0 3 _ rfl
                have c4 := BY0 4 _ rfl
                have c5 := BY0 5 _ rfl
                have c6 := BY0 6 _ rfl
                have c7 := BY0 7 _ rfl
                have c8 := BY0 8 _ rfl
                have c9 := BY0 9 _ rfl
                have c10 := BY0 10 _ rfl
                have c11 := BY0 11 _ rfl
                have c12 := BY0 12 _ rfl
                have c13 := BY0 13 _ rfl
                rw [HK.out] at c0
                clear CA0 BY0
                go_wp2_with fail
                go_ret
                exact ⟨rfl, HBM3.out⟩
set_option maxRecDepth 100000 in
set_option maxHeartbeats 4000000 in
theorem formed_1 (s : St) (w : World) (hk : s.kind = 1) : Calls Tryz.prog 54 #[s.val] w fun e w' => e = .returned (.bool ((s.n == 0) && zeroE s.b && ((s.body.length : Int) == 0) && ((s.els.length : Int) == 0) && ((s.cases.length : Int) == 0))) ∧ Below w.heap.size w w' := by
  have HC : Hid (∀ w, Calls Tryz.prog 53 #[.int .i64 1] w fun e w' => e = .returned (.agg #[.bool true, .bool false, .bool true, .bool false, .bool false, .bool false, .bool false]) ∧ Below w.heap.size w w') := fun w => counts_any 1 w
  have HA : Hid (∀ w, Calls Tryz.prog 77 #[s.a.val] w fun e w' => e = .returned (.bool (zeroE s.a)) ∧ Below w.heap.size w w') := fun w => rzero_any s.a w
  have HB : Hid (∀ w, Calls Tryz.prog 77 #[s.b.val] w fun e w' => e = .returned (.bool (zeroE s.b)) ∧ Below w.heap.size w w') := fun w => rzero_any s.b w
  have hb0 := (Below.refl _ w).alloc (Nat.le_refl _) (.cells #[.int .i64 s.kind, .string s.name, .int .i64 s.n, .int .i64 s.a.kind, .int .i64 s.a.n, .string s.a.name, .slice s.a.a s.a.args.length s.a.cap, .int .i64 s.b.kind, .int .i64 s.b.n, .string s.b.name, .slice s.b.a s.b.args.length s.b.cap, .slice s.ba s.body.length s.bc, .slice s.ea s.els.length s.ec, .slice s.ca s.cases.length s.cc] 43)
  have BXN : Hid (BoxS _ w.heap.size s) := boxS_new w s
  unfold St.val
  unfold Ex.val at HA HB
  rw [hk] at BXN hb0 ⊢
  have HK : Hid (s.kind = 1) := hk
  clear hk
  cases t1 : (s.n == 0)
  · go_enter Tryz.func54, Tryz.ntmps54
    go_wp2_with fail
    refine (HC.out _).mono ?_
    rintro e w1 ⟨rfl, hb1⟩
    have BX : Hid (BoxS w1 w.heap.size s) := BXN.out.below hb1 (by simp)
    have hbl : Below w.heap.size w w1 := hb0.trans (hb1.mono (by simp))
    have hs1 : w.heap.size < w1.heap.size := by have := hb1.size; simp at this; omega
    clear hb1
    have HBL : Hid (Below w.heap.size w (w1.alloc (.cells #[.bool true, .bool false, .bool true, .bool false, .bool false, .bool false, .bool false] 95))) := hbl.alloc (by omega) _
    have BX0 := BX.out
    have c0 := BX0 0 _ rfl
    have c1 := BX0 1 _ rfl
    have c2 := BX0 2 _ rfl
    have c3 := BX0 3 _ rfl
    have c4 := BX0 4 _ rfl
    have c5 := BX0 5 _ rfl
    have c6 := BX0 6 _ rfl
    have c7 := BX0 7 _ rfl
    have c8 := BX0 8 _ rfl
    have c9 := BX0 9 _ rfl
    have c10 := BX0 10 _ rfl
    have c11 := BX0 11 _ rfl
    have c12 := BX0 12 _ rfl
    have c13 := BX0 13 _ rfl
    rw [HK.out] at c0
    clear BX0
    go_upto_region 2 with fail
    simp only [List.append]
    go_wp2_with fail
    go_ret
    exact ⟨rfl, HBL.out⟩
  · cases t3 : zeroE s.b
    · rw [t3] at HB
      go_enter Tryz.func54, Tryz.ntmps54
      go_wp2_with fail
      refine (HC.out _).mono ?_
      rintro e w1 ⟨rfl, hb1⟩
      have BX : Hid (BoxS w1 w.heap.size s) := BXN.out.below hb1 (by simp)
      have hbl : Below w.heap.size w w1 := hb0.trans (hb1.mono (by simp))
      have hs1 : w.heap.size < w1.heap.size := by have := hb1.size; simp at this; omega
      clear hb1
      have HBL : Hid (Below w.heap.size w (w1.alloc (.cells #[.bool true, .bool false, .bool true, .bool false, .bool false, .bool false, .bool false] 95))) := hbl.alloc (by omega) _
      have BX0 := BX.out
      have c0 := BX0 0 _ rfl
      have c1 := BX0 1 _ rfl
      have c2 := BX0 2 _ rfl
      have c3 := BX0 3 _ rfl
      have c4 := BX0 4 _ rfl
      have c5 := BX0 5 _ rfl
      have c6 := BX0 6 _ rfl
      have c7 := BX0 7 _ rfl
      have c8 := BX0 8 _ rfl
      have c9 := BX0 9 _ rfl
      have c10 := BX0 10 _ rfl
      have c11 := BX0 11 _ rfl
      have c12 := BX0 12 _ rfl
      have c13 := BX0 13 _ rfl
      rw [HK.out] at c0
      clear BX0
      go_upto_region 2 with fail
      simp only [List.append]
      go_wp2_with fail
      refine (HB.out _).mono ?_
      rintro e w2 ⟨rfl, hbc2⟩
      have CA : Hid (∀ (i : Nat) v, ([.bool true, .bool false, .bool true, .bool false, .bool false, .bool false, .bool false] : List Value)[i]? = some v → w2.cell? ⟨w1.heap.size, i, none⟩ = some v) := fun i v h => (hbc2.cell (p := ⟨w1.heap.size, i, none⟩) (by simp)).trans (by rw [World.cell?_alloc_at _ _ _ _ rfl]; simpa using h)
      have BY : Hid (BoxS w2 w.heap.size s) := BoxS.below (fun i v h => (World.cell?_alloc_past _ _ _ hs1).trans (BX.out i v h)) hbc2 (by simp; omega)
      have HBM : Hid (Below w.heap.size w w2) := HBL.out.trans (hbc2.mono (by simp; omega))
      have hs2 : w1.heap.size < w2.heap.size := by have := hbc2.size; simp at this; omega
      clear hbc2 c0 c1 c2 c3 c4 c5 c6 c7 c8 c9 c10 c11 c12 c13
      have CA0 := CA.out
      have BY0 := BY.out
      have d0 := CA0 0 _ rfl
      have d1 := CA0 1 _ rfl
      have d2 := CA0 2 _ rfl
      have d3 := CA0 3 _ rfl
      have d4 := CA0 4 _ rfl
      have d5 := CA0 5 _ rfl
      have d6 := CA0 6 _ rfl
      have c0 := BY0 0 _ rfl
      have c1 := BY0 1 _ rfl
      have c2 := BY0 2 _ rfl
      have c3 := BY0 3 _ rfl
      have c4 := BY0 4 _ rfl
      have c5 := BY0 5 _ rfl
      have c6 := BY0 6 _ rfl
      have c7 := BY0 7 _ rfl
      have c8 := BY0 8 _ rfl
      have c9 := BY0 9 _ rfl
      have c10 := BY0 10 _ rfl
      have c11 := BY0 11 _ rfl
      have c12 := BY0 12 _ rfl
      have c13 := BY0 13 _ rfl
      rw [HK.out] at c0
      clear CA0 BY0
      go_wp2_with fail
      go_ret
      exact ⟨rfl, HBM.out⟩
    · rw [t3] at HB
      cases t4 : ((s.body.length : Int) == 0)
      · go_enter Tryz.func54, Tryz.ntmps54
        go_wp2_with fail
        refine (HC.out _).mono ?_
        rintro e w1 ⟨rfl, hb1⟩
        have BX : Hid (BoxS w1 w.heap.size s) := BXN.out.below hb1 (by simp)
        have hbl : Below w.heap.size w w1 := hb0.trans (hb1.mono (by simp))
        have hs1 : w.heap.size < w1.heap.size := by have := hb1.size; simp at this; omega
        clear hb1
        have HBL : Hid (Below w.heap.size w (w1.alloc (.cells #[.bool true, .bool false, .bool true, .bool false, .bool false, .bool false, .bool false] 95))) := hbl.alloc (by omega) _
        have BX0 := BX.out
        have c0 := BX0 0 _ rfl
        have c1 := BX0 1 _ rfl
        have c2 := BX0 2 _ rfl
        have c3 := BX0 3 _ rfl
        have c4 := BX0 4 _ rfl
        have c5 := BX0 5 _ rfl
        have c6 := BX0 6 _ rfl
        have c7 := BX0 7 _ rfl
        have c8 := BX0 8 _ rfl
        have c9 := BX0 9 _ rfl
        have c10 := BX0 10 _ rfl
        have c11 := BX0 11 _ rfl
        have c12 := BX0 12 _ rfl
        have c13 := BX0 13 _ rfl
        rw [HK.out] at c0
        clear BX0
        go_upto_region 2 with fail
        simp only [List.append]
        go_wp2_with fail
        refine (HB.out _).mono ?_
        rintro e w2 ⟨rfl, hbc2⟩
        have CA : Hid (∀ (i : Nat) v, ([.bool true, .bool false, .bool true, .bool false, .bool false, .bool false, .bool false] : List Value)[i]? = some v → w2.cell? ⟨w1.heap.size, i, none⟩ = some v) := fun i v h => (hbc2.cell (p := ⟨w1.heap.size, i, none⟩) (by simp)).trans (by rw [World.cell?_alloc_at _ _ _ _ rfl]; simpa using h)
        have BY : Hid (BoxS w2 w.heap.size s) := BoxS.below (fun i v h => (World.cell?_alloc_past _ _ _ hs1).trans (BX.out i v h)) hbc2 (by simp; omega)
        have HBM : Hid (Below w.heap.size w w2) := HBL.out.trans (hbc2.mono (by simp; omega))
        have hs2 : w1.heap.size < w2.heap.size := by have := hbc2.size; simp at this; omega
        clear hbc2 c0 c1 c2 c3 c4 c5 c6 c7 c8 c9 c10 c11 c12 c13
        have CA0 := CA.out
        have BY0 := BY.out
        have d0 := CA0 0 _ rfl
        have d1 := CA0 1 _ rfl
        have d2 := CA0 2 _ rfl
        have d3 := CA0 3 _ rfl
        have d4 := CA0 4 _ rfl
        have d5 := CA0 5 _ rfl
        have d6 := CA0 6 _ rfl
        have c0 := BY0 0 _ rfl
        have c1 := BY0 1 _ rfl
        have c2 := BY0 2 _ rfl
        have c3 := BY0 3 _ rfl
        have c4 := BY0 4 _ rfl
        have c5 := BY0 5 _ rfl
        have c6 := BY0 6 _ rfl
        have c7 := BY0 7 _ rfl
        have c8 := BY0 8 _ rfl
        have c9 := BY0 9 _ rfl
        have c10 := BY0 10 _ rfl
        have c11 := BY0 11 _ rfl
        have c12 := BY0 12 _ rfl
        have c13 := BY0 13 _ rfl
        rw [HK.out] at c0
        clear CA0 BY0
        go_wp2_with fail
        go_ret
        exact ⟨rfl, HBM.out⟩
      · cases t5 : ((s.els.length : Int) == 0)
        · go_enter Tryz.func54, Tryz.ntmps54
          go_wp2_with fail
          refine (HC.out _).mono ?_
          rintro e w1 ⟨rfl, hb1⟩
          have BX : Hid (BoxS w1 w.heap.size s) := BXN.out.below hb1 (by simp)
          have hbl : Below w.heap.size w w1 := hb0.trans (hb1.mono (by simp))
          have hs1 : w.heap.size < w1.heap.size := by have := hb1.size; simp at this; omega
          clear hb1
          have HBL : Hid (Below w.heap.size w (w1.alloc (.cells #[.bool true, .bool false, .bool true, .bool false, .bool false, .bool false, .bool false] 95))) := hbl.alloc (by omega) _
          have BX0 := BX.out
          have c0 := BX0 0 _ rfl
          have c1 := BX0 1 _ rfl
          have c2 := BX0 2 _ rfl
          have c3 := BX0 3 _ rfl
          have c4 := BX0 4 _ rfl
          have c5 := BX0 5 _ rfl
          have c6 := BX0 6 _ rfl
          have c7 := BX0 7 _ rfl
          have c8 := BX0 8 _ rfl
          have c9 := BX0 9 _ rfl
          have c10 := BX0 10 _ rfl
          have c11 := BX0 11 _ rfl
          have c12 := BX0 12 _ rfl
          have c13 := BX0 13 _ rfl
          rw [HK.out] at c0
          clear BX0
          go_upto_region 2 with fail
          simp only [List.append]
          go_wp2_with fail
          refine (HB.out _).mono ?_
          rintro e w2 ⟨rfl, hbc2⟩
          have CA : Hid (∀ (i : Nat) v, ([.bool true, .bool false, .bool true, .bool false, .bool false, .bool false, .bool false] : List Value)[i]? = some v → w2.cell? ⟨w1.heap.size, i, none⟩ = some v) := fun i v h => (hbc2.cell (p := ⟨w1.heap.size, i, none⟩) (by simp)).trans (by rw [World.cell?_alloc_at _ _ _ _ rfl]; simpa using h)
          have BY : Hid (BoxS w2 w.heap.size s) := BoxS.below (fun i v h => (World.cell?_alloc_past _ _ _ hs1).trans (BX.out i v h)) hbc2 (by simp; omega)
          have HBM : Hid (Below w.heap.size w w2) := HBL.out.trans (hbc2.mono (by simp; omega))
          have hs2 : w1.heap.size < w2.heap.size := by have := hbc2.size; simp at this; omega
          clear hbc2 c0 c1 c2 c3 c4 c5 c6 c7 c8 c9 c10 c11 c12 c13
          have CA0 := CA.out
          have BY0 := BY.out
          have d0 := CA0 0 _ rfl
          have d1 := CA0 1 _ rfl
          have d2 := CA0 2 _ rfl
          have d3 := CA0 3 _ rfl
          have d4 := CA0 4 _ rfl
          have d5 := CA0 5 _ rfl
          have d6 := CA0 6 _ rfl
          have c0 := BY0 0 _ rfl
          have c1 := BY0 1 _ rfl
          have c2 := BY0 2 _ rfl
          have c3 := BY0 3 _ rfl
          have c4 := BY0 4 _ rfl
          have c5 := BY0 5 _ rfl
          have c6 := BY0 6 _ rfl
          have c7 := BY0 7 _ rfl
          have c8 := BY0 8 _ rfl
          have c9 := BY0 9 _ rfl
          have c10 := BY0 10 _ rfl
          have c11 := BY0 11 _ rfl
          have c12 := BY0 12 _ rfl
          have c13 := BY0 13 _ rfl
          rw [HK.out] at c0
          clear CA0 BY0
          go_wp2_with fail
          go_ret
          exact ⟨rfl, HBM.out⟩
        · cases t6 : ((s.cases.length : Int) == 0)
          · go_enter Tryz.func54, Tryz.ntmps54
            go_wp2_with fail
            refine (HC.out _).mono ?_
            rintro e w1 ⟨rfl, hb1⟩
            have BX : Hid (BoxS w1 w.heap.size s) := BXN.out.below hb1 (by simp)
            have hbl : Below w.heap.size w w1 := hb0.trans (hb1.mono (by simp))
            have hs1 : w.heap.size < w1.heap.size := by have := hb1.size; simp at this; omega
            clear hb1
            have HBL : Hid (Below w.heap.size w (w1.alloc (.cells #[.bool true, .bool false, .bool true, .bool false, .bool false, .bool false, .bool false] 95))) := hbl.alloc (by omega) _
            have BX0 := BX.out
            have c0 := BX0 0 _ rfl
            have c1 := BX0 1 _ rfl
            have c2 := BX0 2 _ rfl
            have c3 := BX0 3 _ rfl
            have c4 := BX0 4 _ rfl
            have c5 := BX0 5 _ rfl
            have c6 := BX0 6 _ rfl
            have c7 := BX0 7 _ rfl
            have c8 := BX0 8 _ rfl
            have c9 := BX0 9 _ rfl
            have c10 := BX0 10 _ rfl
            have c11 := BX0 11 _ rfl
            have c12 := BX0 12 _ rfl
            have c13 := BX0 13 _ rfl
            rw [HK.out] at c0
            clear BX0
            go_upto_region 2 with fail
            simp only [List.append]
            go_wp2_with fail
            refine (HB.out _).mono ?_
            rintro e w2 ⟨rfl, hbc2⟩
            have CA : Hid (∀ (i : Nat) v, ([.bool true, .bool false, .bool true, .bool false, .bool false, .bool false, .bool false] : List Value)[i]? = some v → w2.cell? ⟨w1.heap.size, i, none⟩ = some v) := fun i v h => (hbc2.cell (p := ⟨w1.heap.size, i, none⟩) (by simp)).trans (by rw [World.cell?_alloc_at _ _ _ _ rfl]; simpa using h)
            have BY : Hid (BoxS w2 w.heap.size s) := BoxS.below (fun i v h => (World.cell?_alloc_past _ _ _ hs1).trans (BX.out i v h)) hbc2 (by simp; omega)
            have HBM : Hid (Below w.heap.size w w2) := HBL.out.trans (hbc2.mono (by simp; omega))
            have hs2 : w1.heap.size < w2.heap.size := by have := hbc2.size; simp at this; omega
            clear hbc2 c0 c1 c2 c3 c4 c5 c6 c7 c8 c9 c10 c11 c12 c13
            have CA0 := CA.out
            have BY0 := BY.out
            have d0 := CA0 0 _ rfl
            have d1 := CA0 1 _ rfl
            have d2 := CA0 2 _ rfl
            have d3 := CA0 3 _ rfl
            have d4 := CA0 4 _ rfl
            have d5 := CA0 5 _ rfl
            have d6 := CA0 6 _ rfl
            have c0 := BY0 0 _ rfl
            have c1 := BY0 1 _ rfl
            have c2 := BY0 2 _ rfl
            have c3 := BY0 3 _ rfl
            have c4 := BY0 4 _ rfl
            have c5 := BY0 5 _ rfl
            have c6 := BY0 6 _ rfl
            have c7 := BY0 7 _ rfl
            have c8 := BY0 8 _ rfl
            have c9 := BY0 9 _ rfl
            have c10 := BY0 10 _ rfl
            have c11 := BY0 11 _ rfl
            have c12 := BY0 12 _ rfl
            have c13 := BY0 13 _ rfl
            rw [HK.out] at c0
            clear CA0 BY0
            go_wp2_with fail
            go_ret
            exact ⟨rfl, HBM.out⟩
          · go_enter Tryz.func54, Tryz.ntmps54
            go_wp2_with fail
            refine (HC.out _).mono ?_
            rintro e w1 ⟨rfl, hb1⟩
            have BX : Hid (BoxS w1 w.heap.size s) := BXN.out.below hb1 (by simp)
            have hbl : Below w.heap.size w w1 := hb0.trans (hb1.mono (by simp))
            have hs1 : w.heap.size < w1.heap.size := by have := hb1.size; simp at this; omega
            clear hb1
            have HBL : Hid (Below w.heap.size w (w1.alloc (.cells #[.bool true, .bool false, .bool true, .bool false, .bool false, .bool false, .bool false] 95))) := hbl.alloc (by omega) _
            have BX0 := BX.out
            have c0 := BX0 0 _ rfl
            have c1 := BX0 1 _ rfl
            have c2 := BX0 2 _ rfl
            have c3 := BX0 3 _ rfl
            have c4 := BX0 4 _ rfl
            have c5 := BX0 5 _ rfl
            have c6 := BX0 6 _ rfl
            have c7 := BX0 7 _ rfl
            have c8 := BX0 8 _ rfl
            have c9 := BX0 9 _ rfl
            have c10 := BX0 10 _ rfl
            have c11 := BX0 11 _ rfl
            have c12 := BX0 12 _ rfl
            have c13 := BX0 13 _ rfl
            rw [HK.out] at c0
            clear BX0
            go_upto_region 2 with fail
            simp only [List.append]
            go_wp2_with fail
            refine (HB.out _).mono ?_
            rintro e w2 ⟨rfl, hbc2⟩
            have CA : Hid (∀ (i : Nat) v, ([.bool true, .bool false, .bool true, .bool false, .bool false, .bool false, .bool false] : List Value)[i]? = some v → w2.cell? ⟨w1.heap.size, i, none⟩ = some v) := fun i v h => (hbc2.cell (p := ⟨w1.heap.size, i, none⟩) (by simp)).trans (by rw [World.cell?_alloc_at _ _ _ _ rfl]; simpa using h)
            have BY : Hid (BoxS w2 w.heap.size s) := BoxS.below (fun i v h => (World.cell?_alloc_past _ _ _ hs1).trans (BX.out i v h)) hbc2 (by simp; omega)
            have HBM : Hid (Below w.heap.size w w2) := HBL.out.trans (hbc2.mono (by simp; omega))
            have hs2 : w1.heap.size < w2.heap.size := by have := hbc2.size; simp at this; omega
            clear hbc2 c0 c1 c2 c3 c4 c5 c6 c7 c8 c9 c10 c11 c12 c13
            have CA0 := CA.out
            have BY0 := BY.out
            have d0 := CA0 0 _ rfl
            have d1 := CA0 1 _ rfl
            have d2 := CA0 2 _ rfl
            have d3 := CA0 3 _ rfl
            have d4 := CA0 4 _ rfl
            have d5 := CA0 5 _ rfl
            have d6 := CA0 6 _ rfl
            have c0 := BY0 0 _ rfl
            have c1 := BY0 1 _ rfl
            have c2 := BY0 2 _ rfl
            have c3 := BY0 3 _ rfl
            have c4 := BY0 4 _ rfl
            have c5 := BY0 5 _ rfl
            have c6 := BY0 6 _ rfl
            have c7 := BY0 7 _ rfl
            have c8 := BY0 8 _ rfl
            have c9 := BY0 9 _ rfl
            have c10 := BY0 10 _ rfl
            have c11 := BY0 11 _ rfl
            have c12 := BY0 12 _ rfl
            have c13 := BY0 13 _ rfl
            rw [HK.out] at c0
            clear CA0 BY0
            go_wp2_with fail
            go_ret
            exact ⟨rfl, HBM.out⟩
set_option maxRecDepth 100000 in
set_option maxHeartbeats 4000000 in
theorem formed_5 (s : St) (w : World) (hk : s.kind = 5) : Calls Tryz.prog 54 #[s.val] w fun e w' => e = .returned (.bool ((s.name.toList == []) && (s.n == 0) && zeroE s.b && ((s.cases.length : Int) == 0))) ∧ Below w.heap.size w w' := by
  have HC : Hid (∀ w, Calls Tryz.prog 53 #[.int .i64 5] w fun e w' => e = .returned (.agg #[.bool false, .bool false, .bool true, .bool false, .bool true, .bool true, .bool false]) ∧ Below w.heap.size w w') := fun w => counts_any 5 w
  have HA : Hid (∀ w, Calls Tryz.prog 77 #[s.a.val] w fun e w' => e = .returned (.bool (zeroE s.a)) ∧ Below w.heap.size w w') := fun w => rzero_any s.a w
  have HB : Hid (∀ w, Calls Tryz.prog 77 #[s.b.val] w fun e w' => e = .returned (.bool (zeroE s.b)) ∧ Below w.heap.size w w') := fun w => rzero_any s.b w
  have hb0 := (Below.refl _ w).alloc (Nat.le_refl _) (.cells #[.int .i64 s.kind, .string s.name, .int .i64 s.n, .int .i64 s.a.kind, .int .i64 s.a.n, .string s.a.name, .slice s.a.a s.a.args.length s.a.cap, .int .i64 s.b.kind, .int .i64 s.b.n, .string s.b.name, .slice s.b.a s.b.args.length s.b.cap, .slice s.ba s.body.length s.bc, .slice s.ea s.els.length s.ec, .slice s.ca s.cases.length s.cc] 43)
  have BXN : Hid (BoxS _ w.heap.size s) := boxS_new w s
  unfold St.val
  unfold Ex.val at HA HB
  rw [hk] at BXN hb0 ⊢
  have HK : Hid (s.kind = 5) := hk
  clear hk
  cases t0 : (s.name.toList == [])
  · go_enter Tryz.func54, Tryz.ntmps54
    go_wp2_with fail
    refine (HC.out _).mono ?_
    rintro e w1 ⟨rfl, hb1⟩
    have BX : Hid (BoxS w1 w.heap.size s) := BXN.out.below hb1 (by simp)
    have hbl : Below w.heap.size w w1 := hb0.trans (hb1.mono (by simp))
    have hs1 : w.heap.size < w1.heap.size := by have := hb1.size; simp at this; omega
    clear hb1
    have HBL : Hid (Below w.heap.size w (w1.alloc (.cells #[.bool false, .bool false, .bool true, .bool false, .bool true, .bool true, .bool false] 95))) := hbl.alloc (by omega) _
    have BX0 := BX.out
    have c0 := BX0 0 _ rfl
    have c1 := BX0 1 _ rfl
    have c2 := BX0 2 _ rfl
    have c3 := BX0 3 _ rfl
    have c4 := BX0 4 _ rfl
    have c5 := BX0 5 _ rfl
    have c6 := BX0 6 _ rfl
    have c7 := BX0 7 _ rfl
    have c8 := BX0 8 _ rfl
    have c9 := BX0 9 _ rfl
    have c10 := BX0 10 _ rfl
    have c11 := BX0 11 _ rfl
    have c12 := BX0 12 _ rfl
    have c13 := BX0 13 _ rfl
    rw [HK.out] at c0
    clear BX0
    go_upto_region 2 with fail
    simp only [List.append]
    go_wp2_with fail
    go_ret
    exact ⟨rfl, HBL.out⟩
  · cases t1 : (s.n == 0)
    · go_enter Tryz.func54, Tryz.ntmps54
      go_wp2_with fail
      refine (HC.out _).mono ?_
      rintro e w1 ⟨rfl, hb1⟩
      have BX : Hid (BoxS w1 w.heap.size s) := BXN.out.below hb1 (by simp)
      have hbl : Below w.heap.size w w1 := hb0.trans (hb1.mono (by simp))
      have hs1 : w.heap.size < w1.heap.size := by have := hb1.size; simp at this; omega
      clear hb1
      have HBL : Hid (Below w.heap.size w (w1.alloc (.cells #[.bool false, .bool false, .bool true, .bool false, .bool true, .bool true, .bool false] 95))) := hbl.alloc (by omega) _
      have BX0 := BX.out
      have c0 := BX0 0 _ rfl
      have c1 := BX0 1 _ rfl
      have c2 := BX0 2 _ rfl
      have c3 := BX0 3 _ rfl
      have c4 := BX0 4 _ rfl
      have c5 := BX0 5 _ rfl
      have c6 := BX0 6 _ rfl
      have c7 := BX0 7 _ rfl
      have c8 := BX0 8 _ rfl
      have c9 := BX0 9 _ rfl
      have c10 := BX0 10 _ rfl
      have c11 := BX0 11 _ rfl
      have c12 := BX0 12 _ rfl
      have c13 := BX0 13 _ rfl
      rw [HK.out] at c0
      clear BX0
      go_upto_region 2 with fail
      simp only [List.append]
      go_wp2_with fail
      go_ret
      exact ⟨rfl, HBL.out⟩
    · cases t3 : zeroE s.b
      · rw [t3] at HB
        go_enter Tryz.func54, Tryz.ntmps54
        go_wp2_with fail
        refine (HC.out _).mono ?_
        rintro e w1 ⟨rfl, hb1⟩
        have BX : Hid (BoxS w1 w.heap.size s) := BXN.out.below hb1 (by simp)
        have hbl : Below w.heap.size w w1 := hb0.trans (hb1.mono (by simp))
        have hs1 : w.heap.size < w1.heap.size := by have := hb1.size; simp at this; omega
        clear hb1
        have HBL : Hid (Below w.heap.size w (w1.alloc (.cells #[.bool false, .bool false, .bool true, .bool false, .bool true, .bool true, .bool false] 95))) := hbl.alloc (by omega) _
        have BX0 := BX.out
        have c0 := BX0 0 _ rfl
        have c1 := BX0 1 _ rfl
        have c2 := BX0 2 _ rfl
        have c3 := BX0 3 _ rfl
        have c4 := BX0 4 _ rfl
        have c5 := BX0 5 _ rfl
        have c6 := BX0 6 _ rfl
        have c7 := BX0 7 _ rfl
        have c8 := BX0 8 _ rfl
        have c9 := BX0 9 _ rfl
        have c10 := BX0 10 _ rfl
        have c11 := BX0 11 _ rfl
        have c12 := BX0 12 _ rfl
        have c13 := BX0 13 _ rfl
        rw [HK.out] at c0
        clear BX0
        go_upto_region 2 with fail
        simp only [List.append]
        go_wp2_with fail
        refine (HB.out _).mono ?_
        rintro e w2 ⟨rfl, hbc2⟩
        have CA : Hid (∀ (i : Nat) v, ([.bool false, .bool false, .bool true, .bool false, .bool true, .bool true, .bool false] : List Value)[i]? = some v → w2.cell? ⟨w1.heap.size, i, none⟩ = some v) := fun i v h => (hbc2.cell (p := ⟨w1.heap.size, i, none⟩) (by simp)).trans (by rw [World.cell?_alloc_at _ _ _ _ rfl]; simpa using h)
        have BY : Hid (BoxS w2 w.heap.size s) := BoxS.below (fun i v h => (World.cell?_alloc_past _ _ _ hs1).trans (BX.out i v h)) hbc2 (by simp; omega)
        have HBM : Hid (Below w.heap.size w w2) := HBL.out.trans (hbc2.mono (by simp; omega))
        have hs2 : w1.heap.size < w2.heap.size := by have := hbc2.size; simp at this; omega
        clear hbc2 c0 c1 c2 c3 c4 c5 c6 c7 c8 c9 c10 c11 c12 c13
        have CA0 := CA.out
        have BY0 := BY.out
        have d0 := CA0 0 _ rfl
        have d1 := CA0 1 _ rfl
        have d2 := CA0 2 _ rfl
        have d3 := CA0 3 _ rfl
        have d4 := CA0 4 _ rfl
        have d5 := CA0 5 _ rfl
        have d6 := CA0 6 _ rfl
        have c0 := BY0 0 _ rfl
        have c1 := BY0 1 _ rfl
        have c2 := BY0 2 _ rfl
        have c3 := BY0 3 _ rfl
        have c4 := BY0 4 _ rfl
        have c5 := BY0 5 _ rfl
        have c6 := BY0 6 _ rfl
        have c7 := BY0 7 _ rfl
        have c8 := BY0 8 _ rfl
        have c9 := BY0 9 _ rfl
        have c10 := BY0 10 _ rfl
        have c11 := BY0 11 _ rfl
        have c12 := BY0 12 _ rfl
        have c13 := BY0 13 _ rfl
        rw [HK.out] at c0
        clear CA0 BY0
        go_wp2_with fail
        go_ret
        exact ⟨rfl, HBM.out⟩
      · rw [t3] at HB
        cases t6 : ((s.cases.length : Int) == 0)
        · go_enter Tryz.func54, Tryz.ntmps54
          go_wp2_with fail
          refine (HC.out _).mono ?_
          rintro e w1 ⟨rfl, hb1⟩
          have BX : Hid (BoxS w1 w.heap.size s) := BXN.out.below hb1 (by simp)
          have hbl : Below w.heap.size w w1 := hb0.trans (hb1.mono (by simp))
          have hs1 : w.heap.size < w1.heap.size := by have := hb1.size; simp at this; omega
          clear hb1
          have HBL : Hid (Below w.heap.size w (w1.alloc (.cells #[.bool false, .bool false, .bool true, .bool false, .bool true, .bool true, .bool false] 95))) := hbl.alloc (by omega) _
          have BX0 := BX.out
          have c0 := BX0 0 _ rfl
          have c1 := BX0 1 _ rfl
          have c2 := BX0 2 _ rfl
          have c3 := BX0 3 _ rfl
          have c4 := BX0 4 _ rfl
          have c5 := BX0 5 _ rfl
          have c6 := BX0 6 _ rfl
          have c7 := BX0 7 _ rfl
          have c8 := BX0 8 _ rfl
          have c9 := BX0 9 _ rfl
          have c10 := BX0 10 _ rfl
          have c11 := BX0 11 _ rfl
          have c12 := BX0 12 _ rfl
          have c13 := BX0 13 _ rfl
          rw [HK.out] at c0
          clear BX0
          go_upto_region 2 with fail
          simp only [List.append]
          go_wp2_with fail
          refine (HB.out _).mono ?_
          rintro e w2 ⟨rfl, hbc2⟩
          have CA : Hid (∀ (i : Nat) v, ([.bool false, .bool false, .bool true, .bool false, .bool true, .bool true, .bool false] : List Value)[i]? = some v → w2.cell? ⟨w1.heap.size, i, none⟩ = some v) := fun i v h => (hbc2.cell (p := ⟨w1.heap.size, i, none⟩) (by simp)).trans (by rw [World.cell?_alloc_at _ _ _ _ rfl]; simpa using h)
          have BY : Hid (BoxS w2 w.heap.size s) := BoxS.below (fun i v h => (World.cell?_alloc_past _ _ _ hs1).trans (BX.out i v h)) hbc2 (by simp; omega)
          have HBM : Hid (Below w.heap.size w w2) := HBL.out.trans (hbc2.mono (by simp; omega))
          have hs2 : w1.heap.size < w2.heap.size := by have := hbc2.size; simp at this; omega
          clear hbc2 c0 c1 c2 c3 c4 c5 c6 c7 c8 c9 c10 c11 c12 c13
          have CA0 := CA.out
          have BY0 := BY.out
          have d0 := CA0 0 _ rfl
          have d1 := CA0 1 _ rfl
          have d2 := CA0 2 _ rfl
          have d3 := CA0 3 _ rfl
          have d4 := CA0 4 _ rfl
          have d5 := CA0 5 _ rfl
          have d6 := CA0 6 _ rfl
          have c0 := BY0 0 _ rfl
          have c1 := BY0 1 _ rfl
          have c2 := BY0 2 _ rfl
          have c3 := BY0 3 _ rfl
          have c4 := BY0 4 _ rfl
          have c5 := BY0 5 _ rfl
          have c6 := BY0 6 _ rfl
          have c7 := BY0 7 _ rfl
          have c8 := BY0 8 _ rfl
          have c9 := BY0 9 _ rfl
          have c10 := BY0 10 _ rfl
          have c11 := BY0 11 _ rfl
          have c12 := BY0 12 _ rfl
          have c13 := BY0 13 _ rfl
          rw [HK.out] at c0
          clear CA0 BY0
          go_wp2_with fail
          go_ret
          exact ⟨rfl, HBM.out⟩
        · go_enter Tryz.func54, Tryz.ntmps54
          go_wp2_with fail
          refine (HC.out _).mono ?_
          rintro e w1 ⟨rfl, hb1⟩
          have BX : Hid (BoxS w1 w.heap.size s) := BXN.out.below hb1 (by simp)
          have hbl : Below w.heap.size w w1 := hb0.trans (hb1.mono (by simp))
          have hs1 : w.heap.size < w1.heap.size := by have := hb1.size; simp at this; omega
          clear hb1
          have HBL : Hid (Below w.heap.size w (w1.alloc (.cells #[.bool false, .bool false, .bool true, .bool false, .bool true, .bool true, .bool false] 95))) := hbl.alloc (by omega) _
          have BX0 := BX.out
          have c0 := BX0 0 _ rfl
          have c1 := BX0 1 _ rfl
          have c2 := BX0 2 _ rfl
          have c3 := BX0 3 _ rfl
          have c4 := BX0 4 _ rfl
          have c5 := BX0 5 _ rfl
          have c6 := BX0 6 _ rfl
          have c7 := BX0 7 _ rfl
          have c8 := BX0 8 _ rfl
          have c9 := BX0 9 _ rfl
          have c10 := BX0 10 _ rfl
          have c11 := BX0 11 _ rfl
          have c12 := BX0 12 _ rfl
          have c13 := BX0 13 _ rfl
          rw [HK.out] at c0
          clear BX0
          go_upto_region 2 with fail
          simp only [List.append]
          go_wp2_with fail
          refine (HB.out _).mono ?_
          rintro e w2 ⟨rfl, hbc2⟩
          have CA : Hid (∀ (i : Nat) v, ([.bool false, .bool false, .bool true, .bool false, .bool true, .bool true, .bool false] : List Value)[i]? = some v → w2.cell? ⟨w1.heap.size, i, none⟩ = some v) := fun i v h => (hbc2.cell (p := ⟨w1.heap.size, i, none⟩) (by simp)).trans (by rw [World.cell?_alloc_at _ _ _ _ rfl]; simpa using h)
          have BY : Hid (BoxS w2 w.heap.size s) := BoxS.below (fun i v h => (World.cell?_alloc_past _ _ _ hs1).trans (BX.out i v h)) hbc2 (by simp; omega)
          have HBM : Hid (Below w.heap.size w w2) := HBL.out.trans (hbc2.mono (by simp; omega))
          have hs2 : w1.heap.size < w2.heap.size := by have := hbc2.size; simp at this; omega
          clear hbc2 c0 c1 c2 c3 c4 c5 c6 c7 c8 c9 c10 c11 c12 c13
          have CA0 := CA.out
          have BY0 := BY.out
          have d0 := CA0 0 _ rfl
          have d1 := CA0 1 _ rfl
          have d2 := CA0 2 _ rfl
          have d3 := CA0 3 _ rfl
          have d4 := CA0 4 _ rfl
          have d5 := CA0 5 _ rfl
          have d6 := CA0 6 _ rfl
          have c0 := BY0 0 _ rfl
          have c1 := BY0 1 _ rfl
          have c2 := BY0 2 _ rfl
          have c3 := BY0 3 _ rfl
          have c4 := BY0 4 _ rfl
          have c5 := BY0 5 _ rfl
          have c6 := BY0 6 _ rfl
          have c7 := BY0 7 _ rfl
          have c8 := BY0 8 _ rfl
          have c9 := BY0 9 _ rfl
          have c10 := BY0 10 _ rfl
          have c11 := BY0 11 _ rfl
          have c12 := BY0 12 _ rfl
          have c13 := BY0 13 _ rfl
          rw [HK.out] at c0
          clear CA0 BY0
          go_wp2_with fail
          go_ret
          exact ⟨rfl, HBM.out⟩
end Go.Proofs.YtbpemackmadhgaaGreatDoor
