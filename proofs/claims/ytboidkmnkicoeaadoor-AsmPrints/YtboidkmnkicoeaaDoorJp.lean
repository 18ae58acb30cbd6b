/- The document's own: an instruction's line. -/
import Derived.Test.YtboidkmnkicoeaaDoorYc
import Derived.Test.YtboidkmnkicoeaaDoorCb
import Derived.Test.YtboidkmnkicoeaaDoorYe
import Derived.Test.YtboidkmnkicoeaaDoorYw
import Derived.Test.YtboidkmnkicoeaaDoorYd
import Derived.Test.YtboidkmnkicoeaaDoorYg
import Derived.Test.YtboidkmnkicoeaaDoorDd
import Derived.Deep.RegionHeldLaw
import Derived.Lib.SmallJoins
namespace Go.Proofs.YtboidkmnkicoeaaDoor
open Go.RowKit Go.Sort

theorem itoa_any (n : Int) (w : World) (hn : I64 n) (h : Env w) : Calls Tryd.prog 17 #[.int .i64 n] w fun e w' => e = .returned (.string (tb (Lib.itoa n))) ∧ Below w.heap.size w w' :=
  (Tryd.strconv_Itoa n hn.1 hn.2 w h.num).mono fun _ _ ⟨he, k, os, hw⟩ => ⟨he, hw ▸ below_grow w k os⟩
theorem word_size {op : Int} : (rwOf op).word.size ≤ 6 := by
  by_cases h : 0 ≤ op ∧ op ≤ 19
  · refine op_cases (P := fun op => (rwOf op).word.size ≤ 6) h.1 h.2 ?_ ?_ ?_ ?_ ?_ ?_ ?_ ?_ ?_ ?_ ?_ ?_ ?_ ?_ ?_ ?_ ?_ ?_ ?_ ?_ <;> decide
  · rw [rwOf_no h]; decide
/-- A text of an instruction by the fields that it has. -/
theorem insT_b (x : Is) : insT x = (((((rwOf x.op).word.data.toList ++ if bt (rwOf x.op).regs 0 then numT x.a else []) ++ if bt (rwOf x.op).regs 1 then numT x.b else []) ++ if bt (rwOf x.op).regs 2 then numT x.c else []) ++ if (rwOf x.op).n != 0 then numT x.n else []) ++ [10] := by
  unfold insT lineT insL hasL
  cases bt (rwOf x.op).regs 0 <;> cases bt (rwOf x.op).regs 1 <;> cases bt (rwOf x.op).regs 2 <;> cases ((rwOf x.op).n != 0) <;> simp [getF]
theorem opt_text {S A : ByteArray} {l : Bt} {n : Int} (hS : S = tb l) (hA : A = tb (Lib.itoa n)) : S ++ ⟨#[32]⟩ ++ A = tb (l ++ numT n) := by
  subst hS; subst hA
  show tb l ++ tb [32] ++ tb (Lib.itoa n) = _
  rw [tb_app, tb_app]
  simp [numT]
theorem end_text {S : ByteArray} {l : Bt} (hS : S = tb l) : S ++ ⟨#[10]⟩ = tb (l ++ [10]) := by
  subst hS
  show tb l ++ tb [10] = _
  rw [tb_app]
set_option maxRecDepth 100000 in
set_option maxHeartbeats 8000000 in
theorem rline_any (x : Is) (hx : x.Ok) (w : World) (h : Env w) : Calls Tryd.prog 18 #[x.val] w fun e w' => e = .returned (.string (tb (insT x))) ∧ Below w.heap.size w w' := by
  obtain ⟨o0, o1, o2, o3, o4⟩ := hx
  have hb0 := Below.one (Below.refl _ w) (.cells #[.int .i64 x.op, .int .i64 x.a, .int .i64 x.b, .int .i64 x.c, .int .i64 x.n] 53)
  have xr := heap_alloc_new w (.cells #[.int .i64 x.op, .int .i64 x.a, .int .i64 x.b, .int .i64 x.c, .int .i64 x.n] 53)
  have HT := Hid.mk' (insT_b x)
  have HH := Hid.mk' (rhas_any x.op)
  have HW := Hid.mk' (rword_any x.op)
  have hws := word_size (op := x.op)
  have HIA : Hid (∀ w', Below w.heap.size w w' → Calls Tryd.prog 17 #[.int .i64 x.a] w' fun e w'' => e = .returned (.string (tb (Lib.itoa x.a))) ∧ Below w'.heap.size w' w'') := fun w' hb => itoa_any x.a w' o1 (h.stay hb)
  have HIB : Hid (∀ w', Below w.heap.size w w' → Calls Tryd.prog 17 #[.int .i64 x.b] w' fun e w'' => e = .returned (.string (tb (Lib.itoa x.b))) ∧ Below w'.heap.size w' w'') := fun w' hb => itoa_any x.b w' o2 (h.stay hb)
  have HIC : Hid (∀ w', Below w.heap.size w w' → Calls Tryd.prog 17 #[.int .i64 x.c] w' fun e w'' => e = .returned (.string (tb (Lib.itoa x.c))) ∧ Below w'.heap.size w' w'') := fun w' hb => itoa_any x.c w' o3 (h.stay hb)
  have HIN : Hid (∀ w', Below w.heap.size w w' → Calls Tryd.prog 16 #[.int .i64 x.n, .int .i64 10] w' fun e w'' => e = .returned (.string (tb (Lib.itoa x.n))) ∧ Below w'.heap.size w' w'') := fun w' hb => format_any x.n w' o4 (h.stay hb)
  have sa : (tb (Lib.itoa x.a)).size ≤ 21 := by rw [tb_size]; exact itoa_len o1
  have sb : (tb (Lib.itoa x.b)).size ≤ 21 := by rw [tb_size]; exact itoa_len o2
  have sc : (tb (Lib.itoa x.c)).size ≤ 21 := by rw [tb_size]; exact itoa_len o3
  have sn : (tb (Lib.itoa x.n)).size ≤ 21 := by rw [tb_size]; exact itoa_len o4
  unfold hasV at HH
  generalize hA : tb (Lib.itoa x.a) = A at *
  generalize hB : tb (Lib.itoa x.b) = B at *
  generalize hC : tb (Lib.itoa x.c) = C at *
  generalize hN : tb (Lib.itoa x.n) = M at *
  generalize (rwOf x.op).word = S at *
  generalize bt (rwOf x.op).regs 0 = b0 at *
  generalize bt (rwOf x.op).regs 1 = b1 at *
  generalize bt (rwOf x.op).regs 2 = b2 at *
  generalize ((rwOf x.op).n != 0) = b3 at *
  have HAB := Hid.mk' (And.intro hA (And.intro hB (And.intro hC hN)))
  have HB := Hid.mk' hb0
  have HX := Hid.mk' xr
  have x0 := cell_of_obj xr (j := 0) (v := .int .i64 x.op) rfl
  clear hA hB hC hN o0 o1 o2 o3 o4 h xr hb0
  unfold Is.val
  go_enter Tryd.func18, Tryd.ntmps18
  go_wp2_with fail
  generalize w.alloc (.cells #[.int .i64 x.op, .int .i64 x.a, .int .i64 x.b, .int .i64 x.c, .int .i64 x.n] 53) = W0 at *
  refine (HH.out _).mono ?_
  rintro e W1 ⟨rfl, hb1⟩
  have hb2 := Below.one hb1 (.cells #[.bool b0, .bool b1, .bool b2, .bool b3] 82)
  have HY := Hid.mk' (heap_alloc_new W1 (.cells #[.bool b0, .bool b1, .bool b2, .bool b3] 82))
  replace HX := Hid.mk' ((hb2.block _ (Array.getElem?_eq_some_iff.1 HX.out).1).trans HX.out)
  replace HB := Hid.mk' (Below.on HB.out hb2)
  replace x0 := cell_of_obj HX.out (j := 0) (v := .int .i64 x.op) rfl
  clear hb1 hb2 HH
  go_wp2_with fail
  generalize W1.heap.size = G at *
  generalize W1.alloc (.cells #[.bool b0, .bool b1, .bool b2, .bool b3] 82) = W2 at *
  refine (HW.out _).mono ?_
  rintro e W3 ⟨rfl, hb3⟩
  replace HX := Hid.mk' ((hb3.block _ (Array.getElem?_eq_some_iff.1 HX.out).1).trans HX.out)
  replace HY := Hid.mk' ((hb3.block _ (Array.getElem?_eq_some_iff.1 HY.out).1).trans HY.out)
  replace HB := Hid.mk' (Below.on HB.out hb3)
  clear hb3 HW x0
  have y0 := cell_of_obj HY.out (j := 0) (v := .bool b0) rfl
  have y1 := cell_of_obj HY.out (j := 1) (v := .bool b1) rfl
  have y2 := cell_of_obj HY.out (j := 2) (v := .bool b2) rfl
  have y3 := cell_of_obj HY.out (j := 3) (v := .bool b3) rfl
  have x1 := cell_of_obj HX.out (j := 1) (v := .int .i64 x.a) rfl
  have x2 := cell_of_obj HX.out (j := 2) (v := .int .i64 x.b) rfl
  have x3 := cell_of_obj HX.out (j := 3) (v := .int .i64 x.c) rfl
  have x4 := cell_of_obj HX.out (j := 4) (v := .int .i64 x.n) rfl
  cases b0 <;> cases b1 <;> cases b2 <;> cases b3
  all_goals
    go_wp2_with (first
      | (go_at_call 17; with_reducible refine (HIA.out _ HB.out).mono ?_; rintro e Wn ⟨rfl, hbn⟩; replace HX := Hid.mk' ((hbn.block _ (Array.getElem?_eq_some_iff.1 HX.out).1).trans HX.out); replace HY := Hid.mk' ((hbn.block _ (Array.getElem?_eq_some_iff.1 HY.out).1).trans HY.out); replace HB := Hid.mk' (Below.on HB.out hbn); clear hbn; have y1 := cell_of_obj HY.out (j := 1) (v := .bool _) rfl; have y2 := cell_of_obj HY.out (j := 2) (v := .bool _) rfl; have y3 := cell_of_obj HY.out (j := 3) (v := .bool _) rfl; have x2 := cell_of_obj HX.out (j := 2) (v := .int .i64 x.b) rfl; have x3 := cell_of_obj HX.out (j := 3) (v := .int .i64 x.c) rfl; have x4 := cell_of_obj HX.out (j := 4) (v := .int .i64 x.n) rfl)
      | (go_at_call 17; with_reducible refine (HIB.out _ HB.out).mono ?_; rintro e Wn ⟨rfl, hbn⟩; replace HX := Hid.mk' ((hbn.block _ (Array.getElem?_eq_some_iff.1 HX.out).1).trans HX.out); replace HY := Hid.mk' ((hbn.block _ (Array.getElem?_eq_some_iff.1 HY.out).1).trans HY.out); replace HB := Hid.mk' (Below.on HB.out hbn); clear hbn; have y1 := cell_of_obj HY.out (j := 1) (v := .bool _) rfl; have y2 := cell_of_obj HY.out (j := 2) (v := .bool _) rfl; have y3 := cell_of_obj HY.out (j := 3) (v := .bool _) rfl; have x2 := cell_of_obj HX.out (j := 2) (v := .int .i64 x.b) rfl; have x3 := cell_of_obj HX.out (j := 3) (v := .int .i64 x.c) rfl; have x4 := cell_of_obj HX.out (j := 4) (v := .int .i64 x.n) rfl)
      | (go_at_call 17; with_reducible refine (HIC.out _ HB.out).mono ?_; rintro e Wn ⟨rfl, hbn⟩; replace HX := Hid.mk' ((hbn.block _ (Array.getElem?_eq_some_iff.1 HX.out).1).trans HX.out); replace HY := Hid.mk' ((hbn.block _ (Array.getElem?_eq_some_iff.1 HY.out).1).trans HY.out); replace HB := Hid.mk' (Below.on HB.out hbn); clear hbn; have y1 := cell_of_obj HY.out (j := 1) (v := .bool _) rfl; have y2 := cell_of_obj HY.out (j := 2) (v := .bool _) rfl; have y3 := cell_of_obj HY.out (j := 3) (v := .bool _) rfl; have x2 := cell_of_obj HX.out (j := 2) (v := .int .i64 x.b) rfl; have x3 := cell_of_obj HX.out (j := 3) (v := .int .i64 x.c) rfl; have x4 := cell_of_obj HX.out (j := 4) (v := .int .i64 x.n) rfl)
      | (go_at_call 16; with_reducible refine (HIN.out _ HB.out).mono ?_; rintro e Wn ⟨rfl, hbn⟩; replace HX := Hid.mk' ((hbn.block _ (Array.getElem?_eq_some_iff.1 HX.out).1).trans HX.out); replace HY := Hid.mk' ((hbn.block _ (Array.getElem?_eq_some_iff.1 HY.out).1).trans HY.out); replace HB := Hid.mk' (Below.on HB.out hbn); clear hbn; have y1 := cell_of_obj HY.out (j := 1) (v := .bool _) rfl; have y2 := cell_of_obj HY.out (j := 2) (v := .bool _) rfl; have y3 := cell_of_obj HY.out (j := 3) (v := .bool _) rfl; have x2 := cell_of_obj HX.out (j := 2) (v := .int .i64 x.b) rfl; have x3 := cell_of_obj HX.out (j := 3) (v := .int .i64 x.c) rfl; have x4 := cell_of_obj HX.out (j := 4) (v := .int .i64 x.n) rfl))
    go_ret
    refine ⟨retS ?_, HB.out⟩
    obtain ⟨hA, hB, hC, hN⟩ := HAB.out
    replace hA := hA.symm
    replace hB := hB.symm
    replace hC := hC.symm
    replace hN := hN.symm
    have hS : S = tb S.data.toList := (tb_of S).symm
    rw [HT.out]
    simp only [if_true, if_false, Bool.false_eq_true, List.append_nil]
    refine end_text ?_
    repeat (first | exact hS | refine opt_text ?_ hN | refine opt_text ?_ hC | refine opt_text ?_ hB | refine opt_text ?_ hA)
end Go.Proofs.YtboidkmnkicoeaaDoor

/- The document's own Print: bytes of the call's own; the thresholds' line. -/
namespace Go.Proofs.YtboidkmnkicoeaaDoor
open Go.RowKit Go.Sort

def u8C (l : Bt) : List Value := l.map fun b => .int .u8 b.toNat
theorem u8C_str (l : Bt) : Lib.strCells (tb l) = u8C l := rfl
theorem u8C_app (a b : Bt) : u8C (a ++ b) = u8C a ++ u8C b := by simp [u8C]
theorem u8C_len (a : Bt) : (u8C a).length = a.length := by simp [u8C]
/-- Bytes of the call's own, since W0. -/
structure Bf (W0 : World) (acc : Bt) (v : Value) (W : World) : Prop where
  b : Below W0.heap.size W0 W
  o : W.ownsRow W0.heap.size 5 1 v acc.length (u8C acc)
theorem Bf.stay {W0 W W' : World} {acc : Bt} {v : Value} (h : Bf W0 acc v W) (hb : Below W.heap.size W W') : Bf W0 acc v W' := ⟨Below.on h.b hb, own_stay h.o hb⟩
theorem Bf.more {W0 W W' : World} {acc l : Bt} {v v' : Value} (h : Bf W0 acc v W) (hg : W.grownBy W' v.ownBlock) (ho : W'.ownsRow W0.heap.size 5 1 v' (acc.length + l.length) (u8C acc ++ u8C l)) : Bf W0 (acc ++ l) v' W' := by
  refine ⟨h.b.grown hg h.b.size (fun k e => own_base h.o k e), ?_⟩
  rw [List.length_append, u8C_app]
  exact ho
theorem Bf.new (W0 : World) (l : Bt) (h : l.length ≤ 1000) : Bf W0 l (.slice (some ⟨W0.heap.size, 0, none⟩) l.length l.length) (W0.alloc (.cells (u8C l).toArray 5)) := by
  refine ⟨Below.one (Below.refl _ W0) _, by rw [u8C_len, Nat.mul_one], .inr ⟨W0.heap.size, l.length, (u8C l).toArray, rfl, Nat.le_refl _, heap_alloc_new W0 _, Nat.le_refl _, by unfold maxLen; omega, by simp [u8C_len], by rw [List.toList_toArray, Nat.mul_one, List.take_of_length_le (by rw [u8C_len]; exact Nat.le_refl _)]⟩⟩
theorem Bf.form {W0 W : World} {acc : Bt} {v : Value} (h : Bf W0 acc v W) : ∃ a c, v = .slice a acc.length c := gown_form h.o
end Go.Proofs.YtboidkmnkicoeaaDoor

/- The document's own Print: bytes of the call's own, a row that is full among them; what lies where. -/
namespace Go.Proofs.YtboidkmnkicoeaaDoor
open Go.RowKit Go.Sort

abbrev Ob (N : Nat) (acc : Bt) (v : Value) (W : World) : Prop := W.ownsRow N 5 1 v acc.length (u8C acc)
/-- Bytes that may be read and added to: a row of the call's own, or one that is full. -/
def Oc (N : Nat) (acc : Bt) (v : Value) (W : World) : Prop := Ob N acc v W ∨ ∃ g, v = .slice (some ⟨g, 0, none⟩) acc.length acc.length ∧ N ≤ g ∧ ∃ cs fz, W.heap[g]? = some (.cells cs 5 fz) ∧ cs.toList = u8C acc
theorem blk_stay {W W' : World} {k : Nat} {o : Obj} (h : W.heap[k]? = some o) (hb : Below W.heap.size W W') : W'.heap[k]? = some o := (hb.block _ (Array.getElem?_eq_some_iff.1 h).1).trans h
theorem Oc.stay {N : Nat} {acc : Bt} {v : Value} {W W' : World} (h : Oc N acc v W) (hb : Below W.heap.size W W') : Oc N acc v W' := by
  rcases h with h | ⟨g, e, hN, cs, fz, hg, hc⟩
  · exact .inl (own_stay h hb)
  · exact .inr ⟨g, e, hN, cs, fz, blk_stay hg hb, hc⟩
theorem Oc.form {N : Nat} {acc : Bt} {v : Value} {W : World} (h : Oc N acc v W) : ∃ a c, v = .slice a acc.length c := by
  rcases h with h | ⟨g, e, _⟩
  · exact gown_form h
  · exact ⟨_, _, e⟩
/-- What an append to bytes leaves as it was. -/
structure Gr (N : Nat) (W W' : World) : Prop where
  b : ∀ w : World, w.heap.size = N → Below N w W → Below N w W'
  o : ∀ (k : Nat) (cs : Array Value) (T : TypeId) (fz : Nat × Nat), W.heap[k]? = some (.cells cs T fz) → T ≠ 5 → W'.heap[k]? = some (.cells cs T fz)
  s : W.heap.size ≤ W'.heap.size
theorem Gr.of {N n : Nat} {v : Value} {xs : List Value} {W W' : World} (h : W.ownsRow N 5 1 v n xs) (hg : W.grownBy W' v.ownBlock) : Gr N W W' :=
  ⟨fun _ hw hb => hb.grown hg (hw ▸ hb.size) (fun k e => own_base h k e), fun _ _ _ _ hk hT => grown_other h hg hk hT.symm, hg.size⟩
theorem Gr.none {N : Nat} {W W' : World} (hg : W.grownBy W' none) : Gr N W W' :=
  ⟨fun _ hw hb => hb.grown hg (hw ▸ hb.size) (fun _ e => by cases e), fun k _ _ _ hk _ => (hg.block k (Array.getElem?_eq_some_iff.1 hk).1 (by simp)).trans hk, hg.size⟩
theorem u8C_at {acc : Bt} {j : Nat} {u : Value} (h : (u8C acc)[j]? = some u) : ∃ hj : j < acc.length, u = .int .u8 (acc[j].toNat : Int) := by
  have hj := (List.getElem?_eq_some_iff.1 h).1
  rw [u8C_len] at hj
  refine ⟨hj, ?_⟩
  simp [u8C, List.getElem?_eq_getElem hj] at h
  exact h.symm
theorem full_grown {W : World} {N m : Nat} {z : Value} (xs ys : List Value) (hz : z.cells.size = 1) (hN : N ≤ W.heap.size) (hm : xs.length + ys.length = m) (h63 : m ≤ maxLen) (old : Nat) :
    (W.drew.alloc (.cells (xs.toArray ++ ys.toArray ++ Builtin.zeroCells z.cells (grownCap W m old 5 - m)) 5)).ownsRow N 5 1 (.slice (some ⟨W.heap.size, 0, Option.none⟩) m (grownCap W m old 5)) m (xs ++ ys) ∧
    W.grownBy (W.drew.alloc (.cells (xs.toArray ++ ys.toArray ++ Builtin.zeroCells z.cells (grownCap W m old 5 - m)) 5)) Option.none := by
  have hge := grownCap_ge W m old 5
  have hcm : grownCap W m old 5 ≤ maxLen := grownCap_le_maxLen W m old 5 h63
  refine ⟨⟨by rw [List.length_append, Nat.mul_one]; exact hm, .inr ⟨W.heap.size, _, _, rfl, hN, heap_alloc_new W.drew _, hge, hcm, ?_, ?_⟩⟩, ⟨rfl, rfl, rfl, by simp, fun k hk _ => Below.heap_alloc W.drew _ k hk⟩⟩
  · simp only [Array.size_append, List.size_toArray, size_zeroCells, hz]
    omega
  · simp only [Array.toList_append, List.append_assoc]
    rw [← List.append_assoc, Nat.mul_one, ← hm, ← List.length_append]
    exact List.take_left
theorem Oc.cells {N : Nat} {acc : Bt} {v : Value} {W : World} (h : Oc N acc v W) (h0 : 0 < acc.length) : ∃ g c, v = .slice (some ⟨g, 0, Option.none⟩) acc.length c ∧ ∀ j u, (u8C acc)[j]? = some u → W.cell? ((⟨g, 0, Option.none⟩ : Addr).add j) = some u := by
  rcases h with h | ⟨g, e, _, cs, fz, hg, hc⟩
  · rcases h.2 with ⟨_, hz⟩ | ⟨g, cap, cur, rfl, _⟩
    · omega
    · exact ⟨g, cap, rfl, h.cells rfl⟩
  · refine ⟨g, _, e, fun j u hu => ?_⟩
    rw [← hc, Array.getElem?_toList] at hu
    have : W.cell? ⟨g, j, Option.none⟩ = some u := cell_of_obj hg hu
    simpa [Addr.add_lit] using this
theorem oc_app_str {N : Nat} {acc l : Bt} {v : Value} {W : World} (h : Oc N acc v W) (hl : 0 < l.length) (ha : 0 < acc.length) (hb : acc.length + l.length ≤ 100000000) (hN : N ≤ W.heap.size) (ty : TypeId) :
    ∃ v' W', (Builtin.append_ #[46, 9] ty #[v, .string (tb l)]).run Tryd.prog W = .ok v' W' ∧ Ob N (acc ++ l) v' W' ∧ Gr N W W' := by
  obtain ⟨i0, hi, hz0, hz1, hz2⟩ := info_parts Tryd.infoByte
  have hs := tb_size l
  have e1 : ∀ {v' : Value} {W' : World}, W'.ownsRow N 5 1 v' (acc.length + (tb l).size) (u8C acc ++ Lib.strCells (tb l)) → Ob N (acc ++ l) v' W' := fun h => by
    unfold Ob; rw [List.length_append, u8C_app, ← u8C_str, ← hs]; exact h
  rcases h with h | ⟨g, e, hg, cs, fz, hgb, hc⟩
  · obtain ⟨v', W', hr, h2, h3, _⟩ := Lib.run_append_own_string (P := Tryd.prog) W N 46 9 ty 5 i0 Tryd.underlying46 Tryd.underlying9 hi hz0 hz1 hz2 v _ _ h (tb l) (by unfold maxLen; omega) (by omega) hN
    exact ⟨v', W', hr, e1 h2, Gr.of h h3⟩
  · subst e
    obtain ⟨g', c', e', hcl⟩ := Oc.cells (N := N) (acc := acc) (v := .slice (some ⟨g, 0, Option.none⟩) acc.length acc.length) (W := W) (.inr ⟨g, rfl, hg, cs, fz, hgb, hc⟩) ha
    injection e' with e' _ _
    injection e' with e'
    injection e' with e'
    subst e'
    have hr := Lib.run_append_grow_string (P := Tryd.prog) W 46 9 ty 5 i0 (.int .u8 0) Tryd.underlying46 Tryd.underlying9 hi hz0 ⟨g, 0, Option.none⟩ acc.length acc.length (u8C acc) (by rw [hz1, u8C_len, Nat.mul_one]) hcl (tb l) (by omega) (by omega) (by rw [hz2]; exact growslice_fits (by omega) (by omega))
    obtain ⟨a1, a2⟩ := full_grown (W := W) (N := N) (m := acc.length + (tb l).size) (z := .int .u8 0) (u8C acc) (Lib.strCells (tb l)) rfl hN (by rw [u8C_len, Lib.strCells_length]) (by unfold maxLen; omega) acc.length
    exact ⟨_, _, hr, e1 a1, Gr.none a2⟩
theorem oc_app_one {N : Nat} {acc : Bt} {v : Value} {W : World} (h : Oc N acc v W) (ha : 0 < acc.length) (hb : acc.length + 1 ≤ 100000000) (hN : N ≤ W.heap.size) (ty : TypeId) (b : UInt8) (ad : Addr) (hc : W.cell? ad = some (.int .u8 b.toNat)) :
    ∃ v' W', (Builtin.append_ #[46, 46] ty #[v, .slice (some ad) 1 1]).run Tryd.prog W = .ok v' W' ∧ Ob N (acc ++ [b]) v' W' ∧ Gr N W W' := by
  obtain ⟨i0, hi, hz0, hz1, hz2⟩ := info_parts Tryd.infoByte
  have e1 : ∀ {v' : Value} {W' : World}, W'.ownsRow N 5 1 v' (acc.length + 1) (u8C acc ++ [.int .u8 b.toNat]) → Ob N (acc ++ [b]) v' W' := fun h => by
    unfold Ob; rw [List.length_append, u8C_app]; exact h
  have hnw : ∀ j u, ([.int .u8 b.toNat] : List Value)[j]? = some u → W.cell? (ad.add j) = some u := fun j u hu => by
    match j, hu with
    | 0, hu => cases hu; have : ad.add 0 = ad := by cases ad; simp [Addr.add]
               rw [this]; exact hc
  rcases h with h | ⟨g, e, hg, cs, fz, hgb, hc⟩
  · obtain ⟨v', W', hr, h2, h3, _⟩ := run_append_own (P := Tryd.prog) W N 46 ty 5 i0 (.int .u8 0) 1 1 Tryd.underlying46 hi hz0 hz1 hz2 rfl (by decide) v _ _ h ad 1 1 [.int .u8 b.toNat] rfl hnw (fun u hu => by simp at hu; subst hu; rfl) (by unfold maxLen; omega) (by omega) hN
    exact ⟨v', W', hr, e1 h2, Gr.of h h3⟩
  · subst e
    obtain ⟨g', c', e', hcl⟩ := Oc.cells (N := N) (acc := acc) (v := .slice (some ⟨g, 0, Option.none⟩) acc.length acc.length) (W := W) (.inr ⟨g, rfl, hg, cs, fz, hgb, hc⟩) ha
    injection e' with e' _ _
    injection e' with e'
    injection e' with e'
    subst e'
    have hr := run_append_grow (P := Tryd.prog) W 46 ty 5 i0 (.int .u8 0) Tryd.underlying46 hi hz0 ⟨g, 0, Option.none⟩ acc.length acc.length (u8C acc) (by rw [hz1, u8C_len, Nat.mul_one]) hcl ad 1 1 [.int .u8 b.toNat] (by rw [hz1]; rfl) hnw (by omega) (by omega) (by rw [hz2]; exact growslice_fits (by omega) (by omega))
    obtain ⟨a1, a2⟩ := full_grown (W := W) (N := N) (m := acc.length + 1) (z := .int .u8 0) (u8C acc) [.int .u8 b.toNat] rfl hN (by rw [u8C_len]; rfl) (by unfold maxLen; omega) acc.length
    exact ⟨_, _, hr, e1 a1, Gr.none a2⟩
theorem wpl_app {ops : Array Oper} {rest : List Oper} {o : Oper} {a : Act} {Q : Exit → Act → World → Prop} {W : World} (hgd : o.guard = Option.none) (sl x : Operand) (t u : TypeId) (va vx : Value)
    (ho : o.op = .call { callee := .builtin .append, args := #[sl, x], argTypes := #[t, u] }) (hs : a.eval sl = va) (hx : a.eval x = vx) {R : Value → World → Prop}
    (hr : ∃ v' W', (Builtin.append_ #[t, u] o.type #[va, vx]).run Tryd.prog W = .ok v' W' ∧ R v' W')
    (h : ∀ v' W', R v' W' → wpList Tryd.prog ops Q rest (a.put o.dst v') W') : wpList Tryd.prog ops Q (o :: rest) a W := by
  refine wpList_plain hgd fun K hK => ?_
  obtain ⟨v', W', hr, h2⟩ := hr
  unfold Oper.wp execOp
  simp only [ho, resolve, invoke, builtin, Sem.run_bind, Sem.run_pure, Result.andThen_ok, List.map_toArray, List.map_cons, List.map_nil, hs, hx, hr]
  exact hK _ _ (h v' W' h2)
theorem step_app {ops : Array Oper} {o : Oper} {a : Act} {K : Act → World → Prop} {Q : Exit → Act → World → Prop} {E : Prop} {W : World} (hgd : o.guard = Option.none) (sl x : Operand) (t u : TypeId) (va vx : Value)
    (ho : o.op = .call { callee := .builtin .append, args := #[sl, x], argTypes := #[t, u] }) (hs : a.eval sl = va) (hx : a.eval x = vx) {R : Value → World → Prop}
    (hr : ∃ v' W', (Builtin.append_ #[t, u] o.type #[va, vx]).run Tryd.prog W = .ok v' W' ∧ R v' W')
    (h : ∀ v' W', R v' W' → K (a.put o.dst v') W') :
    if Region.wanted o (yielded ops a.tmps) = true then Oper.wp Tryd.prog o a W K Q else E := by
  have hw : Region.wanted o (yielded ops a.tmps) = true := by simp [Region.wanted, hgd]
  rw [if_pos hw]
  obtain ⟨v', W', hr, h2⟩ := hr
  unfold Oper.wp execOp
  simp only [ho, resolve, invoke, builtin, Sem.run_bind, Sem.run_pure, Result.andThen_ok, List.map_toArray, List.map_cons, List.map_nil, hs, hx, hr]
  exact h v' W' h2
/-- The blocks that Print's call has laid for itself. -/
def SO (w : World) (m : Mo) (W : World) : Prop := Below w.heap.size w W ∧ W.heap[w.heap.size]? = some (.cells #[.slice m.ta m.ths.length m.tc, .slice m.fa m.funcs.length m.fc] 25) ∧ W.heap[w.heap.size + 1]? = some (.cells #[.int .i64 0, .int .i64 0, .int .i64 0] 29)
def SF (w : World) (m : Mo) (F : Nat) (f : Fn) (W : World) : Prop := SO w m W ∧ W.heap[F]? = some (.cells (cF f) 42)
theorem SO.stay {w : World} {m : Mo} {W W' : World} (h : SO w m W) (hb : Below W.heap.size W W') : SO w m W' := ⟨Below.on h.1 hb, blk_stay h.2.1 hb, blk_stay h.2.2 hb⟩
theorem SF.stay {w : World} {m : Mo} {F : Nat} {f : Fn} {W W' : World} (h : SF w m F f W) (hb : Below W.heap.size W W') : SF w m F f W' := ⟨h.1.stay hb, blk_stay h.2 hb⟩
theorem SO.grown {w : World} {m : Mo} {W W' : World} (h : SO w m W) (hg : Gr w.heap.size W W') : SO w m W' :=
  ⟨hg.b w rfl h.1, hg.o _ _ _ _ h.2.1 (by decide), hg.o _ _ _ _ h.2.2 (by decide)⟩
theorem SF.grown {w : World} {m : Mo} {F : Nat} {f : Fn} {W W' : World} (h : SF w m F f W) (hg : Gr w.heap.size W W') : SF w m F f W' :=
  ⟨h.1.grown hg, hg.o _ _ _ _ h.2 (by decide)⟩
theorem Oc.new {N : Nat} {W : World} (l : Bt) (hN : N ≤ W.heap.size) (fz : Nat × Nat) : Oc N l (.slice (some ⟨W.heap.size, 0, Option.none⟩) l.length l.length) (W.alloc (.cells (u8C l).toArray 5 fz)) :=
  .inr ⟨W.heap.size, rfl, hN, _, fz, heap_alloc_new W _, by simp⟩
theorem oc_text {N : Nat} {acc : Bt} {v : Value} {W : World} (h : Oc N acc v W) (h0 : 0 < acc.length) : (convert 46 9 v).run Tryd.prog W = .ok (.string (tb acc)) W := by
  obtain ⟨g, c, rfl, hc⟩ := h.cells h0
  refine run_convert_bytes_back W 46 9 5 _ c acc Tryd.underlying46 Tryd.underlying5 Tryd.underlying9 (fun j hj => hc j _ ?_)
  simp [u8C, List.getElem?_eq_getElem hj]
end Go.Proofs.YtboidkmnkicoeaaDoor
