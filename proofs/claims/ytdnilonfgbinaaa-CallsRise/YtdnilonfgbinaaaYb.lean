/- The document's own list of calls. The document's own Of. The document's own Of: in memory. What Order tells: plain. -/
import Derived.Test.YtdnilonfgbinaaaNj
import Derived.Test.YtdnilonfgbinaaaYa
namespace Go.Proofs.Ytdnilonfgbinaaa
open Go.RowKit Go.Sort

def clC (x : Nat × Nat) : List Value := [.int .i64 (x.1 : Int), .int .i64 (x.2 : Int)]
/-- Calls of the call's own. -/
abbrev Ol (N : Nat) (l : List (Nat × Nat)) (v : Value) (W : World) : Prop := W.ownsRow N 54 2 v l.length (l.flatMap clC)
theorem Try.infoC : (Try.prog.info? 54).map (fun i => (i.zero, i.size, i.bytes)) = some (some (.agg #[.int .i64 0, .int .i64 0]), 2, 16) := by kernel_rfl
theorem ol_app {N : Nat} {l : List (Nat × Nat)} {v : Value} {W : World} (h : Ol N l v W) (hN : N ≤ W.heap.size) (hl : l.length ≤ 1000000) (x y : Nat) (ty : TypeId) :
    ∃ v' W', (Builtin.append_ #[51, 51] ty #[v, .slice (some ⟨W.heap.size, 0, none⟩) 1 1]).run Try.prog (W.alloc (.cells #[.int .i64 (x : Int), .int .i64 (y : Int)] 54)) = .ok v' W' ∧ Ol N (l ++ [(x, y)]) v' W' ∧ W.grownBy W' v.ownBlock := by
  obtain ⟨v', W', h1, h2, h3⟩ := app_one (t := 51) Try.underlying51 Try.infoC rfl (by decide) h hN (by unfold maxLen; omega) (by omega) #[.int .i64 (x : Int), .int .i64 (y : Int)] rfl (by simp [Value.oneCell']) ty
  refine ⟨v', W', h1, ?_, h3⟩
  unfold Ol
  rw [List.length_append, List.flatMap_append]
  exact h2
theorem row_not {W : World} {N n sz k : Nat} {T T' : TypeId} {v : Value} {xs : List Value} {cs : Array Value} {fz : Nat × Nat} (h : W.ownsRow N T sz v n xs) (hk : W.heap[k]? = some (.cells cs T' fz)) (hT : T' ≠ T) : v.ownBlock ≠ some k := fun e => by
  rcases h.2 with ⟨rfl, _⟩ | ⟨g, cap, cur, rfl, _, hg, _⟩
  · cases e
  · cases e
    rw [hk] at hg
    cases hg
    exact hT rfl
abbrev moB (m : Mo) : Obj := .cells #[.slice m.ta m.ths.length m.tc, .slice m.fa m.funcs.length m.fc] 25
abbrev fnB (f : Fn) : Obj := .cells #[.string f.name, .slice f.pa f.params.length f.pc, .int .i64 f.regs, .int .i64 f.words, .slice f.ca f.code.length f.cc] 42
/-- What the loop holds. -/
structure RcI (w : World) (m : Mo) (f : Fn) (rs : List Bool) (vc : Value) (es : List (Nat × Nat)) (v : Value) (W : World) : Prop where
  bm : W.heap[w.heap.size]? = some (moB m)
  bf : W.heap[w.heap.size + 1 + 1]? = some (fnB f)
  r : Ob w.heap.size rs vc W
  q : Ol w.heap.size es v W
  b : Below w.heap.size w W
theorem RcI.stay {w : World} {m : Mo} {f : Fn} {rs : List Bool} {vc : Value} {es : List (Nat × Nat)} {v : Value} {W W' : World} (h : RcI w m f rs vc es v W) (hb : Below W.heap.size W W') : RcI w m f rs vc es v W' :=
  ⟨blk_stay h.bm hb, blk_stay h.bf hb, own_stay h.r hb, own_stay h.q hb, Below.on h.b hb⟩
theorem RcI.grow {w : World} {m : Mo} {f : Fn} {rs : List Bool} {vc : Value} {es es' : List (Nat × Nat)} {v v' : Value} {W W' : World} (h : RcI w m f rs vc es v W) (hg : W.grownBy W' v.ownBlock) (ho : Ol w.heap.size es' v' W') : RcI w m f rs vc es' v' W' :=
  ⟨(hg.block _ (Array.getElem?_eq_some_iff.1 h.bm).1 (Ne.symm (row_not h.q h.bm (by decide)))).trans h.bm, (hg.block _ (Array.getElem?_eq_some_iff.1 h.bf).1 (Ne.symm (row_not h.q h.bf (by decide)))).trans h.bf, h.r.kept hg (own_ne h.r h.q (by decide)), ho, h.b.grown hg h.b.size (fun k e => own_base h.q k e)⟩
/-- What Calls tells. -/
def RcP (m : Mo) (z : Int) (w : World) (e : Ending) (w' : World) : Prop := ∃ v es, e = .returned v ∧ ((es = [] ∧ (z < 0 ∨ (m.funcs.length : Int) ≤ z)) ∨ ∃ (fn : Nat) (f : Fn) (rs : List Bool), z = (fn : Int) ∧ m.funcs[fn]? = some f ∧ IsR f.code rs ∧ es = cls f.code rs m.funcs.length) ∧ Ol w.heap.size es v w' ∧ Below w.heap.size w w'
set_option maxRecDepth 100000 in
set_option maxHeartbeats 4000000 in
theorem rcalls_any (mw : World) (m : Mo) (z : Int) (w : World) (hm : m.In mw) (ha : AllIn mw w) : Calls Try.prog 17 #[m.val, .int .i64 z] w (RcP m z w) := by
  have HB := Hid.mk' (Below.one (Below.one (Below.refl _ w) (moB m)) (.cells #[] 54))
  have HX := Hid.mk' (blk_stay (heap_alloc_new w (moB m)) (Below.one (Below.refl _ (w.alloc (moB m))) (.cells #[] 54)))
  have HO : Hid (Ol w.heap.size [] (.slice (some ⟨w.heap.size + 1, 0, none⟩) 0 0) ((w.alloc (moB m)).alloc (.cells #[] 54))) := by
    have h := row_new (w.alloc (moB m)) 54 2
    rw [World.size_alloc] at h
    exact own_mono h (Nat.le_succ _)
  have c1 := cell_of_obj HX.out (j := 1) (v := .slice m.fa m.funcs.length m.fc) rfl
  have hml := hm.2.2.1.1
  by_cases hneg : z < 0
  · clear hm ha
    unfold Mo.val
    go_enter Try.func17, Try.ntmps17
    go_wp2_with fail
    go_ret
    exact ⟨_, [], rfl, .inl ⟨rfl, .inl hneg⟩, HO.out, HB.out⟩
  obtain ⟨fn, rfl⟩ : ∃ i : Nat, z = i := ⟨z.toNat, by omega⟩
  by_cases hge : m.funcs.length ≤ fn
  · have hgi : (m.funcs.length : Int) ≤ (fn : Int) := by omega
    clear hm ha hge
    unfold Mo.val
    go_enter Try.func17, Try.ntmps17
    go_wp2_with fail
    go_ret
    exact ⟨_, [], rfl, .inl ⟨rfl, .inr hgi⟩, HO.out, HB.out⟩
  have hlt : fn < m.funcs.length := by omega
  have hli : (fn : Int) < (m.funcs.length : Int) := by omega
  obtain ⟨f, hf⟩ : ∃ f, m.funcs[fn]? = some f := ⟨_, List.getElem?_eq_getElem hlt⟩
  have hfe := (List.getElem?_eq_some_iff.1 hf).2
  obtain ⟨b, o, efa, d0, d1, d2, d3, d4⟩ := fns_at ((hm.2.2.1.all ha).stay HB.out) hlt
  rw [hfe] at d0 d1 d2 d3 d4
  have HFI : Hid (f.In mw) := hm.2.2.2 f (List.mem_of_getElem? hf)
  have HRE : Hid (∀ w', Below w.heap.size w w' → Calls Try.prog 29 #[.agg #[.string f.name, .slice f.pa f.params.length f.pc, .int .i64 f.regs, .int .i64 f.words, .slice f.ca f.code.length f.cc]] w' (ReP f.code w')) := fun w' hb => rreach_any f w' (HFI.out.2.2.2.2.2.1.all (ha.below hb))
  have HA := Hid.mk' ha
  have HF := Hid.mk' hf
  clear hm ha hge hf hfe hlt hneg
  obtain ⟨mta, mtc, mths, mfa, mfc, mfs⟩ := m
  simp only [moB, Mo.val] at *
  subst efa
  go_enter Try.func17, Try.ntmps17
  go_wp2_with fail
  have HBF := Hid.mk' (Below.one HB.out (fnB f))
  have HR0 : Hid (RcI w ⟨mta, mtc, mths, some ⟨b, o, none⟩, mfc, mfs⟩ f [] (.slice none 0 0) [] (.slice (some ⟨w.heap.size + 1, 0, none⟩) 0 0) (((w.alloc (.cells #[.slice mta mths.length mtc, .slice (some ⟨b, o, none⟩) mfs.length mfc] 25)).alloc (.cells #[] 54)).alloc (fnB f))) := by
    have hn := heap_alloc_new ((w.alloc (.cells #[.slice mta mths.length mtc, .slice (some ⟨b, o, none⟩) mfs.length mfc] 25)).alloc (.cells #[] 54)) (fnB f)
    simp only [World.size_alloc] at hn
    exact ⟨blk_stay HX.out (Below.one (Below.refl _ _) _), hn, ob_nil _ _, own_stay HO.out (Below.one (Below.refl _ _) _), HBF.out⟩
  refine (HRE.out _ HBF.out).mono ?_
  rintro e W2 ⟨v2, rs, rfl, hrs, on2, bb2⟩
  obtain ⟨ra, rc, rfl⟩ := gown_form on2
  have HRS := Hid.mk' hrs
  have HR2 : Hid (RcI w ⟨mta, mtc, mths, some ⟨b, o, none⟩, mfc, mfs⟩ f rs (.slice ra rs.length rc) (clU f.code rs mfs.length 0) (.slice (some ⟨w.heap.size + 1, 0, none⟩) 0 0) W2) := by
    have h := HR0.out.stay bb2
    exact ⟨h.bm, h.bf, own_mono on2 HBF.out.size, h.q, h.b⟩
  have hrl := hrs.len
  clear hrs on2 bb2 HRE HR0 HBF HB HX HO c1 d0 d1 d2 d3 d4
  go_wp2_with fail
  go_loopw [5, 8] (fun t5 t8 wr => ∃ (u : Nat) (v : Value), t5 = v ∧ t8 = .int .i64 u ∧ u ≤ rs.length ∧ RcI w ⟨mta, mtc, mths, some ⟨b, o, none⟩, mfc, mfs⟩ f rs (.slice ra rs.length rc) (clU f.code rs mfs.length u) v wr) (fun _ t8 _ => rs.length - (intOf t8).toNat)
  case atStart => exact ⟨0, _, rfl, rfl, Nat.zero_le _, HR2.out⟩
  case round =>
    obtain ⟨u, v, rfl, rfl, hu, hri⟩ := hrel
    clear HR2
    have HRI := Hid.mk' hri
    obtain ⟨av, cv, rfl⟩ := gown_form hri.q
    clear hri
    by_cases hlt : u < rs.length
    · obtain ⟨bu, hbu⟩ : ∃ b, rs[u]? = some b := ⟨_, List.getElem?_eq_getElem hlt⟩
      obtain ⟨gr, rfl, e0, k1, k2⟩ := ob_at HRI.out.r hbu
      clear k1 k2
      have hlti : (u : Int) < (rs.length : Int) := by omega
      have hlc : u < f.code.length := Nat.lt_of_lt_of_le hlt HRS.out.le
      have hlci : (u : Int) < (f.code.length : Int) := by omega
      have hcl := HFI.out.2.2.2.2.2.1.1
      have HBU := Hid.mk' hbu
      clear hbu
      obtain ⟨x, hx⟩ : ∃ x, f.code[u]? = some x := ⟨_, List.getElem?_eq_getElem hlc⟩
      have hxe := (List.getElem?_eq_some_iff.1 hx).2
      obtain ⟨bc, oc, eca, g0, g1, g2, g3, g4⟩ := iss_at ((HFI.out.2.2.2.2.2.1.all HA.out).stay HRI.out.b) hlc
      rw [hxe] at g0 g1 g2 g3 g4
      have z4 := cell_of_obj HRI.out.bf (j := 4) (v := .slice f.ca f.code.length f.cc) rfl
      have z0 := cell_of_obj HRI.out.bm (j := 1) (v := .slice (some ⟨b, o, none⟩) mfs.length mfc) rfl
      rw [eca] at z4
      clear eca
      have z1 := cell_kept_below z0 (Below.one (Below.refl _ wr) (.cells #[.int .i64 x.op, .int .i64 x.a, .int .i64 x.b, .int .i64 x.c, .int .i64 x.n] 44))
      have e1 := cell_kept_below e0 (Below.one (Below.refl _ wr) (.cells #[.int .i64 x.op, .int .i64 x.a, .int .i64 x.b, .int .i64 x.c, .int .i64 x.n] 44))
      have HR1 := Hid.mk' (HRI.out.stay (Below.one (Below.refl _ wr) (.cells #[.int .i64 x.op, .int .i64 x.a, .int .i64 x.b, .int .i64 x.c, .int .i64 x.n] 44)))
      have HX := Hid.mk' hx
      have HUL := Hid.mk' (clU_len f.code rs mfs.length u)
      clear hx hxe
      obtain ⟨xo, xa, xb, xc, xn⟩ := x
      simp only at *
      cases bu
      · have HE := Hid.mk' (clU_no (nf := mfs.length) HX.out (.inl HBU.out))
        go_wp2_with fail
        go_roundw
        case rel => exact ⟨u + 1, _, rfl, by go_num, by omega, by rw [HE.out]; exact HR1.out⟩
        case measure => simp [intOf]; omega
      by_cases h19 : xo = 19
      rotate_left
      · have HE := Hid.mk' (clU_no (rs := rs) (nf := mfs.length) HX.out (.inr (.inl h19)))
        have q1 : (xo == 19) = false := beq_no h19
        go_wp2_with fail
        go_roundw
        case rel => exact ⟨u + 1, _, rfl, by go_num, by omega, by rw [HE.out]; exact HR1.out⟩
        case measure => simp [intOf]; omega
      subst h19
      by_cases hn0 : 0 ≤ xn
      rotate_left
      · have HE := Hid.mk' (clU_no (rs := rs) (nf := mfs.length) HX.out (.inr (.inr (.inl (show xn < 0 by omega)))))
        go_wp2_with fail
        go_roundw
        case rel => exact ⟨u + 1, _, rfl, by go_num, by omega, by rw [HE.out]; exact HR1.out⟩
        case measure => simp [intOf]; omega
      by_cases hn1 : xn < (mfs.length : Int)
      rotate_left
      · have HE := Hid.mk' (clU_no (rs := rs) (nf := mfs.length) HX.out (.inr (.inr (.inr (show (mfs.length : Int) ≤ xn by omega)))))
        go_wp2_with fail
        go_roundw
        case rel => exact ⟨u + 1, _, rfl, by go_num, by omega, by rw [HE.out]; exact HR1.out⟩
        case measure => simp [intOf]; omega
      obtain ⟨k, rfl⟩ : ∃ k : Nat, xn = k := ⟨xn.toNat, by omega⟩
      obtain ⟨he, _⟩ := clU_yes HX.out HBU.out rfl rfl (nf := mfs.length) (by omega)
      have HE := Hid.mk' he
      have HAP := Hid.mk' (ol_app HR1.out.q HR1.out.b.size (by have := HUL.out; omega) u k 51)
      simp only [World.size_alloc] at HAP
      clear he
      go_upto_region 11 with fail
      go_wp2_with (at_builtin; refine wpl_app rfl _ _ 51 51 _ _ rfl rfl rfl HAP.out ?_; rintro v3 W3 ⟨oe3, gr3⟩)
      have HR3 := Hid.mk' (HR1.out.grow gr3 oe3)
      rw [HE.out] at HR3
      clear oe3 gr3
      go_roundw
      case rel => exact ⟨u + 1, _, rfl, by go_num, by omega, HR3.out⟩
      case measure => simp [intOf]; omega
    · have hue : u = rs.length := by omega
      go_wp2_with fail
      go_ret
      refine ⟨_, _, rfl, .inr ⟨fn, f, rs, rfl, HF.out, HRS.out, rfl⟩, ?_, HRI.out.b⟩
      unfold cls
      rw [← hue]
      exact HRI.out.q
end Go.Proofs.Ytdnilonfgbinaaa
namespace Go.Proofs.Ytdnilonfgbinaaa
open Go.RowKit Go.Sort

theorem ol_at {W : World} {N : Nat} {a : Option Addr} {c m : Nat} {l : List (Nat × Nat)} (h : Ol N l (.slice a m c) W) {j : Nat} {x : Nat × Nat} (hj : l[j]? = some x) : ∃ g o, a = some ⟨g, o, none⟩ ∧ W.cell? ⟨g, o + j * 2 + 1, none⟩ = some (.int .i64 (x.2 : Int)) ∧ m = l.length := by
  obtain ⟨a', c', e⟩ := gown_form h
  injection e with e1 e2 e3
  subst e2
  have hr : RowIn W a 2 (l.map clC) := own_row h (fun _ => rfl) (by omega)
  obtain ⟨g, o, e, hc⟩ := hr j (clC x) (by rw [List.getElem?_map, hj]; rfl)
  exact ⟨g, o, e, hc 1 _ rfl, rfl⟩
/-- The least one above `la` among the first so many, or -1. -/
def NxI (es : List (Nat × Nat)) (la : Int) (i : Nat) (nx : Int) : Prop :=
  (nx = -1 ∧ ∀ x ∈ es.take i, (x.2 : Int) ≤ la) ∨ ∃ k : Nat, nx = (k : Int) ∧ la < nx ∧ (∃ u, (u, k) ∈ es) ∧ ∀ x ∈ es.take i, la < (x.2 : Int) → k ≤ x.2
theorem NxI.zero (es : List (Nat × Nat)) (la : Int) : NxI es la 0 (-1) := .inl ⟨rfl, fun x h => by rw [List.take_zero] at h; cases h⟩
theorem mem_take_succ {es : List (Nat × Nat)} {i : Nat} {x y : Nat × Nat} (hx : es[i]? = some x) (h : y ∈ es.take (i + 1)) : y ∈ es.take i ∨ y = x := by
  obtain ⟨hl, e⟩ := List.getElem?_eq_some_iff.1 hx
  rw [List.take_succ_eq_append_getElem hl, e, List.mem_append, List.mem_singleton] at h
  exact h
theorem NxI.low {es : List (Nat × Nat)} {la nx : Int} {i : Nat} {x : Nat × Nat} (h : NxI es la i nx) (hx : es[i]? = some x) (hl : (x.2 : Int) ≤ la) : NxI es la (i + 1) nx := by
  rcases h with ⟨h1, h2⟩ | ⟨k, h1, h2, h3, h4⟩
  · refine .inl ⟨h1, fun y hy => ?_⟩
    rcases mem_take_succ hx hy with hy | rfl
    · exact h2 y hy
    · exact hl
  · refine .inr ⟨k, h1, h2, h3, fun y hy hgt => ?_⟩
    rcases mem_take_succ hx hy with hy | rfl
    · exact h4 y hy hgt
    · omega
theorem NxI.keep {es : List (Nat × Nat)} {la nx : Int} {i : Nat} {x : Nat × Nat} (h : NxI es la i nx) (hx : es[i]? = some x) (h0 : 0 ≤ nx) (hl : nx ≤ (x.2 : Int)) : NxI es la (i + 1) nx := by
  rcases h with ⟨h1, h2⟩ | ⟨k, h1, h2, h3, h4⟩
  · omega
  · refine .inr ⟨k, h1, h2, h3, fun y hy hgt => ?_⟩
    rcases mem_take_succ hx hy with hy | rfl
    · exact h4 y hy hgt
    · omega
theorem NxI.take {es : List (Nat × Nat)} {la nx : Int} {i : Nat} {x : Nat × Nat} (h : NxI es la i nx) (hx : es[i]? = some x) (hg : la < (x.2 : Int)) (hl : nx < 0 ∨ (x.2 : Int) < nx) : NxI es la (i + 1) (x.2 : Int) := by
  refine .inr ⟨x.2, rfl, hg, ⟨x.1, List.mem_of_getElem? hx⟩, fun y hy hgt => ?_⟩
  rcases mem_take_succ hx hy with hy | rfl
  · rcases h with ⟨h1, h2⟩ | ⟨k, h1, h2, h3, h4⟩
    · have := h2 y hy; omega
    · have := h4 y hy hgt; omega
  · exact Nat.le_refl _
/-- What was found so far. -/
def OuI (es : List (Nat × Nat)) (ks : List Nat) (la : Int) : Prop := ks.Pairwise (· < ·) ∧ (∀ y, y ∈ ks ↔ (∃ u, (u, y) ∈ es) ∧ (y : Int) ≤ la) ∧ -1 ≤ la
theorem OuI.nil (es : List (Nat × Nat)) : OuI es [] (-1) := ⟨List.Pairwise.nil, fun y => ⟨(fun h => by cases h), fun h => by omega⟩, Int.le_refl _⟩
theorem OuI.next {es : List (Nat × Nat)} {ks : List Nat} {la : Int} {k : Nat} (h : OuI es ks la) (hn : NxI es la es.length (k : Int)) : OuI es (ks ++ [k]) (k : Int) ∧ la < (k : Int) ∧ ∃ u, (u, k) ∈ es := by
  rcases hn with ⟨h1, _⟩ | ⟨k', h1, h2, h3, h4⟩
  · omega
  · obtain rfl : k = k' := by omega
    rw [List.take_length] at h4
    refine ⟨⟨List.pairwise_append.2 ⟨h.1, List.pairwise_singleton _ _, fun a ha b hb => ?_⟩, fun y => ?_, by omega⟩, h2, h3⟩
    · rw [List.mem_singleton] at hb
      subst hb
      have := ((h.2.1 a).1 ha).2
      omega
    · rw [List.mem_append, List.mem_singleton, h.2.1]
      constructor
      · rintro (⟨h5, h6⟩ | rfl)
        · exact ⟨h5, by omega⟩
        · exact ⟨h3, Int.le_refl _⟩
      · rintro ⟨⟨u, h5⟩, h6⟩
        by_cases hc : (y : Int) ≤ la
        · exact .inl ⟨⟨u, h5⟩, hc⟩
        · have := h4 (u, y) h5 (by simp only; omega)
          simp only at this
          exact .inr (by omega)
theorem OuI.done {es : List (Nat × Nat)} {ks : List Nat} {la nx : Int} (h : OuI es ks la) (hn : NxI es la es.length nx) (h0 : nx < 0) : ks.Pairwise (· < ·) ∧ ∀ y, y ∈ ks ↔ ∃ u, (u, y) ∈ es := by
  rcases hn with ⟨h1, h2⟩ | ⟨k', h1, _⟩
  · rw [List.take_length] at h2
    refine ⟨h.1, fun y => ?_⟩
    rw [h.2.1]
    exact ⟨fun k => k.1, fun ⟨u, k⟩ => ⟨⟨u, k⟩, h2 _ k⟩⟩
  · omega
/-- What the two lists are. -/
theorem rc_of {m : Mo} {z : Int} {es : List (Nat × Nat)} {ks : List Nat} (h : (es = [] ∧ (z < 0 ∨ (m.funcs.length : Int) ≤ z)) ∨ ∃ (fn : Nat) (f : Fn) (rs : List Bool), z = (fn : Int) ∧ m.funcs[fn]? = some f ∧ IsR f.code rs ∧ es = cls f.code rs m.funcs.length) (hk : ks.Pairwise (· < ·) ∧ ∀ y, y ∈ ks ↔ ∃ u, (u, y) ∈ es) : IsOf m z ks := by
  refine ⟨hk.1, fun y => (hk.2 y).trans ?_⟩
  rcases h with ⟨rfl, h⟩ | ⟨fn, f, rs, rfl, h1, h2, rfl⟩
  · exact ⟨(fun ⟨u, h⟩ => by cases h), fun k => absurd k (cal_no h y)⟩
  · exact (cal_at h1 h2 y).symm
theorem rc_len {m : Mo} {z : Int} {es : List (Nat × Nat)} (h : (es = [] ∧ (z < 0 ∨ (m.funcs.length : Int) ≤ z)) ∨ ∃ (fn : Nat) (f : Fn) (rs : List Bool), z = (fn : Int) ∧ m.funcs[fn]? = some f ∧ IsR f.code rs ∧ es = cls f.code rs m.funcs.length) : es.length ≤ 1024 ∧ ∀ x ∈ es, x.2 < m.funcs.length := by
  rcases h with ⟨rfl, _⟩ | ⟨fn, f, rs, _, _, h2, rfl⟩
  · exact ⟨by simp, fun x h => by cases h⟩
  · exact ⟨Nat.le_trans (clU_len f.code rs m.funcs.length rs.length) h2.len, fun x h => (cls_lt h).1⟩
end Go.Proofs.Ytdnilonfgbinaaa
namespace Go.Proofs.Ytdnilonfgbinaaa
open Go.RowKit Go.Sort

theorem OuI.len {es : List (Nat × Nat)} {ks : List Nat} {la : Int} (h : OuI es ks la) : ks.length ≤ es.length := by
  have := subU_len (a := ks) (b := es.map Prod.snd) (h.1.imp fun h => Nat.ne_of_lt h) fun x hx => by
    obtain ⟨⟨u, hu⟩, _⟩ := (h.2.1 x).1 hx
    exact List.mem_map.2 ⟨_, hu, rfl⟩
  rwa [List.length_map] at this
theorem NxI.bd {es : List (Nat × Nat)} {la nx : Int} {i n : Nat} (h : NxI es la i nx) (hb : ∀ x ∈ es, x.2 < n) : -1 ≤ nx ∧ (nx < (n : Int) ∨ nx = -1) := by
  rcases h with ⟨h1, _⟩ | ⟨k, h1, _, ⟨u, h3⟩, _⟩
  · omega
  · have := hb _ h3
    simp only at this
    omega
/-- What the loops hold. -/
structure RoI (w : World) (es : List (Nat × Nat)) (vs : Value) (ks : List Nat) (v : Value) (W : World) : Prop where
  s : Ol w.heap.size es vs W
  q : On w.heap.size ks v W
  b : Below w.heap.size w W
theorem RoI.grow {w : World} {es : List (Nat × Nat)} {vs : Value} {ks ks' : List Nat} {v v' : Value} {W W' : World} (h : RoI w es vs ks v W) (hg : W.grownBy W' v.ownBlock) (ho : On w.heap.size ks' v' W') : RoI w es vs ks' v' W' :=
  ⟨h.s.kept hg (own_ne h.s h.q (by decide)), ho, h.b.grown hg h.b.size (fun k e => own_base h.q k e)⟩
set_option maxRecDepth 100000 in
set_option maxHeartbeats 4000000 in
theorem rof_any (mw : World) (m : Mo) (z : Int) (w : World) (hm : m.In mw) (ha : AllIn mw w) : Calls Try.prog 8 #[m.val, .int .i64 z] w (OfP m z w) := by
  have HB := Hid.mk' (Below.one (Below.refl _ w) (moB m))
  have HRC := Hid.mk' (rcalls_any mw m z _ hm (ha.below HB.out))
  have hml := hm.2.2.1.1
  clear hm ha
  unfold Mo.val at *
  go_enter Try.func8, Try.ntmps8
  go_wp2_with fail
  refine HRC.out.mono ?_
  rintro e W2 ⟨vs, es, rfl, hes, os, bb⟩
  obtain ⟨ea, ec, rfl⟩ := gown_form os
  have HES := Hid.mk' hes
  obtain ⟨hel, hev⟩ := rc_len hes
  have HEV := Hid.mk' hev
  have HB2 := Hid.mk' (Below.on HB.out bb)
  have HR0 : Hid (RoI w es (.slice ea es.length ec) [] (.slice (some ⟨W2.heap.size, 0, none⟩) 0 0) (W2.alloc (.cells #[] 3))) :=
    ⟨own_stay (own_mono os HB.out.size) (Below.one (Below.refl _ W2) _), own_mono (row_new W2 3 1) HB2.out.size, Below.one HB2.out _⟩
  clear hes os bb HB HRC HB2 hev
  go_wp2_with fail
  go_loopw [6, 7] (fun t6 t7 wr => ∃ (ks : List Nat) (la : Int) (v : Value), t6 = v ∧ t7 = .int .i64 la ∧ OuI es ks la ∧ (la < (m.funcs.length : Int) ∨ la = -1) ∧ RoI w es (.slice ea es.length ec) ks v wr) (fun _ t7 _ => m.funcs.length - (intOf t7 + 1).toNat)
  case atStart => exact ⟨[], -1, _, rfl, rfl, OuI.nil es, .inr rfl, HR0.out⟩
  case round =>
    obtain ⟨ks, la, v, rfl, rfl, hou, hla, hro⟩ := hrel
    have HOU := Hid.mk' hou
    have HRO := Hid.mk' hro
    have hla2 := hou.2.2
    have hkl := Nat.le_trans hou.len hel
    obtain ⟨av, cv, rfl⟩ := gown_form hro.q
    obtain ⟨Wo, hWo⟩ : ∃ Wo, Wo = wr := ⟨_, rfl⟩
    subst hWo
    clear hou hro HR0
    go_wp2_with fail
    go_loopw [8, 9] (fun t8 t9 wr => ∃ (i : Nat) (nx : Int), t8 = .int .i64 nx ∧ t9 = .int .i64 (i : Int) ∧ i ≤ es.length ∧ NxI es la i nx ∧ wr = Wo) (fun _ t9 _ => es.length - (intOf t9).toNat)
    case atStart => exact ⟨0, -1, rfl, rfl, Nat.zero_le _, NxI.zero es la, rfl⟩
    case round =>
      obtain ⟨i, nx, rfl, rfl, hi, hnx, rfl⟩ := hrel
      have HNX := Hid.mk' hnx
      have hnb := hnx.bd HEV.out
      clear hnx
      by_cases hil : i < es.length
      · obtain ⟨x, hx⟩ : ∃ x, es[i]? = some x := ⟨_, List.getElem?_eq_getElem hil⟩
        obtain ⟨g, o, rfl, d0, _⟩ := ol_at HRO.out.s hx
        have hili : (i : Int) < (es.length : Int) := by omega
        have HX := Hid.mk' hx
        clear hx
        obtain ⟨xu, xk⟩ := x
        simp only at d0
        by_cases h1 : la < (xk : Int)
        rotate_left
        · have HN2 := Hid.mk' (HNX.out.low HX.out (show (xk : Int) ≤ la by omega))
          go_wp2_with fail
          go_roundw
          case rel => exact ⟨i + 1, nx, rfl, by go_num, by omega, HN2.out, trivial⟩
          case measure => simp [intOf]; omega
        by_cases h2 : nx < 0
        · have HN2 := Hid.mk' (HNX.out.take HX.out h1 (.inl h2))
          go_wp2_with fail
          go_roundw
          case rel => exact ⟨i + 1, (xk : Int), rfl, by go_num, by omega, HN2.out, trivial⟩
          case measure => simp [intOf]; omega
        by_cases h3 : (xk : Int) < nx
        · have HN2 := Hid.mk' (HNX.out.take HX.out h1 (.inr h3))
          go_wp2_with fail
          go_roundw
          case rel => exact ⟨i + 1, (xk : Int), rfl, by go_num, by omega, HN2.out, trivial⟩
          case measure => simp [intOf]; omega
        · have HN2 := Hid.mk' (HNX.out.keep HX.out (by omega) (show nx ≤ (xk : Int) by omega))
          go_wp2_with fail
          go_roundw
          case rel => exact ⟨i + 1, nx, rfl, by go_num, by omega, HN2.out, trivial⟩
          case measure => simp [intOf]; omega
      · have hie : i = es.length := by omega
        subst hie
        by_cases h0 : nx < 0
        · have HD := Hid.mk' (HOU.out.done HNX.out h0)
          go_wp2_with fail
          go_ret
          exact ⟨_, ks, rfl, rc_of HES.out HD.out, HRO.out.q, HRO.out.b⟩
        · obtain ⟨k, rfl⟩ : ∃ k : Nat, nx = k := ⟨nx.toNat, by omega⟩
          obtain ⟨h5, h6, _⟩ := HOU.out.next HNX.out
          have HO2 := Hid.mk' h5
          have HAP := Hid.mk' (on_app HRO.out.q HRO.out.b.size (by omega) k 27)
          clear h5
          go_upto_region 12 with fail
          go_wp2_with (at_builtin; refine wpl_app rfl _ _ 27 27 _ _ rfl rfl rfl HAP.out ?_; rintro v3 W3 ⟨on3, gr3⟩)
          have HR3 := Hid.mk' (HRO.out.grow gr3 on3)
          clear on3 gr3
          go_roundw
          case rel => exact ⟨ks ++ [k], (k : Int), _, rfl, rfl, HO2.out, by omega, HR3.out⟩
          case measure => simp [intOf]; omega
end Go.Proofs.Ytdnilonfgbinaaa
namespace Go.Proofs.Ytdnilonfgbinaaa

/-- Who calls whom. -/
abbrev CE (m : Mo) (f g : Nat) : Prop := Cal m (f : Int) g
theorem ce_lt (m : Mo) : ∀ f g, CE m f g → g < m.funcs.length := fun _ _ h => h.lt
/-- The least ring's least call that leads back. -/
def CycAt (m : Mo) (f i : Nat) : Prop := f < m.funcs.length ∧ Ld (CE m) f f ∧ (∀ g, Ld (CE m) g g → f ≤ g) ∧
  ∃ (F : Fn) (rs : List Bool), m.funcs[f]? = some F ∧ IsR F.code rs ∧ (∃ k, (i, k) ∈ cls F.code rs m.funcs.length ∧ (k = f ∨ Ld (CE m) k f)) ∧
    ∀ j k, (j, k) ∈ cls F.code rs m.funcs.length → (k = f ∨ Ld (CE m) k f) → i ≤ j
theorem CycAt.one {m : Mo} {f i f' i' : Nat} (h : CycAt m f i) (k : CycAt m f' i') : f = f' ∧ i = i' := by
  obtain ⟨_, h1, h2, F, rs, h3, h4, ⟨x, h5, h6⟩, h7⟩ := h
  obtain ⟨_, k1, k2, F', rs', k3, k4, ⟨y, k5, k6⟩, k7⟩ := k
  obtain rfl : f = f' := Nat.le_antisymm (h2 _ k1) (k2 _ h1)
  rw [h3] at k3
  injection k3 with k3
  subst k3
  obtain rfl := h4.one k4
  exact ⟨rfl, Nat.le_antisymm (h7 _ _ k5 k6) (k7 _ _ h5 h6)⟩
/-- A ring has such a call. -/
theorem cyc_call {m : Mo} {f : Nat} (h : Ld (CE m) f f) : ∃ (F : Fn) (rs : List Bool) (i k : Nat), m.funcs[f]? = some F ∧ IsR F.code rs ∧ (i, k) ∈ cls F.code rs m.funcs.length ∧ (k = f ∨ Ld (CE m) k f) := by
  obtain ⟨g, hg, hk⟩ := h.first
  obtain ⟨fn, F, rs, u, e, h1, h2, h3⟩ := hg
  obtain rfl : f = fn := by omega
  exact ⟨F, rs, u, g, h1, h2, h3, hk⟩
/-- The order stands, or there is a ring: what Order tells of at most 32 functions. -/
def OrdOf (m : Mo) (os : List Nat) : Prop := Ord (CE m) m.funcs.length os ∧ os.length = m.funcs.length
theorem OrdOf.one {m : Mo} {a b : List Nat} (h : OrdOf m a) (k : OrdOf m b) : a = b := h.1.one k.1 (h.2.trans k.2.symm)
theorem OrdOf.not_cyc {m : Mo} {os : List Nat} (h : OrdOf m os) {f i : Nat} : ¬ CycAt m f i := fun k => h.1.no_ring (h.1.all h.2 k.1) k.2.1
theorem OrdOf.no_ring {m : Mo} {os : List Nat} (h : OrdOf m os) (f : Nat) : ¬ Ld (CE m) f f := fun k => h.1.no_ring (h.1.all h.2 (k.lt (ce_lt m))) k
/-- While there is no ring and one isn't there, one may be next. -/
theorem ord_goes {m : Mo} {os : List Nat} (hr : ∀ f, ¬ Ld (CE m) f f) (hl : os.length < m.funcs.length) : ∃ f, LstR (CE m) m.funcs.length os f := by
  classical
  have hex : ∃ f, f < m.funcs.length ∧ Rdy (CE m) os f := Classical.byContradiction fun hc => by
    obtain ⟨g, _, _, hg⟩ := ord_ring (ce_lt m) (fun f hf h => hc ⟨f, hf, h⟩) hl
    exact hr g hg
  have key : ∀ n f, f ≤ n → f < m.funcs.length → Rdy (CE m) os f → ∃ f, LstR (CE m) m.funcs.length os f := by
    intro n
    induction n with
    | zero =>
      intro f h0 hf hy
      exact ⟨f, hf, hy, fun g _ _ => by omega⟩
    | succ n ih =>
      intro f h0 hf hy
      by_cases hb : ∃ g, g < f ∧ Rdy (CE m) os g
      · obtain ⟨g, hg, hgy⟩ := hb
        exact ih g (by omega) (by omega) hgy
      · exact ⟨f, hf, hy, fun g _ hgy => Nat.le_of_not_lt fun hlt => hb ⟨g, hlt, hgy⟩⟩
  obtain ⟨f, hf, hy⟩ := hex
  exact key f f (Nat.le_refl _) hf hy
/-- Who waits still, and for whom: what the program's map says. -/
def Wts (m : Mo) (os : List Nat) (f g : Nat) : Prop := CE m f g ∧ g ∉ os
theorem rdy_wts {m : Mo} {os : List Nat} {f : Nat} : Rdy (CE m) os f ↔ f ∉ os ∧ ∀ g, ¬ Wts m os f g := by
  constructor
  · exact fun h => ⟨h.1, fun g k => k.2 (h.2 g k.1)⟩
  · exact fun h => ⟨h.1, fun g k => Classical.byContradiction fun hc => h.2 g ⟨k, hc⟩⟩
theorem wts_next {m : Mo} {os : List Nat} {f x g : Nat} : Wts m (os ++ [f]) x g ↔ Wts m os x g ∧ g ≠ f := by
  unfold Wts
  rw [List.mem_append, List.mem_singleton]
  constructor
  · exact fun ⟨h1, h2⟩ => ⟨⟨h1, fun h => h2 (.inl h)⟩, fun h => h2 (.inr h)⟩
  · rintro ⟨⟨h1, h2⟩, h3⟩
    refine ⟨h1, ?_⟩
    rintro (h | h)
    · exact h2 h
    · exact h3 h
/-- Who leads to one among those that wait does so by those that wait: none of them is on a ring's way but they. -/
theorem wts_leads {m : Mo} {os : List Nat} (ho : Ord (CE m) m.funcs.length os) {t : Nat} (ht : t ∉ os) {x : Nat} (h : Ld (CE m) x t) : x ∉ os ∧ Ld (Wts m os) x t := by
  induction h with
  | one e => exact ⟨fun hx => ht (by obtain ⟨i, hi, e1⟩ := List.mem_iff_getElem.1 hx
                                     obtain ⟨j, _, e2⟩ := ho.ahead (.one e) (i := i) (by rw [List.getElem?_eq_getElem hi, e1])
                                     exact List.mem_of_getElem? e2), .one ⟨e, ht⟩⟩
  | on e h ih =>
    obtain ⟨h1, h2⟩ := ih ht
    refine ⟨fun hx => ht ?_, .on ⟨e, h1⟩ h2⟩
    obtain ⟨i, hi, e1⟩ := List.mem_iff_getElem.1 hx
    obtain ⟨j, _, e2⟩ := ho.ahead (.on e h) (i := i) (by rw [List.getElem?_eq_getElem hi, e1])
    exact List.mem_of_getElem? e2
theorem leads_wts {m : Mo} {os : List Nat} {x t : Nat} (h : Ld (Wts m os) x t) : Ld (CE m) x t := h.mono fun _ _ k => k.1
end Go.Proofs.Ytdnilonfgbinaaa
