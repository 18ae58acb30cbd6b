/- Bounds: an analysis that goes on, in memory. Bounds: what is changed. -/
import Derived.Test.YtfmkjdfidenfkaaDoorUu
import Derived.Test.YtfmkjdfidenfkaaDoorUr
import Derived.Deep.RegionHeld3
namespace Go.Proofs.YtfmkjdfidenfkaaDoor
open Go.RowKit
open S8 (meetB meetS joinS widS belA belB belC allS doR doB doS emB pot)

/-- Where an analysis lies. -/
structure Lay where
  B : Nat
  gI : Nat
  gC : Nat
  gM : Nat
  gJ : Nat
  gs : Nat
  gc : Nat
  bI : Nat → Nat
  bC : Nat → Nat
def rowV (r b : Nat) (l : List Sp) : Value := if l = [] then .slice none 0 0 else .slice (some ⟨b, 0, none⟩) r r
def inV (L : Lay) (r : Nat) (ins : List (List Sp)) : List Value := ins.mapIdx fun i l => rowV r (L.bI i) l
def chV (L : Lay) (r n : Nat) : List Value := (List.range n).map fun i => .slice (some ⟨L.bC i, 0, none⟩) r r
def wkC (m : Mo) (f : Fn) (n r : Nat) (L : Lay) : Array Value := #[.slice m.ta m.ths.length m.tc, .slice m.fa m.funcs.length m.fc, .string f.name, .slice f.pa f.params.length f.pc, .int .i64 f.regs, .int .i64 f.words, .slice f.ca f.code.length f.cc, .slice (some ⟨L.gI, 0, none⟩) n n, .slice (some ⟨L.gC, 0, none⟩) n n, .slice (some ⟨L.gM, 0, none⟩) n n, .slice (some ⟨L.gJ, 0, none⟩) n n, .slice (some ⟨L.gs, 0, none⟩) r r, .slice (some ⟨L.gc, 0, none⟩) r r]
structure WkAt (N n r : Nat) (m : Mo) (f : Fn) (L : Lay) (st : Wk) (sd cm : List Sp) (W : World) : Prop where
  wb : W.heap[L.B]? = some (.cells (wkC m f n r L) 65)
  ib : W.heap[L.gI]? = some (.cells (inV L r st.ins).toArray 34)
  cb : W.heap[L.gC]? = some (.cells (chV L r n).toArray 38)
  mb : W.heap[L.gM]? = some (.cells (st.mar.map bV).toArray 4)
  jb : W.heap[L.gJ]? = some (.cells (st.jn.map nV).toArray 3)
  sb : RgB W L.gs sd
  db : RgB W L.gc cm
  iv : ∀ i, i < n → insA st i ≠ [] → RgB W (L.bI i) (insA st i)
  cv : ∀ i, i < n → W.heap[L.bC i]? = some (.cells ((chgA st i).map nV).toArray 3)
  dsc : L.gs ≠ L.gc
  ds : ∀ i, i < n → insA st i ≠ [] → L.bI i ≠ L.gs ∧ L.bI i ≠ L.gc
  di : ∀ i j, i < n → j < n → i ≠ j → insA st i ≠ [] → insA st j ≠ [] → L.bI i ≠ L.bI j
  dj : ∀ i, i < n → L.bC i ≠ L.gJ
  dc : ∀ i j, i < n → j < n → i ≠ j → L.bC i ≠ L.bC j
  lo : N ≤ L.B ∧ N ≤ L.gI ∧ N ≤ L.gC ∧ N ≤ L.gM ∧ N ≤ L.gJ ∧ N ≤ L.gs ∧ N ≤ L.gc
  lv : ∀ i, i < n → N ≤ L.bC i ∧ (insA st i ≠ [] → N ≤ L.bI i)

theorem ne_ty {W : World} {a b : Nat} {x y : Array Value} {T U : TypeId} {p q : Nat × Nat} (h1 : W.heap[a]? = some (.cells x T p)) (h2 : W.heap[b]? = some (.cells y U q)) (h : T ≠ U) : a ≠ b := by
  rintro rfl
  rw [h1] at h2
  injection h2 with h2
  injection h2 with _ h3
  exact h h3
theorem WkAt.stay {N n r : Nat} {m : Mo} {f : Fn} {L : Lay} {st : Wk} {sd cm : List Sp} {W W' : World} (h : WkAt N n r m f L st sd cm W) (hb : Below W.heap.size W W') : WkAt N n r m f L st sd cm W' :=
  ⟨blk_stay h.wb hb, blk_stay h.ib hb, blk_stay h.cb hb, blk_stay h.mb hb, blk_stay h.jb hb, h.sb.stay hb, h.db.stay hb, fun i hi hn => (h.iv i hi hn).stay hb, fun i hi => blk_stay (h.cv i hi) hb, h.dsc, h.ds, h.di, h.dj, h.dc, h.lo, h.lv⟩
theorem WkAt.setM {N n r : Nat} {m : Mo} {f : Fn} {L : Lay} {st : Wk} {sd cm : List Sp} {W W' : World} (h : WkAt N n r m f L st sd cm W) (ho : OnlyB L.gM W W') {mar' : List Bool} (hm : W'.heap[L.gM]? = some (.cells (mar'.map bV).toArray 4)) : WkAt N n r m f L { st with mar := mar' } sd cm W' :=
  ⟨ho.blk h.wb (ne_ty h.wb h.mb (by decide)), ho.blk h.ib (ne_ty h.ib h.mb (by decide)), ho.blk h.cb (ne_ty h.cb h.mb (by decide)), hm, ho.blk h.jb (ne_ty h.jb h.mb (by decide)), h.sb.only ho (ne_ty h.sb h.mb (by decide)), h.db.only ho (ne_ty h.db h.mb (by decide)), fun i hi hn => (h.iv i hi hn).only ho (ne_ty (h.iv i hi hn) h.mb (by decide)), fun i hi => ho.blk (h.cv i hi) (ne_ty (h.cv i hi) h.mb (by decide)), h.dsc, h.ds, h.di, h.dj, h.dc, h.lo, h.lv⟩
theorem WkAt.setJ {N n r : Nat} {m : Mo} {f : Fn} {L : Lay} {st : Wk} {sd cm : List Sp} {W W' : World} (h : WkAt N n r m f L st sd cm W) (ho : OnlyB L.gJ W W') {jn' : List Nat} (hm : W'.heap[L.gJ]? = some (.cells (jn'.map nV).toArray 3)) : WkAt N n r m f L { st with jn := jn' } sd cm W' :=
  ⟨ho.blk h.wb (ne_ty h.wb h.jb (by decide)), ho.blk h.ib (ne_ty h.ib h.jb (by decide)), ho.blk h.cb (ne_ty h.cb h.jb (by decide)), ho.blk h.mb (ne_ty h.mb h.jb (by decide)), hm, h.sb.only ho (ne_ty h.sb h.jb (by decide)), h.db.only ho (ne_ty h.db h.jb (by decide)), fun i hi hn => (h.iv i hi hn).only ho (ne_ty (h.iv i hi hn) h.jb (by decide)), fun i hi => ho.blk (h.cv i hi) (h.dj i hi), h.dsc, h.ds, h.di, h.dj, h.dc, h.lo, h.lv⟩
theorem WkAt.setS {N n r : Nat} {m : Mo} {f : Fn} {L : Lay} {st : Wk} {sd cm : List Sp} {W W' : World} (h : WkAt N n r m f L st sd cm W) (ho : OnlyB L.gs W W') {sd' : List Sp} (hm : RgB W' L.gs sd') : WkAt N n r m f L st sd' cm W' :=
  ⟨ho.blk h.wb (ne_ty h.wb h.sb (by decide)), ho.blk h.ib (ne_ty h.ib h.sb (by decide)), ho.blk h.cb (ne_ty h.cb h.sb (by decide)), ho.blk h.mb (ne_ty h.mb h.sb (by decide)), ho.blk h.jb (ne_ty h.jb h.sb (by decide)), hm, h.db.only ho (fun e => h.dsc e.symm), fun i hi hn => (h.iv i hi hn).only ho (h.ds i hi hn).1, fun i hi => ho.blk (h.cv i hi) (ne_ty (h.cv i hi) h.sb (by decide)), h.dsc, h.ds, h.di, h.dj, h.dc, h.lo, h.lv⟩
theorem WkAt.setD {N n r : Nat} {m : Mo} {f : Fn} {L : Lay} {st : Wk} {sd cm : List Sp} {W W' : World} (h : WkAt N n r m f L st sd cm W) (ho : OnlyB L.gc W W') {cm' : List Sp} (hm : RgB W' L.gc cm') : WkAt N n r m f L st sd cm' W' :=
  ⟨ho.blk h.wb (ne_ty h.wb h.db (by decide)), ho.blk h.ib (ne_ty h.ib h.db (by decide)), ho.blk h.cb (ne_ty h.cb h.db (by decide)), ho.blk h.mb (ne_ty h.mb h.db (by decide)), ho.blk h.jb (ne_ty h.jb h.db (by decide)), h.sb.only ho h.dsc, hm, fun i hi hn => (h.iv i hi hn).only ho (h.ds i hi hn).2, fun i hi => ho.blk (h.cv i hi) (ne_ty (h.cv i hi) h.db (by decide)), h.dsc, h.ds, h.di, h.dj, h.dc, h.lo, h.lv⟩
theorem insA_set {st : Wk} {i j : Nat} {l : List Sp} (hi : i < st.ins.length) : insA { st with ins := st.ins.set i l } j = if j = i then l else insA st j := by
  unfold insA
  by_cases e : j = i
  · subst e; rw [if_pos rfl]; exact getD_set_same hi _ _
  · rw [if_neg e]; exact getD_set_ne (fun h => e h.symm) _ _
theorem chgA_set {st : Wk} {i j : Nat} {l : List Nat} (hi : i < st.chg.length) : chgA { st with chg := st.chg.set i l } j = if j = i then l else chgA st j := by
  unfold chgA
  by_cases e : j = i
  · subst e; rw [if_pos rfl]; exact getD_set_same hi _ _
  · rw [if_neg e]; exact getD_set_ne (fun h => e h.symm) _ _
theorem WkAt.setC {N n r : Nat} {m : Mo} {f : Fn} {L : Lay} {st : Wk} {sd cm : List Sp} {W W' : World} (h : WkAt N n r m f L st sd cm W) (hlc : st.chg.length = n) {i : Nat} (hi : i < n) (ho : OnlyB (L.bC i) W W') {c' : List Nat} (hm : W'.heap[L.bC i]? = some (.cells (c'.map nV).toArray 3)) : WkAt N n r m f L { st with chg := st.chg.set i c' } sd cm W' := by
  have hc := h.cv i hi
  refine ⟨ho.blk h.wb (ne_ty h.wb hc (by decide)), ho.blk h.ib (ne_ty h.ib hc (by decide)), ho.blk h.cb (ne_ty h.cb hc (by decide)), ho.blk h.mb (ne_ty h.mb hc (by decide)), ho.blk h.jb (fun e => h.dj i hi e.symm), h.sb.only ho (ne_ty h.sb hc (by decide)), h.db.only ho (ne_ty h.db hc (by decide)), fun j hj hn => (h.iv j hj hn).only ho (ne_ty (h.iv j hj hn) hc (by decide)), fun j hj => ?_, h.dsc, h.ds, h.di, h.dj, h.dc, h.lo, h.lv⟩
  rw [chgA_set (by omega)]
  by_cases e : j = i
  · subst e; rw [if_pos rfl]; exact hm
  · rw [if_neg e]; exact ho.blk (h.cv j hj) (h.dc j i hj hi e)
theorem inV_set {L : Lay} {r : Nat} {ins : List (List Sp)} {i : Nat} {l : List Sp} (h0 : ins.getD i [] ≠ []) (hl : l ≠ []) : inV L r (ins.set i l) = inV L r ins := by
  apply List.ext_getElem?
  intro j
  unfold inV
  rw [List.getElem?_mapIdx, List.getElem?_mapIdx, List.getElem?_set]
  by_cases e : i = j
  · subst e
    rw [if_pos rfl]
    by_cases hi : i < ins.length
    · rw [if_pos hi, List.getElem?_eq_getElem hi]
      rw [getD_lt hi] at h0
      simp only [Option.map_some, rowV, if_neg h0, if_neg hl]
    · rw [if_neg hi, List.getElem?_eq_none (by omega)]
  · rw [if_neg e]
theorem WkAt.setI {N n r : Nat} {m : Mo} {f : Fn} {L : Lay} {st : Wk} {sd cm : List Sp} {W W' : World} (h : WkAt N n r m f L st sd cm W) (hli : st.ins.length = n) {i : Nat} (hi : i < n) (h0 : insA st i ≠ []) (ho : OnlyB (L.bI i) W W') {l' : List Sp} (hl : l' ≠ []) (hm : RgB W' (L.bI i) l') : WkAt N n r m f L { st with ins := st.ins.set i l' } sd cm W' := by
  have hc := h.iv i hi h0
  have en : ∀ j, insA { st with ins := st.ins.set i l' } j ≠ [] → insA st j ≠ [] := fun j hj => by
    rw [insA_set (by omega)] at hj
    by_cases e : j = i
    · subst e; exact h0
    · rwa [if_neg e] at hj
  refine ⟨ho.blk h.wb (ne_ty h.wb hc (by decide)), ?_, ho.blk h.cb (ne_ty h.cb hc (by decide)), ho.blk h.mb (ne_ty h.mb hc (by decide)), ho.blk h.jb (ne_ty h.jb hc (by decide)), h.sb.only ho (fun e => (h.ds i hi h0).1 e.symm), h.db.only ho (fun e => (h.ds i hi h0).2 e.symm), fun j hj hn => ?_, fun j hj => ho.blk (h.cv j hj) (ne_ty (h.cv j hj) hc (by decide)), h.dsc, fun j hj hn => h.ds j hj (en j hn), fun j k hj hk hjk h1 h2 => h.di j k hj hk hjk (en j h1) (en k h2), h.dj, h.dc, h.lo, fun j hj => ⟨(h.lv j hj).1, fun hn => (h.lv j hj).2 (en j hn)⟩⟩
  · show W'.heap[L.gI]? = some (.cells (inV L r (st.ins.set i l')).toArray _)
    rw [inV_set h0 hl]
    exact ho.blk h.ib (ne_ty h.ib hc (by decide))
  · have hn' := en j hn
    rw [insA_set (by omega)]
    by_cases e : j = i
    · subst e; rw [if_pos rfl]; exact hm
    · rw [if_neg e]; exact (h.iv j hj hn').only ho (h.di j i hj hi e hn' h0)
def Lay.newI (L : Lay) (i G : Nat) : Lay := { L with bI := fun k => if k = i then G else L.bI k }
theorem inV_new {L : Lay} {r : Nat} {ins : List (List Sp)} {i G : Nat} {l : List Sp} (hi : i < ins.length) (hl : l ≠ []) : inV (L.newI i G) r (ins.set i l) = (inV L r ins).set i (.slice (some ⟨G, 0, none⟩) r r) := by
  apply List.ext_getElem?
  intro j
  unfold inV
  rw [List.getElem?_mapIdx, List.getElem?_set, List.getElem?_set, List.length_mapIdx, List.getElem?_mapIdx]
  by_cases e : i = j
  · subst e
    rw [if_pos rfl, if_pos rfl, if_pos hi, if_pos hi]
    simp only [Option.map_some, rowV, if_neg hl]
    show some (Value.slice (some ⟨(if i = i then G else L.bI i), 0, none⟩) r r) = _
    rw [if_pos rfl]
  · rw [if_neg e, if_neg e]
    have hb : (L.newI i G).bI j = L.bI j := if_neg fun h => e h.symm
    rw [hb]
/-- Where nothing stood a list of its own stands now. -/
theorem WkAt.first {N n r : Nat} {m : Mo} {f : Fn} {L : Lay} {st : Wk} {sd cm : List Sp} {W W' : World} (h1 : WkAt N n r m f L st sd cm W) (hli : st.ins.length = n) {i G : Nat} (hi : i < n) (hGN : N ≤ G) (hGd : G ≠ L.gs ∧ G ≠ L.gc ∧ ∀ k, k < n → insA st k ≠ [] → G ≠ L.bI k) {l : List Sp} (hl : l ≠ []) (hg : RgB W G l) (ho : OnlyB L.gI W W') (hm : W'.heap[L.gI]? = some (.cells ((inV L r st.ins).set i (.slice (some ⟨G, 0, none⟩) r r)).toArray 34)) : WkAt N n r m f (L.newI i G) { st with ins := st.ins.set i l } sd cm W' := by
  have bi : ∀ j, (L.newI i G).bI j = if j = i then G else L.bI j := fun _ => rfl
  refine ⟨ho.blk h1.wb (ne_ty h1.wb h1.ib (by decide)), ?_, ho.blk h1.cb (ne_ty h1.cb h1.ib (by decide)), ho.blk h1.mb (ne_ty h1.mb h1.ib (by decide)), ho.blk h1.jb (ne_ty h1.jb h1.ib (by decide)), h1.sb.only ho (ne_ty h1.sb h1.ib (by decide)), h1.db.only ho (ne_ty h1.db h1.ib (by decide)), fun j hj hn => ?_, fun j hj => ho.blk (h1.cv j hj) (ne_ty (h1.cv j hj) h1.ib (by decide)), h1.dsc, fun j hj hn => ?_, fun j k hj hk hjk n1 n2 => ?_, h1.dj, h1.dc, h1.lo, fun j hj => ⟨(h1.lv j hj).1, fun hn => ?_⟩⟩
  · show W'.heap[L.gI]? = some (.cells (inV (L.newI i G) r (st.ins.set i l)).toArray _)
    rw [inV_new (by omega) hl]
    exact hm
  · rw [insA_set (by omega)] at hn ⊢
    rw [bi]
    by_cases e : j = i
    · rw [if_pos e, if_pos e]; exact hg.only ho (ne_ty hg h1.ib (by decide))
    · rw [if_neg e] at hn
      rw [if_neg e, if_neg e]; exact (h1.iv j hj hn).only ho (ne_ty (h1.iv j hj hn) h1.ib (by decide))
  · rw [insA_set (by omega)] at hn
    rw [bi]
    by_cases e : j = i
    · rw [if_pos e]; exact ⟨hGd.1, hGd.2.1⟩
    · rw [if_neg e] at hn
      rw [if_neg e]; exact h1.ds j hj hn
  · rw [insA_set (by omega)] at n1 n2
    rw [bi, bi]
    by_cases e1 : j = i
    · by_cases e2 : k = i
      · omega
      · rw [if_neg e2] at n2
        rw [if_pos e1, if_neg e2]
        exact hGd.2.2 k hk n2
    · rw [if_neg e1] at n1
      by_cases e2 : k = i
      · rw [if_neg e1, if_pos e2]
        exact fun e => hGd.2.2 j hj n1 e.symm
      · rw [if_neg e2] at n2
        rw [if_neg e1, if_neg e2]
        exact h1.di j k hj hk hjk n1 n2
  · rw [insA_set (by omega)] at hn
    rw [bi]
    by_cases e : j = i
    · rw [if_pos e]; exact hGN
    · rw [if_neg e] at hn
      rw [if_neg e]; exact (h1.lv j hj).2 hn
/-- A new block is none of those. -/
theorem WkAt.fresh {N n r : Nat} {m : Mo} {f : Fn} {L : Lay} {st : Wk} {sd cm : List Sp} {W : World} (h : WkAt N n r m f L st sd cm W) {G : Nat} (hG : W.heap.size ≤ G) : N ≤ G ∧ G ≠ L.gs ∧ G ≠ L.gc ∧ ∀ k, k < n → insA st k ≠ [] → G ≠ L.bI k := by
  have lt := fun {k : Nat} {o : Obj} (e : W.heap[k]? = some o) => (Array.getElem?_eq_some_iff.1 e).1
  have a0 := lt h.wb
  have a1 := lt h.sb
  have a2 := lt h.db
  have a3 := h.lo.1
  refine ⟨by omega, by omega, by omega, fun k hk hn => ?_⟩
  have := lt (h.iv k hk hn)
  omega
theorem rgb_sps {W : World} {g : Nat} {l : List Sp} (h : RgB W g l) (hl : l.length ≤ 64) : Sps W (some ⟨g, 0, none⟩) l := by
  refine ⟨by omega, fun i cs hi => ⟨g, 0, rfl, fun j v hj => ?_⟩⟩
  rw [List.getElem?_map] at hi
  by_cases hil : i < l.length
  · rw [List.getElem?_eq_getElem hil] at hi
    injection hi with hi
    subst hi
    have c0 := h.c0 hil
    have c1 := h.c1 hil
    rw [gS_lt hil] at c0 c1
    match j, hj with
    | 0, hj => injection hj with hj; subst hj; rw [show 0 + (i * 2 + 0) = i * 2 by omega]; exact c0
    | 1, hj => injection hj with hj; subst hj; rw [show 0 + (i * 2 + 1) = i * 2 + 1 by omega]; exact c1
    | j + 2, hj => simp [spC] at hj
  · rw [List.getElem?_eq_none (by omega)] at hi; cases hi
theorem WkAt.k0 {N n r : Nat} {m : Mo} {f : Fn} {L : Lay} {st : Wk} {sd cm : List Sp} {W : World} (h : WkAt N n r m f L st sd cm W) : W.cell? ⟨L.B, 0, none⟩ = some (.slice m.ta m.ths.length m.tc) := cell_of_obj h.wb (j := 0) (v := .slice m.ta m.ths.length m.tc) rfl
theorem WkAt.k1 {N n r : Nat} {m : Mo} {f : Fn} {L : Lay} {st : Wk} {sd cm : List Sp} {W : World} (h : WkAt N n r m f L st sd cm W) : W.cell? ⟨L.B, 1, none⟩ = some (.slice m.fa m.funcs.length m.fc) := cell_of_obj h.wb (j := 1) (v := .slice m.fa m.funcs.length m.fc) rfl
theorem WkAt.k2 {N n r : Nat} {m : Mo} {f : Fn} {L : Lay} {st : Wk} {sd cm : List Sp} {W : World} (h : WkAt N n r m f L st sd cm W) : W.cell? ⟨L.B, 2, none⟩ = some (.string f.name) := cell_of_obj h.wb (j := 2) (v := .string f.name) rfl
theorem WkAt.k3 {N n r : Nat} {m : Mo} {f : Fn} {L : Lay} {st : Wk} {sd cm : List Sp} {W : World} (h : WkAt N n r m f L st sd cm W) : W.cell? ⟨L.B, 3, none⟩ = some (.slice f.pa f.params.length f.pc) := cell_of_obj h.wb (j := 3) (v := .slice f.pa f.params.length f.pc) rfl
theorem WkAt.k4 {N n r : Nat} {m : Mo} {f : Fn} {L : Lay} {st : Wk} {sd cm : List Sp} {W : World} (h : WkAt N n r m f L st sd cm W) : W.cell? ⟨L.B, 4, none⟩ = some (.int .i64 f.regs) := cell_of_obj h.wb (j := 4) (v := .int .i64 f.regs) rfl
theorem WkAt.k5 {N n r : Nat} {m : Mo} {f : Fn} {L : Lay} {st : Wk} {sd cm : List Sp} {W : World} (h : WkAt N n r m f L st sd cm W) : W.cell? ⟨L.B, 5, none⟩ = some (.int .i64 f.words) := cell_of_obj h.wb (j := 5) (v := .int .i64 f.words) rfl
theorem WkAt.k6 {N n r : Nat} {m : Mo} {f : Fn} {L : Lay} {st : Wk} {sd cm : List Sp} {W : World} (h : WkAt N n r m f L st sd cm W) : W.cell? ⟨L.B, 6, none⟩ = some (.slice f.ca f.code.length f.cc) := cell_of_obj h.wb (j := 6) (v := .slice f.ca f.code.length f.cc) rfl
theorem WkAt.k7 {N n r : Nat} {m : Mo} {f : Fn} {L : Lay} {st : Wk} {sd cm : List Sp} {W : World} (h : WkAt N n r m f L st sd cm W) : W.cell? ⟨L.B, 7, none⟩ = some (.slice (some ⟨L.gI, 0, none⟩) n n) := cell_of_obj h.wb (j := 7) (v := .slice (some ⟨L.gI, 0, none⟩) n n) rfl
theorem WkAt.k8 {N n r : Nat} {m : Mo} {f : Fn} {L : Lay} {st : Wk} {sd cm : List Sp} {W : World} (h : WkAt N n r m f L st sd cm W) : W.cell? ⟨L.B, 8, none⟩ = some (.slice (some ⟨L.gC, 0, none⟩) n n) := cell_of_obj h.wb (j := 8) (v := .slice (some ⟨L.gC, 0, none⟩) n n) rfl
theorem WkAt.k9 {N n r : Nat} {m : Mo} {f : Fn} {L : Lay} {st : Wk} {sd cm : List Sp} {W : World} (h : WkAt N n r m f L st sd cm W) : W.cell? ⟨L.B, 9, none⟩ = some (.slice (some ⟨L.gM, 0, none⟩) n n) := cell_of_obj h.wb (j := 9) (v := .slice (some ⟨L.gM, 0, none⟩) n n) rfl
theorem WkAt.k10 {N n r : Nat} {m : Mo} {f : Fn} {L : Lay} {st : Wk} {sd cm : List Sp} {W : World} (h : WkAt N n r m f L st sd cm W) : W.cell? ⟨L.B, 10, none⟩ = some (.slice (some ⟨L.gJ, 0, none⟩) n n) := cell_of_obj h.wb (j := 10) (v := .slice (some ⟨L.gJ, 0, none⟩) n n) rfl
theorem WkAt.k11 {N n r : Nat} {m : Mo} {f : Fn} {L : Lay} {st : Wk} {sd cm : List Sp} {W : World} (h : WkAt N n r m f L st sd cm W) : W.cell? ⟨L.B, 11, none⟩ = some (.slice (some ⟨L.gs, 0, none⟩) r r) := cell_of_obj h.wb (j := 11) (v := .slice (some ⟨L.gs, 0, none⟩) r r) rfl
theorem WkAt.k12 {N n r : Nat} {m : Mo} {f : Fn} {L : Lay} {st : Wk} {sd cm : List Sp} {W : World} (h : WkAt N n r m f L st sd cm W) : W.cell? ⟨L.B, 12, none⟩ = some (.slice (some ⟨L.gc, 0, none⟩) r r) := cell_of_obj h.wb (j := 12) (v := .slice (some ⟨L.gc, 0, none⟩) r r) rfl
end Go.Proofs.YtfmkjdfidenfkaaDoor
namespace Go.Proofs.YtfmkjdfidenfkaaDoor
open Go.RowKit
open S8 (meetB meetS joinS widS belA belB belC allS doR doB doS emB pot sv join_any)

/-- Changes of the first k registers. -/
def chK (s c : List Sp) (n : List Nat) (k : Nat) : List Nat := n.mapIdx fun i x => if i < k then (if chB s c i then x + 1 else x) else x
def someK (s c : List Sp) (k : Nat) : Bool := (List.range k).any (chB s c)
theorem chK_zero (s c : List Sp) (n : List Nat) : chK s c n 0 = n := by
  apply List.ext_getElem?
  intro j
  unfold chK
  rw [List.getElem?_mapIdx]
  cases n[j]? <;> simp
theorem chK_len (s c : List Sp) (n : List Nat) (k : Nat) : (chK s c n k).length = n.length := by unfold chK; simp
theorem chK_all (s c : List Sp) (n : List Nat) {k : Nat} (h : n.length ≤ k) : chK s c n k = chC s c n := by
  apply List.ext_getElem?
  intro j
  unfold chK chC
  rw [List.getElem?_mapIdx, List.getElem?_mapIdx]
  by_cases hj : j < n.length
  · rw [List.getElem?_eq_getElem hj]
    simp only [Option.map_some]
    rw [if_pos (by omega)]
  · rw [List.getElem?_eq_none (by omega)]; rfl
theorem chK_at (s c : List Sp) (n : List Nat) {k : Nat} (h : k < n.length) : (chK s c n k)[k]? = some (n.getD k 0) := by
  unfold chK
  rw [List.getElem?_mapIdx, List.getElem?_eq_getElem h, getD_lt h]
  simp
theorem chK_no {s c : List Sp} {n : List Nat} {k : Nat} (h : chB s c k = false) : chK s c n (k + 1) = chK s c n k := by
  apply List.ext_getElem?
  intro j
  unfold chK
  rw [List.getElem?_mapIdx, List.getElem?_mapIdx]
  congr 1
  funext x
  by_cases hj : j < k
  · rw [if_pos (by omega), if_pos hj]
  · by_cases e : j = k
    · subst e; rw [if_pos (by omega), h]; simp
    · rw [if_neg (by omega), if_neg hj]
theorem chK_yes {s c : List Sp} {n : List Nat} {k : Nat} (hk : k < n.length) (h : chB s c k = true) : chK s c n (k + 1) = (chK s c n k).set k (n.getD k 0 + 1) := by
  apply List.ext_getElem?
  intro j
  rw [List.getElem?_set, chK_len]
  unfold chK
  rw [List.getElem?_mapIdx, List.getElem?_mapIdx]
  by_cases e : k = j
  · subst e
    rw [if_pos rfl, if_pos hk, List.getElem?_eq_getElem hk, getD_lt hk]
    simp only [Option.map_some]
    rw [if_pos (by omega), if_pos h]
  · rw [if_neg e]
    congr 1
    funext x
    by_cases hj : j < k
    · rw [if_pos (by omega), if_pos hj]
    · rw [if_neg (by omega), if_neg hj]
theorem someK_succ (s c : List Sp) (k : Nat) : someK s c (k + 1) = (someK s c k || chB s c k) := by
  unfold someK
  rw [List.range_succ, List.any_append]
  simp
theorem inV_at {L : Lay} {r : Nat} {st : Wk} {i : Nat} (hi : i < st.ins.length) : (inV L r st.ins).toArray[i]? = some (rowV r (L.bI i) (insA st i)) := by
  rw [List.getElem?_toArray]
  unfold inV insA
  rw [List.getElem?_mapIdx, List.getElem?_eq_getElem hi, getD_lt hi]
  rfl
theorem chV_at {L : Lay} {r n i : Nat} (hi : i < n) : (chV L r n).toArray[i]? = some (.slice (some ⟨L.bC i, 0, none⟩) r r) := by
  rw [List.getElem?_toArray]
  unfold chV
  rw [List.getElem?_map, List.getElem?_range hi]
  rfl
theorem nVs_at {l : List Nat} {k x : Nat} (h : l[k]? = some x) : (l.map nV).toArray[k]? = some (.int .i64 (x : Int)) := by
  rw [List.getElem?_toArray, List.getElem?_map, h]; rfl
theorem nVs_set (l : List Nat) (k x : Nat) : (l.map nV).toArray.setIfInBounds k (.int .i64 (x : Int)) = ((l.set k x).map nV).toArray := by
  rw [List.setIfInBounds_toArray, List.map_set]; rfl

theorem ch_sam (s c : List Sp) (k : Nat) : chB s c k = !samP (joinS (gS s k) (gS c k)) (gS s k) := by
  unfold chB
  generalize joinS (gS s k) (gS c k) = a
  generalize gS s k = b
  obtain ⟨a1, a2⟩ := a
  obtain ⟨b1, b2⟩ := b
  unfold samP
  simp only [ne_eq, Prod.mk.injEq]
  by_cases h1 : a1 = b1 <;> by_cases h2 : a2 = b2 <;> simp [h1, h2]

set_option maxRecDepth 100000 in
set_option maxHeartbeats 8000000 in
theorem changed_any {N n r : Nat} {m : Mo} {f : Fn} {L : Lay} {st : Wk} {sd cm : List Sp} {tv : Nat} (w : World) (h : WkAt N n r m f L st sd cm w) (hli : st.ins.length = n) (hlc : st.chg.length = n) (ht : tv < n) (hr : r ≤ 64) (h0 : insA st tv ≠ []) (hil : (insA st tv).length = r) (hcl : (chgA st tv).length = r) (hcm : cm.length = r) (hcb : ∀ k ∈ chgA st tv, k ≤ 1000000) : Calls Tryd.prog 75 #[.pointer (some ⟨L.B, 0, none⟩), .int .i64 (tv : Int)] w fun e w' => e = .returned (.bool (someB (insA st tv) cm)) ∧ OnlyB (L.bC tv) w w' ∧ w'.heap[L.bC tv]? = some (.cells ((chC (insA st tv) cm (chgA st tv)).map nV).toArray 3) := by
  have HJ := Hid.mk' fun (a b : Sp) W => join_any a b W
  have HW := Hid.mk' h
  have e1 := h.k7
  have e2 := cell_of_obj h.ib (inV_at (by omega : tv < st.ins.length))
  rw [rowV, if_neg h0] at e2
  have hti : (tv : Int) < (n : Int) := by omega
  have HS : Hid (someB (insA st tv) cm = someK (insA st tv) cm r) := by unfold someB someK; rw [hil]; rfl
  have HC : Hid (chC (insA st tv) cm (chgA st tv) = chK (insA st tv) cm (chgA st tv) r) := (chK_all _ _ _ (by omega)).symm
  have HZ := Hid.mk' (chK_zero (insA st tv) cm (chgA st tv))
  have HCV := Hid.mk' (h.cv tv ht)
  clear h
  go_enter Tryd.func75, Tryd.ntmps75
  go_wp2_with fail
  go_loopw [5, 17] (fun t5 t17 wr => ∃ k : Nat, k ≤ r ∧ t5 = .bool (someK (insA st tv) cm k) ∧ t17 = .int .i64 (k : Int) ∧ OnlyB (L.bC tv) w wr ∧ wr.heap[L.bC tv]? = some (.cells ((chK (insA st tv) cm (chgA st tv) k).map nV).toArray 3)) (fun _ t17 _ => r - (intOf t17).toNat)
  case atStart => exact ⟨0, Nat.zero_le _, rfl, rfl, OnlyB.refl _ _, by rw [HZ.out]; exact HCV.out⟩
  case round =>
    obtain ⟨k, hk, rfl, rfl, ho, hc⟩ := hrel
    by_cases hlt : k < r
    · have hki : (k : Int) < (r : Int) := by omega
      have hA := HW.out.setC hlc ht ho hc
      have HO := Hid.mk' ho
      have HCC := Hid.mk' hc
      have a8 := hA.k8
      have a12 := hA.k12
      have aC := cell_of_obj hA.cb (chV_at ht)
      have i0 := (hA.iv tv ht h0).c0 (a := k) (by show k < (insA st tv).length; omega)
      have i1 := (hA.iv tv ht h0).c1 (a := k) (by show k < (insA st tv).length; omega)
      have d0 := hA.db.c0 (a := k) (by omega)
      have d1 := hA.db.c1 (a := k) (by omega)
      have HA := Hid.mk' hA
      clear hA ho hc e1 e2
      simp only [show ∀ c', insA { st with chg := c' } tv = insA st tv from fun _ => rfl] at i0 i1
      have HCB : Hid (chB (insA st tv) cm k = !samP (joinS (gS (insA st tv) k) (gS cm k)) (gS (insA st tv) k)) := ch_sam _ _ _
      have HJ2 := Hid.mk' fun W => HJ.out (gS (insA st tv) k) (gS cm k) W
      generalize gS (insA st tv) k = S at *
      generalize gS cm k = D at *
      obtain ⟨S1, S2⟩ := S
      obtain ⟨D1, D2⟩ := D
      simp only at i0 i1 d0 d1
      generalize joinS (S1, S2) (D1, D2) = J at *
      obtain ⟨J1, J2⟩ := J
      go_upto_region 5 with fail
      have B := Below.one (Below.refl _ wr) (.cells #[.int .i64 S1, .int .i64 S2] 54)
      have hX := heap_alloc_new wr (.cells #[.int .i64 S1, .int .i64 S2] 54)
      have x0 := cell_of_obj hX (j := 0) (v := .int .i64 S1) rfl
      have x1 := cell_of_obj hX (j := 1) (v := .int .i64 S2) rfl
      have f12 := cell_kept_below a12 B
      have g0 := cell_kept_below d0 B
      have g1 := cell_kept_below d1 B
      have HB := Hid.mk' B
      generalize wr.alloc (.cells #[.int .i64 S1, .int .i64 S2] 54) = W at *
      have hq := fun w => equalIn_sp (J1, J2) (S1, S2) w
      have hg : ∀ (w : World) (op : BinOp) (a b : Operand) (xs ys : Array Value), (eqGuard op 54 a b (.agg xs) (.agg ys)).run Tryd.prog w = .ok () w := fun w op a b xs ys => run_eqGuard_agg w op 54 a b xs ys (by kernel_rfl)
      generalize samP (J1, J2) (S1, S2) = sm at *
      clear hX B d0 d1 a12
      simp only at hq
      go_cut [32] from 22 to 31 (fun t32 wx => t32 = .bool (!sm) ∧ Below W.heap.size W wx)
      case first =>
        go_region_held3 (fun w' => w'.cell? ⟨L.B, 12, none⟩ = some (.slice (some ⟨L.gc, 0, none⟩) r r) ∧ w'.cell? ⟨L.gc, k * 2, none⟩ = some (.int .i64 D1) ∧ w'.cell? ⟨L.gc, k * 2 + 1, none⟩ = some (.int .i64 D2) ∧ w'.cell? ⟨wr.heap.size, 0, none⟩ = some (.int .i64 S1) ∧ w'.cell? ⟨wr.heap.size, 1, none⟩ = some (.int .i64 S2)) (go_keep) ((go_at_call 76; refine (HJ2.out _).mono ?_; rintro e w5 ⟨rfl, hb5⟩; have B5 := Below.on (Below.drew (Below.refl _ W)) hb5; have y0 := cell_kept_below f12 B5; have y1 := cell_kept_below g0 B5; have y2 := cell_kept_below g1 B5; have y3 := cell_kept_below x0 B5; have y4 := cell_kept_below x1 B5))
        go_wp2_with fail
        go_meet
        case rel => exact ⟨rfl, B5⟩
      case rest =>
        obtain ⟨rfl, hb⟩ := hcut
        have HBC := Hid.mk' (Below.on HB.out hb)
        clear x0 x1 f12 g0 g1 hq hg hb HB
        cases sm
        · obtain ⟨x, hx⟩ : ∃ x, (chgA st tv).getD k 0 = x := ⟨_, rfl⟩
          have hxl : x ≤ 1000000 := by rw [← hx, getD_lt (by omega)]; exact hcb _ (List.getElem_mem _)
          have HCH : Hid (chK (insA st tv) cm (chgA st tv) (k + 1) = (chK (insA st tv) cm (chgA st tv) k).set k (x + 1)) := by rw [← hx]; exact chK_yes (by omega) HCB.out
          have HSM : Hid (someK (insA st tv) cm (k + 1) = true) := by
            have e : chB (insA st tv) cm k = true := HCB.out
            show _ = _
            rw [someK_succ, e, Bool.or_true]
          have hbl := blk_stay HCC.out HBC.out
          have b8 := cell_kept_below a8 HBC.out
          have bC := cell_kept_below aC HBC.out
          have bx := cell_of_obj hbl (nVs_at (by rw [chK_at _ _ _ (by omega), hx] : (chK (insA st tv) cm (chgA st tv) k)[k]? = some x))
          have bf := Lib.frozen_of_heap hbl k
          have hw : IntKind.i64.wrap ((x : Int) + 1) = ((x + 1 : Nat) : Int) := by rw [IntKind.wrap_i64]; omega
          have hbe := heap_setCell_same wc (L.bC tv) k _ _ (.int .i64 ((x + 1 : Nat) : Int)) hbl
          rw [nVs_set, ← HCH.out] at hbe
          have HF : Hid (OnlyB (L.bC tv) w (wc.setCell ⟨L.bC tv, k, none⟩ (.int .i64 ((x + 1 : Nat) : Int)))) := (HO.out.trans (OnlyB.of_below HBC.out)).set k _
          have HE := Hid.mk' hbe
          clear hbl hbe a8 aC hx hxl HCH hcb
          go_wp2_with fail

          go_roundw
          case rel => exact ⟨k + 1, by omega, by rw [HSM.out], by go_num, HF.out, HE.out⟩
          case measure => simp [intOf]; omega
        · have HCH : Hid (chK (insA st tv) cm (chgA st tv) (k + 1) = chK (insA st tv) cm (chgA st tv) k) := chK_no HCB.out
          have HSM : Hid (someK (insA st tv) cm (k + 1) = someK (insA st tv) cm k) := by
            have e : chB (insA st tv) cm k = false := HCB.out
            show _ = _
            rw [someK_succ, e, Bool.or_false]
          have hbl := blk_stay HCC.out HBC.out
          rw [← HCH.out] at hbl
          have HE := Hid.mk' hbl
          have HF : Hid (OnlyB (L.bC tv) w wc) := HO.out.trans (OnlyB.of_below HBC.out)
          clear hbl HCH hcb
          go_wp2_with fail
          go_roundw
          case rel => exact ⟨k + 1, by omega, by rw [HSM.out], by go_num, HF.out, HE.out⟩
          case measure => simp [intOf]; omega
    · obtain rfl : k = r := by omega
      have HO := Hid.mk' ho
      have HCC := Hid.mk' hc
      have hki : ¬ (k : Int) < (k : Int) := by omega
      clear ho hc
      go_wp2_with fail
      exact bodyPost_ret (v := .bool (someK (insA st tv) cm k)) (by simp [results, Tryd.results75, go_sem, *]) rfl ⟨by rw [HS.out], HO.out, by rw [HC.out]; exact HCC.out⟩
end Go.Proofs.YtfmkjdfidenfkaaDoor
