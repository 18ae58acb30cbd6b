/- The document's own table. The document's own Leads. The document's own Order. The document's own Order: in memory. -/
import Derived.Test.YtdnilonfgbinaaaYd
import Derived.Test.YtdnilonfgbinaaaYb
namespace Go.Proofs.Ytdnilonfgbinaaa
open Go.RowKit Go.Sort

theorem Try.infoL : (Try.prog.info? 27).map (fun i => (i.zero, i.size, i.bytes)) = some (some (.slice none 0 0), 1, 24) := by kernel_rfl
/-- Rows of the call's own. -/
abbrev Or (N : Nat) (vs : List Value) (v : Value) (W : World) : Prop := W.ownsRow N 27 1 v vs.length vs
theorem or_app {N : Nat} {vs : List Value} {v : Value} {W : World} (h : Or N vs v W) (hN : N ≤ W.heap.size) (hl : vs.length ≤ 1000000) (a : Option Addr) (m c : Nat) (ty : TypeId) :
    ∃ v' W', (Builtin.append_ #[64, 64] ty #[v, .slice (some ⟨W.heap.size, 0, none⟩) 1 1]).run Try.prog (W.alloc (.cells #[.slice a m c] 27)) = .ok v' W' ∧ Or N (vs ++ [.slice a m c]) v' W' ∧ W.grownBy W' v.ownBlock := by
  obtain ⟨v', W', h1, h2, h3⟩ := app_one (t := 64) Try.underlying64 Try.infoL rfl (by decide) h hN (by unfold maxLen; omega) (by omega) #[.slice a m c] rfl (by simp [Value.oneCell']) ty
  refine ⟨v', W', h1, ?_, h3⟩
  unfold Or
  rw [List.length_append]
  exact h2
/-- Numbers behind one another. -/
theorem on_cat {N : Nat} {l t : List Nat} {v : Value} {a : Option Addr} {c : Nat} {W : World} (h : On N l v W) (hL : Lst W a (t.map nV)) (ha : a = none → t = []) (hN : N ≤ W.heap.size) (hl : l.length + t.length ≤ 1000000) (ty : TypeId) :
    ∃ v' W', (Builtin.append_ #[27, 27] ty #[v, .slice a t.length c]).run Try.prog W = .ok v' W' ∧ On N (l ++ t) v' W' ∧ W.grownBy W' v.ownBlock := by
  obtain ⟨i0, hi, hz0, hz1, hz2⟩ := info_parts Try.infoN
  obtain ⟨v', W', hr, h2, h3⟩ := run_append_ownS (P := Try.prog) W N 27 ty 3 i0 (.int .i64 0) 1 8 Try.underlying27 hi hz0 hz1 hz2 rfl (by decide) v _ _ h a t.length c (t.map nV) (by simp) (fun e => by rw [ha e]; rfl) (fun ad e j u hu => by
    obtain ⟨b, o, e2, hx⟩ := hL j u hu
    rw [e] at e2
    cases e2
    rw [Addr.add_lit]
    exact hx) (by intro u hu; obtain ⟨x, _, rfl⟩ := List.mem_map.1 hu; rfl) (by unfold maxLen; omega) (by omega) hN
  refine ⟨v', W', hr, ?_, h3⟩
  unfold On
  rw [List.length_append, List.map_append]
  exact h2
/-- A table of the first so many. -/
def TbA (N : Nat) (m : Mo) (u : Nat) (v : Value) (W : World) : Prop := ∃ vs : List Value, Or N vs v W ∧ vs.length = u ∧ ∀ j, j < u → ∃ ks vj, vs[j]? = some vj ∧ IsOf m (j : Int) ks ∧ On N ks vj W
theorem TbA.stay {N : Nat} {m : Mo} {u : Nat} {v : Value} {W W' : World} (h : TbA N m u v W) (hb : Below W.heap.size W W') : TbA N m u v W' := by
  obtain ⟨vs, h1, h2, h3⟩ := h
  exact ⟨vs, own_stay h1 hb, h2, fun j hj => by obtain ⟨ks, vj, k1, k2, k3⟩ := h3 j hj; exact ⟨ks, vj, k1, k2, own_stay k3 hb⟩⟩
theorem TbA.mono {N N' : Nat} {m : Mo} {u : Nat} {v : Value} {W : World} (h : TbA N m u v W) (hN : N' ≤ N) : TbA N' m u v W := by
  obtain ⟨vs, h1, h2, h3⟩ := h
  exact ⟨vs, own_mono h1 hN, h2, fun j hj => by obtain ⟨ks, vj, k1, k2, k3⟩ := h3 j hj; exact ⟨ks, vj, k1, k2, own_mono k3 hN⟩⟩
theorem TbA.form {N : Nat} {m : Mo} {u : Nat} {v : Value} {W : World} (h : TbA N m u v W) : ∃ a c, v = .slice a u c := by
  obtain ⟨vs, h1, rfl, h3⟩ := h
  exact gown_form h1
/-- A row of the table. -/
theorem TbA.at_ {N : Nat} {m : Mo} {u : Nat} {a : Option Addr} {l c : Nat} {W : World} (h : TbA N m u (.slice a l c) W) {j : Nat} (hj : j < u) : ∃ g ks aj cj, a = some ⟨g, 0, none⟩ ∧ W.cell? ⟨g, j, none⟩ = some (.slice aj ks.length cj) ∧ IsOf m (j : Int) ks ∧ On N ks (.slice aj ks.length cj) W := by
  obtain ⟨vs, h1, rfl, h3⟩ := h
  obtain ⟨ks, vj, k1, k2, k3⟩ := h3 j hj
  obtain ⟨aj, cj, rfl⟩ := gown_form k3
  obtain ⟨a', c', e⟩ := gown_form h1
  injection e with e1 e2 e3
  subst e2
  obtain ⟨g, e1, hc, _⟩ := own_cell h1 k1
  exact ⟨g, ks, aj, cj, e1, hc, k2, k3⟩
theorem IsOf.len {m : Mo} {z : Int} {ks : List Nat} (h : IsOf m z ks) : ks.length ≤ m.funcs.length := nd_len (h.1.imp fun h => Nat.ne_of_lt h) fun x hx => ((h.2 x).1 hx).lt
theorem on_some {N : Nat} {l : List Nat} {a : Option Addr} {n c : Nat} {W : World} (h : On N l (.slice a n c) W) : a = none → l = [] := fun e => by
  rcases h.2 with ⟨_, h0⟩ | ⟨g, cap, cur, e2, _⟩
  · exact List.eq_nil_of_length_eq_zero h0
  · injection e2 with e2
    rw [e] at e2
    cases e2
/-- What the loop holds. -/
structure TaI (w : World) (m : Mo) (u : Nat) (v : Value) (W : World) : Prop where
  x : W.heap[w.heap.size]? = some (moB m)
  t : TbA w.heap.size m u v W
  b : Below w.heap.size w W
theorem TaI.next {w : World} {m : Mo} {u : Nat} {v : Value} {W W2 W' : World} (h : TaI w m u v W) (hb : Below W.heap.size W W2) {ks : List Nat} {a : Option Addr} {c : Nat} (hk : IsOf m (u : Int) ks) (ho : On W.heap.size ks (.slice a ks.length c) W2) {v' : Value} {vs : List Value} (h1 : Or w.heap.size vs v W2) (h2 : vs.length = u) (h3 : ∀ j, j < u → ∃ ks vj, vs[j]? = some vj ∧ IsOf m (j : Int) ks ∧ On w.heap.size ks vj W2) (hap : Or w.heap.size (vs ++ [.slice a ks.length c]) v' W') (hg : W2.grownBy W' v.ownBlock) : TaI w m (u + 1) v' W' := by
  have hx := blk_stay h.x hb
  refine ⟨(hg.block _ (Array.getElem?_eq_some_iff.1 hx).1 (Ne.symm (row_not h1 hx (by decide)))).trans hx, ⟨_, hap, by rw [List.length_append, h2]; rfl, fun j hj => ?_⟩, (Below.on h.b hb).grown hg (Below.on h.b hb).size (fun k e => own_base h1 k e)⟩
  by_cases e : j = u
  · subst e
    exact ⟨ks, _, by rw [← h2]; simp, hk, (own_mono ho h.b.size).kept hg (own_ne ho h1 (by decide))⟩
  · obtain ⟨ks', vj, k1, k2, k3⟩ := h3 j (by omega)
    exact ⟨ks', vj, by rw [List.getElem?_append_left (by omega)]; exact k1, k2, k3.kept hg (own_ne k3 h1 (by decide))⟩
def TaP (m : Mo) (w : World) (e : Ending) (w' : World) : Prop := ∃ v, e = .returned v ∧ TbA w.heap.size m m.funcs.length v w' ∧ Below w.heap.size w w'
set_option maxRecDepth 100000 in
set_option maxHeartbeats 4000000 in
theorem rtable_any (mw : World) (m : Mo) (hn : m.funcs.length ≤ 1000) (w : World) (hm : m.In mw) (ha : AllIn mw w) : Calls Try.prog 24 #[m.val] w (TaP m w) := by
  have HI0 : Hid (TaI w m 0 (.slice (some ⟨w.heap.size + 1, 0, none⟩) 0 0) ((w.alloc (moB m)).alloc (.cells #[] 27))) := by
    have b1 := Below.one (Below.refl _ w) (moB m)
    have b2 := Below.one (Below.refl _ (w.alloc (moB m))) (.cells #[] 27)
    have h := row_new (w.alloc (moB m)) 27 1
    rw [World.size_alloc] at h
    exact ⟨blk_stay (heap_alloc_new w (moB m)) b2, ⟨[], own_mono h (Nat.le_succ _), rfl, (fun j hj => by omega)⟩, Below.on b1 b2⟩
  have HOF : Hid (∀ (u : Nat) w', Below w.heap.size w w' → Calls Try.prog 8 #[m.val, .int .i64 (u : Int)] w' (OfP m (u : Int) w')) := fun u w' hb => rof_any mw m u w' hm (ha.below hb)
  have hml := hm.2.2.1.1
  clear hm ha
  obtain ⟨mta, mtc, mths, mfa, mfc, mfs⟩ := m
  simp only [moB, Mo.val] at *
  go_enter Try.func24, Try.ntmps24
  go_wp2_with fail
  generalize (w.alloc (.cells #[.slice mta mths.length mtc, .slice mfa mfs.length mfc] 25)).alloc (.cells #[] 27) = W0 at *
  go_loopw [3, 4] (fun t3 t4 wr => ∃ (u : Nat) (v : Value), t3 = v ∧ t4 = .int .i64 (u : Int) ∧ u ≤ mfs.length ∧ TaI w ⟨mta, mtc, mths, mfa, mfc, mfs⟩ u v wr) (fun _ t4 _ => mfs.length - (intOf t4).toNat)
  case atStart => exact ⟨0, _, rfl, rfl, Nat.zero_le _, HI0.out⟩
  case round =>
    obtain ⟨u, v, rfl, rfl, hu, hta⟩ := hrel
    have HTA := Hid.mk' hta
    obtain ⟨av, cv, rfl⟩ := hta.t.form
    have z0 := cell_of_obj hta.x (j := 0) (v := .slice mta mths.length mtc) rfl
    have z1 := cell_of_obj hta.x (j := 1) (v := .slice mfa mfs.length mfc) rfl
    clear hta HI0
    by_cases hlt : u < mfs.length
    · have hlti : (u : Int) < (mfs.length : Int) := by omega
      have HO := Hid.mk' (HOF.out u wr HTA.out.b)
      go_wp2_with fail
      refine HO.out.mono ?_
      rintro e w2 ⟨v2, ks, rfl, hk, on2, hb2⟩
      obtain ⟨a2, c2, rfl⟩ := gown_form on2
      have HK := Hid.mk' hk
      have HON := Hid.mk' on2
      have HB2 := Hid.mk' hb2
      obtain ⟨vs, hor, hvl, hro⟩ := HTA.out.t.stay hb2
      have HOR := Hid.mk' hor
      have HVL := Hid.mk' hvl
      have HRO := Hid.mk' hro
      have HAP := Hid.mk' (or_app hor (Below.on HTA.out.b hb2).size (by omega) a2 ks.length c2 64)
      clear hk on2 hb2 hor z0 z1 HO hvl hro
      go_upto_region 6 with fail
      go_wp2_with (at_builtin; refine wpl_app rfl _ _ 64 64 _ _ rfl rfl rfl HAP.out ?_; rintro v3 W3 ⟨on3, gr3⟩)
      have HI3 := Hid.mk' (HTA.out.next HB2.out HK.out HON.out HOR.out HVL.out HRO.out on3 gr3)
      obtain ⟨a3, c3, rfl⟩ := HI3.out.t.form
      clear on3 gr3
      go_roundw
      case rel => exact ⟨u + 1, _, rfl, by go_num, by omega, HI3.out⟩
      case measure => simp [intOf]; omega
    · obtain rfl : u = mfs.length := by omega
      go_wp2_with fail
      go_ret
      exact ⟨_, rfl, HTA.out.t, HTA.out.b⟩
end Go.Proofs.Ytdnilonfgbinaaa
namespace Go.Proofs.Ytdnilonfgbinaaa
open Go.RowKit Go.Sort

/-- The search: what is marked, what is to be looked at, how far it has come. -/
structure Lv (m : Mo) (a t : Nat) (rs : List Bool) (td : List Nat) (i : Nat) : Prop where
  len : rs.length = m.funcs.length
  tq : ∀ x ∈ td, x < m.funcs.length ∧ Ld (CE m) a x
  st : ∀ y, CE m a y → y ∈ td
  cl : ∀ k, rs[k]? = some true → ∀ y, CE m k y → y ∈ td
  ps : ∀ x ∈ td.take i, x ≠ t ∧ rs[x]? = some true
  ln : td.length + m.funcs.length * unm rs ≤ m.funcs.length + m.funcs.length * m.funcs.length
theorem Lv.start {m : Mo} {a t : Nat} {ks : List Nat} (hk : IsOf m (a : Int) ks) : Lv m a t (List.replicate m.funcs.length false) ks 0 := by
  refine ⟨by simp, fun x hx => ⟨((hk.2 x).1 hx).lt, .one ((hk.2 x).1 hx)⟩, fun y hy => (hk.2 y).2 hy, fun k h => absurd h rep_no, fun x hx => by simp at hx, ?_⟩
  have h1 : unm (List.replicate m.funcs.length false) = m.funcs.length := by unfold unm; simp
  rw [h1]
  have := hk.len
  omega
theorem take_one {td : List Nat} {i u x : Nat} (hu : td[i]? = some u) (h : x ∈ td.take (i + 1)) : x ∈ td.take i ∨ x = u := by
  obtain ⟨hl, e⟩ := List.getElem?_eq_some_iff.1 hu
  rw [List.take_succ_eq_append_getElem hl, e, List.mem_append, List.mem_singleton] at h
  exact h
theorem Lv.pass {m : Mo} {a t u i : Nat} {rs : List Bool} {td : List Nat} (h : Lv m a t rs td i) (hu : td[i]? = some u) (hr : rs[u]? = some true) (ht : u ≠ t) : Lv m a t rs td (i + 1) :=
  ⟨h.len, h.tq, h.st, h.cl, fun x hx => by
    rcases take_one hu hx with hx | rfl
    · exact h.ps x hx
    · exact ⟨ht, hr⟩, h.ln⟩
theorem Lv.add {m : Mo} {a t u i : Nat} {rs : List Bool} {td ks : List Nat} (h : Lv m a t rs td i) (hu : td[i]? = some u) (hr : rs[u]? = some false) (ht : u ≠ t) (hk : IsOf m (u : Int) ks) : Lv m a t (rs.set u true) (td ++ ks) (i + 1) := by
  have hum := List.mem_of_getElem? hu
  have hil := (List.getElem?_eq_some_iff.1 hu).1
  refine ⟨by rw [List.length_set]; exact h.len, fun x hx => ?_, fun y hy => List.mem_append_left _ (h.st y hy), fun k hkk y hy => ?_, fun x hx => ?_, ?_⟩
  · rcases List.mem_append.1 hx with hx | hx
    · exact h.tq x hx
    · exact ⟨((hk.2 x).1 hx).lt, (h.tq u hum).2.trans (.one ((hk.2 x).1 hx))⟩
  · rcases set_true.1 hkk with h1 | ⟨rfl, _⟩
    · exact List.mem_append_left _ (h.cl k h1 y hy)
    · exact List.mem_append_right _ ((hk.2 y).2 hy)
  · rw [List.take_append_of_le_length (by omega)] at hx
    rcases take_one hu hx with hx | rfl
    · exact ⟨(h.ps x hx).1, set_true.2 (.inl (h.ps x hx).2)⟩
    · exact ⟨ht, set_true.2 (.inr ⟨rfl, (List.getElem?_eq_some_iff.1 hr).1⟩)⟩
  · have h1 := h.ln
    have h2 := unm_set hr
    have h3 := hk.len
    rw [← h2, Nat.mul_add, Nat.mul_one] at h1
    rw [List.length_append]
    omega
theorem Lv.none {m : Mo} {a t i : Nat} {rs : List Bool} {td : List Nat} (h : Lv m a t rs td i) (hi : td.length ≤ i) : ¬ Ld (CE m) a t := by
  have hall : ∀ x ∈ td, x ≠ t ∧ rs[x]? = some true := fun x hx => h.ps x (by rw [List.take_of_length_le hi]; exact hx)
  have key : ∀ g k, Ld (CE m) g k → (∀ y, CE m g y → y ∈ td) → k ∈ td := by
    intro g k hl
    induction hl with
    | one e => exact fun hs => hs _ e
    | on e _ ih => exact fun hs => ih (h.cl _ (hall _ (hs _ e)).2)
  exact fun hl => (hall t (key a t hl h.st)).1 rfl
/-- What lies where. -/
structure LvM (w : World) (rs : List Bool) (td : List Nat) (v : Value) (W : World) : Prop where
  r : Ob w.heap.size rs (.slice (some ⟨w.heap.size, 0, none⟩) rs.length rs.length) W
  q : On w.heap.size td v W
  b : Below w.heap.size w W
theorem LvM.put {w : World} {rs : List Bool} {td : List Nat} {v : Value} {W : World} (h : LvM w rs td v W) (k : Nat) : LvM w (rs.set k true) td v (W.setCell ⟨w.heap.size, k, none⟩ (.bool true)) := by
  obtain ⟨cur, hcur, hRg⟩ := own_blk h.r
  exact ⟨by rw [List.length_set]; exact ob_put h.r k true, own_set h.q hcur (by decide) k (.bool true), h.b.setCell (by simp) _⟩
def LeP (m : Mo) (a t : Nat) (w : World) (e : Ending) (w' : World) : Prop := ∃ bl : Bool, e = .returned (.bool bl) ∧ (bl = true ↔ Ld (CE m) a t) ∧ Below w.heap.size w w'
set_option maxRecDepth 100000 in
set_option maxHeartbeats 4000000 in
theorem rleads_any (m : Mo) (hn : m.funcs.length ≤ 100) (N a t : Nat) (ta : Option Addr) (tc : Nat) (w : World) (h : TbA N m m.funcs.length (.slice ta m.funcs.length tc) w) (ha : a < m.funcs.length) : Calls Try.prog 25 #[.slice ta m.funcs.length tc, .int .i64 (a : Int), .int .i64 (t : Int)] w (LeP m a t w) := by
  obtain ⟨g, ks, aj, cj, rfl, d0, hk, hon⟩ := h.at_ ha
  have HK := Hid.mk' hk
  have HT := Hid.mk' h
  have hkl := hk.len
  have hal : (a : Int) < (m.funcs.length : Int) := by omega
  have hmk : ∀ W, _ := fun W => run_mkB W m.funcs.length (by omega)
  have b1 := Below.one (Below.refl _ w) (.cells (mkB m.funcs.length) 4)
  have b2 := Below.one (Below.refl _ (w.alloc (.cells (mkB m.funcs.length) 4))) (.cells #[] 3)
  have b12 := Below.on b1 b2
  have d1 := cell_kept_below d0 b12
  have hrow : On w.heap.size [] (.slice (some ⟨w.heap.size + 1, 0, none⟩) 0 0) ((w.alloc (.cells (mkB m.funcs.length) 4)).alloc (.cells #[] 3)) := by
    have h := row_new (w.alloc (.cells (mkB m.funcs.length) 4)) 3 1
    rw [World.size_alloc] at h
    exact own_mono h (Nat.le_succ _)
  have HAP := Hid.mk' (on_cat hrow ((own_lst hon).stay b12) (on_some hon) b12.size (by simp; omega) 27 (c := cj))
  have HRW : Hid (Ob w.heap.size (List.replicate m.funcs.length false) (.slice (some ⟨w.heap.size, 0, none⟩) m.funcs.length m.funcs.length) ((w.alloc (.cells (mkB m.funcs.length) 4)).alloc (.cells #[] 3))) := own_stay (own_mkB w m.funcs.length (by omega)) b2
  have HB12 := Hid.mk' b12
  have HQ0 := Hid.mk' hrow
  clear h hk hon b1 b2 b12 d0 hrow
  go_enter Try.func25, Try.ntmps25
  go_wp2_with (at_builtin; refine wpl_app rfl _ _ 27 27 _ _ rfl rfl rfl HAP.out ?_; rintro v3 W3 ⟨on3, gr3⟩)
  have HM0 : Hid (LvM w (List.replicate m.funcs.length false) ks v3 W3) := by
    refine ⟨?_, on3, HB12.out.grown gr3 HB12.out.size (fun k e => own_base HQ0.out k e)⟩
    rw [List.length_replicate]
    have h := HRW.out.kept gr3 (own_ne HRW.out HQ0.out (by decide))
    exact h
  have HL0 := Hid.mk' (Lv.start (t := t) HK.out)
  clear on3 gr3 d1 hmk HRW HAP HB12 HQ0
  go_loopw [8, 9] (fun t8 t9 wr => ∃ (rs : List Bool) (td : List Nat) (v : Value) (i : Nat), t8 = v ∧ t9 = .int .i64 (i : Int) ∧ i ≤ td.length ∧ Lv m a t rs td i ∧ LvM w rs td v wr) (fun _ t9 _ => m.funcs.length + m.funcs.length * m.funcs.length - (intOf t9).toNat)
  case atStart => exact ⟨_, ks, _, 0, rfl, rfl, Nat.zero_le _, HL0.out, HM0.out⟩
  case round =>
    obtain ⟨rs, td, v, i, rfl, rfl, hi, hlv, hlm⟩ := hrel
    have HLV := Hid.mk' hlv
    have HLM := Hid.mk' hlm
    obtain ⟨av, cv, rfl⟩ := gown_form hlm.q
    have hsq : m.funcs.length * m.funcs.length ≤ 100 * 100 := Nat.mul_le_mul hn hn
    have htl : td.length ≤ m.funcs.length + m.funcs.length * m.funcs.length := Nat.le_trans (Nat.le_add_right _ _) hlv.ln
    have hrl := hlv.len
    clear hlv hlm HM0 HL0
    by_cases hit : i < td.length
    · obtain ⟨u, hu⟩ : ∃ u, td[i]? = some u := ⟨_, List.getElem?_eq_getElem hit⟩
      obtain ⟨gt, rfl, e0, k1, k2⟩ := on_at HLM.out.q hu
      clear k1 k2
      have hiti : (i : Int) < (td.length : Int) := by omega
      obtain ⟨hun, hul⟩ := HLV.out.tq u (List.mem_of_getElem? hu)
      have HUL := Hid.mk' hul
      have HU := Hid.mk' hu
      have huni : (u : Int) < (m.funcs.length : Int) := by omega
      clear hul hu
      by_cases hut : u = t
      · have hq : ((u : Int) == (t : Int)) = true := by rw [hut]; simp
        have HR : Hid (Ld (CE m) a t) := hut ▸ HUL.out
        clear hut
        go_wp2_with fail
        go_ret
        exact ⟨true, rfl, ⟨fun _ => HR.out, fun _ => rfl⟩, HLM.out.b⟩
      have hq : ((u : Int) == (t : Int)) = false := beq_no (by omega)
      have HUT := Hid.mk' hut
      clear hut
      obtain ⟨bu, hbu⟩ : ∃ b, rs[u]? = some b := ⟨_, List.getElem?_eq_getElem (by omega)⟩
      obtain ⟨g', e', d0, k1, k2⟩ := ob_at HLM.out.r hbu
      cases e'
      clear k1 k2
      have f0 := World.ownsRow.frozenAt HLM.out.r u
      have hrli : (rs.length : Int) = (m.funcs.length : Int) := by omega
      have huri : (u : Int) < (rs.length : Int) := by omega
      have HBU := Hid.mk' hbu
      have HRL := Hid.mk' hrl
      have HRI := Hid.mk' hrli
      clear hbu hrl hrli
      cases bu
      · have HLM1 := Hid.mk' (HLM.out.put u)
        obtain ⟨g2, ks2, aj2, cj2, eg, hc2, hk2, on2⟩ := (HT.out.stay HLM1.out.b).at_ hun
        cases eg
        have HK2 := Hid.mk' hk2
        have hkl2 := hk2.len
        have HAP2 := Hid.mk' (on_cat HLM1.out.q (own_lst on2) (on_some on2) HLM1.out.b.size (by omega) 27 (c := cj2))
        obtain ⟨g3, e3, e1, k1, k2⟩ := on_at HLM1.out.q HU.out
        cases e3
        clear hk2 on2 k1 k2
        go_upto_region 10 with fail
        generalize wr.setCell ⟨w.heap.size, u, none⟩ (.bool true) = W1 at *
        clear e0 d0 f0
        go_wp2_with (at_builtin; refine wpl_app rfl _ _ 27 27 _ _ rfl rfl rfl HAP2.out ?_; rintro v3 W3 ⟨on3, gr3⟩)
        have HLM3 : Hid (LvM w (rs.set u true) (td ++ ks2) v3 W3) := ⟨HLM1.out.r.kept gr3 (own_ne HLM1.out.r HLM1.out.q (by decide)), on3, HLM1.out.b.grown gr3 HLM1.out.b.size (fun k e => own_base HLM1.out.q k e)⟩
        have HLV3 := Hid.mk' (HLV.out.add HU.out HBU.out HUT.out HK2.out)
        obtain ⟨a3, c3, rfl⟩ := gown_form on3
        clear on3 gr3
        go_roundw
        case rel => exact ⟨_, _, _, i + 1, rfl, by go_num, by rw [List.length_append]; omega, HLV3.out, HLM3.out⟩
        case measure => simp [intOf]; omega
      · have HLV3 := Hid.mk' (HLV.out.pass HU.out HBU.out HUT.out)
        go_wp2_with fail
        go_roundw
        case rel => exact ⟨_, _, _, i + 1, rfl, by go_num, by omega, HLV3.out, HLM.out⟩
        case measure => simp [intOf]; omega
    · have HNO := Hid.mk' (HLV.out.none (by omega))
      go_wp2_with fail
      go_ret
      exact ⟨false, rfl, ⟨(fun h => by cases h), fun h => absurd h HNO.out⟩, HLM.out.b⟩
end Go.Proofs.Ytdnilonfgbinaaa
namespace Go.Proofs.Ytdnilonfgbinaaa
open Go.RowKit Go.Sort

theorem ol_both {W : World} {N : Nat} {a : Option Addr} {c m : Nat} {l : List (Nat × Nat)} (h : Ol N l (.slice a m c) W) {j : Nat} {x : Nat × Nat} (hj : l[j]? = some x) : ∃ g o, a = some ⟨g, o, none⟩ ∧ W.cell? ⟨g, o + j * 2, none⟩ = some (.int .i64 (x.1 : Int)) ∧ W.cell? ⟨g, o + j * 2 + 1, none⟩ = some (.int .i64 (x.2 : Int)) := by
  obtain ⟨a', c', e⟩ := gown_form h
  injection e with e1 e2 e3
  subst e2
  have hr : RowIn W a 2 (l.map clC) := own_row h (fun _ => rfl) (by omega)
  obtain ⟨g, o, e, hc⟩ := hr j (clC x) (by rw [List.getElem?_map, hj]; rfl)
  exact ⟨g, o, e, hc 0 _ rfl, hc 1 _ rfl⟩
/-- The call leads back. -/
def Bk (m : Mo) (f k : Nat) : Prop := k = f ∨ Ld (CE m) k f
theorem bk_iff {m : Mo} {f k : Nat} {bl : Bool} (h : bl = true ↔ Ld (CE m) k f) : (bl = true → Bk m f k) ∧ (bl = false → k ≠ f → ¬ Bk m f k) := by
  refine ⟨fun e => .inr (h.1 e), fun e hk => ?_⟩
  rintro (h1 | h1)
  · exact hk h1
  · rw [h.2 h1] at e; cases e
/-- What the rounds over the calls keep. -/
def NoB (m : Mo) (f : Nat) (es : List (Nat × Nat)) (i : Nat) : Prop := ∀ x ∈ es.take i, ¬ Bk m f x.2
theorem NoB.next {m : Mo} {f i : Nat} {es : List (Nat × Nat)} {x : Nat × Nat} (h : NoB m f es i) (hx : es[i]? = some x) (hn : ¬ Bk m f x.2) : NoB m f es (i + 1) := fun y hy => by
  rcases mem_take_succ hx hy with hy | rfl
  · exact h y hy
  · exact hn
/-- Of a ring that was met first the first such call is the one. -/
theorem cyc_found {m : Mo} {f i : Nat} {F : Fn} {rs : List Bool} {x : Nat × Nat} (hno : ∀ g, g < f → ¬ Ld (CE m) g g) (hl : Ld (CE m) f f) (hf : m.funcs[f]? = some F) (hrs : IsR F.code rs) (hn : NoB m f (cls F.code rs m.funcs.length) i) (hx : (cls F.code rs m.funcs.length)[i]? = some x) (hb : Bk m f x.2) : CycAt m f x.1 := by
  refine ⟨(List.getElem?_eq_some_iff.1 hf).1, hl, fun g hg => Nat.le_of_not_lt fun h => hno g h hg, F, rs, hf, hrs, ⟨x.2, List.mem_of_getElem? hx, hb⟩, fun j k hm hc => ?_⟩
  obtain ⟨hil, e⟩ := List.getElem?_eq_some_iff.1 hx
  refine first_call (P := Bk m f) (pre := (cls F.code rs m.funcs.length).take i) (x := x) ?_ (clU_rise F.code rs m.funcs.length rs.length).1 hn (j, k) hm hc
  rw [← e, ← List.take_succ_eq_append_getElem hil]
  exact List.take_prefix _ _
theorem cyc_never {m : Mo} {f i : Nat} {F : Fn} {rs : List Bool} (hl : Ld (CE m) f f) (hf : m.funcs[f]? = some F) (hrs : IsR F.code rs) (hn : NoB m f (cls F.code rs m.funcs.length) i) (hi : (cls F.code rs m.funcs.length).length ≤ i) : False := by
  obtain ⟨F', rs', j, k, h1, h2, h3, h4⟩ := cyc_call hl
  rw [hf] at h1
  injection h1 with h1
  subst h1
  obtain rfl := h2.one hrs
  exact hn (j, k) (by rw [List.take_of_length_le hi]; exact h3) h4
/-- The second loop: what is done and listed. -/
structure Dn (m : Mo) (rs : List Bool) (os : List Nat) : Prop where
  len : rs.length = m.funcs.length
  o : Ord (CE m) m.funcs.length os
  r : ∀ k, k < m.funcs.length → (rs[k]? = some true ↔ k ∈ os)
theorem Dn.start (m : Mo) : Dn m (List.replicate m.funcs.length false) [] := ⟨by simp, Ord.nil _ _, fun k _ => ⟨fun h => absurd h rep_no, fun h => by cases h⟩⟩
theorem Dn.next {m : Mo} {rs : List Bool} {os : List Nat} {f : Nat} (h : Dn m rs os) (hf : LstR (CE m) m.funcs.length os f) : Dn m (rs.set f true) (os ++ [f]) :=
  ⟨by rw [List.length_set]; exact h.len, h.o.snoc hf, fun k hk => by
    rw [set_true, List.mem_append, List.mem_singleton, h.r k hk]
    constructor
    · rintro (h1 | ⟨h1, _⟩)
      · exact .inl h1
      · exact .inr h1
    · rintro (h1 | h1)
      · exact .inl h1
      · exact .inr ⟨h1, by rw [h.len]; exact hf.1⟩⟩
theorem Dn.val {m : Mo} {rs : List Bool} {os : List Nat} {k : Nat} {b : Bool} (h : Dn m rs os) (hb : rs[k]? = some b) : b = true ↔ k ∈ os := by
  have hk := (List.getElem?_eq_some_iff.1 hb).1
  rw [← h.r k (by rw [← h.len]; exact hk), hb]
  simp
/-- May one be next, as far as its calls were looked at? -/
def MayI (os ks : List Nat) (f i : Nat) (my : Bool) : Prop := my = true ↔ (f ∉ os ∧ ∀ y ∈ ks.take i, y ∈ os)
theorem MayI.start {m : Mo} {rs : List Bool} {os ks : List Nat} {f : Nat} {b : Bool} (h : Dn m rs os) (hb : rs[f]? = some b) : MayI os ks f 0 (!b) := by
  unfold MayI
  have := h.val hb
  cases b
  · simp at this ⊢
    exact this
  · simp at this ⊢
    exact this
theorem take_nat {ks : List Nat} {i u : Nat} (hu : ks[i]? = some u) {P : Nat → Prop} : (∀ y ∈ ks.take (i + 1), P y) ↔ (∀ y ∈ ks.take i, P y) ∧ P u := by
  obtain ⟨hl, e⟩ := List.getElem?_eq_some_iff.1 hu
  rw [List.take_succ_eq_append_getElem hl, e]
  simp only [List.mem_append, List.mem_singleton]
  constructor
  · exact fun h => ⟨fun y hy => h y (.inl hy), h u (.inr rfl)⟩
  · rintro ⟨h1, h2⟩ y (hy | rfl)
    · exact h1 y hy
    · exact h2
theorem MayI.no {os ks : List Nat} {f i u : Nat} (h : MayI os ks f i false) (hu : ks[i]? = some u) : MayI os ks f (i + 1) false := by
  unfold MayI at *
  rw [take_nat hu]
  constructor
  · intro e; cases e
  · rintro ⟨h1, h2, _⟩; exact h.2 ⟨h1, h2⟩
theorem MayI.yes {m : Mo} {rs : List Bool} {os ks : List Nat} {f i u : Nat} {b : Bool} (h : MayI os ks f i true) (hu : ks[i]? = some u) (hd : Dn m rs os) (hb : rs[u]? = some b) : MayI os ks f (i + 1) b := by
  unfold MayI at *
  obtain ⟨h1, h2⟩ := h.1 rfl
  rw [take_nat hu, hd.val hb]
  exact ⟨fun h => ⟨h1, h2, h⟩, fun h => h.2.2⟩
theorem MayI.done {m : Mo} {os ks : List Nat} {f i : Nat} {my : Bool} (h : MayI os ks f i my) (hi : ks.length ≤ i) (hk : IsOf m (f : Int) ks) : my = true ↔ Rdy (CE m) os f := by
  unfold MayI at h
  rw [h, List.take_of_length_le hi]
  exact ⟨fun ⟨h1, h2⟩ => ⟨h1, fun g hg => h2 g ((hk.2 g).2 hg)⟩, fun ⟨h1, h2⟩ => ⟨h1, fun y hy => h2 y ((hk.2 y).1 hy)⟩⟩
/-- What lies where in the second loop. -/
structure DnM (Wt : World) (rs : List Bool) (os : List Nat) (v : Value) (W : World) : Prop where
  r : Ob Wt.heap.size rs (.slice (some ⟨Wt.heap.size + 1, 0, none⟩) rs.length rs.length) W
  q : On Wt.heap.size os v W
  b : Below Wt.heap.size Wt W
theorem DnM.put {w : World} {rs : List Bool} {td : List Nat} {v : Value} {W : World} (h : DnM w rs td v W) (k : Nat) : DnM w (rs.set k true) td v (W.setCell ⟨w.heap.size + 1, k, none⟩ (.bool true)) := by
  obtain ⟨cur, hcur, hRg⟩ := own_blk h.r
  exact ⟨by rw [List.length_set]; exact ob_put h.r k true, own_set h.q hcur (by decide) k (.bool true), h.b.setCell (by simp) _⟩
end Go.Proofs.Ytdnilonfgbinaaa
namespace Go.Proofs.Ytdnilonfgbinaaa
open Go.RowKit Go.Sort

structure RoW (w : World) (m : Mo) (tv : Value) (W : World) : Prop where
  o : CyO w m W
  t : TbA w.heap.size m m.funcs.length tv W
theorem RoW.stay {w : World} {m : Mo} {tv : Value} {W W' : World} (h : RoW w m tv W) (hb : Below W.heap.size W W') : RoW w m tv W' := ⟨h.o.stay hb, h.t.stay hb⟩
theorem drew_at {W : World} {k : Nat} {o : Obj} (h : W.heap[k]? = some o) : W.drew.heap[k]? = some o := h
set_option maxRecDepth 100000 in
set_option maxHeartbeats 8000000 in
theorem rorder_any (mw : World) (m : Mo) (w : World) (hm : m.In mw) (ha : AllIn mw w) : Calls Try.prog 13 #[m.val] w (OrP m w) := by
  have HO0 : Hid (CyO w m ((w.alloc (moB m)).alloc (ftB 0 0 0))) := by
    have b1 := Below.one (Below.refl _ w) (moB m)
    have b2 := Below.one (Below.refl _ (w.alloc (moB m))) (ftB 0 0 0)
    have h := heap_alloc_new (w.alloc (moB m)) (ftB 0 0 0)
    rw [World.size_alloc] at h
    exact ⟨blk_stay (heap_alloc_new w (moB m)) b2, h, Below.on b1 b2⟩
  have c0 := cell_of_obj HO0.out.xm (j := 0) (v := .slice m.ta m.ths.length m.tc) rfl
  have c1 := cell_of_obj HO0.out.xm (j := 1) (v := .slice m.fa m.funcs.length m.fc) rfl
  have hml := hm.2.2.1.1
  by_cases h32 : 32 < m.funcs.length
  · have h32i : (32 : Int) < (m.funcs.length : Int) := by omega
    have g0 := cell_of_obj HO0.out.xf (j := 0) (v := .int .i64 0) rfl
    have g1 := cell_of_obj HO0.out.xf (j := 1) (v := .int .i64 0) rfl
    have g2 := cell_of_obj HO0.out.xf (j := 2) (v := .int .i64 0) rfl
    have z0 := froz_no HO0.out.xf 0
    have z1 := froz_no HO0.out.xf 1
    have z2 := froz_no HO0.out.xf 2
    have HT : Hid (OrT m [] 3 32 0) := .inl ⟨h32, rfl, rfl, rfl, rfl⟩
    clear hm ha
    obtain ⟨mta, mtc, mths, mfa, mfc, mfs⟩ := m
    simp only [moB, ftB, Mo.val] at *
    go_enter Try.func13, Try.ntmps13
    go_wp2_with fail
    have HX : Hid (((w.alloc (.cells #[.slice mta mths.length mtc, .slice mfa mfs.length mfc] 25)).alloc (.cells #[.int .i64 3, .int .i64 32, .int .i64 0] 35)).heap[w.heap.size + 1]? = some (ftB 3 32 0)) := by
      have h := heap_alloc_new (w.alloc (.cells #[.slice mta mths.length mtc, .slice mfa mfs.length mfc] 25)) (ftB 3 32 0)
      rw [World.size_alloc] at h
      exact h
    have HB : Hid (Below w.heap.size w ((w.alloc (.cells #[.slice mta mths.length mtc, .slice mfa mfs.length mfc] 25)).alloc (.cells #[.int .i64 3, .int .i64 32, .int .i64 0] 35))) := Below.one (Below.one (Below.refl _ w) _) _
    exact bodyPost_ret (results_tmp_cell Try.results13 _ _ (w.heap.size + 1) _ _ _ rfl HX.out (fun W hW => run_loadVar_row W _ _ _ _ _ _ hW Try.underlying35 rfl Try.sizeFt)) rfl ⟨_, [], 3, 32, 0, rfl, HT.out, on_nil _ _, HB.out⟩
  have h32i : ¬ (32 : Int) < (m.funcs.length : Int) := by omega
  have hn32 : m.funcs.length ≤ 32 := by omega
  have HTA : Hid (∀ w', Below w.heap.size w w' → Calls Try.prog 24 #[m.val] w' (TaP m w')) := fun w' hb => rtable_any mw m (by omega) w' hm (ha.below hb)
  have HCA : Hid (∀ (u : Nat) w', Below w.heap.size w w' → Calls Try.prog 17 #[m.val, .int .i64 (u : Int)] w' (RcP m (u : Int) w')) := fun u w' hb => rcalls_any mw m u w' hm (ha.below hb)
  have HLE : Hid (∀ (ta : Option Addr) (tc : Nat) (a t : Nat), a < m.funcs.length → ∀ w', TbA w.heap.size m m.funcs.length (.slice ta m.funcs.length tc) w' → Calls Try.prog 25 #[.slice ta m.funcs.length tc, .int .i64 (a : Int), .int .i64 (t : Int)] w' (LeP m a t w')) := fun ta tc a t ha w' h => rleads_any m (by omega) w.heap.size a t ta tc w' h ha
  have hmk : ∀ W, _ := fun W => run_mkB W m.funcs.length (by omega)
  clear hm ha h32
  obtain ⟨mta, mtc, mths, mfa, mfc, mfs⟩ := m
  simp only [moB, ftB, Mo.val] at *
  go_enter Try.func13, Try.ntmps13
  go_wp2_with fail
  refine (HTA.out _ HO0.out.b).mono ?_
  generalize (w.alloc (.cells #[.slice mta mths.length mtc, .slice mfa mfs.length mfc] 25)).alloc (.cells #[.int .i64 0, .int .i64 0, .int .i64 0] 35) = W0 at *
  rintro e w1 ⟨tv, rfl, ht1, hb1⟩
  have HR1 : Hid (RoW w ⟨mta, mtc, mths, mfa, mfc, mfs⟩ tv w1) := ⟨HO0.out.stay hb1, ht1.mono HO0.out.b.size⟩
  obtain ⟨ta, tc, rfl⟩ := ht1.form
  simp only at *
  clear ht1 hb1 HO0 HTA c0 c1
  go_wp2_with fail
  go_loopw [5] (fun t5 wr => ∃ (f : Nat), t5 = .int .i64 (f : Int) ∧ f ≤ mfs.length ∧ (∀ g, g < f → ¬ Ld (CE ⟨mta, mtc, mths, mfa, mfc, mfs⟩) g g) ∧ RoW w ⟨mta, mtc, mths, mfa, mfc, mfs⟩ (.slice ta mfs.length tc) wr) (fun t5 _ => mfs.length - (intOf t5).toNat)
  case atStart => exact ⟨0, rfl, Nat.zero_le _, (fun g hg => absurd hg (Nat.not_lt_zero _)), HR1.out⟩
  case round =>
    obtain ⟨f, rfl, hf, hno, hrw⟩ := hrel
    have HNO := Hid.mk' hno
    have HRW := Hid.mk' hrw
    clear hno hrw HR1
    by_cases hlt : f < mfs.length
    · have hlti : (f : Int) < (mfs.length : Int) := by omega
      have HL := Hid.mk' (HLE.out ta tc f f hlt wr HRW.out.t)
      go_wp2_with fail
      refine HL.out.mono ?_
      rintro e w2 ⟨bl, rfl, hbl, hb2⟩
      have HBL := Hid.mk' hbl
      have HR2 := Hid.mk' (HRW.out.stay hb2)
      clear hbl hb2 HL
      cases bl
      · have HN2 : Hid (∀ g, g < f + 1 → ¬ Ld (CE ⟨mta, mtc, mths, mfa, mfc, mfs⟩) g g) := by
          intro g hg hL
          by_cases e : g = f
          · subst e
            have := HBL.out.2 hL
            cases this
          · exact HNO.out g (by omega) hL
        go_wp2_with fail
        go_roundw
        case rel => exact ⟨f + 1, by go_num, by omega, HN2.out, HR2.out⟩
        case measure => simp [intOf]; omega
      have y0 := cell_of_obj HR2.out.o.xm (j := 0) (v := .slice mta mths.length mtc) rfl
      have y1 := cell_of_obj HR2.out.o.xm (j := 1) (v := .slice mfa mfs.length mfc) rfl
      have HC := Hid.mk' (HCA.out f w2 HR2.out.o.b)
      go_wp2_with fail
      refine HC.out.mono ?_
      rintro e w3 ⟨v3, es, rfl, hes, ol3, hb3⟩
      obtain ⟨ea, ec, rfl⟩ := gown_form ol3
      have HR3 := Hid.mk' (HR2.out.stay hb3)
      have HE3 := Hid.mk' ol3
      obtain ⟨F, rs, hF, hrs, rfl⟩ : ∃ (F : Fn) (rs : List Bool), mfs[f]? = some F ∧ IsR F.code rs ∧ es = cls F.code rs mfs.length := by
        rcases hes with ⟨_, h⟩ | ⟨fn, F, rs, h1, h2, h3, h4⟩
        · simp only at h; omega
        · obtain rfl : f = fn := by omega
          exact ⟨F, rs, h2, h3, h4⟩
      have HF := Hid.mk' hF
      have HRS := Hid.mk' hrs
      have hel : (cls F.code rs mfs.length).length ≤ 1024 := Nat.le_trans (clU_len F.code rs mfs.length rs.length) hrs.len
      have HEN : Hid (∀ x ∈ cls F.code rs mfs.length, x.2 < mfs.length) := fun x hx => (cls_lt hx).1
      have HNB0 : Hid (NoB ⟨mta, mtc, mths, mfa, mfc, mfs⟩ f (cls F.code rs mfs.length) 0) := fun x hx => by simp at hx
      clear hes ol3 hb3 hF hrs y0 y1 HC
      have HCF := Hid.mk' (fun i x (hn : NoB ⟨mta, mtc, mths, mfa, mfc, mfs⟩ f (cls F.code rs mfs.length) i) (hx : (cls F.code rs mfs.length)[i]? = some x) (hb : Bk ⟨mta, mtc, mths, mfa, mfc, mfs⟩ f x.2) => cyc_found (m := ⟨mta, mtc, mths, mfa, mfc, mfs⟩) HNO.out (HBL.out.1 (by simp)) HF.out HRS.out hn hx hb)
      have HCN := Hid.mk' (fun i (hn : NoB ⟨mta, mtc, mths, mfa, mfc, mfs⟩ f (cls F.code rs mfs.length) i) (hi : (cls F.code rs mfs.length).length ≤ i) => cyc_never (m := ⟨mta, mtc, mths, mfa, mfc, mfs⟩) (HBL.out.1 (by simp)) HF.out HRS.out hn hi)
      generalize cls F.code rs mfs.length = es at *
      obtain ⟨Wo, hWo⟩ : ∃ Wo, Wo = wr := ⟨_, rfl⟩
      subst hWo
      go_wp2_with fail
      go_loopw [8] (fun t8 wr => ∃ (i : Nat), t8 = .int .i64 (i : Int) ∧ i ≤ es.length ∧ NoB ⟨mta, mtc, mths, mfa, mfc, mfs⟩ f es i ∧ RoW w ⟨mta, mtc, mths, mfa, mfc, mfs⟩ (.slice ta mfs.length tc) wr ∧ Ol w2.heap.size es (.slice ea es.length ec) wr) (fun t8 _ => es.length - (intOf t8).toNat)
      case atStart => exact ⟨0, rfl, Nat.zero_le _, HNB0.out, HR3.out, HE3.out⟩
      case round =>
        obtain ⟨i, rfl, hi, hnb, hrw, hol⟩ := hrel
        have HNB := Hid.mk' hnb
        have HRR := Hid.mk' hrw
        have HOL := Hid.mk' hol
        clear hnb hrw hol HNB0 HR3 HE3
        by_cases hil : i < es.length
        rotate_left
        · exact (HCN.out i HNB.out (by omega)).elim
        obtain ⟨x, hx⟩ : ∃ x, es[i]? = some x := ⟨_, List.getElem?_eq_getElem hil⟩
        obtain ⟨ge, oe, rfl, e0, e1⟩ := ol_both HOL.out hx
        have hili : (i : Int) < (es.length : Int) := by omega
        have hx2 := HEN.out x (List.mem_of_getElem? hx)
        have HX := Hid.mk' hx
        have HL := Hid.mk' (HLE.out ta tc x.2 f hx2 wr HRR.out.t)
        clear hx
        go_wp2_with fail
        refine HL.out.mono ?_
        rintro e w4 ⟨bl, rfl, hbl, hb4⟩
        have HBK := Hid.mk' (bk_iff hbl)
        have HR4 := Hid.mk' (HRR.out.stay hb4)
        have HOL4 := Hid.mk' (own_stay HOL.out hb4)
        have f0 := cell_kept_below e0 hb4
        have f1 := cell_kept_below e1 hb4
        clear hbl hb4 HL e0 e1
        cases bl
        · by_cases hxf : x.2 = f
          · have hq : ((x.2 : Int) == (f : Int)) = true := by rw [hxf]; simp
            have HCY := Hid.mk' (HCF.out i x HNB.out HX.out (.inl hxf))
            clear hxf
            go_upto_region 15 with fail
            have k0 := cell_of_obj HR4.out.o.xf (j := 0) (v := .int .i64 0) rfl
            have k1 := cell_of_obj HR4.out.o.xf (j := 1) (v := .int .i64 0) rfl
            have k2 := cell_of_obj HR4.out.o.xf (j := 2) (v := .int .i64 0) rfl
            have z0 := froz_no HR4.out.o.xf 0
            have z1 := froz_no HR4.out.o.xf 1
            have z2 := froz_no HR4.out.o.xf 2
            have k0' : w4.drew.cell? ⟨w.heap.size + 1, 0, none⟩ = some (.int .i64 0) := k0
            have k1' : w4.drew.cell? ⟨w.heap.size + 1, 1, none⟩ = some (.int .i64 0) := k1
            have k2' : w4.drew.cell? ⟨w.heap.size + 1, 2, none⟩ = some (.int .i64 0) := k2
            have z0' : w4.drew.frozen? ⟨w.heap.size + 1, 0, none⟩ = false := z0
            have z1' : w4.drew.frozen? ⟨w.heap.size + 1, 1, none⟩ = false := z1
            have z2' : w4.drew.frozen? ⟨w.heap.size + 1, 2, none⟩ = false := z2
            have f0' : w4.drew.cell? ⟨ge, oe + i * 2, none⟩ = some (.int .i64 (x.1 : Int)) := f0
            clear f1
            go_region
            have HT : Hid (OrT ⟨mta, mtc, mths, mfa, mfc, mfs⟩ [] 75 f x.1) := .inr (.inr ⟨hn32, rfl, rfl, f, x.1, rfl, rfl, HCY.out⟩)
            obtain ⟨q1, q2⟩ := set3 HR4.out.o.xf 75 (f : Int) (x.1 : Int)
            have HQ1 := Hid.mk' q1
            have HQ2 := Hid.mk' q2
            clear q1 q2 k0 k1 k2 z0 z1 z2 k0' k1' k2' z0' z1' z2' f0 f0'
            go_wp2_with fail
            refine bodyPost_ret (results_tmp_cell Try.results13 _ _ (w.heap.size + 1) _ _ _ rfl (drew_at HQ1.out) (fun W hW => run_loadVar_row W _ _ _ _ _ _ hW Try.underlying35 rfl Try.sizeFt)) rfl ⟨_, [], 75, f, x.1, rfl, HT.out, on_nil _ _, Below.drew (HR4.out.o.b.grown HQ2.out HR4.out.o.b.size (fun k e => by have := Option.some.inj e; omega))⟩
          · have hq : ((x.2 : Int) == (f : Int)) = false := beq_no (by omega)
            have HN2 := Hid.mk' (HNB.out.next HX.out (HBK.out.2 rfl hxf))
            clear hxf
            go_wp2_with fail
            go_roundw
            case rel => exact ⟨i + 1, by go_num, by omega, HN2.out, HR4.out, HOL4.out⟩
            case measure => simp [intOf]; omega
        · have HCY := Hid.mk' (HCF.out i x HNB.out HX.out (HBK.out.1 rfl))
          go_upto_region 15 with fail
          have k0 := cell_of_obj HR4.out.o.xf (j := 0) (v := .int .i64 0) rfl
          have k1 := cell_of_obj HR4.out.o.xf (j := 1) (v := .int .i64 0) rfl
          have k2 := cell_of_obj HR4.out.o.xf (j := 2) (v := .int .i64 0) rfl
          have z0 := froz_no HR4.out.o.xf 0
          have z1 := froz_no HR4.out.o.xf 1
          have z2 := froz_no HR4.out.o.xf 2
          have k0' : w4.drew.cell? ⟨w.heap.size + 1, 0, none⟩ = some (.int .i64 0) := k0
          have k1' : w4.drew.cell? ⟨w.heap.size + 1, 1, none⟩ = some (.int .i64 0) := k1
          have k2' : w4.drew.cell? ⟨w.heap.size + 1, 2, none⟩ = some (.int .i64 0) := k2
          have z0' : w4.drew.frozen? ⟨w.heap.size + 1, 0, none⟩ = false := z0
          have z1' : w4.drew.frozen? ⟨w.heap.size + 1, 1, none⟩ = false := z1
          have z2' : w4.drew.frozen? ⟨w.heap.size + 1, 2, none⟩ = false := z2
          have f0' : w4.drew.cell? ⟨ge, oe + i * 2, none⟩ = some (.int .i64 (x.1 : Int)) := f0
          clear f1
          go_region
          have HT : Hid (OrT ⟨mta, mtc, mths, mfa, mfc, mfs⟩ [] 75 f x.1) := .inr (.inr ⟨hn32, rfl, rfl, f, x.1, rfl, rfl, HCY.out⟩)
          obtain ⟨q1, q2⟩ := set3 HR4.out.o.xf 75 (f : Int) (x.1 : Int)
          have HQ1 := Hid.mk' q1
          have HQ2 := Hid.mk' q2
          clear q1 q2 k0 k1 k2 z0 z1 z2 k0' k1' k2' z0' z1' z2' f0 f0'
          go_wp2_with fail
          refine bodyPost_ret (results_tmp_cell Try.results13 _ _ (w.heap.size + 1) _ _ _ rfl (drew_at HQ1.out) (fun W hW => run_loadVar_row W _ _ _ _ _ _ hW Try.underlying35 rfl Try.sizeFt)) rfl ⟨_, [], 75, f, x.1, rfl, HT.out, on_nil _ _, Below.drew (HR4.out.o.b.grown HQ2.out HR4.out.o.b.size (fun k e => by have := Option.some.inj e; omega))⟩
    · obtain rfl : f = mfs.length := by omega
      have HRI : Hid (∀ g, ¬ Ld (CE ⟨mta, mtc, mths, mfa, mfc, mfs⟩) g g) := fun g h => HNO.out g (h.lt (ce_lt _)) h
      have HMW : Hid (DnM wr (List.replicate mfs.length false) [] (.slice (some ⟨wr.heap.size, 0, none⟩) 0 0) ((wr.alloc (.cells #[] 3)).alloc (.cells (mkB mfs.length) 4))) := by
        have b1 := Below.one (Below.refl _ wr) (.cells #[] 3)
        have b2 := Below.one (Below.refl _ (wr.alloc (.cells #[] 3))) (.cells (mkB mfs.length) 4)
        have h1 := row_new wr 3 1
        have h2 := own_mkB (wr.alloc (.cells #[] 3)) mfs.length (by omega)
        rw [World.size_alloc] at h2
        exact ⟨by rw [List.length_replicate]; exact own_mono h2 (Nat.le_succ _), own_stay h1 b2, Below.on b1 b2⟩
      clear HNO
      go_wp2_with fail
      obtain ⟨Wt, hWt⟩ : ∃ Wt, Wt = wr := ⟨_, rfl⟩
      subst hWt
      go_loopw [10] (fun t10 wr => ∃ (rs : List Bool) (os : List Nat) (v : Value), t10 = v ∧ Dn ⟨mta, mtc, mths, mfa, mfc, mfs⟩ rs os ∧ DnM Wt rs os v wr) (fun t10 _ => mfs.length - lenV t10)
      case atStart => exact ⟨_, [], _, rfl, Dn.start _, HMW.out⟩
      case round =>
        obtain ⟨rs, os, v, rfl, hdn, hdm⟩ := hrel
        have HDN := Hid.mk' hdn
        have HDM := Hid.mk' hdm
        obtain ⟨av, cv, rfl⟩ := gown_form hdm.q
        have hol := hdn.o.len
        simp only at hol
        clear hdn hdm HMW
        by_cases hon : os.length < mfs.length
        rotate_left
        · have hol' : os.length = mfs.length := by omega
          have honi : ¬ (os.length : Int) < (mfs.length : Int) := by omega
          have HT : Hid (OrT ⟨mta, mtc, mths, mfa, mfc, mfs⟩ os 0 0 0) := .inr (.inl ⟨hn32, ⟨HDN.out.o, hol'⟩, rfl, rfl, rfl⟩)
          have HO := Hid.mk' (HRW.out.o.stay HDM.out.b)
          have k0 := cell_of_obj HO.out.xf (j := 0) (v := .int .i64 0) rfl
          have k1 := cell_of_obj HO.out.xf (j := 1) (v := .int .i64 0) rfl
          have k2 := cell_of_obj HO.out.xf (j := 2) (v := .int .i64 0) rfl
          have z0 := froz_no HO.out.xf 0
          have z1 := froz_no HO.out.xf 1
          have z2 := froz_no HO.out.xf 2
          obtain ⟨q1, q2⟩ := set3 HO.out.xf 0 0 0
          have HQ1 := Hid.mk' q1
          have HQ2 := Hid.mk' q2
          clear q1 q2 hol' hon
          go_wp2_with fail
          have hrow := own_mono HDM.out.q HRW.out.o.b.size
          exact bodyPost_ret (results_tmp_cell Try.results13 _ _ (w.heap.size + 1) _ _ _ rfl HQ1.out (fun W hW => run_loadVar_row W _ _ _ _ _ _ hW Try.underlying35 rfl Try.sizeFt)) rfl ⟨_, os, 0, 0, 0, rfl, HT.out, hrow.kept HQ2.out (.inr (row_not hrow HO.out.xf (by decide))), HO.out.b.grown HQ2.out HO.out.b.size (fun k e => by have := Option.some.inj e; omega)⟩
        have honi : (os.length : Int) < (mfs.length : Int) := by omega
        obtain ⟨Wo, hWo⟩ : ∃ Wo, Wo = wr := ⟨_, rfl⟩
        subst hWo
        obtain ⟨M, hM⟩ : ∃ M, M = mfs.length - os.length := ⟨_, rfl⟩
        have HM0 : Hid (mfs.length - lenV (.slice av os.length cv) = M) := hM.symm
        have HM1 : Hid (M = mfs.length - os.length) := hM
        have HGO := Hid.mk' (ord_goes HRI.out hon)
        have HON := Hid.mk' hon
        clear hM hon
        go_wp2_with fail
        go_loopw [10, 12] (fun t10 t12 wr => ∃ (f : Nat), t10 = .slice av os.length cv ∧ t12 = .int .i64 (f : Int) ∧ f ≤ mfs.length ∧ (∀ g, g < f → ¬ Rdy (CE ⟨mta, mtc, mths, mfa, mfc, mfs⟩) os g) ∧ wr = Wo) (fun _ t12 _ => mfs.length - (intOf t12).toNat)
        case atStart => exact ⟨0, rfl, rfl, Nat.zero_le _, (fun g hg => absurd hg (Nat.not_lt_zero _)), rfl⟩
        case round =>
          obtain ⟨f, rfl, rfl, hf, hnr, rfl⟩ := hrel
          have HNR := Hid.mk' hnr
          clear hnr
          by_cases hlt : f < mfs.length
          rotate_left
          · exfalso
            obtain ⟨g, h1, h2, _⟩ := HGO.out
            exact HNR.out g (by omega) h2
          have hlti : (f : Int) < (mfs.length : Int) := by omega
          have hrl := HDN.out.len
          simp only at hrl
          obtain ⟨bf, hbf⟩ : ∃ b, rs[f]? = some b := ⟨_, List.getElem?_eq_getElem (by omega)⟩
          obtain ⟨g', e', d0, k1, k2⟩ := ob_at HDM.out.r hbf
          cases e'
          clear k1 k2
          have hfri : (f : Int) < (rs.length : Int) := by omega
          obtain ⟨gt, ks, aj, cj, rfl, d1, hk, on1⟩ := (HRW.out.t.stay HDM.out.b).at_ hlt
          have HMY := Hid.mk' (MayI.start (ks := ks) HDN.out hbf)
          have HKS := Hid.mk' hk
          have hkl := hk.len
          simp only at hkl
          have HLK := Hid.mk' (own_lst on1)
          have HKN : Hid (∀ y ∈ ks, y < mfs.length) := fun y hy => ((hk.2 y).1 hy).lt
          have HBF := Hid.mk' hbf
          have HRL := Hid.mk' hrl
          clear hbf hk on1 hrl
          obtain ⟨Wp, hWp⟩ : ∃ Wp, Wp = wr := ⟨_, rfl⟩
          subst hWp
          go_wp2_with fail
          go_loopw [13, 14] (fun t13 t14 wr => ∃ (i : Nat) (my : Bool), t13 = .bool my ∧ t14 = .int .i64 (i : Int) ∧ i ≤ ks.length ∧ MayI os ks f i my ∧ wr = Wp) (fun _ t14 _ => ks.length - (intOf t14).toNat)
          case atStart => exact ⟨0, _, rfl, rfl, Nat.zero_le _, HMY.out, rfl⟩
          case round =>
            obtain ⟨i, my, rfl, rfl, hi, hmy, rfl⟩ := hrel
            have HMI := Hid.mk' hmy
            clear hmy HMY
            by_cases hil : i < ks.length
            · obtain ⟨u, hu⟩ : ∃ u, ks[i]? = some u := ⟨_, List.getElem?_eq_getElem hil⟩
              have hili : (i : Int) < (ks.length : Int) := by omega
              have hun := HKN.out u (List.mem_of_getElem? hu)
              cases my
              · have HM2 := Hid.mk' (HMI.out.no hu)
                clear hu
                go_wp2_with fail
                go_roundw
                case rel => exact ⟨i + 1, _, rfl, by go_num, by omega, HM2.out, trivial⟩
                case measure => simp [intOf]; omega
              · obtain ⟨bk, ok, eaj, e0⟩ := HLK.out i (nV u) (by rw [List.getElem?_map, hu]; rfl)
                subst eaj
                obtain ⟨bu, hbu⟩ : ∃ b, rs[u]? = some b := ⟨_, List.getElem?_eq_getElem (by have := HRL.out; omega)⟩
                obtain ⟨g', e', e1, k1, k2⟩ := ob_at HDM.out.r hbu
                cases e'
                clear k1 k2
                have huri : (u : Int) < (rs.length : Int) := by have := HRL.out; omega
                have HM2 := Hid.mk' (HMI.out.yes hu HDN.out hbu)
                unfold nV at e0
                clear hu hbu
                go_wp2_with fail
                go_roundw
                case rel => exact ⟨i + 1, _, rfl, by go_num, by omega, HM2.out, trivial⟩
                case measure => simp [intOf]; omega
            · have HRD := Hid.mk' (HMI.out.done (m := ⟨mta, mtc, mths, mfa, mfc, mfs⟩) (by omega) HKS.out)
              cases my
              · have HN2 : Hid (∀ g, g < f + 1 → ¬ Rdy (CE ⟨mta, mtc, mths, mfa, mfc, mfs⟩) os g) := fun g hg hr => by
                  by_cases e : g = f
                  · subst e
                    have := HRD.out.2 hr
                    cases this
                  · exact HNR.out g (by omega) hr
                go_wp2_with fail
                go_roundw
                case rel => exact ⟨f + 1, rfl, by go_num, by omega, HN2.out, trivial⟩
                case measure => simp [intOf]; omega
              · have HLS : Hid (LstR (CE ⟨mta, mtc, mths, mfa, mfc, mfs⟩) mfs.length os f) := ⟨hlt, HRD.out.1 rfl, fun g _ hr => Nat.le_of_not_lt fun h => HNR.out g h hr⟩
                have HDN2 := Hid.mk' (HDN.out.next HLS.out)
                have HDM1 := Hid.mk' (HDM.out.put f)
                have f0 := World.ownsRow.frozenAt HDM.out.r f
                have HAP := Hid.mk' (on_app HDM1.out.q HDM1.out.b.size (by omega) f 27)
                go_upto_region 29 with fail
                generalize wr.setCell ⟨Wt.heap.size + 1, f, none⟩ (.bool true) = W1 at *
                clear d0 d1 f0
                go_wp2_with (at_builtin; refine wpl_app rfl _ _ 27 27 _ _ rfl rfl rfl HAP.out ?_; rintro v3 W3 ⟨on3, gr3⟩)
                have HDM3 : Hid (DnM Wt (rs.set f true) (os ++ [f]) v3 W3) := ⟨HDM1.out.r.kept gr3 (own_ne HDM1.out.r HDM1.out.q (by decide)), on3, HDM1.out.b.grown gr3 HDM1.out.b.size (fun k e => own_base HDM1.out.q k e)⟩
                obtain ⟨a3, c3, rfl⟩ := gown_form on3
                clear on3 gr3
                go_roundw
                case rel => exact ⟨_, _, _, rfl, HDN2.out, HDM3.out⟩
                case measure =>
                  rw [HM0.out]
                  show mfs.length - (os ++ [f]).length < M
                  rw [HM1.out, List.length_append]
                  have := HON.out
                  simp
                  omega
end Go.Proofs.Ytdnilonfgbinaaa
