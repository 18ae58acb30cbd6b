/- Appends to rows of the call's own; flow.Next. -/
import Derived.Test.YtdnilonfgbinaaaNd
namespace Go.Proofs.Ytdnilonfgbinaaa
open Go.RowKit Go.Sort

/-- An append, at a place of a list of operations. -/
theorem wpl_app {ops : Array Oper} {rest : List Oper} {o : Oper} {a : Act} {Q : Exit → Act → World → Prop} {W : World} (hgd : o.guard = Option.none) (sl x : Operand) (t u : TypeId) (va vx : Value)
    (ho : o.op = .call { callee := .builtin .append, args := #[sl, x], argTypes := #[t, u] }) (hs : a.eval sl = va) (hx : a.eval x = vx) {R : Value → World → Prop}
    (hr : ∃ v' W', (Builtin.append_ #[t, u] o.type #[va, vx]).run Try.prog W = .ok v' W' ∧ R v' W')
    (h : ∀ v' W', R v' W' → wpList Try.prog ops Q rest (a.put o.dst v') W') : wpList Try.prog ops Q (o :: rest) a W := by
  refine wpList_plain hgd fun K hK => ?_
  obtain ⟨v', W', hr, h2⟩ := hr
  unfold Oper.wp execOp
  simp only [ho, resolve, invoke, builtin, Sem.run_bind, Sem.run_pure, Result.andThen_ok, List.map_toArray, List.map_cons, List.map_nil, hs, hx, hr]
  exact hK _ _ (h v' W' h2)
theorem step_app {ops : Array Oper} {o : Oper} {a : Act} {K : Act → World → Prop} {Q : Exit → Act → World → Prop} {E : Prop} {W : World} (hgd : o.guard = Option.none) (sl x : Operand) (t u : TypeId) (va vx : Value)
    (ho : o.op = .call { callee := .builtin .append, args := #[sl, x], argTypes := #[t, u] }) (hs : a.eval sl = va) (hx : a.eval x = vx) {R : Value → World → Prop}
    (hr : ∃ v' W', (Builtin.append_ #[t, u] o.type #[va, vx]).run Try.prog W = .ok v' W' ∧ R v' W')
    (h : ∀ v' W', R v' W' → K (a.put o.dst v') W') :
    if Region.wanted o (yielded ops a.tmps) = true then Oper.wp Try.prog o a W K Q else E := by
  have hw : Region.wanted o (yielded ops a.tmps) = true := by simp [Region.wanted, hgd]
  rw [if_pos hw]
  obtain ⟨v', W', hr, h2⟩ := hr
  unfold Oper.wp execOp
  simp only [ho, resolve, invoke, builtin, Sem.run_bind, Sem.run_pure, Result.andThen_ok, List.map_toArray, List.map_cons, List.map_nil, hs, hx, hr]
  exact h v' W' h2
theorem grown_of_alloc {W W' : World} {o : Obj} {row : Option Nat} (h : (W.alloc o).grownBy W' row) : W.grownBy W' row :=
  ⟨h.os, h.tape, h.output, Nat.le_trans (by simp) h.size, fun k hk hr => (h.block k (by simp; omega) hr).trans (Below.heap_alloc W o k hk)⟩
/-- One element more. -/
theorem app_one {t e : TypeId} {z : Value} {sz bytes : Nat} (ht : Try.prog.underlying t = some (.slice e)) (hi : (Try.prog.info? e).map (fun i => (i.zero, i.size, i.bytes)) = some (some z, sz, bytes)) (hzs : z.cells.size = sz) (hsz : 0 < sz)
    {N n : Nat} {v : Value} {xs : List Value} {W : World} (h : W.ownsRow N e sz v n xs) (hN : N ≤ W.heap.size) (h63 : n + 1 ≤ maxLen) (hb : (n + 1) * bytes ≤ 140737488355328) (cs : Array Value) (hc : cs.size = sz) (h1 : ∀ u ∈ cs.toList, u.oneCell' = true) (ty : TypeId) :
    ∃ v' W', (Builtin.append_ #[t, t] ty #[v, .slice (some ⟨W.heap.size, 0, none⟩) 1 1]).run Try.prog (W.alloc (.cells cs e)) = .ok v' W' ∧ W'.ownsRow N e sz v' (n + 1) (xs ++ cs.toList) ∧ W.grownBy W' v.ownBlock := by
  obtain ⟨i0, hi, hz0, hz1, hz2⟩ := info_parts hi
  obtain ⟨v', W', hr, h2, h3⟩ := run_append_ownS (P := Try.prog) (W.alloc (.cells cs e)) N t ty e i0 z sz bytes ht hi hz0 hz1 hz2 hzs hsz v n xs (h.alloc _) (some ⟨W.heap.size, 0, none⟩) 1 1 cs.toList (by simp [hc]) (fun e => by cases e) (fun ad e j u hu => by
    cases e
    rw [Addr.add_lit, Nat.zero_add]
    exact new_cell _ _ _ _ _ (by rw [← hu, Array.getElem?_toList])) h1 h63 hb (by simp; omega)
  exact ⟨v', W', hr, h2, grown_of_alloc h3⟩
/-- Numbers of the call's own, from N on; yes and no. -/
abbrev On (N : Nat) (l : List Nat) (v : Value) (W : World) : Prop := W.ownsRow N 3 1 v l.length (l.map nV)
abbrev Ob (N : Nat) (l : List Bool) (v : Value) (W : World) : Prop := W.ownsRow N 4 1 v l.length (l.map bV)
theorem Try.infoBool : (Try.prog.info? 4).map (fun i => (i.zero, i.size, i.bytes)) = some (some (.bool false), 1, 1) := by kernel_rfl
theorem on_app {N : Nat} {l : List Nat} {v : Value} {W : World} (h : On N l v W) (hN : N ≤ W.heap.size) (hl : l.length ≤ 1000000) (k : Nat) (ty : TypeId) :
    ∃ v' W', (Builtin.append_ #[27, 27] ty #[v, .slice (some ⟨W.heap.size, 0, none⟩) 1 1]).run Try.prog (W.alloc (.cells #[.int .i64 (k : Int)] 3)) = .ok v' W' ∧ On N (l ++ [k]) v' W' ∧ W.grownBy W' v.ownBlock := by
  obtain ⟨v', W', h1, h2, h3⟩ := app_one (t := 27) Try.underlying27 Try.infoN rfl (by decide) h hN (by unfold maxLen; omega) (by omega) #[.int .i64 (k : Int)] rfl (by simp [Value.oneCell']) ty
  refine ⟨v', W', h1, ?_, h3⟩
  unfold On
  rw [List.length_append, List.map_append]
  exact h2
theorem on_nil (N : Nat) (W : World) : On N [] (.slice none 0 0) W := World.ownsRow_nil _ _ _ _
theorem ob_nil (N : Nat) (W : World) : Ob N [] (.slice none 0 0) W := World.ownsRow_nil _ _ _ _
/-- What is kept by an append: what lies ahead of the row's own block. -/
theorem own_keeps {N n sz : Nat} {T : TypeId} {v : Value} {xs : List Value} {W W' : World} (h : W.ownsRow N T sz v n xs) (hN : N ≤ W.heap.size) (hg : W.grownBy W' v.ownBlock) : Below N W W' := (Below.refl N W).grown hg hN (fun k e => own_base h k e)

def NxP (l : List Nat) (w : World) (e : Ending) (w' : World) : Prop := ∃ v, e = .returned v ∧ On w.heap.size l v w' ∧ Below w.heap.size w w'
theorem take_pk (n : Nat) (L : List Int) {j : Nat} (h : j < L.length) : (L.take (j + 1)).foldl (pk n) [] = pk n ((L.take j).foldl (pk n) []) L[j] := by
  rw [List.take_succ_eq_append_getElem h, List.foldl_append]; rfl
theorem pk_yes {n : Nat} {acc : List Nat} {k : Nat} (h : k < n) (h2 : k ∉ acc) : pk n acc (k : Int) = acc ++ [k] := by unfold pk; rw [if_pos ⟨by omega, by omega, by simpa using h2⟩]; simp
theorem pk_no {n : Nat} {acc : List Nat} {z : Int} (h : z < 0 ∨ (n : Int) ≤ z) : pk n acc z = acc := by unfold pk; rw [if_neg (by omega)]
theorem pk_has {n : Nat} {acc : List Nat} {k : Nat} (h2 : k ∈ acc) : pk n acc (k : Int) = acc := by unfold pk; rw [if_neg (fun h => h.2.2 (by simpa using h2))]
set_option maxRecDepth 100000 in
set_option maxHeartbeats 4000000 in
theorem next_any (f : Fn) (z : Int) (w : World) (hi : Iss w f.ca f.code) : Calls Try.prog 37 #[f.val, .int .i64 z] w (NxP (nxZ f.code z) w) := by
  obtain ⟨fn, fpa, fpc, fps, frg, fwd, fca, fcc, fl⟩ := f
  unfold Fn.val
  simp only at hi ⊢
  have HB := Hid.mk' (Below.one (Below.refl _ w) (.cells #[.string fn, .slice fpa fps.length fpc, .int .i64 frg, .int .i64 fwd, .slice fca fl.length fcc] 42))
  have hb := HB.out
  have HI := Hid.mk' (hi.stay hb)
  have y4 := new_cell w #[.string fn, .slice fpa fps.length fpc, .int .i64 frg, .int .i64 fwd, .slice fca fl.length fcc] 42 4 (.slice fca fl.length fcc) rfl
  have hc := hi.1
  clear hi hb
  by_cases hneg : z < 0
  · rw [nxZ_none (.inl hneg)]
    go_enter Try.func37, Try.ntmps37
    go_wp2_with fail
    go_ret
    exact ⟨_, rfl, on_nil _ _, HB.out⟩
  obtain ⟨i, rfl⟩ : ∃ i : Nat, z = i := ⟨z.toNat, by omega⟩
  by_cases hge : fl.length ≤ i
  · rw [nxZ_none (.inr (by omega))]
    have hgi : (fl.length : Int) ≤ (i : Int) := by omega
    clear hge
    go_enter Try.func37, Try.ntmps37
    go_wp2_with fail
    go_ret
    exact ⟨_, rfl, on_nil _ _, HB.out⟩
  have hlt : i < fl.length := by omega
  have hli : (i : Int) < (fl.length : Int) := by omega
  rw [nxZ_nat, nxt_at hlt, ← nm_nx]
  obtain ⟨b, o, rfl, c0, c1, c2, c3, c4⟩ := iss_at HI.out hlt
  clear HI hge hneg
  have HN := Hid.mk' (named_any fl[i] ((i : Int) + 1))
  have HL := Hid.mk' (nmL_len fl[i] ((i : Int) + 1))
  unfold Is.val at HN
  generalize nmL fl[i] ((i : Int) + 1) = L at *
  generalize fl[i] = x at *
  go_enter Try.func37, Try.ntmps37
  go_wp2_with fail
  refine (HN.out _).mono ?_
  rintro e w1 ⟨a1, k1, rfl, hl1, bb1⟩
  have y5 := cell_kept_below y4 bb1
  replace HB := Hid.mk' (Below.on HB.out bb1)
  have HL1 := Hid.mk' hl1
  have HS : Hid (w.heap.size ≤ w1.heap.size) := HB.out.size
  clear c0 c1 c2 c3 c4 y4 HN hl1 bb1
  go_wp2_with fail
  go_loopw [5, 26] (fun t5 t26 wr => ∃ (j : Nat) (acc : List Nat) (v : Value), j ≤ L.length ∧ t26 = .int .i64 j ∧ t5 = v ∧ acc = (L.take j).foldl (pk fl.length) [] ∧ acc.length ≤ j ∧ On w1.heap.size acc v wr ∧ Below w1.heap.size w1 wr) (fun _ t26 _ => L.length - (intOf t26).toNat)
  case atStart => exact ⟨0, [], _, Nat.zero_le _, rfl, rfl, rfl, Nat.le_refl _, on_nil _ _, Below.refl _ _⟩
  case round =>
    obtain ⟨j, acc, v, hj, rfl, rfl, hacc, hal, hown, hb⟩ := hrel
    have HA := Hid.mk' hacc
    have HO := Hid.mk' hown
    have HBR := Hid.mk' hb
    have y6 := cell_kept_below y5 hb
    have hj2 : j ≤ 2 := by have := HL.out; omega
    obtain ⟨av, cv, rfl⟩ := gown_form hown
    clear hacc hown hb
    by_cases hjl : j < L.length
    · obtain ⟨b2, o2, rfl, d0⟩ := lst_i (HL1.out.stay HBR.out) hjl
      have hjli : (j : Int) < (L.length : Int) := by omega
      have HT := Hid.mk' (take_pk fl.length L hjl)
      rw [← HA.out] at HT
      have HNX : Hid (acc.length ≤ j + 1) := Nat.le_succ_of_le hal
      have HD : Hid (Nat.succ j ≤ L.length) := hjl
      generalize L[j] = y at *
      by_cases h1 : y < 0
      · have HP := Hid.mk' (pk_no (n := fl.length) (acc := acc) (.inl h1))
        go_wp2_with fail
        go_roundw
        case rel => exact ⟨j + 1, acc, _, HD.out, by go_num, rfl, by rw [HT.out, HP.out], HNX.out, HO.out, HBR.out⟩
        case measure => simp [intOf]; omega
      obtain ⟨k, rfl⟩ : ∃ k : Nat, y = k := ⟨y.toNat, by omega⟩
      clear h1
      by_cases h2 : fl.length ≤ k
      · have HP := Hid.mk' (pk_no (n := fl.length) (acc := acc) (z := (k : Int)) (.inr (by omega)))
        have h2i : ¬ (k : Int) < (fl.length : Int) := by omega
        clear h2
        go_wp2_with fail
        go_roundw
        case rel => exact ⟨j + 1, acc, _, HD.out, by go_num, rfl, by rw [HT.out, HP.out], HNX.out, HO.out, HBR.out⟩
        case measure => simp [intOf]; omega
      have h2i : (k : Int) < (fl.length : Int) := by omega
      have HCT := Hid.mk' (contains_any acc k av cv wr (own_lst HO.out) (by omega))
      by_cases h3 : k ∈ acc
      · have HP := Hid.mk' (pk_has (n := fl.length) h3)
        rw [decide_eq_true h3] at HCT
        clear h2 h3
        go_wp2_with (go_at_call 52; refine HCT.out.mono ?_; rintro e w2 ⟨rfl, rfl⟩)
        go_roundw
        case rel => exact ⟨j + 1, acc, _, HD.out, by go_num, rfl, by rw [HT.out, HP.out], HNX.out, HO.out, HBR.out⟩
        case measure => simp [intOf]; omega
      · have HP := Hid.mk' (pk_yes (n := fl.length) (by omega) h3)
        rw [decide_eq_false h3] at HCT
        have HAP := Hid.mk' (on_app HO.out HBR.out.size (by omega) k 27)
        clear h2 h3
        go_wp2_with (first
          | (go_at_call 52; refine HCT.out.mono ?_; rintro e w2 ⟨rfl, rfl⟩)
          | (at_builtin; refine wpl_app rfl _ _ 27 27 _ _ rfl rfl rfl HAP.out ?_; rintro v2 w2 ⟨on2, gr2⟩))
        obtain ⟨a2, k2, rfl⟩ := gown_form on2
        go_roundw
        case rel => exact ⟨j + 1, acc ++ [k], _, HD.out, by go_num, rfl, by rw [HT.out, HP.out], by rw [List.length_append]; exact Nat.succ_le_succ hal, on2, HBR.out.trans (own_keeps HO.out HBR.out.size gr2)⟩
        case measure => simp [intOf]; omega
    · go_wp2_with fail
      go_ret
      refine ⟨_, rfl, ?_, HB.out.trans (HBR.out.mono HB.out.size)⟩
      have e := HA.out
      rw [List.take_of_length_le (by omega)] at e
      rw [← e]
      exact own_mono HO.out HS.out
end Go.Proofs.Ytdnilonfgbinaaa
