/- Appends to rows of the call's own; flow.Next. -/
import Derived.Test.YtgiokognngllcaaDoorGgac
import Derived.Test.YtgiokognngllcaaDoorGgaa
namespace Go.Proofs.YtgiokognngllcaaDoor
open Go.RowKit Go.Sort

/-- An append, at a place of a list of operations. -/
theorem wpl_app {ops : Array Oper} {rest : List Oper} {o : Oper} {a : Act} {Q : Exit → Act → World → Prop} {W : World} (hgd : o.guard = Option.none) (sl x : Operand) (t u : TypeId) (va vx : Value)
    (ho : o.op = .call { callee := .builtin .append, args := #[sl, x], argTypes := #[t, u] }) (hs : a.eval sl = va) (hx : a.eval x = vx) {R : Value → World → Prop}
    (hr : ∃ v' W', (Builtin.append_ #[t, u] o.type #[va, vx]).run Tryd.prog W = .ok v' W' ∧ R v' W')
    (h : ∀ v' W', R v' W' → wpList Tryd.prog ops Q rest (a.put o.dst v') W') : wpList Tryd.prog ops Q (o :: rest) a W := by
  refine wpList_plain hgd fun K hK => ?_
  obtain ⟨v', W', hr, h2⟩ := hr
  unfold Oper.wp execOp
  simp only [ho, resolve, invoke, builtin, Sem.run_bind, Sem.run_pure, Result.andThen_ok, List.map_toArray, List.map_cons, List.map_nil, hs, hx, hr]
  exact hK _ _ (h v' W' h2)
theorem step_app {ops : Array Oper} {o : Oper} {a : Act} {K : Act → World → Prop} {Q : Exit → Act → World → Prop} {E : Prop} {W : World} (hgd : o.guard = Option.none) (sl x : Operand) (t u : TypeId) (va vx : Value)
    (ho : o.op = .call { callee := .builtin .append, args := #[sl, x], argTypes := #[t, u] }) (hs : a.eval sl = va) (hx : a.eval x = vx) {R : Value → World → Prop}
    (hr : ∃ v' W', (Builtin.append_ #[t, u] o.type #[va, vx]).run Tryd.prog W = .ok v' W' ∧ R v' W')
    (h : ∀ v' W', R v' W' → K (a.put o.dst v') W') :
    if Region.wanted o (yielded ops a.tmps) = true then Oper.wp Tryd.prog o a W K Q else E := by
  have hw : Region.wanted o (yielded ops a.tmps) = true := by simp [Region.wanted, hgd]
  rw [if_pos hw]
  obtain ⟨v', W', hr, h2⟩ := hr
  unfold Oper.wp execOp
  simp only [ho, resolve, invoke, builtin, Sem.run_bind, Sem.run_pure, Result.andThen_ok, List.map_toArray, List.map_cons, List.map_nil, hs, hx, hr]
  exact h v' W' h2
theorem grown_of_alloc {W W' : World} {o : Obj} {row : Option Nat} (h : (W.alloc o).grownBy W' row) : W.grownBy W' row :=
  ⟨h.os, h.tape, h.output, Nat.le_trans (by simp) h.size, fun k hk hr => (h.block k (by simp; omega) hr).trans (Below.heap_alloc W o k hk)⟩
/-- One element more. -/
theorem app_one {t e : TypeId} {z : Value} {sz bytes : Nat} (ht : Tryd.prog.underlying t = some (.slice e)) (hi : (Tryd.prog.info? e).map (fun i => (i.zero, i.size, i.bytes)) = some (some z, sz, bytes)) (hzs : z.cells.size = sz) (hsz : 0 < sz)
    {N n : Nat} {v : Value} {xs : List Value} {W : World} (h : W.ownsRow N e sz v n xs) (hN : N ≤ W.heap.size) (h63 : n + 1 ≤ maxLen) (hb : (n + 1) * bytes ≤ 140737488355328) (cs : Array Value) (hc : cs.size = sz) (h1 : ∀ u ∈ cs.toList, u.oneCell' = true) (ty : TypeId) :
    ∃ v' W', (Builtin.append_ #[t, t] ty #[v, .slice (some ⟨W.heap.size, 0, none⟩) 1 1]).run Tryd.prog (W.alloc (.cells cs e)) = .ok v' W' ∧ W'.ownsRow N e sz v' (n + 1) (xs ++ cs.toList) ∧ W.grownBy W' v.ownBlock := by
  obtain ⟨i0, hi, hz0, hz1, hz2⟩ := info_parts hi
  obtain ⟨v', W', hr, h2, h3⟩ := run_append_ownS (P := Tryd.prog) (W.alloc (.cells cs e)) N t ty e i0 z sz bytes ht hi hz0 hz1 hz2 hzs hsz v n xs (h.alloc _) (some ⟨W.heap.size, 0, none⟩) 1 1 cs.toList (by simp [hc]) (fun e => by cases e) (fun ad e j u hu => by
    cases e
    rw [Addr.add_lit, Nat.zero_add]
    exact new_cell _ _ _ _ _ (by rw [← hu, Array.getElem?_toList])) h1 h63 hb (by simp; omega)
  exact ⟨v', W', hr, h2, grown_of_alloc h3⟩
/-- Numbers of the call's own, from N on; yes and no. -/
abbrev On (N : Nat) (l : List Nat) (v : Value) (W : World) : Prop := W.ownsRow N 3 1 v l.length (l.map nV)
abbrev Ob (N : Nat) (l : List Bool) (v : Value) (W : World) : Prop := W.ownsRow N 4 1 v l.length (l.map bV)
theorem Tryd.infoBool : (Tryd.prog.info? 4).map (fun i => (i.zero, i.size, i.bytes)) = some (some (.bool false), 1, 1) := by kernel_rfl
theorem on_app {N : Nat} {l : List Nat} {v : Value} {W : World} (h : On N l v W) (hN : N ≤ W.heap.size) (hl : l.length ≤ 1000000) (k : Nat) (ty : TypeId) :
    ∃ v' W', (Builtin.append_ #[38, 38] ty #[v, .slice (some ⟨W.heap.size, 0, none⟩) 1 1]).run Tryd.prog (W.alloc (.cells #[.int .i64 (k : Int)] 3)) = .ok v' W' ∧ On N (l ++ [k]) v' W' ∧ W.grownBy W' v.ownBlock := by
  obtain ⟨v', W', h1, h2, h3⟩ := app_one (t := 38) Tryd.underlying38 Tryd.infoN rfl (by decide) h hN (by unfold maxLen; omega) (by omega) #[.int .i64 (k : Int)] rfl (by simp [Value.oneCell']) ty
  refine ⟨v', W', h1, ?_, h3⟩
  unfold On
  rw [List.length_append, List.map_append]
  exact h2
theorem on_nil (N : Nat) (W : World) : On N [] (.slice none 0 0) W := World.ownsRow_nil _ _ _ _
theorem ob_nil (N : Nat) (W : World) : Ob N [] (.slice none 0 0) W := World.ownsRow_nil _ _ _ _
/-- What is kept by an append: what lies ahead of the row's own block. -/
theorem own_keeps {N n sz : Nat} {T : TypeId} {v : Value} {xs : List Value} {W W' : World} (h : W.ownsRow N T sz v n xs) (hN : N ≤ W.heap.size) (hg : W.grownBy W' v.ownBlock) : Below N W W' := (Below.refl N W).grown hg hN (fun k e => own_base h k e)

def NxP (l : List Nat) (w : World) (e : Ending) (w' : World) : Prop := ∃ v, e = .returned v ∧ On w.heap.size l v w' ∧ Below w.heap.size w w'
theorem take_pk (n : Nat) (L : List Int) {j : Nat} (h : j < L.length) : (L.take (j + 1)).foldl (pk n) [] = pk n ((L.take j).foldl (pk n) []) L[j] := by
  rw [List.take_succ_eq_append_getElem h, List.foldl_append]; rfl
theorem pk_yes {n : Nat} {acc : List Nat} {k : Nat} (h : k < n) (h2 : k ∉ acc) : pk n acc (k : Int) = acc ++ [k] := by unfold pk; rw [if_pos ⟨by omega, by omega, by simpa using h2⟩]; simp
theorem pk_no {n : Nat} {acc : List Nat} {z : Int} (h : z < 0 ∨ (n : Int) ≤ z) : pk n acc z = acc := by unfold pk; rw [if_neg (by omega)]
theorem pk_has {n : Nat} {acc : List Nat} {k : Nat} (h2 : k ∈ acc) : pk n acc (k : Int) = acc := by unfold pk; rw [if_neg (fun h => h.2.2 (by simpa using h2))]
set_option maxRecDepth 100000 in
set_option maxHeartbeats 4000000 in
theorem next_any (f : Fn) (z : Int) (w : World) (hi : Iss w f.ca f.code) : Calls Tryd.prog 54 #[f.val, .int .i64 z] w (NxP (nxZ f.code z) w) := by
  obtain ⟨fn, fpa, fpc, fps, frg, fwd, fca, fcc, fl⟩ := f
  unfold Fn.val
  simp only at hi ⊢
  have HB := Hid.mk' (Below.one (Below.refl _ w) (.cells #[.string fn, .slice fpa fps.length fpc, .int .i64 frg, .int .i64 fwd, .slice fca fl.length fcc] 25))
  have hb := HB.out
  have HI := Hid.mk' (hi.stay hb)
  have y4 := new_cell w #[.string fn, .slice fpa fps.length fpc, .int .i64 frg, .int .i64 fwd, .slice fca fl.length fcc] 25 4 (.slice fca fl.length fcc) rfl
  have hc := hi.1
  clear hi hb
  by_cases hneg : z < 0
  · rw [nxZ_none (.inl hneg)]
    go_enter Tryd.func54, Tryd.ntmps54
    go_wp2_with fail
    go_ret
    exact ⟨_, rfl, on_nil _ _, HB.out⟩
  obtain ⟨i, rfl⟩ : ∃ i : Nat, z = i := ⟨z.toNat, by omega⟩
  by_cases hge : fl.length ≤ i
  · rw [nxZ_none (.inr (by omega))]
    have hgi : (fl.length : Int) ≤ (i : Int) := by omega
    clear hge
    go_enter Tryd.func54, Tryd.ntmps54
    go_wp2_with fail
    go_ret
    exact ⟨_, rfl, on_nil _ _, HB.out⟩
  have hlt : i < fl.length := by omega
  have hli : (i : Int) < (fl.length : Int) := by omega
  rw [nxZ_nat, nxt_at hlt, ← nm_nx]
  obtain ⟨b, o, rfl, c0, c1, c2, c3, c4⟩ := iss_at HI.out hlt
  clear HI hge hneg
  have HN := Hid.mk' (named_any fl[i] ((i : Int) + 1))
  have HL := Hid.mk' (nmL_len fl[i] ((i : Int) + 1))
  unfold Is.val at HN
  generalize nmL fl[i] ((i : Int) + 1) = L at *
  generalize fl[i] = x at *
  go_enter Tryd.func54, Tryd.ntmps54
  go_wp2_with fail
  refine (HN.out _).mono ?_
  rintro e w1 ⟨a1, k1, rfl, hl1, bb1⟩
  have y5 := cell_kept_below y4 bb1
  replace HB := Hid.mk' (Below.on HB.out bb1)
  have HL1 := Hid.mk' hl1
  have HS : Hid (w.heap.size ≤ w1.heap.size) := HB.out.size
  clear c0 c1 c2 c3 c4 y4 HN hl1 bb1
  go_wp2_with fail
  go_loopw [5, 26] (fun t5 t26 wr => ∃ (j : Nat) (acc : List Nat) (v : Value), j ≤ L.length ∧ t26 = .int .i64 j ∧ t5 = v ∧ acc = (L.take j).foldl (pk fl.length) [] ∧ acc.length ≤ j ∧ On w1.heap.size acc v wr ∧ Below w1.heap.size w1 wr) (fun _ t26 _ => L.length - (intOf t26).toNat)
  case atStart => exact ⟨0, [], _, Nat.zero_le _, rfl, rfl, rfl, Nat.le_refl _, on_nil _ _, Below.refl _ _⟩
  case round =>
    obtain ⟨j, acc, v, hj, rfl, rfl, hacc, hal, hown, hb⟩ := hrel
    have HA := Hid.mk' hacc
    have HO := Hid.mk' hown
    have HBR := Hid.mk' hb
    have y6 := cell_kept_below y5 hb
    have hj2 : j ≤ 2 := by have := HL.out; omega
    obtain ⟨av, cv, rfl⟩ := gown_form hown
    clear hacc hown hb
    by_cases hjl : j < L.length
    · obtain ⟨b2, o2, rfl, d0⟩ := lst_i (HL1.out.stay HBR.out) hjl
      have hjli : (j : Int) < (L.length : Int) := by omega
      have HT := Hid.mk' (take_pk fl.length L hjl)
      rw [← HA.out] at HT
      have HNX : Hid (acc.length ≤ j + 1) := Nat.le_succ_of_le hal
      have HD : Hid (Nat.succ j ≤ L.length) := hjl
      generalize L[j] = y at *
      by_cases h1 : y < 0
      · have HP := Hid.mk' (pk_no (n := fl.length) (acc := acc) (.inl h1))
        go_wp2_with fail
        go_roundw
        case rel => exact ⟨j + 1, acc, _, HD.out, by go_num, rfl, by rw [HT.out, HP.out], HNX.out, HO.out, HBR.out⟩
        case measure => simp [intOf]; omega
      obtain ⟨k, rfl⟩ : ∃ k : Nat, y = k := ⟨y.toNat, by omega⟩
      clear h1
      by_cases h2 : fl.length ≤ k
      · have HP := Hid.mk' (pk_no (n := fl.length) (acc := acc) (z := (k : Int)) (.inr (by omega)))
        have h2i : ¬ (k : Int) < (fl.length : Int) := by omega
        clear h2
        go_wp2_with fail
        go_roundw
        case rel => exact ⟨j + 1, acc, _, HD.out, by go_num, rfl, by rw [HT.out, HP.out], HNX.out, HO.out, HBR.out⟩
        case measure => simp [intOf]; omega
      have h2i : (k : Int) < (fl.length : Int) := by omega
      have HCT := Hid.mk' (contains_any acc k av cv wr (own_lst HO.out) (by omega))
      by_cases h3 : k ∈ acc
      · have HP := Hid.mk' (pk_has (n := fl.length) h3)
        rw [decide_eq_true h3] at HCT
        clear h2 h3
        go_wp2_with (go_at_call 32; refine HCT.out.mono ?_; rintro e w2 ⟨rfl, rfl⟩)
        go_roundw
        case rel => exact ⟨j + 1, acc, _, HD.out, by go_num, rfl, by rw [HT.out, HP.out], HNX.out, HO.out, HBR.out⟩
        case measure => simp [intOf]; omega
      · have HP := Hid.mk' (pk_yes (n := fl.length) (by omega) h3)
        rw [decide_eq_false h3] at HCT
        have HAP := Hid.mk' (on_app HO.out HBR.out.size (by omega) k 38)
        clear h2 h3
        go_wp2_with (first
          | (go_at_call 32; refine HCT.out.mono ?_; rintro e w2 ⟨rfl, rfl⟩)
          | (at_builtin; refine wpl_app rfl _ _ 38 38 _ _ rfl rfl rfl HAP.out ?_; rintro v2 w2 ⟨on2, gr2⟩))
        obtain ⟨a2, k2, rfl⟩ := gown_form on2
        go_roundw
        case rel => exact ⟨j + 1, acc ++ [k], _, HD.out, by go_num, rfl, by rw [HT.out, HP.out], by rw [List.length_append]; exact Nat.succ_le_succ hal, on2, HBR.out.trans (own_keeps HO.out HBR.out.size gr2)⟩
        case measure => simp [intOf]; omega
    · go_wp2_with fail
      go_ret
      refine ⟨_, rfl, ?_, HB.out.trans (HBR.out.mono HB.out.size)⟩
      have e := HA.out
      rw [List.take_of_length_le (by omega)] at e
      rw [← e]
      exact own_mono HO.out HS.out
end Go.Proofs.YtgiokognngllcaaDoor

/- Where an instruction leads: the document's own Next. -/
namespace Go.Proofs.YtgiokognngllcaaDoor
open Go.RowKit Go.Sort

theorem rtarget_b (op : Int) (w : World) : Calls Tryd.prog 46 #[.int .i64 op] w fun e w' => e = .returned (.bool (decide (op = 14 ∨ op = 15 ∨ op = 16 ∨ op = 17 ∨ op = 18))) ∧ w' = w := by
  have := rtarget_any op w
  rwa [show ((rwOf op).n == 3) = decide (op = 14 ∨ op = 15 ∨ op = 16 ∨ op = 17 ∨ op = 18) by
    by_cases h : 0 ≤ op ∧ op ≤ 19
    · refine op_cases (P := fun op => ((rwOf op).n == 3) = decide (op = 14 ∨ op = 15 ∨ op = 16 ∨ op = 17 ∨ op = 18)) h.1 h.2 ?_ ?_ ?_ ?_ ?_ ?_ ?_ ?_ ?_ ?_ ?_ ?_ ?_ ?_ ?_ ?_ ?_ ?_ ?_ ?_ <;> kernel_rfl
    · rw [rwOf_no h, decide_eq_false (by omega)]; rfl] at this
theorem tgt_yes {n k : Nat} (h : (k : Int) < n) : tgt n (k : Int) = [k] := by unfold tgt; rw [if_pos (by omega)]; simp
theorem tgt_yes1 {n k : Nat} (h : (k : Int) + 1 < n) : tgt n ((k : Int) + 1) = [k + 1] := by unfold tgt; rw [if_pos (by omega)]; congr 1
theorem tgt_no {n : Nat} {z : Int} (h : ¬ (0 ≤ z ∧ z < n)) : tgt n z = [] := by unfold tgt; rw [if_neg h]
theorem nx_none {n u : Nat} {o a b c m : Int} (h : ¬ (1 ≤ o ∧ o ≤ 19)) : nxL n ⟨o, a, b, c, m⟩ u = [] := by unfold nxL; simp only; rw [if_neg (by omega), if_neg (by omega), if_neg h]
theorem nx_j {n u : Nat} {o a b c m : Int} (h : o = 14 ∨ o = 18) : nxL n ⟨o, a, b, c, m⟩ u = tgt n m := by unfold nxL; simp only; rw [if_pos h]
theorem nx_i {n u : Nat} {o a b c m : Int} (h : o = 15 ∨ o = 16 ∨ o = 17) : nxL n ⟨o, a, b, c, m⟩ u = tgt n ((u : Int) + 1) ++ (if m = (u : Int) + 1 then [] else tgt n m) := by unfold nxL; simp only; rw [if_neg (by omega), if_pos h]
theorem nx_i0 {n u : Nat} {o a b c m : Int} (h : o = 15 ∨ o = 16 ∨ o = 17) (hm : ¬ (0 ≤ m ∧ m < n)) : nxL n ⟨o, a, b, c, m⟩ u = tgt n ((u : Int) + 1) := by rw [nx_i h, tgt_no hm]; simp
theorem nx_o {n u : Nat} {o a b c m : Int} (h : 1 ≤ o ∧ o ≤ 19) (h2 : ¬ (14 ≤ o ∧ o ≤ 18)) : nxL n ⟨o, a, b, c, m⟩ u = tgt n ((u : Int) + 1) := by unfold nxL; simp only; rw [if_neg (by omega), if_neg (by omega), if_pos h]
set_option maxRecDepth 100000 in
set_option maxHeartbeats 4000000 in
theorem rnext_any (f : Fn) (z : Int) (w : World) (hi : Iss w f.ca f.code) : Calls Tryd.prog 33 #[f.val, .int .i64 z] w (NxP (nxZ f.code z) w) := by
  obtain ⟨fn, fpa, fpc, fps, frg, fwd, fca, fcc, fl⟩ := f
  unfold Fn.val
  simp only at hi ⊢
  have HB := Hid.mk' (Below.one (Below.one (Below.refl _ w) (.cells #[.string fn, .slice fpa fps.length fpc, .int .i64 frg, .int .i64 fwd, .slice fca fl.length fcc] 25)) (.cells #[] 3))
  have HI := Hid.mk' (hi.stay HB.out)
  have y4 := cell_kept_below (new_cell w #[.string fn, .slice fpa fps.length fpc, .int .i64 frg, .int .i64 fwd, .slice fca fl.length fcc] 25 4 (.slice fca fl.length fcc) rfl) (Below.one (Below.refl _ _) (.cells #[] 3))
  have HO := Hid.mk' (row_new (w.alloc (.cells #[.string fn, .slice fpa fps.length fpc, .int .i64 frg, .int .i64 fwd, .slice fca fl.length fcc] 25)) 3 1)
  rw [World.size_alloc] at HO
  have hc := hi.1
  clear hi
  by_cases hneg : z < 0
  · rw [nxZ_none (.inl hneg)]
    go_enter Tryd.func33, Tryd.ntmps33
    go_wp2_with fail
    go_ret
    exact ⟨_, rfl, own_mono HO.out (Nat.le_succ _), HB.out⟩
  obtain ⟨i, rfl⟩ : ∃ i : Nat, z = i := ⟨z.toNat, by omega⟩
  by_cases hge : fl.length ≤ i
  · rw [nxZ_none (.inr (by omega))]
    have hgi : (fl.length : Int) ≤ (i : Int) := by omega
    clear hge
    go_enter Tryd.func33, Tryd.ntmps33
    go_wp2_with fail
    go_ret
    exact ⟨_, rfl, own_mono HO.out (Nat.le_succ _), HB.out⟩
  have hlt : i < fl.length := by omega
  have hli : (i : Int) < (fl.length : Int) := by omega
  rw [nxZ_nat, nxt_at hlt]
  obtain ⟨b, o, rfl, c0, c1, c2, c3, c4⟩ := iss_at HI.out hlt
  clear HI hge hneg
  generalize fl[i] = x at *
  obtain ⟨xo, xa, xb, xc, xn⟩ := x
  simp only at c0 c1 c2 c3 c4
  have bX := Below.one (Below.refl _ ((w.alloc (.cells #[.string fn, .slice fpa fps.length fpc, .int .i64 frg, .int .i64 fwd, .slice (some ⟨b, o, none⟩) fl.length fcc] 25)).alloc (.cells #[] 3))) (.cells #[.int .i64 xo, .int .i64 xa, .int .i64 xb, .int .i64 xc, .int .i64 xn] 52)
  have z4 := cell_kept_below y4 bX
  have x0 := new_cell ((w.alloc (.cells #[.string fn, .slice fpa fps.length fpc, .int .i64 frg, .int .i64 fwd, .slice (some ⟨b, o, none⟩) fl.length fcc] 25)).alloc (.cells #[] 3)) #[.int .i64 xo, .int .i64 xa, .int .i64 xb, .int .i64 xc, .int .i64 xn] 52 0 (.int .i64 xo) rfl
  have x4 := new_cell ((w.alloc (.cells #[.string fn, .slice fpa fps.length fpc, .int .i64 frg, .int .i64 fwd, .slice (some ⟨b, o, none⟩) fl.length fcc] 25)).alloc (.cells #[] 3)) #[.int .i64 xo, .int .i64 xa, .int .i64 xb, .int .i64 xc, .int .i64 xn] 52 4 (.int .i64 xn) rfl
  rw [World.size_alloc, World.size_alloc] at x0 x4
  replace HO := Hid.mk' (own_stay HO.out bX)
  replace HB := Hid.mk' (Below.on HB.out bX)
  have HS : Hid (w.heap.size + 1 ≤ (((w.alloc (.cells #[.string fn, .slice fpa fps.length fpc, .int .i64 frg, .int .i64 fwd, .slice (some ⟨b, o, none⟩) fl.length fcc] 25)).alloc (.cells #[] 3)).alloc (.cells #[.int .i64 xo, .int .i64 xa, .int .i64 xb, .int .i64 xc, .int .i64 xn] 52)).heap.size) := (by simp : w.heap.size + 1 ≤ _)
  have HK := Hid.mk' (rknown_any xo)
  have HG := Hid.mk' (rtarget_b xo)
  clear bX
  go_enter Tryd.func33, Tryd.ntmps33
  go_upto_region 5 with fail
  generalize ((w.alloc (.cells #[.string fn, .slice fpa fps.length fpc, .int .i64 frg, .int .i64 fwd, .slice (some ⟨b, o, none⟩) fl.length fcc] 25)).alloc (.cells #[] 3)).alloc (.cells #[.int .i64 xo, .int .i64 xa, .int .i64 xb, .int .i64 xc, .int .i64 xn] 52) = W3 at *
  clear c0 c1 c2 c3 c4 y4
  have HO3 : Hid (On (w.heap.size + 1) [] (.slice (some ⟨w.heap.size + 1, 0, none⟩) 0 0) W3) := HO.out
  have HAP1 := Hid.mk' (on_app HO3.out HS.out (by simp) (i + 1) 38)
  rw [Int.natCast_add, Int.natCast_one] at HAP1
  have HG3 : Hid (∀ W' v, W3.grownBy W' (Value.slice (some ⟨w.heap.size + 1, 0, none⟩) 0 0).ownBlock → On (w.heap.size + 1) ([] ++ [i + 1]) v W' → W'.cell? ⟨w.heap.size, 4, none⟩ = some (.slice (some ⟨b, o, none⟩) fl.length fcc) ∧ W'.cell? ⟨w.heap.size + 1 + 1, 0, none⟩ = some (.int .i64 xo) ∧ W'.cell? ⟨w.heap.size + 1 + 1, 4, none⟩ = some (.int .i64 xn) ∧ Below w.heap.size w W' ∧
      (∀ k : Nat, ∃ v' W'', (Builtin.append_ #[38, 38] 38 #[v, .slice (some ⟨W'.heap.size, 0, none⟩) 1 1]).run Tryd.prog (W'.alloc (.cells #[.int .i64 (k : Int)] 3)) = .ok v' W'' ∧ On w.heap.size [i + 1, k] v' W'' ∧ Below w.heap.size w W'')) := by
    intro W' v hg ho
    have b3 := HB.out.grown hg HB.out.size (fun k e => by simp [Value.ownBlock] at e; omega)
    refine ⟨hg.cell z4 (fun e => by simp [Value.ownBlock] at e), hg.cell x0 (fun e => by simp [Value.ownBlock] at e), hg.cell x4 (fun e => by simp [Value.ownBlock] at e), b3, fun k => ?_⟩
    obtain ⟨v', W'', r1, r2, r3⟩ := on_app ho (Nat.le_trans HS.out hg.size) (by simp) k 38
    exact ⟨v', W'', r1, own_mono r2 (Nat.le_succ _), b3.trans ((own_keeps ho (Nat.le_trans HS.out hg.size) r3).mono (Nat.le_succ _))⟩
  have HAP2 : Hid (∀ k : Nat, ∃ v' W'', (Builtin.append_ #[38, 38] 38 #[.slice (some ⟨w.heap.size + 1, 0, none⟩) 0 0, .slice (some ⟨W3.heap.size, 0, none⟩) 1 1]).run Tryd.prog (W3.alloc (.cells #[.int .i64 (k : Int)] 3)) = .ok v' W'' ∧ On w.heap.size [k] v' W'' ∧ Below w.heap.size w W'') := by
    intro k
    obtain ⟨v', W'', r1, r2, r3⟩ := on_app HO3.out HS.out (by simp) k 38
    exact ⟨v', W'', r1, own_mono r2 (Nat.le_succ _), HB.out.trans ((own_keeps HO3.out HS.out r3).mono (Nat.le_succ _))⟩
  have HF : Hid (On w.heap.size [] (.slice (some ⟨w.heap.size + 1, 0, none⟩) 0 0) W3) := own_mono HO3.out (Nat.le_succ _)
  clear HO HO3
  by_cases h0 : ¬ (0 ≤ xo ∧ xo ≤ 19)
  · have HL : Hid (nxL fl.length ⟨xo, xa, xb, xc, xn⟩ i = []) := by
      show _ = _
      rw [nx_none (by omega)]
    rw [show knB xo = false by simp [knB]; omega] at HK
    rw [show decide (xo = 14 ∨ xo = 15 ∨ xo = 16 ∨ xo = 17 ∨ xo = 18) = false by exact decide_eq_false (by omega)] at HG
    clear h0
    go_wp2_with (first
      | (go_at_call 45; refine (HK.out _).mono ?_; rintro e w2 ⟨rfl, rfl⟩)
      | (go_at_call 46; refine (HG.out _).mono ?_; rintro e w2 ⟨rfl, rfl⟩))
    go_ret
    exact ⟨_, rfl, by rw [HL.out]; exact HF.out, HB.out⟩
  by_cases h1 : xo = 0
  · have HL : Hid (nxL fl.length ⟨xo, xa, xb, xc, xn⟩ i = []) := by
      show _ = _
      rw [nx_none (by omega)]
    rw [show knB xo = true by simp [knB]; omega] at HK
    rw [show decide (xo = 14 ∨ xo = 15 ∨ xo = 16 ∨ xo = 17 ∨ xo = 18) = false by exact decide_eq_false (by omega)] at HG
    have q0 : (xo != 0) = false := bne_no h1
    clear h0 h1
    go_wp2_with (first
      | (go_at_call 45; refine (HK.out _).mono ?_; rintro e w2 ⟨rfl, rfl⟩)
      | (go_at_call 46; refine (HG.out _).mono ?_; rintro e w2 ⟨rfl, rfl⟩))
    go_ret
    exact ⟨_, rfl, by rw [HL.out]; exact HF.out, HB.out⟩
  have q0 : (xo != 0) = true := bne_of h1
  by_cases h2 : xo = 14
  · by_cases hn : xn < 0
    · have HL : Hid (nxL fl.length ⟨xo, xa, xb, xc, xn⟩ i = []) := by
        show _ = _
        rw [nx_j (by omega), tgt_no (by omega)]
      rw [show knB xo = true by simp [knB]; omega] at HK
      rw [show decide (xo = 14 ∨ xo = 15 ∨ xo = 16 ∨ xo = 17 ∨ xo = 18) = true by exact decide_eq_true (by omega)] at HG
      have q1 : (xo != 14) = false := bne_no h2
      clear h0 h1 h2
      go_wp2_with (first
        | (go_at_call 45; refine (HK.out _).mono ?_; rintro e w2 ⟨rfl, rfl⟩)
        | (go_at_call 46; refine (HG.out _).mono ?_; rintro e w2 ⟨rfl, rfl⟩))
      go_ret
      exact ⟨_, rfl, by rw [HL.out]; exact HF.out, HB.out⟩
    obtain ⟨k, rfl⟩ : ∃ k : Nat, xn = k := ⟨xn.toNat, by omega⟩
    by_cases hg : (fl.length : Int) ≤ (k : Int)
    · have HL : Hid (nxL fl.length ⟨xo, xa, xb, xc, (k : Int)⟩ i = []) := by
        show _ = _
        rw [nx_j (by omega), tgt_no (by omega)]
      rw [show knB xo = true by simp [knB]; omega] at HK
      rw [show decide (xo = 14 ∨ xo = 15 ∨ xo = 16 ∨ xo = 17 ∨ xo = 18) = true by exact decide_eq_true (by omega)] at HG
      have q1 : (xo != 14) = false := bne_no h2
      clear h0 h1 h2
      go_wp2_with (first
        | (go_at_call 45; refine (HK.out _).mono ?_; rintro e w2 ⟨rfl, rfl⟩)
        | (go_at_call 46; refine (HG.out _).mono ?_; rintro e w2 ⟨rfl, rfl⟩))
      go_ret
      exact ⟨_, rfl, by rw [HL.out]; exact HF.out, HB.out⟩
    have hg' : (k : Int) < (fl.length : Int) := by omega
    have HL : Hid (nxL fl.length ⟨xo, xa, xb, xc, (k : Int)⟩ i = [k]) := by
      show _ = _
      rw [nx_j (by omega), tgt_yes (by omega)]
    rw [show knB xo = true by simp [knB]; omega] at HK
    rw [show decide (xo = 14 ∨ xo = 15 ∨ xo = 16 ∨ xo = 17 ∨ xo = 18) = true by exact decide_eq_true (by omega)] at HG
    have q1 : (xo != 14) = false := bne_no h2
    clear h0 h1 h2
    go_wp2_with (first
      | (go_at_call 45; refine (HK.out _).mono ?_; rintro e w2 ⟨rfl, rfl⟩)
      | (go_at_call 46; refine (HG.out _).mono ?_; rintro e w2 ⟨rfl, rfl⟩)
      | (at_builtin; refine wpl_app rfl _ _ 38 38 _ _ rfl rfl rfl (HAP2.out k) ?_; rintro v5 W5 ⟨on5, b5⟩))
    go_ret
    exact ⟨_, rfl, by rw [HL.out]; exact on5, b5⟩
  have q1 : (xo != 14) = true := bne_of h2
  by_cases h3 : xo = 18
  · by_cases hn : xn < 0
    · have HL : Hid (nxL fl.length ⟨xo, xa, xb, xc, xn⟩ i = []) := by
        show _ = _
        rw [nx_j (by omega), tgt_no (by omega)]
      rw [show knB xo = true by simp [knB]; omega] at HK
      rw [show decide (xo = 14 ∨ xo = 15 ∨ xo = 16 ∨ xo = 17 ∨ xo = 18) = true by exact decide_eq_true (by omega)] at HG
      have q2 : (xo != 18) = false := bne_no h3
      clear h0 h1 h2 h3
      go_wp2_with (first
        | (go_at_call 45; refine (HK.out _).mono ?_; rintro e w2 ⟨rfl, rfl⟩)
        | (go_at_call 46; refine (HG.out _).mono ?_; rintro e w2 ⟨rfl, rfl⟩))
      go_ret
      exact ⟨_, rfl, by rw [HL.out]; exact HF.out, HB.out⟩
    obtain ⟨k, rfl⟩ : ∃ k : Nat, xn = k := ⟨xn.toNat, by omega⟩
    by_cases hg : (fl.length : Int) ≤ (k : Int)
    · have HL : Hid (nxL fl.length ⟨xo, xa, xb, xc, (k : Int)⟩ i = []) := by
        show _ = _
        rw [nx_j (by omega), tgt_no (by omega)]
      rw [show knB xo = true by simp [knB]; omega] at HK
      rw [show decide (xo = 14 ∨ xo = 15 ∨ xo = 16 ∨ xo = 17 ∨ xo = 18) = true by exact decide_eq_true (by omega)] at HG
      have q2 : (xo != 18) = false := bne_no h3
      clear h0 h1 h2 h3
      go_wp2_with (first
        | (go_at_call 45; refine (HK.out _).mono ?_; rintro e w2 ⟨rfl, rfl⟩)
        | (go_at_call 46; refine (HG.out _).mono ?_; rintro e w2 ⟨rfl, rfl⟩))
      go_ret
      exact ⟨_, rfl, by rw [HL.out]; exact HF.out, HB.out⟩
    have hg' : (k : Int) < (fl.length : Int) := by omega
    have HL : Hid (nxL fl.length ⟨xo, xa, xb, xc, (k : Int)⟩ i = [k]) := by
      show _ = _
      rw [nx_j (by omega), tgt_yes (by omega)]
    rw [show knB xo = true by simp [knB]; omega] at HK
    rw [show decide (xo = 14 ∨ xo = 15 ∨ xo = 16 ∨ xo = 17 ∨ xo = 18) = true by exact decide_eq_true (by omega)] at HG
    have q2 : (xo != 18) = false := bne_no h3
    clear h0 h1 h2 h3
    go_wp2_with (first
      | (go_at_call 45; refine (HK.out _).mono ?_; rintro e w2 ⟨rfl, rfl⟩)
      | (go_at_call 46; refine (HG.out _).mono ?_; rintro e w2 ⟨rfl, rfl⟩)
      | (at_builtin; refine wpl_app rfl _ _ 38 38 _ _ rfl rfl rfl (HAP2.out k) ?_; rintro v5 W5 ⟨on5, b5⟩))
    go_ret
    exact ⟨_, rfl, by rw [HL.out]; exact on5, b5⟩
  have q2 : (xo != 18) = true := bne_of h3
  by_cases h4 : xo = 15 ∨ xo = 16 ∨ xo = 17
  · by_cases ha : (i : Int) + 1 < (fl.length : Int)
    · by_cases hn : xn < 0
      · have HL : Hid (nxL fl.length ⟨xo, xa, xb, xc, xn⟩ i = [i + 1]) := by
          show _ = _
          rw [nx_i0 (by omega) (by omega), tgt_yes1 ha]
        rw [show knB xo = true by simp [knB]; omega] at HK
        rw [show decide (xo = 14 ∨ xo = 15 ∨ xo = 16 ∨ xo = 17 ∨ xo = 18) = true by exact decide_eq_true (by omega)] at HG
        clear h0 h1 h2 h3 h4
        go_wp2_with (first
          | (go_at_call 45; refine (HK.out _).mono ?_; rintro e w2 ⟨rfl, rfl⟩)
          | (go_at_call 46; refine (HG.out _).mono ?_; rintro e w2 ⟨rfl, rfl⟩)
          | (at_builtin; refine wpl_app rfl _ _ 38 38 _ _ rfl rfl rfl HAP1.out ?_; rintro v3 W4 ⟨on4, gr4⟩; obtain ⟨z4', x0', x4', b4, hap⟩ := HG3.out _ _ gr4 on4; obtain ⟨a3, k3, rfl⟩ := gown_form on4; have HAP4 := Hid.mk' hap; clear hap))
        go_ret
        exact ⟨_, rfl, by rw [HL.out]; exact own_mono on4 (Nat.le_succ _), b4⟩
      obtain ⟨k, rfl⟩ : ∃ k : Nat, xn = k := ⟨xn.toNat, by omega⟩
      by_cases hg : (fl.length : Int) ≤ (k : Int)
      · have HL : Hid (nxL fl.length ⟨xo, xa, xb, xc, (k : Int)⟩ i = [i + 1]) := by
          show _ = _
          rw [nx_i0 (by omega) (by omega), tgt_yes1 ha]
        rw [show knB xo = true by simp [knB]; omega] at HK
        rw [show decide (xo = 14 ∨ xo = 15 ∨ xo = 16 ∨ xo = 17 ∨ xo = 18) = true by exact decide_eq_true (by omega)] at HG
        clear h0 h1 h2 h3 h4
        go_wp2_with (first
          | (go_at_call 45; refine (HK.out _).mono ?_; rintro e w2 ⟨rfl, rfl⟩)
          | (go_at_call 46; refine (HG.out _).mono ?_; rintro e w2 ⟨rfl, rfl⟩)
          | (at_builtin; refine wpl_app rfl _ _ 38 38 _ _ rfl rfl rfl HAP1.out ?_; rintro v3 W4 ⟨on4, gr4⟩; obtain ⟨z4', x0', x4', b4, hap⟩ := HG3.out _ _ gr4 on4; obtain ⟨a3, k3, rfl⟩ := gown_form on4; have HAP4 := Hid.mk' hap; clear hap))
        go_ret
        exact ⟨_, rfl, by rw [HL.out]; exact own_mono on4 (Nat.le_succ _), b4⟩
      have hg' : (k : Int) < (fl.length : Int) := by omega
      by_cases hq : (k : Int) = (i : Int) + 1
      · have HL : Hid (nxL fl.length ⟨xo, xa, xb, xc, (k : Int)⟩ i = [i + 1]) := by
          show _ = _
          rw [nx_i (by omega), tgt_yes1 ha, if_pos hq, List.append_nil]
        have hq2 : ((k : Int) == (i : Int) + 1) = true := by simp [hq]
        clear hq
        rw [show knB xo = true by simp [knB]; omega] at HK
        rw [show decide (xo = 14 ∨ xo = 15 ∨ xo = 16 ∨ xo = 17 ∨ xo = 18) = true by exact decide_eq_true (by omega)] at HG
        clear h0 h1 h2 h3 h4
        go_wp2_with (first
          | (go_at_call 45; refine (HK.out _).mono ?_; rintro e w2 ⟨rfl, rfl⟩)
          | (go_at_call 46; refine (HG.out _).mono ?_; rintro e w2 ⟨rfl, rfl⟩)
          | (at_builtin; refine wpl_app rfl _ _ 38 38 _ _ rfl rfl rfl HAP1.out ?_; rintro v3 W4 ⟨on4, gr4⟩; obtain ⟨z4', x0', x4', b4, hap⟩ := HG3.out _ _ gr4 on4; obtain ⟨a3, k3, rfl⟩ := gown_form on4; have HAP4 := Hid.mk' hap; clear hap))
        go_ret
        exact ⟨_, rfl, by rw [HL.out]; exact own_mono on4 (Nat.le_succ _), b4⟩
      have HL : Hid (nxL fl.length ⟨xo, xa, xb, xc, (k : Int)⟩ i = [i + 1, k]) := by
        show _ = _
        rw [nx_i (by omega), tgt_yes1 ha, if_neg hq, tgt_yes (by omega)]; rfl
      have hq2 : ((k : Int) == (i : Int) + 1) = false := beq_no hq
      clear hq
      rw [show knB xo = true by simp [knB]; omega] at HK
      rw [show decide (xo = 14 ∨ xo = 15 ∨ xo = 16 ∨ xo = 17 ∨ xo = 18) = true by exact decide_eq_true (by omega)] at HG
      clear h0 h1 h2 h3 h4
      go_wp2_with (first
        | (go_at_call 45; refine (HK.out _).mono ?_; rintro e w2 ⟨rfl, rfl⟩)
        | (go_at_call 46; refine (HG.out _).mono ?_; rintro e w2 ⟨rfl, rfl⟩)
        | (at_builtin; refine wpl_app rfl _ _ 38 38 _ _ rfl rfl rfl HAP1.out ?_; rintro v3 W4 ⟨on4, gr4⟩; obtain ⟨z4', x0', x4', b4, hap⟩ := HG3.out _ _ gr4 on4; obtain ⟨a3, k3, rfl⟩ := gown_form on4; have HAP4 := Hid.mk' hap; clear hap)
        | (at_builtin; refine wpl_app rfl _ _ 38 38 _ _ rfl rfl rfl (HAP4.out k) ?_; rintro v5 W5 ⟨on5, b5⟩))
      go_ret
      exact ⟨_, rfl, by rw [HL.out]; exact on5, b5⟩
    by_cases hn : xn < 0
    · have HL : Hid (nxL fl.length ⟨xo, xa, xb, xc, xn⟩ i = []) := by
        show _ = _
        rw [nx_i0 (by omega) (by omega), tgt_no (z := (i : Int) + 1) (by omega)]
      rw [show knB xo = true by simp [knB]; omega] at HK
      rw [show decide (xo = 14 ∨ xo = 15 ∨ xo = 16 ∨ xo = 17 ∨ xo = 18) = true by exact decide_eq_true (by omega)] at HG
      clear h0 h1 h2 h3 h4
      go_wp2_with (first
        | (go_at_call 45; refine (HK.out _).mono ?_; rintro e w2 ⟨rfl, rfl⟩)
        | (go_at_call 46; refine (HG.out _).mono ?_; rintro e w2 ⟨rfl, rfl⟩))
      go_ret
      exact ⟨_, rfl, by rw [HL.out]; exact HF.out, HB.out⟩
    obtain ⟨k, rfl⟩ : ∃ k : Nat, xn = k := ⟨xn.toNat, by omega⟩
    by_cases hg : (fl.length : Int) ≤ (k : Int)
    · have HL : Hid (nxL fl.length ⟨xo, xa, xb, xc, (k : Int)⟩ i = []) := by
        show _ = _
        rw [nx_i0 (by omega) (by omega), tgt_no (z := (i : Int) + 1) (by omega)]
      rw [show knB xo = true by simp [knB]; omega] at HK
      rw [show decide (xo = 14 ∨ xo = 15 ∨ xo = 16 ∨ xo = 17 ∨ xo = 18) = true by exact decide_eq_true (by omega)] at HG
      clear h0 h1 h2 h3 h4
      go_wp2_with (first
        | (go_at_call 45; refine (HK.out _).mono ?_; rintro e w2 ⟨rfl, rfl⟩)
        | (go_at_call 46; refine (HG.out _).mono ?_; rintro e w2 ⟨rfl, rfl⟩))
      go_ret
      exact ⟨_, rfl, by rw [HL.out]; exact HF.out, HB.out⟩
    have hg' : (k : Int) < (fl.length : Int) := by omega
    have hq : ¬ (k : Int) = (i : Int) + 1 := by omega
    have HL : Hid (nxL fl.length ⟨xo, xa, xb, xc, (k : Int)⟩ i = [k]) := by
      show _ = _
      rw [nx_i (by omega), tgt_no (z := (i : Int) + 1) (by omega), if_neg hq, tgt_yes (by omega)]; rfl
    have hq2 : ((k : Int) == (i : Int) + 1) = false := beq_no hq
    clear hq
    rw [show knB xo = true by simp [knB]; omega] at HK
    rw [show decide (xo = 14 ∨ xo = 15 ∨ xo = 16 ∨ xo = 17 ∨ xo = 18) = true by exact decide_eq_true (by omega)] at HG
    clear h0 h1 h2 h3 h4
    go_wp2_with (first
      | (go_at_call 45; refine (HK.out _).mono ?_; rintro e w2 ⟨rfl, rfl⟩)
      | (go_at_call 46; refine (HG.out _).mono ?_; rintro e w2 ⟨rfl, rfl⟩)
      | (at_builtin; refine wpl_app rfl _ _ 38 38 _ _ rfl rfl rfl (HAP2.out k) ?_; rintro v5 W5 ⟨on5, b5⟩))
    go_ret
    exact ⟨_, rfl, by rw [HL.out]; exact on5, b5⟩
  by_cases ha : (i : Int) + 1 < (fl.length : Int)
  · have HL : Hid (nxL fl.length ⟨xo, xa, xb, xc, xn⟩ i = [i + 1]) := by
      show _ = _
      rw [nx_o (by omega) (by omega), tgt_yes1 ha]
    rw [show knB xo = true by simp [knB]; omega] at HK
    rw [show decide (xo = 14 ∨ xo = 15 ∨ xo = 16 ∨ xo = 17 ∨ xo = 18) = false by exact decide_eq_false (by omega)] at HG
    clear h0 h1 h2 h3 h4
    go_wp2_with (first
      | (go_at_call 45; refine (HK.out _).mono ?_; rintro e w2 ⟨rfl, rfl⟩)
      | (go_at_call 46; refine (HG.out _).mono ?_; rintro e w2 ⟨rfl, rfl⟩)
      | (at_builtin; refine wpl_app rfl _ _ 38 38 _ _ rfl rfl rfl HAP1.out ?_; rintro v3 W4 ⟨on4, gr4⟩; obtain ⟨z4', x0', x4', b4, hap⟩ := HG3.out _ _ gr4 on4; obtain ⟨a3, k3, rfl⟩ := gown_form on4; have HAP4 := Hid.mk' hap; clear hap))
    go_ret
    exact ⟨_, rfl, by rw [HL.out]; exact own_mono on4 (Nat.le_succ _), b4⟩
  have HL : Hid (nxL fl.length ⟨xo, xa, xb, xc, xn⟩ i = []) := by
    show _ = _
    rw [nx_o (by omega) (by omega), tgt_no (by omega)]
  rw [show knB xo = true by simp [knB]; omega] at HK
  rw [show decide (xo = 14 ∨ xo = 15 ∨ xo = 16 ∨ xo = 17 ∨ xo = 18) = false by exact decide_eq_false (by omega)] at HG
  clear h0 h1 h2 h3 h4
  go_wp2_with (first
    | (go_at_call 45; refine (HK.out _).mono ?_; rintro e w2 ⟨rfl, rfl⟩)
    | (go_at_call 46; refine (HG.out _).mono ?_; rintro e w2 ⟨rfl, rfl⟩))
  go_ret
  exact ⟨_, rfl, by rw [HL.out]; exact HF.out, HB.out⟩
end Go.Proofs.YtgiokognngllcaaDoor
