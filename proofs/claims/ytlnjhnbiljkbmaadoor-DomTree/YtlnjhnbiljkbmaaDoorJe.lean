/- The sets' meet, and the full one. -/
import Derived.Test.YtlnjhnbiljkbmaaDoorQd
import Derived.ChangeKeysEq
namespace Go.Proofs.YtlnjhnbiljkbmaaDoor
open Go.RowKit Go.Sort

theorem map_uV_at {ws : List Nat} {j : Nat} (h : j < ws.length) : (ws.map uV)[j]? = some (.int .u64 ((ws[j] : Nat) : Int)) := by rw [List.getElem?_map, List.getElem?_eq_getElem h]; rfl
/-- The first so many met. -/
def meetN (a b : List Nat) (j : Nat) : List Nat := meetW (a.take j) (b.take j) ++ a.drop j
theorem meetN_zero (a b : List Nat) : meetN a b 0 = a := by simp [meetN, meetW]
theorem meetN_all {a b : List Nat} {n : Nat} (ha : a.length = n) (hb : b.length = n) : meetN a b n = meetW a b := by
  unfold meetN
  rw [List.take_of_length_le (by omega), List.take_of_length_le (by omega), List.drop_of_length_le (by omega), List.append_nil]
theorem meetN_len {a b : List Nat} {j : Nat} (h : a.length = b.length) : (meetN a b j).length = a.length := by
  unfold meetN meetW
  rw [List.length_append, List.length_zipWith, List.length_take, List.length_take, List.length_drop]
  omega
theorem meetN_at {a b : List Nat} {j : Nat} (ha : j < a.length) (hb : j < b.length) : (meetN a b j)[j]? = some a[j] := by
  unfold meetN meetW
  rw [List.getElem?_append_right (by rw [List.length_zipWith, List.length_take, List.length_take]; omega), List.length_zipWith, List.length_take, List.length_take, List.getElem?_drop]
  rw [show j + (j - min (min j a.length) (min j b.length)) = j by omega, List.getElem?_eq_getElem ha]
theorem meetN_succ {a b : List Nat} {j : Nat} (ha : j < a.length) (hb : j < b.length) : (meetN a b j).set j (a[j] &&& b[j]) = meetN a b (j + 1) := by
  have hl : (meetW (a.take j) (b.take j)).length = j := by unfold meetW; rw [List.length_zipWith, List.length_take, List.length_take]; omega
  unfold meetN
  rw [List.set_append_right _ _ (by omega), hl, Nat.sub_self, List.drop_eq_getElem_cons ha, List.set_cons_zero, List.take_succ_eq_append_getElem ha, List.take_succ_eq_append_getElem hb]
  unfold meetW
  rw [List.zipWith_append (by rw [List.length_take, List.length_take]; omega)]
  simp
theorem rangeAt_of_other {w w' : World} {b o : Nat} {cs : List Value} (h : w.rangeAt b o cs) {b' : Nat} (hw : Wr b' w w') (hn : b ≠ b') : w'.rangeAt b o cs := fun j v hv => by
  rw [World.cell?_of_block (w := w) (hw.block b hn)]
  exact h j v hv
set_option maxRecDepth 100000 in
set_option maxHeartbeats 4000000 in
theorem smeet_any (b b' o' : Nat) (T : TypeId) (ws ys : List Nat) (w : World) (hk : OkW ws) (hk' : OkW ys) (hb : Bk w b T (ws.map uV)) (hr : w.rangeAt b' o' (ys.map uV)) (hn : b' ≠ b) : Calls Tryd.prog 36 #[.pointer (some ⟨b, 0, none⟩), .pointer (some ⟨b', o', none⟩)] w fun e w' => (∃ r, e = .returned r) ∧ Bk w' b T ((meetW ws ys).map uV) ∧ Wr b w w' := by
  have HB := Hid.mk' hb
  have HR := Hid.mk' hr
  have HK := Hid.mk' hk
  have HK' := Hid.mk' hk'
  have hl := hk.len
  have hl' := hk'.len
  have HN := Hid.mk' hn
  clear hb hr hk hk' hn
  go_enter Tryd.func36, Tryd.ntmps36
  go_wp2_with fail
  go_loopw [5] (fun t5 wr => ∃ j : Nat, j ≤ 16 ∧ t5 = .int .i64 (j : Int) ∧ Bk wr b T ((meetN ws ys j).map uV) ∧ Wr b w wr) (fun t5 _ => 16 - (intOf t5).toNat)
  case atStart => exact ⟨0, by omega, rfl, by rw [meetN_zero]; exact HB.out, Wr.refl _ _⟩
  case round =>
    obtain ⟨j, hj, rfl, hb, hw⟩ := hrel
    by_cases hlt : j < 16
    · have h1 : j < ws.length := by omega
      have h2 : j < ys.length := by omega
      have c0 : wr.cell? ⟨b, j, none⟩ = some (.int .u64 ((ws[j] : Nat) : Int)) := hb.cell (by rw [List.getElem?_map, meetN_at h1 h2]; rfl)
      have f0 := hb.frozen j
      have c1 : wr.cell? ⟨b', o' + j, none⟩ = some (.int .u64 ((ys[j] : Nat) : Int)) := rangeAt_of_other HR.out hw HN.out j _ (map_uV_at h2)
      have ha := and_word ws[j] ys[j] (HK.out.lt _ (List.getElem_mem h1)) (HK'.out.lt _ (List.getElem_mem h2))
      have HB2 : Hid (Bk (wr.setCell ⟨b, j, none⟩ (.int .u64 ((ws[j] &&& ys[j] : Nat) : Int))) b T ((meetN ws ys (j + 1)).map uV)) := by
        have := hb.put j (uV (ws[j] &&& ys[j]))
        rw [← List.map_set, meetN_succ h1 h2] at this
        exact this
      have HW2 := Hid.mk' (hw.trans (Wr.put b j wr (.int .u64 ((ws[j] &&& ys[j] : Nat) : Int))))
      generalize ws[j] &&& ys[j] = z at *
      generalize ws[j] = x at *
      generalize ys[j] = y at *
      clear hb hw
      go_upto_region 3 with fail
      go_region
      go_wp2_with fail
      go_roundw
      case rel => exact ⟨j + 1, by omega, by go_num, HB2.out, HW2.out.drewN _⟩
      case measure => simp [intOf]; omega
    · go_wp2_with fail
      go_end0
      obtain rfl : j = 16 := by omega
      rw [meetN_all hl hl'] at hb
      exact ⟨⟨_, rfl⟩, hb, hw⟩
end Go.Proofs.YtlnjhnbiljkbmaaDoor

/- The full set. -/
namespace Go.Proofs.YtlnjhnbiljkbmaaDoor
open Go.RowKit Go.Sort

theorem Tryd.infoSet : (Tryd.prog.info? 50).map (fun i => (i.zero, i.size, i.bytes)) = some (some (.agg (zeroW.map uV).toArray), 16, 128) := by kernel_rfl
theorem Tryd.sizeSet : (Tryd.prog.info? 50).map (·.size) = some 16 := by kernel_rfl
/-- The first so many are full. -/
def fullN (j : Nat) : List Nat := List.replicate j 18446744073709551615 ++ List.replicate (16 - j) 0
theorem fullN_zero : fullN 0 = zeroW := by simp [fullN, zeroW]
theorem fullN_all : fullN 16 = fullW := by simp [fullN, fullW]
theorem fullN_succ {j : Nat} (h : j < 16) : (fullN j).set j 18446744073709551615 = fullN (j + 1) := by
  unfold fullN
  rw [List.set_append_right _ _ (by simp), List.length_replicate, Nat.sub_self, show 16 - j = (16 - (j + 1)) + 1 by omega, List.replicate_succ, List.set_cons_zero, List.replicate_succ', List.append_assoc]
  rfl
theorem fullN_at {j : Nat} (h : j < 16) : (fullN j)[j]? = some 0 := by
  unfold fullN
  rw [List.getElem?_append_right (by simp), List.length_replicate, Nat.sub_self, List.getElem?_replicate, if_pos (by omega)]
theorem Bk.range {W : World} {b : Nat} {T : TypeId} {C : List Value} (h : Bk W b T C) : W.rangeAt b 0 C := fun j v hv => by rw [Nat.zero_add]; exact h.cell hv
theorem Bk.there {W : World} {b : Nat} {T : TypeId} {C : List Value} (h : Bk W b T C) {n : Nat} (hn : n ≤ C.length) : W.there b 0 n := fun j hj => by
  rw [Nat.zero_add]
  exact ⟨by rw [h.cell (List.getElem?_eq_getElem (by omega))]; rfl, h.frozen j⟩
theorem uV_one (ws : List Nat) : (ws.map uV).toArray.all (·.oneCell') = true := all_oneCell_toArray fun v hv => by
  obtain ⟨x, _, rfl⟩ := List.mem_map.1 hv
  rfl
theorem setCells_blk' {T : TypeId} {b : Nat} : ∀ (vs : List Value) (o : Nat) (pre post : List Value) (W : World), pre.length = o → post.length = vs.length → Bk W b T (pre ++ post) → Bk (W.setCells b o vs) b T (pre ++ vs)
  | [], _, _, [], _, _, _, h => h
  | [], _, _, _ :: _, _, _, hl, _ => by simp at hl
  | v :: vs, _, _, [], _, _, hl, _ => by simp at hl
  | v :: vs, o, pre, c :: post, W, hp, hl, h => by
    have h1 := h.put o v
    rw [List.set_append_right _ _ (by omega), hp, Nat.sub_self, List.set_cons_zero, show pre ++ v :: post = (pre ++ [v]) ++ post by simp] at h1
    have := setCells_blk' vs (o + 1) (pre ++ [v]) post _ (by simp; omega) (by simpa using hl) h1
    simpa [World.setCells] using this
theorem setCells_blk {W : World} {b : Nat} {T : TypeId} {C : List Value} (h : Bk W b T C) (vs : List Value) (hl : C.length = vs.length) : Bk (W.setCells b 0 vs) b T vs := setCells_blk' vs 0 [] C W rfl hl h
theorem below_setCells {N b : Nat} {w : World} : ∀ {w' : World}, Below N w w' → N ≤ b → ∀ (o : Nat) (vs : List Value), Below N w (w'.setCells b o vs)
  | _, h, _, _, [] => h
  | w', h, hb, o, v :: vs => below_setCells (w' := w'.setCell ⟨b, o, none⟩ v) (h.setCell (p := ⟨b, o, none⟩) hb v) hb (o + 1) vs
set_option maxRecDepth 100000 in
set_option maxHeartbeats 4000000 in
theorem full_any (w : World) : Calls Tryd.prog 34 #[] w fun e w' => e = .returned (.agg (fullW.map uV).toArray) ∧ Below w.heap.size w w' := by
  have HB0 : Hid (Bk ((w.alloc (.cells (zeroW.map uV).toArray 50)).alloc (.cells (zeroW.map uV).toArray 50)) (w.heap.size + 1) 50 ((fullN 0).map uV)) := by
    rw [fullN_zero]
    have := heap_alloc_new (w.alloc (.cells (zeroW.map uV).toArray 50)) (.cells (zeroW.map uV).toArray 50)
    rw [World.size_alloc] at this
    exact this
  have HW0 : Hid (Below (w.heap.size + 1) (w.alloc (.cells (zeroW.map uV).toArray 50)) ((w.alloc (.cells (zeroW.map uV).toArray 50)).alloc (.cells (zeroW.map uV).toArray 50))) := by
    have := Below.one (Below.refl _ (w.alloc (.cells (zeroW.map uV).toArray 50))) (.cells (zeroW.map uV).toArray 50)
    rwa [World.size_alloc] at this
  go_enter Tryd.func34, Tryd.ntmps34
  go_wp2_with fail
  go_loopw [3] (fun t3 wr => ∃ j : Nat, j ≤ 16 ∧ t3 = .int .i64 (j : Int) ∧ Bk wr (w.heap.size + 1) 50 ((fullN j).map uV) ∧ Below (w.heap.size + 1) (w.alloc (.cells (zeroW.map uV).toArray 50)) wr) (fun t3 _ => 16 - (intOf t3).toNat)
  case atStart => exact ⟨0, by omega, rfl, HB0.out, HW0.out⟩
  case round =>
    obtain ⟨j, hj, rfl, hb, hw⟩ := hrel
    by_cases hlt : j < 16
    · have c0 : wr.cell? ⟨w.heap.size + 1, j, none⟩ = some (.int .u64 0) := hb.cell (by rw [List.getElem?_map, fullN_at hlt]; rfl)
      have f0 := hb.frozen j
      have HB2 : Hid (Bk (wr.setCell ⟨w.heap.size + 1, j, none⟩ (.int .u64 18446744073709551615)) (w.heap.size + 1) 50 ((fullN (j + 1)).map uV)) := by
        have := hb.put j (uV 18446744073709551615)
        rw [← List.map_set, fullN_succ hlt] at this
        exact this
      have HW2 := Hid.mk' (hw.setCell (p := ⟨w.heap.size + 1, j, none⟩) (Nat.le_refl _) (.int .u64 18446744073709551615))
      clear hb hw
      go_wp2_with fail
      go_roundw
      case rel => exact ⟨j + 1, by omega, by go_num, HB2.out, HW2.out⟩
      case measure => simp [intOf]; omega
    · have e : j = 16 := by omega
      rw [e, fullN_all] at hb
      clear e
      have HRG := Hid.mk' hb.range
      have HB3 : Hid (Bk wr w.heap.size 50 (zeroW.map uV)) := (hw.block _ (Nat.lt_succ_self _)).trans (heap_alloc_new w _)
      have HT : Hid (wr.there w.heap.size 0 (fullW.map uV).toArray.size) := HB3.out.there (by simp [zeroW, fullW])
      have HW3 : Hid (Below w.heap.size w wr) := (Below.one (Below.refl _ w) _).trans (hw.mono (Nat.le_succ _))
      clear hb hw HB0 HW0
      go_wp2_with (first
        | (refine wpList_load_mid rfl 50 _ rfl (w.heap.size + 1) 0 rfl (fullW.map uV) _ HRG.out Tryd.underlying50 rfl (by rw [Tryd.sizeSet]; rfl) ?_)
        | (refine wpList_store_mid rfl 50 _ _ rfl w.heap.size 0 (fullW.map uV).toArray rfl rfl HT.out (by rw [Tryd.sizeSet]; rfl) (uV_one _) ?_))
      refine bodyPost_ret (v := .agg (fullW.map uV).toArray) ?_ rfl ⟨rfl, ?_⟩
      · have hb := setCells_blk HB3.out (fullW.map uV) (by simp [zeroW, fullW])
        exact results_cell_row Tryd.results34 _ _ w.heap.size _ _ _ _ rfl hb Tryd.underlying50 rfl (by rw [Tryd.sizeSet]; rfl)
      · exact below_setCells HW3.out (Nat.le_refl _) _ _
end Go.Proofs.YtlnjhnbiljkbmaaDoor

/- Sets in a row: a block of many; are two words for words the same? -/
namespace Go.Proofs.YtlnjhnbiljkbmaaDoor
open Go.RowKit Go.Sort

def flatS (S : List (List Nat)) : List Value := S.flatMap fun ws => ws.map uV
theorem flatS_append (S T : List (List Nat)) : flatS (S ++ T) = flatS S ++ flatS T := by unfold flatS; rw [List.flatMap_append]
theorem flatS_len : ∀ {S : List (List Nat)}, (∀ ws ∈ S, ws.length = 16) → (flatS S).length = S.length * 16
  | [], _ => rfl
  | ws :: S, h => by
    have ih := flatS_len (S := S) fun x hx => h x (by simp [hx])
    have := h ws (by simp)
    unfold flatS at *
    rw [List.flatMap_cons, List.length_append, ih, List.length_map, List.length_cons]
    omega
theorem flatS_split {S : List (List Nat)} {v : Nat} (h : v < S.length) : flatS S = flatS (S.take v) ++ (S[v].map uV ++ flatS (S.drop (v + 1))) := by
  have e : S = S.take v ++ (S[v] :: S.drop (v + 1)) := by rw [← List.drop_eq_getElem_cons h, List.take_append_drop]
  conv => lhs; rw [e]
  rw [flatS_append]
  congr 1
theorem flatS_set {S : List (List Nat)} {v : Nat} (h : v < S.length) (ws : List Nat) : flatS (S.set v ws) = flatS (S.take v) ++ (ws.map uV ++ flatS (S.drop (v + 1))) := by
  rw [List.set_eq_take_append_cons_drop, if_pos h, flatS_append]
  congr 1
theorem len_take {S : List (List Nat)} (h : ∀ ws ∈ S, ws.length = 16) {v : Nat} (hv : v < S.length) : (flatS (S.take v)).length = v * 16 := by
  rw [flatS_len fun ws hw => h ws (List.mem_of_mem_take hw), List.length_take]
  rw [Nat.min_eq_left (by omega)]
theorem flat_range {W : World} {R : Nat} {T : TypeId} {S : List (List Nat)} (hb : Bk W R T (flatS S)) (h : ∀ ws ∈ S, ws.length = 16) {v : Nat} (hv : v < S.length) : W.rangeAt R (v * 16) (S[v].map uV) := fun j u hj => by
  refine hb.cell ?_
  rw [flatS_split hv, List.getElem?_append_right (by rw [len_take h hv]; omega), len_take h hv, Nat.add_sub_cancel_left, List.getElem?_append_left (List.getElem?_eq_some_iff.1 hj).1]
  exact hj
theorem flat_there {W : World} {R : Nat} {T : TypeId} {S : List (List Nat)} (hb : Bk W R T (flatS S)) (h : ∀ ws ∈ S, ws.length = 16) {v : Nat} (hv : v < S.length) : W.there R (v * 16) 16 := fun j hj => by
  refine ⟨?_, hb.frozen _⟩
  have hl := h _ (List.getElem_mem hv)
  have := flat_range hb h hv j (uV (S[v]'hv)[j]) (by rw [List.getElem?_map, List.getElem?_eq_getElem (by omega)]; rfl)
  rw [this]
  rfl
theorem setCells_mid {T : TypeId} {b : Nat} : ∀ (vs : List Value) (o : Nat) (pre mid post : List Value) (W : World), pre.length = o → mid.length = vs.length → Bk W b T (pre ++ (mid ++ post)) → Bk (W.setCells b o vs) b T (pre ++ (vs ++ post))
  | [], _, _, [], _, _, _, _, h => h
  | [], _, _, _ :: _, _, _, _, hl, _ => by simp at hl
  | v :: vs, _, _, [], _, _, _, hl, _ => by simp at hl
  | v :: vs, o, pre, c :: mid, post, W, hp, hl, h => by
    have h1 := h.put o v
    rw [List.set_append_right _ _ (by omega), hp, Nat.sub_self, List.cons_append, List.set_cons_zero, show pre ++ v :: (mid ++ post) = (pre ++ [v]) ++ (mid ++ post) by simp] at h1
    have := setCells_mid vs (o + 1) (pre ++ [v]) mid post _ (by simp; omega) (by simpa using hl) h1
    simpa [World.setCells] using this
theorem flat_put {W : World} {R : Nat} {T : TypeId} {S : List (List Nat)} (hb : Bk W R T (flatS S)) (h : ∀ ws ∈ S, ws.length = 16) {v : Nat} (hv : v < S.length) {ws : List Nat} (hw : ws.length = 16) : Bk (W.setCells R (v * 16) (ws.map uV)) R T (flatS (S.set v ws)) := by
  rw [flatS_set hv]
  rw [flatS_split hv] at hb
  exact setCells_mid (ws.map uV) (v * 16) _ _ _ W (len_take h hv) (by rw [List.length_map, List.length_map, hw]; exact h _ (List.getElem_mem hv)) hb
theorem Wr.puts (b : Nat) : ∀ (vs : List Value) (o : Nat) (w : World), Wr b w (w.setCells b o vs)
  | [], _, w => Wr.refl b w
  | v :: vs, o, w => (Wr.put b o w v).trans (Wr.puts b vs (o + 1) _)

theorem Tryd.infoU : (Tryd.prog.info? 48).isSome = true := by kernel_rfl
theorem Tryd.cellsU : Tryd.prog.cellsOf 48 = 1 := by kernel_rfl
theorem eq_items (w : World) (xs ys : List Nat) (h : xs.length = 16) (h' : ys.length = 16) : ∀ l : List Nat, (∀ i ∈ l, i < 16) → (Op.eqItems 9999 48 1 (xs.map uV).toArray (ys.map uV).toArray l).run Tryd.prog w = .ok (l.all fun i => xs.getD i 0 == ys.getD i 0) w
  | [], _ => by simp [Op.eqItems]
  | i :: l, hl => by
    have hi := hl i (by simp)
    have ih := eq_items w xs ys h h' l fun j hj => hl j (by simp [hj])
    have px : ∀ zs : List Nat, zs.length = 16 → (part 48 (zs.map uV).toArray (i * 1)).run Tryd.prog w = .ok (.int .u64 ((zs.getD i 0 : Nat) : Int)) w := by
      intro zs hz
      have e : (zs.map uV).toArray[i * 1]? = some (.int .u64 ((zs.getD i 0 : Nat) : Int)) := by
        rw [Nat.mul_one, List.getElem?_toArray, List.getElem?_map, List.getElem?_eq_getElem (by omega), List.getD_eq_getElem?_getD, List.getElem?_eq_getElem (by omega)]
        rfl
      simp only [part, isAgg, Sem.run_bind, run_underlying Tryd.underlying48, Result.andThen_ok, Sem.run_pure, Bool.false_eq_true, if_false, e]
    have pe : (Op.equalIn 9999 48 (.int .u64 ((xs.getD i 0 : Nat) : Int)) (.int .u64 ((ys.getD i 0 : Nat) : Int))).run Tryd.prog w = .ok (xs.getD i 0 == ys.getD i 0) w := by
      rw [run_equalIn_int w 9998 48 .u64 .u64 _ _ Tryd.underlying48]
      congr 1
      rw [Bool.eq_iff_iff]
      simp only [beq_iff_eq]
      omega
    simp only [Op.eqItems, Sem.run_bind, px xs h, px ys h', pe, Result.andThen_ok, List.all_cons]
    cases hb : (xs.getD i 0 == ys.getD i 0)
    · simp
    · simpa using ih
theorem eq_words (w : World) (xs ys : List Nat) (h : xs.length = 16) (h' : ys.length = 16) : (Op.equalIn 10000 50 (.agg (xs.map uV).toArray) (.agg (ys.map uV).toArray)).run Tryd.prog w = .ok (decide (xs = ys)) w := by
  obtain ⟨i0, hi0⟩ := Option.isSome_iff_exists.1 Tryd.infoU
  rw [show (10000 : Nat) = 9999 + 1 from rfl, run_equalIn_array w 9999 _ _ Tryd.underlying50 hi0, Tryd.cellsU, eq_items w xs ys h h' _ (fun i hi => List.mem_range.1 hi)]
  congr 1
  rw [Bool.eq_iff_iff]
  simp only [List.all_eq_true, List.mem_range, beq_iff_eq, decide_eq_true_eq]
  constructor
  · intro e
    refine List.ext_getElem (by omega) fun i hi hj => ?_
    have := e i (by omega)
    rw [List.getD_eq_getElem?_getD, List.getD_eq_getElem?_getD, List.getElem?_eq_getElem hi, List.getElem?_eq_getElem hj] at this
    exact this
  · rintro rfl _ _
    rfl
end Go.Proofs.YtlnjhnbiljkbmaaDoor
