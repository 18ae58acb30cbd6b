/- The full set. -/
import Derived.Test.YtgiokognngllcaaDoorGgai
import Derived.ChangeKeysEq
import Derived.BigQuiet
namespace Go.Proofs.YtgiokognngllcaaDoor
open Go.RowKit Go.Sort

theorem Tryd.infoSet : (Tryd.prog.info? 95).map (fun i => (i.zero, i.size, i.bytes)) = some (some (.agg (zeroW.map uV).toArray), 16, 128) := by kernel_rfl
theorem Tryd.sizeSet : (Tryd.prog.info? 95).map (·.size) = some 16 := by kernel_rfl
/-- The first so many are full. -/
def fullN (j : Nat) : List Nat := List.replicate j 18446744073709551615 ++ List.replicate (16 - j) 0
theorem fullN_zero : fullN 0 = zeroW := by simp [fullN, zeroW]
theorem fullN_all : fullN 16 = fullW := by simp [fullN, fullW]
theorem fullN_succ {j : Nat} (h : j < 16) : (fullN j).set j 18446744073709551615 = fullN (j + 1) := by
  unfold fullN
  rw [List.set_append_right _ _ (by simp), List.length_replicate, Nat.sub_self, show 16 - j = (16 - (j + 1)) + 1 by omega, List.replicate_succ, List.set_cons_zero, List.replicate_succ', List.append_assoc]
  rfl
theorem fullN_at {j : Nat} (h : j < 16) : (fullN j)[j]? = some 0 := by
  unfold fullN
  rw [List.getElem?_append_right (by simp), List.length_replicate, Nat.sub_self, List.getElem?_replicate, if_pos (by omega)]
theorem Bk.range {W : World} {b : Nat} {T : TypeId} {C : List Value} (h : Bk W b T C) : W.rangeAt b 0 C := fun j v hv => by rw [Nat.zero_add]; exact h.cell hv
theorem Bk.there {W : World} {b : Nat} {T : TypeId} {C : List Value} (h : Bk W b T C) {n : Nat} (hn : n ≤ C.length) : W.there b 0 n := fun j hj => by
  rw [Nat.zero_add]
  exact ⟨by rw [h.cell (List.getElem?_eq_getElem (by omega))]; rfl, h.frozen j⟩
theorem uV_one (ws : List Nat) : (ws.map uV).toArray.all (·.oneCell') = true := all_oneCell_toArray fun v hv => by
  obtain ⟨x, _, rfl⟩ := List.mem_map.1 hv
  rfl
theorem setCells_blk' {T : TypeId} {b : Nat} : ∀ (vs : List Value) (o : Nat) (pre post : List Value) (W : World), pre.length = o → post.length = vs.length → Bk W b T (pre ++ post) → Bk (W.setCells b o vs) b T (pre ++ vs)
  | [], _, _, [], _, _, _, h => h
  | [], _, _, _ :: _, _, _, hl, _ => by simp at hl
  | v :: vs, _, _, [], _, _, hl, _ => by simp at hl
  | v :: vs, o, pre, c :: post, W, hp, hl, h => by
    have h1 := h.put o v
    rw [List.set_append_right _ _ (by omega), hp, Nat.sub_self, List.set_cons_zero, show pre ++ v :: post = (pre ++ [v]) ++ post by simp] at h1
    have := setCells_blk' vs (o + 1) (pre ++ [v]) post _ (by simp; omega) (by simpa using hl) h1
    simpa [World.setCells] using this
theorem setCells_blk {W : World} {b : Nat} {T : TypeId} {C : List Value} (h : Bk W b T C) (vs : List Value) (hl : C.length = vs.length) : Bk (W.setCells b 0 vs) b T vs := setCells_blk' vs 0 [] C W rfl hl h
theorem below_setCells {N b : Nat} {w : World} : ∀ {w' : World}, Below N w w' → N ≤ b → ∀ (o : Nat) (vs : List Value), Below N w (w'.setCells b o vs)
  | _, h, _, _, [] => h
  | w', h, hb, o, v :: vs => below_setCells (w' := w'.setCell ⟨b, o, none⟩ v) (h.setCell (p := ⟨b, o, none⟩) hb v) hb (o + 1) vs
set_option maxRecDepth 100000 in
set_option maxHeartbeats 4000000 in
theorem full_any (w : World) : Calls Tryd.prog 76 #[] w fun e w' => e = .returned (.agg (fullW.map uV).toArray) ∧ Below w.heap.size w w' := by
  have HB0 : Hid (Bk ((w.alloc (.cells (zeroW.map uV).toArray 95)).alloc (.cells (zeroW.map uV).toArray 95)) (w.heap.size + 1) 95 ((fullN 0).map uV)) := by
    rw [fullN_zero]
    have := heap_alloc_new (w.alloc (.cells (zeroW.map uV).toArray 95)) (.cells (zeroW.map uV).toArray 95)
    rw [World.size_alloc] at this
    exact this
  have HW0 : Hid (Below (w.heap.size + 1) (w.alloc (.cells (zeroW.map uV).toArray 95)) ((w.alloc (.cells (zeroW.map uV).toArray 95)).alloc (.cells (zeroW.map uV).toArray 95))) := by
    have := Below.one (Below.refl _ (w.alloc (.cells (zeroW.map uV).toArray 95))) (.cells (zeroW.map uV).toArray 95)
    rwa [World.size_alloc] at this
  go_enter Tryd.func76, Tryd.ntmps76
  go_wp2_with fail
  go_loopw [3] (fun t3 wr => ∃ j : Nat, j ≤ 16 ∧ t3 = .int .i64 (j : Int) ∧ Bk wr (w.heap.size + 1) 95 ((fullN j).map uV) ∧ Below (w.heap.size + 1) (w.alloc (.cells (zeroW.map uV).toArray 95)) wr) (fun t3 _ => 16 - (intOf t3).toNat)
  case atStart => exact ⟨0, by omega, rfl, HB0.out, HW0.out⟩
  case round =>
    obtain ⟨j, hj, rfl, hb, hw⟩ := hrel
    by_cases hlt : j < 16
    · have c0 : wr.cell? ⟨w.heap.size + 1, j, none⟩ = some (.int .u64 0) := hb.cell (by rw [List.getElem?_map, fullN_at hlt]; rfl)
      have f0 := hb.frozen j
      have HB2 : Hid (Bk (wr.setCell ⟨w.heap.size + 1, j, none⟩ (.int .u64 18446744073709551615)) (w.heap.size + 1) 95 ((fullN (j + 1)).map uV)) := by
        have := hb.put j (uV 18446744073709551615)
        rw [← List.map_set, fullN_succ hlt] at this
        exact this
      have HW2 := Hid.mk' (hw.setCell (p := ⟨w.heap.size + 1, j, none⟩) (Nat.le_refl _) (.int .u64 18446744073709551615))
      clear hb hw
      go_wp2_with fail
      go_roundw
      case rel => exact ⟨j + 1, by omega, by go_num, HB2.out, HW2.out⟩
      case measure => simp [intOf]; omega
    · have e : j = 16 := by omega
      rw [e, fullN_all] at hb
      clear e
      have HRG := Hid.mk' hb.range
      have HB3 : Hid (Bk wr w.heap.size 95 (zeroW.map uV)) := (hw.block _ (Nat.lt_succ_self _)).trans (heap_alloc_new w _)
      have HT : Hid (wr.there w.heap.size 0 (fullW.map uV).toArray.size) := HB3.out.there (by simp [zeroW, fullW])
      have HW3 : Hid (Below w.heap.size w wr) := (Below.one (Below.refl _ w) _).trans (hw.mono (Nat.le_succ _))
      clear hb hw HB0 HW0
      go_wp2_with (first
        | (refine wpList_load_mid rfl 95 _ rfl (w.heap.size + 1) 0 rfl (fullW.map uV) _ HRG.out Tryd.underlying95 rfl (by rw [Tryd.sizeSet]; rfl) ?_)
        | (refine wpList_store_mid rfl 95 _ _ rfl w.heap.size 0 (fullW.map uV).toArray rfl rfl HT.out (by rw [Tryd.sizeSet]; rfl) (uV_one _) ?_))
      refine bodyPost_ret (v := .agg (fullW.map uV).toArray) ?_ rfl ⟨rfl, ?_⟩
      · have hb := setCells_blk HB3.out (fullW.map uV) (by simp [zeroW, fullW])
        exact results_cell_row Tryd.results76 _ _ w.heap.size _ _ _ _ rfl hb Tryd.underlying95 rfl (by rw [Tryd.sizeSet]; rfl)
      · exact below_setCells HW3.out (Nat.le_refl _) _ _
end Go.Proofs.YtgiokognngllcaaDoor

/- Sets in a row: a block of many; are two words for words the same? -/
namespace Go.Proofs.YtgiokognngllcaaDoor
open Go.RowKit Go.Sort

def flatS (S : List (List Nat)) : List Value := S.flatMap fun ws => ws.map uV
theorem flatS_append (S T : List (List Nat)) : flatS (S ++ T) = flatS S ++ flatS T := by unfold flatS; rw [List.flatMap_append]
theorem flatS_len : ∀ {S : List (List Nat)}, (∀ ws ∈ S, ws.length = 16) → (flatS S).length = S.length * 16
  | [], _ => rfl
  | ws :: S, h => by
    have ih := flatS_len (S := S) fun x hx => h x (by simp [hx])
    have := h ws (by simp)
    unfold flatS at *
    rw [List.flatMap_cons, List.length_append, ih, List.length_map, List.length_cons]
    omega
theorem flatS_split {S : List (List Nat)} {v : Nat} (h : v < S.length) : flatS S = flatS (S.take v) ++ (S[v].map uV ++ flatS (S.drop (v + 1))) := by
  have e : S = S.take v ++ (S[v] :: S.drop (v + 1)) := by rw [← List.drop_eq_getElem_cons h, List.take_append_drop]
  conv => lhs; rw [e]
  rw [flatS_append]
  congr 1
theorem flatS_set {S : List (List Nat)} {v : Nat} (h : v < S.length) (ws : List Nat) : flatS (S.set v ws) = flatS (S.take v) ++ (ws.map uV ++ flatS (S.drop (v + 1))) := by
  rw [List.set_eq_take_append_cons_drop, if_pos h, flatS_append]
  congr 1
theorem len_take {S : List (List Nat)} (h : ∀ ws ∈ S, ws.length = 16) {v : Nat} (hv : v < S.length) : (flatS (S.take v)).length = v * 16 := by
  rw [flatS_len fun ws hw => h ws (List.mem_of_mem_take hw), List.length_take]
  rw [Nat.min_eq_left (by omega)]
theorem flat_range {W : World} {R : Nat} {T : TypeId} {S : List (List Nat)} (hb : Bk W R T (flatS S)) (h : ∀ ws ∈ S, ws.length = 16) {v : Nat} (hv : v < S.length) : W.rangeAt R (v * 16) (S[v].map uV) := fun j u hj => by
  refine hb.cell ?_
  rw [flatS_split hv, List.getElem?_append_right (by rw [len_take h hv]; omega), len_take h hv, Nat.add_sub_cancel_left, List.getElem?_append_left (List.getElem?_eq_some_iff.1 hj).1]
  exact hj
theorem flat_there {W : World} {R : Nat} {T : TypeId} {S : List (List Nat)} (hb : Bk W R T (flatS S)) (h : ∀ ws ∈ S, ws.length = 16) {v : Nat} (hv : v < S.length) : W.there R (v * 16) 16 := fun j hj => by
  refine ⟨?_, hb.frozen _⟩
  have hl := h _ (List.getElem_mem hv)
  have := flat_range hb h hv j (uV (S[v]'hv)[j]) (by rw [List.getElem?_map, List.getElem?_eq_getElem (by omega)]; rfl)
  rw [this]
  rfl
theorem setCells_mid {T : TypeId} {b : Nat} : ∀ (vs : List Value) (o : Nat) (pre mid post : List Value) (W : World), pre.length = o → mid.length = vs.length → Bk W b T (pre ++ (mid ++ post)) → Bk (W.setCells b o vs) b T (pre ++ (vs ++ post))
  | [], _, _, [], _, _, _, _, h => h
  | [], _, _, _ :: _, _, _, _, hl, _ => by simp at hl
  | v :: vs, _, _, [], _, _, _, hl, _ => by simp at hl
  | v :: vs, o, pre, c :: mid, post, W, hp, hl, h => by
    have h1 := h.put o v
    rw [List.set_append_right _ _ (by omega), hp, Nat.sub_self, List.cons_append, List.set_cons_zero, show pre ++ v :: (mid ++ post) = (pre ++ [v]) ++ (mid ++ post) by simp] at h1
    have := setCells_mid vs (o + 1) (pre ++ [v]) mid post _ (by simp; omega) (by simpa using hl) h1
    simpa [World.setCells] using this
theorem flat_put {W : World} {R : Nat} {T : TypeId} {S : List (List Nat)} (hb : Bk W R T (flatS S)) (h : ∀ ws ∈ S, ws.length = 16) {v : Nat} (hv : v < S.length) {ws : List Nat} (hw : ws.length = 16) : Bk (W.setCells R (v * 16) (ws.map uV)) R T (flatS (S.set v ws)) := by
  rw [flatS_set hv]
  rw [flatS_split hv] at hb
  exact setCells_mid (ws.map uV) (v * 16) _ _ _ W (len_take h hv) (by rw [List.length_map, List.length_map, hw]; exact h _ (List.getElem_mem hv)) hb
theorem Wr.puts (b : Nat) : ∀ (vs : List Value) (o : Nat) (w : World), Wr b w (w.setCells b o vs)
  | [], _, w => Wr.refl b w
  | v :: vs, o, w => (Wr.put b o w v).trans (Wr.puts b vs (o + 1) _)

theorem Tryd.infoU : (Tryd.prog.info? 93).isSome = true := by kernel_rfl
theorem Tryd.cellsU : Tryd.prog.cellsOf 93 = 1 := by kernel_rfl
theorem eq_items (w : World) (xs ys : List Nat) (h : xs.length = 16) (h' : ys.length = 16) : ∀ l : List Nat, (∀ i ∈ l, i < 16) → (Op.eqItems 9999 93 1 (xs.map uV).toArray (ys.map uV).toArray l).run Tryd.prog w = .ok (l.all fun i => xs.getD i 0 == ys.getD i 0) w
  | [], _ => by simp [Op.eqItems]
  | i :: l, hl => by
    have hi := hl i (by simp)
    have ih := eq_items w xs ys h h' l fun j hj => hl j (by simp [hj])
    have px : ∀ zs : List Nat, zs.length = 16 → (part 93 (zs.map uV).toArray (i * 1)).run Tryd.prog w = .ok (.int .u64 ((zs.getD i 0 : Nat) : Int)) w := by
      intro zs hz
      have e : (zs.map uV).toArray[i * 1]? = some (.int .u64 ((zs.getD i 0 : Nat) : Int)) := by
        rw [Nat.mul_one, List.getElem?_toArray, List.getElem?_map, List.getElem?_eq_getElem (by omega), List.getD_eq_getElem?_getD, List.getElem?_eq_getElem (by omega)]
        rfl
      simp only [part, isAgg, Sem.run_bind, run_underlying Tryd.underlying93, Result.andThen_ok, Sem.run_pure, Bool.false_eq_true, if_false, e]
    have pe : (Op.equalIn 9999 93 (.int .u64 ((xs.getD i 0 : Nat) : Int)) (.int .u64 ((ys.getD i 0 : Nat) : Int))).run Tryd.prog w = .ok (xs.getD i 0 == ys.getD i 0) w := by
      rw [run_equalIn_int w 9998 93 .u64 .u64 _ _ Tryd.underlying93]
      congr 1
      rw [Bool.eq_iff_iff]
      simp only [beq_iff_eq]
      omega
    simp only [Op.eqItems, Sem.run_bind, px xs h, px ys h', pe, Result.andThen_ok, List.all_cons]
    cases hb : (xs.getD i 0 == ys.getD i 0)
    · simp
    · simpa using ih
theorem eq_words (w : World) (xs ys : List Nat) (h : xs.length = 16) (h' : ys.length = 16) : (Op.equalIn 10000 95 (.agg (xs.map uV).toArray) (.agg (ys.map uV).toArray)).run Tryd.prog w = .ok (decide (xs = ys)) w := by
  obtain ⟨i0, hi0⟩ := Option.isSome_iff_exists.1 Tryd.infoU
  rw [show (10000 : Nat) = 9999 + 1 from rfl, run_equalIn_array w 9999 _ _ Tryd.underlying95 hi0, Tryd.cellsU, eq_items w xs ys h h' _ (fun i hi => List.mem_range.1 hi)]
  refine congrArg (fun b => Result.ok b w) ?_
  rw [Bool.eq_iff_iff]
  simp only [List.all_eq_true, List.mem_range, beq_iff_eq, decide_eq_true_eq]
  constructor
  · intro e
    refine List.ext_getElem (by omega) fun i hi hj => ?_
    have := e i (by omega)
    rw [List.getD_eq_getElem?_getD, List.getD_eq_getElem?_getD, List.getElem?_eq_getElem hi, List.getElem?_eq_getElem hj] at this
    exact this
  · rintro rfl _ _
    rfl
end Go.Proofs.YtgiokognngllcaaDoor

/- dom.narrow. -/
namespace Go.Proofs.YtgiokognngllcaaDoor
open Go.RowKit Go.Sort

def foldW (S : List (List Nat)) (us : List Nat) : List Nat := us.foldl (fun acc u => meetW acc (S.getD u [])) fullW
theorem foldW_succ (S : List (List Nat)) (us : List Nat) {j : Nat} (h : j < us.length) : foldW S (us.take (j + 1)) = meetW (foldW S (us.take j)) (S.getD us[j] []) := by
  unfold foldW
  rw [List.take_succ_eq_append_getElem h, List.foldl_append]
  rfl
theorem sixteen {ws : List Nat} (h : ws.length = 16) : ∃ x0 x1 x2 x3 x4 x5 x6 x7 x8 x9 x10 x11 x12 x13 x14 x15, ws = [x0, x1, x2, x3, x4, x5, x6, x7, x8, x9, x10, x11, x12, x13, x14, x15] := by
  match ws, h with
  | [x0, x1, x2, x3, x4, x5, x6, x7, x8, x9, x10, x11, x12, x13, x14, x15], _ => exact ⟨x0, x1, x2, x3, x4, x5, x6, x7, x8, x9, x10, x11, x12, x13, x14, x15, rfl⟩
theorem getD_at {S : List (List Nat)} {v : Nat} (h : v < S.length) : S.getD v [] = S[v] := by rw [List.getD_eq_getElem?_getD, List.getElem?_eq_getElem h]; rfl
theorem getD_ok {S : List (List Nat)} (hok : ∀ ws ∈ S, OkW ws) {v : Nat} (h : v < S.length) : OkW (S.getD v []) := by rw [getD_at h]; exact hok _ (List.getElem_mem h)
theorem wpl_new_set {ops : Array Oper} {rest : List Oper} {op : Oper} {a : Act} {w : World} {cs : Array Value} {Q : Exit → Act → World → Prop} (hgd : op.guard = Option.none) (x y : Operand) (ho : op.op = .store 95 x y) (hx : a.eval x = .pointer (some ⟨w.heap.size, 0, Option.none⟩)) (ws : List Nat) (hy : a.eval y = .agg (ws.map uV).toArray) (hw : ws.length = 16) (hc : cs.size = 16)
    (h : ∀ W1, Bk W1 w.heap.size 95 (ws.map uV) → Below w.heap.size w W1 → wpList Tryd.prog ops Q rest (a.put op.dst undef) W1) : wpList Tryd.prog ops Q (op :: rest) a (w.alloc (.cells cs 95)) := by
  have hb : Bk (w.alloc (.cells cs 95)) w.heap.size 95 cs.toList := heap_alloc_new w _
  refine wpList_store_mid hgd 95 x y ho w.heap.size 0 (ws.map uV).toArray hx hy (hb.there (by simp [hw, hc])) (by rw [Tryd.sizeSet]; simp [hw]) (uV_one ws) (h _ ?_ ?_)
  · exact setCells_blk hb _ (by simp [hw, hc])
  · exact below_setCells (Below.one (Below.refl _ w) _) (Nat.le_refl _) _ _
theorem sadd_set (b v : Nat) (T : TypeId) (ws : List Nat) (rest : List Value) (w : World) (hv : v < 1024) (hk : OkW ws) (hb : Bk w b T (ws.map uV ++ rest)) : Calls Tryd.prog 77 #[.pointer (some ⟨b, 0, none⟩), .int .i64 (v : Int)] w fun e w' => (∃ r, e = .returned r) ∧ Bk w' b T ((addW ws v).map uV ++ rest) ∧ Wr b w w' := by
  have hl := hk.len
  have hd : v / 64 < ws.length := by omega
  have h := sadd_any b v ws[v / 64] T _ w hv (hk.lt _ (List.getElem_mem hd)) hb (by rw [List.getElem?_append_left (by rw [List.length_map]; exact hd)]; exact map_uV_at hd)
  have e : (ws.map uV ++ rest).set (v / 64) (uV (ws[v / 64] ||| 2 ^ (v % 64))) = (addW ws v).map uV ++ rest := by
    rw [List.set_append_left _ _ (by rw [List.length_map]; exact hd)]
    unfold addW
    rw [List.map_set, List.getD_eq_getElem?_getD, List.getElem?_eq_getElem hd]
    rfl
  rw [e] at h
  exact h
/-- What narrow comes to. -/
def NaP (R : Nat) (S : List (List Nat)) (us : List Nat) (v : Nat) (w : World) (e : Ending) (w' : World) : Prop :=
  w.grownBy w' (some R) ∧ ((e = .returned (.bool false) ∧ (us = [] ∨ newW S us v = S.getD v []) ∧ Bk w' R 95 (flatS S)) ∨ (e = .returned (.bool true) ∧ us ≠ [] ∧ newW S us v ≠ S.getD v [] ∧ Bk w' R 95 (flatS (S.set v (newW S us v)))))
theorem grown_refl (w : World) (r : Option Nat) : w.grownBy w r := ⟨rfl, rfl, rfl, Nat.le_refl _, fun _ _ _ => rfl⟩
set_option maxRecDepth 100000 in
set_option maxHeartbeats 4000000 in
theorem narrow_any (R : Nat) (S : List (List Nat)) (us : List Nat) (a : Option Addr) (c v : Nat) (w : World) (hb : Bk w R 95 (flatS S)) (hok : ∀ ws ∈ S, OkW ws) (hv : v < S.length) (hn : S.length ≤ 1024) (hu : ∀ u ∈ us, u < S.length) (hl : Lst w a (us.map nV)) (hul : us.length ≤ 1000000) :
    Calls Tryd.prog 60 #[.slice (some ⟨R, 0, none⟩) S.length S.length, .slice a us.length c, .int .i64 (v : Int)] w (NaP R S us v w) := by
  have HL := Hid.mk' hl
  have HB := Hid.mk' hb
  have HOK := Hid.mk' hok
  have H16 : Hid (∀ ws ∈ S, ws.length = 16) := fun ws hw => (hok ws hw).len
  have HU := Hid.mk' hu
  have HR : Hid (R < w.heap.size) := (Array.getElem?_eq_some_iff.1 hb).1
  clear hl hb hok hu
  by_cases hz : us.length = 0
  · have e : us = [] := List.length_eq_zero_iff.1 hz
    subst e
    have hq : ((([] : List Nat).length : Int) == 0) = true := rfl
    go_enter Tryd.func60, Tryd.ntmps60
    go_wp2_with fail
    go_ret
    exact ⟨grown_refl _ _, .inl ⟨rfl, .inl rfl, HB.out⟩⟩
  have hq : ((us.length : Int) == 0) = false := beq_no (by omega)
  have HZ : Hid (us ≠ []) := fun e => hz (by rw [e]; rfl)
  have HF := Hid.mk' (full_any w)
  clear hz
  go_enter Tryd.func60, Tryd.ntmps60
  go_wp2_with (first
    | (go_at_call 76; refine HF.out.mono ?_; rintro e w2 ⟨rfl, bb2⟩; have HB2 := Hid.mk' bb2; clear bb2)
    | (refine wpl_new_set rfl _ _ rfl rfl fullW rfl okW_full.len rfl ?_; rintro W1 hn1 hn2; have HN1 := Hid.mk' hn1; have HN2 := Hid.mk' hn2; clear hn1 hn2))
  have HRL : Hid (R < w2.heap.size) := Nat.lt_of_lt_of_le HR.out HB2.out.size
  have HB3 : Hid (Bk w2 R 95 (flatS S)) := (HB2.out.block _ HR.out).trans HB.out
  have HL3 := Hid.mk' (HL.out.stay HB2.out)
  clear HF HL HB
  go_loopw [16] (fun t16 wr => ∃ j : Nat, j ≤ us.length ∧ t16 = .int .i64 (j : Int) ∧ Bk wr w2.heap.size 95 ((foldW S (us.take j)).map uV) ∧ Below w2.heap.size w2 wr) (fun t16 _ => us.length - (intOf t16).toNat)
  case atStart => exact ⟨0, Nat.zero_le _, rfl, HN1.out, HN2.out⟩
  case round =>
    obtain ⟨j, hj, rfl, hb, hw⟩ := hrel
    have HBJ := Hid.mk' hb
    have HWJ := Hid.mk' hw
    have HOJ : Hid (∀ i, OkW (foldW S (us.take i))) := fun i => fold_ok _ (fun u hu => getD_ok HOK.out (HU.out u (List.mem_of_mem_take hu))) _ okW_full
    clear hb hw HN1 HN2
    by_cases hlt : j < us.length
    · obtain ⟨b, o, rfl, c0⟩ := lst_n (HL3.out.stay HWJ.out) hlt
      have hli : (j : Int) < (us.length : Int) := by omega
      have hul2 : us[j] < S.length := HU.out _ (List.getElem_mem hlt)
      have HSM := Hid.mk' (smeet_any w2.heap.size R (us[j] * 16) 95 (foldW S (us.take j)) (S.getD us[j] []) wr (HOJ.out j) (getD_ok HOK.out hul2) HBJ.out (by rw [getD_at hul2]; exact flat_range ((HWJ.out.block _ HRL.out).trans HB3.out) H16.out hul2) (Nat.ne_of_lt HRL.out))
      have HS := Hid.mk' (foldW_succ S us hlt)
      generalize us[j] = u at *
      go_wp2_with (go_at_call 78; refine HSM.out.mono ?_; rintro e w3 ⟨⟨r3, rfl⟩, b3, wr3⟩; have HB4 := Hid.mk' b3; have HW4 := Hid.mk' wr3; clear b3 wr3)
      go_roundw
      case rel => exact ⟨j + 1, hlt, by go_num, by rw [HS.out]; exact HB4.out, HWJ.out.trans (HW4.out.below (Nat.le_refl _))⟩
      case measure => simp [intOf]; omega
    · have e : us.take j = us := List.take_of_length_le (by omega)
      rw [e] at HBJ
      clear e
      have HOF : Hid (OkW (foldW S us)) := by
        have := HOJ.out us.length
        rwa [List.take_length] at this
      have hv2 : v < 1024 := Nat.lt_of_lt_of_le hv hn
      have HAD : Hid (Calls Tryd.prog 77 #[.pointer (some ⟨w2.heap.size, 0, none⟩), .int .i64 (v : Int)] wr fun e w' => (∃ r, e = .returned r) ∧ Bk w' w2.heap.size 95 ((newW S us v).map uV) ∧ Wr w2.heap.size wr w') := by
        have := sadd_set w2.heap.size v 95 (foldW S us) [] wr hv2 HOF.out (by rw [List.append_nil]; exact HBJ.out)
        rw [List.append_nil] at this
        exact this
      have HNO : Hid (OkW (newW S us v)) := new_ok (fun u hu => getD_ok HOK.out (HU.out u hu)) v
      obtain ⟨NW, hnw⟩ : ∃ n, newW S us v = n := ⟨_, rfl⟩
      rw [hnw] at HAD HNO
      have HNW := Hid.mk' hnw
      clear hnw HOJ HBJ HOF hv2
      go_upto_region 10 with (go_at_call 77; refine HAD.out.mono ?_; rintro e w3 ⟨⟨r3, rfl⟩, b3, wr3⟩; have HBN := Hid.mk' b3; have HW4 := Hid.mk' wr3; clear b3 wr3)
      have HW5 : Hid (Below w2.heap.size w2 w3) := HWJ.out.trans (HW4.out.below (Nat.le_refl _))
      have HRB : Hid (Bk w3 R 95 (flatS S)) := (HW5.out.block _ HRL.out).trans HB3.out
      have HRO : Hid (w3.rangeAt R (v * 16) ((S.getD v []).map uV)) := by rw [getD_at hv]; exact flat_range HRB.out H16.out hv
      have HO16 : Hid ((S.getD v []).length = 16) := (getD_ok HOK.out hv).len
      have HGR : Hid (∀ n, w.grownBy (w3.drewN n) (some R)) := fun n => by
        have h := HB2.out.trans (HW5.out.mono HB2.out.size)
        exact ⟨h.os, h.tape, h.output, h.size, fun k hk _ => h.block k hk⟩
      obtain ⟨OW, how⟩ : ∃ n, S.getD v [] = n := ⟨_, rfl⟩
      rw [how] at HRO HO16
      have HOW := Hid.mk' how
      clear how HAD HWJ HW4
      obtain ⟨x0, x1, x2, x3, x4, x5, x6, x7, x8, x9, x10, x11, x12, x13, x14, x15, rfl⟩ := sixteen HNO.out.len
      obtain ⟨y0, y1, y2, y3, y4, y5, y6, y7, y8, y9, y10, y11, y12, y13, y14, y15, rfl⟩ := sixteen HO16.out
      have cx0 := HBN.out.cell (i := 0) (v := .int .u64 ((x0 : Nat) : Int)) rfl
      have cx1 := HBN.out.cell (i := 1) (v := .int .u64 ((x1 : Nat) : Int)) rfl
      have cx2 := HBN.out.cell (i := 2) (v := .int .u64 ((x2 : Nat) : Int)) rfl
      have cx3 := HBN.out.cell (i := 3) (v := .int .u64 ((x3 : Nat) : Int)) rfl
      have cx4 := HBN.out.cell (i := 4) (v := .int .u64 ((x4 : Nat) : Int)) rfl
      have cx5 := HBN.out.cell (i := 5) (v := .int .u64 ((x5 : Nat) : Int)) rfl
      have cx6 := HBN.out.cell (i := 6) (v := .int .u64 ((x6 : Nat) : Int)) rfl
      have cx7 := HBN.out.cell (i := 7) (v := .int .u64 ((x7 : Nat) : Int)) rfl
      have cx8 := HBN.out.cell (i := 8) (v := .int .u64 ((x8 : Nat) : Int)) rfl
      have cx9 := HBN.out.cell (i := 9) (v := .int .u64 ((x9 : Nat) : Int)) rfl
      have cx10 := HBN.out.cell (i := 10) (v := .int .u64 ((x10 : Nat) : Int)) rfl
      have cx11 := HBN.out.cell (i := 11) (v := .int .u64 ((x11 : Nat) : Int)) rfl
      have cx12 := HBN.out.cell (i := 12) (v := .int .u64 ((x12 : Nat) : Int)) rfl
      have cx13 := HBN.out.cell (i := 13) (v := .int .u64 ((x13 : Nat) : Int)) rfl
      have cx14 := HBN.out.cell (i := 14) (v := .int .u64 ((x14 : Nat) : Int)) rfl
      have cx15 := HBN.out.cell (i := 15) (v := .int .u64 ((x15 : Nat) : Int)) rfl
      have cy0 : w3.cell? ⟨R, v * 16, none⟩ = some (.int .u64 ((y0 : Nat) : Int)) := HRO.out 0 (uV y0) rfl
      have cy1 : w3.cell? ⟨R, v * 16 + 1, none⟩ = some (.int .u64 ((y1 : Nat) : Int)) := HRO.out 1 (uV y1) rfl
      have cy2 : w3.cell? ⟨R, v * 16 + 2, none⟩ = some (.int .u64 ((y2 : Nat) : Int)) := HRO.out 2 (uV y2) rfl
      have cy3 : w3.cell? ⟨R, v * 16 + 3, none⟩ = some (.int .u64 ((y3 : Nat) : Int)) := HRO.out 3 (uV y3) rfl
      have cy4 : w3.cell? ⟨R, v * 16 + 4, none⟩ = some (.int .u64 ((y4 : Nat) : Int)) := HRO.out 4 (uV y4) rfl
      have cy5 : w3.cell? ⟨R, v * 16 + 5, none⟩ = some (.int .u64 ((y5 : Nat) : Int)) := HRO.out 5 (uV y5) rfl
      have cy6 : w3.cell? ⟨R, v * 16 + 6, none⟩ = some (.int .u64 ((y6 : Nat) : Int)) := HRO.out 6 (uV y6) rfl
      have cy7 : w3.cell? ⟨R, v * 16 + 7, none⟩ = some (.int .u64 ((y7 : Nat) : Int)) := HRO.out 7 (uV y7) rfl
      have cy8 : w3.cell? ⟨R, v * 16 + 8, none⟩ = some (.int .u64 ((y8 : Nat) : Int)) := HRO.out 8 (uV y8) rfl
      have cy9 : w3.cell? ⟨R, v * 16 + 9, none⟩ = some (.int .u64 ((y9 : Nat) : Int)) := HRO.out 9 (uV y9) rfl
      have cy10 : w3.cell? ⟨R, v * 16 + 10, none⟩ = some (.int .u64 ((y10 : Nat) : Int)) := HRO.out 10 (uV y10) rfl
      have cy11 : w3.cell? ⟨R, v * 16 + 11, none⟩ = some (.int .u64 ((y11 : Nat) : Int)) := HRO.out 11 (uV y11) rfl
      have cy12 : w3.cell? ⟨R, v * 16 + 12, none⟩ = some (.int .u64 ((y12 : Nat) : Int)) := HRO.out 12 (uV y12) rfl
      have cy13 : w3.cell? ⟨R, v * 16 + 13, none⟩ = some (.int .u64 ((y13 : Nat) : Int)) := HRO.out 13 (uV y13) rfl
      have cy14 : w3.cell? ⟨R, v * 16 + 14, none⟩ = some (.int .u64 ((y14 : Nat) : Int)) := HRO.out 14 (uV y14) rfl
      have cy15 : w3.cell? ⟨R, v * 16 + 15, none⟩ = some (.int .u64 ((y15 : Nat) : Int)) := HRO.out 15 (uV y15) rfl
      have heq : ∀ W : World, (Op.equalIn 10000 95 (.agg #[.int .u64 ((x0 : Nat) : Int), .int .u64 ((x1 : Nat) : Int), .int .u64 ((x2 : Nat) : Int), .int .u64 ((x3 : Nat) : Int), .int .u64 ((x4 : Nat) : Int), .int .u64 ((x5 : Nat) : Int), .int .u64 ((x6 : Nat) : Int), .int .u64 ((x7 : Nat) : Int), .int .u64 ((x8 : Nat) : Int), .int .u64 ((x9 : Nat) : Int), .int .u64 ((x10 : Nat) : Int), .int .u64 ((x11 : Nat) : Int), .int .u64 ((x12 : Nat) : Int), .int .u64 ((x13 : Nat) : Int), .int .u64 ((x14 : Nat) : Int), .int .u64 ((x15 : Nat) : Int)]) (.agg #[.int .u64 ((y0 : Nat) : Int), .int .u64 ((y1 : Nat) : Int), .int .u64 ((y2 : Nat) : Int), .int .u64 ((y3 : Nat) : Int), .int .u64 ((y4 : Nat) : Int), .int .u64 ((y5 : Nat) : Int), .int .u64 ((y6 : Nat) : Int), .int .u64 ((y7 : Nat) : Int), .int .u64 ((y8 : Nat) : Int), .int .u64 ((y9 : Nat) : Int), .int .u64 ((y10 : Nat) : Int), .int .u64 ((y11 : Nat) : Int), .int .u64 ((y12 : Nat) : Int), .int .u64 ((y13 : Nat) : Int), .int .u64 ((y14 : Nat) : Int), .int .u64 ((y15 : Nat) : Int)])).run Tryd.prog W = .ok (decide ([x0, x1, x2, x3, x4, x5, x6, x7, x8, x9, x10, x11, x12, x13, x14, x15] = [y0, y1, y2, y3, y4, y5, y6, y7, y8, y9, y10, y11, y12, y13, y14, y15])) W := fun W => eq_words W [x0, x1, x2, x3, x4, x5, x6, x7, x8, x9, x10, x11, x12, x13, x14, x15] [y0, y1, y2, y3, y4, y5, y6, y7, y8, y9, y10, y11, y12, y13, y14, y15] rfl rfl
      have hvi : (v : Int) < (S.length : Int) := by omega
      by_cases hE : [x0, x1, x2, x3, x4, x5, x6, x7, x8, x9, x10, x11, x12, x13, x14, x15] = [y0, y1, y2, y3, y4, y5, y6, y7, y8, y9, y10, y11, y12, y13, y14, y15]
      · rw [decide_eq_true hE] at heq
        have HE := Hid.mk' hE
        clear hE
        go_quiet (fail)
        go_wp2_with fail
        go_ret
        exact ⟨HGR.out _, .inl ⟨rfl, .inr (HNW.out.trans (HE.out.trans HOW.out.symm)), HRB.out⟩⟩
      · rw [decide_eq_false hE] at heq
        have HE := Hid.mk' hE
        clear hE
        have HR1 : Hid (∀ n, (w3.drewN n).rangeAt w2.heap.size 0 (([x0, x1, x2, x3, x4, x5, x6, x7, x8, x9, x10, x11, x12, x13, x14, x15] : List Nat).map uV)) := fun n => Bk.range (W := w3.drewN n) HBN.out
        have HR2 : Hid (∀ n, (w3.drewN n).there R (v * 16) 16) := fun n => flat_there (W := w3.drewN n) HRB.out H16.out hv
        have HRP : Hid (∀ n, Bk ((w3.drewN n).setCells R (v * 16) (([x0, x1, x2, x3, x4, x5, x6, x7, x8, x9, x10, x11, x12, x13, x14, x15] : List Nat).map uV)) R 95 (flatS (S.set v [x0, x1, x2, x3, x4, x5, x6, x7, x8, x9, x10, x11, x12, x13, x14, x15]))) := fun n => flat_put (W := w3.drewN n) HRB.out H16.out hv rfl
        have HWP : Hid (∀ n, w.grownBy ((w3.drewN n).setCells R (v * 16) (([x0, x1, x2, x3, x4, x5, x6, x7, x8, x9, x10, x11, x12, x13, x14, x15] : List Nat).map uV)) (some R)) := fun n => by
          have h1 := HGR.out n
          have h2 := Wr.puts R (([x0, x1, x2, x3, x4, x5, x6, x7, x8, x9, x10, x11, x12, x13, x14, x15] : List Nat).map uV) (v * 16) (w3.drewN n)
          exact ⟨h2.os.trans h1.os, h2.tape.trans h1.tape, h2.output.trans h1.output, by rw [h2.size]; exact h1.size, fun k hk hr => (h2.block k (fun e => hr (by rw [e]))).trans (h1.block k hk hr)⟩
        go_quiet (fail)
        clear cx0 cx1 cx2 cx3 cx4 cx5 cx6 cx7 cx8 cx9 cx10 cx11 cx12 cx13 cx14 cx15 cy0 cy1 cy2 cy3 cy4 cy5 cy6 cy7 cy8 cy9 cy10 cy11 cy12 cy13 cy14 cy15 heq
        go_wp2_with (first
          | (refine wpList_load_mid rfl 95 _ rfl w2.heap.size 0 rfl (([x0, x1, x2, x3, x4, x5, x6, x7, x8, x9, x10, x11, x12, x13, x14, x15] : List Nat).map uV) _ (HR1.out _) Tryd.underlying95 rfl Tryd.sizeSet ?_)
          | (refine wpList_store_mid rfl 95 _ _ rfl R (v * 16) (([x0, x1, x2, x3, x4, x5, x6, x7, x8, x9, x10, x11, x12, x13, x14, x15] : List Nat).map uV).toArray rfl rfl (HR2.out _) Tryd.sizeSet (uV_one _) ?_))
        go_ret
        refine ⟨HWP.out _, .inr ⟨rfl, HZ.out, by rw [HNW.out, HOW.out]; exact HE.out, ?_⟩⟩
        rw [HNW.out]
        exact HRP.out _
end Go.Proofs.YtgiokognngllcaaDoor
