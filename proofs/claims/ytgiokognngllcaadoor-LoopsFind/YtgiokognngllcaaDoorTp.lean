/- loops.check: for what a loop does not count. -/
import Derived.Test.YtgiokognngllcaaDoorTo
import Derived.Test.YtgiokognngllcaaDoorTd
import Derived.Test.YtgiokognngllcaaDoorGgaf
import Derived.BigQuiet
namespace Go.Proofs.YtgiokognngllcaaDoor
open Go.RowKit Go.Sort

theorem find_no {α : Type} {p : α → Bool} {l : List α} {j : Nat} {x : α} (h : (l.take j).find? p = none) (hx : l[j]? = some x) (hp : p x = false) : (l.take (j + 1)).find? p = none := by
  obtain ⟨h1, h2⟩ := List.getElem?_eq_some_iff.1 hx
  rw [List.take_succ_eq_append_getElem h1, h2, List.find?_append, h]
  simp [List.find?, hp]
theorem find_yes {α : Type} {p : α → Bool} {l : List α} {j : Nat} {x : α} (h : (l.take j).find? p = none) (hx : l[j]? = some x) (hp : p x = true) : l.find? p = some x := by
  obtain ⟨h1, h2⟩ := List.getElem?_eq_some_iff.1 hx
  rw [← List.take_append_drop j l, List.find?_append, h, List.drop_eq_getElem_cons h1, h2]
  simp [List.find?, hp]
theorem find_all {α : Type} {p : α → Bool} {l : List α} {j : Nat} (h : (l.take j).find? p = none) (hj : l.length ≤ j) : l.find? p = none := by
  rwa [List.take_of_length_le hj] at h
def bakB (l : List Is) (h u : Nat) : Bool := decide ((opA l u).op ≠ 18 ∨ (opA l u).a ≠ (opA l h).a)
theorem cnt_head {l : List Is} {h : Nat} {bs ms : List Nat} (e : (opA l h).op ≠ 17) : cntZ l h bs ms = some (71, h) := by unfold cntZ; rw [if_pos e]
theorem cnt_back {l : List Is} {h u : Nat} {bs ms : List Nat} (e : (opA l h).op = 17) (hu : bs.find? (bakB l h) = some u) : cntZ l h bs ms = some (72, u) := by
  unfold cntZ
  rw [if_neg (fun g => g e), show (bs.find? fun u => decide ((opA l u).op ≠ 18 ∨ (opA l u).a ≠ (opA l h).a)) = some u from hu]
theorem cnt_drive {l : List Is} {h v : Nat} {bs ms : List Nat} (e : (opA l h).op = 17) (hu : bs.find? (bakB l h) = none) (hv : ms.find? (drvB l h bs) = some v) : cntZ l h bs ms = some (73, v) := by
  unfold cntZ
  rw [if_neg (fun g => g e), show (bs.find? fun u => decide ((opA l u).op ≠ 18 ∨ (opA l u).a ≠ (opA l h).a)) = none from hu]
  simp only [hv]
theorem cnt_exit {l : List Is} {h : Nat} {bs ms : List Nat} (e : (opA l h).op = 17) (hu : bs.find? (bakB l h) = none) (hv : ms.find? (drvB l h bs) = none) : cntZ l h bs ms = if hasI ms (opA l h).n = true then some (74, h) else none := by
  unfold cntZ
  rw [if_neg (fun g => g e), show (bs.find? fun u => decide ((opA l u).op ≠ 18 ∨ (opA l u).a ≠ (opA l h).a)) = none from hu]
  simp only [hv]
  rfl
def cntV (o : Option (Nat × Nat)) : Value := match o with
  | some p => .tuple #[.int .i64 (p.1 : Int), .int .i64 (p.2 : Int)]
  | none => .tuple #[.int .i64 0, .int .i64 0]
theorem opA_at {l : List Is} {v : Nat} (h : v < l.length) : l[v] = opA l v := by unfold opA; rw [List.getD_eq_getElem?_getD, List.getElem?_eq_getElem h]; rfl
theorem iss_op {W : World} {a : Option Addr} {l : List Is} (h : Iss W a l) {v : Nat} (hv : v < l.length) : ∃ b o, a = some ⟨b, o, none⟩ ∧ W.cell? ⟨b, o + v * 5, none⟩ = some (.int .i64 (opA l v).op) ∧ W.cell? ⟨b, o + v * 5 + 1, none⟩ = some (.int .i64 (opA l v).a) ∧ W.cell? ⟨b, o + v * 5 + 2, none⟩ = some (.int .i64 (opA l v).b) ∧ W.cell? ⟨b, o + v * 5 + 3, none⟩ = some (.int .i64 (opA l v).c) ∧ W.cell? ⟨b, o + v * 5 + 4, none⟩ = some (.int .i64 (opA l v).n) := by
  have := iss_at h hv
  rwa [opA_at hv] at this
theorem opA_ok {l : List Is} (h : ∀ x ∈ l, x.Ok) {v : Nat} (hv : v < l.length) : (opA l v).Ok := by rw [← opA_at hv]; exact h _ (List.getElem_mem hv)
theorem hasI_same {s t : List Nat} (h : ∀ v, v ∈ s ↔ v ∈ t) (z : Int) : hasI s z = hasI t z := by
  unfold hasI
  rw [Bool.eq_iff_iff, List.any_eq_true, List.any_eq_true]
  exact ⟨fun ⟨x, hx, e⟩ => ⟨x, (h x).1 hx, e⟩, fun ⟨x, hx, e⟩ => ⟨x, (h x).2 hx, e⟩⟩
set_option maxRecDepth 100000 in
set_option maxHeartbeats 4000000 in
theorem lcheck_any (l : List Is) (h : Nat) (par : Int) (ms bs : List Nat) (ca ma ba : Option Addr) (cc mc bc b : Nat) (s : List Nat) (w : World) (hi : Iss w ca l) (hok : ∀ x ∈ l, x.Ok) (hh : h < l.length) (hms : ∀ v ∈ ms, v < l.length) (hbs : ∀ u ∈ bs, u < l.length)
    (hml : ms.length ≤ 1024) (hbl : bs.length ≤ 1024) (hM : Lst w ma (ms.map nV)) (hB : Lst w ba (bs.map nV)) (hS : Mst w b s) (hsm : ∀ v, v ∈ s ↔ v ∈ ms) (ht : Tab w) :
    Calls Tryd.prog 24 #[.slice ca l.length cc, .agg #[.int .i64 (h : Int), .int .i64 par, .slice ma ms.length mc, .slice ba bs.length bc], .map (some b)] w fun e w' => e = .returned (cntV (cntZ l h bs ms)) ∧ Below w.heap.size w w' := by
  have HI := Hid.mk' hi
  have HOK := Hid.mk' (opA_ok hok hh).2.2.2.2
  have HMS := Hid.mk' hms
  have HBS := Hid.mk' hbs
  have HM := Hid.mk' hM
  have HBK := Hid.mk' hB
  have HS := Hid.mk' hS
  have HSM := Hid.mk' (hasI_same hsm (opA l h).n)
  have HT := Hid.mk' ht
  have HB1 := Hid.mk' (Below.one (Below.refl w.heap.size w) (.cells #[.int .i64 (h : Int), .int .i64 par, .slice ma ms.length mc, .slice ba bs.length bc] 40))
  have HB2 := Hid.mk' (Below.one HB1.out (.cells #[.int .i64 (opA l h).op, .int .i64 (opA l h).a, .int .i64 (opA l h).b, .int .i64 (opA l h).c, .int .i64 (opA l h).n] 52))
  have HX1 := Hid.mk' (heap_alloc_new w (.cells #[.int .i64 (h : Int), .int .i64 par, .slice ma ms.length mc, .slice ba bs.length bc] 40))
  have HX2 := Hid.mk' (heap_alloc_new (w.alloc (.cells #[.int .i64 (h : Int), .int .i64 par, .slice ma ms.length mc, .slice ba bs.length bc] 40)) (.cells #[.int .i64 (opA l h).op, .int .i64 (opA l h).a, .int .i64 (opA l h).b, .int .i64 (opA l h).c, .int .i64 (opA l h).n] 52))
  rw [World.size_alloc] at HX2
  have hhi : (h : Int) < (l.length : Int) := by omega
  obtain ⟨cb, co, rfl, e0, e1, e2, e3, e4⟩ := iss_op (hi.stay HB1.out) hh
  have y0 := cell_of_obj HX1.out (j := 0) (v := .int .i64 (h : Int)) rfl
  have HW2 : Hid (∀ W, Below (w.heap.size + 1 + 1) ((w.alloc (.cells #[.int .i64 (h : Int), .int .i64 par, .slice ma ms.length mc, .slice ba bs.length bc] 40)).alloc (.cells #[.int .i64 (opA l h).op, .int .i64 (opA l h).a, .int .i64 (opA l h).b, .int .i64 (opA l h).c, .int .i64 (opA l h).n] 52)) W →
      (W.cell? ⟨w.heap.size, 0, none⟩ = some (.int .i64 (h : Int)) ∧ W.cell? ⟨w.heap.size, 1, none⟩ = some (.int .i64 par) ∧ W.cell? ⟨w.heap.size, 2, none⟩ = some (.slice ma ms.length mc) ∧ W.cell? ⟨w.heap.size, 3, none⟩ = some (.slice ba bs.length bc)) ∧
      (W.cell? ⟨w.heap.size + 1, 0, none⟩ = some (.int .i64 (opA l h).op) ∧ W.cell? ⟨w.heap.size + 1, 1, none⟩ = some (.int .i64 (opA l h).a) ∧ W.cell? ⟨w.heap.size + 1, 2, none⟩ = some (.int .i64 (opA l h).b) ∧ W.cell? ⟨w.heap.size + 1, 3, none⟩ = some (.int .i64 (opA l h).c) ∧ W.cell? ⟨w.heap.size + 1, 4, none⟩ = some (.int .i64 (opA l h).n)) ∧ Below w.heap.size w W) := fun W hb => by
    have h1 := (hb.block w.heap.size (by omega)).trans ((Below.heap_alloc _ (.cells #[.int .i64 (opA l h).op, .int .i64 (opA l h).a, .int .i64 (opA l h).b, .int .i64 (opA l h).c, .int .i64 (opA l h).n] 52) w.heap.size (by simp)).trans HX1.out)
    have h2 := (hb.block (w.heap.size + 1) (by omega)).trans HX2.out
    exact ⟨⟨cell_of_obj h1 rfl, cell_of_obj h1 rfl, cell_of_obj h1 rfl, cell_of_obj h1 rfl⟩, ⟨cell_of_obj h2 rfl, cell_of_obj h2 rfl, cell_of_obj h2 rfl, cell_of_obj h2 rfl, cell_of_obj h2 rfl⟩, HB2.out.trans (hb.mono (by omega))⟩
  have HR2 := Hid.mk' (Below.refl (w.heap.size + 1 + 1) ((w.alloc (.cells #[.int .i64 (h : Int), .int .i64 par, .slice ma ms.length mc, .slice ba bs.length bc] 40)).alloc (.cells #[.int .i64 (opA l h).op, .int .i64 (opA l h).a, .int .i64 (opA l h).b, .int .i64 (opA l h).c, .int .i64 (opA l h).n] 52)))
  have HSZ2 : Hid (w.heap.size + 1 + 1 ≤ ((w.alloc (.cells #[.int .i64 (h : Int), .int .i64 par, .slice ma ms.length mc, .slice ba bs.length bc] 40)).alloc (.cells #[.int .i64 (opA l h).op, .int .i64 (opA l h).a, .int .i64 (opA l h).b, .int .i64 (opA l h).c, .int .i64 (opA l h).n] 52)).heap.size) := (by simp : _ ≤ _)
  obtain ⟨⟨z0, z1, z2, z3⟩, ⟨x0, x1, x2, x3, x4⟩, _⟩ := HW2.out _ HR2.out
  have HDR : Hid (∀ u, drvB l h bs u = drvV (opA l u) (opA l h) (decide (u ∈ bs))) := fun u => rfl
  have HBB : Hid (∀ u, bakB l h u = decide ((opA l u).op ≠ 18 ∨ (opA l u).a ≠ (opA l h).a)) := fun u => rfl
  have HCH : Hid ((opA l h).op ≠ 17 → cntZ l h bs ms = some (71, h)) := cnt_head
  have HCB : Hid (∀ u, (opA l h).op = 17 → bs.find? (bakB l h) = some u → cntZ l h bs ms = some (72, u)) := fun u => cnt_back
  have HCD : Hid (∀ u, (opA l h).op = 17 → bs.find? (bakB l h) = none → ms.find? (drvB l h bs) = some u → cntZ l h bs ms = some (73, u)) := fun u => cnt_drive
  have HCE : Hid ((opA l h).op = 17 → bs.find? (bakB l h) = none → ms.find? (drvB l h bs) = none → cntZ l h bs ms = if hasI ms (opA l h).n = true then some (74, h) else none) := cnt_exit
  clear hi hok hms hbs hM hB hS hsm ht hh
  generalize opA l h = hd at *
  generalize cntZ l h bs ms = R at *
  generalize drvB l h bs = dv at *
  generalize bakB l h = bv at *
  by_cases hop : hd.op = 17
  case neg =>
    have HE := Hid.mk' (HCH.out hop)
    have hq : (hd.op != 17) = true := bne_of hop
    clear hop
    go_enter Tryd.func24, Tryd.ntmps24
    go_wp2_with fail
    go_quiet (fail)
    go_wp2_with fail
    exact bodyPost_ret (v := .tuple #[.int .i64 71, .int .i64 (h : Int)]) (by simp [results, Tryd.results24, go_sem]) rfl ⟨by rw [HE.out]; rfl, HB2.out.drewN _⟩
  have HOP := Hid.mk' hop
  have hq : (hd.op != 17) = false := bne_no hop
  clear hop
  go_enter Tryd.func24, Tryd.ntmps24
  go_wp2_with fail
  generalize (w.alloc (.cells #[.int .i64 (h : Int), .int .i64 par, .slice ma ms.length mc, .slice ba bs.length bc] 40)).alloc (.cells #[.int .i64 hd.op, .int .i64 hd.a, .int .i64 hd.b, .int .i64 hd.c, .int .i64 hd.n] 52) = W2 at *
  clear z0 z1 z2 z3 x0 x1 x2 x3 x4 y0 e0 e1 e2 e3 e4
  go_loopw [26] (fun t26 wr => ∃ j : Nat, j ≤ bs.length ∧ t26 = .int .i64 (j : Int) ∧ (bs.take j).find? bv = none ∧ Below (w.heap.size + 1 + 1) W2 wr) (fun t26 _ => bs.length - (intOf t26).toNat)
  case atStart => exact ⟨0, Nat.zero_le _, rfl, rfl, HR2.out⟩
  case round =>
    obtain ⟨j, hj, rfl, hn, hb⟩ := hrel
    have HN := Hid.mk' hn
    have HBR := Hid.mk' hb
    obtain ⟨⟨z0, z1, z2, z3⟩, ⟨x0, x1, x2, x3, x4⟩, hbw⟩ := HW2.out _ hb
    clear hn hb HR2
    by_cases hlt : j < bs.length
    · obtain ⟨u, hu⟩ : ∃ u, bs[j]? = some u := ⟨_, List.getElem?_eq_getElem hlt⟩
      obtain ⟨b3, o3, rfl, c0⟩ := lst_n (HBK.out.stay hbw) hlt
      rw [show bs[j] = u from (List.getElem?_eq_some_iff.1 hu).2] at c0
      have hul := HBS.out u (List.mem_of_getElem? hu)
      have hui : (u : Int) < (l.length : Int) := by omega
      have hji : (j : Int) < (bs.length : Int) := by omega
      obtain ⟨b4, o4, e5, d0, d1, d2, d3, d4⟩ := iss_op (HI.out.stay hbw) hul
      cases e5
      have HNO := Hid.mk' (fun hp => find_no HN.out hu (hp : bv u = false))
      have HYS := Hid.mk' (fun hp => find_yes HN.out hu (hp : bv u = true))
      have HBU := Hid.mk' (HBB.out u)
      generalize opA l u = x at *
      clear hbw hu hul d2 d3 d4 x0 x2 x3 x4 z0 z1 z2
      by_cases h18 : x.op = 18
      · have q1 : (x.op != 18) = false := bne_no h18
        by_cases ha : x.a = hd.a
        · have q2 : (x.a != hd.a) = false := bne_no ha
          have HNX := Hid.mk' (HNO.out (by rw [HBU.out]; simp [h18, ha]))
          clear h18 ha HNO HYS
          go_wp2_with fail
          go_quiet (fail)
          go_wp2_with fail
          go_roundw
          case rel => exact ⟨j + 1, hlt, by go_num, HNX.out, HBR.out.drewN _⟩
          case measure => simp [intOf]; omega
        · have q2 : (x.a != hd.a) = true := bne_of ha
          have HE := Hid.mk' (HCB.out u HOP.out (HYS.out (by rw [HBU.out]; simp [ha])))
          clear h18 ha HNO HYS
          go_wp2_with fail
          go_quiet (fail)
          go_wp2_with fail
          exact bodyPost_ret (v := .tuple #[.int .i64 72, .int .i64 (u : Int)]) (by simp [results, Tryd.results24, go_sem]) rfl ⟨by rw [HE.out]; rfl, (HW2.out _ HBR.out).2.2.drewN _⟩
      · have q1 : (x.op != 18) = true := bne_of h18
        have HE := Hid.mk' (HCB.out u HOP.out (HYS.out (by rw [HBU.out]; simp [h18])))
        clear h18 HNO HYS
        go_wp2_with fail
        go_quiet (fail)
        go_wp2_with fail
        exact bodyPost_ret (v := .tuple #[.int .i64 72, .int .i64 (u : Int)]) (by simp [results, Tryd.results24, go_sem]) rfl ⟨by rw [HE.out]; rfl, (HW2.out _ HBR.out).2.2.drewN _⟩
    · have HFB := Hid.mk' (find_all HN.out (by omega))
      obtain ⟨Wo, hWo⟩ : ∃ Wo, Wo = wr := ⟨_, rfl⟩
      subst hWo
      go_wp2_with fail
      clear z0 z1 z2 z3 x0 x1 x2 x3 x4 hbw hlt hj HN
      go_loopw [51] (fun t51 wr => ∃ j : Nat, j ≤ ms.length ∧ t51 = .int .i64 (j : Int) ∧ (ms.take j).find? dv = none ∧ Below (w.heap.size + 1 + 1) W2 wr) (fun t51 _ => ms.length - (intOf t51).toNat)
      case atStart => exact ⟨0, Nat.zero_le _, rfl, rfl, HBR.out⟩
      case round =>
        clear HBR
        obtain ⟨j, hj, rfl, hn, hb⟩ := hrel
        have HN := Hid.mk' hn
        have HBR := Hid.mk' hb
        obtain ⟨⟨z0, z1, z2, z3⟩, ⟨x0, x1, x2, x3, x4⟩, hbw⟩ := HW2.out _ hb
        have HBW := Hid.mk' hbw
        clear hn hb hbw
        by_cases hlt : j < ms.length
        · obtain ⟨u, hu⟩ : ∃ u, ms[j]? = some u := ⟨_, List.getElem?_eq_getElem hlt⟩
          obtain ⟨b3, o3, rfl, c0⟩ := lst_n (HM.out.stay HBW.out) hlt
          rw [show ms[j] = u from (List.getElem?_eq_some_iff.1 hu).2] at c0
          have hul := HMS.out u (List.mem_of_getElem? hu)
          have hui : (u : Int) < (l.length : Int) := by omega
          have hji : (j : Int) < (ms.length : Int) := by omega
          obtain ⟨b4, o4, e5, d0, d1, d2, d3, d4⟩ := iss_op (HI.out.stay HBW.out) hul
          cases e5
          have HNO := Hid.mk' (fun hp => find_no HN.out hu (hp : dv u = false))
          have HYS := Hid.mk' (fun hp => find_yes HN.out hu (hp : dv u = true))
          have HDU := Hid.mk' (HDR.out u)
          have HCC : Hid (∀ W, Below wr.heap.size wr W → Calls Tryd.prog 32 #[.slice ba bs.length bc, .int .i64 (u : Int)] W fun e w' => e = .returned (.bool (decide (u ∈ bs))) ∧ w' = W) := fun W hW => contains_any bs u ba bc W ((HBK.out.stay HBW.out).stay hW) (by omega)
          have HDV : Hid (∀ W, Below wr.heap.size wr W → Calls Tryd.prog 42 #[.agg #[.int .i64 (opA l u).op, .int .i64 (opA l u).a, .int .i64 (opA l u).b, .int .i64 (opA l u).c, .int .i64 (opA l u).n], .agg #[.int .i64 hd.op, .int .i64 hd.a, .int .i64 hd.b, .int .i64 hd.c, .int .i64 hd.n], .bool (decide (u ∈ bs))] W fun e w' => e = .returned (.bool (dv u)) ∧ Below W.heap.size W w') := fun W hW => by
            rw [HDU.out]
            exact ldrives_any (opA l u) hd (decide (u ∈ bs)) W ((HT.out.stay HBW.out).stay hW)
          generalize opA l u = x at *
          generalize decide (u ∈ bs) = bk at *
          generalize dv u = du at *
          clear hu hul
          go_upto_region 13 with fail
          have p0 : ∀ w', Below wr.heap.size wr w' → w'.cell? _ = some _ := fun w' h => cell_kept_below d0 h
          have p1 : ∀ w', Below wr.heap.size wr w' → w'.cell? _ = some _ := fun w' h => cell_kept_below d1 h
          have p2 : ∀ w', Below wr.heap.size wr w' → w'.cell? _ = some _ := fun w' h => cell_kept_below d2 h
          have p3 : ∀ w', Below wr.heap.size wr w' → w'.cell? _ = some _ := fun w' h => cell_kept_below d3 h
          have p4 : ∀ w', Below wr.heap.size wr w' → w'.cell? _ = some _ := fun w' h => cell_kept_below d4 h
          have r0 : ∀ w', Below wr.heap.size wr w' → w'.cell? _ = some _ := fun w' h => cell_kept_below x0 h
          have r1 : ∀ w', Below wr.heap.size wr w' → w'.cell? _ = some _ := fun w' h => cell_kept_below x1 h
          have r2 : ∀ w', Below wr.heap.size wr w' → w'.cell? _ = some _ := fun w' h => cell_kept_below x2 h
          have r3 : ∀ w', Below wr.heap.size wr w' → w'.cell? _ = some _ := fun w' h => cell_kept_below x3 h
          have r4 : ∀ w', Below wr.heap.size wr w' → w'.cell? _ = some _ := fun w' h => cell_kept_below x4 h
          have s3 : ∀ w', Below wr.heap.size wr w' → w'.cell? _ = some _ := fun w' h => cell_kept_below z3 h
          clear d0 d1 d2 d3 d4 x0 x1 x2 x3 x4 z0 z1 z2 z3 c0
          go_region_held3 (fun w' => Below wr.heap.size wr w') (first | exact Below.drew (Below.refl _ _) | exact Below.on (by assumption) (by assumption) | exact Below.one (by assumption) _)
            (first
              | (go_at_call 32; refine (HCC.out _ (by assumption)).mono ?_; rintro e w' ⟨rfl, rfl⟩)
              | (go_at_call 42; refine (HDV.out _ (by assumption)).mono ?_; rintro e w' ⟨rfl, hb⟩))
          have hB : Below wr.heap.size wr w' := by assumption
          have HB3 : Hid (Below (w.heap.size + 1 + 1) W2 w') := HBR.out.trans (hB.mono (Nat.le_trans HSZ2.out HBR.out.size))
          cases du
          · have HNX := Hid.mk' (HNO.out rfl)
            go_wp2_with fail
            go_roundw
            case rel => exact ⟨j + 1, hlt, by go_num, HNX.out, HB3.out⟩
            case measure => simp [intOf]; omega
          · have HE := Hid.mk' (HCD.out u HOP.out HFB.out (HYS.out rfl))
            go_wp2_with fail
            exact bodyPost_ret (v := .tuple #[.int .i64 73, .int .i64 (u : Int)]) (by simp [results, Tryd.results24, go_sem]) rfl ⟨by rw [HE.out]; rfl, (HW2.out _ HB3.out).2.2⟩
        · have HFM := Hid.mk' (HCE.out HOP.out HFB.out (find_all HN.out (by omega)))
          have HTG := Hid.mk' (ltarget_any b s hd.n wr (HS.out.stay HBW.out) HOK.out)
          rw [HSM.out] at HTG
          cases hq2 : hasI ms hd.n
          · rw [hq2] at HTG HFM
            clear hq2
            go_wp2_with (go_at_call 43; refine HTG.out.mono ?_; rintro e w3 ⟨rfl, hb3⟩; have HB3 := Hid.mk' (Below.on HBW.out hb3); clear hb3)
            exact bodyPost_ret (v := .tuple #[.int .i64 0, .int .i64 0]) (by simp [results, Tryd.results24, go_sem]) rfl ⟨by rw [HFM.out]; rfl, HB3.out⟩
          · rw [hq2] at HTG HFM
            clear hq2
            go_wp2_with (go_at_call 43; refine HTG.out.mono ?_; rintro e w3 ⟨rfl, hb3⟩; have HB3 := Hid.mk' (Below.on HBW.out hb3); have HB4 := Hid.mk' (HBR.out.trans (hb3.mono (Nat.le_trans HSZ2.out HBR.out.size))); obtain ⟨⟨v0, v1, v2, v3⟩, _⟩ := HW2.out _ HB4.out; clear hb3)
            go_quiet (fail)
            go_wp2_with fail
            exact bodyPost_ret (v := .tuple #[.int .i64 74, .int .i64 (h : Int)]) (by simp [results, Tryd.results24, go_sem]) rfl ⟨by rw [HFM.out]; rfl, HB3.out.drewN _⟩
end Go.Proofs.YtgiokognngllcaaDoor
