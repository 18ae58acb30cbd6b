/- ref14.counts. -/
import Derived.Test.YtgiokognngllcaaDoorWj
import Derived.Test.YtgiokognngllcaaDoorGgak
import Derived.Test.YtgiokognngllcaaDoorGgaa
import Derived.Deep.QuietTactic
import Derived.BigQuiet
namespace Go.Proofs.YtgiokognngllcaaDoor
open Go.RowKit Go.Sort

/-- What lies in memory: the function, the loop, the head's instruction. -/
structure CtI (w : World) (l : List Is) (fca ma ba : Option Addr) (fcc mc bc h : Nat) (ms bs : List Nat) (hd : Is) (W : World) : Prop where
  z4 : W.cell? ⟨w.heap.size, 4, none⟩ = some (.slice fca l.length fcc)
  y0 : W.cell? ⟨w.heap.size + 1, 0, none⟩ = some (.int .i64 (h : Int))
  y2 : W.cell? ⟨w.heap.size + 1, 2, none⟩ = some (.slice ma ms.length mc)
  y3 : W.cell? ⟨w.heap.size + 1, 3, none⟩ = some (.slice ba bs.length bc)
  x0 : W.cell? ⟨w.heap.size + 1 + 1, 0, none⟩ = some (.int .i64 hd.op)
  x1 : W.cell? ⟨w.heap.size + 1 + 1, 1, none⟩ = some (.int .i64 hd.a)
  x2 : W.cell? ⟨w.heap.size + 1 + 1, 2, none⟩ = some (.int .i64 hd.b)
  x4 : W.cell? ⟨w.heap.size + 1 + 1, 4, none⟩ = some (.int .i64 hd.n)
theorem CtI.stay {w : World} {l : List Is} {fca ma ba : Option Addr} {fcc mc bc h : Nat} {ms bs : List Nat} {hd : Is} {W W' : World} (h1 : CtI w l fca ma ba fcc mc bc h ms bs hd W) (hb : Below W.heap.size W W') : CtI w l fca ma ba fcc mc bc h ms bs hd W' :=
  ⟨cell_kept_below h1.z4 hb, cell_kept_below h1.y0 hb, cell_kept_below h1.y2 hb, cell_kept_below h1.y3 hb, cell_kept_below h1.x0 hb, cell_kept_below h1.x1 hb, cell_kept_below h1.x2 hb, cell_kept_below h1.x4 hb⟩
set_option maxRecDepth 100000 in
set_option maxHeartbeats 8000000 in
theorem rcounts_any (fn : ByteArray) (fpa : Option Addr) (fpc : Nat) (fps : List Sp) (frg fwd : Int) (fca : Option Addr) (fcc : Nat) (l : List Is) (h : Nat) (par : Int) (ms bs : List Nat) (ma ba : Option Addr) (mc bc : Nat) (w : World) (hi : Iss w fca l) (hn : l.length ≤ 1024) (hh : h < l.length) (hms : ∀ v ∈ ms, v < l.length) (hbs : ∀ u ∈ bs, u < l.length)
    (hml : ms.length ≤ 1024) (hbl : bs.length ≤ 1024) (hM : Lst w ma (ms.map nV)) (hB : Lst w ba (bs.map nV)) :
    Calls Tryd.prog 29 #[.agg #[.string fn, .slice fpa fps.length fpc, .int .i64 frg, .int .i64 fwd, .slice fca l.length fcc], .agg #[.int .i64 (h : Int), .int .i64 par, .slice ma ms.length mc, .slice ba bs.length bc]] w fun e w' => e = .returned (cntV (cntZ l h bs ms)) ∧ Below w.heap.size w w' := by
  have HI : Hid (∀ W, Below w.heap.size w W → ∀ v, v < l.length → ∃ b o, fca = some ⟨b, o, none⟩ ∧ W.cell? ⟨b, o + v * 5, none⟩ = some (.int .i64 (opA l v).op) ∧ W.cell? ⟨b, o + v * 5 + 1, none⟩ = some (.int .i64 (opA l v).a) ∧ W.cell? ⟨b, o + v * 5 + 2, none⟩ = some (.int .i64 (opA l v).b) ∧ W.cell? ⟨b, o + v * 5 + 3, none⟩ = some (.int .i64 (opA l v).c) ∧ W.cell? ⟨b, o + v * 5 + 4, none⟩ = some (.int .i64 (opA l v).n)) := fun W hb v hv => iss_op (hi.stay hb) hv
  have HMS := Hid.mk' hms
  have HBS := Hid.mk' hbs
  have HM := Hid.mk' hM
  have HBK := Hid.mk' hB
  have HB1 := Hid.mk' (Below.one (Below.one (Below.refl w.heap.size w) (.cells #[.string fn, .slice fpa fps.length fpc, .int .i64 frg, .int .i64 fwd, .slice fca l.length fcc] 25)) (.cells #[.int .i64 (h : Int), .int .i64 par, .slice ma ms.length mc, .slice ba bs.length bc] 40))
  have HX1 := Hid.mk' (heap_alloc_new w (.cells #[.string fn, .slice fpa fps.length fpc, .int .i64 frg, .int .i64 fwd, .slice fca l.length fcc] 25))
  have HX2 := Hid.mk' (heap_alloc_new (w.alloc (.cells #[.string fn, .slice fpa fps.length fpc, .int .i64 frg, .int .i64 fwd, .slice fca l.length fcc] 25)) (.cells #[.int .i64 (h : Int), .int .i64 par, .slice ma ms.length mc, .slice ba bs.length bc] 40))
  have HX3 := Hid.mk' (heap_alloc_new ((w.alloc (.cells #[.string fn, .slice fpa fps.length fpc, .int .i64 frg, .int .i64 fwd, .slice fca l.length fcc] 25)).alloc (.cells #[.int .i64 (h : Int), .int .i64 par, .slice ma ms.length mc, .slice ba bs.length bc] 40)) (.cells #[.int .i64 (opA l h).op, .int .i64 (opA l h).a, .int .i64 (opA l h).b, .int .i64 (opA l h).c, .int .i64 (opA l h).n] 52))
  rw [World.size_alloc] at HX2
  rw [World.size_alloc, World.size_alloc] at HX3
  have HB3 : Hid (Below w.heap.size w (((w.alloc (.cells #[.string fn, .slice fpa fps.length fpc, .int .i64 frg, .int .i64 fwd, .slice fca l.length fcc] 25)).alloc (.cells #[.int .i64 (h : Int), .int .i64 par, .slice ma ms.length mc, .slice ba bs.length bc] 40)).alloc (.cells #[.int .i64 (opA l h).op, .int .i64 (opA l h).a, .int .i64 (opA l h).b, .int .i64 (opA l h).c, .int .i64 (opA l h).n] 52))) := Below.one HB1.out _
  have HC3 : Hid (CtI w l fca ma ba fcc mc bc h ms bs (opA l h) (((w.alloc (.cells #[.string fn, .slice fpa fps.length fpc, .int .i64 frg, .int .i64 fwd, .slice fca l.length fcc] 25)).alloc (.cells #[.int .i64 (h : Int), .int .i64 par, .slice ma ms.length mc, .slice ba bs.length bc] 40)).alloc (.cells #[.int .i64 (opA l h).op, .int .i64 (opA l h).a, .int .i64 (opA l h).b, .int .i64 (opA l h).c, .int .i64 (opA l h).n] 52))) := by
    have b1 := Below.one (Below.one (Below.refl (w.alloc (.cells #[.string fn, .slice fpa fps.length fpc, .int .i64 frg, .int .i64 fwd, .slice fca l.length fcc] 25)).heap.size (w.alloc (.cells #[.string fn, .slice fpa fps.length fpc, .int .i64 frg, .int .i64 fwd, .slice fca l.length fcc] 25))) (.cells #[.int .i64 (h : Int), .int .i64 par, .slice ma ms.length mc, .slice ba bs.length bc] 40)) (.cells #[.int .i64 (opA l h).op, .int .i64 (opA l h).a, .int .i64 (opA l h).b, .int .i64 (opA l h).c, .int .i64 (opA l h).n] 52)
    have b2 := Below.one (Below.refl ((w.alloc (.cells #[.string fn, .slice fpa fps.length fpc, .int .i64 frg, .int .i64 fwd, .slice fca l.length fcc] 25)).alloc (.cells #[.int .i64 (h : Int), .int .i64 par, .slice ma ms.length mc, .slice ba bs.length bc] 40)).heap.size ((w.alloc (.cells #[.string fn, .slice fpa fps.length fpc, .int .i64 frg, .int .i64 fwd, .slice fca l.length fcc] 25)).alloc (.cells #[.int .i64 (h : Int), .int .i64 par, .slice ma ms.length mc, .slice ba bs.length bc] 40))) (.cells #[.int .i64 (opA l h).op, .int .i64 (opA l h).a, .int .i64 (opA l h).b, .int .i64 (opA l h).c, .int .i64 (opA l h).n] 52)
    have k1 := blk_stay HX1.out b1
    have k2 := blk_stay HX2.out b2
    exact ⟨cell_of_obj k1 rfl, cell_of_obj k2 rfl, cell_of_obj k2 rfl, cell_of_obj k2 rfl, cell_of_obj HX3.out rfl, cell_of_obj HX3.out rfl, cell_of_obj HX3.out rfl, cell_of_obj HX3.out rfl⟩
  have hhi : (h : Int) < (l.length : Int) := by omega
  obtain ⟨cb, co, rfl, e0, e1, e2, e3, e4⟩ := HI.out _ HB1.out h hh
  have y0 := cell_of_obj HX2.out (j := 0) (v := .int .i64 (h : Int)) rfl
  have z4 : ((w.alloc (.cells #[.string fn, .slice fpa fps.length fpc, .int .i64 frg, .int .i64 fwd, .slice (some ⟨cb, co, none⟩) l.length fcc] 25)).alloc (.cells #[.int .i64 (h : Int), .int .i64 par, .slice ma ms.length mc, .slice ba bs.length bc] 40)).cell? ⟨w.heap.size, 4, none⟩ = some (.slice (some ⟨cb, co, none⟩) l.length fcc) := cell_of_obj (blk_stay HX1.out (Below.one (Below.refl _ _) _)) rfl
  have HDR : Hid (∀ u, drvB l h bs u = (decide (0 ≤ wrN (opA l u)) && (decide (wrN (opA l u) = (opA l h).b) || decide (wrN (opA l u) = (opA l h).a) && !decide (u ∈ bs)))) := fun u => rfl
  have HBB : Hid (∀ u, bakB l h u = decide ((opA l u).op ≠ 18 ∨ (opA l u).a ≠ (opA l h).a)) := fun u => rfl
  have HCH : Hid ((opA l h).op ≠ 17 → cntZ l h bs ms = some (71, h)) := cnt_head
  have HCB : Hid (∀ u, (opA l h).op = 17 → bs.find? (bakB l h) = some u → cntZ l h bs ms = some (72, u)) := fun u => cnt_back
  have HCD : Hid (∀ u, (opA l h).op = 17 → bs.find? (bakB l h) = none → ms.find? (drvB l h bs) = some u → cntZ l h bs ms = some (73, u)) := fun u => cnt_drive
  have HCE : Hid ((opA l h).op = 17 → bs.find? (bakB l h) = none → ms.find? (drvB l h bs) = none → cntZ l h bs ms = if hasI ms (opA l h).n = true then some (74, h) else none) := cnt_exit
  have HNN := Hid.mk' hn
  clear hi hms hbs hM hB hh hn HX1 HX2 HX3
  generalize opA l h = hd at *
  generalize cntZ l h bs ms = R at *
  generalize drvB l h bs = dv at *
  generalize bakB l h = bv at *
  by_cases hop : hd.op = 17
  case neg =>
    have HE := Hid.mk' (HCH.out hop)
    have hq : (hd.op != 17) = true := bne_of hop
    have HBT : Hid (∀ n, Below w.heap.size w (World.drewN (((w.alloc (.cells #[.string fn, .slice fpa fps.length fpc, .int .i64 frg, .int .i64 fwd, .slice (some ⟨cb, co, none⟩) l.length fcc] 25)).alloc (.cells #[.int .i64 (h : Int), .int .i64 par, .slice ma ms.length mc, .slice ba bs.length bc] 40)).alloc (.cells #[.int .i64 hd.op, .int .i64 hd.a, .int .i64 hd.b, .int .i64 hd.c, .int .i64 hd.n] 52)) n)) := fun n => Below.drewN HB3.out n
    clear hop
    go_enter Tryd.func29, Tryd.ntmps29
    go_wp2_with fail
    go_quiet (fail)
    go_wp2_with fail
    exact bodyPost_ret (v := .tuple #[.int .i64 71, .int .i64 (h : Int)]) (by simp [results, Tryd.results29, go_sem]) rfl ⟨by rw [HE.out]; rfl, HBT.out _⟩
  have HOP := Hid.mk' hop
  have hq : (hd.op != 17) = false := bne_no hop
  clear hop
  have hmk : ∀ W, _ := fun W => run_mkB W l.length (by have := HNN.out; omega)
  go_enter Tryd.func29, Tryd.ntmps29
  go_upto_region 4 with fail
  generalize ((w.alloc (.cells #[.string fn, .slice fpa fps.length fpc, .int .i64 frg, .int .i64 fwd, .slice (some ⟨cb, co, none⟩) l.length fcc] 25)).alloc (.cells #[.int .i64 (h : Int), .int .i64 par, .slice ma ms.length mc, .slice ba bs.length bc] 40)).alloc (.cells #[.int .i64 hd.op, .int .i64 hd.a, .int .i64 hd.b, .int .i64 hd.c, .int .i64 hd.n] 52) = W3 at *
  clear z4
  have z4 := HC3.out.z4
  have HOB0 : Hid (Ob W3.heap.size (bgsV l.length (bs.take 0)) (.slice (some ⟨W3.heap.size, 0, none⟩) l.length l.length) (W3.alloc (.cells (mkB l.length) 4))) := by
    have := own_mkB W3 l.length (by have := HNN.out; omega)
    rwa [List.take_zero, bgsV_nil]
  have HBR0 := Hid.mk' (Below.one (Below.refl W3.heap.size W3) (.cells (mkB l.length) 4))
  clear e0 e1 e2 e3 e4 y0
  go_wp2_with fail
  clear hmk z4
  go_loopw [8] (fun t8 wr => ∃ j : Nat, j ≤ bs.length ∧ t8 = .int .i64 (j : Int) ∧ (bs.take j).find? bv = none ∧ Ob W3.heap.size (bgsV l.length (bs.take j)) (.slice (some ⟨W3.heap.size, 0, none⟩) l.length l.length) wr ∧ Below W3.heap.size W3 wr) (fun t8 _ => bs.length - (intOf t8).toNat)
  case atStart => exact ⟨0, Nat.zero_le _, rfl, rfl, HOB0.out, HBR0.out⟩
  case round =>
    clear HOB0 HBR0
    obtain ⟨j, hj, rfl, hn, hob, hb⟩ := hrel
    have HN := Hid.mk' hn
    have HOB := Hid.mk' hob
    have HBR := Hid.mk' hb
    have HCT := Hid.mk' (HC3.out.stay hb)
    have HBW : Hid (Below w.heap.size w wr) := Below.on HB3.out hb
    obtain ⟨z4, y0, y2, y3, x0, x1, x2, x4⟩ := HCT.out
    have hnn := HNN.out
    clear hn hb hob
    by_cases hlt : j < bs.length
    · obtain ⟨u, hu2⟩ : ∃ u, bs[j]? = some u := ⟨_, List.getElem?_eq_getElem hlt⟩
      obtain ⟨b3, o3, rfl, c0⟩ := lst_n (HBK.out.stay HBW.out) hlt
      rw [show bs[j] = u from (List.getElem?_eq_some_iff.1 hu2).2] at c0
      have hul := HBS.out u (List.mem_of_getElem? hu2)
      have hui : (u : Int) < (l.length : Int) := by omega
      have hji : (j : Int) < (bs.length : Int) := by omega
      obtain ⟨b4, o4, e5, d0, d1, d2, d3, d4⟩ := HI.out wr HBW.out u hul
      cases e5
      have HNO := Hid.mk' (fun hp => find_no HN.out hu2 (hp : bv u = false))
      have HYS := Hid.mk' (fun hp => find_yes HN.out hu2 (hp : bv u = true))
      have HBU := Hid.mk' (HBB.out u)
      have HUL := Hid.mk' hul
      have HT : Hid (bs.take (j + 1) = bs.take j ++ [u]) := by
        obtain ⟨h1, h2⟩ := List.getElem?_eq_some_iff.1 hu2
        show _ = _
        rw [List.take_succ_eq_append_getElem h1, h2]
      generalize opA l u = x at *
      clear hu2 hul
      have g0 := z4
      have g1 := y3
      have g2 := c0
      have g3 := d0
      have g4 := d1
      have g5 := d2
      have g6 := d3
      have g7 := d4
      have HS0 : Hid (Below wr.heap.size wr wr.drew) := Below.drew (Below.refl _ _)
      go_upto_region 8 with fail
      refine wp_region_K (fun w' => Below wr.heap.size wr w') 10 (by kernel_rfl) ?_
      simp only [List.size_toArray, List.length_cons, List.length_nil, Nat.reduceAdd]
      refine wpAnyK_takeL (i := 0) (v := ?tv8x0) rfl (by kernel_rfl) (by kernel_rfl) (by kernel_rfl) (by kernel_rfl) (fun _ _ _ h => h) (by rfl) ?ty8x0 HS0.out ?tr8x0
      case ty8x0 => (intro w' hSw; have v0 := cell_kept_below g0 hSw; have v1 := cell_kept_below g1 hSw; have v2 := cell_kept_below g2 hSw; have v3 := cell_kept_below g3 hSw; have v4 := cell_kept_below g4 hSw; have v5 := cell_kept_below g5 hSw; have v6 := cell_kept_below g6 hSw; have v7 := cell_kept_below g7 hSw; go_simp; try with_reducible rfl)
      simp only [Act.put, List.setIfInBounds_toArray, List.set_cons_zero, List.set_cons_succ]
      refine wpAnyK_takeL (i := 1) (v := ?tv8x1) rfl (by kernel_rfl) (by kernel_rfl) (by kernel_rfl) (by kernel_rfl) (fun _ _ _ h => h) (by rfl) ?ty8x1 HS0.out ?tr8x1
      case ty8x1 => (intro w' hSw; have v0 := cell_kept_below g0 hSw; have v1 := cell_kept_below g1 hSw; have v2 := cell_kept_below g2 hSw; have v3 := cell_kept_below g3 hSw; have v4 := cell_kept_below g4 hSw; have v5 := cell_kept_below g5 hSw; have v6 := cell_kept_below g6 hSw; have v7 := cell_kept_below g7 hSw; go_simp; try with_reducible rfl)
      simp only [Act.put, List.setIfInBounds_toArray, List.set_cons_zero, List.set_cons_succ]
      refine wpAnyK_takeL (i := 2) (v := ?tv8x2) rfl (by kernel_rfl) (by kernel_rfl) (by kernel_rfl) (by kernel_rfl) (fun _ _ _ h => h) (by rfl) ?ty8x2 HS0.out ?tr8x2
      case ty8x2 => (intro w' hSw; have v0 := cell_kept_below g0 hSw; have v1 := cell_kept_below g1 hSw; have v2 := cell_kept_below g2 hSw; have v3 := cell_kept_below g3 hSw; have v4 := cell_kept_below g4 hSw; have v5 := cell_kept_below g5 hSw; have v6 := cell_kept_below g6 hSw; have v7 := cell_kept_below g7 hSw; go_simp; try with_reducible rfl)
      simp only [Act.put, List.setIfInBounds_toArray, List.set_cons_zero, List.set_cons_succ]
      refine wpAnyK_takeL (i := 3) (v := ?tv8x3) rfl (by kernel_rfl) (by kernel_rfl) (by kernel_rfl) (by kernel_rfl) (fun _ _ _ h => h) (by rfl) ?ty8x3 HS0.out ?tr8x3
      case ty8x3 => (intro w' hSw; have v0 := cell_kept_below g0 hSw; have v1 := cell_kept_below g1 hSw; have v2 := cell_kept_below g2 hSw; have v3 := cell_kept_below g3 hSw; have v4 := cell_kept_below g4 hSw; have v5 := cell_kept_below g5 hSw; have v6 := cell_kept_below g6 hSw; have v7 := cell_kept_below g7 hSw; go_simp; try with_reducible rfl)
      simp only [Act.put, List.setIfInBounds_toArray, List.set_cons_zero, List.set_cons_succ]
      refine wpAnyK_takeL (i := 4) (v := ?tv8x4) rfl (by kernel_rfl) (by kernel_rfl) (by kernel_rfl) (by kernel_rfl) (fun _ _ _ h => h) (by rfl) ?ty8x4 HS0.out ?tr8x4
      case ty8x4 => (intro w' hSw; have v0 := cell_kept_below g0 hSw; have v1 := cell_kept_below g1 hSw; have v2 := cell_kept_below g2 hSw; have v3 := cell_kept_below g3 hSw; have v4 := cell_kept_below g4 hSw; have v5 := cell_kept_below g5 hSw; have v6 := cell_kept_below g6 hSw; have v7 := cell_kept_below g7 hSw; go_simp; try with_reducible rfl)
      simp only [Act.put, List.setIfInBounds_toArray, List.set_cons_zero, List.set_cons_succ]
      refine wpAnyK_takeL (i := 5) (v := ?tv8x5) rfl (by kernel_rfl) (by kernel_rfl) (by kernel_rfl) (by kernel_rfl) (fun _ _ _ h => h) (by rfl) ?ty8x5 HS0.out ?tr8x5
      case ty8x5 => (intro w' hSw; have v0 := cell_kept_below g0 hSw; have v1 := cell_kept_below g1 hSw; have v2 := cell_kept_below g2 hSw; have v3 := cell_kept_below g3 hSw; have v4 := cell_kept_below g4 hSw; have v5 := cell_kept_below g5 hSw; have v6 := cell_kept_below g6 hSw; have v7 := cell_kept_below g7 hSw; go_simp; try with_reducible rfl)
      simp only [Act.put, List.setIfInBounds_toArray, List.set_cons_zero, List.set_cons_succ]
      refine wpAnyK_takeL (i := 6) (v := ?tv8x6) rfl (by kernel_rfl) (by kernel_rfl) (by kernel_rfl) (by kernel_rfl) (fun _ _ _ h => h) (by rfl) ?ty8x6 HS0.out ?tr8x6
      case ty8x6 => (intro w' hSw; have v0 := cell_kept_below g0 hSw; have v1 := cell_kept_below g1 hSw; have v2 := cell_kept_below g2 hSw; have v3 := cell_kept_below g3 hSw; have v4 := cell_kept_below g4 hSw; have v5 := cell_kept_below g5 hSw; have v6 := cell_kept_below g6 hSw; have v7 := cell_kept_below g7 hSw; go_simp; try with_reducible rfl)
      simp only [Act.put, List.setIfInBounds_toArray, List.set_cons_zero, List.set_cons_succ]
      refine wpAnyK_takeL (i := 7) (v := ?tv8x7) rfl (by kernel_rfl) (by kernel_rfl) (by kernel_rfl) (by kernel_rfl) (fun _ _ _ h => h) (by rfl) ?ty8x7 HS0.out ?tr8x7
      case ty8x7 => (intro w' hSw; have v0 := cell_kept_below g0 hSw; have v1 := cell_kept_below g1 hSw; have v2 := cell_kept_below g2 hSw; have v3 := cell_kept_below g3 hSw; have v4 := cell_kept_below g4 hSw; have v5 := cell_kept_below g5 hSw; have v6 := cell_kept_below g6 hSw; have v7 := cell_kept_below g7 hSw; go_simp; try with_reducible rfl)
      simp only [Act.put, List.setIfInBounds_toArray, List.set_cons_zero, List.set_cons_succ]
      refine wpAnyK_takeL (i := 8) (v := ?tv8x8) rfl (by kernel_rfl) (by kernel_rfl) (by kernel_rfl) (by kernel_rfl) (fun _ _ _ h => h) (by rfl) ?ty8x8 HS0.out ?tr8x8
      case ty8x8 => (intro w' hSw; have v0 := cell_kept_below g0 hSw; have v1 := cell_kept_below g1 hSw; have v2 := cell_kept_below g2 hSw; have v3 := cell_kept_below g3 hSw; have v4 := cell_kept_below g4 hSw; have v5 := cell_kept_below g5 hSw; have v6 := cell_kept_below g6 hSw; have v7 := cell_kept_below g7 hSw; go_simp; try with_reducible rfl)
      simp only [Act.put, List.setIfInBounds_toArray, List.set_cons_zero, List.set_cons_succ]
      refine wpAnyK_one (i := 9) (by kernel_rfl) rfl (fun K hK => ?_)
      go_simp
      refine hK.out _ _ (fun _ => Below.one HS0.out _) ?_
      clear hK K
      refine wpAnyK_one (i := 10) (by kernel_rfl) rfl (fun K hK => ?_)
      go_simp
      refine hK.out _ _ (fun h => absurd rfl h) ?_
      clear hK K
      refine wpAnyK_done (by kernel_rfl) ?_ _
      obtain ⟨Wn, hWn⟩ : ∃ Wn, Wn = (wr.alloc (.cells #[.int .i64 x.op, .int .i64 x.a, .int .i64 x.b, .int .i64 x.c, .int .i64 x.n] 52)).drew := ⟨_, rfl⟩
      have hbn : Below wr.heap.size wr Wn := by rw [hWn]; exact Below.drew (Below.one (Below.refl _ _) _)
      have hxn : Wn.heap[wr.heap.size]? = some (.cells #[.int .i64 x.op, .int .i64 x.a, .int .i64 x.b, .int .i64 x.c, .int .i64 x.n] 52) := by rw [hWn]; exact heap_alloc_new wr _
      rw [← hWn]
      clear hWn
      have n0 := cell_of_obj hxn (j := 0) (v := .int .i64 x.op) rfl
      have n1 := cell_of_obj hxn (j := 1) (v := .int .i64 x.a) rfl
      have n2 := cell_of_obj hxn (j := 2) (v := .int .i64 x.b) rfl
      have n3 := cell_of_obj hxn (j := 3) (v := .int .i64 x.c) rfl
      have n4 := cell_of_obj hxn (j := 4) (v := .int .i64 x.n) rfl
      have HBN : Hid (Below W3.heap.size W3 Wn) := Below.on HBR.out hbn
      have HBT : Hid (Below w.heap.size w Wn) := Below.on HBW.out hbn
      have k0 := cell_kept_below c0 hbn
      have m0 := cell_kept_below z4 hbn
      have m1 := cell_kept_below y3 hbn
      have m2 := cell_kept_below x1 hbn
      have m3 := cell_kept_below y2 hbn
      have m4 := cell_kept_below x2 hbn
      have hob := own_stay HOB.out hbn
      clear hxn hbn g0 g1 g2 g3 g4 g5 g6 g7 c0 d0 d1 d2 d3 d4 z4 y0 y2 y3 x0 x1 x2 x4 n2 n3 n4 m0 m3 m4 HS0 HOB HBR HBW HCT
      by_cases h18 : x.op = 18
      · have q1 : (x.op != 18) = false := bne_no h18
        by_cases ha : x.a = hd.a
        · have q2 : (x.a != hd.a) = false := bne_no ha
          have HNX := Hid.mk' (HNO.out (by rw [HBU.out]; simp [h18, ha]))
          obtain ⟨g9, e9, r0, k1, k2⟩ := ob_at hob (bgsV_at (bs.take j) HUL.out)
          cases e9
          clear k1 k2
          generalize decide (u ∈ bs.take j) = ob at *
          have f9 : Wn.frozen? ⟨W3.heap.size, u, none⟩ = false := by
            obtain ⟨cur, hcu, _⟩ := own_blk hob
            exact Lib.frozen_of_heap hcu _
          have HPO : Hid (Ob W3.heap.size (bgsV l.length (bs.take (j + 1))) (.slice (some ⟨W3.heap.size, 0, none⟩) l.length l.length) (Wn.setCell ⟨W3.heap.size, u, none⟩ (.bool true))) := by
            rw [HT.out, bgsV_snoc]
            exact ob_put hob u true
          have HPB : Hid (Below W3.heap.size W3 (Wn.setCell ⟨W3.heap.size, u, none⟩ (.bool true))) := HBN.out.setCell (Nat.le_refl _) _
          clear h18 ha HNO HYS hob
          go_wp2_with fail
          go_roundw
          case rel => exact ⟨j + 1, hlt, by go_num, HNX.out, HPO.out, HPB.out⟩
          case measure => simp [intOf]; omega
        · have q2 : (x.a != hd.a) = true := bne_of ha
          have HE := Hid.mk' (HCB.out u HOP.out (HYS.out (by rw [HBU.out]; simp [ha])))
          clear h18 ha HNO HYS hob
          go_wp2_with fail
          go_quiet (fail)
          go_wp2_with fail
          exact bodyPost_ret (v := .tuple #[.int .i64 72, .int .i64 (u : Int)]) (by simp [results, Tryd.results29, go_sem]) rfl ⟨by rw [HE.out]; rfl, HBT.out.drewN _⟩
      · have q1 : (x.op != 18) = true := bne_of h18
        have HE := Hid.mk' (HCB.out u HOP.out (HYS.out (by rw [HBU.out]; simp [h18])))
        clear h18 HNO HYS hob
        go_wp2_with fail
        go_quiet (fail)
        go_wp2_with fail
        exact bodyPost_ret (v := .tuple #[.int .i64 72, .int .i64 (u : Int)]) (by simp [results, Tryd.results29, go_sem]) rfl ⟨by rw [HE.out]; rfl, HBT.out.drewN _⟩
    · have HFB := Hid.mk' (find_all HN.out (by omega))
      have HOBF : Hid (Ob W3.heap.size (bgsV l.length bs) (.slice (some ⟨W3.heap.size, 0, none⟩) l.length l.length) wr) := by
        have := HOB.out
        rwa [List.take_of_length_le (by omega)] at this
      obtain ⟨Wo, hWo⟩ : ∃ Wo, Wo = wr := ⟨_, rfl⟩
      subst hWo
      have HCO := Hid.mk' HCT.out
      have HBO := Hid.mk' HBW.out
      have HRR := Hid.mk' (Below.refl Wo.heap.size Wo)
      have hji : ¬ (j : Int) < (bs.length : Int) := by omega
      go_wp2_with fail
      clear z4 y0 y2 y3 x0 x1 x2 x4 hlt hj hji HN HOB HBR HCT HBW
      go_loopw [10] (fun t10 wr => ∃ j : Nat, j ≤ ms.length ∧ t10 = .int .i64 (j : Int) ∧ (ms.take j).find? dv = none ∧ Below Wo.heap.size Wo wr) (fun t10 _ => ms.length - (intOf t10).toNat)
      case atStart => exact ⟨0, Nat.zero_le _, rfl, rfl, HRR.out⟩
      case round =>
        clear HRR
        obtain ⟨j, hj, rfl, hn, hb⟩ := hrel
        have HN := Hid.mk' hn
        have HBR := Hid.mk' hb
        have HCT := Hid.mk' (HCO.out.stay hb)
        have HBW : Hid (Below w.heap.size w wr) := Below.on HBO.out hb
        obtain ⟨z4, y0, y2, y3, x0, x1, x2, x4⟩ := HCT.out
        have hnn := HNN.out
        clear hn hb
        by_cases hlt : j < ms.length
        · obtain ⟨u, hu2⟩ : ∃ u, ms[j]? = some u := ⟨_, List.getElem?_eq_getElem hlt⟩
          obtain ⟨b3, o3, rfl, c0⟩ := lst_n (HM.out.stay HBW.out) hlt
          rw [show ms[j] = u from (List.getElem?_eq_some_iff.1 hu2).2] at c0
          have hul := HMS.out u (List.mem_of_getElem? hu2)
          have hui : (u : Int) < (l.length : Int) := by omega
          have hji : (j : Int) < (ms.length : Int) := by omega
          obtain ⟨b4, o4, e5, d0, d1, d2, d3, d4⟩ := HI.out wr HBW.out u hul
          cases e5
          have HNO := Hid.mk' (fun hp => find_no HN.out hu2 (hp : dv u = false))
          have HYS := Hid.mk' (fun hp => find_yes HN.out hu2 (hp : dv u = true))
          have HDU := Hid.mk' (HDR.out u)
          have HUL := Hid.mk' hul
          have hwr := fun W => rwrites_any (opA l u) W
          unfold Is.val at hwr
          generalize wrN (opA l u) = wz at *
          generalize opA l u = x at *
          generalize hbk : decide (u ∈ bs) = bk at *
          clear hu2 hul
          have g0 := z4
          have g1 := y2
          have g2 := c0
          have g3 := d0
          have g4 := d1
          have g5 := d2
          have g6 := d3
          have g7 := d4
          have HS0 : Hid (Below wr.heap.size wr wr.drew) := Below.drew (Below.refl _ _)
          go_upto_region 15 with fail
          refine wp_region_K (fun w' => Below wr.heap.size wr w') 10 (by kernel_rfl) ?_
          simp only [List.size_toArray, List.length_cons, List.length_nil, Nat.reduceAdd]
          refine wpAnyK_takeL (i := 0) (v := ?tv15x0) rfl (by kernel_rfl) (by kernel_rfl) (by kernel_rfl) (by kernel_rfl) (fun _ _ _ h => h) (by rfl) ?ty15x0 HS0.out ?tr15x0
          case ty15x0 => (intro w' hSw; have v0 := cell_kept_below g0 hSw; have v1 := cell_kept_below g1 hSw; have v2 := cell_kept_below g2 hSw; have v3 := cell_kept_below g3 hSw; have v4 := cell_kept_below g4 hSw; have v5 := cell_kept_below g5 hSw; have v6 := cell_kept_below g6 hSw; have v7 := cell_kept_below g7 hSw; go_simp; try with_reducible rfl)
          simp only [Act.put, List.setIfInBounds_toArray, List.set_cons_zero, List.set_cons_succ]
          refine wpAnyK_takeL (i := 1) (v := ?tv15x1) rfl (by kernel_rfl) (by kernel_rfl) (by kernel_rfl) (by kernel_rfl) (fun _ _ _ h => h) (by rfl) ?ty15x1 HS0.out ?tr15x1
          case ty15x1 => (intro w' hSw; have v0 := cell_kept_below g0 hSw; have v1 := cell_kept_below g1 hSw; have v2 := cell_kept_below g2 hSw; have v3 := cell_kept_below g3 hSw; have v4 := cell_kept_below g4 hSw; have v5 := cell_kept_below g5 hSw; have v6 := cell_kept_below g6 hSw; have v7 := cell_kept_below g7 hSw; go_simp; try with_reducible rfl)
          simp only [Act.put, List.setIfInBounds_toArray, List.set_cons_zero, List.set_cons_succ]
          refine wpAnyK_takeL (i := 2) (v := ?tv15x2) rfl (by kernel_rfl) (by kernel_rfl) (by kernel_rfl) (by kernel_rfl) (fun _ _ _ h => h) (by rfl) ?ty15x2 HS0.out ?tr15x2
          case ty15x2 => (intro w' hSw; have v0 := cell_kept_below g0 hSw; have v1 := cell_kept_below g1 hSw; have v2 := cell_kept_below g2 hSw; have v3 := cell_kept_below g3 hSw; have v4 := cell_kept_below g4 hSw; have v5 := cell_kept_below g5 hSw; have v6 := cell_kept_below g6 hSw; have v7 := cell_kept_below g7 hSw; go_simp; try with_reducible rfl)
          simp only [Act.put, List.setIfInBounds_toArray, List.set_cons_zero, List.set_cons_succ]
          refine wpAnyK_takeL (i := 3) (v := ?tv15x3) rfl (by kernel_rfl) (by kernel_rfl) (by kernel_rfl) (by kernel_rfl) (fun _ _ _ h => h) (by rfl) ?ty15x3 HS0.out ?tr15x3
          case ty15x3 => (intro w' hSw; have v0 := cell_kept_below g0 hSw; have v1 := cell_kept_below g1 hSw; have v2 := cell_kept_below g2 hSw; have v3 := cell_kept_below g3 hSw; have v4 := cell_kept_below g4 hSw; have v5 := cell_kept_below g5 hSw; have v6 := cell_kept_below g6 hSw; have v7 := cell_kept_below g7 hSw; go_simp; try with_reducible rfl)
          simp only [Act.put, List.setIfInBounds_toArray, List.set_cons_zero, List.set_cons_succ]
          refine wpAnyK_takeL (i := 4) (v := ?tv15x4) rfl (by kernel_rfl) (by kernel_rfl) (by kernel_rfl) (by kernel_rfl) (fun _ _ _ h => h) (by rfl) ?ty15x4 HS0.out ?tr15x4
          case ty15x4 => (intro w' hSw; have v0 := cell_kept_below g0 hSw; have v1 := cell_kept_below g1 hSw; have v2 := cell_kept_below g2 hSw; have v3 := cell_kept_below g3 hSw; have v4 := cell_kept_below g4 hSw; have v5 := cell_kept_below g5 hSw; have v6 := cell_kept_below g6 hSw; have v7 := cell_kept_below g7 hSw; go_simp; try with_reducible rfl)
          simp only [Act.put, List.setIfInBounds_toArray, List.set_cons_zero, List.set_cons_succ]
          refine wpAnyK_takeL (i := 5) (v := ?tv15x5) rfl (by kernel_rfl) (by kernel_rfl) (by kernel_rfl) (by kernel_rfl) (fun _ _ _ h => h) (by rfl) ?ty15x5 HS0.out ?tr15x5
          case ty15x5 => (intro w' hSw; have v0 := cell_kept_below g0 hSw; have v1 := cell_kept_below g1 hSw; have v2 := cell_kept_below g2 hSw; have v3 := cell_kept_below g3 hSw; have v4 := cell_kept_below g4 hSw; have v5 := cell_kept_below g5 hSw; have v6 := cell_kept_below g6 hSw; have v7 := cell_kept_below g7 hSw; go_simp; try with_reducible rfl)
          simp only [Act.put, List.setIfInBounds_toArray, List.set_cons_zero, List.set_cons_succ]
          refine wpAnyK_takeL (i := 6) (v := ?tv15x6) rfl (by kernel_rfl) (by kernel_rfl) (by kernel_rfl) (by kernel_rfl) (fun _ _ _ h => h) (by rfl) ?ty15x6 HS0.out ?tr15x6
          case ty15x6 => (intro w' hSw; have v0 := cell_kept_below g0 hSw; have v1 := cell_kept_below g1 hSw; have v2 := cell_kept_below g2 hSw; have v3 := cell_kept_below g3 hSw; have v4 := cell_kept_below g4 hSw; have v5 := cell_kept_below g5 hSw; have v6 := cell_kept_below g6 hSw; have v7 := cell_kept_below g7 hSw; go_simp; try with_reducible rfl)
          simp only [Act.put, List.setIfInBounds_toArray, List.set_cons_zero, List.set_cons_succ]
          refine wpAnyK_takeL (i := 7) (v := ?tv15x7) rfl (by kernel_rfl) (by kernel_rfl) (by kernel_rfl) (by kernel_rfl) (fun _ _ _ h => h) (by rfl) ?ty15x7 HS0.out ?tr15x7
          case ty15x7 => (intro w' hSw; have v0 := cell_kept_below g0 hSw; have v1 := cell_kept_below g1 hSw; have v2 := cell_kept_below g2 hSw; have v3 := cell_kept_below g3 hSw; have v4 := cell_kept_below g4 hSw; have v5 := cell_kept_below g5 hSw; have v6 := cell_kept_below g6 hSw; have v7 := cell_kept_below g7 hSw; go_simp; try with_reducible rfl)
          simp only [Act.put, List.setIfInBounds_toArray, List.set_cons_zero, List.set_cons_succ]
          refine wpAnyK_takeL (i := 8) (v := ?tv15x8) rfl (by kernel_rfl) (by kernel_rfl) (by kernel_rfl) (by kernel_rfl) (fun _ _ _ h => h) (by rfl) ?ty15x8 HS0.out ?tr15x8
          case ty15x8 => (intro w' hSw; have v0 := cell_kept_below g0 hSw; have v1 := cell_kept_below g1 hSw; have v2 := cell_kept_below g2 hSw; have v3 := cell_kept_below g3 hSw; have v4 := cell_kept_below g4 hSw; have v5 := cell_kept_below g5 hSw; have v6 := cell_kept_below g6 hSw; have v7 := cell_kept_below g7 hSw; go_simp; try with_reducible rfl)
          simp only [Act.put, List.setIfInBounds_toArray, List.set_cons_zero, List.set_cons_succ]
          refine wpAnyK_one (i := 9) (by kernel_rfl) rfl (fun K hK => ?_)
          go_simp
          refine hK.out _ _ (fun _ => Below.one HS0.out _) ?_
          clear hK K
          refine wpAnyK_one (i := 10) (by kernel_rfl) rfl (fun K hK => ?_)
          go_simp
          refine hK.out _ _ (fun h => absurd rfl h) ?_
          clear hK K
          refine wpAnyK_done (by kernel_rfl) ?_ _
          obtain ⟨Wn, hWn⟩ : ∃ Wn, Wn = (wr.alloc (.cells #[.int .i64 x.op, .int .i64 x.a, .int .i64 x.b, .int .i64 x.c, .int .i64 x.n] 52)).drew := ⟨_, rfl⟩
          have hbn : Below wr.heap.size wr Wn := by rw [hWn]; exact Below.drew (Below.one (Below.refl _ _) _)
          have hxn : Wn.heap[wr.heap.size]? = some (.cells #[.int .i64 x.op, .int .i64 x.a, .int .i64 x.b, .int .i64 x.c, .int .i64 x.n] 52) := by rw [hWn]; exact heap_alloc_new wr _
          rw [← hWn]
          clear hWn
          have n0 := cell_of_obj hxn (j := 0) (v := .int .i64 x.op) rfl
          have n1 := cell_of_obj hxn (j := 1) (v := .int .i64 x.a) rfl
          have n2 := cell_of_obj hxn (j := 2) (v := .int .i64 x.b) rfl
          have n3 := cell_of_obj hxn (j := 3) (v := .int .i64 x.c) rfl
          have n4 := cell_of_obj hxn (j := 4) (v := .int .i64 x.n) rfl
          have HBN : Hid (Below Wo.heap.size Wo Wn) := Below.on HBR.out hbn
          have HBT : Hid (Below w.heap.size w Wn) := Below.on HBW.out hbn
          have k0 := cell_kept_below c0 hbn
          have m0 := cell_kept_below z4 hbn
          have m1 := cell_kept_below y3 hbn
          have m2 := cell_kept_below x1 hbn
          have m3 := cell_kept_below y2 hbn
          have m4 := cell_kept_below x2 hbn
          obtain ⟨g9, e9, r0, k1, k2⟩ := ob_at (own_stay (own_stay HOBF.out HBR.out) hbn) (bgsV_at bs HUL.out)
          cases e9
          have HWR := Hid.mk' hwr
          clear k1 k2 hxn hbn hwr g0 g1 g2 g3 g4 g5 g6 g7 c0 d0 d1 d2 d3 d4 z4 y0 y2 y3 x0 x1 x2 x4 m0 m1 HS0 HBR HBW HCT
          go_wp2_with fail
          refine (HWR.out _).mono ?_
          rintro e W8 ⟨rfl, bb8⟩
          have HBR8 : Hid (Below Wo.heap.size Wo W8) := Below.on HBN.out bb8
          have HB8 : Hid (Below w.heap.size w W8) := Below.on HBT.out bb8
          have k0 := cell_kept_below k0 bb8
          have m2 := cell_kept_below m2 bb8
          have m3 := cell_kept_below m3 bb8
          have m4 := cell_kept_below m4 bb8
          have r0 := cell_kept_below r0 bb8
          clear bb8 n0 n1 n2 n3 n4 HWR HBN HBT
          by_cases h0 : 0 ≤ wz
          · have q0 : decide ((0 : Int) ≤ wz) = true := decide_eq_true h0
            by_cases ha : wz = hd.a
            · have qa : (wz == hd.a) = true := by rw [beq_iff_eq]; exact ha
              cases bk
              · have HE := Hid.mk' (HCD.out u HOP.out HFB.out (HYS.out (by rw [HDU.out]; simp [ha, show (0 : Int) ≤ hd.a from ha ▸ h0])))
                clear HNO HYS
                go_wp2_with fail
                go_quiet (fail)
                go_wp2_with fail
                exact bodyPost_ret (v := .tuple #[.int .i64 73, .int .i64 (u : Int)]) (by simp [results, Tryd.results29, go_sem]) rfl ⟨by rw [HE.out]; rfl, HB8.out.drewN _⟩
              · by_cases hb : wz = hd.b
                · have qb : (wz == hd.b) = true := by rw [beq_iff_eq]; exact hb
                  have HE := Hid.mk' (HCD.out u HOP.out HFB.out (HYS.out (by rw [HDU.out]; simp [hb, show (0 : Int) ≤ hd.b from hb ▸ h0])))
                  clear HNO HYS
                  go_wp2_with fail
                  go_quiet (fail)
                  go_wp2_with fail
                  exact bodyPost_ret (v := .tuple #[.int .i64 73, .int .i64 (u : Int)]) (by simp [results, Tryd.results29, go_sem]) rfl ⟨by rw [HE.out]; rfl, HB8.out.drewN _⟩
                · have qb : (wz == hd.b) = false := beq_no hb
                  have HNX := Hid.mk' (HNO.out (by rw [HDU.out]; simp [hb]))
                  clear HNO HYS
                  go_wp2_with fail
                  go_roundw
                  case rel => exact ⟨j + 1, hlt, by go_num, HNX.out, HBR8.out⟩
                  case measure => simp [intOf]; omega
            · have qa : (wz == hd.a) = false := beq_no ha
              by_cases hb : wz = hd.b
              · have qb : (wz == hd.b) = true := by rw [beq_iff_eq]; exact hb
                have HE := Hid.mk' (HCD.out u HOP.out HFB.out (HYS.out (by rw [HDU.out]; simp [hb, show (0 : Int) ≤ hd.b from hb ▸ h0])))
                clear HNO HYS
                go_wp2_with fail
                go_quiet (fail)
                go_wp2_with fail
                exact bodyPost_ret (v := .tuple #[.int .i64 73, .int .i64 (u : Int)]) (by simp [results, Tryd.results29, go_sem]) rfl ⟨by rw [HE.out]; rfl, HB8.out.drewN _⟩
              · have qb : (wz == hd.b) = false := beq_no hb
                have HNX := Hid.mk' (HNO.out (by rw [HDU.out]; simp [ha, hb]))
                clear HNO HYS
                go_wp2_with fail
                go_roundw
                case rel => exact ⟨j + 1, hlt, by go_num, HNX.out, HBR8.out⟩
                case measure => simp [intOf]; omega
          · have q0 : decide ((0 : Int) ≤ wz) = false := decide_eq_false h0
            have HNX := Hid.mk' (HNO.out (by rw [HDU.out]; simp [h0]))
            clear HNO HYS
            go_wp2_with fail
            go_roundw
            case rel => exact ⟨j + 1, hlt, by go_num, HNX.out, HBR8.out⟩
            case measure => simp [intOf]; omega
        · have HFM := Hid.mk' (HCE.out HOP.out HFB.out (find_all HN.out (by omega)))
          obtain ⟨Wp, hWp⟩ : ∃ Wp, Wp = wr := ⟨_, rfl⟩
          subst hWp
          have HCP := Hid.mk' HCT.out
          have HBP := Hid.mk' HBW.out
          have HRR := Hid.mk' (Below.refl Wp.heap.size Wp)
          have hji : ¬ (j : Int) < (ms.length : Int) := by omega
          have HA0 : Hid (∀ v ∈ ms.take 0, (v : Int) ≠ hd.n) := fun v hv => by simp at hv
          go_wp2_with fail
          clear z4 y0 y2 y3 x0 x1 x2 x4 hlt hj hji HN HBR HCT HBW
          go_loopw [13] (fun t13 wr => ∃ j : Nat, j ≤ ms.length ∧ t13 = .int .i64 (j : Int) ∧ (∀ v ∈ ms.take j, (v : Int) ≠ hd.n) ∧ Below Wp.heap.size Wp wr) (fun t13 _ => ms.length - (intOf t13).toNat)
          case atStart => exact ⟨0, Nat.zero_le _, rfl, HA0.out, HRR.out⟩
          case round =>
            clear HRR HA0
            obtain ⟨j, hj, rfl, hn, hb⟩ := hrel
            have HN := Hid.mk' hn
            have HBR := Hid.mk' hb
            have HBW : Hid (Below w.heap.size w wr) := Below.on HBP.out hb
            obtain ⟨z4, y0, y2, y3, x0, x1, x2, x4⟩ := HCP.out.stay hb
            clear hn hb
            by_cases hlt : j < ms.length
            · obtain ⟨u, hu2⟩ : ∃ u, ms[j]? = some u := ⟨_, List.getElem?_eq_getElem hlt⟩
              obtain ⟨b3, o3, rfl, c0⟩ := lst_n (HM.out.stay HBW.out) hlt
              rw [show ms[j] = u from (List.getElem?_eq_some_iff.1 hu2).2] at c0
              have hji : (j : Int) < (ms.length : Int) := by omega
              have HUM : Hid (u ∈ ms) := List.mem_of_getElem? hu2
              have HT : Hid (ms.take (j + 1) = ms.take j ++ [u]) := by
                obtain ⟨h1, h2⟩ := List.getElem?_eq_some_iff.1 hu2
                show _ = _
                rw [List.take_succ_eq_append_getElem h1, h2]
              clear hu2
              by_cases hun : (u : Int) = hd.n
              · have HE : Hid (R = some (74, h)) := by
                  have h1 := HFM.out
                  rw [if_pos (show hasI ms hd.n = true from List.any_eq_true.2 ⟨u, HUM.out, by simpa using hun⟩)] at h1
                  exact h1
                have q1 : ((u : Int) == hd.n) = true := by rw [beq_iff_eq]; exact hun
                clear hun
                go_upto_region 22 with fail
                go_quiet (fail)
                go_upto_region 23 with fail
                go_quiet (fail)
                go_wp2_with fail
                exact bodyPost_ret (v := .tuple #[.int .i64 74, .int .i64 (h : Int)]) (by simp [results, Tryd.results29, go_sem]) rfl ⟨by rw [HE.out]; rfl, (HBW.out.drewN _).drewN _⟩
              · have HNX : Hid (∀ v ∈ ms.take (j + 1), (v : Int) ≠ hd.n) := fun v hv => by
                  rw [HT.out, List.mem_append, List.mem_singleton] at hv
                  rcases hv with hv | rfl
                  · exact HN.out v hv
                  · exact hun
                have q1 : ((u : Int) == hd.n) = false := beq_no hun
                clear hun
                go_upto_region 22 with fail
                go_quiet (fail)
                go_wp2_with fail
                go_roundw
                case rel => exact ⟨j + 1, hlt, by go_num, HNX.out, HBR.out.drewN _⟩
                case measure => simp [intOf]; omega
            · have HE : Hid (R = none) := by
                have h1 := HFM.out
                have h2 := HN.out
                rw [List.take_of_length_le (by omega)] at h2
                rw [if_neg (show ¬ hasI ms hd.n = true from fun h3 => by
                  obtain ⟨v, hv, e⟩ := List.any_eq_true.1 h3
                  exact h2 v hv (by simpa using e))] at h1
                exact h1
              have hji : ¬ (j : Int) < (ms.length : Int) := by omega
              go_wp2_with fail
              exact bodyPost_ret (v := .tuple #[.int .i64 0, .int .i64 0]) (by simp [results, Tryd.results29, go_sem]) rfl ⟨by rw [HE.out]; rfl, HBW.out⟩
end Go.Proofs.YtgiokognngllcaaDoor
