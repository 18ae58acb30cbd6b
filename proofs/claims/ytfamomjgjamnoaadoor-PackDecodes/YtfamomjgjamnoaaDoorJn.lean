/- The document's own Decode: a module in memory while it is read. -/
import Derived.Test.YtfamomjgjamnoaaDoorUe
import Derived.Test.YtfamomjgjamnoaaDoorLa
namespace Go.Proofs.YtfamomjgjamnoaaDoor
open Go.RowKit Go.Sort

/-- A byte, as a number. -/
def By1 (R : Nat) (bs : Bt) (va : Option Addr) (vc : Nat) (s : Sr) (w : World) (e : Ending) (w' : World) : Prop :=
  ∃ (n : Nat) (s' : Sr), e = .returned (.int .u64 (n : Int)) ∧ n < 256 ∧ Rn w1R bs s (n : Int) s' ∧ RdAt 67 R bs va vc s' w' ∧ OnlyB R w w'
theorem nmU (R : Nat) (bs : Bt) (va : Option Addr) (vc : Nat) (s : Sr) (w : World) (h : RdAt 67 R bs va vc s w) : Calls Tryd.prog 22 #[.pointer (some ⟨R, 0, none⟩), .int .i64 1] w (By1 R bs va vc s w) := by
  refine (rnum_any _ R bs va vc s w 1 h (by decide)).mono ?_
  rintro e w' ⟨n, s', rfl, h1, h2, h3, h4⟩
  exact ⟨n, s', rfl, by omega, h1.map, h2, h3⟩
theorem RdAt.grown' {T' : TypeId} {R : Nat} {bs : Bt} {va : Option Addr} {vc : Nat} {s : Sr} {N n sz : Nat} {v : Value} {xs : List Value} {W W' : World} (h : RdAt 67 R bs va vc s W) (ho : W.ownsRow N T' sz v n xs) (hT : T' ≠ 67) (hv : ∀ a, va = some a → a.block < N) (hg : W.grownBy W' v.ownBlock) : RdAt 67 R bs va vc s W' := by
  obtain ⟨a, e, p, h1, h2, h3⟩ := h.ex
  refine ⟨⟨a, e, p, grown_other ho hg h1 hT, h2, h3⟩, fun i cs hi => ?_, h.off, h.len, h.cap⟩
  obtain ⟨b, o, e', hc⟩ := h.by' i cs hi
  refine ⟨b, o, e', fun j u hj => ?_⟩
  have hb := hv _ e'
  have h4 := hc j u hj
  have h5 := hg.block b (lt_of_cell h4) (fun e => by have := own_base ho b e.symm; simp only at hb; omega)
  unfold World.cell? at h4 ⊢
  rw [h5]; exact h4
/-- A module that is being read. -/
structure DI (bs : Bt) (va : Option Addr) (vc : Nat) (w : World) (s : Sr) (M : Nat) (q : Mo) (W : World) : Prop where
  rd : RdAt 67 (w.heap.size + 1) bs va vc s W
  ob : Below w.heap.size w W
  z : W.heap[w.heap.size]? = some (.cells (moC mo0) 25)
  f : W.heap[M]? = some (.cells (moC q) 25)
  o : OwnM W w.heap.size q
  lv : ∀ a, va = some a → a.block < w.heap.size
  lM : w.heap.size + 2 ≤ M
section
variable {bs : Bt} {va : Option Addr} {vc : Nat} {w : World} {s s' : Sr} {M : Nat} {q : Mo} {W W' : World}
theorem DI.ge (h : DI bs va vc w s M q W) : M + 1 ≤ W.heap.size := (Array.getElem?_eq_some_iff.1 h.f).1
theorem DI.own (h : DI bs va vc w s M q W) (ho : OnlyB (w.heap.size + 1) W W') : OwnM W' w.heap.size q := by
  obtain ⟨a, e, p, hb, _⟩ := h.rd.ex
  exact ⟨ho.own hb h.o.t (by decide), ho.own hb h.o.f (by decide), fun g hg => ⟨⟨ho.own hb (h.o.g g hg).1.1 (by decide), ho.own hb (h.o.g g hg).1.2 (by decide)⟩, (h.o.g g hg).2⟩, h.o.tl, h.o.fl, h.o.tz⟩
theorem DI.read (h : DI bs va vc w s M q W) (hr : RdAt 67 (w.heap.size + 1) bs va vc s' W') (ho : OnlyB (w.heap.size + 1) W W') : DI bs va vc w s' M q W' :=
  ⟨hr, h.ob.trans (ho.below h.ob.size (by omega)), ho.blk h.z (by omega), ho.blk h.f (by have := h.lM; omega), h.own ho, h.lv, h.lM⟩
theorem DI.stay (h : DI bs va vc w s M q W) (hb : Below W.heap.size W W') : DI bs va vc w s M q W' := h.read (h.rd.stay hb) (OnlyB.of hb)
theorem DI.drew (h : DI bs va vc w s M q W) : DI bs va vc w s M q W.drew := h.stay (below_drew W)
/-- A threshold is put behind the thresholds. -/
theorem DI.thr (h : DI bs va vc w s M q W) (x : Int) (hx : I64 x) (hl : q.ths.length < 16) (ty : TypeId) :
    ∃ v' W', (Builtin.append_ #[22, 22] ty #[.slice q.ta q.ths.length q.tc, .slice (some ⟨W.heap.size, 0, none⟩) 1 1]).run Tryd.prog (W.alloc (.cells #[.int .i64 x] 2)) = .ok v' W' ∧
      ∃ pa' pc', v' = .slice pa' (q.ths.length + 1) pc' ∧ W'.cell? ⟨M, 0, none⟩ = some (.slice q.ta q.ths.length q.tc) ∧ W'.frozen? ⟨M, 0, none⟩ = false ∧ DI bs va vc w s M { q with ta := pa', tc := pc', ths := q.ths ++ [x] } (W'.setCell ⟨M, 0, none⟩ v') := by
  have bo := Below.one (Below.refl _ W) (.cells #[.int .i64 x] 2)
  have h1 := h.stay bo
  have hgeW := h.ge
  have hM := h.lM
  obtain ⟨i0, hi, hz0, hz1, hz2⟩ := info_parts Tryd.infoI
  obtain ⟨v', W', hr, h2, h3⟩ := run_append_ownS (P := Tryd.prog) (W.alloc (.cells #[.int .i64 x] 2)) w.heap.size 22 ty 2 i0 _ 1 8 Tryd.underlying22 hi hz0 hz1 hz2 rfl (by decide) _ _ _ h1.o.t (some ⟨W.heap.size, 0, none⟩) 1 1 (thC x) rfl (by simp) (fun a e => by cases e; exact newsT W 2 (thC x)) (by intro u hu; simp [thC] at hu; subst hu; rfl) (by unfold maxLen; omega) (by omega) (by simp; omega)
  refine ⟨v', W', hr, ?_⟩
  obtain ⟨pa', pc', rfl⟩ := gown_form h2
  have hz := grown_other h1.o.t h3 h1.z (by decide)
  have hf := grown_other h1.o.t h3 h1.f (by decide)
  have hrd := h1.rd.grown' h1.o.t (by decide) h.lv h3
  have hob := h1.ob.grown h3 h1.ob.size (fun k e => own_base h1.o.t k e)
  refine ⟨pa', pc', rfl, cell_of_obj hf rfl, Lib.frozen_of_heap hf 0, ?_⟩
  refine ⟨hrd.set (by omega) (fun a e => by have := h.lv a e; omega) _ _, hob.setCell (by simp only; omega) _, (Below.heap_setCell _ _ _ _ (by simp only; omega)).trans hz, ?_, ⟨?_, own_set (h1.o.f.kept h3 (own_ne h1.o.f h1.o.t (by decide))) hf (by decide) _ _, fun g hg => ⟨⟨own_set ((h1.o.g g hg).1.1.kept h3 (own_ne (h1.o.g g hg).1.1 h1.o.t (by decide))) hf (by decide) _ _, own_set ((h1.o.g g hg).1.2.kept h3 (own_ne (h1.o.g g hg).1.2 h1.o.t (by decide))) hf (by decide) _ _⟩, (h1.o.g g hg).2⟩, by simp; omega, h.o.fl, fun y hy => ?_⟩, h.lv, hM⟩
  · have := heap_setCell_same W' _ 0 _ _ (.slice pa' (q.ths.length + 1) pc') hf
    rw [this]
    simp [moC]
  · exact own_set (by rw [List.length_append, List.flatMap_append]; simpa using h2) hf (by decide) _ _
  · rcases List.mem_append.1 hy with h | h'
    · exact h1.o.tz y h
    · simp at h'; subst h'; exact hx
/-- A function is put behind the functions. -/
theorem DI.func (h : DI bs va vc w s M q W) (x : Fn) (hx : OwnF W w.heap.size x) (hgx : GFn x) (hl : q.funcs.length < 32) (ty : TypeId) :
    ∃ v' W', (Builtin.append_ #[23, 23] ty #[.slice q.fa q.funcs.length q.fc, .slice (some ⟨W.heap.size, 0, none⟩) 1 1]).run Tryd.prog (W.alloc (.cells (fnC x) 45)) = .ok v' W' ∧
      ∃ pa' pc', v' = .slice pa' (q.funcs.length + 1) pc' ∧ W'.cell? ⟨M, 1, none⟩ = some (.slice q.fa q.funcs.length q.fc) ∧ W'.frozen? ⟨M, 1, none⟩ = false ∧ DI bs va vc w s M { q with fa := pa', fc := pc', funcs := q.funcs ++ [x] } (W'.setCell ⟨M, 1, none⟩ v') := by
  have bo := Below.one (Below.refl _ W) (.cells (fnC x) 45)
  have h1 := h.stay bo
  have hx1 := hx.stay bo
  have hgeW := h.ge
  have hM := h.lM
  obtain ⟨i0, hi, hz0, hz1, hz2⟩ := info_parts Tryd.infoF
  obtain ⟨v', W', hr, h2, h3⟩ := run_append_ownS (P := Tryd.prog) (W.alloc (.cells (fnC x) 45)) w.heap.size 23 ty 45 i0 _ 5 80 Tryd.underlying23 hi hz0 hz1 hz2 rfl (by decide) _ _ _ h1.o.f (some ⟨W.heap.size, 0, none⟩) 1 1 x.cells rfl (by simp) (fun a e => by cases e; exact newsT W 45 x.cells) (one_fn x) (by unfold maxLen; omega) (by omega) (by simp; omega)
  refine ⟨v', W', hr, ?_⟩
  obtain ⟨pa', pc', rfl⟩ := gown_form h2
  have hz := grown_other h1.o.f h3 h1.z (by decide)
  have hf := grown_other h1.o.f h3 h1.f (by decide)
  have hrd := h1.rd.grown' h1.o.f (by decide) h.lv h3
  have hob := h1.ob.grown h3 h1.ob.size (fun k e => own_base h1.o.f k e)
  have hxx : OwnF (W'.setCell ⟨M, 1, none⟩ (.slice pa' (q.funcs.length + 1) pc')) w.heap.size x := ⟨own_set (hx1.1.kept h3 (own_ne hx1.1 h1.o.f (by decide))) hf (by decide) _ _, own_set (hx1.2.kept h3 (own_ne hx1.2 h1.o.f (by decide))) hf (by decide) _ _⟩
  refine ⟨pa', pc', rfl, cell_of_obj hf rfl, Lib.frozen_of_heap hf 1, ?_⟩
  refine ⟨hrd.set (by omega) (fun a e => by have := h.lv a e; omega) _ _, hob.setCell (by simp only; omega) _, (Below.heap_setCell _ _ _ _ (by simp only; omega)).trans hz, ?_, ⟨own_set (h1.o.t.kept h3 (own_ne h1.o.t h1.o.f (by decide))) hf (by decide) _ _, ?_, fun g hg => ?_, h.o.tl, by simp; omega, h.o.tz⟩, h.lv, hM⟩
  · have := heap_setCell_same W' _ 1 _ _ (.slice pa' (q.funcs.length + 1) pc') hf
    rw [this]
    simp [moC]
  · exact own_set (by rw [List.length_append, List.flatMap_append]; simpa using h2) hf (by decide) _ _
  · rcases List.mem_append.1 hg with hg | hg
    · exact ⟨⟨own_set ((h1.o.g g hg).1.1.kept h3 (own_ne (h1.o.g g hg).1.1 h1.o.f (by decide))) hf (by decide) _ _, own_set ((h1.o.g g hg).1.2.kept h3 (own_ne (h1.o.g g hg).1.2 h1.o.f (by decide))) hf (by decide) _ _⟩, (h1.o.g g hg).2⟩
    · simp at hg; subst hg; exact ⟨hxx, hgx⟩
end
end Go.Proofs.YtfamomjgjamnoaaDoor

/- The document's own Decode. -/
namespace Go.Proofs.YtfamomjgjamnoaaDoor
open Go.RowKit Go.Sort

/-- While the mark is read. -/
structure D0 (bs : Bt) (va : Option Addr) (vc : Nat) (w : World) (s : Sr) (W : World) : Prop where
  rd : RdAt 67 (w.heap.size + 1) bs va vc s W
  ob : Below w.heap.size w W
  z : W.heap[w.heap.size]? = some (.cells (moC mo0) 25)
  k : W.heap[w.heap.size + 2]? = some (.cells #[.int .u64 83, .int .u64 70, .int .u64 84, .int .u64 1] 54)
  lv : ∀ a, va = some a → a.block < w.heap.size
section
variable {bs : Bt} {va : Option Addr} {vc : Nat} {w : World} {s s' : Sr} {W W' : World}
theorem D0.read (h : D0 bs va vc w s W) (hr : RdAt 67 (w.heap.size + 1) bs va vc s' W') (ho : OnlyB (w.heap.size + 1) W W') : D0 bs va vc w s' W' :=
  ⟨hr, h.ob.trans (ho.below h.ob.size (by omega)), ho.blk h.z (by omega), ho.blk h.k (by omega), h.lv⟩
theorem D0.mark (h : D0 bs va vc w s W) {j : Nat} (hj : j < 4) : W.cell? ⟨w.heap.size + 2, j, none⟩ = some (.int .u64 (sigI j)) := by
  match j, hj with
  | 0, _ => exact cell_of_obj h.k rfl
  | 1, _ => exact cell_of_obj h.k rfl
  | 2, _ => exact cell_of_obj h.k rfl
  | 3, _ => exact cell_of_obj h.k rfl
theorem D0.box (h : D0 bs va vc w s W) : DI bs va vc w s W.heap.size mo0 (W.alloc (.cells (moC mo0) 25)) :=
  ⟨h.rd.stay (Below.one (Below.refl _ _) _), h.ob.alloc h.ob.size _, blk_stay h.z (Below.one (Below.refl _ _) _), heap_alloc_new W _, own0 _ _, h.lv, by have := (Array.getElem?_eq_some_iff.1 h.k).1; omega⟩
end
theorem sigI_in (j : Nat) : 0 ≤ sigI j ∧ sigI j ≤ 255 := by unfold sigI; split <;> decide
set_option maxRecDepth 100000 in
set_option maxHeartbeats 8000000 in
theorem rdec_any (bs : Bt) (va : Option Addr) (vc : Nat) (w : World) (hr : RowIn w va 1 (bs.map bC)) (hv : ∀ a, va = some a → a.block < w.heap.size) (hc : bs.length ≤ vc) :
    Calls Tryd.prog 14 #[.slice va bs.length vc] w (DeP bs w) := by
  have b1 := Below.one (Below.refl _ w) (.cells #[.slice none 0 0, .slice none 0 0] 25)
  have x0 := heap_alloc_new w (.cells #[.slice none 0 0, .slice none 0 0] 25)
  by_cases hl : 1048576 < bs.length
  · have hli : (1048576 : Int) < (bs.length : Int) := by omega
    have HB := Hid.mk' b1
    have z0 := cell_of_obj x0 (j := 0) (v := .slice none 0 0) rfl
    have z1 := cell_of_obj x0 (j := 1) (v := .slice none 0 0) rfl
    have ff := fun j => Lib.frozen_of_heap x0 j
    have HD := Hid.mk' (decR_long hl)
    clear hr hv hc b1 x0 hl
    go_enter Tryd.func14, Tryd.ntmps14
    go_wp2_with fail
    exact bodyPost_ret (v := .tuple #[.agg #[.slice none 0 0, .slice none 0 0], .int .i64 4, .int .i64 1048576]) (by simp [results, Tryd.results14, go_sem, *]) rfl ⟨mo0, 4, 1048576, rfl, HD.out, own0 _ _, HB.out⟩
  · have hli : ¬ (1048576 : Int) < (bs.length : Int) := by omega
    have b2 := Below.one b1 (.cells #[.slice va bs.length vc, .int .i64 0, .int .i64 0, .int .i64 0] 67)
    have x1 := heap_alloc_new (w.alloc (.cells #[.slice none 0 0, .slice none 0 0] 25)) (.cells #[.slice va bs.length vc, .int .i64 0, .int .i64 0, .int .i64 0] 67)
    rw [World.size_alloc] at x1
    have x0' := blk_stay x0 (Below.one (Below.refl _ _) (.cells #[.slice va bs.length vc, .int .i64 0, .int .i64 0, .int .i64 0] 67))
    have hRd : RdAt 67 (w.heap.size + 1) bs va vc (.at 0) ((w.alloc (.cells #[.slice none 0 0, .slice none 0 0] 25)).alloc (.cells #[.slice va bs.length vc, .int .i64 0, .int .i64 0, .int .i64 0] 67)) := ⟨⟨0, 0, 0, x1, Nat.zero_le _, rfl, rfl⟩, hr.below b2, fun a e => by have := hv a e; omega, by omega, hc⟩
    have hsz : ((w.alloc (.cells #[.slice none 0 0, .slice none 0 0] 25)).alloc (.cells #[.slice va bs.length vc, .int .i64 0, .int .i64 0, .int .i64 0] 67)).heap.size = w.heap.size + 2 := by simp
    generalize hW : (w.alloc (.cells #[.slice none 0 0, .slice none 0 0] 25)).alloc (.cells #[.slice va bs.length vc, .int .i64 0, .int .i64 0, .int .i64 0] 67) = W0 at *
    have b3 := Below.one (Below.refl _ W0) (.cells #[.int .u64 83, .int .u64 70, .int .u64 84, .int .u64 1] 54)
    have xk := heap_alloc_new W0 (.cells #[.int .u64 83, .int .u64 70, .int .u64 84, .int .u64 1] 54)
    rw [hsz] at xk
    have HD0 : Hid (D0 bs va vc w (.at 0) (W0.alloc (.cells #[.int .u64 83, .int .u64 70, .int .u64 84, .int .u64 1] 54))) := ⟨hRd.stay b3, b2.trans (b3.mono b2.size), blk_stay x0' b3, xk, hv⟩
    have HL := Hid.mk' hl
    subst hW
    have HM : Hid (∀ (k most : Nat) (er : Int) s W, RdAt 67 (w.heap.size + 1) bs va vc s W → k ≤ 2 → er ≠ 0 → Calls Tryd.prog 24 #[.pointer (some ⟨w.heap.size + 1, 0, none⟩), .int .i64 (k : Int), .int .i64 (most : Int), .int .i64 er] W (RdP 67 (w.heap.size + 1) bs va vc s (cntR k most er) (fun n => .int .i64 (n : Int)) (fun n _ => n ≤ most) W)) := fun k most er s W h hk he => rmany_any _ _ bs va vc s W k most er h hk he
    have HN8 := Hid.mk' (fun s W h => nm8 (w.heap.size + 1) bs va vc s W h)
    have HNU := Hid.mk' (fun s W h => nmU (w.heap.size + 1) bs va vc s W h)
    have HFA : Hid (∀ (e p : Int) s W, RdAt 67 (w.heap.size + 1) bs va vc s W → e ≠ 0 → Calls Tryd.prog 23 #[.pointer (some ⟨w.heap.size + 1, 0, none⟩), .int .i64 e, .int .i64 p] W fun en w' => en = .returned (.tuple #[]) ∧ RdAt 67 (w.heap.size + 1) bs va vc (failS s e p) w' ∧ OnlyB (w.heap.size + 1) W w') := fun e p s W h he => rfail_any _ _ bs va vc s W e p h he
    have HFN : Hid (∀ s W, RdAt 67 (w.heap.size + 1) bs va vc s W → (∀ a, va = some a → a.block < W.heap.size) → Calls Tryd.prog 25 #[.pointer (some ⟨w.heap.size + 1, 0, none⟩)] W (RFnP (w.heap.size + 1) bs va vc s W)) := fun s W h hv => rfn_any _ bs va vc s W h hv
    clear hr hv hc b1 b2 b3 x0 x0' x1 xk hRd hsz hl
    go_enter Tryd.func14, Tryd.ntmps14
    go_wp2_with fail
    generalize ((w.alloc (.cells #[.slice none 0 0, .slice none 0 0] 25)).alloc (.cells #[.slice va bs.length vc, .int .i64 0, .int .i64 0, .int .i64 0] 67)).alloc (.cells #[.int .u64 83, .int .u64 70, .int .u64 84, .int .u64 1] 54) = W1 at *
    go_loopw [7] (fun t7 wr => ∃ (j : Nat) (s' : Sr), j ≤ 4 ∧ t7 = .int .i64 j ∧ D0 bs va vc w s' wr ∧ Rn (marksR j) bs (.at 0) () s') (fun t7 _ => 4 - (intOf t7).toNat)
    case atStart => exact ⟨0, _, by decide, rfl, HD0.out, Rn.ret _⟩
    case round =>
      obtain ⟨j, s1, hj, rfl, hd, hrn⟩ := hrel
      clear HD0
      have HD := Hid.mk' hd
      have HRN := Hid.mk' hrn
      clear hd hrn
      by_cases hlt : j < 4
      · have hlj : (j : Int) < 4 := by omega
        go_wp2_with fail
        refine (HNU.out _ _ HD.out.rd).mono ?_
        rintro e W2 ⟨n, s2, rfl, hn, r2, q2, o2⟩
        replace HD := Hid.mk' (HD.out.read q2 o2)
        have hm := HD.out.mark hlt
        clear q2 o2
        by_cases hne : (n : Int) = sigI j
        · have HR := Hid.mk' (HRN.out.bind (f := fun _ => markR j) (r2.mark_ok hne))
          have hq : ((n : Int) != sigI j) = false := bne_no hne
          clear hne r2 hn
          generalize sigI j = sj at *
          go_wp2_with fail
          go_roundw
          case rel => exact ⟨j + 1, _, by omega, by go_num, HD.out, HR.out⟩
          case measure => simp [intOf]; omega
        · have HR := Hid.mk' (HRN.out.bind (f := fun _ => markR j) (r2.mark_no hne))
          have hq : ((n : Int) != sigI j) = true := bne_of hne
          clear hne r2 hn
          generalize sigI j = sj at *
          go_wp2_with fail
          refine (HFA.out 5 j _ _ HD.out.rd (by decide)).mono ?_
          rintro e W3 ⟨rfl, q3, o3⟩
          replace HD := Hid.mk' (HD.out.read q3 o3)
          clear q3 o3 hm
          go_wp2_with fail
          go_roundw
          case rel => exact ⟨j + 1, _, by omega, by go_num, HD.out, HR.out⟩
          case measure => simp [intOf]; omega
      · obtain rfl : j = 4 := by omega
        have HI : Hid (DI bs va vc w s1 wr.heap.size ⟨none, 0, [], none, 0, []⟩ (wr.alloc (.cells #[.slice none 0 0, .slice none 0 0] 25))) := HD.out.box
        have HR4 := Hid.mk' HRN.out
        clear HD HRN HNU
        go_wp2_with fail
        generalize wr.heap.size = M at *
        generalize wr.alloc (.cells #[.slice none 0 0, .slice none 0 0] 25) = W4 at *
        refine (HM.out 1 16 3 _ _ HI.out.rd (by decide) (by decide)).mono ?_
        rintro e W5 ⟨n1, s5, rfl, r5, q5, o5, i5⟩
        replace HI := Hid.mk' (HI.out.read q5 o5)
        have HR5 := Hid.mk' r5
        clear r5 q5 o5
        go_wp2_with fail
        go_loopw [11] (fun t11 wr => ∃ (j : Nat) (ts : List Int) (ta : Option Addr) (tc : Nat) (s' : Sr), j ≤ n1 ∧ ts.length = j ∧ t11 = .int .i64 j ∧ DI bs va vc w s' M ⟨ta, tc, ts, none, 0, []⟩ wr ∧ Rn (listR w8R j) bs s5 ts s') (fun t11 _ => n1 - (intOf t11).toNat)
        case atStart => exact ⟨0, [], none, 0, s5, Nat.zero_le _, rfl, rfl, HI.out, Rn.ret _⟩
        case round =>
          obtain ⟨k, ts, ta, tc, s6, hk, htl, rfl, hdi, hrn⟩ := hrel
          clear HI
          have HI := Hid.mk' hdi
          have HRN := Hid.mk' hrn
          have HTL := Hid.mk' htl
          clear hdi hrn htl
          by_cases hlt2 : k < n1
          · have hli2 : (k : Int) < (n1 : Int) := by omega
            have y1 := cell_of_obj HI.out.f (j := 0) (v := .slice ta ts.length tc) rfl
            go_wp2_with fail
            go_region_law (first
              | (refine step_app (by rfl) _ _ 22 22 _ _ (by rfl) (by rfl) (by rfl) HAP.out ?_; rintro v10 W10 ⟨ta', tc', rfl, yc, zc, di10⟩)
              | (go_simp; go_at_call 22; refine (HN8.out _ _ HI.out.drew.rd).mono ?_; rintro e W9 ⟨nn, th, s9, rfl, e3, e4, i9, r9, q9, o9⟩; have y9 := cell_of_obj (HI.out.drew.read q9 o9).f (j := 0) (v := .slice ta ts.length tc) rfl; have y9a : ∀ o, (W9.alloc o).cell? ⟨M, 0, none⟩ = some (.slice ta ts.length tc) := fun o => cell_of_obj ((HI.out.drew.read q9 o9).stay (Below.one (Below.refl _ W9) o)).f (j := 0) rfl; have HAP := Hid.mk' ((HI.out.drew.read q9 o9).thr th i9 (by have := HTL.out; simp only; omega) 22)))
            all_goals
              have HI2 := Hid.mk' di10
              have HR9 := Hid.mk' (HRN.out.next r9)
              clear di10 r9 q9 o9 i9 HAP y9 y9a yc zc y1 HI HRN
              go_wp2_with fail
              go_roundw
              case rel => exact ⟨k + 1, ts ++ [th], ta', tc', s9, by omega, by have := HTL.out; simp; omega, by go_num, HI2.out, HR9.out⟩
              case measure => simp [intOf]; omega
          · obtain rfl : k = n1 := by omega
            have HRT := Hid.mk' HRN.out
            clear HRN HN8
            go_wp2_with fail
            refine (HM.out 1 32 3 _ _ HI.out.rd (by decide) (by decide)).mono ?_
            rintro e W7 ⟨n2, s7, rfl, r7, q7, o7, i7⟩
            replace HI := Hid.mk' (HI.out.read q7 o7)
            have HR7 := Hid.mk' r7
            clear r7 q7 o7 HM
            go_wp2_with fail
            go_loopw [12] (fun t12 wr => ∃ (j : Nat) (fs : List Fn) (fa : Option Addr) (fc : Nat) (s' : Sr), j ≤ n2 ∧ fs.length = j ∧ t12 = .int .i64 j ∧ DI bs va vc w s' M ⟨ta, tc, ts, fa, fc, fs⟩ wr ∧ Rn (listR fnR j) bs s7 (fs.map Fn.er) s') (fun t12 _ => n2 - (intOf t12).toNat)
            case atStart => exact ⟨0, [], none, 0, s7, Nat.zero_le _, rfl, rfl, HI.out, Rn.ret _⟩
            case round =>
              obtain ⟨i, fs, fa, fc, s13, hi, hfl, rfl, hdi, hrn⟩ := hrel
              clear HI
              have HI := Hid.mk' hdi
              have HRN := Hid.mk' hrn
              have HFL := Hid.mk' hfl
              clear hdi hrn hfl
              obtain ⟨ra, re, rp, hrb, hra, hrs⟩ := HI.out.rd.ex
              have ye := cell_of_obj hrb (j := 2) (v := .int .i64 re) rfl
              have hu : (i < n2 ∧ ∃ a, s13 = .at a) ∨ (¬ i < n2 ∨ ∃ e p, s13 = .bad e p) := by
                by_cases h1 : i < n2
                · cases s13 with
                  | «at» a => exact .inl ⟨h1, _, rfl⟩
                  | bad e p => exact .inr (.inr ⟨_, _, rfl⟩)
                · exact .inr (.inl h1)
              rcases hu with ⟨hlt3, aa, rfl⟩ | hout
              · have hli3 : (i : Int) < (n2 : Int) := by omega
                obtain ⟨rfl, rfl⟩ := ss_at hrs
                have HLV : Hid (∀ a, va = some a → a.block < wr.heap.size) := fun a e => Nat.lt_of_lt_of_le (HI.out.lv a e) HI.out.ob.size
                clear hrs hrb
                go_wp2_with fail
                refine (HFN.out _ _ HI.out.rd HLV.out).mono ?_
                rintro e W14 ⟨g, s14, rfl, r14, q14, o14, og14, gg14⟩
                have d14 := HI.out.read q14 o14
                have og := og14.low (N' := w.heap.size) HI.out.ob.size
                have bo := Below.one (Below.refl _ W14) (.cells (fnC g) 45)
                have d15 := d14.stay bo
                have HXG := Hid.mk' (heap_alloc_new W14 (.cells (fnC g) 45))
                have HAP := Hid.mk' (d15.func g (og.stay bo) gg14 (by have := HFL.out; simp only; omega) 23)
                have y0 := cell_of_obj HXG.out (j := 0) (v := .string g.name) rfl
                have y1 := cell_of_obj HXG.out (j := 1) (v := .slice g.pa g.params.length g.pc) rfl
                have y2 := cell_of_obj HXG.out (j := 2) (v := .int .i64 g.regs) rfl
                have y3 := cell_of_obj HXG.out (j := 3) (v := .int .i64 g.words) rfl
                have y4 := cell_of_obj HXG.out (j := 4) (v := .slice g.ca g.code.length g.cc) rfl
                have yf := cell_of_obj d15.f (j := 1) (v := .slice fa fs.length fc) rfl
                have HRR := Hid.mk' (HRN.out.next r14)
                clear d14 d15 og bo r14 q14 o14 og14 gg14 HRN HI HLV ye
                unfold Fn.val
                go_upto_region 22 with fail
                generalize W14.alloc (.cells (fnC g) 45) = W15 at *
                go_wp2_with (at_builtin; refine wpl_app rfl _ _ 23 23 _ _ rfl rfl rfl HAP.out ?_; rintro v20 W20 ⟨fa', fc', rfl, yc, zc, di20⟩)
                have HI := Hid.mk' di20
                go_roundw
                case rel => exact ⟨i + 1, fs ++ [g], fa', fc', _, by omega, by have := HFL.out; simp; omega, by go_num, HI.out, by rw [List.map_append]; exact HRR.out⟩
                case measure => simp [intOf]; omega
              · have HEND : Hid (Rn (listR fnR n2) bs s7 (fs.map Fn.er) s13) := by
                  show Rn _ _ _ _ _
                  rcases hout with h1 | ⟨e, p, rfl⟩
                  · obtain rfl : i = n2 := by omega
                    exact HRN.out
                  · exact HRN.out.more n2 hi _
                have hex : ((i : Int) < (n2 : Int) ∧ (re == 0) = false) ∨ ¬ (i : Int) < (n2 : Int) := by
                  by_cases h1 : i < n2
                  · rcases hout with h2 | ⟨e, p, rfl⟩
                    · exact absurd h1 h2
                    · obtain ⟨rfl, rfl, hne⟩ := ss_bad hrs
                      exact .inl ⟨by omega, beq_no hne⟩
                  · exact .inr (by omega)
                have HMO : Hid (∀ s', Rn endR bs s13 () s' → Rn moR bs (.at 0) (Mo.er ⟨ta, tc, ts, fa, fc, fs⟩) s') := fun s' h =>
                  HR4.out.bind (f := fun _ => (cntR 1 16 3).bind fun n => (listR w8R n).bind fun ths => (cntR 1 32 3).bind fun k => (listR fnR k).bind fun fs => endR.bind fun _ => Rd.ret (⟨none, 0, ths, none, 0, fs⟩ : Mo)) (HR5.out.bind (HRT.out.bind (HR7.out.bind (HEND.out.bind (h.bind (Rn.ret _))))))
                have ya := cell_of_obj hrb (j := 1) (v := .int .i64 (ra : Int)) rfl
                have yp := cell_of_obj hrb (j := 3) (v := .int .i64 rp) rfl
                have HRS := Hid.mk' hrs
                have HRB := Hid.mk' hrb
                clear hout hrs hrb HRN HR4 HR5 HRT HR7 HEND HFN
                by_cases hrest : ra < bs.length
                · have hlr : (ra : Int) < (bs.length : Int) := by omega
                  have HFF := Hid.mk' (HFA.out 7 ra _ _ HI.out.rd (by decide))
                  have HEN : Hid (Rn endR bs s13 () (failS s13 7 (ra : Int))) := by
                    show Rn _ _ _ _ _
                    cases s13 with
                    | bad e p => rfl
                    | «at» a =>
                      obtain ⟨rfl, _⟩ := ss_at HRS.out
                      simp only [Rn, endR, if_pos hrest]
                      rfl
                  clear HRS hrest HFA
                  rcases hex with ⟨hli3, hre⟩ | hli3
                  all_goals
                    go_wp2_with fail
                    refine HFF.out.mono ?_
                    rintro e W20 ⟨rfl, q20, o20⟩
                    obtain ⟨eb, pb, hfs⟩ : ∃ eb pb, failS s13 7 (ra : Int) = .bad eb pb := by cases s13 <;> exact ⟨_, _, rfl⟩
                    rw [hfs] at q20 HEN
                    have HI2 := Hid.mk' (HI.out.read q20 o20)
                    obtain ⟨a2, e2, p2, hb2, _, hs2⟩ := q20.ex
                    obtain ⟨rfl, rfl, hne⟩ := ss_bad hs2
                    have hq : (e2 != 0) = true := bne_of hne
                    have c2 := cell_of_obj hb2 (j := 2) (v := .int .i64 e2) rfl
                    have c3 := cell_of_obj hb2 (j := 3) (v := .int .i64 p2) rfl
                    have z0 := cell_of_obj HI2.out.z (j := 0) (v := .slice none 0 0) rfl
                    have z1 := cell_of_obj HI2.out.z (j := 1) (v := .slice none 0 0) rfl
                    have f0 := Lib.frozen_of_heap HI2.out.z 0
                    have f1 := Lib.frozen_of_heap HI2.out.z 1
                    have HD := Hid.mk' (decR_bad HL.out (HMO.out _ HEN.out) hne)
                    have HB := Hid.mk' HI2.out.ob
                    clear q20 o20 hb2 hs2 hfs hne HI HEN HMO HFF HI2 HRB ya yp ye
                    go_upto_region 26 with fail
                    go_region
                    all_goals go_wp2_with fail
                    all_goals exact bodyPost_ret (v := .tuple #[.agg #[.slice none 0 0, .slice none 0 0], .int .i64 e2, .int .i64 p2]) (by simp [results, Tryd.results14, go_sem, *]) rfl ⟨mo0, e2, p2, rfl, HD.out, own0 _ _, ((Below.drew HB.out).setCell (by simp) _).setCell (by simp) _⟩
                · have hlr : ¬ (ra : Int) < (bs.length : Int) := by omega
                  have z0 := cell_of_obj HI.out.z (j := 0) (v := .slice none 0 0) rfl
                  have z1 := cell_of_obj HI.out.z (j := 1) (v := .slice none 0 0) rfl
                  have f0 := Lib.frozen_of_heap HI.out.z 0
                  have f1 := Lib.frozen_of_heap HI.out.z 1
                  have HB := Hid.mk' HI.out.ob
                  clear HFA
                  cases s13 with
                  | bad eb pb =>
                    obtain ⟨rfl, rfl, hne⟩ := ss_bad HRS.out
                    have hq : (re != 0) = true := bne_of hne
                    have HD := Hid.mk' (decR_bad HL.out (HMO.out (.bad re rp) rfl) hne)
                    clear HRS HMO hne hrest HRB HI
                    rcases hex with ⟨hli3, hre⟩ | hli3
                    all_goals
                      go_upto_region 26 with fail
                      go_region
                      all_goals go_wp2_with fail
                      all_goals exact bodyPost_ret (v := .tuple #[.agg #[.slice none 0 0, .slice none 0 0], .int .i64 re, .int .i64 rp]) (by simp [results, Tryd.results14, go_sem, *]) rfl ⟨mo0, re, rp, rfl, HD.out, own0 _ _, ((Below.drew HB.out).setCell (by simp) _).setCell (by simp) _⟩
                  | «at» aa =>
                    obtain ⟨rfl, rfl⟩ := ss_at HRS.out
                    have HD := Hid.mk' (decR_ok HL.out (HMO.out (.at ra) (by simp [Rn, endR, if_neg hrest])))
                    have g0 := cell_of_obj HI.out.f (j := 0) (v := .slice ta ts.length tc) rfl
                    have g1 := cell_of_obj HI.out.f (j := 1) (v := .slice fa fs.length fc) rfl
                    have HOM := Hid.mk' (HI.out.o.put HI.out.z (by decide) (by decide) (by decide) (by decide) (set2 _ _ (.slice ta ts.length tc) (.slice fa fs.length fc)))
                    clear HRS HMO hrest HRB HI yp
                    rcases hex with ⟨hli3, hre⟩ | hli3
                    · simp at hre
                    · go_wp2_with fail
                      exact bodyPost_ret (v := .tuple #[.agg #[.slice ta ts.length tc, .slice fa fs.length fc], .int .i64 0, .int .i64 0]) (by simp [results, Tryd.results14, go_sem, *]) rfl ⟨⟨ta, tc, ts, fa, fc, fs⟩, 0, 0, rfl, HD.out, HOM.out, (HB.out.setCell (by simp) _).setCell (by simp) _⟩
end Go.Proofs.YtfamomjgjamnoaaDoor
