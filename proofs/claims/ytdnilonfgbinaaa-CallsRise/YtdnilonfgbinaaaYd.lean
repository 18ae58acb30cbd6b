/- waitsOf: how it begins. What the map says of who calls whom: plain; marks of loops over functions. cycle: the least ring's least call. calls.Order. -/
import Derived.Test.YtdnilonfgbinaaaYc
import Derived.Test.YtdnilonfgbinaaaYb
namespace Go.Proofs.Ytdnilonfgbinaaa
open Go.RowKit Go.Sort Go.MapKept Go.ChangeMaps

theorem Wa.putN {N b : Nat} {s : List Nat} {gs : Nat → List Nat} {W0 W : World} (h : Wa N b s gs W0) (hb0 : Below W0.heap.size W0 W) {k c : Nat} {g : List Nat} (hk : k ∉ s) (hk6 : k ≤ 4611686018427387904) (hl : s.length ≤ 1000000) (hc : Mst W c g) (hgl : g.length ≤ 1024) (hc0 : W0.heap.size ≤ c) (hN : N ≤ W0.heap.size) :
    ∃ W', (Instr.mapUpdate 58 (.map (some b)) (.int .i64 (k : Int)) (.map (some c))).run Try.prog W = .ok () W' ∧ Wa N b (k :: s) (fun x => if x = k then g else gs x) W' ∧ W.grownBy W' (some b) := by
  obtain ⟨D, bx, h0, h2, h30⟩ := h
  have hno : ∀ j ∈ s, bx j ≠ c := fun j hj e => by have := (h30.m j hj).lt; omega
  have hb : c ≠ b := fun e => by have := h0.lt; omega
  have hN2 : N ≤ c := Nat.le_trans hN hc0
  have h1 := own_map h0 hb0
  have h3 := h30.stay hb0
  have htd := h1.tidy keyedN
  have hki : I64 (k : Int) := ⟨by omega, by omega⟩
  obtain ⟨W', hr, ho, hg⟩ := h1.update keyedN Try.underlying58 (by unfold maxLen; omega) (key := .int .i64 (k : Int)) (val := .map (some c)) (d := .held c) (ps := []) (Maps.keyOf_int_mk Try.underlying3 (a := (k : Int)) (by simp [Lit.wf]; exact hki)) rfl
  refine ⟨W', hr, ⟨_, _, ho, h2.put htd hk hk6 c, h3.lb, ?_, ?_, ?_, ?_⟩, hg⟩
  · intro x hx
    rcases List.mem_cons.1 hx with rfl | hx
    · rw [if_pos rfl]; exact ⟨hN2, hb⟩
    · rw [if_neg (ne_mem hk hx)]; exact h3.li x hx
  · intro x hx y hy e
    by_cases e1 : x = k <;> by_cases e2 : y = k
    · rw [e1, e2]
    · rw [if_pos e1, if_neg e2] at e
      exact absurd e.symm (hno y ((List.mem_cons.1 hy).resolve_left e2))
    · rw [if_pos e2, if_neg e1] at e
      exact absurd e (hno x ((List.mem_cons.1 hx).resolve_left e1))
    · rw [if_neg e1, if_neg e2] at e
      exact h3.inj x ((List.mem_cons.1 hx).resolve_left e1) y ((List.mem_cons.1 hy).resolve_left e2) e
  · intro x hx
    rcases List.mem_cons.1 hx with rfl | hx
    · rw [if_pos rfl, if_pos rfl]; exact hc.kept hg (fun e => hb (Option.some.inj e).symm)
    · rw [if_neg (ne_mem hk hx), if_neg (ne_mem hk hx)]
      exact (h3.m x hx).kept hg (fun e => (h3.li x hx).2 (Option.some.inj e).symm)
  · intro x hx
    rcases List.mem_cons.1 hx with rfl | hx
    · rw [if_pos rfl]; exact hgl
    · rw [if_neg (ne_mem hk hx)]; exact h3.len x hx
/-- The first so many, the last one first. -/
def dnU (u : Nat) : List Nat := (List.range u).reverse
theorem dnU_succ (u : Nat) : dnU (u + 1) = u :: dnU u := by unfold dnU; rw [List.range_succ, List.reverse_append]; rfl
theorem mem_dnU {u k : Nat} : k ∈ dnU u ↔ k < u := by unfold dnU; rw [List.mem_reverse, List.mem_range]
theorem dnU_len (u : Nat) : (dnU u).length = u := by unfold dnU; simp
/-- What the loop holds. -/
structure WfI (w : World) (m : Mo) (u : Nat) (gs : Nat → List Nat) (W : World) : Prop where
  x : W.heap[w.heap.size]? = some (moB m)
  a : Wa w.heap.size (w.heap.size + 1) (dnU u) gs W
  c : ∀ k, k < u → ∀ y, y ∈ gs k ↔ CE m k y
  b : Below w.heap.size w W
theorem WfI.next {w : World} {m : Mo} {u : Nat} {gs : Nat → List Nat} {W W' : World} (h : WfI w m u gs W) {g : List Nat} (hg : ∀ y, y ∈ g ↔ CE m u y) (ha : Wa w.heap.size (w.heap.size + 1) (u :: dnU u) (fun x => if x = u then g else gs x) W') (hb : W'.heap[w.heap.size]? = some (moB m)) (hbl : Below w.heap.size w W') : WfI w m (u + 1) (fun x => if x = u then g else gs x) W' :=
  ⟨hb, by rw [dnU_succ]; exact ha, fun k hk y => by
    by_cases e : k = u
    · subst e
      rw [if_pos rfl]
      exact hg y
    · rw [if_neg e]
      exact h.c k (by omega) y, hbl⟩
def WfP (m : Mo) (w : World) (e : Ending) (w' : World) : Prop := ∃ b gs, e = .returned (.map (some b)) ∧ Wa w.heap.size b (dnU m.funcs.length) gs w' ∧ (∀ k, k < m.funcs.length → ∀ y, y ∈ gs k ↔ CE m k y) ∧ Below w.heap.size w w'
set_option maxRecDepth 100000 in
set_option maxHeartbeats 4000000 in
theorem waitsOf_any (mw : World) (m : Mo) (hn : m.funcs.length ≤ 1000) (w : World) (hm : m.In mw) (ha : AllIn mw w) : Calls Try.prog 20 #[m.val] w (WfP m w) := by
  have b1 := Below.one (Below.refl _ w) (moB m)
  have b2 := Below.one (Below.refl _ (w.alloc (moB m))) (.map #[] 0)
  have HI0 : Hid (WfI w m 0 (fun _ => []) ((w.alloc (moB m)).alloc (.map #[] 0))) := by
    have h := World.ownsMap_made (H := Nat) (w.alloc (moB m)) Try.prog 3 mapElem
    rw [World.size_alloc] at h
    refine ⟨blk_stay (heap_alloc_new w (moB m)) b2, ⟨.map [], fun _ => 0, h, ⟨rfl, List.nodup_nil, (fun k hk => by cases hk), fun z => rfl, (fun k hk => by cases hk)⟩, ⟨Nat.le_succ _, (fun k hk => by cases hk), (fun k hk => by cases hk), (fun k hk => by cases hk), (fun k hk => by cases hk)⟩⟩, (fun k hk => by omega), Below.on b1 b2⟩
  have HCB : Hid (∀ u, u < m.funcs.length → ∀ w', Below w.heap.size w w' → Calls Try.prog 15 #[m.val, .int .i64 (u : Int)] w' fun e w2 => ∃ c g, e = .returned (.map (some c)) ∧ w'.heap.size ≤ c ∧ Mst w2 c g ∧ (∀ y, y ∈ g ↔ CE m u y) ∧ g.length ≤ 1024 ∧ Below w'.heap.size w' w2) := fun u hu w' hb => by
    obtain ⟨f, hf⟩ : ∃ f, m.funcs[u]? = some f := ⟨_, List.getElem?_eq_getElem hu⟩
    obtain ⟨rs, hrs⟩ := isR_ex f.code
    refine (calledBy_any mw m u f rs hf hrs w' hm (ha.below hb)).mono ?_
    rintro e w2 ⟨c, g, h1, h2, h3, h4, h5, h6⟩
    exact ⟨c, g, h1, h2, h3, fun y => (h4 y).trans (cal_at hf hrs y).symm, h5, h6⟩
  have hmm := @run_makeMap Try.prog
  have c1 := cell_of_obj HI0.out.x (j := 1) (v := .slice m.fa m.funcs.length m.fc) rfl
  have hml := hm.2.2.1.1
  clear hm ha b1 b2
  obtain ⟨mta, mtc, mths, mfa, mfc, mfs⟩ := m
  simp only [moB, Mo.val] at *
  go_enter Try.func20, Try.ntmps20
  go_wp2_with fail
  clear hmm c1
  generalize (w.alloc (.cells #[.slice mta mths.length mtc, .slice mfa mfs.length mfc] 25)).alloc (.map #[] 0) = W0 at *
  go_loopw [9] (fun t9 wr => ∃ (u : Nat) (gs : Nat → List Nat), t9 = .int .i64 (u : Int) ∧ u ≤ mfs.length ∧ WfI w ⟨mta, mtc, mths, mfa, mfc, mfs⟩ u gs wr) (fun t9 _ => mfs.length - (intOf t9).toNat)
  case atStart => exact ⟨0, _, rfl, Nat.zero_le _, HI0.out⟩
  case round =>
    obtain ⟨u, gs, rfl, hu, hwf⟩ := hrel
    have HWF := Hid.mk' hwf
    clear hwf HI0
    by_cases hlt : u < mfs.length
    · have hlti : (u : Int) < (mfs.length : Int) := by omega
      have HCU := Hid.mk' (HCB.out u hlt _ HWF.out.b)
      have z0 := cell_of_obj HWF.out.x (j := 0) (v := .slice mta mths.length mtc) rfl
      have z1 := cell_of_obj HWF.out.x (j := 1) (v := .slice mfa mfs.length mfc) rfl
      go_upto_region 5 with fail
      go_wp2_with (go_at_call 15; refine HCU.out.mono ?_; rintro e w2 ⟨c, g, rfl, hc, hm2, hg2, hl2, hb2⟩; obtain ⟨W3, hp3, ha3, hg3⟩ := HWF.out.a.putN hb2 (k := u) (fun h => absurd (mem_dnU.1 h) (Nat.lt_irrefl _)) (by omega) (by rw [dnU_len]; omega) hm2 hl2 hc HWF.out.b.size; have HA3 := Hid.mk' ha3; have HG3 := Hid.mk' hg3; have HG2 := Hid.mk' hg2; have HB2 := Hid.mk' hb2; clear ha3 hg3 hg2 hb2 hm2 hc z0 z1)
      have HX2 := Hid.mk' (blk_stay HWF.out.x HB2.out)
      have HN := Hid.mk' (HWF.out.next HG2.out HA3.out ((HG3.out.block _ (Array.getElem?_eq_some_iff.1 HX2.out).1 (fun e => by injection e with e; omega)).trans HX2.out) ((Below.on HWF.out.b HB2.out).grown HG3.out (Below.on HWF.out.b HB2.out).size (fun j hj => by injection hj with hj; omega)))
      go_roundw
      case rel => exact ⟨u + 1, _, by go_num, by omega, HN.out⟩
      case measure => simp [intOf]; omega
    · obtain rfl : u = mfs.length := by omega
      go_wp2_with fail
      go_ret
      exact ⟨_, gs, rfl, HWF.out.a, HWF.out.c, HWF.out.b⟩
end Go.Proofs.Ytdnilonfgbinaaa
namespace Go.Proofs.Ytdnilonfgbinaaa
open Go.RowKit Go.Shelf

/-- The map tells who waits still, and for whom. -/
structure WtM (m : Mo) (os s : List Nat) (gs : Nat → List Nat) : Prop where
  ho : Ord (CE m) m.funcs.length os
  hs : ∀ k, k ∈ s ↔ k < m.funcs.length ∧ k ∉ os
  hg : ∀ k ∈ s, ∀ y, y ∈ gs k ↔ Wts m os k y
theorem ce_left {m : Mo} {k y : Nat} (h : CE m k y) : k < m.funcs.length := by
  obtain ⟨fn, f, rs, u, e, h1, _⟩ := h
  have := (List.getElem?_eq_some_iff.1 h1).1
  omega
theorem gw_wts {m : Mo} {os s : List Nat} {gs : Nat → List Nat} (h : WtM m os s gs) {k y : Nat} : Gw s gs k y ↔ Wts m os k y := by
  constructor
  · exact fun ⟨h1, h2⟩ => (h.hg k h1 y).1 h2
  · intro hw
    have hk : k ∈ s := (h.hs k).2 ⟨ce_left hw.1, fun hk => hw.2 (by
      obtain ⟨i, hi, e1⟩ := List.mem_iff_getElem.1 hk
      obtain ⟨j, _, e2⟩ := h.ho.ahead (.one hw.1) (i := i) (by rw [List.getElem?_eq_getElem hi, e1])
      exact List.mem_of_getElem? e2)⟩
    exact ⟨hk, (h.hg k hk y).2 hw⟩
theorem back_iff {m : Mo} {os s : List Nat} {gs : Nat → List Nat} (h : WtM m os s gs) {fn c : Nat} (hc : CE m fn c) : Ld (Gw s gs) c fn ↔ (c = fn ∨ Ld (CE m) c fn) := by
  constructor
  · exact fun hl => .inr (hl.mono fun a b k => ((gw_wts h).1 k).1)
  · intro hl
    have hL : Ld (CE m) c fn := by
      rcases hl with rfl | hl
      · exact .one hc
      · exact hl
    have hf : fn ∉ os := fun hm => h.ho.no_ring hm (.on hc hL)
    exact (wts_leads h.ho hf hL).2.mono fun a b k => (gw_wts h).2 k
theorem WtM.start {m : Mo} {gs : Nat → List Nat} (h : ∀ k, k < m.funcs.length → ∀ y, y ∈ gs k ↔ CE m k y) : WtM m [] (dnU m.funcs.length) gs :=
  ⟨Ord.nil _ _, fun k => by rw [mem_dnU]; simp, fun k hk y => (h k (mem_dnU.1 hk) y).trans ⟨fun h => ⟨h, by simp⟩, fun h => h.1⟩⟩
theorem WtM.next {m : Mo} {os s : List Nat} {gs : Nat → List Nat} {f : Nat} (h : WtM m os s gs) (hf : LstR (CE m) m.funcs.length os f) (hn : s.Nodup) (hgn : ∀ k ∈ s, (gs k).Nodup) : WtM m (os ++ [f]) (s.erase f) (fun k => (gs k).erase f) := by
  refine ⟨h.ho.snoc hf, fun k => ?_, fun k hk y => ?_⟩
  · rw [mem_er hn, h.hs, List.mem_append, List.mem_singleton]
    constructor
    · rintro ⟨⟨h1, h2⟩, h3⟩
      refine ⟨h1, ?_⟩
      rintro (h | h)
      · exact h2 h
      · exact h3 h
    · exact fun ⟨h1, h2⟩ => ⟨⟨h1, fun h => h2 (.inl h)⟩, fun h => h2 (.inr h)⟩
  · have hks := ((mem_er hn).1 hk).1
    rw [mem_er (hgn k hks), h.hg k hks, wts_next]
theorem WtM.least {m : Mo} {os s : List Nat} {gs : Nat → List Nat} (h : WtM m os s gs) {f : Nat} (hf : f ∈ s) (h0 : gs f = []) (hl : ∀ k ∈ s, gs k = [] → f ≤ k) : LstR (CE m) m.funcs.length os f := by
  refine ⟨((h.hs f).1 hf).1, rdy_wts.2 ⟨((h.hs f).1 hf).2, fun g hg => ?_⟩, fun g hg hr => ?_⟩
  · have := (h.hg f hf g).2 hg
    rw [h0] at this
    cases this
  · have hgs := (h.hs g).2 ⟨hg, hr.1⟩
    refine hl g hgs (List.eq_nil_iff_forall_not_mem.2 fun y hy => ?_)
    exact (rdy_wts.1 hr).2 y ((h.hg g hgs y).1 hy)
theorem WtM.stuck {m : Mo} {os s : List Nat} {gs : Nat → List Nat} (h : WtM m os s gs) (h0 : ∀ k ∈ s, gs k ≠ []) (hs : s ≠ []) : ∃ g, g < m.funcs.length ∧ Ld (CE m) g g := by
  obtain ⟨f, hf⟩ := List.exists_mem_of_ne_nil s hs
  obtain ⟨h1, h2⟩ := (h.hs f).1 hf
  obtain ⟨g, h3, _, h4⟩ := stuck_ring (ce_lt m) (fun k hk hr => h0 k ((h.hs k).2 ⟨hk, hr.1⟩) (List.eq_nil_iff_forall_not_mem.2 fun y hy => (rdy_wts.1 hr).2 y ((h.hg k ((h.hs k).2 ⟨hk, hr.1⟩) y).1 hy))) h1 h2
  exact ⟨g, h3, h4⟩
theorem WtM.whole {m : Mo} {os : List Nat} {gs : Nat → List Nat} (h : WtM m os [] gs) : OrdOf m os := by
  refine ⟨h.ho, Nat.le_antisymm h.ho.len (Nat.le_of_not_lt fun hl => ?_)⟩
  obtain ⟨x, h1, h2⟩ := nd_some hl
  have := (h.hs x).2 ⟨h1, h2⟩
  cases this

/-- The deferred records are marks of blocks of their own, from N to G. -/
def mkD (d : Nat) : Deferred := { target := .collected d, args := #[] }
def Mk (N G : Nat) (D : List Deferred) (W : World) : Prop := ∃ ds : List Nat, D = ds.map mkD ∧ ds.Nodup ∧ ∀ d ∈ ds, N ≤ d ∧ d < G ∧ W.heap[d]? = some (.deferred (some []))
theorem Mk.nil (N G : Nat) (W : World) : Mk N G [] W := ⟨[], rfl, List.nodup_nil, by simp⟩
theorem Mk.keep {N G G' : Nat} {D : List Deferred} {W W' : World} (h : Mk N G D W) (hG : G ≤ G') (hk : ∀ d, N ≤ d → d < G → W.heap[d]? = some (.deferred (some [])) → W'.heap[d]? = some (.deferred (some []))) : Mk N G' D W' := by
  obtain ⟨ds, e, hn, hd⟩ := h
  exact ⟨ds, e, hn, fun d hm => ⟨(hd d hm).1, by have := (hd d hm).2.1; omega, hk d (hd d hm).1 (hd d hm).2.1 (hd d hm).2.2⟩⟩
theorem Mk.stay {N G G' : Nat} {D : List Deferred} {W W' : World} (h : Mk N G D W) (hG : G ≤ G') (hb : Below W.heap.size W W') : Mk N G' D W' := h.keep hG fun _ _ _ hk => blk_stay hk hb
theorem Mk.grown {N G : Nat} {D : List Deferred} {W W' : World} {row : Option Nat} (h : Mk N G D W) (hg : W.grownBy W' row) (hr : ∀ r, row = some r → G ≤ r ∨ ∃ o, W.heap[r]? = some o ∧ o ≠ .deferred (some [])) : Mk N G D W' := h.keep (Nat.le_refl _) fun d _ hd hk => (hg.block d (Array.getElem?_eq_some_iff.1 hk).1 fun e => by
  rcases hr d e.symm with h1 | ⟨o, h1, h2⟩
  · omega
  · rw [hk] at h1
    injection h1 with h1
    exact h2 h1.symm).trans hk
theorem Mk.cons {N G G' d : Nat} {D : List Deferred} {W : World} (h : Mk N G D W) (hN : N ≤ d) (hG : G ≤ d) (hd : d < G') (hK : W.heap[d]? = some (.deferred (some []))) : Mk N G' (mkD d :: D) W := by
  obtain ⟨ds, rfl, hn, hs⟩ := h
  refine ⟨d :: ds, rfl, List.nodup_cons.2 ⟨fun hm => by have := (hs d hm).2.1; omega, hn⟩, fun x hx => ?_⟩
  rcases List.mem_cons.1 hx with rfl | hx
  · exact ⟨hN, hd, hK⟩
  · exact ⟨(hs x hx).1, by have := (hs x hx).2.1; omega, (hs x hx).2.2⟩
theorem mk_leaves {n N : Nat} {fn : Func} {tmps : Array Value} {R : Ending → World → Prop} {J : World → Prop} (hJ : ∀ W d, J W → W.heap[d]? = some (.deferred (some [])) → N ≤ d → J (W.putObj d (.deferred none))) (hend : ∀ W, J W → LeavesIn Fence.wide n Try.prog fn tmps R [] .returning W) : ∀ (ds : List Nat) (W : World), ds.Nodup → (∀ d ∈ ds, N ≤ d ∧ W.heap[d]? = some (.deferred (some []))) → J W → LeavesInM Fence.wide n Try.prog fn tmps R (ds.map mkD) .returning W
  | [], W, _, _, hj => hend W hj
  | d :: ds, W, hn, hs, hj => by
    obtain ⟨hd, hK⟩ := hs d (by simp)
    obtain ⟨hn1, hn2⟩ := List.nodup_cons.1 hn
    have hne : ∀ x ∈ ds, x ≠ d := fun x hx e => hn1 (e ▸ hx)
    refine ⟨by simp, .inl ⟨d, _, rfl, run_takeDeferred hK, mk_leaves hJ hend ds _ hn2 (fun x hx => ⟨(hs x (by simp [hx])).1, ?_⟩) (hJ W d hj hK hd)⟩⟩
    exact (World.putObj_heap_other (hne x hx)).trans (hs x (by simp [hx])).2
theorem Mk.leaves {n N G : Nat} {fn : Func} {tmps : Array Value} {R : Ending → World → Prop} {J : World → Prop} {D : List Deferred} {W : World} (h : Mk N G D W) (hJ : ∀ W d, J W → W.heap[d]? = some (.deferred (some [])) → N ≤ d → J (W.putObj d (.deferred none))) (hend : ∀ W, J W → LeavesIn Fence.wide n Try.prog fn tmps R [] .returning W) (hj : J W) : LeavesInM Fence.wide n Try.prog fn tmps R D .returning W := by
  obtain ⟨ds, rfl, hn, hd⟩ := h
  exact mk_leaves hJ hend ds W hn (fun d hm => ⟨(hd d hm).1, (hd d hm).2.2⟩) hj
end Go.Proofs.Ytdnilonfgbinaaa
namespace Go.Proofs.Ytdnilonfgbinaaa
open Go.RowKit Go.Shelf
attribute [local go_sem] Oper.semAt_some

abbrev ftB (x y z : Int) : Obj := .cells #[.int .i64 x, .int .i64 y, .int .i64 z] 35
theorem Try.sizeFt : (Try.prog.info? 35).map (·.size) = some 3 := by kernel_rfl
theorem froz_no {W : World} {b : Nat} {cs : Array Value} {T : TypeId} (h : W.heap[b]? = some (.cells cs T)) (j : Nat) : W.frozen? ⟨b, j, none⟩ = false := by
  unfold World.frozen?
  simp only [h]
  simp
theorem set3 {W : World} {b : Nat} (h : W.heap[b]? = some (ftB 0 0 0)) (x y z : Int) : (((W.setCell ⟨b, 0, none⟩ (.int .i64 x)).setCell ⟨b, 1, none⟩ (.int .i64 y)).setCell ⟨b, 2, none⟩ (.int .i64 z)).heap[b]? = some (ftB x y z) ∧ W.grownBy (((W.setCell ⟨b, 0, none⟩ (.int .i64 x)).setCell ⟨b, 1, none⟩ (.int .i64 y)).setCell ⟨b, 2, none⟩ (.int .i64 z)) (some b) := by
  have h1 := heap_setCell_same W b 0 _ _ (.int .i64 x) h
  have h2 := heap_setCell_same _ b 1 _ _ (.int .i64 y) h1
  have h3 := heap_setCell_same _ b 2 _ _ (.int .i64 z) h2
  refine ⟨by simpa using h3, ⟨rfl, rfl, rfl, by simp, fun k _ hk => ?_⟩⟩
  have hne : k ≠ b := fun e => hk (by rw [e])
  exact (heap_setCell_other _ _ _ _ hne).trans ((heap_setCell_other _ _ _ _ hne).trans (heap_setCell_other _ _ _ _ hne))
/-- What lies all the time. -/
structure CyO (w : World) (m : Mo) (W : World) : Prop where
  xm : W.heap[w.heap.size]? = some (moB m)
  xf : W.heap[w.heap.size + 1]? = some (ftB 0 0 0)
  b : Below w.heap.size w W
theorem CyO.stay {w : World} {m : Mo} {W W' : World} (h : CyO w m W) (hb : Below W.heap.size W W') : CyO w m W' := ⟨blk_stay h.xm hb, blk_stay h.xf hb, Below.on h.b hb⟩
theorem CyO.own {w : World} {m : Mo} {B : Nat} (hB : w.heap.size + 1 < B) : ∀ (W W' : World) (row : Option Nat), CyO w m W → W.grownBy W' row → (∀ r, row = some r → B ≤ r) → CyO w m W' := fun W W' row h hg hr =>
  ⟨(hg.block _ (Array.getElem?_eq_some_iff.1 h.xm).1 (fun e => by have := hr _ e.symm; omega)).trans h.xm, (hg.block _ (Array.getElem?_eq_some_iff.1 h.xf).1 (fun e => by have := hr _ e.symm; omega)).trans h.xf, h.b.grown hg h.b.size (fun k e => by have := hr k e; omega)⟩
/-- What the loop over the calls keeps. -/
structure CyJ (w : World) (m : Mo) (D : List Deferred) (G xb xk A u : Nat) (al : List Nat) (pre : List (Nat × Nat)) (W : World) : Prop where
  o : CyO w m W
  k : Mk w.heap.size G D W
  f5 : W.heap[xb]? = some (.cells #[.int .i64 (u : Int)] 3)
  f6 : W.heap[xk]? = some (.cells #[.map (some A)] 48)
  m : Mst W A al
  n : ∀ x ∈ pre, x.2 ∉ al
theorem CyJ.own {w : World} {m : Mo} {D : List Deferred} {G xb xk A u : Nat} {al : List Nat} {B : Nat} (h1 : w.heap.size + 1 < B) (h2 : G ≤ B) (h3 : xb < B) (h4 : xk < B) (h5 : A < B) : OwnFrom B (CyJ w m D G xb xk A u al) := fun pre W W' row h hg hr =>
  ⟨CyO.own h1 W W' row h.o hg (fun r e => (hr r e).1), h.k.grown hg (fun r e => .inl (by have := (hr r e).1; omega)),
   (hg.block _ (Array.getElem?_eq_some_iff.1 h.f5).1 (fun e => by have := (hr _ e.symm).1; omega)).trans h.f5, (hg.block _ (Array.getElem?_eq_some_iff.1 h.f6).1 (fun e => by have := (hr _ e.symm).1; omega)).trans h.f6,
   h.m.kept hg (fun e => by have := (hr _ e).1; omega), h.n⟩
theorem CyJ.stay {w : World} {m : Mo} {D : List Deferred} {G xb xk A u : Nat} {al : List Nat} {pre : List (Nat × Nat)} {W W' : World} (h : CyJ w m D G xb xk A u al pre W) (hb : Below W.heap.size W W') : CyJ w m D G xb xk A u al pre W' :=
  ⟨h.o.stay hb, h.k.stay (Nat.le_refl _) hb, blk_stay h.f5 hb, blk_stay h.f6 hb, h.m.stay hb, h.n⟩
/-- .. and what is left where one was found. -/
structure CyE (w : World) (u i : Nat) (W : World) : Prop where
  xf : W.heap[w.heap.size + 1]? = some (ftB 75 u i)
  b : Below w.heap.size w W
def CyX (w : World) (D : List Deferred) (G u : Nat) (al : List Nat) (c : Code) (pre : List (Nat × Nat)) (W : World) : Prop :=
  c = .ret ∧ ∃ pre' x, pre = pre' ++ [x] ∧ (∀ y ∈ pre', y.2 ∉ al) ∧ x.2 ∈ al ∧ CyE w u x.1 W ∧ Mk w.heap.size G D W
theorem CyE.grown {w : World} {u i : Nat} {W W' : World} {row : Option Nat} (h : CyE w u i W) (hg : W.grownBy W' row) (hr : ∀ r, row = some r → w.heap.size ≤ r ∧ r ≠ w.heap.size + 1) : CyE w u i W' :=
  ⟨(hg.block _ (Array.getElem?_eq_some_iff.1 h.xf).1 (fun e => (hr _ e.symm).2 rfl)).trans h.xf, h.b.grown hg h.b.size (fun k e => (hr k e).1)⟩
theorem CyX.own {w : World} {D : List Deferred} {G u : Nat} {al : List Nat} {B : Nat} (h1 : w.heap.size + 1 < B) (h2 : G ≤ B) (c : Code) : OwnFrom B (CyX w D G u al c) := fun pre W W' row h hg hr => by
  obtain ⟨h0, pre', x, e, h3, h4, h5, h6⟩ := h
  exact ⟨h0, pre', x, e, h3, h4, h5.grown hg (fun r e => by have := (hr r e).1; omega), h6.grown hg (fun r e => .inl (by have := (hr r e).1; omega))⟩
/-- The outer loop. -/
def CyI (w : World) (m : Mo) (b : Nat) (z : Nat) (a : Act) (W : World) : Prop := ∃ (u : Nat) (D : List Deferred) (t12 u5 u6 u7 u8 u13 u14 u15 u16 u17 u18 u19 u20 u21 u22 u23 u24 u25 u26 u27 u28 u29 u30 : Value),
  u ≤ m.funcs.length ∧ z = m.funcs.length - u ∧ t12 = .int .i64 (u : Int) ∧ Mk w.heap.size W.heap.size D W ∧ CyO w m W ∧ (∀ g, g < u → ¬ Ld (CE m) g g) ∧
  a = { tmps := #[m.val, .map (some b), .pointer (some ⟨w.heap.size, 0, none⟩), undef, .pointer (some ⟨w.heap.size + 1, 0, none⟩), u5, u6, u7, u8, .pointer (some ⟨w.heap.size, 1, none⟩), .slice m.fa m.funcs.length m.fc, .int .i64 (m.funcs.length : Int), t12, u13, u14, u15, u16, u17, u18, u19, u20, u21, u22, u23, u24, u25, u26, u27, u28, u29, u30], defers := D }
def CyP (m : Mo) (w : World) (e : Ending) (w' : World) : Prop := ∃ f i : Nat, e = .returned (.agg #[.int .i64 75, .int .i64 (f : Int), .int .i64 (i : Int)]) ∧ CycAt m f i ∧ Below w.heap.size w w'
theorem first_call {L pre : List (Nat × Nat)} {x : Nat × Nat} {P : Nat → Prop} (hp : pre ++ [x] <+: L) (hr : L.Pairwise (fun a b => a.1 < b.1)) (hn : ∀ y ∈ pre, ¬ P y.2) : ∀ y ∈ L, P y.2 → x.1 ≤ y.1 := by
  obtain ⟨t, rfl⟩ := hp
  intro y hy hP
  rcases List.mem_append.1 hy with hy | hy
  · rcases List.mem_append.1 hy with hy | hy
    · exact absurd hP (hn y hy)
    · rw [List.mem_singleton] at hy
      rw [hy]
      exact Nat.le_refl _
  · exact Nat.le_of_lt ((List.pairwise_append.1 hr).2.2 x (by simp) y hy)
set_option maxRecDepth 100000 in
set_option maxHeartbeats 4000000 in
theorem cycle_in (mw : World) (m : Mo) (os s : List Nat) (gs : Nat → List Nat) (b N : Nat) (hn : m.funcs.length ≤ 1000) (w : World) (hm : m.In mw) (ha : AllIn mw w) (hwa : Wa N b s gs w) (hwt : WtM m os s gs) (hring : ∃ g, g < m.funcs.length ∧ Ld (CE m) g g) :
    CallsIn Fence.wide 5 Try.prog 22 #[m.val, .map (some b)] w (CyP m w) := by
  have hsl : s.length ≤ 1000 := Nat.le_trans (nd_len hwa.nd fun x hx => ((hwt.hs x).1 hx).1) hn
  have HLE : Hid (∀ u : Nat, u < m.funcs.length → ∀ w', Below w.heap.size w w' → Calls Try.prog 30 #[.map (some b), .int .i64 (u : Int)] w' (LdP s gs u w')) := fun u hu w' hb => leading_any N b s gs u (by omega) hsl w' (hwa.stay hb)
  have HCO : Hid (∀ (u : Nat) f rs, m.funcs[u]? = some f → IsR f.code rs → ∀ w', Below w.heap.size w w' → Calls Try.prog 26 #[m.val, .int .i64 (u : Int)] w' (CoP mw m f rs w')) := fun u f rs hf hrs w' hb => callsOf_any mw m u f rs hf hrs w' hm (ha.below hb)
  have HWT := Hid.mk' hwt
  have HRG := Hid.mk' hring
  have HMW := Hid.mk' ha.le
  have hml := hm.2.2.1.1
  have HO0 : Hid (CyO w m ((w.alloc (moB m)).alloc (ftB 0 0 0))) := by
    have b1 := Below.one (Below.refl _ w) (moB m)
    have b2 := Below.one (Below.refl _ (w.alloc (moB m))) (ftB 0 0 0)
    have h := heap_alloc_new (w.alloc (moB m)) (ftB 0 0 0)
    rw [World.size_alloc] at h
    exact ⟨blk_stay (heap_alloc_new w (moB m)) b2, h, Below.on b1 b2⟩
  have c1 := cell_of_obj HO0.out.xm (j := 1) (v := .slice m.fa m.funcs.length m.fc) rfl
  clear hm ha hwa hwt hring hsl
  obtain ⟨mta, mtc, mths, mfa, mfc, mfs⟩ := m
  simp only [moB, ftB, Mo.val] at *
  refine callsIn_of_wp_marks Try.func22 rfl trivial ?_ rfl
  simp only [Try.ntmps22, List.size_toArray, List.length_cons, List.length_nil, Nat.reduceAdd, Nat.reduceSub, Array.replicate_succ, Array.replicate_zero, List.push_toArray, List.append_toArray, List.nil_append, List.cons_append]
  gi_wp2_with fail
  clear c1
  generalize (w.alloc (.cells #[.slice mta mths.length mtc, .slice mfa mfs.length mfc] 25)).alloc (.cells #[.int .i64 0, .int .i64 0, .int .i64 0] 35) = W0 at *
  refine wpIn_loop_ghost (CyI w ⟨mta, mtc, mths, mfa, mfc, mfs⟩ b) mfs.length ⟨0, [], _, _, _, _, _, _, _, _, _, _, _, _, _, _, _, _, _, _, _, _, _, _, _, Nat.zero_le _, rfl, rfl, Mk.nil _ _ _, HO0.out, (fun g hg => absurd hg (Nat.not_lt_zero _)), rfl⟩ ?_
  clear HO0
  rintro z a wr ⟨u, D, t12, u5, u6, u7, u8, u13, u14, u15, u16, u17, u18, u19, u20, u21, u22, u23, u24, u25, u26, u27, u28, u29, u30, hu, rfl, rfl, hmk, hco, hno, rfl⟩
  simp only [Mo.val] at *
  have HMK := Hid.mk' hmk
  have HCY := Hid.mk' hco
  have HNO := Hid.mk' hno
  have hsw := hco.b.size
  have hsf := (Array.getElem?_eq_some_iff.1 hco.xf).1
  clear hmk hco hno
  by_cases hlt : u < mfs.length
  rotate_left
  · exfalso
    obtain ⟨g, h1, h2⟩ := HRG.out
    exact HNO.out g (by omega) h2
  have hlti : (u : Int) < (mfs.length : Int) := by omega
  obtain ⟨f, hf⟩ : ∃ f, mfs[u]? = some f := ⟨_, List.getElem?_eq_getElem hlt⟩
  obtain ⟨rs, hrs⟩ := isR_ex f.code
  have HLU := Hid.mk' (HLE.out u hlt)
  have HCU := Hid.mk' (HCO.out u f rs hf hrs)
  have HF := Hid.mk' hf
  have HRS := Hid.mk' hrs
  have HB1 := Hid.mk' (Below.one (Below.refl _ wr) (.cells #[.int .i64 (u : Int)] 3))
  have HX5 := Hid.mk' (heap_alloc_new wr (.cells #[.int .i64 (u : Int)] 3))
  have x5 := cell_of_obj HX5.out (j := 0) (v := .int .i64 (u : Int)) rfl
  have HC1 := Hid.mk' (HCY.out.stay HB1.out)
  have HK1 : Hid (Mk w.heap.size wr.heap.size D (wr.alloc (.cells #[.int .i64 (u : Int)] 3))) := HMK.out.stay (Nat.le_refl _) HB1.out
  clear HLE HCO hf hrs HMK
  gi_wp2_with fail
  have hsz1 : (wr.alloc (.cells #[.int .i64 (u : Int)] 3)).heap.size = wr.heap.size + 1 := World.size_alloc ..
  generalize wr.alloc (.cells #[.int .i64 (u : Int)] 3) = w1 at *
  refine ⟨trivial, ?_⟩
  refine (callsIn_wide.2 (HLU.out _ HC1.out.b)).mono ?_
  rintro e w3 ⟨A, al, rfl, hA, hmA, hal, hb3⟩
  have HAL := Hid.mk' hal
  have HB4 := Hid.mk' (Below.one (Below.refl _ w3) (.cells #[.map (some A)] 48))
  have HX6 := Hid.mk' (heap_alloc_new w3 (.cells #[.map (some A)] 48))
  have hsz3 := hb3.size
  have hAl := hmA.lt
  have hx5l := (Array.getElem?_eq_some_iff.1 HX5.out).1
  have HJ3 : Hid (CyJ w ⟨mta, mtc, mths, mfa, mfc, mfs⟩ D wr.heap.size wr.heap.size w3.heap.size A u al [] (w3.alloc (.cells #[.map (some A)] 48))) :=
    ⟨(HC1.out.stay hb3).stay HB4.out, (HK1.out.stay (Nat.le_refl _) hb3).stay (Nat.le_refl _) HB4.out, blk_stay (blk_stay HX5.out hb3) HB4.out, HX6.out, hmA.stay HB4.out, (fun x h => by cases h)⟩
  have x5' := cell_of_obj HJ3.out.f5 (j := 0) (v := .int .i64 (u : Int)) rfl
  have y0 := cell_of_obj HJ3.out.o.xm (j := 0) (v := .slice mta mths.length mtc) rfl
  have y1 := cell_of_obj HJ3.out.o.xm (j := 1) (v := .slice mfa mfs.length mfc) rfl
  have hsz4 : (w3.alloc (.cells #[.map (some A)] 48)).heap.size = w3.heap.size + 1 := World.size_alloc ..
  clear hal hmA hb3 HC1 HK1 HX5 HX6 HB1 HB4 HLU x5
  gi_wp2_with fail
  generalize w3.alloc (.cells #[.map (some A)] 48) = w4 at *
  refine ⟨trivial, ?_⟩
  refine (callsIn_wide.2 (HCU.out _ HJ3.out.o.b)).mono ?_
  rintro e w5 ⟨B1, B2, rfl, hseq, bb5, hlt5⟩
  have HSQ := Hid.mk' hseq
  have HJ5 := Hid.mk' (HJ3.out.stay bb5)
  clear hseq bb5 x5' y0 y1 HJ3 HCU
  gi_wp2_with fail
  have hle := HMW.out
  have hwd : w.heap.size ≤ w5.heap.size := by omega
  have hal6 : ∀ x ∈ cls f.code rs mfs.length, x.2 ≤ 4611686018427387904 := fun x hx => by have := (cls_lt hx).1; omega
  have HA6 := Hid.mk' hal6
  clear hal6
  refine range_o (m := 4) (gf := 32) (lb := #[.pointer (some ⟨B1, 0, none⟩), .pointer (some ⟨B2, 0, none⟩)]) rfl (enters_of Try.func32 (by kernel_rfl) rfl) HSQ.out (Below.refl _ _) (fun _ => rfl) (fun h k => kpC_t h k) (fun W o' _ => kpC_b (by omega) (by omega) (by omega) W o')
    (CyJ w ⟨mta, mtc, mths, mfa, mfc, mfs⟩ D wr.heap.size wr.heap.size w3.heap.size A u al) (CyX w D wr.heap.size u al) (CyJ.own (by omega) (by omega) (by omega) (by omega) (by omega)) (fun c => CyX.own (by omega) (by omega) c) HJ5.out (fun x a' _ => a' = { tmps := #[.agg #[.slice mta mths.length mtc, .slice mfa mfs.length mfc], .map (some b), .pointer (some ⟨w.heap.size, 0, none⟩), undef, .pointer (some ⟨w.heap.size + 1, 0, none⟩), .pointer (some ⟨wr.heap.size, 0, none⟩), .pointer (some ⟨w3.heap.size, 0, none⟩), .int .i64 (x.1 : Int), .int .i64 (x.2 : Int), .pointer (some ⟨w.heap.size, 1, none⟩), .slice mfa mfs.length mfc, .int .i64 (mfs.length : Int), .int .i64 (u : Int), .bool true, .int .i64 (u : Int), .map (some b), .int .i64 (u : Int), .map (some A), .agg #[.slice mta mths.length mtc, .slice mfa mfs.length mfc], .int .i64 (u : Int), .func (.func 32) #[] #[.pointer (some ⟨B1, 0, none⟩), .pointer (some ⟨B2, 0, none⟩)], .int .i64 (x.1 : Int), .int .i64 (x.2 : Int), u23, u24, u25, u26, u27, u28, u29, u30], defers := [] }) (fun x a' _ W W' row h _ _ => h) ?assign ?body ?done ?stop
  case assign =>
    intro l pre x W hi _
    gi_wp2
    exact ⟨KeepsFrom.refl _ _, kpC_refl _ _ _ _ _, hi, trivial⟩
  case body =>
    rintro l pre x a' W hi rfl hpx
    have hx6 := HA6.out x (hpx.subset (by simp))
    have e6 := cell_of_obj hi.f6 (j := 0) (v := .map (some A)) rfl
    have HI := Hid.mk' hi
    clear hi
    by_cases hx : x.2 ∈ al
    · have HA := Hid.mk' (lhas_yes A al x.2 W HI.out.m hx hx6)
      have HX := Hid.mk' hx
      clear hx hx6
      gi_wp2_with fail
      refine ⟨trivial, ?_⟩
      refine (show CallsIn (Fence.wide.inRound l) 3 Try.prog 31 _ _ _ from callsIn_wide.2 HA.out).mono ?_
      rintro e W3 ⟨rfl, hb3⟩
      have HI3 := Hid.mk' (HI.out.stay hb3)
      have HB3 := Hid.mk' hb3
      have f5 := cell_of_obj HI3.out.f5 (j := 0) (v := .int .i64 (u : Int)) rfl
      have g0 := cell_of_obj HI3.out.o.xf (j := 0) (v := .int .i64 0) rfl
      have g1 := cell_of_obj HI3.out.o.xf (j := 1) (v := .int .i64 0) rfl
      have g2 := cell_of_obj HI3.out.o.xf (j := 2) (v := .int .i64 0) rfl
      have z0 := froz_no HI3.out.o.xf 0
      have z1 := froz_no HI3.out.o.xf 1
      have z2 := froz_no HI3.out.o.xf 2
      obtain ⟨q1, q2⟩ := set3 HI3.out.o.xf 75 (u : Int) (x.1 : Int)
      have HQ1 := Hid.mk' q1
      have HQ2 := Hid.mk' q2
      clear hb3 HA e6 q1 q2
      gi_wp2_with fail
      refine ⟨⟨Nat.le_trans HB3.out.size HQ2.out.size, fun k o hk h _ => (HQ2.out.block k (Array.getElem?_eq_some_iff.1 (blk_stay h HB3.out)).1 (fun e => by have := Option.some.inj e; omega)).trans (blk_stay h HB3.out)⟩,
        kpC_t (kpC_below HB3.out) (kpC_grown HQ2.out (by omega) (by omega) (by omega)), rfl, pre, x, rfl, HI.out.n, HX.out, ⟨HQ1.out, HI3.out.o.b.grown HQ2.out HI3.out.o.b.size (fun k e => by have := Option.some.inj e; omega)⟩,
        HI3.out.k.grown HQ2.out (fun r e => .inr (by have := Option.some.inj e; subst this; exact ⟨_, HI3.out.o.xf, by simp⟩))⟩
    · have HA := Hid.mk' (lhas_no A al x.2 W HI.out.m hx hx6)
      have HX := Hid.mk' hx
      clear hx hx6
      gi_wp2_with fail
      refine ⟨trivial, ?_⟩
      refine (show CallsIn (Fence.wide.inRound l) 3 Try.prog 31 _ _ _ from callsIn_wide.2 HA.out).mono ?_
      rintro e W3 ⟨rfl, hb3⟩
      have HI3 := Hid.mk' (HI.out.stay hb3)
      have HB3 := Hid.mk' hb3
      clear hb3 HA e6
      gi_wp2
      exact ⟨⟨HB3.out.size, fun k o _ h _ => blk_stay h HB3.out⟩, kpC_below HB3.out, ⟨HI3.out.o, HI3.out.k, HI3.out.f5, HI3.out.f6, HI3.out.m, fun y hy => by
        rcases List.mem_append.1 hy with hy | hy
        · exact HI3.out.n y hy
        · rw [List.mem_singleton] at hy
          rw [hy]
          exact HX.out⟩⟩
  case stop =>
    rintro c pre W hpre ⟨rfl, pre', x, rfl, hn', hx', he', hk'⟩ hK
    have hnew := hk'.cons (d := w5.heap.size) (G' := w5.heap.size + 1) hwd (by omega) (Nat.lt_succ_self _) hK
    have hxm : x ∈ cls f.code rs mfs.length := hpre.subset (by simp)
    have hce : CE ⟨mta, mtc, mths, mfa, mfc, mfs⟩ u x.2 := (cal_at HF.out HRS.out x.2).2 ⟨x.1, hxm⟩
    have hcond := (back_iff HWT.out hce).1 ((HAL.out x.2).1 hx')
    have hring : Ld (CE ⟨mta, mtc, mths, mfa, mfc, mfs⟩) u u := by
      rcases hcond with e | e
      · exact .one (e ▸ hce)
      · exact .on hce e
    have HCA : Hid (CycAt ⟨mta, mtc, mths, mfa, mfc, mfs⟩ u x.1) := ⟨hlt, hring, fun g hg => Nat.le_of_not_lt fun hl => HNO.out g hl hg, f, rs, HF.out, HRS.out, ⟨x.2, hxm, hcond⟩, fun j k hm hc =>
      first_call (P := fun k => k ∈ al) hpre (clU_rise f.code rs mfs.length rs.length).1 hn' (j, k) hm ((HAL.out k).2 ((back_iff HWT.out ((cal_at HF.out HRS.out k).2 ⟨j, hm⟩)).2 hc))⟩
    have HNW := Hid.mk' hnew
    have HEE := Hid.mk' he'
    clear hnew hxm hce hcond hring hk' he' hK
    gi_wp2
    refine Mk.leaves (J := CyE w u x.1) HNW.out (fun W d hj hd hN => hj.grown (grownBy_putObj' W d (.deferred none)) (fun r e => by
      have := Option.some.inj e
      subst this
      refine ⟨hN, fun e => ?_⟩
      rw [e, hj.xf] at hd
      cases hd)) (fun W hj => ⟨_, results_cell_row Try.results22 _ _ (w.heap.size + 1) _ _ _ _ rfl hj.xf Try.underlying35 rfl Try.sizeFt, u, x.1, rfl, HCA.out, hj.b⟩) HEE.out
  case done =>
    rintro W4 hi4 hK4
    have HI := Hid.mk' hi4
    have HK := Hid.mk' hK4
    clear hi4 hK4
    gi_wp2_with fail
    have HN2 : Hid (∀ g, g < u + 1 → ¬ Ld (CE ⟨mta, mtc, mths, mfa, mfc, mfs⟩) g g) := by
      intro g hg hL
      by_cases e : g = u
      · subst e
        obtain ⟨F, rs', i, k, h1, h2, h3, h4⟩ := cyc_call hL
        have e1 : F = f := by
          have h5 := HF.out
          rw [h1] at h5
          exact Option.some.inj h5
        subst e1
        obtain rfl := h2.one HRS.out
        exact HI.out.n (i, k) h3 ((HAL.out k).2 ((back_iff HWT.out ((cal_at HF.out HRS.out k).2 ⟨i, h3⟩)).2 h4))
      · exact HNO.out g (by omega) hL
    have HM4 := Hid.mk' (HI.out.k.cons (d := w5.heap.size) (G' := W4.heap.size) hwd (by omega) (Array.getElem?_eq_some_iff.1 HK.out).1 HK.out)
    exact ⟨mfs.length - (u + 1), by omega, u + 1, mkD w5.heap.size :: D, _, _, _, _, _, _, _, _, _, _, _, _, _, _, _, _, _, _, _, _, _, _, _, Nat.succ_le_of_lt hlt, rfl, by go_num, HM4.out, HI.out.o, HN2.out, rfl⟩
theorem cycle_any (mw : World) (m : Mo) (os s : List Nat) (gs : Nat → List Nat) (b N : Nat) (hn : m.funcs.length ≤ 1000) (w : World) (hm : m.In mw) (ha : AllIn mw w) (hwa : Wa N b s gs w) (hwt : WtM m os s gs) (hring : ∃ g, g < m.funcs.length ∧ Ld (CE m) g g) :
    Calls Try.prog 22 #[m.val, .map (some b)] w (CyP m w) := callsIn_wide.1 (cycle_in mw m os s gs b N hn w hm ha hwa hwt hring)
end Go.Proofs.Ytdnilonfgbinaaa
namespace Go.Proofs.Ytdnilonfgbinaaa
open Go.RowKit Go.Sort Go.MapKept Go.ChangeMaps

/-- What Order tells, of any module. -/
def OrT (m : Mo) (os : List Nat) (k f i : Int) : Prop :=
  (32 < m.funcs.length ∧ os = [] ∧ k = 3 ∧ f = 32 ∧ i = 0) ∨ (m.funcs.length ≤ 32 ∧ OrdOf m os ∧ k = 0 ∧ f = 0 ∧ i = 0) ∨ (m.funcs.length ≤ 32 ∧ os = [] ∧ k = 75 ∧ ∃ f' i' : Nat, f = (f' : Int) ∧ i = (i' : Int) ∧ CycAt m f' i')
theorem OrT.one {m : Mo} {os os' : List Nat} {k f i k' f' i' : Int} (h : OrT m os k f i) (h' : OrT m os' k' f' i') : os = os' ∧ k = k' ∧ f = f' ∧ i = i' := by
  rcases h with ⟨h1, rfl, rfl, rfl, rfl⟩ | ⟨h1, h2, rfl, rfl, rfl⟩ | ⟨h1, rfl, rfl, a, c, rfl, rfl, h2⟩ <;> rcases h' with ⟨k1, rfl, rfl, rfl, rfl⟩ | ⟨k1, k2, rfl, rfl, rfl⟩ | ⟨k1, rfl, rfl, a', c', rfl, rfl, k2⟩
  · exact ⟨rfl, rfl, rfl, rfl⟩
  · omega
  · omega
  · omega
  · exact ⟨h2.one k2, rfl, rfl, rfl⟩
  · exact absurd k2 h2.not_cyc
  · omega
  · exact absurd h2 k2.not_cyc
  · obtain ⟨rfl, rfl⟩ := h2.one k2
    exact ⟨rfl, rfl, rfl, rfl⟩
theorem Wa.mono {N N' b : Nat} {s : List Nat} {gs : Nat → List Nat} {W : World} (h : Wa N b s gs W) (hN : N' ≤ N) : Wa N' b s gs W := by
  obtain ⟨D, bx, h1, h2, h3⟩ := h
  exact ⟨D, bx, h1, h2, ⟨Nat.le_trans hN h3.lb, fun k hk => ⟨Nat.le_trans hN (h3.li k hk).1, (h3.li k hk).2⟩, h3.inj, h3.m, h3.len⟩⟩
theorem Wa.gnd {N b : Nat} {s : List Nat} {gs : Nat → List Nat} {W : World} (h : Wa N b s gs W) : ∀ k ∈ s, (gs k).Nodup := by
  obtain ⟨D, bx, h1, h2, h3⟩ := h
  exact fun k hk => (h3.m k hk).nd
theorem Wa.mps {N b : Nat} {s : List Nat} {gs : Nat → List Nat} {W : World} (h : Wa N b s gs W) : mpS W b = s.length := by
  obtain ⟨D, bx, ⟨es, clock, hb, _, _, rfl⟩, h2, h3⟩ := h
  unfold mpS
  rw [hb]
  rw [← h2.size]
  simp [Maps.size, DataW.length_sorted]
theorem Wa.no_own {N N' b n sz : Nat} {T : TypeId} {v : Value} {xs : List Value} {s : List Nat} {gs : Nat → List Nat} {W W' : World} (h : Wa N b s gs W) (ho : W.ownsRow N' T sz v n xs) (hg : W.grownBy W' v.ownBlock) : Wa N b s gs W' := by
  refine h.keep hg fun k e => ?_
  rcases ho.2 with ⟨rfl, _⟩ | ⟨g, cap, cur, rfl, _, hb, _⟩
  · cases e
  · cases e
    exact ⟨_, _, _, hb⟩
theorem results_tmp_cell {fn : Func} {t p : Tmp} {ty : TypeId} (h : fn.results = #[.tmp t, .cell p ty]) (tmps : Array Value) (w : World) (g : Nat) (T : TypeId) (cs : Array Value) (fr : Nat × Nat)
    (hp : tmps.getD p undef = .pointer (some ⟨g, 0, none⟩)) (hg : w.heap[g]? = some (.cells cs T fr))
    (hl : ∀ W : World, W.heap[g]? = some (.cells cs T fr) → (loadVar ty ⟨g, 0, none⟩).run Try.prog W = .ok (.agg cs) W) :
    (results fn tmps).run Try.prog w = .ok (.tuple #[tmps.getD t undef, .agg cs]) w := by
  have hp' : tmps[p]?.getD undef = .pointer (some ⟨g, 0, none⟩) := by simpa using hp
  simp [results, h, hp', asAddr, hl w hg]
/-- What the loop holds. -/
structure OdI (w : World) (m : Mo) (b : Nat) (os s : List Nat) (gs : Nat → List Nat) (v : Value) (W : World) : Prop where
  o : CyO w m W
  a : Wa w.heap.size b s gs W
  t : WtM m os s gs
  q : On w.heap.size os v W
def OrP (m : Mo) (w : World) (e : Ending) (w' : World) : Prop := ∃ (v : Value) (os : List Nat) (k f i : Int), e = .returned (.tuple #[v, .agg #[.int .i64 k, .int .i64 f, .int .i64 i]]) ∧ OrT m os k f i ∧ On w.heap.size os v w' ∧ Below w.heap.size w w'
theorem CyO.cel {w : World} {m : Mo} {W W' : World} (h : CyO w m W) (hc : Cel W W') (hb : Below w.heap.size W W') : CyO w m W' := ⟨hc _ _ h.xm (fun _ _ e => by cases e), hc _ _ h.xf (fun _ _ e => by cases e), h.b.trans hb⟩
theorem CyO.own' {w : World} {m : Mo} {W W' : World} {n : Nat} {v : Value} {xs : List Value} (h : CyO w m W) (ho : W.ownsRow w.heap.size 3 1 v n xs) (hg : W.grownBy W' v.ownBlock) : CyO w m W' :=
  ⟨(hg.block _ (Array.getElem?_eq_some_iff.1 h.xm).1 (Ne.symm (row_not ho h.xm (by decide)))).trans h.xm, (hg.block _ (Array.getElem?_eq_some_iff.1 h.xf).1 (Ne.symm (row_not ho h.xf (by decide)))).trans h.xf, h.b.grown hg h.b.size (fun k e => own_base ho k e)⟩
set_option maxRecDepth 100000 in
set_option maxHeartbeats 4000000 in
theorem order_any (mw : World) (m : Mo) (w : World) (hm : m.In mw) (ha : AllIn mw w) : Calls Try.prog 12 #[m.val] w (OrP m w) := by
  have HO0 : Hid (CyO w m ((w.alloc (moB m)).alloc (ftB 0 0 0))) := by
    have b1 := Below.one (Below.refl _ w) (moB m)
    have b2 := Below.one (Below.refl _ (w.alloc (moB m))) (ftB 0 0 0)
    have h := heap_alloc_new (w.alloc (moB m)) (ftB 0 0 0)
    rw [World.size_alloc] at h
    exact ⟨blk_stay (heap_alloc_new w (moB m)) b2, h, Below.on b1 b2⟩
  have c0 := cell_of_obj HO0.out.xm (j := 0) (v := .slice m.ta m.ths.length m.tc) rfl
  have c1 := cell_of_obj HO0.out.xm (j := 1) (v := .slice m.fa m.funcs.length m.fc) rfl
  have hml := hm.2.2.1.1
  by_cases h32 : 32 < m.funcs.length
  · have h32i : (32 : Int) < (m.funcs.length : Int) := by omega
    have g0 := cell_of_obj HO0.out.xf (j := 0) (v := .int .i64 0) rfl
    have g1 := cell_of_obj HO0.out.xf (j := 1) (v := .int .i64 0) rfl
    have g2 := cell_of_obj HO0.out.xf (j := 2) (v := .int .i64 0) rfl
    have z0 := froz_no HO0.out.xf 0
    have z1 := froz_no HO0.out.xf 1
    have z2 := froz_no HO0.out.xf 2
    have HT : Hid (OrT m [] 3 32 0) := .inl ⟨h32, rfl, rfl, rfl, rfl⟩
    clear hm ha
    obtain ⟨mta, mtc, mths, mfa, mfc, mfs⟩ := m
    simp only [moB, ftB, Mo.val] at *
    go_enter Try.func12, Try.ntmps12
    go_wp2_with fail
    have HX : Hid (((w.alloc (.cells #[.slice mta mths.length mtc, .slice mfa mfs.length mfc] 25)).alloc (.cells #[.int .i64 3, .int .i64 32, .int .i64 0] 35)).heap[w.heap.size + 1]? = some (ftB 3 32 0)) := by
      have h := heap_alloc_new (w.alloc (.cells #[.slice mta mths.length mtc, .slice mfa mfs.length mfc] 25)) (ftB 3 32 0)
      rw [World.size_alloc] at h
      exact h
    have HB : Hid (Below w.heap.size w ((w.alloc (.cells #[.slice mta mths.length mtc, .slice mfa mfs.length mfc] 25)).alloc (.cells #[.int .i64 3, .int .i64 32, .int .i64 0] 35))) := Below.one (Below.one (Below.refl _ w) _) _
    exact bodyPost_ret (results_tmp_cell Try.results12 _ _ (w.heap.size + 1) _ _ _ rfl HX.out (fun W hW => run_loadVar_row W _ _ _ _ _ _ hW Try.underlying35 rfl Try.sizeFt)) rfl ⟨_, [], 3, 32, 0, rfl, HT.out, on_nil _ _, HB.out⟩
  have h32i : ¬ (32 : Int) < (m.funcs.length : Int) := by omega
  have HWO : Hid (∀ w', Below w.heap.size w w' → Calls Try.prog 20 #[m.val] w' (WfP m w')) := fun w' hb => waitsOf_any mw m (by omega) w' hm (ha.below hb)
  have HCY : Hid (∀ w' os s gs b, Below w.heap.size w w' → Wa w.heap.size b s gs w' → WtM m os s gs → (∃ g, g < m.funcs.length ∧ Ld (CE m) g g) → Calls Try.prog 22 #[m.val, .map (some b)] w' (CyP m w')) := fun w' os s gs b hb h1 h2 h3 => cycle_any mw m os s gs b w.heap.size (by omega) w' hm (ha.below hb) h1 h2 h3
  have hn32 : m.funcs.length ≤ 32 := by omega
  obtain ⟨i0, hi, hz0, hz1, hz2⟩ := info_parts Try.infoN
  clear hm ha h32
  obtain ⟨mta, mtc, mths, mfa, mfc, mfs⟩ := m
  simp only [moB, ftB, Mo.val] at *
  go_enter Try.func12, Try.ntmps12
  go_wp2_with fail
  refine (HWO.out _ HO0.out.b).mono ?_
  generalize (w.alloc (.cells #[.slice mta mths.length mtc, .slice mfa mfs.length mfc] 25)).alloc (.cells #[.int .i64 0, .int .i64 0, .int .i64 0] 35) = W0 at *
  rintro e w1 ⟨b, gs0, rfl, ha1, hg1, hb1⟩
  have HO1 := Hid.mk' (HO0.out.stay hb1)
  have HA1 := Hid.mk' (ha1.mono HO0.out.b.size)
  have HT1 := Hid.mk' (WtM.start (m := ⟨mta, mtc, mths, mfa, mfc, mfs⟩) hg1)
  replace c1 := cell_of_obj HO1.out.xm (j := 1) (v := .slice mfa mfs.length mfc) rfl
  have hsz1 := HO1.out.b.size
  clear ha1 hg1 hb1 HO0 HWO c0
  go_wp2_with (at_make; refine wpList_make_own _ rfl _ _ 27 rfl w.heap.size 3 i0 (.int .i64 0) 1 Try.underlying27 hi hz0 hz1 _ _ _ mfs.length rfl rfl rfl (by rw [hz2]; omega) (by unfold maxLen; omega) hsz1 ?_; intro w2 hrow2 hg2)
  have HI2 : Hid (OdI w ⟨mta, mtc, mths, mfa, mfc, mfs⟩ b [] (dnU mfs.length) gs0 (.slice (some ⟨w1.heap.size, 0, none⟩) 0 mfs.length) w2) := by
    have hb2 : Below w1.heap.size w1 w2 := (Below.refl _ _).grown hg2 (Nat.le_refl _) (fun j hj => by cases hj)
    exact ⟨HO1.out.stay hb2, HA1.out.stay hb2, HT1.out, hrow2⟩
  clear hrow2 hg2 HO1 HA1 HT1 c1 hsz1 hi hz0 hz1 hz2
  go_loopw [5] (fun t5 wr => ∃ (os s : List Nat) (gs : Nat → List Nat) (v : Value), t5 = v ∧ OdI w ⟨mta, mtc, mths, mfa, mfc, mfs⟩ b os s gs v wr) (fun _ wr => mpS wr b)
  case atStart => exact ⟨_, _, _, _, rfl, HI2.out⟩
  case round =>
    obtain ⟨os, s, gs, v, rfl, hod⟩ := hrel
    have HOD := Hid.mk' hod
    have hlen := hod.a.len 3
    obtain ⟨av, cv, rfl⟩ := gown_form hod.q
    clear hod HI2
    by_cases hs0 : s = []
    · subst hs0
      have HT : Hid (OrT ⟨mta, mtc, mths, mfa, mfc, mfs⟩ os 0 0 0) := .inr (.inl ⟨hn32, HOD.out.t.whole, rfl, rfl, rfl⟩)
      rw [List.length_nil] at hlen
      have g0 := cell_of_obj HOD.out.o.xf (j := 0) (v := .int .i64 0) rfl
      have g1 := cell_of_obj HOD.out.o.xf (j := 1) (v := .int .i64 0) rfl
      have g2 := cell_of_obj HOD.out.o.xf (j := 2) (v := .int .i64 0) rfl
      have z0 := froz_no HOD.out.o.xf 0
      have z1 := froz_no HOD.out.o.xf 1
      have z2 := froz_no HOD.out.o.xf 2
      obtain ⟨q1, q2⟩ := set3 HOD.out.o.xf 0 0 0
      have HQ1 := Hid.mk' q1
      have HQ2 := Hid.mk' q2
      clear q1 q2
      go_wp2_with fail
      refine bodyPost_ret (results_tmp_cell Try.results12 _ _ (w.heap.size + 1) _ _ _ rfl HQ1.out (fun W hW => run_loadVar_row W _ _ _ _ _ _ hW Try.underlying35 rfl Try.sizeFt)) rfl ⟨_, os, 0, 0, 0, rfl, HT.out, HOD.out.q.kept HQ2.out (.inr (row_not HOD.out.q HOD.out.o.xf (by decide))), HOD.out.o.b.grown HQ2.out HOD.out.o.b.size (fun k e => by have := Option.some.inj e; omega)⟩
    have hpos : 0 < s.length := List.length_pos_iff.2 hs0
    have hposi : (0 : Int) < (s.length : Int) := by omega
    have HRD := Hid.mk' (ready_any _ b s gs wr HOD.out.a)
    have HS0 := Hid.mk' hs0
    have HM0 := Hid.mk' HOD.out.a.mps
    clear hs0
    go_wp2_with fail
    refine HRD.out.mono ?_
    rintro e w3 ⟨least, found, rfl, hry, hb3⟩
    have HO3 := Hid.mk' (HOD.out.o.stay hb3)
    have HA3 := Hid.mk' (HOD.out.a.stay hb3)
    have HQ3 := Hid.mk' (own_stay HOD.out.q hb3)
    have y0 := cell_of_obj HO3.out.xm (j := 0) (v := .slice mta mths.length mtc) rfl
    have y1 := cell_of_obj HO3.out.xm (j := 1) (v := .slice mfa mfs.length mfc) rfl
    clear hb3 HRD hlen
    rcases hry with ⟨rfl, hno⟩ | ⟨rfl, hls, hl0, hlm⟩
    · have HC := Hid.mk' (HCY.out w3 os s gs b HO3.out.b HA3.out HOD.out.t (HOD.out.t.stuck hno HS0.out))
      clear hno
      go_wp2_with fail
      refine HC.out.mono ?_
      rintro e w4 ⟨f, i, rfl, hcy, hb4⟩
      have HO4 := Hid.mk' (HO3.out.stay hb4)
      have HT : Hid (OrT ⟨mta, mtc, mths, mfa, mfc, mfs⟩ [] 75 f i) := .inr (.inr ⟨hn32, rfl, rfl, f, i, rfl, rfl, hcy⟩)
      have g0 := cell_of_obj HO4.out.xf (j := 0) (v := .int .i64 0) rfl
      have g1 := cell_of_obj HO4.out.xf (j := 1) (v := .int .i64 0) rfl
      have g2 := cell_of_obj HO4.out.xf (j := 2) (v := .int .i64 0) rfl
      have z0 := froz_no HO4.out.xf 0
      have z1 := froz_no HO4.out.xf 1
      have z2 := froz_no HO4.out.xf 2
      obtain ⟨q1, q2⟩ := set3 HO4.out.xf 75 (f : Int) (i : Int)
      have HQ1 := Hid.mk' q1
      have HQ2 := Hid.mk' q2
      clear q1 q2 y0 y1 hcy hb4 HC
      go_wp2_with fail
      refine bodyPost_ret (results_tmp_cell Try.results12 _ _ (w.heap.size + 1) _ _ _ rfl HQ1.out (fun W hW => run_loadVar_row W _ _ _ _ _ _ hW Try.underlying35 rfl Try.sizeFt)) rfl ⟨_, [], 75, f, i, rfl, HT.out, on_nil _ _, HO4.out.b.grown HQ2.out HO4.out.b.size (fun k e => by have := Option.some.inj e; omega)⟩
    · have hln : least < mfs.length := ((HOD.out.t.hs least).1 hls).1
      have HL := Hid.mk' (HOD.out.t.least hls hl0 hlm)
      have HLS := Hid.mk' hls
      have HD := Hid.mk' (done_any w.heap.size b s gs least (by omega) w3 HA3.out HO3.out.b.size)
      have hol : os.length ≤ 1000 := by have h := HOD.out.t.ho.len; simp only at h; omega
      clear hls hl0 hlm y0 y1
      go_wp2_with fail
      refine HD.out.mono ?_
      rintro e w4 ⟨rfl, ha4, hb4, hc4⟩
      have HO4 := Hid.mk' (HO3.out.cel hc4 hb4)
      have HA4 := Hid.mk' ha4
      have HQ4 := Hid.mk' (own_cel HQ3.out hc4)
      have HT4 := Hid.mk' (HOD.out.t.next HL.out HOD.out.a.nd HOD.out.a.gnd)
      have HAP := Hid.mk' (on_app HQ4.out HO4.out.b.size (by omega) least 27)
      clear ha4 hb4 hc4 HD
      go_upto_region 10 with fail
      go_wp2_with (at_builtin; refine wpl_app rfl _ _ 27 27 _ _ rfl rfl rfl HAP.out ?_; rintro v5 W5 ⟨on5, gr5⟩)
      have HI5 : Hid (OdI w ⟨mta, mtc, mths, mfa, mfc, mfs⟩ b (os ++ [least]) (s.erase least) (fun k => (gs k).erase least) v5 W5) :=
        ⟨CyO.own' HO4.out HQ4.out gr5, HA4.out.no_own HQ4.out gr5, HT4.out, on5⟩
      obtain ⟨a5, c5, rfl⟩ := gown_form on5
      clear on5 gr5
      go_roundw
      case rel => exact ⟨_, _, _, _, rfl, HI5.out⟩
      case measure =>
        rw [HI5.out.a.mps, HM0.out, List.length_erase_of_mem HLS.out]
        omega
end Go.Proofs.Ytdnilonfgbinaaa
