/- Numbers of a function's head. -/
import Derived.Test.YtboidkmnkicoeaaGreatDoorYa
import Derived.Test.YtboidkmnkicoeaaGreatDoorJd
import Derived.Lib.OthersKept
namespace Go.Proofs.YtboidkmnkicoeaaGreatDoor
open Go.RowKit Go.Sort

theorem row_made (W : World) (T : TypeId) (xs : List Value) (hx : xs.length ≤ 1000000) : (W.alloc (.cells xs.toArray T)).ownsRow W.heap.size T 1 (.slice (some ⟨W.heap.size, 0, none⟩) xs.length xs.length) xs.length xs :=
  ⟨by simp, .inr ⟨W.heap.size, xs.length, xs.toArray, rfl, Nat.le_refl _, heap_alloc_new _ _, Nat.le_refl _, by unfold maxLen; omega, by simp, by simp⟩⟩
theorem newsT (w : World) (T : TypeId) (xs : List Value) : ∀ j u, xs[j]? = some u → (w.alloc (.cells xs.toArray T)).cell? ((⟨w.heap.size, 0, none⟩ : Addr).add j) = some u := fun j u hu => by
  rw [Addr.add_lit, Nat.zero_add]
  exact new_cell _ _ _ _ _ (by rw [← hu, ← Array.getElem?_toList])
/-- The head's numbers, of so many parameters. -/
def hdU (f : Fn) (j : Nat) : List Int := f.regs :: f.words :: (f.params.take j).flatMap fun s => [s.1, s.2]
theorem hdU_len (f : Fn) {j : Nat} (h : j ≤ f.params.length) : (hdU f j).length = 2 + 2 * j := by
  have : ∀ l : List Sp, (l.flatMap fun s => [s.1, s.2]).length = 2 * l.length := fun l => by
    induction l with
    | nil => rfl
    | cons x r ih => rw [List.flatMap_cons, List.length_append, ih, List.length_cons]; simp; omega
  unfold hdU
  rw [List.length_cons, List.length_cons, this, List.length_take]; omega
theorem hdU_next (f : Fn) {j : Nat} (h : j < f.params.length) : (hdU f (j + 1)).flatMap thC = (hdU f j).flatMap thC ++ [.int .i64 f.params[j].1, .int .i64 f.params[j].2] := by
  unfold hdU
  rw [List.take_add_one, List.getElem?_eq_getElem h]
  show (_ :: _ :: (f.params.take j ++ [f.params[j]]).flatMap _).flatMap thC = _
  rw [List.flatMap_append]; simp [thC]
theorem hdU_all (f : Fn) : hdU f f.params.length = hdN f := by unfold hdU hdN; rw [List.take_length]
set_option maxRecDepth 100000 in
set_option maxHeartbeats 2000000 in
theorem headNumbers_any (f : Fn) (w : World) (hf : f.In w) (hp : f.params.length ≤ 100000) : Calls Tryz.prog 51 #[f.val] w fun e w' => ∃ a c, e = .returned (.slice a (hdN f).length c) ∧ Thr w' a (hdN f) ∧ Below w.heap.size w w' := by
  obtain ⟨f1, f2, f3, f4, f5, f6, f7⟩ := hf
  obtain ⟨i0, hi, hz0, hz1, hz2⟩ := info_parts Tryz.infoI
  have HI0 := Hid.mk' hi
  have HP := Hid.mk' f4
  have hb1 := Below.one (Below.refl _ w) (.cells #[.string f.name, .slice f.pa f.params.length f.pc, .int .i64 f.regs, .int .i64 f.words, .slice f.ca f.code.length f.cc] 34)
  have hb2 := Below.one hb1 (.cells #[.int .i64 f.regs, .int .i64 f.words] 2)
  have HO := Hid.mk' (own_mono (N' := w.heap.size) (row_made (w.alloc (.cells #[.string f.name, .slice f.pa f.params.length f.pc, .int .i64 f.regs, .int .i64 f.words, .slice f.ca f.code.length f.cc] 34)) 2 [.int .i64 f.regs, .int .i64 f.words] (by simp)) (by simp))
  rw [World.size_alloc] at HO
  have HU0 : Hid ((hdU f 0).flatMap thC = [.int .i64 f.regs, .int .i64 f.words]) := (by simp [hdU, thC] : _ = _)
  have HU := Hid.mk' (fun (j : Nat) (h : j < f.params.length) => hdU_next f h)
  have HUl := Hid.mk' (hdU_len f (Nat.le_refl _))
  have HA := Hid.mk' (hdU_all f)
  have hpa := f4.1
  clear hi f1 f2 f3 f4 f5 f6 f7
  unfold Fn.val
  go_enter Tryz.func51, Tryz.ntmps51
  go_wp2_with fail
  generalize (w.alloc (.cells #[.string f.name, .slice f.pa f.params.length f.pc, .int .i64 f.regs, .int .i64 f.words, .slice f.ca f.code.length f.cc] 34)).alloc (.cells #[.int .i64 f.regs, .int .i64 f.words] 2) = W at *
  go_loopw [3, 14] (fun t3 t14 wr => ∃ (j : Nat) (v : Value), j ≤ f.params.length ∧ t3 = v ∧ t14 = .int .i64 j ∧ wr.ownsRow w.heap.size 2 1 v (2 + 2 * j) ((hdU f j).flatMap thC) ∧ Below w.heap.size w wr) (fun _ t14 _ => f.params.length - (intOf t14).toNat)
  case atStart => exact ⟨0, _, Nat.zero_le _, rfl, rfl, by rw [HU0.out]; exact HO.out, hb2⟩
  case round =>
    obtain ⟨j, v, hj, rfl, rfl, hown, hbr⟩ := hrel
    obtain ⟨av, cv, rfl⟩ := gown_form hown
    by_cases hlt : j < f.params.length
    · obtain ⟨b, o, epa, c0, c1⟩ := sps_at (HP.out.stay hbr) hlt
      have hli : (j : Int) < (f.params.length : Int) := by omega
      have HN := Hid.mk' (HU.out j hlt)
      generalize f.params[j] = s at *
      obtain ⟨s1, s2⟩ := s
      simp only at c0 c1 HN
      rw [epa]
      have HEP := Hid.mk' epa
      clear epa
      have hss := hbr.size
      have HW := Hid.mk' (newsT (wr.alloc (.cells #[.int .i64 s1, .int .i64 s2] 38)) 2 [.int .i64 s1, .int .i64 s2])
      rw [World.size_alloc] at HW
      have HB := Hid.mk' (Below.one (Below.one hbr (.cells #[.int .i64 s1, .int .i64 s2] 38)) (.cells #[.int .i64 s1, .int .i64 s2] 2))
      have HO2 := Hid.mk' ((hown.alloc (.cells #[.int .i64 s1, .int .i64 s2] 38)).alloc (.cells #[.int .i64 s1, .int .i64 s2] 2))
      have hr1 : 2 + 2 * j + 2 ≤ maxLen := by unfold maxLen; omega
      have hr2 : (2 + 2 * j + 2) * 8 ≤ 140737488355328 := by omega
      clear hown hbr hss
      go_wp2_with (at_builtin; refine wpList_append_own _ rfl _ _ 22 rfl w.heap.size 2 i0 (.int .i64 0) 1 8 Tryz.underlying22 HI0.out hz0 hz1 hz2 rfl (by decide) _ (2 + 2 * j) _ rfl HO2.out ⟨wr.heap.size + 1, 0, none⟩ 2 2 [.int .i64 s1, .int .i64 s2] rfl rfl HW.out (by simp [Value.oneCell']) hr1 hr2 HB.out.size ?_; intro v1 w1 own1 grow1 _; obtain ⟨a1, c1', rfl⟩ := gown_form own1)
      go_roundw
      case rel =>
        refine ⟨j + 1, _, by omega, rfl, by go_num, ?_, HB.out.grown grow1 HB.out.size (fun k e => own_base HO2.out k e)⟩
        rw [HN.out]
        exact own1
      case measure => simp [intOf]; omega
    · have hje : j = f.params.length := by omega
      have HE := Hid.mk' hje
      have HO2 := Hid.mk' hown
      clear hje hown
      go_wp2_with fail
      go_ret
      have ho := HO2.out
      have hl := HUl.out
      rw [HE.out, HA.out] at ho
      rw [HA.out] at hl
      refine ⟨av, cv, ?_, ⟨by rw [hl]; omega, own_row ho (fun _ => rfl) (by omega)⟩, hbr⟩
      rw [hl, HE.out]; rfl
end Go.Proofs.YtboidkmnkicoeaaGreatDoor

/- Numbers of an instruction. -/
namespace Go.Proofs.YtboidkmnkicoeaaGreatDoor
open Go.RowKit Go.Sort Go.Lib

theorem fldB_size (k : Nat) : (fldB k).size = (hasL k).length := by unfold fldB; rw [tb_size, List.length_map]
theorem fldB_at (k : Nat) {j : Nat} (h : j < (hasL k).length) (h' : j < (fldB k).size) : (fldB k)[j] = letU (hasL k)[j] := by
  show ((hasL k).map letU).toArray[j]'(by simpa using h) = _
  rw [List.getElem_toArray, List.getElem_map]
theorem cell_of_obj {W : World} {b : Nat} {cs : Array Value} {T : TypeId} {fz : Nat × Nat} (h : W.heap[b]? = some (.cells cs T fz)) {j : Nat} {v : Value} (hj : cs[j]? = some v) : W.cell? ⟨b, j, none⟩ = some v := by
  rw [Lib.cell_of_heap h]; exact hj
theorem own_turn {W : World} {N n sz : Nat} {T : TypeId} {v : Value} {xs : List Value} (h : W.ownsRow N T sz v n xs) {k : Nat} {s : ByteArray} {p : Nat} (hk : W.heap[k]? = some (.stringIter s p)) (p' : Nat) : (W.iterAt k s p').ownsRow N T sz v n xs := by
  refine ⟨h.1, ?_⟩
  rcases h.2 with h0 | ⟨g, cap, cur, rfl, h1, h2, h3⟩
  · exact .inl h0
  · refine .inr ⟨g, cap, cur, rfl, h1, ?_, h3⟩
    rw [iterAt_other _ _ _ _ _ (fun e => by subst e; rw [h2] at hk; cases hk)]; exact h2
/-- What the loop over an operation's letters holds. -/
structure NI (w : World) (x : Is) (s : ByteArray) (j : Nat) (v : Value) (xs : List Value) (W : World) : Prop where
  bx : W.heap[w.heap.size]? = some (.cells #[.int .i64 x.op, .int .i64 x.a, .int .i64 x.b, .int .i64 x.c, .int .i64 x.n] 36)
  it : W.heap[w.heap.size + 1]? = some (.stringIter s j)
  ow : W.ownsRow w.heap.size 2 1 v j xs
  hb : Below w.heap.size w W
theorem NI.turn {w : World} {x : Is} {s : ByteArray} {j : Nat} {v : Value} {xs : List Value} {W : World} (h : NI w x s j v xs W) : (W.iterAt (w.heap.size + 1) s (j + 1)).heap[w.heap.size]? = some (.cells #[.int .i64 x.op, .int .i64 x.a, .int .i64 x.b, .int .i64 x.c, .int .i64 x.n] 36) ∧
    (W.iterAt (w.heap.size + 1) s (j + 1)).heap[w.heap.size + 1]? = some (.stringIter s (j + 1)) ∧ (W.iterAt (w.heap.size + 1) s (j + 1)).ownsRow w.heap.size 2 1 v j xs ∧ Below w.heap.size w (W.iterAt (w.heap.size + 1) s (j + 1)) :=
  ⟨(iterAt_other _ _ _ _ _ (by omega)).trans h.bx, iterAt_heap _ _ _ _ _ h.it, own_turn h.ow h.it _, below_iterAt h.hb (by omega) _ _⟩
theorem NI.next {w : World} {x : Is} {s : ByteArray} {j : Nat} {v v' : Value} {xs ys : List Value} {W W' : World} (b1 : W.heap[w.heap.size]? = some (.cells #[.int .i64 x.op, .int .i64 x.a, .int .i64 x.b, .int .i64 x.c, .int .i64 x.n] 36)) (b2 : W.heap[w.heap.size + 1]? = some (.stringIter s (j + 1))) (b3 : W.ownsRow w.heap.size 2 1 v j xs) (b4 : Below w.heap.size w W) (o : Obj)
    (hg : (W.alloc o).grownBy W' v.ownBlock) (ho : W'.ownsRow w.heap.size 2 1 v' (j + 1) ys) : NI w x s (j + 1) v' ys W' := by
  have hs := Below.one (Below.refl _ W) o
  have c1 := (hs.block _ (Array.getElem?_eq_some_iff.1 b1).1).trans b1
  have c2 := (hs.block _ (Array.getElem?_eq_some_iff.1 b2).1).trans b2
  refine ⟨grown_other (b3.alloc o) hg c1 (by decide), (hg.block _ (Array.getElem?_eq_some_iff.1 c2).1 (fun e => ?_)).trans c2, ho, (Below.one b4 o).grown hg (Below.one b4 o).size (fun k e => own_base b3 k e)⟩
  rcases b3.2 with ⟨rfl, _⟩ | ⟨g, cap, cur, rfl, h1, h2, h3⟩
  · simp [Value.ownBlock] at e
  · have : w.heap.size + 1 = g := by simpa [Value.ownBlock] using e
    subst this
    rw [h2] at b2; cases b2
theorem insL_take (x : Is) {L : List Nat} {j : Nat} (h : j < L.length) : ((L.take (j + 1)).map (getF x)).flatMap thC = ((L.take j).map (getF x)).flatMap thC ++ [.int .i64 (getF x L[j])] := by
  rw [List.take_add_one, List.getElem?_eq_getElem h]
  show ((L.take j ++ [L[j]]).map _).flatMap thC = _
  rw [List.map_append, List.flatMap_append]; simp [thC]
set_option maxRecDepth 100000 in
set_option maxHeartbeats 4000000 in
theorem numbersOf_any (x : Is) (k : Nat) (hk : k < 20) (hx : x.op = k) (w : World) (h : Env w) : Calls Tryz.prog 52 #[x.val] w fun e w' => ∃ a c, e = .returned (.slice a (insL x).length c) ∧ Thr w' a (insL x) ∧ Below w.heap.size w w' := by
  obtain ⟨i0, hi, hz0, hz1, hz2⟩ := info_parts Tryz.infoI
  have HI0 := Hid.mk' hi
  have hb1 := Below.one (Below.refl _ w) (.cells #[.int .i64 x.op, .int .i64 x.a, .int .i64 x.b, .int .i64 x.c, .int .i64 x.n] 36)
  have cf := cell_kept_below (h.fl k hk) hb1
  have hli : (k : Int) < 20 := by omega
  have HS := Hid.mk' (fldB_size k)
  have HA := Hid.mk' (fun (j : Nat) (h : j < (hasL k).length) (h' : j < (fldB k).size) => fldB_at k h h')
  have hlen : (hasL k).length ≤ 4 := by
    unfold hasL
    split <;> split <;> split <;> split <;> simp
  have HIN : Hid (insL x = (hasL k).map (getF x)) := (by unfold insL; rw [hx] : insL x = _)
  have N0 : NI w x (fldB k) 0 (.slice none 0 0) [] ((w.alloc (.cells #[.int .i64 x.op, .int .i64 x.a, .int .i64 x.b, .int .i64 x.c, .int .i64 x.n] 36)).iter (fldB k) 0) := by
    refine ⟨?_, ?_, World.ownsRow_nil _ _ _ _, Below.one hb1 _⟩
    · exact (Below.heap_alloc _ _ _ (by simp)).trans (heap_alloc_new _ _)
    · have := World.iter_heap (w.alloc (.cells #[.int .i64 x.op, .int .i64 x.a, .int .i64 x.b, .int .i64 x.c, .int .i64 x.n] 36)) (fldB k) 0
      rwa [World.size_alloc] at this
  have c0 := cell_of_obj (heap_alloc_new w (.cells #[.int .i64 x.op, .int .i64 x.a, .int .i64 x.b, .int .i64 x.c, .int .i64 x.n] 36)) (j := 0) (v := .int .i64 (k : Int)) (by rw [hx]; rfl)
  have HN0 := Hid.mk' N0
  clear hi h hb1 hk hx N0
  generalize hasL k = L at *
  generalize fldB k = s at *
  unfold Is.val
  go_enter Tryz.func52, Tryz.ntmps52
  go_wp2_with fail
  generalize hG : (w.alloc (.cells #[.int .i64 x.op, .int .i64 x.a, .int .i64 x.b, .int .i64 x.c, .int .i64 x.n] 36)).iter s 0 = W0 at *
  clear hG
  go_loopw [3] (fun t3 wr => ∃ (j : Nat) (v : Value), j ≤ L.length ∧ t3 = v ∧ NI w x s j v (((L.take j).map (getF x)).flatMap thC) wr) (fun _ wr => L.length - wr.iterPos (w.heap.size + 1))
  case atStart => exact ⟨0, _, Nat.zero_le _, rfl, HN0.out⟩
  case round =>
    obtain ⟨j, v, hj, rfl, hni⟩ := hrel
    obtain ⟨av, cv, rfl⟩ := gown_form hni.ow
    have HMM := Hid.mk' (iterPos_of hni.it)
    by_cases hlt : j < L.length
    · have hls : j < s.size := by rw [HS.out]; exact hlt
      have HT := Hid.mk' (insL_take x hlt)
      have hat := HA.out j hlt hls
      have hnx0 : s[j].toNat < 128 → ∀ ty, (Instr.next (.pointer (some ⟨w.heap.size + 1, 0, none⟩)) true ty).run Tryz.prog wr = _ := fun hh ty => run_next_ascii_at wr (w.heap.size + 1) s j ty hni.it hls hh
      rw [hat] at hnx0
      obtain ⟨b1, b2, b3, b4⟩ := hni.turn
      generalize wr.iterAt (w.heap.size + 1) s (j + 1) = W1 at *
      have HN := Hid.mk' (fun o v' ys (W' : World) => NI.next (v' := v') (ys := ys) (W' := W') b1 b2 b3 b4 o)
      have hr1 : j + 1 ≤ maxLen := by unfold maxLen; omega
      have hr2 : (j + 1) * 8 ≤ 140737488355328 := by omega
      have HSZ := Hid.mk' (fun o => (Below.one b4 o).size)
      have HO := Hid.mk' b3
      clear hat hls hni b2 b3
      have HB4 := Hid.mk' b4
      clear b4
      rcases hq : L[j] with _ | _ | _ | q
      · rw [hq] at hnx0 HT
        have hnx : ∀ ty, (Instr.next (.pointer (some ⟨w.heap.size + 1, 0, none⟩)) true ty).run Tryz.prog wr = .ok (.tuple #[.bool true, .int .i64 j, .int .i32 65]) W1 := hnx0 (by decide)
        have cA := cell_of_obj b1 (j := 1) (v := .int .i64 x.a) rfl
        have HW := Hid.mk' (newsT W1 2 [.int .i64 x.a])
        clear hnx0 hq b1
        go_wp2_with (at_builtin; refine wpList_append_own _ rfl _ _ 22 rfl w.heap.size 2 i0 (.int .i64 0) 1 8 Tryz.underlying22 HI0.out hz0 hz1 hz2 rfl (by decide) _ j _ rfl (HO.out.alloc _) ⟨W1.heap.size, 0, none⟩ 1 1 [.int .i64 x.a] rfl rfl HW.out (by simp [Value.oneCell']) hr1 hr2 (HSZ.out _) ?_; intro v1 w1 own1 grow1 _; obtain ⟨a1, c1', rfl⟩ := gown_form own1)
        go_roundw
        case rel => exact ⟨j + 1, _, by omega, rfl, HN.out _ _ _ _ grow1 (by rw [HT.out]; exact own1)⟩
        case measure => rw [HMM.out, iterPos_of (HN.out _ _ _ _ grow1 own1).it]; omega
      · rw [hq] at hnx0 HT
        have hnx : ∀ ty, (Instr.next (.pointer (some ⟨w.heap.size + 1, 0, none⟩)) true ty).run Tryz.prog wr = .ok (.tuple #[.bool true, .int .i64 j, .int .i32 66]) W1 := hnx0 (by decide)
        have cA := cell_of_obj b1 (j := 2) (v := .int .i64 x.b) rfl
        have HW := Hid.mk' (newsT W1 2 [.int .i64 x.b])
        clear hnx0 hq b1
        go_wp2_with (at_builtin; refine wpList_append_own _ rfl _ _ 22 rfl w.heap.size 2 i0 (.int .i64 0) 1 8 Tryz.underlying22 HI0.out hz0 hz1 hz2 rfl (by decide) _ j _ rfl (HO.out.alloc _) ⟨W1.heap.size, 0, none⟩ 1 1 [.int .i64 x.b] rfl rfl HW.out (by simp [Value.oneCell']) hr1 hr2 (HSZ.out _) ?_; intro v1 w1 own1 grow1 _; obtain ⟨a1, c1', rfl⟩ := gown_form own1)
        go_roundw
        case rel => exact ⟨j + 1, _, by omega, rfl, HN.out _ _ _ _ grow1 (by rw [HT.out]; exact own1)⟩
        case measure => rw [HMM.out, iterPos_of (HN.out _ _ _ _ grow1 own1).it]; omega
      · rw [hq] at hnx0 HT
        have hnx : ∀ ty, (Instr.next (.pointer (some ⟨w.heap.size + 1, 0, none⟩)) true ty).run Tryz.prog wr = .ok (.tuple #[.bool true, .int .i64 j, .int .i32 67]) W1 := hnx0 (by decide)
        have cA := cell_of_obj b1 (j := 3) (v := .int .i64 x.c) rfl
        have HW := Hid.mk' (newsT W1 2 [.int .i64 x.c])
        clear hnx0 hq b1
        go_wp2_with (at_builtin; refine wpList_append_own _ rfl _ _ 22 rfl w.heap.size 2 i0 (.int .i64 0) 1 8 Tryz.underlying22 HI0.out hz0 hz1 hz2 rfl (by decide) _ j _ rfl (HO.out.alloc _) ⟨W1.heap.size, 0, none⟩ 1 1 [.int .i64 x.c] rfl rfl HW.out (by simp [Value.oneCell']) hr1 hr2 (HSZ.out _) ?_; intro v1 w1 own1 grow1 _; obtain ⟨a1, c1', rfl⟩ := gown_form own1)
        go_roundw
        case rel => exact ⟨j + 1, _, by omega, rfl, HN.out _ _ _ _ grow1 (by rw [HT.out]; exact own1)⟩
        case measure => rw [HMM.out, iterPos_of (HN.out _ _ _ _ grow1 own1).it]; omega
      · rw [hq] at hnx0 HT
        have hnx : ∀ ty, (Instr.next (.pointer (some ⟨w.heap.size + 1, 0, none⟩)) true ty).run Tryz.prog wr = .ok (.tuple #[.bool true, .int .i64 j, .int .i32 78]) W1 := hnx0 (by simp [letU])
        have cA := cell_of_obj b1 (j := 4) (v := .int .i64 x.n) rfl
        have HW := Hid.mk' (newsT W1 2 [.int .i64 x.n])
        clear hnx0 hq b1
        go_wp2_with (at_builtin; refine wpList_append_own _ rfl _ _ 22 rfl w.heap.size 2 i0 (.int .i64 0) 1 8 Tryz.underlying22 HI0.out hz0 hz1 hz2 rfl (by decide) _ j _ rfl (HO.out.alloc _) ⟨W1.heap.size, 0, none⟩ 1 1 [.int .i64 x.n] rfl rfl HW.out (by simp [Value.oneCell']) hr1 hr2 (HSZ.out _) ?_; intro v1 w1 own1 grow1 _; obtain ⟨a1, c1', rfl⟩ := gown_form own1)
        go_roundw
        case rel => exact ⟨j + 1, _, by omega, rfl, HN.out _ _ _ _ grow1 (by rw [HT.out]; exact own1)⟩
        case measure => rw [HMM.out, iterPos_of (HN.out _ _ _ _ grow1 own1).it]; omega
    · have hje : j = L.length := by omega
      have hls : ¬ j < s.size := by rw [HS.out]; exact hlt
      have hnx : ∀ ty, (Instr.next (.pointer (some ⟨w.heap.size + 1, 0, none⟩)) true ty).run Tryz.prog wr = _ := fun ty => run_next_end_at wr (w.heap.size + 1) s j ty hni.it hls
      have HE := Hid.mk' hje
      have HNI := Hid.mk' hni
      clear hje hni hls
      go_wp2_with fail
      go_ret
      have ho := HNI.out.ow
      have hl : (insL x).length = L.length := by rw [HIN.out, List.length_map]
      rw [HE.out, List.take_length, ← HIN.out] at ho
      refine ⟨av, cv, ?_, ⟨by rw [hl]; omega, own_row ho (fun _ => rfl) (by omega)⟩, HNI.out.hb⟩
      rw [hl, HE.out]; rfl
end Go.Proofs.YtboidkmnkicoeaaGreatDoor
