/- ScanKeeps: what scan.All hands out is its owner's: changing one row turns no other. -/
import Derived.Test.YtdlddloggjckmabDoorW4
namespace Go.Proofs.YtdlddloggjckmabDoor
open Go.RowKit

/-- What scan.All answers, with its own row. -/
def AnsO (xs : List It) (er at_ : Int) (w : World) (e : Ending) (w' : World) : Prop :=
  ∃ v, e = .returned (.tuple #[v, .int .i64 er, .int .i64 at_]) ∧ Below w.heap.size w w' ∧ w'.ownsRow w.heap.size 29 4 v xs.length (rowCells xs)

theorem anso_of_out {s : ByteArray} {w w' : World} {e : Ending} (h : s.size ≤ 65536) (ho : AllOut s w e w') : AnsO (docXs s) (docEr s) (docAt s) w e w' := by
  obtain ⟨hb, ⟨pre, x, h1, h2, h3, h4⟩ | ⟨h1, v, h2, h3⟩⟩ := ho
  · obtain ⟨d1, d2, d3⟩ := doc_err h h1 h3
    rw [d1, d2, d3]; exact ⟨_, h4, hb, World.ownsRow_nil _ _ _ _⟩
  · obtain ⟨d1, d2, d3⟩ := doc_ok h h1
    rw [d1, d2, d3]; exact ⟨_, h2, hb, h3⟩
theorem all_anso (s : ByteArray) (w : World) (hv : VarOk w) : Calls Tryd.prog 6 #[.string s] w (AnsO (docXs s) (docEr s) (docAt s) w) := by
  by_cases h : s.size ≤ 65536
  · exact (all_any s w h hv).mono fun e w' ho => anso_of_out h ho
  · obtain ⟨d1, d2, d3⟩ := doc_long h
    rw [d1, d2, d3]
    exact (all_long s w (by omega)).mono fun e w' ⟨h1, h2⟩ => ⟨_, h1, h2, World.ownsRow_nil _ _ _ _⟩

/-- All blocks of the first world but one row's stay. -/
def Aside (w : World) (row : Option Nat) (W : World) : Prop := w.grownBy W row

theorem RowAt.aside {w W : World} {row : Option Nat} {v : Value} {xs : List It} (h : RowAt w v xs) (ha : Aside w row W) (hne : 0 < xs.length → v.ownBlock ≠ row) : RowAt W v xs := by
  obtain ⟨bo, cap, rfl, h2, h3⟩ := h
  refine ⟨bo, cap, rfl, h2, fun h0 => ?_⟩
  obtain ⟨g, rfl, hg, hc⟩ := h3 h0
  have hb := ha.block g hg (by simpa [Value.ownBlock] using hne h0)
  exact ⟨g, rfl, Nat.lt_of_lt_of_le hg ha.size, fun j u hj => by rw [World.cell?_of_block (a := ⟨g, j, none⟩) hb]; exact hc j u hj⟩
theorem Aside.grown {w W W' : World} {row row' : Option Nat} (h : Aside w row W) (hg : W.grownBy W' row') (hr : row' = row ∨ ∀ r, row' = some r → w.heap.size ≤ r) : Aside w row W' := by
  refine ⟨hg.os.trans h.os, hg.tape.trans h.tape, hg.output.trans h.output, Nat.le_trans h.size hg.size, fun k hk hne => (hg.block k (Nat.lt_of_lt_of_le hk h.size) ?_).trans (h.block k hk hne)⟩
  rcases hr with rfl | hr
  · exact hne
  · intro e
    have := hr k e.symm
    omega
theorem Aside.alloc {w W : World} {row : Option Nat} (h : Aside w row W) (o : Obj) : Aside w row (W.alloc o) := h.grown (World.grownBy_alloc W o none) (.inr (by simp))
theorem Aside.below {w W W' : World} {row : Option Nat} (h : Aside w row W) (hb : Below W.heap.size W W') : Aside w row W' := h.grown (below_grown hb) (.inr (by simp))
theorem Aside.down {w W : World} {row : Option Nat} {n : Nat} (h : Aside w row W) (hn : n ≤ w.heap.size) (hr : ∀ r, row = some r → n ≤ r) : Below n w W :=
  ⟨h.os, h.tape, h.output, h.size, fun k hk => h.block k (by omega) (fun e => by have := hr k e.symm; omega)⟩
theorem owns_ge {W : World} {base k : Nat} {v : Value} {xs : List Value} (h : W.ownsRow base 29 4 v k xs) : ∀ b, v.ownBlock = some b → base ≤ b := by
  intro b hb
  rcases h.2 with ⟨rfl, _⟩ | ⟨g, cap, cur, rfl, h2, _⟩
  · cases hb
  · cases hb; exact h2
theorem cells4_new (W : World) (u0 u1 u2 u3 : Value) : ∀ j u, [u0, u1, u2, u3][j]? = some u → (W.alloc (.cells #[u0, u1, u2, u3] 29)).cell? ((⟨W.heap.size, 0, none⟩ : Addr).add j) = some u := by
  intro j u hj
  rw [Addr.add_lit]
  have hb : (W.alloc (.cells #[u0, u1, u2, u3] 29)).heap[W.heap.size]? = some (.cells #[u0, u1, u2, u3] 29 (0, 0)) := World.alloc_heap_new W _
  simp only [World.cell?, hb, Nat.zero_add]
  simpa using hj

theorem owns_slice {w : World} {base k : Nat} {v : Value} {xs : List Value} (h : w.ownsRow base 29 4 v k xs) : ∃ bo cap, v = .slice bo k cap := by
  rcases h.2 with ⟨rfl, rfl⟩ | ⟨g, cap, cur, rfl, _⟩
  · exact ⟨_, _, rfl⟩
  · exact ⟨_, _, rfl⟩

theorem own_room {W : World} {base n g cap : Nat} {xs : List Value} (h : W.ownsRow base 29 4 (.slice (some ⟨g, 0, none⟩) n cap) n xs) {o : Nat} (ho : o < n * 4) :
    (∃ u, W.cell? ⟨g, o, none⟩ = some u) ∧ W.frozen? ⟨g, o, none⟩ = false := by
  rcases h.2 with ⟨h, _⟩ | ⟨g', cap', cur, e, h2, h3, h4, _, h6, _⟩
  · cases h
  · cases e
    have hlt : o < cur.size := by rw [h6]; omega
    exact ⟨⟨cur[o], by simp [World.cell?, h3, hlt]⟩, by simp [World.frozen?, h3]⟩
theorem own_write {W : World} {base n g cap : Nat} {xs : List Value} (h : W.ownsRow base 29 4 (.slice (some ⟨g, 0, none⟩) n cap) n xs) (o : Nat) (u : Value) :
    ∃ xs', (W.setCell ⟨g, o, none⟩ u).ownsRow base 29 4 (.slice (some ⟨g, 0, none⟩) n cap) n xs' := by
  rcases h.2 with ⟨h, _⟩ | ⟨g', cap', cur, e, h2, h3, h4, h5, h6, _⟩
  · cases h
  · cases e
    refine ⟨(cur.setIfInBounds o u).toList.take (n * 4), ?_, .inr ⟨_, _, cur.setIfInBounds o u, rfl, h2, ?_, h4, h5, by simpa using h6, rfl⟩⟩
    · simp [h6]; omega
    · exact heap_setCell_same W _ o cur 29 u h3
theorem Aside.set {w W : World} {g : Nat} (h : Aside w (some g) W) (o : Nat) (u : Value) : Aside w (some g) (W.setCell ⟨g, o, none⟩ u) := h.grown (grown_set1 W g o u) (.inl rfl)
set_option maxRecDepth 100000 in
set_option maxHeartbeats 2000000 in
theorem scanKeeps_any (s : ByteArray) (w : World) (hv : VarOk w) : Calls Tryd.prog 3 #[.string s] w fun e w' => e = .returned (.bool true) ∧ Below w.heap.size w w' := by
  have hlen := docXs_len s
  go_enter Tryd.func3, Tryd.ntmps3
  go_wp2_with fail
  refine (awake_any _ hv).mono ?_
  rintro e w1 ⟨rfl, hb1⟩
  have hv1 := hv.below hb1
  go_wp2_with fail
  refine (rAll_ans _ _).mono ?_
  rintro e w2 ⟨vw, rfl, hb2, hrw⟩
  have hv2 := hv1.below hb2
  go_wp2_with fail
  refine (all_anso _ _ hv2).mono ?_
  rintro e w3 ⟨va, rfl, hb3, hoa⟩
  have hv3 := hv2.below hb3
  go_wp2_with fail
  refine (all_anso _ _ hv3).mono ?_
  rintro e w4 ⟨vb, rfl, hb4, hob⟩
  have hv4 := hv3.below hb4
  have ra := (rowAt_owns hoa).below hb4
  have rb := rowAt_owns hob
  have rw4 := (hrw.below hb3).below hb4
  go_wp2_with fail
  refine (same_any (docXs s) _ _ _ (by omega) ra rw4).mono ?_
  rintro e w5 ⟨rfl, hb5⟩
  have rb5 := rb.below hb5
  have rw5 := rw4.below hb5
  go_wp2_with fail
  refine (same_any (docXs s) _ _ _ (by omega) rb5 rw5).mono ?_
  rintro e w6 ⟨rfl, hb6⟩
  have rb6 := rb5.below hb6
  have rw6 := rw5.below hb6
  have hv6 := (hv4.below hb5).below hb6
  have hoa6 := owns_below (owns_below (owns_below hoa hb4) hb5) hb6
  obtain ⟨ao, ca, rfl⟩ := owns_slice hoa
  go_wp2_with fail
  go_loopw [48] (fun t wr => ∃ k : Nat, k ≤ (docXs s).length ∧ t = .int .i64 k ∧ Aside w6 (Value.ownBlock (.slice ao (docXs s).length ca)) wr ∧ ∃ xs', wr.ownsRow w2.heap.size 29 4 (.slice ao (docXs s).length ca) (docXs s).length xs') (fun t _ => (docXs s).length - (intOf t).toNat)
  case atStart => exact ⟨0, Nat.zero_le _, rfl, World.grownBy.refl _ _, _, hoa6⟩
  case round =>
    obtain ⟨k, hk, rfl, has, xs', ho⟩ := hrel
    by_cases hlt : k < (docXs s).length
    · obtain ⟨g, cap, e1, hg, hgl, hcap, hcell⟩ := owns_cells ho (by omega)
      cases e1
      obtain ⟨⟨u0, c0⟩, f0⟩ := own_room ho (o := k * 4) (by omega)
      obtain ⟨⟨u1, c1⟩, f1⟩ := own_room ho (o := k * 4 + 1) (by omega)
      obtain ⟨⟨u2, c2⟩, f2⟩ := own_room ho (o := k * 4 + 2) (by omega)
      obtain ⟨⟨u3, c3⟩, f3⟩ := own_room ho (o := k * 4 + 3) (by omega)
      clear hcell
      have hli : (k : Int) < ((docXs s).length : Int) := by omega
      go_wp2
      obtain ⟨x0, o0⟩ := own_write ho (k * 4) (.int .i64 (-1))
      obtain ⟨x1, o1⟩ := own_write o0 (k * 4 + 1) (.int .i64 0)
      obtain ⟨x2, o2⟩ := own_write o1 (k * 4 + 2) (.string { data := #[] })
      obtain ⟨x3, o3⟩ := own_write o2 (k * 4 + 3) (.int .i64 0)
      exact ⟨⟨k + 1, by omega, by simp, (((has.set _ _).set _ _).set _ _).set _ _, _, o3⟩, by simp [intOf]; omega⟩
    · have hge : k = (docXs s).length := by omega
      subst hge
      go_wp2
      obtain ⟨i0, hi, hz0, hz1, hz2⟩ := info_parts Tryd.info29
      go_loopw [6, 56] (fun v t W => ∃ (j n : Nat) (xs : List Value), j ≤ 40 ∧ n ≤ 65537 + j ∧ t = .int .i64 j ∧ W.ownsRow w2.heap.size 29 4 v n xs ∧ Aside w6 (Value.ownBlock (.slice ao (docXs s).length ca)) W ∧ (v.ownBlock = Value.ownBlock (.slice ao (docXs s).length ca) ∨ ∀ r, v.ownBlock = some r → w6.heap.size ≤ r)) (fun _ t _ => 40 - (intOf t).toNat)
      case atStart => exact ⟨0, _, _, by omega, by omega, rfl, ho, has, .inl rfl⟩
      case round =>
        obtain ⟨j, n, xs, hj, hn, rfl, hov, hav, hvb⟩ := hrel
        by_cases hj4 : j < 40
        · have hji : (j : Int) < 40 := by omega
          have hml : n + 1 ≤ maxLen := by unfold maxLen; omega
          have hsz := hav.size
          have hz3 := hb3.size
          have hz4 := hb4.size
          have hz5 := hb5.size
          have hz6 := hb6.size
          have hnew := cells4_new wr (.int .i64 (-2)) (.int .i64 0) (.string ⟨#[]⟩) (.int .i64 0)
          go_wp2_with (at_builtin; refine wpList_append_own_at _ rfl _ _ 23 rfl w2.heap.size 29 i0 _ 4 40 Tryd.underlying23 hi hz0 hz1 hz2 rfl (by decide) _ _ _ rfl (hov.alloc _) ⟨wr.heap.size, 0, none⟩ 1 1 _ rfl rfl hnew (by simp [Value.oneCell']) hml (by omega) (by simp; omega) ?_; intro v' w4 hown' hgrow hnil hat)
          refine ⟨⟨j + 1, n + 1, _, by omega, by omega, by simp, hown', (hav.alloc _).grown hgrow hvb, ?_⟩, by simp [intOf]; omega⟩
          rcases hat with h | h
          · rw [h]; exact hvb
          · right
            intro r hr
            rw [h] at hr
            cases hr
            simp; omega
        · have hge : j = 40 := by omega
          subst hge
          have hz1 := hb1.size
          have hz2 := hb2.size
          have hz3 := hb3.size
          have hz4 := hb4.size
          have hz5 := hb5.size
          have hz6 := hb6.size
          have hr1 := owns_ge hoa
          have hr2 := owns_lt hoa
          have hdn : Below w2.heap.size w6 wr := hav.down (by omega) hr1
          have hvr : VarOk wr := by
            obtain ⟨te, pe, hc⟩ := hv6
            exact ⟨te, pe, (hdn.cell (p := ⟨1, 0, none⟩) hv2.lt).trans hc⟩
          have rwr : RowAt wr vw (docXs s) := rw6.aside hav fun h0 => by
            obtain ⟨bo, cap, rfl, _, h3⟩ := hrw
            obtain ⟨g, rfl, hg, _⟩ := h3 h0
            intro e
            have := hr1 g e.symm
            omega
          have rbr : RowAt wr vb (docXs s) := rb6.aside hav fun h0 => by
            obtain ⟨g, cap, rfl, hg, _⟩ := owns_cells hob h0
            intro e
            have := hr2 g e.symm
            omega
          go_wp2_with fail
          refine (all_ans _ _ hvr).mono ?_
          rintro e w7 ⟨vc, rfl, hb7, hrc⟩
          have rw7 := rwr.below hb7
          have rb7 := rbr.below hb7
          go_wp2_with fail
          refine (same_any (docXs s) _ _ _ (by omega) rb7 rw7).mono ?_
          rintro e w8 ⟨rfl, hb8⟩
          have rw8 := rw7.below hb8
          have rc8 := hrc.below hb8
          go_wp2_with fail
          refine (same_any (docXs s) _ _ _ (by omega) rc8 rw8).mono ?_
          rintro e w9 ⟨rfl, hb9⟩
          have hz7 := hb7.size
          have hz8 := hb8.size
          have hzr := hdn.size
          go_wp2_with fail
          go_ret
          exact ⟨rfl, (((((((((hb1.trans (hb2.mono hz1)).trans (hb3.mono (by omega))).trans (hb4.mono (by omega))).trans (hb5.mono (by omega))).trans (hb6.mono (by omega))).trans (hdn.mono (by omega))).trans (hb7.mono (by omega))).trans (hb8.mono (by omega))).trans (hb9.mono (by omega)))⟩
end Go.Proofs.YtdlddloggjckmabDoor
