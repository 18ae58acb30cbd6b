/- The document's own Reads: operations but call. -/
import Derived.Test.YtlkoigdnakmdlaaDoorEa
import Derived.Test.YtlkoigdnakmdlaaDoorCb
namespace Go.Proofs.YtlkoigdnakmdlaaDoor
open Go.RowKit Go.Sort

def iV (x : Int) : Value := .int .i64 x
/-- What the document's own Reads answers: a list of its own. -/
def RdP (xop xa xb xc xn p : Int) (w : World) (L : List Int) : Prop := Calls Tryd.prog 30 #[.agg #[.int .i64 xop, .int .i64 xa, .int .i64 xb, .int .i64 xc, .int .i64 xn], .int .i64 p] w fun e w' => ∃ v, e = .returned v ∧ w'.ownsRow w.heap.size 3 1 v L.length (L.map iV) ∧ Below w.heap.size w w'
theorem news_1 (w : World) (a : Int) : ∀ j u, ([.int .i64 a] : List Value)[j]? = some u → (w.alloc (.cells #[.int .i64 a] 3)).cell? ((⟨w.heap.size, 0, none⟩ : Addr).add j) = some u := fun j u hu => by
  rw [Addr.add_lit, Nat.zero_add]
  exact new_cell _ _ _ _ _ (by rw [← hu, ← Array.getElem?_toList])
theorem news_2 (w : World) (a b : Int) : ∀ j u, ([.int .i64 a, .int .i64 b] : List Value)[j]? = some u → (w.alloc (.cells #[.int .i64 a, .int .i64 b] 3)).cell? ((⟨w.heap.size, 0, none⟩ : Addr).add j) = some u := fun j u hu => by
  rw [Addr.add_lit, Nat.zero_add]
  exact new_cell _ _ _ _ _ (by rw [← hu, ← Array.getElem?_toList])
set_option maxHeartbeats 1000000 in
theorem rreads_0 (xa xb xc xn p : Int) (w : World) : RdP 0 xa xb xc xn p w [xa] := by
  unfold RdP
  obtain ⟨i0, hi, hz0, hz1, hz2⟩ := info_parts Tryd.infoN
  have HI0 := Hid.mk' hi
  clear hi
  have hb2 := Below.one (Below.one (Below.refl _ w) (.cells #[.int .i64 0, .int .i64 xa, .int .i64 xb, .int .i64 xc, .int .i64 xn] 27)) (.cells #[] 3)
  have HO := Hid.mk' (own_mono (N' := w.heap.size) (row_new (w.alloc (.cells #[.int .i64 0, .int .i64 xa, .int .i64 xb, .int .i64 xc, .int .i64 xn] 27)) 3 1) (by simp))
  rw [World.size_alloc] at HO
  have HN := Hid.mk' (news_1 ((w.alloc (.cells #[.int .i64 0, .int .i64 xa, .int .i64 xb, .int .i64 xc, .int .i64 xn] 27)).alloc (.cells #[] 3)) xa)
  rw [World.size_alloc, World.size_alloc] at HN
  have HS := Hid.mk' (Below.one hb2 (.cells #[.int .i64 xa] 3)).size
  go_enter Tryd.func30, Tryd.ntmps30
  go_wp2_with (at_builtin; refine wpList_append_own _ rfl _ _ 56 rfl w.heap.size 3 i0 (.int .i64 0) 1 8 Tryd.underlying56 HI0.out hz0 hz1 hz2 rfl (by decide) _ 0 [] rfl (HO.out.alloc _) ⟨w.heap.size + 1 + 1, 0, none⟩ 1 1 [.int .i64 xa] rfl rfl HN.out (by simp [Value.oneCell']) (by unfold maxLen; omega) (by omega) HS.out ?_; intro v1 w1 own1 grow1 _; have hb3 : Below w.heap.size w w1 := (Below.one hb2 _).grown grow1 HS.out (fun k e => by have : k = w.heap.size + 1 := (by injection e with e; exact e.symm); omega))
  go_ret
  exact ⟨_, rfl, own1, hb3⟩
set_option maxHeartbeats 1000000 in
theorem rreads_1 (xa xb xc xn p : Int) (w : World) : RdP 1 xa xb xc xn p w [] := by
  unfold RdP
  obtain ⟨i0, hi, hz0, hz1, hz2⟩ := info_parts Tryd.infoN
  have HI0 := Hid.mk' hi
  clear hi
  have hb2 := Below.one (Below.one (Below.refl _ w) (.cells #[.int .i64 1, .int .i64 xa, .int .i64 xb, .int .i64 xc, .int .i64 xn] 27)) (.cells #[] 3)
  have HO := Hid.mk' (own_mono (N' := w.heap.size) (row_new (w.alloc (.cells #[.int .i64 1, .int .i64 xa, .int .i64 xb, .int .i64 xc, .int .i64 xn] 27)) 3 1) (by simp))
  rw [World.size_alloc] at HO
  go_enter Tryd.func30, Tryd.ntmps30
  go_wp2_with fail
  go_ret
  exact ⟨_, rfl, HO.out, hb2⟩
set_option maxHeartbeats 1000000 in
theorem rreads_2 (xa xb xc xn p : Int) (w : World) : RdP 2 xa xb xc xn p w [xb] := by
  unfold RdP
  obtain ⟨i0, hi, hz0, hz1, hz2⟩ := info_parts Tryd.infoN
  have HI0 := Hid.mk' hi
  clear hi
  have hb2 := Below.one (Below.one (Below.refl _ w) (.cells #[.int .i64 2, .int .i64 xa, .int .i64 xb, .int .i64 xc, .int .i64 xn] 27)) (.cells #[] 3)
  have HO := Hid.mk' (own_mono (N' := w.heap.size) (row_new (w.alloc (.cells #[.int .i64 2, .int .i64 xa, .int .i64 xb, .int .i64 xc, .int .i64 xn] 27)) 3 1) (by simp))
  rw [World.size_alloc] at HO
  have HN := Hid.mk' (news_1 ((w.alloc (.cells #[.int .i64 2, .int .i64 xa, .int .i64 xb, .int .i64 xc, .int .i64 xn] 27)).alloc (.cells #[] 3)) xb)
  rw [World.size_alloc, World.size_alloc] at HN
  have HS := Hid.mk' (Below.one hb2 (.cells #[.int .i64 xb] 3)).size
  go_enter Tryd.func30, Tryd.ntmps30
  go_wp2_with (at_builtin; refine wpList_append_own _ rfl _ _ 56 rfl w.heap.size 3 i0 (.int .i64 0) 1 8 Tryd.underlying56 HI0.out hz0 hz1 hz2 rfl (by decide) _ 0 [] rfl (HO.out.alloc _) ⟨w.heap.size + 1 + 1, 0, none⟩ 1 1 [.int .i64 xb] rfl rfl HN.out (by simp [Value.oneCell']) (by unfold maxLen; omega) (by omega) HS.out ?_; intro v1 w1 own1 grow1 _; have hb3 : Below w.heap.size w w1 := (Below.one hb2 _).grown grow1 HS.out (fun k e => by have : k = w.heap.size + 1 := (by injection e with e; exact e.symm); omega))
  go_ret
  exact ⟨_, rfl, own1, hb3⟩
set_option maxHeartbeats 1000000 in
theorem rreads_3 (xa xb xc xn p : Int) (w : World) : RdP 3 xa xb xc xn p w [xb, xc] := by
  unfold RdP
  obtain ⟨i0, hi, hz0, hz1, hz2⟩ := info_parts Tryd.infoN
  have HI0 := Hid.mk' hi
  clear hi
  have hb2 := Below.one (Below.one (Below.refl _ w) (.cells #[.int .i64 3, .int .i64 xa, .int .i64 xb, .int .i64 xc, .int .i64 xn] 27)) (.cells #[] 3)
  have HO := Hid.mk' (own_mono (N' := w.heap.size) (row_new (w.alloc (.cells #[.int .i64 3, .int .i64 xa, .int .i64 xb, .int .i64 xc, .int .i64 xn] 27)) 3 1) (by simp))
  rw [World.size_alloc] at HO
  have HN := Hid.mk' (news_2 ((w.alloc (.cells #[.int .i64 3, .int .i64 xa, .int .i64 xb, .int .i64 xc, .int .i64 xn] 27)).alloc (.cells #[] 3)) xb xc)
  rw [World.size_alloc, World.size_alloc] at HN
  have HS := Hid.mk' (Below.one hb2 (.cells #[.int .i64 xb, .int .i64 xc] 3)).size
  go_enter Tryd.func30, Tryd.ntmps30
  go_wp2_with (at_builtin; refine wpList_append_own _ rfl _ _ 56 rfl w.heap.size 3 i0 (.int .i64 0) 1 8 Tryd.underlying56 HI0.out hz0 hz1 hz2 rfl (by decide) _ 0 [] rfl (HO.out.alloc _) ⟨w.heap.size + 1 + 1, 0, none⟩ 2 2 [.int .i64 xb, .int .i64 xc] rfl rfl HN.out (by simp [Value.oneCell']) (by unfold maxLen; omega) (by omega) HS.out ?_; intro v1 w1 own1 grow1 _; have hb3 : Below w.heap.size w w1 := (Below.one hb2 _).grown grow1 HS.out (fun k e => by have : k = w.heap.size + 1 := (by injection e with e; exact e.symm); omega))
  go_ret
  exact ⟨_, rfl, own1, hb3⟩
set_option maxHeartbeats 1000000 in
theorem rreads_4 (xa xb xc xn p : Int) (w : World) : RdP 4 xa xb xc xn p w [xb, xc] := by
  unfold RdP
  obtain ⟨i0, hi, hz0, hz1, hz2⟩ := info_parts Tryd.infoN
  have HI0 := Hid.mk' hi
  clear hi
  have hb2 := Below.one (Below.one (Below.refl _ w) (.cells #[.int .i64 4, .int .i64 xa, .int .i64 xb, .int .i64 xc, .int .i64 xn] 27)) (.cells #[] 3)
  have HO := Hid.mk' (own_mono (N' := w.heap.size) (row_new (w.alloc (.cells #[.int .i64 4, .int .i64 xa, .int .i64 xb, .int .i64 xc, .int .i64 xn] 27)) 3 1) (by simp))
  rw [World.size_alloc] at HO
  have HN := Hid.mk' (news_2 ((w.alloc (.cells #[.int .i64 4, .int .i64 xa, .int .i64 xb, .int .i64 xc, .int .i64 xn] 27)).alloc (.cells #[] 3)) xb xc)
  rw [World.size_alloc, World.size_alloc] at HN
  have HS := Hid.mk' (Below.one hb2 (.cells #[.int .i64 xb, .int .i64 xc] 3)).size
  go_enter Tryd.func30, Tryd.ntmps30
  go_wp2_with (at_builtin; refine wpList_append_own _ rfl _ _ 56 rfl w.heap.size 3 i0 (.int .i64 0) 1 8 Tryd.underlying56 HI0.out hz0 hz1 hz2 rfl (by decide) _ 0 [] rfl (HO.out.alloc _) ⟨w.heap.size + 1 + 1, 0, none⟩ 2 2 [.int .i64 xb, .int .i64 xc] rfl rfl HN.out (by simp [Value.oneCell']) (by unfold maxLen; omega) (by omega) HS.out ?_; intro v1 w1 own1 grow1 _; have hb3 : Below w.heap.size w w1 := (Below.one hb2 _).grown grow1 HS.out (fun k e => by have : k = w.heap.size + 1 := (by injection e with e; exact e.symm); omega))
  go_ret
  exact ⟨_, rfl, own1, hb3⟩
set_option maxHeartbeats 1000000 in
theorem rreads_5 (xa xb xc xn p : Int) (w : World) : RdP 5 xa xb xc xn p w [xb, xc] := by
  unfold RdP
  obtain ⟨i0, hi, hz0, hz1, hz2⟩ := info_parts Tryd.infoN
  have HI0 := Hid.mk' hi
  clear hi
  have hb2 := Below.one (Below.one (Below.refl _ w) (.cells #[.int .i64 5, .int .i64 xa, .int .i64 xb, .int .i64 xc, .int .i64 xn] 27)) (.cells #[] 3)
  have HO := Hid.mk' (own_mono (N' := w.heap.size) (row_new (w.alloc (.cells #[.int .i64 5, .int .i64 xa, .int .i64 xb, .int .i64 xc, .int .i64 xn] 27)) 3 1) (by simp))
  rw [World.size_alloc] at HO
  have HN := Hid.mk' (news_2 ((w.alloc (.cells #[.int .i64 5, .int .i64 xa, .int .i64 xb, .int .i64 xc, .int .i64 xn] 27)).alloc (.cells #[] 3)) xb xc)
  rw [World.size_alloc, World.size_alloc] at HN
  have HS := Hid.mk' (Below.one hb2 (.cells #[.int .i64 xb, .int .i64 xc] 3)).size
  go_enter Tryd.func30, Tryd.ntmps30
  go_wp2_with (at_builtin; refine wpList_append_own _ rfl _ _ 56 rfl w.heap.size 3 i0 (.int .i64 0) 1 8 Tryd.underlying56 HI0.out hz0 hz1 hz2 rfl (by decide) _ 0 [] rfl (HO.out.alloc _) ⟨w.heap.size + 1 + 1, 0, none⟩ 2 2 [.int .i64 xb, .int .i64 xc] rfl rfl HN.out (by simp [Value.oneCell']) (by unfold maxLen; omega) (by omega) HS.out ?_; intro v1 w1 own1 grow1 _; have hb3 : Below w.heap.size w w1 := (Below.one hb2 _).grown grow1 HS.out (fun k e => by have : k = w.heap.size + 1 := (by injection e with e; exact e.symm); omega))
  go_ret
  exact ⟨_, rfl, own1, hb3⟩
set_option maxHeartbeats 1000000 in
theorem rreads_6 (xa xb xc xn p : Int) (w : World) : RdP 6 xa xb xc xn p w [xb, xc] := by
  unfold RdP
  obtain ⟨i0, hi, hz0, hz1, hz2⟩ := info_parts Tryd.infoN
  have HI0 := Hid.mk' hi
  clear hi
  have hb2 := Below.one (Below.one (Below.refl _ w) (.cells #[.int .i64 6, .int .i64 xa, .int .i64 xb, .int .i64 xc, .int .i64 xn] 27)) (.cells #[] 3)
  have HO := Hid.mk' (own_mono (N' := w.heap.size) (row_new (w.alloc (.cells #[.int .i64 6, .int .i64 xa, .int .i64 xb, .int .i64 xc, .int .i64 xn] 27)) 3 1) (by simp))
  rw [World.size_alloc] at HO
  have HN := Hid.mk' (news_2 ((w.alloc (.cells #[.int .i64 6, .int .i64 xa, .int .i64 xb, .int .i64 xc, .int .i64 xn] 27)).alloc (.cells #[] 3)) xb xc)
  rw [World.size_alloc, World.size_alloc] at HN
  have HS := Hid.mk' (Below.one hb2 (.cells #[.int .i64 xb, .int .i64 xc] 3)).size
  go_enter Tryd.func30, Tryd.ntmps30
  go_wp2_with (at_builtin; refine wpList_append_own _ rfl _ _ 56 rfl w.heap.size 3 i0 (.int .i64 0) 1 8 Tryd.underlying56 HI0.out hz0 hz1 hz2 rfl (by decide) _ 0 [] rfl (HO.out.alloc _) ⟨w.heap.size + 1 + 1, 0, none⟩ 2 2 [.int .i64 xb, .int .i64 xc] rfl rfl HN.out (by simp [Value.oneCell']) (by unfold maxLen; omega) (by omega) HS.out ?_; intro v1 w1 own1 grow1 _; have hb3 : Below w.heap.size w w1 := (Below.one hb2 _).grown grow1 HS.out (fun k e => by have : k = w.heap.size + 1 := (by injection e with e; exact e.symm); omega))
  go_ret
  exact ⟨_, rfl, own1, hb3⟩
set_option maxHeartbeats 1000000 in
theorem rreads_7 (xa xb xc xn p : Int) (w : World) : RdP 7 xa xb xc xn p w [xb, xc] := by
  unfold RdP
  obtain ⟨i0, hi, hz0, hz1, hz2⟩ := info_parts Tryd.infoN
  have HI0 := Hid.mk' hi
  clear hi
  have hb2 := Below.one (Below.one (Below.refl _ w) (.cells #[.int .i64 7, .int .i64 xa, .int .i64 xb, .int .i64 xc, .int .i64 xn] 27)) (.cells #[] 3)
  have HO := Hid.mk' (own_mono (N' := w.heap.size) (row_new (w.alloc (.cells #[.int .i64 7, .int .i64 xa, .int .i64 xb, .int .i64 xc, .int .i64 xn] 27)) 3 1) (by simp))
  rw [World.size_alloc] at HO
  have HN := Hid.mk' (news_2 ((w.alloc (.cells #[.int .i64 7, .int .i64 xa, .int .i64 xb, .int .i64 xc, .int .i64 xn] 27)).alloc (.cells #[] 3)) xb xc)
  rw [World.size_alloc, World.size_alloc] at HN
  have HS := Hid.mk' (Below.one hb2 (.cells #[.int .i64 xb, .int .i64 xc] 3)).size
  go_enter Tryd.func30, Tryd.ntmps30
  go_wp2_with (at_builtin; refine wpList_append_own _ rfl _ _ 56 rfl w.heap.size 3 i0 (.int .i64 0) 1 8 Tryd.underlying56 HI0.out hz0 hz1 hz2 rfl (by decide) _ 0 [] rfl (HO.out.alloc _) ⟨w.heap.size + 1 + 1, 0, none⟩ 2 2 [.int .i64 xb, .int .i64 xc] rfl rfl HN.out (by simp [Value.oneCell']) (by unfold maxLen; omega) (by omega) HS.out ?_; intro v1 w1 own1 grow1 _; have hb3 : Below w.heap.size w w1 := (Below.one hb2 _).grown grow1 HS.out (fun k e => by have : k = w.heap.size + 1 := (by injection e with e; exact e.symm); omega))
  go_ret
  exact ⟨_, rfl, own1, hb3⟩
set_option maxHeartbeats 1000000 in
theorem rreads_8 (xa xb xc xn p : Int) (w : World) : RdP 8 xa xb xc xn p w [xb, xc] := by
  unfold RdP
  obtain ⟨i0, hi, hz0, hz1, hz2⟩ := info_parts Tryd.infoN
  have HI0 := Hid.mk' hi
  clear hi
  have hb2 := Below.one (Below.one (Below.refl _ w) (.cells #[.int .i64 8, .int .i64 xa, .int .i64 xb, .int .i64 xc, .int .i64 xn] 27)) (.cells #[] 3)
  have HO := Hid.mk' (own_mono (N' := w.heap.size) (row_new (w.alloc (.cells #[.int .i64 8, .int .i64 xa, .int .i64 xb, .int .i64 xc, .int .i64 xn] 27)) 3 1) (by simp))
  rw [World.size_alloc] at HO
  have HN := Hid.mk' (news_2 ((w.alloc (.cells #[.int .i64 8, .int .i64 xa, .int .i64 xb, .int .i64 xc, .int .i64 xn] 27)).alloc (.cells #[] 3)) xb xc)
  rw [World.size_alloc, World.size_alloc] at HN
  have HS := Hid.mk' (Below.one hb2 (.cells #[.int .i64 xb, .int .i64 xc] 3)).size
  go_enter Tryd.func30, Tryd.ntmps30
  go_wp2_with (at_builtin; refine wpList_append_own _ rfl _ _ 56 rfl w.heap.size 3 i0 (.int .i64 0) 1 8 Tryd.underlying56 HI0.out hz0 hz1 hz2 rfl (by decide) _ 0 [] rfl (HO.out.alloc _) ⟨w.heap.size + 1 + 1, 0, none⟩ 2 2 [.int .i64 xb, .int .i64 xc] rfl rfl HN.out (by simp [Value.oneCell']) (by unfold maxLen; omega) (by omega) HS.out ?_; intro v1 w1 own1 grow1 _; have hb3 : Below w.heap.size w w1 := (Below.one hb2 _).grown grow1 HS.out (fun k e => by have : k = w.heap.size + 1 := (by injection e with e; exact e.symm); omega))
  go_ret
  exact ⟨_, rfl, own1, hb3⟩
set_option maxHeartbeats 1000000 in
theorem rreads_9 (xa xb xc xn p : Int) (w : World) : RdP 9 xa xb xc xn p w [xb, xc] := by
  unfold RdP
  obtain ⟨i0, hi, hz0, hz1, hz2⟩ := info_parts Tryd.infoN
  have HI0 := Hid.mk' hi
  clear hi
  have hb2 := Below.one (Below.one (Below.refl _ w) (.cells #[.int .i64 9, .int .i64 xa, .int .i64 xb, .int .i64 xc, .int .i64 xn] 27)) (.cells #[] 3)
  have HO := Hid.mk' (own_mono (N' := w.heap.size) (row_new (w.alloc (.cells #[.int .i64 9, .int .i64 xa, .int .i64 xb, .int .i64 xc, .int .i64 xn] 27)) 3 1) (by simp))
  rw [World.size_alloc] at HO
  have HN := Hid.mk' (news_2 ((w.alloc (.cells #[.int .i64 9, .int .i64 xa, .int .i64 xb, .int .i64 xc, .int .i64 xn] 27)).alloc (.cells #[] 3)) xb xc)
  rw [World.size_alloc, World.size_alloc] at HN
  have HS := Hid.mk' (Below.one hb2 (.cells #[.int .i64 xb, .int .i64 xc] 3)).size
  go_enter Tryd.func30, Tryd.ntmps30
  go_wp2_with (at_builtin; refine wpList_append_own _ rfl _ _ 56 rfl w.heap.size 3 i0 (.int .i64 0) 1 8 Tryd.underlying56 HI0.out hz0 hz1 hz2 rfl (by decide) _ 0 [] rfl (HO.out.alloc _) ⟨w.heap.size + 1 + 1, 0, none⟩ 2 2 [.int .i64 xb, .int .i64 xc] rfl rfl HN.out (by simp [Value.oneCell']) (by unfold maxLen; omega) (by omega) HS.out ?_; intro v1 w1 own1 grow1 _; have hb3 : Below w.heap.size w w1 := (Below.one hb2 _).grown grow1 HS.out (fun k e => by have : k = w.heap.size + 1 := (by injection e with e; exact e.symm); omega))
  go_ret
  exact ⟨_, rfl, own1, hb3⟩
set_option maxHeartbeats 1000000 in
theorem rreads_10 (xa xb xc xn p : Int) (w : World) : RdP 10 xa xb xc xn p w [xb] := by
  unfold RdP
  obtain ⟨i0, hi, hz0, hz1, hz2⟩ := info_parts Tryd.infoN
  have HI0 := Hid.mk' hi
  clear hi
  have hb2 := Below.one (Below.one (Below.refl _ w) (.cells #[.int .i64 10, .int .i64 xa, .int .i64 xb, .int .i64 xc, .int .i64 xn] 27)) (.cells #[] 3)
  have HO := Hid.mk' (own_mono (N' := w.heap.size) (row_new (w.alloc (.cells #[.int .i64 10, .int .i64 xa, .int .i64 xb, .int .i64 xc, .int .i64 xn] 27)) 3 1) (by simp))
  rw [World.size_alloc] at HO
  have HN := Hid.mk' (news_1 ((w.alloc (.cells #[.int .i64 10, .int .i64 xa, .int .i64 xb, .int .i64 xc, .int .i64 xn] 27)).alloc (.cells #[] 3)) xb)
  rw [World.size_alloc, World.size_alloc] at HN
  have HS := Hid.mk' (Below.one hb2 (.cells #[.int .i64 xb] 3)).size
  go_enter Tryd.func30, Tryd.ntmps30
  go_wp2_with (at_builtin; refine wpList_append_own _ rfl _ _ 56 rfl w.heap.size 3 i0 (.int .i64 0) 1 8 Tryd.underlying56 HI0.out hz0 hz1 hz2 rfl (by decide) _ 0 [] rfl (HO.out.alloc _) ⟨w.heap.size + 1 + 1, 0, none⟩ 1 1 [.int .i64 xb] rfl rfl HN.out (by simp [Value.oneCell']) (by unfold maxLen; omega) (by omega) HS.out ?_; intro v1 w1 own1 grow1 _; have hb3 : Below w.heap.size w w1 := (Below.one hb2 _).grown grow1 HS.out (fun k e => by have : k = w.heap.size + 1 := (by injection e with e; exact e.symm); omega))
  go_ret
  exact ⟨_, rfl, own1, hb3⟩
set_option maxHeartbeats 1000000 in
theorem rreads_11 (xa xb xc xn p : Int) (w : World) : RdP 11 xa xb xc xn p w [xb] := by
  unfold RdP
  obtain ⟨i0, hi, hz0, hz1, hz2⟩ := info_parts Tryd.infoN
  have HI0 := Hid.mk' hi
  clear hi
  have hb2 := Below.one (Below.one (Below.refl _ w) (.cells #[.int .i64 11, .int .i64 xa, .int .i64 xb, .int .i64 xc, .int .i64 xn] 27)) (.cells #[] 3)
  have HO := Hid.mk' (own_mono (N' := w.heap.size) (row_new (w.alloc (.cells #[.int .i64 11, .int .i64 xa, .int .i64 xb, .int .i64 xc, .int .i64 xn] 27)) 3 1) (by simp))
  rw [World.size_alloc] at HO
  have HN := Hid.mk' (news_1 ((w.alloc (.cells #[.int .i64 11, .int .i64 xa, .int .i64 xb, .int .i64 xc, .int .i64 xn] 27)).alloc (.cells #[] 3)) xb)
  rw [World.size_alloc, World.size_alloc] at HN
  have HS := Hid.mk' (Below.one hb2 (.cells #[.int .i64 xb] 3)).size
  go_enter Tryd.func30, Tryd.ntmps30
  go_wp2_with (at_builtin; refine wpList_append_own _ rfl _ _ 56 rfl w.heap.size 3 i0 (.int .i64 0) 1 8 Tryd.underlying56 HI0.out hz0 hz1 hz2 rfl (by decide) _ 0 [] rfl (HO.out.alloc _) ⟨w.heap.size + 1 + 1, 0, none⟩ 1 1 [.int .i64 xb] rfl rfl HN.out (by simp [Value.oneCell']) (by unfold maxLen; omega) (by omega) HS.out ?_; intro v1 w1 own1 grow1 _; have hb3 : Below w.heap.size w w1 := (Below.one hb2 _).grown grow1 HS.out (fun k e => by have : k = w.heap.size + 1 := (by injection e with e; exact e.symm); omega))
  go_ret
  exact ⟨_, rfl, own1, hb3⟩
set_option maxHeartbeats 1000000 in
theorem rreads_12 (xa xb xc xn p : Int) (w : World) : RdP 12 xa xb xc xn p w [xa, xb] := by
  unfold RdP
  obtain ⟨i0, hi, hz0, hz1, hz2⟩ := info_parts Tryd.infoN
  have HI0 := Hid.mk' hi
  clear hi
  have hb2 := Below.one (Below.one (Below.refl _ w) (.cells #[.int .i64 12, .int .i64 xa, .int .i64 xb, .int .i64 xc, .int .i64 xn] 27)) (.cells #[] 3)
  have HO := Hid.mk' (own_mono (N' := w.heap.size) (row_new (w.alloc (.cells #[.int .i64 12, .int .i64 xa, .int .i64 xb, .int .i64 xc, .int .i64 xn] 27)) 3 1) (by simp))
  rw [World.size_alloc] at HO
  have HN := Hid.mk' (news_2 ((w.alloc (.cells #[.int .i64 12, .int .i64 xa, .int .i64 xb, .int .i64 xc, .int .i64 xn] 27)).alloc (.cells #[] 3)) xa xb)
  rw [World.size_alloc, World.size_alloc] at HN
  have HS := Hid.mk' (Below.one hb2 (.cells #[.int .i64 xa, .int .i64 xb] 3)).size
  go_enter Tryd.func30, Tryd.ntmps30
  go_wp2_with (at_builtin; refine wpList_append_own _ rfl _ _ 56 rfl w.heap.size 3 i0 (.int .i64 0) 1 8 Tryd.underlying56 HI0.out hz0 hz1 hz2 rfl (by decide) _ 0 [] rfl (HO.out.alloc _) ⟨w.heap.size + 1 + 1, 0, none⟩ 2 2 [.int .i64 xa, .int .i64 xb] rfl rfl HN.out (by simp [Value.oneCell']) (by unfold maxLen; omega) (by omega) HS.out ?_; intro v1 w1 own1 grow1 _; have hb3 : Below w.heap.size w w1 := (Below.one hb2 _).grown grow1 HS.out (fun k e => by have : k = w.heap.size + 1 := (by injection e with e; exact e.symm); omega))
  go_ret
  exact ⟨_, rfl, own1, hb3⟩
set_option maxHeartbeats 1000000 in
theorem rreads_13 (xa xb xc xn p : Int) (w : World) : RdP 13 xa xb xc xn p w [xa] := by
  unfold RdP
  obtain ⟨i0, hi, hz0, hz1, hz2⟩ := info_parts Tryd.infoN
  have HI0 := Hid.mk' hi
  clear hi
  have hb2 := Below.one (Below.one (Below.refl _ w) (.cells #[.int .i64 13, .int .i64 xa, .int .i64 xb, .int .i64 xc, .int .i64 xn] 27)) (.cells #[] 3)
  have HO := Hid.mk' (own_mono (N' := w.heap.size) (row_new (w.alloc (.cells #[.int .i64 13, .int .i64 xa, .int .i64 xb, .int .i64 xc, .int .i64 xn] 27)) 3 1) (by simp))
  rw [World.size_alloc] at HO
  have HN := Hid.mk' (news_1 ((w.alloc (.cells #[.int .i64 13, .int .i64 xa, .int .i64 xb, .int .i64 xc, .int .i64 xn] 27)).alloc (.cells #[] 3)) xa)
  rw [World.size_alloc, World.size_alloc] at HN
  have HS := Hid.mk' (Below.one hb2 (.cells #[.int .i64 xa] 3)).size
  go_enter Tryd.func30, Tryd.ntmps30
  go_wp2_with (at_builtin; refine wpList_append_own _ rfl _ _ 56 rfl w.heap.size 3 i0 (.int .i64 0) 1 8 Tryd.underlying56 HI0.out hz0 hz1 hz2 rfl (by decide) _ 0 [] rfl (HO.out.alloc _) ⟨w.heap.size + 1 + 1, 0, none⟩ 1 1 [.int .i64 xa] rfl rfl HN.out (by simp [Value.oneCell']) (by unfold maxLen; omega) (by omega) HS.out ?_; intro v1 w1 own1 grow1 _; have hb3 : Below w.heap.size w w1 := (Below.one hb2 _).grown grow1 HS.out (fun k e => by have : k = w.heap.size + 1 := (by injection e with e; exact e.symm); omega))
  go_ret
  exact ⟨_, rfl, own1, hb3⟩
set_option maxHeartbeats 1000000 in
theorem rreads_14 (xa xb xc xn p : Int) (w : World) : RdP 14 xa xb xc xn p w [] := by
  unfold RdP
  obtain ⟨i0, hi, hz0, hz1, hz2⟩ := info_parts Tryd.infoN
  have HI0 := Hid.mk' hi
  clear hi
  have hb2 := Below.one (Below.one (Below.refl _ w) (.cells #[.int .i64 14, .int .i64 xa, .int .i64 xb, .int .i64 xc, .int .i64 xn] 27)) (.cells #[] 3)
  have HO := Hid.mk' (own_mono (N' := w.heap.size) (row_new (w.alloc (.cells #[.int .i64 14, .int .i64 xa, .int .i64 xb, .int .i64 xc, .int .i64 xn] 27)) 3 1) (by simp))
  rw [World.size_alloc] at HO
  go_enter Tryd.func30, Tryd.ntmps30
  go_wp2_with fail
  go_ret
  exact ⟨_, rfl, HO.out, hb2⟩
set_option maxHeartbeats 1000000 in
theorem rreads_15 (xa xb xc xn p : Int) (w : World) : RdP 15 xa xb xc xn p w [xa] := by
  unfold RdP
  obtain ⟨i0, hi, hz0, hz1, hz2⟩ := info_parts Tryd.infoN
  have HI0 := Hid.mk' hi
  clear hi
  have hb2 := Below.one (Below.one (Below.refl _ w) (.cells #[.int .i64 15, .int .i64 xa, .int .i64 xb, .int .i64 xc, .int .i64 xn] 27)) (.cells #[] 3)
  have HO := Hid.mk' (own_mono (N' := w.heap.size) (row_new (w.alloc (.cells #[.int .i64 15, .int .i64 xa, .int .i64 xb, .int .i64 xc, .int .i64 xn] 27)) 3 1) (by simp))
  rw [World.size_alloc] at HO
  have HN := Hid.mk' (news_1 ((w.alloc (.cells #[.int .i64 15, .int .i64 xa, .int .i64 xb, .int .i64 xc, .int .i64 xn] 27)).alloc (.cells #[] 3)) xa)
  rw [World.size_alloc, World.size_alloc] at HN
  have HS := Hid.mk' (Below.one hb2 (.cells #[.int .i64 xa] 3)).size
  go_enter Tryd.func30, Tryd.ntmps30
  go_wp2_with (at_builtin; refine wpList_append_own _ rfl _ _ 56 rfl w.heap.size 3 i0 (.int .i64 0) 1 8 Tryd.underlying56 HI0.out hz0 hz1 hz2 rfl (by decide) _ 0 [] rfl (HO.out.alloc _) ⟨w.heap.size + 1 + 1, 0, none⟩ 1 1 [.int .i64 xa] rfl rfl HN.out (by simp [Value.oneCell']) (by unfold maxLen; omega) (by omega) HS.out ?_; intro v1 w1 own1 grow1 _; have hb3 : Below w.heap.size w w1 := (Below.one hb2 _).grown grow1 HS.out (fun k e => by have : k = w.heap.size + 1 := (by injection e with e; exact e.symm); omega))
  go_ret
  exact ⟨_, rfl, own1, hb3⟩
set_option maxHeartbeats 1000000 in
theorem rreads_16 (xa xb xc xn p : Int) (w : World) : RdP 16 xa xb xc xn p w [xa] := by
  unfold RdP
  obtain ⟨i0, hi, hz0, hz1, hz2⟩ := info_parts Tryd.infoN
  have HI0 := Hid.mk' hi
  clear hi
  have hb2 := Below.one (Below.one (Below.refl _ w) (.cells #[.int .i64 16, .int .i64 xa, .int .i64 xb, .int .i64 xc, .int .i64 xn] 27)) (.cells #[] 3)
  have HO := Hid.mk' (own_mono (N' := w.heap.size) (row_new (w.alloc (.cells #[.int .i64 16, .int .i64 xa, .int .i64 xb, .int .i64 xc, .int .i64 xn] 27)) 3 1) (by simp))
  rw [World.size_alloc] at HO
  have HN := Hid.mk' (news_1 ((w.alloc (.cells #[.int .i64 16, .int .i64 xa, .int .i64 xb, .int .i64 xc, .int .i64 xn] 27)).alloc (.cells #[] 3)) xa)
  rw [World.size_alloc, World.size_alloc] at HN
  have HS := Hid.mk' (Below.one hb2 (.cells #[.int .i64 xa] 3)).size
  go_enter Tryd.func30, Tryd.ntmps30
  go_wp2_with (at_builtin; refine wpList_append_own _ rfl _ _ 56 rfl w.heap.size 3 i0 (.int .i64 0) 1 8 Tryd.underlying56 HI0.out hz0 hz1 hz2 rfl (by decide) _ 0 [] rfl (HO.out.alloc _) ⟨w.heap.size + 1 + 1, 0, none⟩ 1 1 [.int .i64 xa] rfl rfl HN.out (by simp [Value.oneCell']) (by unfold maxLen; omega) (by omega) HS.out ?_; intro v1 w1 own1 grow1 _; have hb3 : Below w.heap.size w w1 := (Below.one hb2 _).grown grow1 HS.out (fun k e => by have : k = w.heap.size + 1 := (by injection e with e; exact e.symm); omega))
  go_ret
  exact ⟨_, rfl, own1, hb3⟩
set_option maxHeartbeats 1000000 in
theorem rreads_17 (xa xb xc xn p : Int) (w : World) : RdP 17 xa xb xc xn p w [xa, xb] := by
  unfold RdP
  obtain ⟨i0, hi, hz0, hz1, hz2⟩ := info_parts Tryd.infoN
  have HI0 := Hid.mk' hi
  clear hi
  have hb2 := Below.one (Below.one (Below.refl _ w) (.cells #[.int .i64 17, .int .i64 xa, .int .i64 xb, .int .i64 xc, .int .i64 xn] 27)) (.cells #[] 3)
  have HO := Hid.mk' (own_mono (N' := w.heap.size) (row_new (w.alloc (.cells #[.int .i64 17, .int .i64 xa, .int .i64 xb, .int .i64 xc, .int .i64 xn] 27)) 3 1) (by simp))
  rw [World.size_alloc] at HO
  have HN := Hid.mk' (news_2 ((w.alloc (.cells #[.int .i64 17, .int .i64 xa, .int .i64 xb, .int .i64 xc, .int .i64 xn] 27)).alloc (.cells #[] 3)) xa xb)
  rw [World.size_alloc, World.size_alloc] at HN
  have HS := Hid.mk' (Below.one hb2 (.cells #[.int .i64 xa, .int .i64 xb] 3)).size
  go_enter Tryd.func30, Tryd.ntmps30
  go_wp2_with (at_builtin; refine wpList_append_own _ rfl _ _ 56 rfl w.heap.size 3 i0 (.int .i64 0) 1 8 Tryd.underlying56 HI0.out hz0 hz1 hz2 rfl (by decide) _ 0 [] rfl (HO.out.alloc _) ⟨w.heap.size + 1 + 1, 0, none⟩ 2 2 [.int .i64 xa, .int .i64 xb] rfl rfl HN.out (by simp [Value.oneCell']) (by unfold maxLen; omega) (by omega) HS.out ?_; intro v1 w1 own1 grow1 _; have hb3 : Below w.heap.size w w1 := (Below.one hb2 _).grown grow1 HS.out (fun k e => by have : k = w.heap.size + 1 := (by injection e with e; exact e.symm); omega))
  go_ret
  exact ⟨_, rfl, own1, hb3⟩
set_option maxHeartbeats 1000000 in
theorem rreads_18 (xa xb xc xn p : Int) (w : World) : RdP 18 xa xb xc xn p w [xa] := by
  unfold RdP
  obtain ⟨i0, hi, hz0, hz1, hz2⟩ := info_parts Tryd.infoN
  have HI0 := Hid.mk' hi
  clear hi
  have hb2 := Below.one (Below.one (Below.refl _ w) (.cells #[.int .i64 18, .int .i64 xa, .int .i64 xb, .int .i64 xc, .int .i64 xn] 27)) (.cells #[] 3)
  have HO := Hid.mk' (own_mono (N' := w.heap.size) (row_new (w.alloc (.cells #[.int .i64 18, .int .i64 xa, .int .i64 xb, .int .i64 xc, .int .i64 xn] 27)) 3 1) (by simp))
  rw [World.size_alloc] at HO
  have HN := Hid.mk' (news_1 ((w.alloc (.cells #[.int .i64 18, .int .i64 xa, .int .i64 xb, .int .i64 xc, .int .i64 xn] 27)).alloc (.cells #[] 3)) xa)
  rw [World.size_alloc, World.size_alloc] at HN
  have HS := Hid.mk' (Below.one hb2 (.cells #[.int .i64 xa] 3)).size
  go_enter Tryd.func30, Tryd.ntmps30
  go_wp2_with (at_builtin; refine wpList_append_own _ rfl _ _ 56 rfl w.heap.size 3 i0 (.int .i64 0) 1 8 Tryd.underlying56 HI0.out hz0 hz1 hz2 rfl (by decide) _ 0 [] rfl (HO.out.alloc _) ⟨w.heap.size + 1 + 1, 0, none⟩ 1 1 [.int .i64 xa] rfl rfl HN.out (by simp [Value.oneCell']) (by unfold maxLen; omega) (by omega) HS.out ?_; intro v1 w1 own1 grow1 _; have hb3 : Below w.heap.size w w1 := (Below.one hb2 _).grown grow1 HS.out (fun k e => by have : k = w.heap.size + 1 := (by injection e with e; exact e.symm); omega))
  go_ret
  exact ⟨_, rfl, own1, hb3⟩
end Go.Proofs.YtlkoigdnakmdlaaDoor
