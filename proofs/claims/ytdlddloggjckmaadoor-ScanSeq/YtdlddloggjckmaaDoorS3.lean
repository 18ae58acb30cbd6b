/- The function that Tokens hands back: the tokens ahead of the first error, in their order. -/
import Derived.Test.YtdlddloggjckmaaDoorS2
import Derived.Test.YtdlddloggjckmaaDoorH
namespace Go.Proofs.YtdlddloggjckmaaDoor
open Go.RowKit Go.Shelf
attribute [local go_sem] Oper.semAt_some

abbrev encT (x : It) : Array Value := #[tokV x.kind x.at_ x.text x.n]
def toks (s : ByteArray) : List It := (items s).filter (fun y => y.err == 0)
theorem toks_pre {s : ByteArray} {pre : List It} (h : pre <+: items s) (he : ∀ y ∈ pre, y.err = 0) : pre <+: toks s := by
  obtain ⟨r, hr⟩ := h
  refine ⟨r.filter (fun y => y.err == 0), ?_⟩
  unfold toks
  rw [← hr, List.filter_append, List.filter_eq_self.2 (fun y (hy : y ∈ pre) => by simp [he y hy])]
theorem toks_ok {s : ByteArray} (he : ∀ y ∈ items s, y.err = 0) : toks s = items s := List.filter_eq_self.2 (fun y hy => by simp [he y hy])
theorem toks_err {s : ByteArray} {pre : List It} {x : It} (h : items s = pre ++ [x]) (he : ∀ y ∈ pre, y.err = 0) (hx : x.err ≠ 0) : toks s = pre := by
  unfold toks
  rw [h, List.filter_append, List.filter_eq_self.2 (fun y hy => by simp [he y hy])]
  simp [hx]

theorem kpA_put {Bs B k : Nat} (h1 : k < B) (h2 : k ≠ Bs) (h3 : k ≠ 1) (W : World) (o' : Obj) (_ : k < W.heap.size) : KpA Bs B W (W.putObj k o') :=
  ⟨(grownBy_putObj' W k o').size, fun i _ hc => World.putObj_heap_other (by rcases hc with h | h | h <;> omega)⟩

theorem kpA_keeps {Bo B B' : Nat} {X Y : World} (h : KpA Bo B X Y) (hB : B ≤ B') : KeepsFrom B' X Y :=
  ⟨h.1, fun k _ hk hx _ => (h.2 k (Array.getElem?_eq_some_iff.1 hx).1 (.inl (by omega))).trans hx⟩
theorem kpA_in {Bo B Bs B' : Nat} {X Y : World} (h : KpA Bo B X Y) (h1 : B ≤ Bs) (h2 : B ≤ B') : KpA Bs B' X Y :=
  ⟨h.1, fun k hk hc => h.2 k hk (by
    rcases hc with h | h | h
    · exact .inl (by omega)
    · exact .inl (by omega)
    · exact .inr (.inr h))⟩
theorem kpA_alloc {Bs B : Nat} (W : World) (o : Obj) : KpA Bs B W (W.alloc o) := ⟨by simp, fun i hi _ => Below.heap_alloc W o i hi⟩

set_option maxRecDepth 100000 in
set_option maxHeartbeats 2000000 in
theorem tokens2_o (Bo : Nat) (s : ByteArray) (hs : s.size ≤ 281474976710656) (w : World) (hB : w.cell? ⟨Bo, 0, none⟩ = some (.string s)) (hv : VarOk w) :
    SeqO 25 #[.pointer (some ⟨Bo, 0, none⟩)] encT (KpA Bo) (toks s) w := by
  intro l J Jx W hW hJ hJx hY h0
  have hBW := (hW.cell (p := ⟨Bo, 0, none⟩) (Lib.lt_of_cell hB)).trans hB
  have hBl := Lib.lt_of_cell hBW
  have hvW := hv.below hW
  refine calls_any (m := 6) ?_
  refine callsIn_of_wp_marks Tryd.func25 rfl trivial ?_ rfl
  simp only [Tryd.ntmps25, List.size_toArray, List.length_cons, List.length_nil, Nat.reduceAdd, Nat.reduceSub, Array.replicate_succ, Array.replicate_zero, List.push_toArray, List.append_toArray, List.nil_append, List.cons_append]
  gi_wp2_with fail
  refine ⟨trivial, ?_⟩
  refine (callsIn_wide.2 (steps_any _ _)).mono ?_
  rintro e w' ⟨rfl, rfl⟩
  gi_wp2_with fail
  obtain ⟨W0, hW0⟩ : ∃ W0, (W.alloc (.cells #[.func (.yield l) #[] #[]] 42)).alloc (.cells #[.string s] 9) = W0 := ⟨_, rfl⟩
  have hsz : W0.heap.size = W.heap.size + 1 + 1 := by rw [← hW0]; simp
  have b0 : Boxed W0 W.heap.size 42 (.func (.yield l) #[] #[]) := by rw [← hW0]; exact (Boxed.new W 42 _).alloc _
  have b1 : Boxed W0 (W.heap.size + 1) 9 (.string s) := by
    rw [← hW0]; have := Boxed.new (W.alloc (.cells #[.func (.yield l) #[] #[]] 42)) 9 (.string s); rw [World.size_alloc] at this; exact this
  have j0 : J [] W0 := by rw [← hW0]; exact hJ.alloc _ (hJ.alloc _ h0)
  have hv0 : VarOk W0 := by rw [← hW0]; exact (hvW.alloc _).alloc _
  have h1W := hvW.lt
  rw [hW0]
  clear hW0
  refine range_o (m := 6) (gf := 32) (lb := #[.pointer (some ⟨W.heap.size + 1, 0, none⟩)]) rfl (enters_of Tryd.func32 (by kernel_rfl) rfl) (steps_o (W.heap.size + 1) s hs W0 b1.cell hv0) (Below.refl _ _) (fun _ => rfl) (fun h k => h.trans k)
    (kpA_put (by omega) (by omega) (by omega))
    (fun pre X => ((∀ y ∈ pre, y.err = 0) ∧ J pre X) ∧ Boxed X W.heap.size 42 (.func (.yield l) #[] #[]))
    (fun c pre X => c = .ret ∧ ((∃ pre' x, pre = pre' ++ [x] ∧ x.err ≠ 0 ∧ (∀ y ∈ pre', y.err = 0) ∧ J pre' X) ∨ ((∀ y ∈ pre, y.err = 0) ∧ Jx pre X)))
    ?ownI ?ownX ⟨⟨by simp, j0⟩, b0⟩
    (fun x a' X => ∃ Bx, TBox X Bx x ∧ a' = { tmps := #[.func (.yield l) #[] #[], .pointer (some ⟨Bo, 0, none⟩), .pointer (some ⟨W.heap.size, 0, none⟩), .pointer (some ⟨Bx, 0, none⟩), .int .i64 x.err, .string s, .func (.func 32) #[] #[.pointer (some ⟨W.heap.size + 1, 0, none⟩)], tokV x.kind x.at_ x.text x.n, .int .i64 x.err, undef, undef, undef, undef, undef, undef, undef, undef], defers := [] })
    ?own ?assign ?body ?done ?stop
  case ownI =>
    rintro pre X Y row ⟨⟨h1, h2⟩, h3⟩ hg hr
    exact ⟨⟨h1, own_up hJ (by omega) pre X Y row h2 hg hr⟩, boxed_grown h3 hg (fun r e => (hr r e).2)⟩
  case ownX =>
    rintro c pre X Y row ⟨h1, ⟨pre', x, h2, h3, h4, h5⟩ | ⟨h2, h3⟩⟩ hg hr
    · exact ⟨h1, .inl ⟨pre', x, h2, h3, h4, own_up hJ (by omega) pre' X Y row h5 hg hr⟩⟩
    · exact ⟨h1, .inr ⟨h2, own_up hJx (by omega) pre X Y row h3 hg hr⟩⟩
  case own =>
    rintro x a' _ X X' row ⟨Bx, h2, h3⟩ hg hr
    refine ⟨Bx, (hg.block Bx (Array.getElem?_eq_some_iff.1 h2).1 (fun e => ?_)).trans h2, h3⟩
    obtain ⟨_, o, ho, hc⟩ := hr Bx e.symm
    rw [show X.heap[Bx]? = _ from h2] at ho; cases ho; cases hc
  case assign =>
    rintro l' pre x X ⟨⟨h1, h2⟩, h3⟩ hpx
    have i2 := hJ.alloc (.cells #[.int .i64 x.kind, .int .i64 x.at_, .string x.text, .int .i64 x.n] 33) h2
    have i3 := h3.alloc (.cells #[.int .i64 x.kind, .int .i64 x.at_, .string x.text, .int .i64 x.n] 33)
    gi_wp2
    exact ⟨(KeepsOthers.alloc _ _).from _, kpA_alloc _ _, ⟨⟨h1, i2⟩, i3⟩, _, World.alloc_heap_new X _, rfl⟩
  case body =>
    rintro l' pre x a' X ⟨⟨h1, h2⟩, h3⟩ ⟨Bx, tX, rfl⟩ hpx
    have e3 := h3.cell
    have t0 : X.cell? ⟨Bx, 0, none⟩ = some (.int .i64 x.kind) := by simp [World.cell?, show X.heap[Bx]? = _ from tX]
    have t1 : X.cell? ⟨Bx, 1, none⟩ = some (.int .i64 x.at_) := by simp [World.cell?, show X.heap[Bx]? = _ from tX]
    have t2 : X.cell? ⟨Bx, 2, none⟩ = some (.string x.text) := by simp [World.cell?, show X.heap[Bx]? = _ from tX]
    have t3 : X.cell? ⟨Bx, 3, none⟩ = some (.int .i64 x.n) := by simp [World.cell?, show X.heap[Bx]? = _ from tX]
    by_cases her : x.err = 0
    · have hall : ∀ y ∈ pre ++ [x], y.err = 0 := by
        intro y hy
        rcases List.mem_append.1 hy with h | h
        · exact h1 y h
        · rw [List.mem_singleton.1 h]; exact her
      obtain ⟨fn, tmps, assign, body, hy, hR⟩ := hY pre x X h2 (toks_pre hpx hall)
      have HA : Hid (∀ y ∈ pre ++ [x], y.err = 0) := hall
      clear hall hY
      gi_wp2_with fail
      refine (round_any hR).mono ?_
      rintro e X3 ⟨hk3, ⟨rfl, hJ3⟩ | ⟨rfl, hJx3⟩⟩
      · gi_wp2_with fail
        exact ⟨kpA_keeps hk3 (by omega), kpA_in hk3 (by omega) (by omega), ⟨HA.out, hJ3⟩, (hk3.2 _ h3.lt (.inl (Nat.le_refl _))).trans h3⟩
      · gi_wp2_with fail
        exact ⟨kpA_keeps hk3 (by omega), kpA_in hk3 (by omega) (by omega), rfl, .inr ⟨HA.out, hJx3⟩⟩
    · have her2 : (x.err != 0) = true := by simpa using her
      have hu : undef = Value.tuple #[] := rfl
      gi_wp2
      exact ⟨KeepsFrom.refl _ _, ⟨Nat.le_refl _, fun _ _ _ => rfl⟩, rfl, .inl ⟨pre, x, rfl, her, h1, h2⟩⟩
  case done =>
    rintro X ⟨⟨h1, h2⟩, h3⟩ hD
    gi_wp2
    refine ⟨by simp, .inl ⟨_, _, rfl, run_takeDeferred hD, ?_⟩⟩
    refine ⟨_, results_none rfl _ _ _, ⟨_, rfl⟩, .inl ?_⟩
    rw [toks_ok h1]
    exact hJ.putObj _ h2 (by omega) hD rfl
  case stop =>
    rintro c pre X hp ⟨rfl, hx⟩ hD
    gi_wp2
    refine ⟨by simp, .inl ⟨_, _, rfl, run_takeDeferred hD, ?_⟩⟩
    refine ⟨_, results_none rfl _ _ _, ⟨_, rfl⟩, ?_⟩
    rcases hx with ⟨pre', x, rfl, hxe, hpe, hj⟩ | ⟨hpe, hj⟩
    · left
      rw [toks_err (items_last hp hxe) hpe hxe]
      exact hJ.putObj _ hj (by omega) hD rfl
    · exact .inr ⟨pre, toks_pre hp hpe, hJx.putObj _ hj (by omega) hD rfl⟩
end Go.Proofs.YtdlddloggjckmaaDoor
