/- scan.Tokens: what it hands back gives the tokens ahead of the first error. -/
import Derived.Test.YtdlddloggjckmaaDoorS3
import Derived.Test.YtdlddloggjckmaaDoorW4
namespace Go.Proofs.YtdlddloggjckmaaDoor
open Go.RowKit Go.Shelf
attribute [local go_sem] Oper.semAt_some

theorem tokens_long (s : ByteArray) (w : World) (hs : 65536 < (s.size : Int)) :
    Calls Tryd.prog 14 #[.string s] w fun e w' => e = .returned (.func (.func 23) #[] #[]) ∧ w' = w := by
  go_enter Tryd.func14, Tryd.ntmps14
  go_wp2
  go_ret
  exact ⟨rfl, rfl⟩
theorem tokens_short (s : ByteArray) (w : World) (hs : ¬ 65536 < (s.size : Int)) :
    Calls Tryd.prog 14 #[.string s] w fun e w' => ∃ Bo, e = .returned (.func (.func 25) #[] #[.pointer (some ⟨Bo, 0, none⟩)]) ∧ Below w.heap.size w w' ∧ w.heap.size ≤ Bo ∧ w'.cell? ⟨Bo, 0, none⟩ = some (.string s) := by
  have hs' : s.size ≤ 281474976710656 := by omega
  go_enter Tryd.func14, Tryd.ntmps14
  go_wp2_with (go_at_call 24; refine (clone_any _ _ hs').mono ?_; rintro e w' ⟨rfl, hb⟩)
  go_ret
  exact ⟨_, rfl, hb.alloc hb.size _, hb.size, (Boxed.new w' 9 _).cell⟩
theorem tokens1_o (Bo : Nat) (w : World) : SeqO 23 #[] encT (KpA Bo) [] w := by
  intro l J Jx W hW hJ hJx hY h0
  refine calls_any (m := 6) ?_
  refine callsIn_of_wp Tryd.func23 rfl trivial ?_ rfl
  simp only [Tryd.ntmps23, List.size_toArray, List.length_cons, List.length_nil, Nat.reduceAdd, Nat.reduceSub, Array.replicate_succ, Array.replicate_zero, List.push_toArray, List.append_toArray, List.nil_append, List.cons_append]
  gi_wp2
  go_end0
  exact ⟨⟨_, rfl⟩, .inl h0⟩

theorem tokens_any (s : ByteArray) (w : World) (hv : VarOk w) :
    Calls Tryd.prog 14 #[.string s] w fun e w' => ∃ gf lb Bo, e = .returned (.func (.func gf) #[] lb) ∧ Below w.heap.size w w' ∧ (∀ args w, (callFunc gf args).run Tryd.prog w = .ok (.enter gf args) w) ∧
      (Bo = 1 ∨ (w.heap.size ≤ Bo ∧ Bo < w'.heap.size)) ∧ SeqO gf lb encT (KpA Bo) (aheadXs s) w' := by
  by_cases h : s.size ≤ 65536
  · refine (tokens_short s w (by omega)).mono ?_
    rintro e w' ⟨Bo, rfl, hb, hBo, hc⟩
    refine ⟨25, _, Bo, rfl, hb, enters_of Tryd.func25 (by kernel_rfl) rfl, .inr ⟨hBo, Lib.lt_of_cell hc⟩, ?_⟩
    have hx : aheadXs s = toks s := by unfold aheadXs toks; rw [if_pos h]
    rw [hx]
    exact tokens2_o Bo s (by omega) w' hc (hv.below hb)
  · refine (tokens_long s w (by omega)).mono ?_
    rintro e w' ⟨rfl, rfl⟩
    refine ⟨23, _, 1, rfl, Below.refl _ _, enters_of Tryd.func23 (by kernel_rfl) rfl, .inl rfl, ?_⟩
    have hx : aheadXs s = [] := by unfold aheadXs; rw [if_neg h]
    rw [hx]
    exact tokens1_o 1 w'
end Go.Proofs.YtdlddloggjckmaaDoor
