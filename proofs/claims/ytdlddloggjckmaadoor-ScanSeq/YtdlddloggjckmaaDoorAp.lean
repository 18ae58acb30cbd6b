/- 'all = append(all, t)' at a row of tokens that the call owns: the longer row; and no block of one token has turned. -/
import Derived.Test.YtdlddloggjckmaaDoorF
import Derived.Maps.AppendAt
import Derived.ArgAppend
namespace Go.Proofs.YtdlddloggjckmaaDoor
open Go.RowKit Go.Shelf
attribute [local go_sem] Oper.semAt_some

theorem Tryd.info33 : (Tryd.prog.info? 33).map (fun i => (i.zero, i.size, i.bytes)) = some (some (.agg #[.int .i64 0, .int .i64 0, .string ⟨#[]⟩, .int .i64 0]), 4, 40) := by kernel_rfl

/-- No block of one token has turned. -/
def Tok4 (W W' : World) : Prop := ∀ (b : Nat) (c : Array Value) (f : Nat × Nat), W.heap[b]? = some (Obj.cells c 33 f) → c.size = 4 → W'.heap[b]? = W.heap[b]?

theorem tok4_of_none {W W' : World} (h : W.grownBy W' none) : Tok4 W W' := fun b _ _ hb _ => h.block b (Array.getElem?_eq_some_iff.1 hb).1 (by simp)
theorem Tok4.trans {A B C : World} (h : Tok4 A B) (k : Tok4 B C) : Tok4 A C := fun b c f hb h4 => by
  have h1 := h b c f hb h4
  exact (k b c f (h1.trans hb) h4).trans h1
theorem tok4_set {W : World} {b : Nat} {t : TypeId} {v : Value} (hb : Boxed W b t v) (u : Value) : Tok4 W (W.setCell ⟨b, 0, none⟩ u) := fun b' c f hb' h4 => by
  refine Below.heap_setCell _ _ _ _ ?_
  rintro rfl
  have := (show W.heap[b']? = _ from hb).symm.trans hb'
  simp at this
  rw [← this.1] at h4; simp at h4

theorem grown_weak {W W' : World} (h : W.grownBy W' none) (row : Option Nat) : W.grownBy W' row := ⟨h.os, h.tape, h.output, h.size, fun k hk _ => h.block k hk (by simp)⟩
theorem owns_weak {W : World} {b b' : Nat} {e : TypeId} {sz : Nat} {v : Value} {k : Nat} {xs : List Value} (h : W.ownsRow b' e sz v k xs) (hb : b ≤ b') : W.ownsRow b e sz v k xs := by
  refine ⟨h.1, ?_⟩
  rcases h.2 with h | ⟨g, cap, cur, h1, h2, h3⟩
  · exact .inl h
  · exact .inr ⟨g, cap, cur, h1, by omega, h3⟩

theorem run_append_tok (w : World) (ty : TypeId) (base : Nat) (v : Value) (k : Nat) (xs : List Value) (hown : w.ownsRow base 33 4 v k xs) (hk : v = .slice none 0 0 ∨ 0 < k)
    (ad : Addr) (news : List Value) (hn : news.length = 4) (hc : ∀ j u, news[j]? = some u → w.cell? (ad.add j) = some u) (h1c : ∀ u ∈ news, u.oneCell' = true)
    (b1 : k + 1 ≤ maxLen) (b2 : (k + 1) * 40 ≤ 140737488355328) (b3 : base ≤ w.heap.size) :
    ∃ v' w', (Builtin.append_ #[23, 23] ty #[v, .slice (some ad) 1 1]).run Tryd.prog w = .ok v' w' ∧ w'.ownsRow base 33 4 v' (k + 1) (xs ++ news) ∧ w.grownBy w' v.ownBlock ∧ Tok4 w w' := by
  obtain ⟨i0, hi, hz0, hz1, hz2⟩ := info_parts Tryd.info33
  have hcases := hown.2
  by_cases hg : ∃ g cap, v = .slice (some ⟨g, 0, none⟩) k cap ∧ cap < k + 1
  · obtain ⟨g, cap, rfl, hcap⟩ := hg
    have holds : ∀ j u, xs[j]? = some u → w.cell? ((⟨g, 0, none⟩ : Addr).add j) = some u := by
      intro j u hj
      rcases hcases with ⟨h, _⟩ | ⟨g', cap', cur, h1, _, h3, _, _, h6, h7⟩
      · cases h
      · cases h1
        rw [Addr.add_lit]
        have hj' : cur[j]? = some u := by
          rw [← h7, List.getElem?_take] at hj
          split at hj
          · simpa using hj
          · cases hj
        simp [World.cell?, h3, hj']
    obtain ⟨v', w', hrun, r1, r2⟩ := run_append_arg_grows (P := Tryd.prog) w 23 ty 33 i0 _ 4 40 Tryd.underlying23 hi hz0 hz1 hz2 rfl (by decide) ⟨g, 0, none⟩ k cap xs hown.1 holds ad 1 1 news (by omega) hc hcap b1 b2
    exact ⟨v', w', hrun, owns_weak r1 b3, grown_weak r2 _, tok4_of_none r2⟩
  · obtain ⟨v', w', hrun, r1, r2, _⟩ := run_append_own (P := Tryd.prog) w base 23 ty 33 i0 _ 4 40 Tryd.underlying23 hi hz0 hz1 hz2 rfl (by decide) v k xs hown ad 1 1 news (by omega) hc h1c b1 b2 b3
    refine ⟨v', w', hrun, r1, r2, ?_⟩
    rcases hcases with ⟨rfl, _⟩ | ⟨g, cap, cur, rfl, _, h3, _, _, h6, _⟩
    · exact tok4_of_none r2
    · have hcap : k + 1 ≤ cap := by
        refine Nat.not_lt.1 fun h => hg ⟨g, cap, rfl, h⟩
      have hk1 : 0 < k := by
        rcases hk with h | h
        · cases h
        · exact h
      intro b c f hb h4
      refine r2.block b (Array.getElem?_eq_some_iff.1 hb).1 ?_
      intro e
      have e' : b = g := by simpa [Value.ownBlock] using e
      subst e'
      rw [h3] at hb
      simp at hb
      rw [← hb.1, h6] at h4
      omega

theorem wpListIn_append_tok {n : Nat} (w : World) {ops : Array Oper} {rest : List Oper} {o : Oper} {a : Act} {Q : Exit → Act → World → Prop} {F : Fence}
    (hg : o.guard = none) (s x : Operand) (hop : o.op = Op.call { callee := Callee.builtin Builtin.append, args := #[s, x], argTypes := #[23, 23] })
    (base : Nat) (v : Value) (k : Nat) (xs : List Value) (hs : a.eval s = v) (hown : w.ownsRow base 33 4 v k xs) (hk : v = .slice none 0 0 ∨ 0 < k) (ad : Addr) (news : List Value) (hx : a.eval x = .slice (some ad) 1 1) (hn : news.length = 4)
    (hc : ∀ j u, news[j]? = some u → w.cell? (ad.add j) = some u) (h1c : ∀ u ∈ news, u.oneCell' = true) (b1 : k + 1 ≤ maxLen) (b2 : (k + 1) * 40 ≤ 140737488355328) (b3 : base ≤ w.heap.size)
    (hK : ∀ v' w', w'.ownsRow base 33 4 v' (k + 1) (xs ++ news) → w.grownBy w' v.ownBlock → Tok4 w w' → wpListIn F n Tryd.prog ops Q rest (a.put o.dst v') w') :
    wpListIn F n Tryd.prog ops Q (o :: rest) a w := by
  obtain ⟨v', w', hrun, r1, r2, r3⟩ := run_append_tok w o.type base v k xs hown hk ad news hn hc h1c b1 b2 b3
  refine wpListIn_plain hg fun K hgo => ⟨by simp [Oper.about, hop, resolve, Target.leads, Sem.run_pure], ?_⟩
  rw [Oper.semAt_plain F _ _ (by rw [hop]; intro c hc'; cases hc')]
  simp [execOp, hop, resolve, invoke, builtin, hs, hx, hrun, Result.andThen]
  exact hgo _ _ (hK v' w' r1 r2 r3)

end Go.Proofs.YtdlddloggjckmaaDoor
