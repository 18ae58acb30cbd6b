/- A region that only reads, walked once in the order of the text, within a round of a loop over a function too. -/
import Derived.Test.YtdlddloggjckmaaDoorS1
import Derived.Sort.QuietIn
namespace Go.Proofs.YtdlddloggjckmaaDoor
open Go.RowKit

def notDefer (o : Oper) : Bool := match o.op with
  | .defer _ => false
  | _ => true

theorem oper_round {n l : Nat} {o : Oper} {a : Act} {w : World} {K : Act → World → Prop} {Q : Exit → Act → World → Prop} (hd : notDefer o = true) (h : o.wpIn Fence.wide n Tryd.prog a w K Q) : o.wpIn (Fence.wide.inRound l) n Tryd.prog a w K Q := by
  obtain ⟨h1, h2⟩ := h
  refine ⟨h1, ?_⟩
  have e : o.semAt (some l) a.eval = o.semAt none a.eval := Oper.semAt_some l _ _ (fun c hc => by simp [notDefer, hc] at hd)
  show o.uponIn (Fence.wide.inRound l) n Tryd.prog a K Q ((o.semAt (some l) a.eval).run Tryd.prog w)
  rw [e]
  exact h2

theorem any_round {n l : Nat} {md : Region.Mode} {ops : Array Oper} {Q : Exit → Act → World → Prop} (hd : ops.all notDefer = true) : ∀ (fuel : Nat) (listed : Array Bool) (a : Act) (w : World),
    wpAnyIn Fence.wide n Tryd.prog md ops Q fuel listed a w → wpAnyIn (Fence.wide.inRound l) n Tryd.prog md ops Q fuel listed a w
  | 0, _, _, _, h => h
  | fuel + 1, listed, a, w, h => by
    refine ⟨h.1, fun i hi => ?_⟩
    have h2 := h.2 i hi
    unfold wpOpIn at h2 ⊢
    cases ho : ops[i]? with
    | none => simp only [ho] at h2 ⊢; exact any_round hd fuel _ _ _ h2
    | some o =>
      simp only [ho] at h2 ⊢
      have hdo : notDefer o = true := by
        obtain ⟨hlt, rfl⟩ := Array.getElem?_eq_some_iff.1 ho
        exact Array.all_eq_true.1 hd i hlt
      by_cases hw : Region.wanted o (yielded ops a.tmps) = true
      · simp only [hw, if_true] at h2 ⊢
        exact oper_round hdo (Oper.wpIn_mono (fun a w h => any_round hd fuel _ a w h) h2)
      · simp only [hw] at h2 ⊢
        exact ⟨h2.1, any_round hd fuel _ _ _ h2.2⟩

theorem quiet_round {id n l : Nat} {Q : Exit → Act → World → Prop} {a : Act} {w : World} {L : List Oper} (hd : L.toArray.all notDefer = true) (hm : Tryd.prog.follows .mixedOrders = true) (hB : Region.lexB .any L.toArray = true)
    (h : wpQuietIn Fence.wide n Tryd.prog L.toArray (fun w' => ∃ n, w' = w.drewN n) (fun a' => ∀ w', (∃ n, w' = w.drewN n) → Q .normal a' w') L a) : (Code.region id L.toArray true).wpIn (Fence.wide.inRound l) n Tryd.prog Q a w := by
  simp only [Region.lexB, Bool.and_eq_true] at hB
  refine wpIn_region_any hm (any_round hd _ _ _ _ (wpAnyIn_of_quiet (F := Fence.wide) (C := fun w' => ∃ n, w' = w.drewN n) (Q := fun a' => ∀ w', (∃ n, w' = w.drewN n) → Q .normal a' w') rfl (fun _ w' hw' h => h w' hw') _ _ _ _ ⟨1, rfl⟩ ?_))
  have := wpAnyQIn_lex (F := Fence.wide) (n := n) (P := Tryd.prog) (C := fun w' => ∃ n, w' = w.drewN n) (md := .any) hB.1 L 0 (Array.replicate L.toArray.size false) a (by simp) (by simpa using hB.2) h
  simpa using this
end Go.Proofs.YtdlddloggjckmaaDoor
