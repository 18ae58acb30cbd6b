/- The document's own copies: statements, the tools. -/
import Derived.Test.YtkkcgkpbbngloaaDoorPart3
import Derived.Test.YtkkcgkpbbngloaaDoorPart2
namespace Go.Proofs.YtkkcgkpbbngloaaDoor
open Go.RowKit

theorem Tryd.infoSt : (Tryd.prog.info? 44).map (fun i => (i.zero, i.size, i.bytes)) = some (some (.agg #[.int .i64 0, .string ⟨#[]⟩, .int .i64 0, .int .i64 0, .int .i64 0, .string ⟨#[]⟩, .slice none 0 0, .int .i64 0, .int .i64 0, .string ⟨#[]⟩, .slice none 0 0, .slice none 0 0, .slice none 0 0, .slice none 0 0]), 14, 216) := by kernel_rfl
theorem Tryd.infoCa : (Tryd.prog.info? 64).map (fun i => (i.zero, i.size, i.bytes)) = some (some (.agg #[.int .i64 0, .slice none 0 0]), 2, 32) := by kernel_rfl

mutual
def St.Few : St → Prop | .mk _ _ _ a b _ _ l _ _ e _ _ c => a.Few ∧ b.Few ∧ l.length ≤ 1048576 ∧ FewS l ∧ e.length ≤ 1048576 ∧ FewS e ∧ c.length ≤ 1048576 ∧ FewC c
def Ca.Few : Ca → Prop | .mk _ _ _ l => l.length ≤ 1048576 ∧ FewS l
def FewS : List St → Prop | [] => True | x :: r => x.Few ∧ FewS r
def FewC : List Ca → Prop | [] => True | x :: r => x.Few ∧ FewC r
end
theorem fewS_mem {l : List St} : FewS l ↔ ∀ x ∈ l, x.Few := by induction l <;> simp_all [FewS]
theorem fewC_mem {l : List Ca} : FewC l ↔ ∀ x ∈ l, x.Few := by induction l <;> simp_all [FewC]
theorem St.few_iff {s : St} : s.Few ↔ s.a.Few ∧ s.b.Few ∧ s.body.length ≤ 1048576 ∧ (∀ x ∈ s.body, x.Few) ∧ s.els.length ≤ 1048576 ∧ (∀ x ∈ s.els, x.Few) ∧ s.cases.length ≤ 1048576 ∧ ∀ x ∈ s.cases, x.Few := by
  cases s; simp only [St.Few, St.a, St.b, St.body, St.els, St.cases, fewS_mem, fewC_mem]
theorem Ca.few_iff {c : Ca} : c.Few ↔ c.body.length ≤ 1048576 ∧ ∀ x ∈ c.body, x.Few := by cases c; simp only [Ca.Few, Ca.body, fewS_mem]
theorem erS_len {l t : List St} (h : erS l = erS t) : l.length = t.length := by
  have := congrArg List.length h
  simpa [erS_map] using this
theorem erC_len {l t : List Ca} (h : erC l = erC t) : l.length = t.length := by
  have := congrArg List.length h
  simpa [erC_map] using this

/-- Every block but one is as it was. -/
def Kp (X : Nat) (W W' : World) : Prop := W.heap.size ≤ W'.heap.size ∧ ∀ k, k < W.heap.size → k ≠ X → W'.heap[k]? = W.heap[k]?
theorem Kp.refl (X : Nat) (W : World) : Kp X W W := ⟨Nat.le_refl _, fun _ _ _ => rfl⟩
theorem Kp.trans {X : Nat} {A B C : World} (h : Kp X A B) (k : Kp X B C) : Kp X A C := ⟨Nat.le_trans h.1 k.1, fun i h1 h2 => (k.2 i (Nat.lt_of_lt_of_le h1 h.1) h2).trans (h.2 i h1 h2)⟩
theorem Kp.below {X : Nat} {A B C : World} (h : Kp X A B) (k : Below B.heap.size B C) : Kp X A C := h.trans ⟨k.size, fun i h1 _ => k.block i h1⟩
theorem Kp.set {X : Nat} {A B : World} (h : Kp X A B) (i : Nat) (v : Value) : Kp X A (B.setCell ⟨X, i, none⟩ v) := h.trans ⟨by simp [World.setCell], fun k _ h2 => Below.heap_setCell _ _ _ _ h2⟩
theorem Kp.alloc {X : Nat} {A B : World} (h : Kp X A B) (o : Obj) : Kp X A (B.alloc o) := h.trans ⟨by simp, fun k h1 _ => Below.heap_alloc _ _ _ h1⟩
theorem Kp.grown {X : Nat} {A B C : World} (h : Kp X A B) (hg : B.grownBy C (some X)) : Kp X A C := h.trans ⟨hg.size, fun k h1 h2 => hg.block k h1 (by simpa using h2)⟩
theorem Kp.none {X : Nat} {A B C : World} (h : Kp X A B) (hg : B.grownBy C none) : Kp X A C := h.trans ⟨hg.size, fun k h1 _ => hg.block k h1 (by simp)⟩
theorem set_list {W : World} {b : Nat} {l : List Value} {T : TypeId} {fz : Nat × Nat} (h : W.heap[b]? = some (.cells ⟨l⟩ T fz)) (i : Nat) (v : Value) : (W.setCell ⟨b, i, none⟩ v).heap[b]? = some (.cells ⟨l.set i v⟩ T fz) := by
  rw [set_cell h]; simp
theorem size_set (W : World) (a : Addr) (v : Value) : (W.setCell a v).heap.size = W.heap.size := by simp [World.setCell]

theorem bel_alloc {C : Nat} {A B : World} (hC : C < A.heap.size) (h : Below C A B) (o : Obj) : Below C A (B.alloc o) := h.alloc (Nat.le_trans (Nat.le_of_lt hC) h.size) o
theorem bel_grown {C : Nat} {A B B' : World} (hC : C < A.heap.size) (h : Below C A B) (hg : B.grownBy B' (some C)) : Below C A B' := h.grown hg (Nat.le_trans (Nat.le_of_lt hC) h.size) (fun k hk => by simp at hk; omega)
theorem bel_call {C : Nat} {A B : World} (hC : C < A.heap.size) (h : Below A.drew.heap.size A.drew B) : Below C A B := (Below.drew (Below.refl C A)).trans (h.mono (Nat.le_of_lt hC))
theorem step_append_spare {P : Program} (w : World) {ops : Array Oper} {o : Oper} {a : Act} {K : Act → World → Prop} {Q : Exit → Act → World → Prop} {E : Prop} (hgd : o.guard = none) (s x : Operand) (t : TypeId)
    (ho : o.op = .call { callee := .builtin .append, args := #[s, x], argTypes := #[t, t] })
    (base : Nat) (e : TypeId) (i : TypeInfo) (size : Nat) (ht : P.underlying t = some (.slice e)) (hi : P.info? e = some i) (hsize : i.size = size)
    (g n cap : Nat) (xs : List Value) (hs : a.eval s = .slice (some ⟨g, 0, none⟩) n cap) (hown : w.ownsRow base e size (.slice (some ⟨g, 0, none⟩) n cap) n xs)
    (ad : Addr) (m c : Nat) (news : List Value) (hx : a.eval x = .slice (some ad) m c) (hl : news.length = m * size) (hnews : ∀ j u, news[j]? = some u → w.cell? (ad.add j) = some u) (h1 : ∀ u ∈ news, u.oneCell' = true)
    (hroom : n + m ≤ cap)
    (h : ∀ w', w'.ownsRow base e size (.slice (some ⟨g, 0, none⟩) (n + m) cap) (n + m) (xs ++ news) → w.grownBy w' (some g) → K (a.put o.dst (.slice (some ⟨g, 0, none⟩) (n + m) cap)) w') :
    if Region.wanted o (yielded ops a.tmps) = true then Oper.wp P o a w K Q else E := by
  have hw : Region.wanted o (yielded ops a.tmps) = true := by simp [Region.wanted, hgd]
  rw [if_pos hw]
  exact wp_append_own_spare w s x t ho base e i size ht hi hsize g n cap xs hs hown ad m c news hx hl hnews h1 hroom h

/-- What comes of a list of statements. -/
def CpRS (w w' : World) (l : List St) (e : Ending) : Prop := ∃ (g : Nat) (l' : List St), e = .returned (.slice (some ⟨g, 0, none⟩) l.length (l.length + 1)) ∧ RowCp w' (some ⟨g, 0, none⟩) (l.length + 1) l'.length 216 44 (l'.flatMap St.cells ++ senS) ∧ (∀ x ∈ l', x.Cp w') ∧ erS l' = erS l ∧ (g :: blS l').Nodup ∧ (∀ b ∈ g :: blS l', w.heap.size ≤ b ∧ b < w'.heap.size)
abbrev StOfOk (n : Nat) : Prop := ∀ (l : List St) (a : Option Addr) (c : Nat) (w : World), ssz l < n → Have w a c l → l.length ≤ 1048576 → (∀ x ∈ l, x.Few) → Calls Tryd.prog 22 #[.slice a l.length c] w fun e w' => CpRS w w' l e ∧ Below w.heap.size w w'
end Go.Proofs.YtkkcgkpbbngloaaDoor

/- The document's own copies: statements. -/
namespace Go.Proofs.YtkkcgkpbbngloaaDoor
open Go.RowKit
attribute [local go_sem ↓] Go.wp_at_zero Go.wp_at_succ

set_option maxRecDepth 100000 in
set_option maxHeartbeats 16000000 in
theorem stmtsOf_step (n : Nat) (ih : StOfOk n) (l : List St) (a : Option Addr) (c : Nat) (w : World) (hk : ssz l ≤ n) (hin : Have w a c l) (hf0 : l.length ≤ 1048576) (hf : ∀ x ∈ l, x.Few) :
    Calls Tryd.prog 22 #[.slice a l.length c] w fun e w' => CpRS w w' l e ∧ Below w.heap.size w w' := by
  obtain ⟨i0, hi, hz0, hz1, hz2⟩ := info_parts Tryd.infoSt
  have HI : Hid (Tryd.prog.info? 44 = some i0) := hi
  have HZ2 : Hid (i0.bytes = 216) := hz2
  obtain ⟨i1, hi1, hy0, hy1, hy2⟩ := info_parts Tryd.infoCa
  have HI1 : Hid (Tryd.prog.info? 64 = some i1) := hi1
  have IH : Hid (StOfOk n) := ih
  have HA : Hid (Have w a c l) := hin
  have hl := hin.1.1
  have hc := hin.1.2.1
  have HK : Hid (ssz l ≤ n) := hk
  have HF : Hid (∀ x ∈ l, x.Few) := hf
  clear ih hin hk hf hi hi1 hz2
  go_enter Tryd.func22, Tryd.ntmps22
  go_wp2_with (at_make; refine wpList_make_own _ rfl _ _ 35 rfl w.heap.size 44 i0 _ 14 Tryd.underlying35 HI.out hz0 hz1 _ _ _ (l.length + 1) rfl rfl (by omega) (by rw [HZ2.out]; omega) (by unfold maxLen; omega) (Nat.le_refl _) ?_; intro w0 hown0 hgrow0)
  obtain ⟨G, hG⟩ : ∃ G, w.heap.size = G := ⟨_, rfl⟩
  have hb0 : Below w.heap.size w w0 := (Below.refl _ w).grown hgrow0 (Nat.le_refl _) (fun k hk => by cases hk)
  have HO0 : Hid (w0.ownsRow w.heap.size 44 14 (.slice (some ⟨w.heap.size, 0, none⟩) 0 (l.length + 1)) 0 []) := hown0
  clear hown0 hgrow0
  rw [hG] at hb0 HO0 ⊢
  have HG : Hid (w.heap.size = G) := hG
  clear hG
  go_wp2_with fail
  go_loopw [3, 4] (fun t3 t4 wr => ∃ (l' : List St), t4 = .int .i64 l'.length ∧ l'.length ≤ l.length ∧ t3 = .slice (some ⟨G, 0, none⟩) l'.length (l.length + 1) ∧ wr.ownsRow G 44 14 (.slice (some ⟨G, 0, none⟩) l'.length (l.length + 1)) l'.length (l'.flatMap St.cells) ∧ (∀ x ∈ l', x.Cp wr) ∧ erS l' = erS (l.take l'.length) ∧ (blS l').Nodup ∧ (∀ b ∈ blS l', G < b ∧ b < wr.heap.size) ∧ Below G w wr) (fun _ t4 _ => l.length - (intOf t4).toNat)
  case atStart => exact ⟨[], rfl, Nat.zero_le _, rfl, HO0.out, by simp, by simp, by simp [blS], by simp [blS], hb0⟩
  case round =>
    clear HO0 hb0
    obtain ⟨l', rfl, hle, rfl, hown, hcp, her, hnd, hbd, hb⟩ := hrel
    obtain ⟨j, hj⟩ : ∃ j, l'.length = j := ⟨_, rfl⟩
    have HJ : Hid (l'.length = j) := hj
    rw [hj] at hown hle her ⊢
    have HO : Hid (wr.ownsRow G 44 14 (.slice (some ⟨G, 0, none⟩) j (l.length + 1)) j (l'.flatMap St.cells)) := hown
    have HR : Hid ((∀ x ∈ l', x.Cp wr) ∧ erS l' = erS (l.take j) ∧ (blS l').Nodup ∧ (∀ b ∈ blS l', G < b ∧ b < wr.heap.size)) := ⟨hcp, her, hnd, hbd⟩
    have BW : Hid (Below G w wr) := hb
    clear hown hcp her hnd hbd hb hj
    by_cases hlt : j < l.length
    · have hli : (j : Int) < (l.length : Int) := by omega
      have hbw : Below w.heap.size w wr := HG.out ▸ BW.out
      obtain ⟨b, o, rfl, hcell⟩ := rowS_at (HA.out.1.2.2.2.below hbw) hlt
      have XI : Hid (∀ w', Below w.heap.size w w' → l[j].In w') := fun w' h => (HA.out.2 l[j] (List.getElem_mem hlt)).stay h
      have XF : Hid (l[j].Few) := HF.out _ (List.getElem_mem hlt)
      have HZ : Hid (l[j].sz ≤ n) := Nat.le_trans (ssz_mem (List.getElem_mem hlt)) HK.out
      have HT : Hid (erS (l.take (j + 1)) = erS (l.take j) ++ [l[j].er]) := by
        show _ = _
        rw [erS_map, erS_map, List.take_succ_eq_append_getElem hlt, List.map_append]; rfl
      generalize l[j] = x at *
      have c0 := hcell 0 _ rfl
      have c1 := hcell 1 _ rfl
      have c2 := hcell 2 _ rfl
      have c3 := hcell 3 _ rfl
      have c4 := hcell 4 _ rfl
      have c5 := hcell 5 _ rfl
      have c6 := hcell 6 _ rfl
      have c7 := hcell 7 _ rfl
      have c8 := hcell 8 _ rfl
      have c9 := hcell 9 _ rfl
      have c10 := hcell 10 _ rfl
      have c11 := hcell 11 _ rfl
      have c12 := hcell 12 _ rfl
      have c13 := hcell 13 _ rfl
      simp only [← Nat.add_assoc, Nat.add_zero] at c0 c1 c2 c3 c4 c5 c6 c7 c8 c9 c10 c11 c12 c13
      clear hcell
      obtain ⟨X, hX⟩ : ∃ X, wr.heap.size = X := ⟨_, rfl⟩
      have hGX : G < X := by have := owns_lt HO.out; omega
      obtain ⟨W1, hW1⟩ : ∃ W1, (wr.alloc (.cells (⟨x.cells⟩ : Array Value) 44)).alloc (.cells (⟨x.a.cells ++ x.b.cells⟩ : Array Value) 41) = W1 := ⟨_, rfl⟩
      have HW1 : Hid ((wr.alloc (.cells #[.int .i64 x.kind, .string x.name, .int .i64 x.n, .int .i64 x.a.kind, .int .i64 x.a.n, .string x.a.name, .slice x.a.a x.a.args.length x.a.cap, .int .i64 x.b.kind, .int .i64 x.b.n, .string x.b.name, .slice x.b.a x.b.args.length x.b.cap, .slice x.ba x.body.length x.bc, .slice x.ea x.els.length x.ec, .slice x.ca x.cases.length x.cc] 44)).alloc (.cells #[.int .i64 x.a.kind, .int .i64 x.a.n, .string x.a.name, .slice x.a.a x.a.args.length x.a.cap, .int .i64 x.b.kind, .int .i64 x.b.n, .string x.b.name, .slice x.b.a x.b.args.length x.b.cap] 41) = W1) := hW1
      have hb1 : Below wr.heap.size wr W1 := by rw [← hW1]; exact Below.one (Below.one (Below.refl _ _) _) _
      have hs1 : W1.heap.size = X + 2 := by rw [← hW1, World.size_alloc, World.size_alloc, hX]
      have hx1 : W1.heap[X]? = some (.cells #[.int .i64 x.kind, .string x.name, .int .i64 x.n, .int .i64 x.a.kind, .int .i64 x.a.n, .string x.a.name, .slice x.a.a x.a.args.length x.a.cap, .int .i64 x.b.kind, .int .i64 x.b.n, .string x.b.name, .slice x.b.a x.b.args.length x.b.cap, .slice x.ba x.body.length x.bc, .slice x.ea x.els.length x.ec, .slice x.ca x.cases.length x.cc] 44 (0, 0)) := by
        rw [← hW1, ← hX, Below.heap_alloc _ _ _ (by simp)]; exact heap_alloc_new _ _
      have HQ : Hid (Calls Tryd.prog 35 #[.slice (some ⟨X + 1, 0, none⟩) 2 2] W1 fun e w' => CpR W1 w' [x.a, x.b] e ∧ Below W1.heap.size W1 w') := by
        have hx := St.in_iff.1 (XI.out _ (Below.on hbw hb1))
        have hf := St.few_iff.1 XF.out
        refine exprsOf_any [x.a, x.b] (some ⟨X + 1, 0, none⟩) 2 W1 (ex_two (fun i v e => ?_) hx.2.2.2.1 hx.2.2.2.2.1) (by simp) (by simp [hf.1, hf.2.1])
        have h3 : W1.heap[X + 1]? = some (.cells (⟨x.a.cells ++ x.b.cells⟩ : Array Value) 41 (0, 0)) := by
          have := heap_alloc_new (wr.alloc (.cells (⟨x.cells⟩ : Array Value) 44)) (.cells (⟨x.a.cells ++ x.b.cells⟩ : Array Value) 41)
          rw [World.size_alloc, hX, hW1] at this
          exact this
        rw [Lib.cell_of_heap h3]; simpa using e
      clear hW1
      go_wp2_with fail
      rw [HW1.out]
      clear HW1 c0 c1 c2 c3 c4 c5 c6 c7 c8 c9 c10 c11 c12 c13
      refine HQ.out.mono ?_
      rintro e w2 ⟨⟨g1, l1, rfl, hrow, hcp2, her2, hnd2, hbd2⟩, hb2⟩
      clear HQ
      obtain ⟨xa, xb, rfl⟩ : ∃ xa xb, l1 = [xa, xb] := by
        have := erL_len her2
        match l1, this with
        | [xa, xb], _ => exact ⟨xa, xb, rfl⟩
      obtain ⟨_, hg1, _, _, hgr⟩ := hrow
      cases hg1
      have hgX : X + 2 ≤ g1 := by have := (hbd2 g1 (List.mem_cons_self ..)).1; omega
      have hne : g1 ≠ X := by omega
      have hne' : X ≠ g1 := by omega
      have h2X := (hb2.block X (by omega)).trans hx1
      have k3 : w2.cell? ⟨X, 3, none⟩ = some (.int .i64 x.a.kind) := by rw [Lib.cell_of_heap h2X]; rfl
      have k4 : w2.cell? ⟨X, 4, none⟩ = some (.int .i64 x.a.n) := by rw [Lib.cell_of_heap h2X]; rfl
      have k5 : w2.cell? ⟨X, 5, none⟩ = some (.string x.a.name) := by rw [Lib.cell_of_heap h2X]; rfl
      have k6 : w2.cell? ⟨X, 6, none⟩ = some (.slice x.a.a x.a.args.length x.a.cap) := by rw [Lib.cell_of_heap h2X]; rfl
      have k7 : w2.cell? ⟨X, 7, none⟩ = some (.int .i64 x.b.kind) := by rw [Lib.cell_of_heap h2X]; rfl
      have k8 : w2.cell? ⟨X, 8, none⟩ = some (.int .i64 x.b.n) := by rw [Lib.cell_of_heap h2X]; rfl
      have k9 : w2.cell? ⟨X, 9, none⟩ = some (.string x.b.name) := by rw [Lib.cell_of_heap h2X]; rfl
      have k10 : w2.cell? ⟨X, 10, none⟩ = some (.slice x.b.a x.b.args.length x.b.cap) := by rw [Lib.cell_of_heap h2X]; rfl
      have k11 : w2.cell? ⟨X, 11, none⟩ = some (.slice x.ba x.body.length x.bc) := by rw [Lib.cell_of_heap h2X]; rfl
      have kf : ∀ i, w2.frozen? ⟨X, i, none⟩ = false := fun i => by simp [World.frozen?, h2X]
      have p0 : w2.cell? ⟨g1, 0, none⟩ = some (.int .i64 xa.kind) := by rw [Lib.cell_of_heap hgr]; rfl
      have p1 : w2.cell? ⟨g1, 1, none⟩ = some (.int .i64 xa.n) := by rw [Lib.cell_of_heap hgr]; rfl
      have p2 : w2.cell? ⟨g1, 2, none⟩ = some (.string xa.name) := by rw [Lib.cell_of_heap hgr]; rfl
      have p3 : w2.cell? ⟨g1, 3, none⟩ = some (.slice xa.a xa.args.length xa.cap) := by rw [Lib.cell_of_heap hgr]; rfl
      have p4 : w2.cell? ⟨g1, 4, none⟩ = some (.int .i64 xb.kind) := by rw [Lib.cell_of_heap hgr]; rfl
      have p5 : w2.cell? ⟨g1, 5, none⟩ = some (.int .i64 xb.n) := by rw [Lib.cell_of_heap hgr]; rfl
      have p6 : w2.cell? ⟨g1, 6, none⟩ = some (.string xb.name) := by rw [Lib.cell_of_heap hgr]; rfl
      have p7 : w2.cell? ⟨g1, 7, none⟩ = some (.slice xb.a xb.args.length xb.cap) := by rw [Lib.cell_of_heap hgr]; rfl
      have hb2G : Below G w w2 := by
        have : Below w.heap.size w w2 := Below.on (Below.on hbw hb1) hb2
        exact HG.out ▸ this
      have hs2 : X + 2 ≤ w2.heap.size := by have := hb2.size; omega
      have HX2 : Hid (X < w2.heap.size) := (by omega : X < w2.heap.size)
      have PA : Hid (xa.Cp w2 ∧ xb.Cp w2 ∧ xa.er = x.a.er ∧ xb.er = x.b.er ∧ (xa.bl ++ xb.bl).Nodup ∧ ∀ b ∈ xa.bl ++ xb.bl, X < b ∧ b < w2.heap.size) := by
        have hbl : blL [xa, xb] = xa.bl ++ xb.bl := by simp [blL]
        rw [hbl] at hnd2 hbd2
        simp only [erL, List.cons.injEq, and_true] at her2
        refine ⟨hcp2 _ (by simp), hcp2 _ (by simp), her2.1, her2.2, (List.nodup_cons.1 hnd2).2, fun b hb => ?_⟩
        have := hbd2 b (List.mem_cons_of_mem _ hb)
        omega
      have KO : Hid (∀ k, k < X → w2.heap[k]? = wr.heap[k]?) := fun k hk => (hb2.block k (by omega)).trans (hb1.block k (by omega))
      clear hcp2 her2 hnd2 hbd2 hb1 hx1 hs1 hb2
      go_wp2_with fail
      obtain ⟨W3, hW3⟩ : ∃ W3, ((((((((w2.setCell ⟨X, 3, none⟩ (.int .i64 xa.kind)).setCell ⟨X, 4, none⟩ (.int .i64 xa.n)).setCell ⟨X, 5, none⟩ (.string xa.name)).setCell ⟨X, 6, none⟩ (.slice xa.a xa.args.length xa.cap)).setCell ⟨X, 7, none⟩ (.int .i64 xb.kind)).setCell ⟨X, 8, none⟩ (.int .i64 xb.n)).setCell ⟨X, 9, none⟩ (.string xb.name)).setCell ⟨X, 10, none⟩ (.slice xb.a xb.args.length xb.cap)) = W3 := ⟨_, rfl⟩
      rw [hW3]
      have h3X : W3.heap[X]? = some (.cells #[.int .i64 x.kind, .string x.name, .int .i64 x.n, .int .i64 xa.kind, .int .i64 xa.n, .string xa.name, .slice xa.a xa.args.length xa.cap, .int .i64 xb.kind, .int .i64 xb.n, .string xb.name, .slice xb.a xb.args.length xb.cap, .slice x.ba x.body.length x.bc, .slice x.ea x.els.length x.ec, .slice x.ca x.cases.length x.cc] 44 (0, 0)) := by rw [← hW3]; exact (set_list (set_list (set_list (set_list (set_list (set_list (set_list (set_list h2X 3 _) 4 _) 5 _) 6 _) 7 _) 8 _) 9 _) 10 _)
      have K3 : Kp X w2 W3 := by rw [← hW3]; exact (((((((((Kp.refl X w2).set 3 _).set 4 _).set 5 _).set 6 _).set 7 _).set 8 _).set 9 _).set 10 _)
      have hb3G : Below G w W3 := by rw [← hW3]; exact (Below.setCell (p := ⟨X, 10, none⟩) (Below.setCell (p := ⟨X, 9, none⟩) (Below.setCell (p := ⟨X, 8, none⟩) (Below.setCell (p := ⟨X, 7, none⟩) (Below.setCell (p := ⟨X, 6, none⟩) (Below.setCell (p := ⟨X, 5, none⟩) (Below.setCell (p := ⟨X, 4, none⟩) (Below.setCell (p := ⟨X, 3, none⟩) hb2G (Nat.le_of_lt hGX) _) (Nat.le_of_lt hGX) _) (Nat.le_of_lt hGX) _) (Nat.le_of_lt hGX) _) (Nat.le_of_lt hGX) _) (Nat.le_of_lt hGX) _) (Nat.le_of_lt hGX) _) (Nat.le_of_lt hGX) _)
      have HK3 : Hid (Kp X w2 W3) := K3
      have hs3 : X + 2 ≤ W3.heap.size := Nat.le_trans hs2 K3.1
      clear hW3 k3 k4 k5 k6 k7 k8 k9 k10 k11 kf p0 p1 p2 p3 p4 p5 p6 p7 h2X hgr hb2G hne hne' K3 hs2 hgX
      have hf := St.few_iff.1 XF.out
      have hsz := x.sz_eq
      have hz := HZ.out
      refine (IH.out x.body x.ba x.bc W3 (by omega) (St.in_iff.1 (XI.out W3 (HG.out ▸ hb3G))).2.2.2.2.2.1 hf.2.2.1 hf.2.2.2.1).mono ?_
      clear hf hsz hz
      rintro e w4 ⟨⟨gB, lB, rfl, hr4, hc4, he4, hn4, hd4⟩, hb4⟩
      have PB : Hid (RowCp w4 (some ⟨gB, 0, none⟩) (x.body.length + 1) lB.length 216 44 (lB.flatMap St.cells ++ senS) ∧ (∀ y ∈ lB, y.Cp w4) ∧ erS lB = erS x.body ∧ (gB :: blS lB).Nodup ∧ (∀ b ∈ gB :: blS lB, w2.heap.size ≤ b ∧ b < w4.heap.size)) := ⟨hr4, hc4, he4, hn4, fun b hb => ⟨Nat.le_trans HK3.out.1 (hd4 b hb).1, (hd4 b hb).2⟩⟩
      have h4X := (hb4.block X (by omega)).trans h3X
      have HK4 : Hid (Kp X w2 w4) := HK3.out.below hb4
      have hb4G : Below G w w4 := hb3G.trans (hb4.mono (by omega))
      have hs4 : X + 2 ≤ w4.heap.size := Nat.le_trans hs3 hb4.size
      clear hr4 hc4 he4 hn4 hd4 hb4 h3X hb3G hs3 HK3
      have m11 : w4.cell? ⟨X, 11, none⟩ = some (.slice x.ba x.body.length x.bc) := by rw [Lib.cell_of_heap h4X]; rfl
      have m12 : w4.cell? ⟨X, 12, none⟩ = some (.slice x.ea x.els.length x.ec) := by rw [Lib.cell_of_heap h4X]; rfl
      have mf : ∀ i, w4.frozen? ⟨X, i, none⟩ = false := fun i => by simp [World.frozen?, h4X]
      go_wp2_with fail
      obtain ⟨W5, hW5⟩ : ∃ W5, w4.setCell ⟨X, 11, none⟩ (.slice (some ⟨gB, 0, none⟩) x.body.length (x.body.length + 1)) = W5 := ⟨_, rfl⟩
      rw [hW5]
      have h5X : W5.heap[X]? = some (.cells #[.int .i64 x.kind, .string x.name, .int .i64 x.n, .int .i64 xa.kind, .int .i64 xa.n, .string xa.name, .slice xa.a xa.args.length xa.cap, .int .i64 xb.kind, .int .i64 xb.n, .string xb.name, .slice xb.a xb.args.length xb.cap, .slice (some ⟨gB, 0, none⟩) x.body.length (x.body.length + 1), .slice x.ea x.els.length x.ec, .slice x.ca x.cases.length x.cc] 44 (0, 0)) := by rw [← hW5]; exact set_list h4X 11 _
      have HK5 : Hid (Kp X w4 W5) := by rw [← hW5]; exact (Kp.refl X w4).set 11 _
      have hb5G : Below G w W5 := by rw [← hW5]; exact Below.setCell (p := ⟨X, 11, none⟩) hb4G (Nat.le_of_lt hGX) _
      have hs5 : X + 2 ≤ W5.heap.size := Nat.le_trans hs4 HK5.out.1
      clear hW5 m11 m12 mf h4X hb4G hs4
      have hf := St.few_iff.1 XF.out
      have hsz := x.sz_eq
      have hz := HZ.out
      refine (IH.out x.els x.ea x.ec W5 (by omega) (St.in_iff.1 (XI.out W5 (HG.out ▸ hb5G))).2.2.2.2.2.2.1 hf.2.2.2.2.1 hf.2.2.2.2.2.1).mono ?_
      have hcl := hf.2.2.2.2.2.2.1
      clear hf hsz hz
      rintro e w6 ⟨⟨gE, lE, rfl, hr6, hc6, he6, hn6, hd6⟩, hb6⟩
      have PE : Hid (RowCp w6 (some ⟨gE, 0, none⟩) (x.els.length + 1) lE.length 216 44 (lE.flatMap St.cells ++ senS) ∧ (∀ y ∈ lE, y.Cp w6) ∧ erS lE = erS x.els ∧ (gE :: blS lE).Nodup ∧ (∀ b ∈ gE :: blS lE, w4.heap.size ≤ b ∧ b < w6.heap.size)) := ⟨hr6, hc6, he6, hn6, fun b hb => ⟨Nat.le_trans HK5.out.1 (hd6 b hb).1, (hd6 b hb).2⟩⟩
      have h6X := (hb6.block X (by omega)).trans h5X
      have HK6 : Hid (Kp X w4 w6) := HK5.out.below hb6
      have hb6G : Below G w w6 := hb5G.trans (hb6.mono (by omega))
      have hs6 : X + 2 ≤ w6.heap.size := Nat.le_trans hs5 hb6.size
      clear hr6 hc6 he6 hn6 hd6 hb6 h5X hb5G hs5 HK5
      have m12 : w6.cell? ⟨X, 12, none⟩ = some (.slice x.ea x.els.length x.ec) := by rw [Lib.cell_of_heap h6X]; rfl
      have m13 : w6.cell? ⟨X, 13, none⟩ = some (.slice x.ca x.cases.length x.cc) := by rw [Lib.cell_of_heap h6X]; rfl
      have mf : ∀ i, w6.frozen? ⟨X, i, none⟩ = false := fun i => by simp [World.frozen?, h6X]
      obtain ⟨hccl, hccc, _, _⟩ := (St.in_iff.1 (XI.out w6 (HG.out ▸ hb6G))).2.2.2.2.2.2.2.1
      obtain ⟨C, hC⟩ : ∃ C, w6.heap.size = C := ⟨_, rfl⟩
      go_wp2_with (at_make; refine wpList_make_own _ rfl _ _ 42 rfl C 64 i1 _ 2 Tryd.underlying42 HI1.out hy0 hy1 _ _ _ (x.cases.length + 1) rfl rfl (by omega) (by rw [hy2]; omega) (by unfold maxLen; omega) (by rw [size_set]; omega) ?_; intro w8 hown8 hgrow8)
      rw [size_set, hC] at hown8
      have h8X : w8.heap[X]? = some (.cells #[.int .i64 x.kind, .string x.name, .int .i64 x.n, .int .i64 xa.kind, .int .i64 xa.n, .string xa.name, .slice xa.a xa.args.length xa.cap, .int .i64 xb.kind, .int .i64 xb.n, .string xb.name, .slice xb.a xb.args.length xb.cap, .slice (some ⟨gB, 0, none⟩) x.body.length (x.body.length + 1), .slice (some ⟨gE, 0, none⟩) x.els.length (x.els.length + 1), .slice x.ca x.cases.length x.cc] 44 (0, 0)) := (hgrow8.block X (by rw [size_set]; omega) (by simp)).trans (set_list h6X 12 _)
      have HK8 : Hid (Kp X w6 w8) := ((Kp.refl X w6).set 12 _).none hgrow8
      have hb8G : Below G w w8 := (Below.setCell (p := ⟨X, 12, none⟩) hb6G (Nat.le_of_lt hGX) _).grown hgrow8 (by rw [size_set]; omega) (fun k hk => by cases hk)
      have hXC : X < C := by omega
      have HO8 : Hid (w8.ownsRow C 64 2 (.slice (some ⟨C, 0, none⟩) 0 (x.cases.length + 1)) 0 []) := hown8
      have HC : Hid (w6.heap.size = C) := hC
      clear hown8 hgrow8 m12 m13 mf h6X hb6G hs6 hC
      go_wp2_with fail
      go_loopw [7, 8] (fun t7 t8 wr => ∃ (c' : List Ca), t8 = .int .i64 c'.length ∧ c'.length ≤ x.cases.length ∧ t7 = .slice (some ⟨C, 0, none⟩) c'.length (x.cases.length + 1) ∧ wr.ownsRow C 64 2 (.slice (some ⟨C, 0, none⟩) c'.length (x.cases.length + 1)) c'.length (c'.flatMap Ca.cells) ∧ (∀ y ∈ c', y.Cp wr) ∧ erC c' = erC (x.cases.take c'.length) ∧ (blC c').Nodup ∧ (∀ b ∈ blC c', C < b ∧ b < wr.heap.size) ∧ Kp C w8 wr ∧ Below G w wr) (fun _ t8 _ => x.cases.length - (intOf t8).toNat)
      case atStart => exact ⟨[], rfl, Nat.zero_le _, rfl, HO8.out, by simp, by simp, by simp [blC], by simp [blC], Kp.refl _ _, hb8G⟩
      case round =>
        clear hb8G hbw
        obtain ⟨cl, rfl, hcle, rfl, hown, hcp, her, hnd, hbd, hkp, hb⟩ := hrel
        obtain ⟨i, hi⟩ : ∃ i, cl.length = i := ⟨_, rfl⟩
        have HJC : Hid (cl.length = i) := hi
        rw [hi] at hown hcle her ⊢
        have HOC : Hid (wr.ownsRow C 64 2 (.slice (some ⟨C, 0, none⟩) i (x.cases.length + 1)) i (cl.flatMap Ca.cells)) := hown
        have HRC : Hid ((∀ y ∈ cl, y.Cp wr) ∧ erC cl = erC (x.cases.take i) ∧ (blC cl).Nodup ∧ (∀ b ∈ blC cl, C < b ∧ b < wr.heap.size)) := ⟨hcp, her, hnd, hbd⟩
        have HKC : Hid (Kp C w8 wr) := hkp
        have BWC : Hid (Below G w wr) := hb
        have h8s : C < w8.heap.size := owns_lt HO8.out
        have hrX := (hkp.2 X (by omega) (by omega)).trans h8X
        have H8 : Hid (C < w8.heap.size) := h8s
        have HX8 := show Hid _ from h8X
        clear hown hcp her hnd hbd hkp hb hi HO8 h8X h8s
        have hCw : C < wr.heap.size := owns_lt HOC.out
        by_cases hilt : i < x.cases.length
        · have hili : (i : Int) < (x.cases.length : Int) := by omega
          have hili0 : (0 : Int) ≤ (i : Int) := by omega
          have hbw : Below w.heap.size w wr := HG.out ▸ BWC.out
          obtain ⟨b', o', hca, hcell⟩ := rowC_cells ((St.in_iff.1 (XI.out w (Below.refl _ _))).2.2.2.2.2.2.2.1.2.2.2) hilt
          have q0 := hcell 0 _ rfl
          have q1 := hcell 1 _ rfl
          simp only [← Nat.add_assoc, Nat.add_zero] at q0 q1
          have hbG : b' < G := by have := lt_of_cell q0; have := HG.out; simp only at *; omega
          have d0 : ∀ w', Below C wr w' → w'.cell? ⟨b', o' + i * 2, none⟩ = some (.int .i64 x.cases[i].n) := fun w' h => ((h.cell (p := ⟨b', o' + i * 2, none⟩) (by show b' < C; omega)).trans (BWC.out.cell (p := ⟨b', o' + i * 2, none⟩) hbG)).trans q0
          have d1 : ∀ w', Below C wr w' → w'.cell? ⟨b', o' + i * 2 + 1, none⟩ = some (.slice x.cases[i].ba x.cases[i].body.length x.cases[i].bc) := fun w' h => ((h.cell (p := ⟨b', o' + i * 2 + 1, none⟩) (by show b' < C; omega)).trans (BWC.out.cell (p := ⟨b', o' + i * 2 + 1, none⟩) hbG)).trans q1
          have e13 : ∀ w', Below C wr w' → w'.cell? ⟨X, 13, none⟩ = some (.slice (some ⟨b', o', none⟩) x.cases.length x.cc) := fun w' h => (h.cell (p := ⟨X, 13, none⟩) hXC).trans (by rw [Lib.cell_of_heap hrX, ← hca]; rfl)
          have r13 : wr.cell? ⟨X, 13, none⟩ = some (.slice x.ca x.cases.length x.cc) := by rw [Lib.cell_of_heap hrX]; rfl
          have HQ : Hid (∀ w', Below wr.heap.size wr w' → Calls Tryd.prog 22 #[.slice x.cases[i].ba x.cases[i].body.length x.cases[i].bc] w' fun e w'' => CpRS w' w'' x.cases[i].body e ∧ Below w'.heap.size w' w'') := fun w' h => by
            have h1 := csz_mem (List.getElem_mem hilt)
            have h2 := (x.cases[i]).sz_eq
            have h3 := x.sz_eq
            have h4 := HZ.out
            have h5 := Ca.few_iff.1 ((St.few_iff.1 XF.out).2.2.2.2.2.2.2 _ (List.getElem_mem hilt))
            exact IH.out _ _ _ w' (by omega) (Ca.in_iff.1 ((St.in_iff.1 (XI.out _ (Below.on hbw h))).2.2.2.2.2.2.2.2 _ (List.getElem_mem hilt))).2 h5.1 h5.2
          have HN : Hid (I64 x.cases[i].n) := (Ca.in_iff.1 ((St.in_iff.1 (XI.out _ hbw)).2.2.2.2.2.2.2.2 _ (List.getElem_mem hilt))).1
          have HTC : Hid (erC (x.cases.take (i + 1)) = erC (x.cases.take i) ++ [x.cases[i].er]) := by
            show _ = _
            rw [erC_map, erC_map, List.take_succ_eq_append_getElem hilt, List.map_append]; rfl
          clear q0 q1 hcell hrX hca
          generalize x.cases[i] = y at *
          have H1 : ∀ g, ∀ u ∈ ([.int .i64 y.n, .slice (some ⟨g, 0, none⟩) y.body.length (y.body.length + 1)] : List Value), u.oneCell' = true := fun g u hu => by
            simp at hu; rcases hu with rfl | rfl <;> rfl
          have HH1 := show Hid _ from H1
          clear H1
          go_wp2_with fail
          clear r13
          go_region_held3 (fun w' => Below C wr w') (first | exact Below.drew (Below.refl _ _) | exact bel_call hCw (by assumption) | exact bel_alloc hCw (by assumption) _ | exact bel_grown hCw (by assumption) (by assumption))
            (first
              | (go_at_call 22; refine (HQ.out _ (Below.drew (Below.refl _ _))).mono ?_; rintro e w7 ⟨⟨gD, lD, rfl, hrD, hcD, heD, hnD, hdD⟩, hbD⟩)
              | (refine step_append_spare _ (by rfl) _ _ _ (by rfl) C 64 i1 2 Tryd.underlying42 HI1.out hy1 C i (x.cases.length + 1) (cl.flatMap Ca.cells) (by rfl) (owns_heap HOC.out ((Below.heap_alloc _ _ _ (Nat.lt_of_lt_of_le hCw hbD.size)).trans (hbD.block C hCw))) ⟨w7.heap.size, 0, none⟩ 1 1 [.int .i64 y.n, .slice (some ⟨gD, 0, none⟩) y.body.length (y.body.length + 1)] (by rfl) (by rfl) (World.news_of_block (heap_alloc_new w7 _)) (HH1.out gD) (by omega) ?_; intro w5 hown5 hgrow5))
          have hbq : Below C wr w5 := by assumption
          have hKD : Kp C wr w5 := (((Kp.refl C wr).below (B := wr) ⟨hbD.os, hbD.tape, hbD.output, hbD.size, hbD.block⟩).alloc _).grown hgrow5
          have HD : Hid (Kp C wr w5 ∧ Below C wr w5 ∧ w7.heap.size < w5.heap.size ∧ wr.heap.size ≤ w7.heap.size ∧ (∀ k, k < w7.heap.size → k ≠ C → w5.heap[k]? = w7.heap[k]?) ∧ w5.ownsRow C 64 2 (.slice (some ⟨C, 0, none⟩) (i + 1) (x.cases.length + 1)) (i + 1) (cl.flatMap Ca.cells ++ [.int .i64 y.n, .slice (some ⟨gD, 0, none⟩) y.body.length (y.body.length + 1)])) :=
            ⟨hKD, hbq, by have := hgrow5.size; simp at this; omega, hbD.size, fun k h1 h2 => (hgrow5.block k (by simp; omega) (by simpa using h2)).trans (Below.heap_alloc _ _ _ h1), hown5⟩
          have PD : Hid (RowCp w7 (some ⟨gD, 0, none⟩) (y.body.length + 1) lD.length 216 44 (lD.flatMap St.cells ++ senS) ∧ (∀ z ∈ lD, z.Cp w7) ∧ erS lD = erS y.body ∧ (gD :: blS lD).Nodup ∧ (∀ b ∈ gD :: blS lD, wr.heap.size ≤ b ∧ b < w7.heap.size)) := ⟨hrD, hcD, heD, hnD, hdD⟩
          clear hrD hcD heD hnD hdD hbD hown5 hgrow5 d0 d1 e13 hbq hKD
          go_wp2_with fail
          go_roundw
          case rel =>
            obtain ⟨hKD, hbq, hs75, hsw7, hk75, hown5⟩ := HD.out
            obtain ⟨hrD, hcD, heD, hnD, hdD⟩ := PD.out
            obtain ⟨hcp, her, hnd, hbd⟩ := HRC.out
            have hlen : lD.length = y.body.length := erS_len heD
            have hji := HJC.out
            have hbl : blC (cl ++ [.mk y.n (some ⟨gD, 0, none⟩) (y.body.length + 1) lD]) = blC cl ++ (gD :: blS lD) := by
              rw [blC_map, List.flatMap_append, ← blC_map]; simp [Ca.bl, blk]
            have hll : (cl ++ [Ca.mk y.n (some ⟨gD, 0, none⟩) (y.body.length + 1) lD]).length = i + 1 := by simp; omega
            have hkeep : ∀ b ∈ gD :: blS lD, w5.heap[b]? = w7.heap[b]? := fun b hb => hk75 b (hdD b hb).2 (by have := (hdD b hb).1; omega)
            refine ⟨cl ++ [.mk y.n (some ⟨gD, 0, none⟩) (y.body.length + 1) lD], ?_, ?_, ?_, ?_, ?_, ?_, ?_, ?_, HKC.out.trans hKD, BWC.out.trans (hbq.mono (by omega))⟩
            · rw [hll]; go_num
            · rw [hll]; omega
            · rw [hll]
            · rw [hll, List.flatMap_append]
              simpa [Ca.cells, Ca.n, Ca.ba, Ca.bc, Ca.body, hlen] using hown5
            · intro z hz
              rcases List.mem_append.1 hz with hz | hz
              · refine (hcp z hz).kept fun b hb => ?_
                have hb' := hbd b (by rw [blC_map]; exact List.mem_flatMap.2 ⟨z, hz, hb⟩)
                exact hKD.2 b hb'.2 (by omega)
              · obtain rfl := List.mem_singleton.1 hz
                exact Ca.cp_iff.2 ⟨HN.out, hrD.keep (hkeep _ (List.mem_cons_self ..)), fun z hz => (hcD z hz).kept fun b hb => hkeep b (List.mem_cons_of_mem _ (by rw [blS_map]; exact List.mem_flatMap.2 ⟨z, hz, hb⟩))⟩
            · rw [hll, HTC.out, ← her, erC_map, erC_map, List.map_append]
              simp only [List.map_cons, List.map_nil, Ca.er]
              rw [y.er_eq, heD]
            · rw [hbl, List.nodup_append]
              refine ⟨hnd, hnD, fun a ha b hb => ?_⟩
              have := hbd a ha
              have := hdD b hb
              omega
            · intro b hb
              rw [hbl] at hb
              rcases List.mem_append.1 hb with hb | hb
              · have := hbd b hb; omega
              · have := hdD b hb; omega
          case measure => simp [intOf]; omega
        · obtain rfl : i = x.cases.length := by omega
          have r13 : wr.cell? ⟨X, 13, none⟩ = some (.slice x.ca x.cases.length x.cc) := by rw [Lib.cell_of_heap hrX]; rfl
          have HO9 : Hid ((wr.alloc (.cells #[.int .i64 (-77), .slice none 0 0] 64)).ownsRow C 64 2 (.slice (some ⟨C, 0, none⟩) x.cases.length (x.cases.length + 1)) x.cases.length (cl.flatMap Ca.cells)) := HOC.out.alloc _
          have HN9 : Hid (∀ i u, senC[i]? = some u → (wr.alloc (.cells #[.int .i64 (-77), .slice none 0 0] 64)).cell? ((⟨wr.heap.size, 0, none⟩ : Addr).add i) = some u) := World.news_of_block (heap_alloc_new wr _)
          have H19 : Hid (∀ u ∈ senC, u.oneCell' = true) := fun u hu => by
            simp [senC] at hu; rcases hu with rfl | rfl <;> rfl
          go_upto_region 17 with (at_builtin; refine wpList_append_own_spare _ rfl _ _ 42 rfl C 64 i1 2 Tryd.underlying42 HI1.out hy1 C x.cases.length (x.cases.length + 1) (cl.flatMap Ca.cells) rfl HO9.out ⟨wr.heap.size, 0, none⟩ 1 1 senC rfl rfl HN9.out H19.out (by omega) ?_; intro w9 hown9 hgrow9)
          have hK9 : Kp C wr w9 := ((Kp.refl C wr).alloc _).grown hgrow9
          have h9X := (hK9.2 X (by omega) (by omega)).trans hrX
          have HK9 : Hid (Kp C w8 w9 ∧ Kp C wr w9) := ⟨HKC.out.trans hK9, hK9⟩
          have hb9G : Below G w w9 := (BWC.out.alloc (by omega) _).grown hgrow9 (by simp; omega) (fun k hk => by simp at hk; omega)
          have HC9 : Hid (w9.heap[C]? = some (.cells ⟨cl.flatMap Ca.cells ++ senC⟩ 64 (0, 0))) := owns_full hown9
          have hs9 : wr.heap.size ≤ w9.heap.size := hK9.1
          clear hown9 hgrow9 HO9 HN9 H19 hrX hK9 r13
          have m13 : w9.cell? ⟨X, 13, none⟩ = some (.slice x.ca x.cases.length x.cc) := by rw [Lib.cell_of_heap h9X]; rfl
          have mf : ∀ i, w9.frozen? ⟨X, i, none⟩ = false := fun i => by simp [World.frozen?, h9X]
          go_upto_region 18 with fail
          obtain ⟨W10, hW10⟩ : ∃ W10, w9.setCell ⟨X, 13, none⟩ (.slice (some ⟨C, 0, none⟩) x.cases.length (x.cases.length + 1)) = W10 := ⟨_, rfl⟩
          rw [hW10]
          have h10X : W10.heap[X]? = some (.cells #[.int .i64 x.kind, .string x.name, .int .i64 x.n, .int .i64 xa.kind, .int .i64 xa.n, .string xa.name, .slice xa.a xa.args.length xa.cap, .int .i64 xb.kind, .int .i64 xb.n, .string xb.name, .slice xb.a xb.args.length xb.cap, .slice (some ⟨gB, 0, none⟩) x.body.length (x.body.length + 1), .slice (some ⟨gE, 0, none⟩) x.els.length (x.els.length + 1), .slice (some ⟨C, 0, none⟩) x.cases.length (x.cases.length + 1)] 44 (0, 0)) := by rw [← hW10]; exact set_list h9X 13 _
          have HK10 : Hid (Kp X w9 W10) := by rw [← hW10]; exact (Kp.refl X w9).set 13 _
          have hb10G : Below G w W10 := by rw [← hW10]; exact Below.setCell (p := ⟨X, 13, none⟩) hb9G (Nat.le_of_lt hGX) _
          have hs10 : W10.heap.size = w9.heap.size := by rw [← hW10, size_set]
          clear hW10 m13 mf h9X hb9G
          have n0 : W10.cell? ⟨X, 0, none⟩ = some (.int .i64 x.kind) := by rw [Lib.cell_of_heap h10X]; rfl
          have n1 : W10.cell? ⟨X, 1, none⟩ = some (.string x.name) := by rw [Lib.cell_of_heap h10X]; rfl
          have n2 : W10.cell? ⟨X, 2, none⟩ = some (.int .i64 x.n) := by rw [Lib.cell_of_heap h10X]; rfl
          have n3 : W10.cell? ⟨X, 3, none⟩ = some (.int .i64 xa.kind) := by rw [Lib.cell_of_heap h10X]; rfl
          have n4 : W10.cell? ⟨X, 4, none⟩ = some (.int .i64 xa.n) := by rw [Lib.cell_of_heap h10X]; rfl
          have n5 : W10.cell? ⟨X, 5, none⟩ = some (.string xa.name) := by rw [Lib.cell_of_heap h10X]; rfl
          have n6 : W10.cell? ⟨X, 6, none⟩ = some (.slice xa.a xa.args.length xa.cap) := by rw [Lib.cell_of_heap h10X]; rfl
          have n7 : W10.cell? ⟨X, 7, none⟩ = some (.int .i64 xb.kind) := by rw [Lib.cell_of_heap h10X]; rfl
          have n8 : W10.cell? ⟨X, 8, none⟩ = some (.int .i64 xb.n) := by rw [Lib.cell_of_heap h10X]; rfl
          have n9 : W10.cell? ⟨X, 9, none⟩ = some (.string xb.name) := by rw [Lib.cell_of_heap h10X]; rfl
          have n10 : W10.cell? ⟨X, 10, none⟩ = some (.slice xb.a xb.args.length xb.cap) := by rw [Lib.cell_of_heap h10X]; rfl
          have n11 : W10.cell? ⟨X, 11, none⟩ = some (.slice (some ⟨gB, 0, none⟩) x.body.length (x.body.length + 1)) := by rw [Lib.cell_of_heap h10X]; rfl
          have n12 : W10.cell? ⟨X, 12, none⟩ = some (.slice (some ⟨gE, 0, none⟩) x.els.length (x.els.length + 1)) := by rw [Lib.cell_of_heap h10X]; rfl
          have n13 : W10.cell? ⟨X, 13, none⟩ = some (.slice (some ⟨C, 0, none⟩) x.cases.length (x.cases.length + 1)) := by rw [Lib.cell_of_heap h10X]; rfl
          have hC6 := HC.out
          have hcw := H8.out
          have K610 : ∀ k, k < C → k ≠ X → W10.heap[k]? = w6.heap[k]? := fun k h1 h2 => (HK10.out.2 k (by have := HK9.out.1.1; have := HK8.out.1; omega) h2).trans ((HK9.out.1.2 k (by have := HK8.out.1; omega) (by omega)).trans (HK8.out.2 k (by omega) h2))
          have K410 : ∀ k, k < w4.heap.size → k ≠ X → W10.heap[k]? = w4.heap[k]? := fun k h1 h2 => (K610 k (by have := HK6.out.1; omega) h2).trans (HK6.out.2 k h1 h2)
          have K210 : ∀ k, k < w2.heap.size → k ≠ X → W10.heap[k]? = w2.heap[k]? := fun k h1 h2 => (K410 k (by have := HK4.out.1; omega) h2).trans (HK4.out.2 k h1 h2)
          have hX2 : X < w2.heap.size := HX2.out
          have HO12 : Hid ((W10.alloc (.cells #[.int .i64 x.kind, .string x.name, .int .i64 x.n, .int .i64 xa.kind, .int .i64 xa.n, .string xa.name, .slice xa.a xa.args.length xa.cap, .int .i64 xb.kind, .int .i64 xb.n, .string xb.name, .slice xb.a xb.args.length xb.cap, .slice (some ⟨gB, 0, none⟩) x.body.length (x.body.length + 1), .slice (some ⟨gE, 0, none⟩) x.els.length (x.els.length + 1), .slice (some ⟨C, 0, none⟩) x.cases.length (x.cases.length + 1)] 44)).ownsRow G 44 14 (.slice (some ⟨G, 0, none⟩) j (l.length + 1)) j (l'.flatMap St.cells)) :=
            owns_heap HO.out ((Below.heap_alloc _ _ _ (by omega)).trans ((K210 G (by omega) (by omega)).trans (KO.out G hGX)))
          have HN12 : Hid (∀ i u, ([.int .i64 x.kind, .string x.name, .int .i64 x.n, .int .i64 xa.kind, .int .i64 xa.n, .string xa.name, .slice xa.a xa.args.length xa.cap, .int .i64 xb.kind, .int .i64 xb.n, .string xb.name, .slice xb.a xb.args.length xb.cap, .slice (some ⟨gB, 0, none⟩) x.body.length (x.body.length + 1), .slice (some ⟨gE, 0, none⟩) x.els.length (x.els.length + 1), .slice (some ⟨C, 0, none⟩) x.cases.length (x.cases.length + 1)] : List Value)[i]? = some u → (W10.alloc (.cells #[.int .i64 x.kind, .string x.name, .int .i64 x.n, .int .i64 xa.kind, .int .i64 xa.n, .string xa.name, .slice xa.a xa.args.length xa.cap, .int .i64 xb.kind, .int .i64 xb.n, .string xb.name, .slice xb.a xb.args.length xb.cap, .slice (some ⟨gB, 0, none⟩) x.body.length (x.body.length + 1), .slice (some ⟨gE, 0, none⟩) x.els.length (x.els.length + 1), .slice (some ⟨C, 0, none⟩) x.cases.length (x.cases.length + 1)] 44)).cell? ((⟨W10.heap.size, 0, none⟩ : Addr).add i) = some u) := World.news_of_block (heap_alloc_new W10 _)
          have H112 : Hid (∀ u ∈ ([.int .i64 x.kind, .string x.name, .int .i64 x.n, .int .i64 xa.kind, .int .i64 xa.n, .string xa.name, .slice xa.a xa.args.length xa.cap, .int .i64 xb.kind, .int .i64 xb.n, .string xb.name, .slice xb.a xb.args.length xb.cap, .slice (some ⟨gB, 0, none⟩) x.body.length (x.body.length + 1), .slice (some ⟨gE, 0, none⟩) x.els.length (x.els.length + 1), .slice (some ⟨C, 0, none⟩) x.cases.length (x.cases.length + 1)] : List Value), u.oneCell' = true) := List.all_eq_true.1 (show ([.int .i64 x.kind, .string x.name, .int .i64 x.n, .int .i64 xa.kind, .int .i64 xa.n, .string xa.name, .slice xa.a xa.args.length xa.cap, .int .i64 xb.kind, .int .i64 xb.n, .string xb.name, .slice xb.a xb.args.length xb.cap, .slice (some ⟨gB, 0, none⟩) x.body.length (x.body.length + 1), .slice (some ⟨gE, 0, none⟩) x.els.length (x.els.length + 1), .slice (some ⟨C, 0, none⟩) x.cases.length (x.cases.length + 1)] : List Value).all (fun u => u.oneCell') = true from rfl)
          have HKK : Hid ((∀ k, k < C → k ≠ X → W10.heap[k]? = w6.heap[k]?) ∧ (∀ k, k < w4.heap.size → k ≠ X → W10.heap[k]? = w4.heap[k]?) ∧ (∀ k, k < w2.heap.size → k ≠ X → W10.heap[k]? = w2.heap[k]?) ∧ w2.heap.size ≤ w4.heap.size ∧ w4.heap.size ≤ C ∧ X < w2.heap.size ∧ C < w9.heap.size) := ⟨K610, K410, K210, HK4.out.1, hC6 ▸ HK6.out.1, hX2, by have := HK9.out.1.1; omega⟩
          have HB10 : Hid (Below G w W10 ∧ W10.heap.size = w9.heap.size) := ⟨hb10G, hs10⟩
          clear K610 K410 K210 hC6 hcw h10X hb10G hs10
          go_wp2_with (at_builtin; refine wpList_append_own_spare _ rfl _ _ 35 rfl G 44 i0 14 Tryd.underlying35 HI.out hz1 G j (l.length + 1) (l'.flatMap St.cells) rfl HO12.out ⟨W10.heap.size, 0, none⟩ 1 1 [.int .i64 x.kind, .string x.name, .int .i64 x.n, .int .i64 xa.kind, .int .i64 xa.n, .string xa.name, .slice xa.a xa.args.length xa.cap, .int .i64 xb.kind, .int .i64 xb.n, .string xb.name, .slice xb.a xb.args.length xb.cap, .slice (some ⟨gB, 0, none⟩) x.body.length (x.body.length + 1), .slice (some ⟨gE, 0, none⟩) x.els.length (x.els.length + 1), .slice (some ⟨C, 0, none⟩) x.cases.length (x.cases.length + 1)] rfl rfl HN12.out H112.out (by omega) ?_; intro w11 hown11 hgrow11)
          have HW11 : Hid (w11.ownsRow G 44 14 (.slice (some ⟨G, 0, none⟩) (j + 1) (l.length + 1)) (j + 1) (l'.flatMap St.cells ++ [.int .i64 x.kind, .string x.name, .int .i64 x.n, .int .i64 xa.kind, .int .i64 xa.n, .string xa.name, .slice xa.a xa.args.length xa.cap, .int .i64 xb.kind, .int .i64 xb.n, .string xb.name, .slice xb.a xb.args.length xb.cap, .slice (some ⟨gB, 0, none⟩) x.body.length (x.body.length + 1), .slice (some ⟨gE, 0, none⟩) x.els.length (x.els.length + 1), .slice (some ⟨C, 0, none⟩) x.cases.length (x.cases.length + 1)])) := hown11
          have HK11 : Hid (W10.heap.size < w11.heap.size ∧ ∀ k, k < W10.heap.size → k ≠ G → w11.heap[k]? = W10.heap[k]?) := ⟨by have := hgrow11.size; simp at this; omega, fun k h1 h2 => (hgrow11.block k (by simp; omega) (by simpa using h2)).trans (Below.heap_alloc _ _ _ h1)⟩
          have BW11 : Hid (Below G w w11) := (HB10.out.1.alloc (by have := HB10.out.2; omega) _).grown hgrow11 (by have := HB10.out.2; simp; omega) (fun k hk => by simp at hk; omega)
          clear hown11 hgrow11 HO12 HN12 H112 n0 n1 n2 n3 n4 n5 n6 n7 n8 n9 n10 n11 n12 n13
          go_wp2_with fail
          go_roundw
          case rel =>
            obtain ⟨ha, hb, hea, heb, hnab, hdab⟩ := PA.out
            obtain ⟨hrB, hcB, heB, hnB, hdB⟩ := PB.out
            obtain ⟨hrE, hcE, heE, hnE, hdE⟩ := PE.out
            obtain ⟨hcC, heC, hnC, hdC⟩ := HRC.out
            obtain ⟨hcp, her, hnd, hbd⟩ := HR.out
            obtain ⟨k610, k410, k210, hs24, hs4C, hx2, hC9⟩ := HKK.out
            obtain ⟨hs11, hk11⟩ := HK11.out
            have hs109 := HB10.out.2
            have hk9 := HK9.out.2
            have hlB : lB.length = x.body.length := erS_len heB
            have hlE : lE.length = x.els.length := erS_len heE
            have hlC : cl.length = x.cases.length := HJC.out
            have hxin := St.in_iff.1 (XI.out _ (Below.refl _ _))
            have hji := HJ.out
            obtain ⟨z, hzd⟩ : ∃ z : St, z = .mk x.kind x.name x.n xa xb (some ⟨gB, 0, none⟩) (x.body.length + 1) lB (some ⟨gE, 0, none⟩) (x.els.length + 1) lE (some ⟨C, 0, none⟩) (x.cases.length + 1) cl := ⟨_, rfl⟩
            have hzb : z.bl = (xa.bl ++ xb.bl) ++ ((gB :: blS lB) ++ ((gE :: blS lE) ++ (C :: blC cl))) := by
              rw [hzd, St.bl_eq]; simp only [St.a, St.b, St.ba, St.body, St.ea, St.els, St.ca, St.cases, blk, List.append_assoc, List.cons_append]
            have hbl : blS (l' ++ [z]) = blS l' ++ z.bl := by
              rw [blS_map, List.flatMap_append, ← blS_map]; simp
            have hll : (l' ++ [z]).length = j + 1 := by simp; omega
            have f2 : ∀ k, X < k → k < w2.heap.size → w11.heap[k]? = w2.heap[k]? := fun k h1 h2 => (hk11 k (by omega) (by omega)).trans (k210 k h2 (by omega))
            have f4 : ∀ k, X < k → k < w4.heap.size → w11.heap[k]? = w4.heap[k]? := fun k h1 h2 => (hk11 k (by omega) (by omega)).trans (k410 k h2 (by omega))
            have f6 : ∀ k, X < k → k < C → w11.heap[k]? = w6.heap[k]? := fun k h1 h2 => (hk11 k (by omega) (by omega)).trans (k610 k h2 (by omega))
            have f9 : ∀ k, X < k → k < w9.heap.size → w11.heap[k]? = w9.heap[k]? := fun k h1 h2 => (hk11 k (by omega) (by omega)).trans (HK10.out.2 k h2 (by omega))
            have hC6 := HC.out
            have hzc : z.Cp w11 := by
              rw [hzd]
              refine St.cp_iff.2 ⟨hxin.1, hxin.2.1, hxin.2.2.1, ha.kept fun b h => ?_, hb.kept fun b h => ?_, hrB.keep ?_, hrE.keep ?_, ⟨C, rfl, by show x.cases.length + 1 = cl.length + 1; omega, by show (x.cases.length + 1) * 32 ≤ _; omega, ?_⟩, fun y hy => (hcB y hy).kept fun b h => ?_, fun y hy => (hcE y hy).kept fun b h => ?_, fun y hy => (hcC y hy).kept fun b h => ?_⟩
              · have := hdab b (List.mem_append_left _ h); exact f2 b this.1 this.2
              · have := hdab b (List.mem_append_right _ h); exact f2 b this.1 this.2
              · have := hdB gB (List.mem_cons_self ..); exact f4 gB (by omega) this.2
              · have := hdE gE (List.mem_cons_self ..); exact f6 gE (by omega) (by omega)
              · exact (f9 C hXC hC9).trans HC9.out
              · have := hdB b (List.mem_cons_of_mem _ (by rw [blS_map]; exact List.mem_flatMap.2 ⟨y, hy, h⟩)); exact f4 b (by omega) this.2
              · have := hdE b (List.mem_cons_of_mem _ (by rw [blS_map]; exact List.mem_flatMap.2 ⟨y, hy, h⟩)); exact f6 b (by omega) (by omega)
              · have := hdC b (by rw [blC_map]; exact List.mem_flatMap.2 ⟨y, hy, h⟩)
                exact (f9 b (by omega) (by have := hk9.1; omega)).trans (hk9.2 b this.2 (by omega))
            have hzr : ∀ b ∈ z.bl, X < b ∧ b < w11.heap.size := by
              intro b h
              rw [hzb] at h
              have := hk9.1
              rcases List.mem_append.1 h with h | h
              · have := hdab b h; omega
              rcases List.mem_append.1 h with h | h
              · have := hdB b h; omega
              rcases List.mem_append.1 h with h | h
              · have := hdE b h; omega
              rcases List.mem_cons.1 h with h | h
              · omega
              · have := hdC b h; omega
            have hzn : z.bl.Nodup := by
              rw [hzb]
              refine List.nodup_append.2 ⟨hnab, List.nodup_append.2 ⟨hnB, List.nodup_append.2 ⟨hnE, List.nodup_cons.2 ⟨fun h => ?_, hnC⟩, fun p hp q hq => ?_⟩, fun p hp q hq => ?_⟩, fun p hp q hq => ?_⟩
              · have := hdC C h; omega
              · have := hdE p hp
                rcases List.mem_cons.1 hq with hq | hq
                · omega
                · have := hdC q hq; omega
              · have := hdB p hp
                rcases List.mem_append.1 hq with hq | hq
                · have := hdE q hq; omega
                rcases List.mem_cons.1 hq with hq | hq
                · omega
                · have := hdC q hq; omega
              · have := hdab p hp
                rcases List.mem_append.1 hq with hq | hq
                · have := hdB q hq; omega
                rcases List.mem_append.1 hq with hq | hq
                · have := hdE q hq; omega
                rcases List.mem_cons.1 hq with hq | hq
                · omega
                · have := hdC q hq; omega
            have hze : z.er = x.er := by
              rw [hzd, x.er_eq, St.er, hea, heb, heB, heE, heC, List.take_length]
            refine ⟨l' ++ [z], ?_, ?_, ?_, ?_, ?_, ?_, ?_, ?_, BW11.out⟩
            · rw [hll]; go_num
            · rw [hll]; omega
            · rw [hll]
            · rw [hll, List.flatMap_append]
              have h11 := HW11.out
              rw [hzd]
              simpa [St.cells, St.kind, St.name, St.n, St.a, St.b, St.ba, St.bc, St.body, St.ea, St.ec, St.els, St.ca, St.cc, St.cases, hlB, hlE, hlC] using h11
            · intro y hy
              rcases List.mem_append.1 hy with hy | hy
              · refine (hcp y hy).kept fun b h => ?_
                have hb' := hbd b (by rw [blS_map]; exact List.mem_flatMap.2 ⟨y, hy, h⟩)
                exact (hk11 b (by omega) (by omega)).trans ((k210 b (by omega) (by omega)).trans (KO.out b (by omega)))
              · obtain rfl := List.mem_singleton.1 hy
                exact hzc
            · rw [hll, HT.out, ← her, erS_map, erS_map, List.map_append]
              simp only [List.map_cons, List.map_nil]
              rw [hze]
            · rw [hbl, List.nodup_append]
              refine ⟨hnd, hzn, fun p hp q hq => ?_⟩
              have := hbd p hp
              have := hzr q hq
              omega
            · intro b h
              rw [hbl] at h
              rcases List.mem_append.1 h with h | h
              · have := hbd b h; omega
              · have := hzr b h; omega
          case measure => simp [intOf]; omega
    · obtain rfl : j = l.length := by omega
      have HO4 : Hid ((wr.alloc (.cells #[.int .i64 (-77), .string ⟨#[]⟩, .int .i64 0, .int .i64 0, .int .i64 0, .string ⟨#[]⟩, .slice none 0 0, .int .i64 0, .int .i64 0, .string ⟨#[]⟩, .slice none 0 0, .slice none 0 0, .slice none 0 0, .slice none 0 0] 44)).ownsRow G 44 14 (.slice (some ⟨G, 0, none⟩) l.length (l.length + 1)) l.length (l'.flatMap St.cells)) := HO.out.alloc _
      have HN : Hid (∀ i u, senS[i]? = some u → (wr.alloc (.cells #[.int .i64 (-77), .string ⟨#[]⟩, .int .i64 0, .int .i64 0, .int .i64 0, .string ⟨#[]⟩, .slice none 0 0, .int .i64 0, .int .i64 0, .string ⟨#[]⟩, .slice none 0 0, .slice none 0 0, .slice none 0 0, .slice none 0 0] 44)).cell? ((⟨wr.heap.size, 0, none⟩ : Addr).add i) = some u) := World.news_of_block (heap_alloc_new wr _)
      have H1 : Hid (∀ u ∈ senS, u.oneCell' = true) := List.all_eq_true.1 (show senS.all (fun u => u.oneCell') = true from rfl)
      go_wp2_with (at_builtin; refine wpList_append_own_spare _ rfl _ _ 35 rfl G 44 i0 14 Tryd.underlying35 HI.out hz1 G l.length (l.length + 1) (l'.flatMap St.cells) rfl HO4.out ⟨wr.heap.size, 0, none⟩ 1 1 senS rfl rfl HN.out H1.out (by omega) ?_; intro w5 hown5 hgrow5)
      have HO5 : Hid (w5.ownsRow G 44 14 (.slice (some ⟨G, 0, none⟩) (l.length + 1) (l.length + 1)) (l.length + 1) (l'.flatMap St.cells ++ senS)) := hown5
      have hGX : G < wr.heap.size := owns_lt HO.out
      have HK5 : Hid (G < wr.heap.size ∧ wr.heap.size < w5.heap.size ∧ ∀ k, k < wr.heap.size → k ≠ G → w5.heap[k]? = wr.heap[k]?) := by
        refine ⟨hGX, by have := hgrow5.size; simp at this; omega, fun k h1 h3 => ?_⟩
        rw [hgrow5.block k (by simp; omega) (by simpa using h3), Below.heap_alloc _ _ _ h1]
      have BW5 : Hid (Below G w w5) := (BW.out.alloc (by omega) _).grown hgrow5 (by simp; omega) (fun k hk => by simp at hk; omega)
      clear hown5 hgrow5 HO4 HN H1 hGX
      go_wp2_with fail
      go_ret
      obtain ⟨hcp, her, hnd, hbd⟩ := HR.out
      obtain ⟨hgx, hs5, hk5⟩ := HK5.out
      have hw : w.heap.size = G := HG.out
      refine ⟨⟨G, l', rfl, ⟨G, rfl, by rw [HJ.out], by omega, owns_full HO5.out⟩, fun y hy => (hcp y hy).kept fun b hb => ?_, by rw [her, List.take_length], ?_, ?_⟩, by rw [hw]; exact BW5.out⟩
      · have := hbd b (by rw [blS_map]; exact List.mem_flatMap.2 ⟨y, hy, hb⟩)
        exact hk5 b this.2 (by omega)
      · refine List.nodup_cons.2 ⟨fun h => ?_, hnd⟩
        have := hbd _ h; omega
      · intro b hb
        rcases List.mem_cons.1 hb with rfl | hb
        · omega
        · have := hbd b hb; omega
theorem stmtsOf_k (n : Nat) : StOfOk n := by
  induction n with
  | zero => intro l a c w h; omega
  | succ n ih => exact fun l a c w h => stmtsOf_step n ih l a c w (by omega)
theorem stmtsOf_any (l : List St) (a : Option Addr) (c : Nat) (w : World) (hin : Have w a c l) (hf0 : l.length ≤ 1048576) (hf : ∀ x ∈ l, x.Few) : Calls Tryd.prog 22 #[.slice a l.length c] w fun e w' => CpRS w w' l e ∧ Below w.heap.size w w' := stmtsOf_k (ssz l + 1) l a c w (by omega) hin hf0 hf
end Go.Proofs.YtkkcgkpbbngloaaDoor

/- The document's own copies: what is appended out of a list that came in; functions and programs that have blocks of their own. -/
namespace Go.Proofs.YtkkcgkpbbngloaaDoor
open Go.RowKit

theorem run_append_src {P : Program} (w : World) (base : Nat) (t ty e : TypeId) (i : TypeInfo) (size : Nat) (ht : P.underlying t = some (.slice e)) (hi : P.info? e = some i) (hsize : i.size = size)
    (g n cap : Nat) (xs : List Value) (hown : w.ownsRow base e size (.slice (some ⟨g, 0, none⟩) n cap) n xs)
    (a : Option Addr) (m c : Nat) (news : List Value) (hl : news.length = m * size) (hnone : a = none → m = 0) (hnews : ∀ ad, a = some ad → ∀ j u, news[j]? = some u → w.cell? (ad.add j) = some u) (h1 : ∀ u ∈ news, u.oneCell' = true)
    (hroom : n + m ≤ cap) :
    ∃ w', (Builtin.append_ #[t, t] ty #[.slice (some ⟨g, 0, none⟩) n cap, .slice a m c]).run P w = .ok (.slice (some ⟨g, 0, none⟩) (n + m) cap) w' ∧
      w'.ownsRow base e size (.slice (some ⟨g, 0, none⟩) (n + m) cap) (n + m) (xs ++ news) ∧ w.grownBy w' (some g) := by
  cases a with
  | some ad => exact run_append_own_spare w base t ty e i size ht hi hsize g n cap xs hown ad m c news hl (hnews ad rfl) h1 hroom
  | none =>
    obtain rfl := hnone rfl
    have hn0 : news = [] := List.eq_nil_of_length_eq_zero (by simpa using hl)
    subst hn0
    refine ⟨w, ?_, by simpa using hown, ⟨rfl, rfl, rfl, Nat.le_refl _, fun _ _ _ => rfl⟩⟩
    have hroom' : n ≤ cap := by omega
    simp [Builtin.append_, run_underlying ht, sizeOf, typeInfo, hi, Builtin.lenOf, hroom', Builtin.firstCells, storeCells]

theorem wpList_append_src {P : Program} (w : World) {ops : Array Oper} {rest : List Oper} {o : Oper} {a : Act} {Q : Exit → Act → World → Prop} (hgd : o.guard = none) (s x : Operand) (t : TypeId)
    (ho : o.op = .call { callee := .builtin .append, args := #[s, x], argTypes := #[t, t] })
    (base : Nat) (e : TypeId) (i : TypeInfo) (size : Nat) (ht : P.underlying t = some (.slice e)) (hi : P.info? e = some i) (hsize : i.size = size)
    (g n cap : Nat) (xs : List Value) (hs : a.eval s = .slice (some ⟨g, 0, none⟩) n cap) (hown : w.ownsRow base e size (.slice (some ⟨g, 0, none⟩) n cap) n xs)
    (ad : Option Addr) (m c : Nat) (news : List Value) (hx : a.eval x = .slice ad m c) (hl : news.length = m * size) (hnone : ad = none → m = 0) (hnews : ∀ ad', ad = some ad' → ∀ j u, news[j]? = some u → w.cell? (ad'.add j) = some u) (h1 : ∀ u ∈ news, u.oneCell' = true)
    (hroom : n + m ≤ cap)
    (h : ∀ w', w'.ownsRow base e size (.slice (some ⟨g, 0, none⟩) (n + m) cap) (n + m) (xs ++ news) → w.grownBy w' (some g) → wpList P ops Q rest (a.put o.dst (.slice (some ⟨g, 0, none⟩) (n + m) cap)) w') : wpList P ops Q (o :: rest) a w := by
  obtain ⟨w', hr, h2, h3⟩ := run_append_src (P := P) w base t o.type e i size ht hi hsize g n cap xs hown ad m c news hl hnone hnews h1 hroom
  refine wpList_plain hgd fun K hK => ?_
  unfold Oper.wp execOp
  simp only [ho, resolve, invoke, builtin, Sem.run_bind, Sem.run_pure, Result.andThen_ok, List.map_toArray, List.map_cons, List.map_nil, hs, hx, hr]
  exact hK _ _ (h w' h2 h3)

theorem flat_len {α : Type} {f : α → List Value} {k : Nat} (hf : ∀ x, (f x).length = k) (l : List α) : (l.flatMap f).length = l.length * k := by
  induction l with
  | nil => simp
  | cons x r ih => rw [List.flatMap_cons, List.length_append, hf, ih, List.length_cons, Nat.add_mul]; omega
/-- The cells of a list that came in, as what is appended. -/
theorem src_news {W : World} {a : Option Addr} {α : Type} {f : α → List Value} {k : Nat} {l : List α} (h : RowIn W a k (l.map f)) (hf : ∀ x, (f x).length = k) (hk : 0 < k) : ∀ ad, a = some ad → ∀ j u, (l.flatMap f)[j]? = some u → W.cell? (ad.add j) = some u := by
  intro ad e j u hj
  have hjl := (List.getElem?_eq_some_iff.1 hj).1
  rw [flat_len hf] at hjl
  have hq : j / k < l.length := (Nat.div_lt_iff_lt_mul hk).2 hjl
  have hr : j % k < k := Nat.mod_lt _ hk
  have hd : j / k * k + j % k = j := Nat.div_add_mod' j k
  have hat := flatC_at hf [] l (j / k) l[j / k] (j % k) (List.getElem?_eq_getElem hq) hr
  rw [List.append_nil, hd, hj] at hat
  obtain ⟨b, o, e', hc⟩ := h (j / k) (f l[j / k]) (by simp [hq])
  rw [e] at e'
  cases e'
  have := hc (j % k) u hat.symm
  rw [hd] at this
  rw [Addr.add_lit]
  exact this

theorem Tryd.infoI64 : (Tryd.prog.info? 2).map (fun i => (i.zero, i.size, i.bytes)) = some (some (.int .i64 0), 1, 8) := by kernel_rfl
theorem Tryd.infoPa : (Tryd.prog.info? 61).map (fun i => (i.zero, i.size, i.bytes)) = some (some (.agg #[.string ⟨#[]⟩, .int .i64 0, .int .i64 0]), 3, 32) := by kernel_rfl
theorem Tryd.infoFu : (Tryd.prog.info? 37).map (fun i => (i.zero, i.size, i.bytes)) = some (some (.agg #[.string ⟨#[]⟩, .slice none 0 0, .slice none 0 0]), 3, 64) := by kernel_rfl

def cI (z : Int) : List Value := [.int .i64 z]
def Fu.Cp (W : World) (f : Fu) : Prop := f.name.size ≤ 140737488351232 ∧ RowCp W f.pa f.pc f.params.length 32 61 (f.params.flatMap Pa.cells ++ senP) ∧ (∀ p ∈ f.params, p.Ok) ∧ RowCp W f.ba f.bc f.body.length 216 44 (f.body.flatMap St.cells ++ senS) ∧ ∀ x ∈ f.body, x.Cp W
def Pr.Cp (W : World) (p : Pr) : Prop := RowCp W p.wa p.wc p.widen.length 8 2 (p.widen.flatMap cI ++ [.int .i64 (-77)]) ∧ (∀ z ∈ p.widen, I64 z) ∧ RowCp W p.fa p.fc p.funcs.length 64 37 (p.funcs.flatMap Fu.cells ++ senF) ∧ ∀ f ∈ p.funcs, f.Cp W
theorem Fu.Cp.in {W : World} {f : Fu} (h : f.Cp W) : f.In W := by
  obtain ⟨h1, h2, h3, h4, h5⟩ := h
  have r1 := h2.row (k := 3) (fun x => rfl)
  have r2 := h4.row (k := 14) (fun x => rfl)
  obtain ⟨g, e, e1, e2, _⟩ := h2
  obtain ⟨g', e', e1', e2', _⟩ := h4
  exact ⟨h1, by omega, e2, fun h => (by rw [e] at h; cases h), r1, h3, ⟨by omega, e2', fun h => (by rw [e'] at h; cases h), r2⟩, fun x hx => (h5 x hx).in⟩
theorem Pr.Cp.in {W : World} {p : Pr} (h : p.Cp W) : p.In W := by
  obtain ⟨h1, h2, h3, h4⟩ := h
  have r1 := h1.row (k := 1) (fun x => rfl)
  have r2 := h3.row (k := 3) (fun x => rfl)
  obtain ⟨g, e, e1, e2, _⟩ := h1
  obtain ⟨g', e', e1', e2', _⟩ := h3
  exact ⟨by omega, e2, fun h => (by rw [e] at h; cases h), r1, h2, by omega, e2', fun h => (by rw [e'] at h; cases h), r2, fun f hf => (h4 f hf).in⟩
theorem Fu.Cp.kept {W W' : World} {f : Fu} (h : f.Cp W) (hb : ∀ b ∈ f.bl, W'.heap[b]? = W.heap[b]?) : f.Cp W' := by
  obtain ⟨h1, h2, h3, h4, h5⟩ := h
  unfold Fu.bl at hb
  refine ⟨h1, h2.keep (hb _ (by simp)), h3, h4.keep (hb _ (by simp)), fun x hx => (h5 x hx).kept fun b h => hb b ?_⟩
  have : b ∈ blS f.body := by rw [blS_map]; exact List.mem_flatMap.2 ⟨x, hx, h⟩
  simp [this]

def Fu.Few (f : Fu) : Prop := f.params.length ≤ 1048576 ∧ f.body.length ≤ 1048576 ∧ ∀ x ∈ f.body, x.Few
def Pr.Few (p : Pr) : Prop := p.widen.length ≤ 1048576 ∧ p.funcs.length ≤ 1048576 ∧ ∀ f ∈ p.funcs, f.Few
theorem Kp.srcgrown {X : Nat} {A B C : World} (h : Kp X A B) (hg : B.grownBy C (some X)) : Kp X A C := h.grown hg
end Go.Proofs.YtkkcgkpbbngloaaDoor

/- The document's own bound on parts: what it answers, and what follows of it. -/
namespace Go.Proofs.YtkkcgkpbbngloaaDoor
open Go.RowKit

def bigF : List Fu → Int → Int
  | [], left => left
  | f :: r, left => if 0 ≤ left then bigF r (if 0 ≤ left - (1 + f.params.length) then left - (1 + f.params.length) - rSs f.body (left - (1 + f.params.length)) 0 else left - (1 + f.params.length)) else left
def bigZ (p : Pr) : Bool := decide (bigF p.funcs 1048576 < 0) || decide ((1048576 : Int) < p.widen.length)
theorem bigF_drop {l : List Fu} {j : Nat} {left : Int} (h : j < l.length) : bigF (l.drop j) left = if 0 ≤ left then bigF (l.drop (j + 1)) (if 0 ≤ left - (1 + l[j].params.length) then left - (1 + l[j].params.length) - rSs l[j].body (left - (1 + l[j].params.length)) 0 else left - (1 + l[j].params.length)) else left := by
  rw [List.drop_eq_getElem_cons h, bigF]

theorem fewE_of (k : Nat) : ∀ (l : List Ex) (left n : Int), szL l ≤ k → 0 ≤ n → left ≤ 1048576 → rL l left n ≤ left → n + l.length ≤ left ∧ ∀ x ∈ l, x.Few := by
  induction k with
  | zero =>
    intro l left n hk h0 h1 h2
    cases l with
    | nil => rw [rL] at h2; simp; omega
    | cons x r => rw [szL] at hk; have := x.sz_args; omega
  | succ k ih =>
    intro l
    induction l with
    | nil => intro left n hk h0 h1 h2; rw [rL] at h2; simp; omega
    | cons x r ihr =>
      intro left n hk h0 h1 h2
      rw [szL] at hk
      have hn := (rL_bd (x :: r) left n).1
      rw [rL, if_pos (by omega)] at h2
      have hb := rE_bd x (left - n - 1)
      have hm := (rL_bd r left (n + (1 + rE x (left - n - 1)))).1
      obtain ⟨a1, a2⟩ := ihr left (n + (1 + rE x (left - n - 1))) (by omega) (by omega) h1 h2
      have hx : rL x.args (left - n - 1) 0 ≤ left - n - 1 := by rw [← rE_args]; omega
      obtain ⟨b1, b2⟩ := ih x.args (left - n - 1) 0 (by have := x.sz_args; omega) (by omega) (by omega) hx
      refine ⟨by simp only [List.length_cons]; omega, fun y hy => ?_⟩
      rcases List.mem_cons.1 hy with rfl | hy
      · exact Ex.few_iff.2 ⟨by omega, b2⟩
      · exact a2 y hy
theorem zeroE_args {x : Ex} (h : zeroE x = true) : x.args = [] := by
  obtain ⟨kd, n, s, a, c, l⟩ := x
  cases l with
  | nil => rfl
  | cons y r => simp [zeroE, Ex.args] at h
theorem fewZ_of {x : Ex} {left n : Int} (h0 : 0 ≤ n) (h1 : left ≤ 1048576) (h2 : rZ x left n ≤ left) : x.Few := by
  cases hz : zeroE x with
  | true => rw [Ex.few_iff, zeroE_args hz]; simp
  | false =>
    rw [rZ_f hz] at h2
    obtain ⟨b1, b2⟩ := fewE_of _ x.args (left - n - 1) 0 (Nat.le_refl _) (by omega) (by omega) (by omega)
    exact Ex.few_iff.2 ⟨by omega, b2⟩
theorem rCs_ge : ∀ (l : List Ca) (left n : Int), n ≤ rCs l left n
  | [], _, _ => by rw [rCs]; omega
  | c :: r, left, n => by
    rw [rCs]
    split
    · have := rCs_ge r left (n + (1 + rC c (left - n - 1)))
      have := rC_bd c (left - n - 1)
      omega
    · omega
theorem fewS_of (k : Nat) : ∀ (l : List St) (left n : Int), ssz l ≤ k → 0 ≤ n → left ≤ 1048576 → rSs l left n ≤ left → n + l.length ≤ left ∧ ∀ x ∈ l, x.Few := by
  induction k with
  | zero =>
    intro l left n hk h0 h1 h2
    cases l with
    | nil => rw [rSs] at h2; simp; omega
    | cons x r => rw [ssz] at hk; have := x.sz_eq; omega
  | succ k ih =>
    have hC : ∀ (l : List Ca) (left n : Int), csz l ≤ k → 0 ≤ n → left ≤ 1048576 → rCs l left n ≤ left → n + l.length ≤ left ∧ ∀ x ∈ l, x.Few := fun l => by
      induction l with
      | nil => intro left n hk h0 h1 h2; rw [rCs] at h2; simp; omega
      | cons c r ihr =>
        intro left n hk h0 h1 h2
        rw [csz] at hk
        by_cases hn : n ≤ left
        · rw [rCs, if_pos hn] at h2
          have hb := rC_bd c (left - n - 1)
          have hm : n + (1 + rC c (left - n - 1)) ≤ rCs r left (n + (1 + rC c (left - n - 1))) := rCs_ge r left _
          obtain ⟨a1, a2⟩ := ihr left (n + (1 + rC c (left - n - 1))) (by omega) (by omega) h1 h2
          have hx : rSs c.body (left - n - 1) 0 ≤ left - n - 1 := by rw [← rC_eq]; omega
          obtain ⟨b1, b2⟩ := ih c.body (left - n - 1) 0 (by have := c.sz_eq; omega) (by omega) (by omega) hx
          refine ⟨by simp only [List.length_cons]; omega, fun y hy => ?_⟩
          rcases List.mem_cons.1 hy with rfl | hy
          · exact Ca.few_iff.2 ⟨by omega, b2⟩
          · exact a2 y hy
        · rw [rCs, if_neg hn] at h2; omega
    intro l
    induction l with
    | nil => intro left n hk h0 h1 h2; rw [rSs] at h2; simp; omega
    | cons s r ihr =>
      intro left n hk h0 h1 h2
      rw [ssz] at hk
      have hn := (rSs_bd (s :: r) left n).1
      have hnl : n ≤ left := by omega
      rw [rSs, if_pos hnl] at h2
      have hm := (rSs_bd r left (rS s left n)).1
      have hge := rS_bd s left n (by omega)
      obtain ⟨a1, a2⟩ := ihr left (rS s left n) (by omega) (by omega) h1 h2
      have hs : rS s left n ≤ left := by omega
      rw [rS_eq] at hs
      have e1 := rZ_bd s.a left (n + 1)
      have e2 := rZ_bd s.b left (rZ s.a left (n + 1))
      have e3 := rB_bd s.body left (rZ s.b left (rZ s.a left (n + 1)))
      have e4 := rCs_ge s.cases left (rB s.body left (rZ s.b left (rZ s.a left (n + 1))))
      have e5 := rB_bd s.els left (rCs s.cases left (rB s.body left (rZ s.b left (rZ s.a left (n + 1)))))
      have hz := s.sz_eq
      have f1 := fewZ_of (x := s.a) (left := left) (n := n + 1) (by omega) h1 (by omega)
      have f2 := fewZ_of (x := s.b) (left := left) (n := rZ s.a left (n + 1)) (by omega) h1 (by omega)
      obtain ⟨g1, g2⟩ := ih s.body (left - rZ s.b left (rZ s.a left (n + 1))) 0 (by omega) (by omega) (by omega) (by unfold rB at *; omega)
      obtain ⟨h3, h4⟩ := hC s.cases left (rB s.body left (rZ s.b left (rZ s.a left (n + 1)))) (by omega) (by omega) h1 (by omega)
      obtain ⟨i1, i2⟩ := ih s.els (left - rCs s.cases left (rB s.body left (rZ s.b left (rZ s.a left (n + 1))))) 0 (by omega) (by omega) (by omega) (by
        have : rB s.els left (rCs s.cases left (rB s.body left (rZ s.b left (rZ s.a left (n + 1))))) = rCs s.cases left (rB s.body left (rZ s.b left (rZ s.a left (n + 1)))) + rSs s.els (left - rCs s.cases left (rB s.body left (rZ s.b left (rZ s.a left (n + 1))))) 0 := rfl
        omega)
      refine ⟨by simp only [List.length_cons]; omega, fun y hy => ?_⟩
      rcases List.mem_cons.1 hy with rfl | hy
      · exact St.few_iff.2 ⟨f1, f2, by omega, g2, by omega, i2, by omega, h4⟩
      · exact a2 y hy
theorem bigF_few : ∀ (l : List Fu) (left : Int), left ≤ 1048576 → 0 ≤ bigF l left → l.length ≤ left ∧ ∀ f ∈ l, f.Few
  | [], left, _, h => by rw [bigF] at h; simp; omega
  | f :: r, left, h1, h => by
    have hle : ∀ (l : List Fu) (left : Int), bigF l left ≤ left := fun l => by
      induction l with
      | nil => intro left; rw [bigF]; omega
      | cons f r ih =>
        intro left
        rw [bigF]
        split
        · refine Int.le_trans (ih _) ?_
          have := rSs_bd f.body (left - (1 + f.params.length)) 0
          split <;> omega
        · omega
    have h0 := hle (f :: r) left
    rw [bigF, if_pos (by omega)] at h
    have h2 := hle r (if 0 ≤ left - (1 + f.params.length) then left - (1 + f.params.length) - rSs f.body (left - (1 + f.params.length)) 0 else left - (1 + f.params.length))
    by_cases h3 : 0 ≤ left - (1 + f.params.length)
    · rw [if_pos h3] at h h2
      have hb := rSs_bd f.body (left - (1 + f.params.length)) 0
      obtain ⟨a1, a2⟩ := bigF_few r _ (by omega) h
      obtain ⟨b1, b2⟩ := fewS_of _ f.body (left - (1 + f.params.length)) 0 (Nat.le_refl _) (by omega) (by omega) (by omega)
      refine ⟨by simp only [List.length_cons]; omega, fun y hy => ?_⟩
      rcases List.mem_cons.1 hy with rfl | hy
      · exact ⟨by omega, by omega, b2⟩
      · exact a2 y hy
    · rw [if_neg h3] at h h2
      omega
theorem few_of_big {p : Pr} (h : bigZ p = false) : p.Few := by
  simp only [bigZ, Bool.or_eq_false_iff, decide_eq_false_iff_not] at h
  obtain ⟨a1, a2⟩ := bigF_few p.funcs 1048576 (by omega) (by omega)
  exact ⟨by omega, by omega, a2⟩

set_option maxRecDepth 100000 in
set_option maxHeartbeats 4000000 in
theorem big_any (p : Pr) (w : World) (hin : p.In w) : Calls Tryd.prog 15 #[p.val] w fun e w' => e = .returned (.bool (bigZ p)) ∧ Below w.heap.size w w' := by
  obtain ⟨h1, h2, h3, h4, h5, h6, h7, h8, hrow, hsub⟩ := hin
  have HR : Hid (RowIn w p.fa 3 (List.map Fu.cells p.funcs)) := hrow
  have HS : Hid (∀ f ∈ p.funcs, f.In w) := hsub
  clear hrow hsub h3 h4 h5 h8
  have HZ : Hid (bigZ p = (decide (bigF p.funcs 1048576 < 0) || decide ((1048576 : Int) < p.widen.length))) := (rfl : bigZ p = _)
  generalize bigZ p = res at HZ ⊢
  unfold Pr.val
  obtain ⟨W1, hW1⟩ : ∃ W1, w.alloc (.cells #[.slice p.wa p.widen.length p.wc, .slice p.fa p.funcs.length p.fc] 26) = W1 := ⟨_, rfl⟩
  have HW1 := show Hid _ from hW1
  have hb1 : Below w.heap.size w W1 := by rw [← hW1]; exact (Below.refl _ w).alloc (Nat.le_refl _) _
  have hc : ∀ (j : Nat) v, (#[.slice p.wa p.widen.length p.wc, .slice p.fa p.funcs.length p.fc] : Array Value)[j]? = some v → ∀ w', Below W1.heap.size W1 w' → w'.cell? ⟨w.heap.size, j, none⟩ = some v := fun j v e w' h => by
    refine (h.cell (p := ⟨w.heap.size, j, none⟩) (by rw [← hW1]; simp)).trans ?_
    rw [← hW1, World.cell?_alloc_at _ _ _ _ rfl]; exact e
  have CX := show Hid _ from hc 1 _ rfl
  have CW := show Hid _ from hc 0 _ rfl
  clear hW1 hc
  go_enter Tryd.func15, Tryd.ntmps15
  go_wp2_with fail
  rw [HW1.out]
  clear HW1
  obtain ⟨Z, hZ⟩ : ∃ Z, w.heap.size = Z := ⟨_, rfl⟩
  have HW : Hid (w.heap.size = Z) := hZ
  rw [hZ] at CX CW ⊢
  clear hZ
  go_loopw [3, 4] (fun t3 t4 wr => ∃ (j : Nat) (m : Int), j ≤ p.funcs.length ∧ t3 = .int .i64 m ∧ t4 = .int .i64 j ∧ -9223372036854775000 ≤ m ∧ m ≤ 1048576 ∧ bigF (p.funcs.drop j) m = bigF p.funcs 1048576 ∧ Below W1.heap.size W1 wr) (fun _ t4 _ => p.funcs.length - (intOf t4).toNat)
  case atStart => exact ⟨0, 1048576, Nat.zero_le _, rfl, rfl, by omega, by omega, by simp, Below.refl _ _⟩
  case round =>
    obtain ⟨j, m, hj, rfl, rfl, hm0, hm1, hcnt, hb⟩ := hrel
    have HC : Hid (bigF (p.funcs.drop j) m = bigF p.funcs 1048576) := hcnt
    clear hcnt
    have hws := hb.size
    have hbw : Below w.heap.size w wr := hb1.trans (hb.mono hb1.size)
    have c1 := CX.out _ hb
    have cw := CW.out _ hb
    by_cases hlt : j < p.funcs.length
    · have hli : (j : Int) < (p.funcs.length : Int) := by omega
      have HD : Hid (bigF (p.funcs.drop j) m = if 0 ≤ m then bigF (p.funcs.drop (j + 1)) (if 0 ≤ m - (1 + p.funcs[j].params.length) then m - (1 + p.funcs[j].params.length) - rSs p.funcs[j].body (m - (1 + p.funcs[j].params.length)) 0 else m - (1 + p.funcs[j].params.length)) else m) := bigF_drop hlt
      by_cases hm : 0 ≤ m
      · obtain ⟨b, o, hfa, d0, d1, d2⟩ := rowF_at (HR.out.below hbw) hlt
        rw [hfa] at c1
        clear hfa
        have hfi := HS.out p.funcs[j] (List.getElem_mem hlt)
        have hp1 := hfi.2.1
        have hp2 := hfi.2.2.1
        have HH : Hid (Have wr p.funcs[j].ba p.funcs[j].bc p.funcs[j].body) := hfi.2.2.2.2.2.2.stay hbw
        rw [if_pos hm] at HD
        clear hfi
        generalize p.funcs[j] = f at *
        by_cases hq : 0 ≤ m - (1 + (f.params.length : Int))
        · rw [if_pos hq] at HD
          have hbd := rSs_bd f.body (m - (1 + f.params.length)) 0
          go_wp2_with fail
          refine (rstmts_any f.body f.ba f.bc (m - (1 + f.params.length)) _ HH.out (by omega) (by omega)).mono ?_
          generalize rSs f.body (m - (1 + f.params.length)) 0 = q at hbd HD ⊢
          rintro e w' ⟨rfl, hb'⟩
          have hb2 := hb.trans (hb'.mono hws)
          clear c1 d0 d1 d2 cw
          go_wp2_with fail
          go_roundw
          case rel =>
            refine ⟨j + 1, m - (1 + f.params.length) - q, by omega, by go_num, by go_num, by omega, by omega, ?_, hb2⟩
            rw [← HC.out, HD.out]
          case measure => simp [intOf]; omega
        · rw [if_neg hq] at HD
          clear cw
          go_wp2_with fail
          go_roundw
          case rel =>
            refine ⟨j + 1, m - (1 + f.params.length), by omega, by go_num, by go_num, by omega, by omega, ?_, hb⟩
            rw [← HC.out, HD.out]
          case measure => simp [intOf]; omega
      · rw [if_neg hm] at HD
        have he : res = true := by rw [HZ.out, ← HC.out, HD.out, decide_eq_true (by omega)]; rfl
        clear HZ
        subst he
        go_wp2_with fail
        go_ret
        exact ⟨rfl, hbw⟩
    · obtain rfl : j = p.funcs.length := by omega
      have he : bigF p.funcs 1048576 = m := by rw [← HC.out, List.drop_eq_nil_of_le (Nat.le_refl _), bigF]
      rw [he] at HZ
      clear he HC
      by_cases hm : m < 0
      · have he : res = true := by rw [HZ.out, decide_eq_true hm]; rfl
        clear HZ
        subst he
        go_wp2_with fail
        go_ret
        exact ⟨rfl, hbw⟩
      · have he : res = decide ((1048576 : Int) < p.widen.length) := by rw [HZ.out, decide_eq_false hm]; rfl
        clear HZ
        subst he
        go_wp2_with fail
        go_ret
        exact ⟨by simp, hbw⟩
end Go.Proofs.YtkkcgkpbbngloaaDoor

/- The document's own answer whether two lists of cases, of statements are the same: cases; and where two statements are looked at. -/
namespace Go.Proofs.YtkkcgkpbbngloaaDoor
open Go.RowKit Go.Sort

set_option maxRecDepth 100000 in
set_option maxHeartbeats 8000000 in
theorem rsamC_step (n : Nat) (ih : ∀ (l t : List St) (a a' : Option Addr) (c c' : Nat) (w : World), ssz l < n → Have w a c l → Have w a' c' t →
      Calls Tryd.prog 26 #[.slice a l.length c, .slice a' t.length c'] w fun e w' => e = .returned (.bool (samSs l t)) ∧ Below w.heap.size w w')
    (l t : List Ca) (a a' : Option Addr) (c c' : Nat) (w : World) (hk : csz l ≤ n) (hin : HaveC w a c l) (hin' : HaveC w a' c' t) :
    Calls Tryd.prog 41 #[.slice a l.length c, .slice a' t.length c'] w fun e w' => e = .returned (.bool (samCs l t)) ∧ Below w.heap.size w w' := by
  have IH : Hid (∀ (l t : List St) (a a' : Option Addr) (c c' : Nat) (w : World), ssz l < n → Have w a c l → Have w a' c' t →
      Calls Tryd.prog 26 #[.slice a l.length c, .slice a' t.length c'] w fun e w' => e = .returned (.bool (samSs l t)) ∧ Below w.heap.size w w') := ih
  have HA : Hid (HaveC w a c l) := hin
  have HB : Hid (HaveC w a' c' t) := hin'
  have hl := hin.1.1
  have hc := hin.1.2.1
  have hl' := hin'.1.1
  have hc' := hin'.1.2.1
  have HK : Hid (csz l ≤ n) := hk
  clear ih hin hin' hk
  by_cases hle : l.length = t.length
  · have HL : Hid (l.length = t.length) := hle
    rw [← hle] at hl' ⊢
    clear hle
    go_enter Tryd.func41, Tryd.ntmps41
    go_wp2_with fail
    go_loopw [5] (fun t5 wr => ∃ (j : Nat), j ≤ l.length ∧ t5 = .int .i64 j ∧ samCs (l.drop j) (t.drop j) = samCs l t ∧ Below w.heap.size w wr) (fun t5 _ => l.length - (intOf t5).toNat)
    case atStart => exact ⟨0, Nat.zero_le _, rfl, rfl, Below.refl _ w⟩
    case round =>
      obtain ⟨j, hj, rfl, hcnt, hb⟩ := hrel
      have HC : Hid (samCs (l.drop j) (t.drop j) = samCs l t) := hcnt
      clear hcnt
      have hws := hb.size
      by_cases hlt : j < l.length
      · have hlt' : j < t.length := by have := HL.out; omega
        obtain ⟨b, o, rfl, hc1⟩ := rowC_cells (HA.out.1.2.2.2.below hb) hlt
        obtain ⟨b', o', rfl, hc2⟩ := rowC_cells (HB.out.1.2.2.2.below hb) hlt'
        have k0 := hc1 0 _ rfl
        have m0 := hc2 0 _ rfl
        have k1 := hc1 1 _ rfl
        have m1 := hc2 1 _ rfl
        simp only [← Nat.add_assoc, Nat.add_zero] at k0 m0 k1 m1
        clear hc1 hc2
        have hli : (j : Int) < (l.length : Int) := by omega
        have HQ : Hid (∀ w', Below wr.heap.size wr w' → Calls Tryd.prog 26 #[.slice l[j].ba l[j].body.length l[j].bc, .slice t[j].ba t[j].body.length t[j].bc] w' fun e w'' => e = .returned (.bool (samSs l[j].body t[j].body)) ∧ Below w'.heap.size w' w'') := fun w' h => by
          have hbw : Below w.heap.size w w' := hb.trans (h.mono hws)
          have h1 := csz_mem (List.getElem_mem hlt)
          have h2 := (l[j]).sz_eq
          have h3 := HK.out
          exact IH.out _ _ _ _ _ _ w' (by omega) (Ca.in_iff.1 ((HA.out.2 l[j] (List.getElem_mem hlt)).stay hbw)).2 (Ca.in_iff.1 ((HB.out.2 t[j] (List.getElem_mem hlt')).stay hbw)).2
        have HD : Hid (samCs (l.drop j) (t.drop j) = ((l[j].n == t[j].n && samSs l[j].body t[j].body) && samCs (l.drop (j + 1)) (t.drop (j + 1)))) := by
          show _ = _; rw [samCs_drop hlt hlt', samC_eq]
        generalize l[j] = x at *
        generalize t[j] = y at *
        generalize samSs x.body y.body = sub at *
        have c0 := cell_regrown k0
        have d0 := cell_regrown m0
        have c1 := cell_regrown k1
        have d1 := cell_regrown m1
        clear k0 k1 m0 m1 hlt'
        have hu : undef = Value.tuple #[] := rfl
        cases e1 : (x.n == y.n)
        · have e1' : (x.n != y.n) = true := by simp [bne, e1]
          rw [e1] at HD
          go_wp2_with fail
          refine wp_region_quiet_below (by kernel_rfl) (by kernel_rfl) ?_
          repeat (go_big_quiet_step (fail))
          refine wpQuiet_nil ?_
          intro _ hw'
          obtain ⟨⟨dq, osq⟩, hw''⟩ := hw'
          subst hw''
          have hbq := below_regrown wr dq osq
          clear c0 c1 d0 d1
          go_wp2_with fail
          go_ret
          exact ⟨ret_bool (by rw [← HC.out, HD.out]; rfl), hb.trans (hbq.mono hws)⟩
        · have e1' : (x.n != y.n) = false := by simp [bne, e1]
          rw [e1] at HD
          go_wp2_with fail
          refine wp_region_quiet_below (by kernel_rfl) (by kernel_rfl) ?_
          repeat (go_big_quiet_step ((go_at_call 26; exact Calls.regrown_of (HQ.out _ (below_regrown _ _ _)))))
          refine wpQuiet_nil ?_
          intro _ hw'
          obtain ⟨⟨dq, osq⟩, hw''⟩ := hw'
          subst hw''
          have hbq := below_regrown wr dq osq
          clear c0 c1 d0 d1
          generalize grow (redrawn wr dq) osq = W3 at *
          cases sub
          · go_wp2_with fail
            go_ret
            exact ⟨ret_bool (by rw [← HC.out, HD.out]; rfl), hb.trans (hbq.mono hws)⟩
          · go_wp2_with fail
            go_roundw
            case rel => exact ⟨j + 1, by omega, by go_num, by rw [← HC.out, HD.out]; rfl, hb.trans (hbq.mono hws)⟩
            case measure => simp [intOf]; omega
      · go_wp2_with fail
        go_ret
        refine ⟨ret_bool ?_, hb⟩
        rw [← HC.out, List.drop_eq_nil_of_le (by omega), List.drop_eq_nil_of_le (by have := HL.out; omega)]; simp [samCs]
  · have hne : ((l.length : Int) != (t.length : Int)) = true := by simp only [bne_iff_ne]; omega
    go_enter Tryd.func41, Tryd.ntmps41
    go_wp2_with fail
    go_ret
    exact ⟨ret_bool (by rw [samCs_len hle]), Below.refl _ w⟩
end Go.Proofs.YtkkcgkpbbngloaaDoor

/- The document's own answer whether two programs are the same. -/
namespace Go.Proofs.YtkkcgkpbbngloaaDoor
open Go.RowKit Go.Sort
attribute [local go_sem ↓] Go.wp_at_zero Go.wp_at_succ

theorem rsamS_k (n : Nat) : ∀ (l t : List St) (a a' : Option Addr) (c c' : Nat) (w : World), ssz l < n → Have w a c l → Have w a' c' t →
    Calls Tryd.prog 26 #[.slice a l.length c, .slice a' t.length c'] w fun e w' => e = .returned (.bool (samSs l t)) ∧ Below w.heap.size w w' := by
  induction n with
  | zero => intro l t a a' c c' w h; omega
  | succ n ih => exact fun l t a a' c c' w h h1 h2 => rsamS_step n ih (fun l t a a' c c' w h h1 h2 => rsamC_step n ih l t a a' c c' w h h1 h2) l t a a' c c' w (by omega) h1 h2
theorem rsamS_any (l t : List St) (a a' : Option Addr) (c c' : Nat) (w : World) (h1 : Have w a c l) (h2 : Have w a' c' t) :
    Calls Tryd.prog 26 #[.slice a l.length c, .slice a' t.length c'] w fun e w' => e = .returned (.bool (samSs l t)) ∧ Below w.heap.size w w' := rsamS_k (ssz l + 1) l t a a' c c' w (by omega) h1 h2

set_option maxRecDepth 100000 in
set_option maxHeartbeats 8000000 in
theorem rsame_any (p q : Pr) (w : World) (hx : p.In w) (hy : q.In w) : Calls Tryd.prog 16 #[p.val, q.val] w fun e w' => e = .returned (.bool (samPr p q)) ∧ Below w.heap.size w w' := by
  have XP : Hid (∀ w', Below w.heap.size w w' → p.In w') := fun w' h => hx.stay h
  have XQ : Hid (∀ w', Below w.heap.size w w' → q.In w') := fun w' h => hy.stay h
  have q1 := hx.thr.1
  have q2 := hx.thr.2.1
  have q3 := hx.haveF.1.1
  have q4 := hx.haveF.1.2.1
  have q5 := hy.thr.1
  have q6 := hy.thr.2.1
  have q7 := hy.haveF.1.1
  have q8 := hy.haveF.1.2.1
  have HE : Hid (samPr p q = (samI p.widen q.widen && samFs p.funcs q.funcs)) := (rfl : samPr p q = _)
  clear hx hy
  generalize samPr p q = res at HE ⊢
  unfold Pr.val
  have hb1 : Below w.heap.size w ((w.alloc (.cells #[.slice p.wa p.widen.length p.wc, .slice p.fa p.funcs.length p.fc] 26)).alloc (.cells #[.slice q.wa q.widen.length q.wc, .slice q.fa q.funcs.length q.fc] 26)) := Below.one (Below.one (Below.refl _ _) _) _
  by_cases hle : p.widen.length = q.widen.length
  · by_cases hlf : p.funcs.length = q.funcs.length
    · have HL : Hid (p.widen.length = q.widen.length) := hle
      have HF : Hid (p.funcs.length = q.funcs.length) := hlf
      rw [← hle] at q5 hb1 ⊢
      rw [← hlf] at q7 hb1 ⊢
      clear hle hlf
      obtain ⟨W1, hW1⟩ : ∃ W1, (w.alloc (.cells #[.slice p.wa p.widen.length p.wc, .slice p.fa p.funcs.length p.fc] 26)).alloc (.cells #[.slice q.wa p.widen.length q.wc, .slice q.fa p.funcs.length q.fc] 26) = W1 := ⟨_, rfl⟩
      have HC2 := fun w' (h : Below ((w.alloc (.cells #[.slice p.wa p.widen.length p.wc, .slice p.fa p.funcs.length p.fc] 26)).alloc (.cells #[.slice q.wa p.widen.length q.wc, .slice q.fa p.funcs.length q.fc] 26)).heap.size ((w.alloc (.cells #[.slice p.wa p.widen.length p.wc, .slice p.fa p.funcs.length p.fc] 26)).alloc (.cells #[.slice q.wa p.widen.length q.wc, .slice q.fa p.funcs.length q.fc] 26)) w') => two_cells h
      have HW1 := show Hid _ from hW1
      rw [hW1] at hb1 HC2
      clear hW1
      obtain ⟨Z, hZ⟩ : ∃ Z, w.heap.size = Z := ⟨_, rfl⟩
      have P0 : Hid (∀ w', Below W1.heap.size W1 w' → w'.cell? ⟨Z, 0, none⟩ = some (.slice p.wa p.widen.length p.wc)) := fun w' h => hZ ▸ (HC2 w' h).1 0 _ rfl
      have P1 : Hid (∀ w', Below W1.heap.size W1 w' → w'.cell? ⟨Z, 1, none⟩ = some (.slice p.fa p.funcs.length p.fc)) := fun w' h => hZ ▸ (HC2 w' h).1 1 _ rfl
      have Q0 : Hid (∀ w', Below W1.heap.size W1 w' → w'.cell? ⟨Z + 1, 0, none⟩ = some (.slice q.wa p.widen.length q.wc)) := fun w' h => hZ ▸ (HC2 w' h).2.1 0 _ rfl
      have Q1 : Hid (∀ w', Below W1.heap.size W1 w' → w'.cell? ⟨Z + 1, 1, none⟩ = some (.slice q.fa p.funcs.length q.fc)) := fun w' h => hZ ▸ (HC2 w' h).2.1 1 _ rfl
      have HZ := show Hid _ from hZ
      clear HC2 hZ
      go_enter Tryd.func16, Tryd.ntmps16
      go_wp2_with fail
      rw [HW1.out, HZ.out]
      clear HW1
      go_loopw [5] (fun t5 wr => ∃ (j : Nat), j ≤ p.widen.length ∧ t5 = .int .i64 j ∧ samI (p.widen.drop j) (q.widen.drop j) = samI p.widen q.widen ∧ Below W1.heap.size W1 wr) (fun t5 _ => p.widen.length - (intOf t5).toNat)
      case atStart => exact ⟨0, Nat.zero_le _, rfl, rfl, Below.refl _ _⟩
      case round =>
        obtain ⟨j, hj, rfl, hcnt, hb⟩ := hrel
        have HC : Hid (samI (p.widen.drop j) (q.widen.drop j) = samI p.widen q.widen) := hcnt
        clear hcnt
        have hbw : Below w.heap.size w wr := Below.on hb1 hb
        have p0 := P0.out _ hb
        have q0 := Q0.out _ hb
        by_cases hlt : j < p.widen.length
        · have hlt' : j < q.widen.length := by have := HL.out; omega
          obtain ⟨b, o, ea, c0⟩ := rowW_at (XP.out _ hbw).thr.2.2 hlt
          obtain ⟨b', o', ea', d0⟩ := rowW_at (XQ.out _ hbw).thr.2.2 hlt'
          rw [ea] at p0
          rw [ea'] at q0
          clear ea ea'
          have hli : (j : Int) < (p.widen.length : Int) := by omega
          have HD : Hid (samI (p.widen.drop j) (q.widen.drop j) = (p.widen[j] == q.widen[j] && samI (p.widen.drop (j + 1)) (q.widen.drop (j + 1)))) := samI_drop hlt hlt'
          generalize p.widen[j] = x at *
          generalize q.widen[j] = y at *
          clear hlt'
          go_wp2_with fail
          go_quiet (fail)
          cases ev : (x == y)
          · have ev' : (x != y) = true := by simp [bne, ev]
            rw [ev] at HD
            go_wp2_with fail
            go_ret
            exact ⟨ret_bool (by rw [HE.out, ← HC.out, HD.out]; rfl), hbw.drewN _⟩
          · have ev' : (x != y) = false := by simp [bne, ev]
            rw [ev] at HD
            clear p0 q0 c0 d0
            go_wp2_with fail
            go_roundw
            case rel => exact ⟨j + 1, by omega, by go_num, by rw [← HC.out, HD.out]; rfl, hb.drewN _⟩
            case measure => simp [intOf]; omega
        · have HI : Hid (samI p.widen q.widen = true) := by
            show _ = _
            rw [← HC.out, List.drop_eq_nil_of_le (by omega), List.drop_eq_nil_of_le (by have := HL.out; omega)]; rfl
          clear HC
          obtain rfl : j = p.widen.length := by omega
          clear q0 hj hlt
          go_wp2_with fail
          clear p0
          go_loopw [6] (fun t6 wr => ∃ (i : Nat), i ≤ p.funcs.length ∧ t6 = .int .i64 i ∧ samFs (p.funcs.drop i) (q.funcs.drop i) = samFs p.funcs q.funcs ∧ Below W1.heap.size W1 wr) (fun t6 _ => p.funcs.length - (intOf t6).toNat)
          case atStart => exact ⟨0, Nat.zero_le _, rfl, rfl, hb⟩
          case round =>
            clear hb hbw
            obtain ⟨i, hi, rfl, hcnt, hb⟩ := hrel
            have HC : Hid (samFs (p.funcs.drop i) (q.funcs.drop i) = samFs p.funcs q.funcs) := hcnt
            clear hcnt
            have hbw : Below w.heap.size w wr := Below.on hb1 hb
            have p1 := P1.out _ hb
            by_cases hlt : i < p.funcs.length
            · have hlt' : i < q.funcs.length := by have := HF.out; omega
              obtain ⟨b, o, ea, hc1⟩ := rowF_cells (XP.out _ hbw).haveF.1.2.2 hlt
              obtain ⟨b', o', ea', hc2⟩ := rowF_cells (XQ.out _ hbw).haveF.1.2.2 hlt'
              have hli : (i : Int) < (p.funcs.length : Int) := by omega
              have hli0 : (0 : Int) ≤ (i : Int) := by omega
              have XI : Hid (∀ w', Below w.heap.size w w' → p.funcs[i].In w') := fun w' h => (XP.out w' h).haveF.2 p.funcs[i] (List.getElem_mem hlt)
              have YI : Hid (∀ w', Below w.heap.size w w' → q.funcs[i].In w') := fun w' h => (XQ.out w' h).haveF.2 q.funcs[i] (List.getElem_mem hlt')
              have HD : Hid (samFs (p.funcs.drop i) (q.funcs.drop i) = ((p.funcs[i].name.toList == q.funcs[i].name.toList && (samPs p.funcs[i].params q.funcs[i].params && samSs p.funcs[i].body q.funcs[i].body)) && samFs (p.funcs.drop (i + 1)) (q.funcs.drop (i + 1)))) := samFs_drop hlt hlt'
              generalize p.funcs[i] = x at *
              generalize q.funcs[i] = y at *
              clear hlt'
              go_upto_region 11 with fail
              go_cut [7, 8] from 44 to 100 (fun t7 t8 wx => ∃ bx bz, t7 = .pointer (some ⟨bx, 0, none⟩) ∧ t8 = .pointer (some ⟨bz, 0, none⟩) ∧ (∀ (k : Nat) v, x.cells[k]? = some v → wx.cell? ⟨bx, k, none⟩ = some v) ∧ (∀ (k : Nat) v, y.cells[k]? = some v → wx.cell? ⟨bz, k, none⟩ = some v) ∧ Below wr.heap.size wr wx)
              case first =>
                have c0 : ∀ w', Below wr.heap.size wr w' → w'.cell? ⟨b, o + i * 3, none⟩ = some (.string x.name) := seen (by have := hc1 0 _ rfl; simpa only [← Nat.add_assoc, Nat.add_zero] using this)
                have c1 : ∀ w', Below wr.heap.size wr w' → w'.cell? ⟨b, o + i * 3 + 1, none⟩ = some (.slice x.pa x.params.length x.pc) := seen (by have := hc1 1 _ rfl; simpa only [← Nat.add_assoc, Nat.add_zero] using this)
                have c2 : ∀ w', Below wr.heap.size wr w' → w'.cell? ⟨b, o + i * 3 + 2, none⟩ = some (.slice x.ba x.body.length x.bc) := seen (by have := hc1 2 _ rfl; simpa only [← Nat.add_assoc, Nat.add_zero] using this)
                have d0 : ∀ w', Below wr.heap.size wr w' → w'.cell? ⟨b', o' + i * 3, none⟩ = some (.string y.name) := seen (by have := hc2 0 _ rfl; simpa only [← Nat.add_assoc, Nat.add_zero] using this)
                have d1 : ∀ w', Below wr.heap.size wr w' → w'.cell? ⟨b', o' + i * 3 + 1, none⟩ = some (.slice y.pa y.params.length y.pc) := seen (by have := hc2 1 _ rfl; simpa only [← Nat.add_assoc, Nat.add_zero] using this)
                have d2 : ∀ w', Below wr.heap.size wr w' → w'.cell? ⟨b', o' + i * 3 + 2, none⟩ = some (.slice y.ba y.body.length y.bc) := seen (by have := hc2 2 _ rfl; simpa only [← Nat.add_assoc, Nat.add_zero] using this)
                have P1' : ∀ w', Below wr.heap.size wr w' → w'.cell? ⟨Z, 1, none⟩ = some (.slice (some ⟨b, o, none⟩) p.funcs.length p.fc) := fun w' h => ea ▸ P1.out w' (Below.on hb h)
                have Q1' : ∀ w', Below wr.heap.size wr w' → w'.cell? ⟨Z + 1, 1, none⟩ = some (.slice (some ⟨b', o', none⟩) p.funcs.length q.fc) := fun w' h => ea' ▸ Q1.out w' (Below.on hb h)
                clear hc1 hc2 ea ea' p1
                go_region_held3 (fun w' => Below wr.heap.size wr w') (first | exact Below.drew (Below.refl _ _) | exact Below.drew (Below.one (Below.refl _ _) _) | exact Below.drew (Below.one (Below.one (Below.refl _ _) _) _) | exact Below.on (by assumption) (by assumption) | exact Below.one (by assumption) _) (fail)
                all_goals (go_wp2_with fail; go_meet)
                case rel =>
                  obtain ⟨p1, p2, _⟩ := two_cells (w := wr) (Below.drew (Below.refl _ ((wr.alloc (.cells (⟨x.cells⟩ : Array Value) 37)).alloc (.cells (⟨y.cells⟩ : Array Value) 37))))
                  exact ⟨_, _, rfl, rfl, fun i v h => p1 i v (by simpa using h), fun i v h => p2 i v (by simpa using h), Below.drew (Below.one (Below.one (Below.refl _ _) _) _)⟩
                case rel =>
                  obtain ⟨p1, p2, _⟩ := two_cells (w := wr) (Below.drew (Below.refl _ ((wr.alloc (.cells (⟨y.cells⟩ : Array Value) 37)).alloc (.cells (⟨x.cells⟩ : Array Value) 37))))
                  exact ⟨_, _, rfl, rfl, fun i v h => p2 i v (by simpa using h), fun i v h => p1 i v (by simpa using h), Below.drew (Below.one (Below.one (Below.refl _ _) _) _)⟩
              case rest =>
                obtain ⟨bx, bz, rfl, rfl, hx, hy, hbx⟩ := hcut
                have hbw2 : Below w.heap.size w wc := Below.on hbw hbx
                have CX : Hid (∀ w', Below wc.heap.size wc w' → ∀ (k : Nat) v, x.cells[k]? = some v → w'.cell? ⟨bx, k, none⟩ = some v) := fun w' h k v e => seen (hx k v e) w' h
                have CY : Hid (∀ w', Below wc.heap.size wc w' → ∀ (k : Nat) v, y.cells[k]? = some v → w'.cell? ⟨bz, k, none⟩ = some v) := fun w' h k v e => seen (hy k v e) w' h
                have BW : Hid (Below w.heap.size w wc) := hbw2
                have BV : Hid (Below W1.heap.size W1 wc) := Below.on hb hbx
                clear hx hy hc1 hc2 hb hbx hbw hbw2 ea ea' p1
                obtain ⟨r1, r2, r3, r4, _⟩ := (XI.out _ BW.out).2
                obtain ⟨s1, s2, s3, s4, _⟩ := (YI.out _ BW.out).2
                clear r3 r4 s3 s4
                have c0 := CX.out wc (Below.refl _ _) 0 _ rfl
                have d0 := CY.out wc (Below.refl _ _) 0 _ rfl
                have c1 := CX.out wc (Below.refl _ _) 1 _ rfl
                have d1 := CY.out wc (Below.refl _ _) 1 _ rfl
                have c2 := CX.out wc (Below.refl _ _) 2 _ rfl
                have d2 := CY.out wc (Below.refl _ _) 2 _ rfl
                cases e1 : (x.name.toList == y.name.toList)
                · have e1' : (x.name.toList != y.name.toList) = true := by simp [bne, e1]
                  rw [e1] at HD
                  go_wp2_with fail
                  go_ret
                  exact ⟨ret_bool (by rw [HE.out, HI.out, ← HC.out, HD.out]; rfl), BW.out⟩
                · have e1' : (x.name.toList != y.name.toList) = false := by simp [bne, e1]
                  rw [e1] at HD
                  by_cases hlp : x.params.length = y.params.length
                  · have HP : Hid (x.params.length = y.params.length) := hlp
                    rw [← hlp] at s1 d1
                    clear hlp
                    have HB1 : Hid (∀ w', Below wc.heap.size wc w' → Calls Tryd.prog 26 #[.slice x.ba x.body.length x.bc, .slice y.ba y.body.length y.bc] w' fun e w'' => e = .returned (.bool (samSs x.body y.body)) ∧ Below w'.heap.size w' w'') := fun w' h => rsamS_any _ _ _ _ _ _ w' (XI.out _ (Below.on BW.out h)).2.2.2.2.2.2 (YI.out _ (Below.on BW.out h)).2.2.2.2.2.2
                    generalize samSs x.body y.body = q1 at HB1 HD
                    go_wp2_with fail
                    refine (HB1.out _ (Below.refl _ _)).mono ?_
                    rintro e w2 ⟨rfl, hb2⟩
                    clear c0 c1 c2 d0 d1 d2
                    cases q1
                    · go_wp2_with fail
                      go_ret
                      exact ⟨ret_bool (by rw [HE.out, HI.out, ← HC.out, HD.out]; simp), Below.on BW.out hb2⟩
                    · go_wp2_with fail
                      go_loopw [9] (fun t9 wr => ∃ (k : Nat), k ≤ x.params.length ∧ t9 = .int .i64 k ∧ samPs (x.params.drop k) (y.params.drop k) = samPs x.params y.params ∧ Below wc.heap.size wc wr) (fun t9 _ => x.params.length - (intOf t9).toNat)
                      case atStart => exact ⟨0, Nat.zero_le _, rfl, rfl, hb2⟩
                      case round =>
                        clear hb2
                        obtain ⟨k, hk, rfl, hcnt, hb⟩ := hrel
                        have HCP : Hid (samPs (x.params.drop k) (y.params.drop k) = samPs x.params y.params) := hcnt
                        clear hcnt
                        have c1 := CX.out wr hb 1 _ rfl
                        by_cases hklt : k < x.params.length
                        · have hklt' : k < y.params.length := by have := HP.out; omega
                          have d1 := CY.out wr hb 1 _ rfl
                          rw [← HP.out] at d1
                          obtain ⟨b, o, ea, k0, k1, k2⟩ := rowP_at (XI.out _ (Below.on BW.out hb)).2.2.2.2.1 hklt
                          obtain ⟨b', o', ea', m0, m1, m2⟩ := rowP_at (YI.out _ (Below.on BW.out hb)).2.2.2.2.1 hklt'
                          rw [ea] at c1
                          rw [ea'] at d1
                          clear ea ea'
                          have hkli : (k : Int) < (x.params.length : Int) := by omega
                          have HD2 : Hid (samPs (x.params.drop k) (y.params.drop k) = (samP x.params[k] y.params[k] && samPs (x.params.drop (k + 1)) (y.params.drop (k + 1)))) := samPs_drop hklt hklt'
                          generalize x.params[k] = u at *
                          generalize y.params[k] = v at *
                          clear hklt'
                          have hq := fun w => equalIn_pa u v w
                          have hg : ∀ (w : World) (op : BinOp) (a b : Operand) (xs ys : Array Value), (eqGuard op 61 a b (.agg xs) (.agg ys)).run Tryd.prog w = .ok () w := fun w op a b xs ys => run_eqGuard_agg w op 61 a b xs ys (by kernel_rfl)
                          go_wp2_with fail
                          go_quiet (fail)
                          clear hq hg c1 d1 k0 k1 k2 m0 m1 m2
                          cases ev : samP u v
                          · rw [ev] at HD2
                            go_wp2_with fail
                            go_ret
                            exact ⟨ret_bool (by rw [HE.out, HI.out, ← HC.out, HD.out, ← HCP.out, HD2.out]; simp), (Below.on BW.out hb).drewN _⟩
                          · rw [ev] at HD2
                            go_wp2_with fail
                            go_roundw
                            case rel => exact ⟨k + 1, by omega, by go_num, by rw [← HCP.out, HD2.out]; rfl, hb.drewN _⟩
                            case measure => simp [intOf]; omega
                        · obtain rfl : k = x.params.length := by omega
                          have HT : Hid (samPs x.params y.params = true) := by
                            show _ = _
                            rw [← HCP.out, List.drop_eq_nil_of_le (Nat.le_refl _), List.drop_eq_nil_of_le (by have := HP.out; omega)]; rfl
                          clear HCP
                          go_wp2_with fail
                          go_roundw
                          case rel => exact ⟨i + 1, by omega, by go_num, by rw [← HC.out, HD.out, HT.out]; rfl, Below.on BV.out hb⟩
                          case measure => simp [intOf]; omega
                  · have hne : ((x.params.length : Int) != (y.params.length : Int)) = true := by simp only [bne_iff_ne]; omega
                    have HF2 : Hid (res = false) := by show _ = _; rw [HE.out, HI.out, ← HC.out, HD.out, samPs_len hlp]; simp
                    go_wp2_with fail
                    go_ret
                    exact ⟨ret_bool HF2.out.symm, BW.out⟩
            · obtain rfl : i = p.funcs.length := by omega
              go_wp2_with fail
              go_ret
              refine ⟨ret_bool ?_, hbw⟩
              rw [HE.out, HI.out, ← HC.out, List.drop_eq_nil_of_le (Nat.le_refl _), List.drop_eq_nil_of_le (by have := HF.out; omega)]; rfl
    · have hne : ((p.funcs.length : Int) != (q.funcs.length : Int)) = true := by simp only [bne_iff_ne]; omega
      have hnw : ((p.widen.length : Int) != (q.widen.length : Int)) = false := by simp [hle]
      have HF : Hid (res = false) := by show _ = _; rw [HE.out, samFs_len hlf]; simp
      clear hle
      go_enter Tryd.func16, Tryd.ntmps16
      go_wp2_with fail
      go_ret
      exact ⟨ret_bool HF.out.symm, hb1⟩
  · have hne : ((p.widen.length : Int) != (q.widen.length : Int)) = true := by simp only [bne_iff_ne]; omega
    go_enter Tryd.func16, Tryd.ntmps16
    go_wp2_with fail
    go_ret
    exact ⟨ret_bool (by rw [HE.out, samI_len hle]; rfl), hb1⟩
end Go.Proofs.YtkkcgkpbbngloaaDoor
