/- A statement's lists of statements. -/
import Derived.Test.YtbpemackmadhgaaDoorE1
namespace Go.Proofs.YtbpemackmadhgaaDoor
open Go.RowKit

/-- A list of statements, and where it lies. -/
structure Bd where
  a : Option Addr
  c : Nat
  l : List St
def Bd.v (b : Bd) : Value := .slice b.a b.l.length b.c
def Ca.bd (c : Ca) : Bd := ⟨c.ba, c.bc, c.body⟩
def bods (s : St) : List Bd := ⟨s.ba, s.bc, s.body⟩ :: (s.cases.map Ca.bd ++ [⟨s.ea, s.ec, s.els⟩])

theorem bods_len (s : St) : (bods s).length = s.cases.length + 2 := by simp [bods]
theorem owns_succ {W : World} {base : Nat} {e : TypeId} {v : Value} {n : Nat} {xs : List Value} (h : W.ownsRow base e 1 v (n + 1) xs) : ∃ g cap, v = .slice (some ⟨g, 0, none⟩) (n + 1) cap := by
  rcases h.2 with ⟨_, h⟩ | ⟨g, cap, _, h, _⟩
  · omega
  · exact ⟨g, cap, h⟩
theorem owns_row {W : World} {base : Nat} {e : TypeId} {g n cap : Nat} {xs : List Value} (h : W.ownsRow base e 1 (.slice (some ⟨g, 0, none⟩) n cap) n xs) : ∀ j u, xs[j]? = some u → W.cell? ⟨g, j, none⟩ = some u := by
  intro j u hj
  have := h.cells rfl j u hj
  rwa [Addr.add_lit, Nat.zero_add] at this

theorem rowC_at {W : World} {a : Option Addr} {l : List Ca} (h : RowIn W a 2 (l.map Ca.cells)) {i : Nat} (hi : i < l.length) :
    ∃ b o, a = some ⟨b, o, none⟩ ∧ W.cell? ⟨b, o + i * 2, none⟩ = some (.int .i64 l[i].n) ∧ W.cell? ⟨b, o + i * 2 + 1, none⟩ = some (.slice l[i].ba l[i].body.length l[i].bc) := by
  obtain ⟨b, o, e, hc⟩ := h i l[i].cells (by simp [hi])
  exact ⟨b, o, e, hc 0 _ rfl, hc 1 _ rfl⟩

theorem Tryd.info43 : (Tryd.prog.info? 43).map (fun i => (i.zero, i.size, i.bytes)) = some (some (.slice none 0 0), 1, 24) := by kernel_rfl

theorem new_cell (W : World) (v : Value) (t : TypeId) : ∀ j u, [v][j]? = some u → (W.alloc (.cells #[v] t)).cell? ((⟨W.heap.size, 0, none⟩ : Addr).add j) = some u := by
  intro j u hj
  match j, hj with
  | 0, hj => simp at hj; subst hj; simp [Addr.add]

theorem bods_case (s : St) (j : Nat) (h : j < s.cases.length) : (bods s)[j + 1]? = some s.cases[j].bd := by
  unfold bods
  rw [List.getElem?_cons_succ, List.getElem?_append_left (by simpa using h), List.getElem?_map, List.getElem?_eq_getElem h]
  rfl
theorem bods_last (s : St) : (bods s)[s.cases.length + 1]? = some ⟨s.ea, s.ec, s.els⟩ := by
  unfold bods
  rw [List.getElem?_cons_succ, List.getElem?_append_right (by simp)]
  simp
theorem take_next {l : List Value} {j : Nat} {b : Value} (h : l[j]? = some b) : l.take (j + 1) = l.take j ++ [b] := by
  rw [List.take_add_one, h]; rfl
theorem new_cell2 (W : World) (o : Obj) (v : Value) (t : TypeId) : ∀ j u, [v][j]? = some u → ((W.alloc o).alloc (.cells #[v] t)).cell? ((⟨W.heap.size + 1, 0, none⟩ : Addr).add j) = some u := by
  have := new_cell (W.alloc o) v t
  rwa [World.size_alloc] at this

set_option maxRecDepth 100000 in
set_option maxHeartbeats 2000000 in
theorem bodies_any (s : St) (w : World) (hin : s.In w) : Calls Tryd.prog 49 #[s.val] w fun e w' => ∃ g cap, e = .returned (.slice (some ⟨g, 0, none⟩) (bods s).length cap) ∧
    (∀ i b, (bods s)[i]? = some b → w'.cell? ⟨g, i, none⟩ = some b.v) ∧ Below w.heap.size w w' := by
  have hc := (St.in_iff.1 hin).2.2.2.2.2.2.2.1
  obtain ⟨hc1, hc2, _, hrow⟩ := hc
  have HR : Hid (RowIn w s.ca 2 (List.map Ca.cells s.cases)) := hrow
  obtain ⟨i0, hi, hz0, hz1, hz2⟩ := info_parts Tryd.info43
  have HI : Hid (Tryd.prog.info? 43 = some i0) := hi
  have hlen := bods_len s
  obtain ⟨vs, hvs⟩ : ∃ vs, (bods s).map Bd.v = vs := ⟨_, rfl⟩
  have B0 : Hid (vs[0]? = some (.slice s.ba s.body.length s.bc)) := by show _ = _; rw [← hvs]; rfl
  have B1 : Hid (∀ j (h : j < s.cases.length), vs[j + 1]? = some (.slice s.cases[j].ba s.cases[j].body.length s.cases[j].bc)) := by
    show ∀ j, _; intro j h; rw [← hvs, List.getElem?_map, bods_case s j h]; rfl
  have B2 : Hid (vs[s.cases.length + 1]? = some (.slice s.ea s.els.length s.ec)) := by show _ = _; rw [← hvs, List.getElem?_map, bods_last s]; rfl
  have B3 : Hid (vs.length = s.cases.length + 1 + 1) := by show _ = _; rw [← hvs, List.length_map, hlen]
  have B4 : Hid (∀ (i : Nat) (b : Bd), (bods s)[i]? = some b → vs[i]? = some b.v) := by show ∀ (i : Nat) (b : Bd), _; intro i b h; rw [← hvs, List.getElem?_map, h]; rfl
  rw [hlen]
  clear hrow hin hi hlen hvs
  have hB : ∃ B, B = w.heap.size + 1 := ⟨_, rfl⟩
  obtain ⟨B, hB⟩ := hB
  unfold St.val
  go_enter Tryd.func49, Tryd.ntmps49
  go_wp2_with fail
  obtain ⟨W0, hW0⟩ : ∃ W0, w.alloc (.cells #[.int .i64 s.kind, .string s.name, .int .i64 s.n, .int .i64 s.a.kind, .int .i64 s.a.n, .string s.a.name, .slice s.a.a s.a.args.length s.a.cap, .int .i64 s.b.kind, .int .i64 s.b.n, .string s.b.name, .slice s.b.a s.b.args.length s.b.cap, .slice s.ba s.body.length s.bc, .slice s.ea s.els.length s.ec, .slice s.ca s.cases.length s.cc] 46) = W0 := ⟨_, rfl⟩
  have hs0 : Hid (W0.heap.size = B) := by show _ = _; rw [← hW0, hB]; simp
  have hb0 : Below w.heap.size w W0 := by rw [← hW0]; exact (Below.refl _ w).alloc (Nat.le_refl _) _
  have hcE : W0.cell? ⟨w.heap.size, 12, none⟩ = some (.slice s.ea s.els.length s.ec) := by rw [← hW0]; exact World.cell?_alloc_at _ _ _ _ rfl
  rw [hW0]
  clear hW0
  go_loopw [3, 12] (fun t3 t12 wr => ∃ j : Nat, j ≤ s.cases.length ∧ t12 = .int .i64 j ∧ wr.ownsRow B 43 1 t3 (j + 1) (vs.take (j + 1)) ∧ Below B W0 wr) (fun _ t12 _ => s.cases.length - (intOf t12).toNat)
  case atStart =>
    refine ⟨0, Nat.zero_le _, rfl, ?_, (Below.refl _ W0).alloc (by rw [hs0.out]; exact Nat.le_refl _) _⟩
    rw [take_next B0.out]
    refine ⟨rfl, .inr ⟨w.heap.size + 1, 1, #[.slice s.ba s.body.length s.bc], rfl, by omega, ?_, Nat.le_refl _, by unfold maxLen; omega, rfl, rfl⟩⟩
    rw [← hB, ← hs0.out]; exact heap_alloc_new W0 _
  case round =>
    obtain ⟨j, hj, rfl, hown, hb⟩ := hrel
    have hws := hb.size
    rw [hs0.out] at hws
    obtain ⟨g, cap, rfl⟩ := owns_succ hown
    by_cases hlt : j < s.cases.length
    · obtain ⟨cb, co, hca, k0, k1⟩ := rowC_at (HR.out.below (hb0.trans (hb.mono (by omega)))) hlt
      have hli : (j : Int) < (s.cases.length : Int) := by omega
      rw [hca]
      have HO : Hid (wr.ownsRow B 43 1 (.slice (some ⟨g, 0, none⟩) (j + 1) cap) (j + 1) (vs.take (j + 1))) := hown
      clear hown
      go_wp2_with (at_builtin; refine wpList_append_own _ rfl _ _ 91 rfl B 43 i0 (.slice none 0 0) 1 24 Tryd.underlying91 HI.out hz0 hz1 hz2 rfl (by decide) _ _ _ rfl ((HO.out.alloc _).alloc _) ⟨wr.heap.size + 1, 0, none⟩ 1 1 [.slice s.cases[j].ba s.cases[j].body.length s.cases[j].bc] rfl rfl (new_cell2 _ _ _ _) ?c2 ?c3 ?c4 ?c5 ?_)
      case c2 => intro u hu; simp at hu; subst hu; rfl
      case c3 => unfold maxLen; omega
      case c4 => omega
      case c5 => simp; omega
      intro v' w1 hown' hgrow _
      obtain ⟨g', cap', rfl⟩ := owns_succ hown'
      rw [← hB] at hown'
      have HO' : Hid (w1.ownsRow B 43 1 (.slice (some ⟨g', 0, none⟩) (j + 1 + 1) cap') (j + 1 + 1) (vs.take (j + 1) ++ [.slice s.cases[j].ba s.cases[j].body.length s.cases[j].bc])) := hown'
      clear hown'
      go_wp2_with fail
      go_roundw
      case rel =>
        refine ⟨j + 1, by omega, by go_num, ?_, ?_⟩
        · rw [take_next (B1.out j hlt)]; exact HO'.out
        · exact ((hb.alloc hws _).alloc (by simp; omega) _).grown hgrow (by simp; omega) (fun k hk => (HO.out.lt k hk).1)
      case measure => simp [intOf]; omega
    · have hcE' := (hb.cell (p := ⟨w.heap.size, 12, none⟩) (by show w.heap.size < _; omega)).trans hcE
      have HO : Hid (wr.ownsRow B 43 1 (.slice (some ⟨g, 0, none⟩) (j + 1) cap) (j + 1) (vs.take (j + 1))) := hown
      clear hown
      obtain rfl : j = s.cases.length := by omega
      go_wp2_with (at_builtin; refine wpList_append_own _ rfl _ _ 91 rfl B 43 i0 (.slice none 0 0) 1 24 Tryd.underlying91 HI.out hz0 hz1 hz2 rfl (by decide) _ _ _ rfl (HO.out.alloc _) ⟨wr.heap.size, 0, none⟩ 1 1 [.slice s.ea s.els.length s.ec] rfl rfl (new_cell _ _ _) ?d2 ?d3 ?d4 ?d5 ?_)
      case d2 => intro u hu; simp at hu; subst hu; rfl
      case d3 => unfold maxLen; omega
      case d4 => omega
      case d5 => simp; omega
      intro v' w1 hown' hgrow _
      obtain ⟨g', cap', rfl⟩ := owns_succ hown'
      rw [← hB] at hown'
      have HO' : Hid (w1.ownsRow B 43 1 (.slice (some ⟨g', 0, none⟩) (s.cases.length + 1 + 1) cap') (s.cases.length + 1 + 1) (vs.take (s.cases.length + 1) ++ [.slice s.ea s.els.length s.ec])) := hown'
      clear hown'
      go_wp2_with fail
      go_ret
      refine ⟨g', cap', rfl, fun i b hi => ?_, ?_⟩
      · refine owns_row HO'.out i _ ?_
        rw [← take_next B2.out, ← B3.out, List.take_length]; exact B4.out i b hi
      · exact hb0.trans (((hb.alloc hws _).grown hgrow (by simp; omega) (fun k hk => (HO.out.lt k hk).1)).mono (by omega))
end Go.Proofs.YtbpemackmadhgaaDoor
