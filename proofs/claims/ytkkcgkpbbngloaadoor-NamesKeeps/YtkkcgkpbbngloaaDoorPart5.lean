/- The document's own copies: programs. -/
import Derived.Test.YtkkcgkpbbngloaaDoorPart4
import Derived.Test.YtkkcgkpbbngloaaDoorPart2
import Derived.Maps.OwnSet
import Derived.Maps.Views
import Derived.Deep.LoopGhost
namespace Go.Proofs.YtkkcgkpbbngloaaDoor
open Go.RowKit

set_option maxRecDepth 100000 in
set_option maxHeartbeats 16000000 in
theorem copy_any (p : Pr) (w : World) (hin : p.In w) (hf : p.Few) : Calls Tryd.prog 10 #[p.val] w fun e w' => (∃ q : Pr, e = .returned q.val ∧ q.Cp w' ∧ q.er = p.er ∧ q.bl.Nodup ∧ (∀ b ∈ q.bl, w.heap.size ≤ b ∧ b < w'.heap.size)) ∧ Below w.heap.size w w' := by
  obtain ⟨i0, hi, hz0, hz1, hz2⟩ := info_parts Tryd.infoI64
  have HI : Hid (Tryd.prog.info? 2 = some i0) := hi
  obtain ⟨i1, hi1, hy0, hy1, hy2⟩ := info_parts Tryd.infoPa
  have HI1 : Hid (Tryd.prog.info? 61 = some i1) := hi1
  obtain ⟨i2, hi2, hx0, hx1, hx2⟩ := info_parts Tryd.infoFu
  have HI2 : Hid (Tryd.prog.info? 37 = some i2) := hi2
  have XP : Hid (∀ w', Below w.heap.size w w' → p.In w') := fun w' h => hin.stay h
  have HFW : Hid (p.Few) := hf
  have hw1 := hf.1
  have hf1 := hf.2.1
  have q1 := hin.1
  have q2 := hin.2.1
  have q3 := hin.haveF.1.1
  have q4 := hin.haveF.1.2.1
  have HNO : Hid ((p.wa = none → p.widen.length = 0)) := fun h => by have := hin.2.2.1 h; omega
  clear hin hf hi hi1 hi2
  unfold Pr.val
  obtain ⟨B, hB⟩ : ∃ B, w.heap.size = B := ⟨_, rfl⟩
  go_enter Tryd.func10, Tryd.ntmps10
  go_upto_region 3 with (at_make; refine wpList_make_own _ rfl _ _ 23 rfl (B + 3) 2 i0 _ 1 Tryd.underlying23 HI.out hz0 hz1 _ _ _ (p.widen.length + 1) rfl rfl (by omega) (by rw [hz2]; omega) (by unfold maxLen; omega) (by simp; omega) ?_; intro w1 hown1 hgrow1)
  have hs0 : (((w.alloc (.cells #[.slice p.wa p.widen.length p.wc, .slice p.fa p.funcs.length p.fc] 26)).alloc (.cells #[.slice none 0 0, .slice none 0 0] 26)).alloc (.cells #[.slice none 0 0, .slice none 0 0] 26)).heap.size = B + 1 + 1 + 1 := by simp [hB]
  have h1B : w1.heap[B]? = some (.cells #[.slice p.wa p.widen.length p.wc, .slice p.fa p.funcs.length p.fc] 26 (0, 0)) := (hgrow1.block B (by omega) (by simp)).trans (by
    rw [Below.heap_alloc _ _ _ (by simp; omega), Below.heap_alloc _ _ _ (by simp; omega), ← hB]; exact heap_alloc_new _ _)
  have h1R : w1.heap[B + 1]? = some (.cells #[.slice none 0 0, .slice none 0 0] 26 (0, 0)) := (hgrow1.block (B + 1) (by omega) (by simp)).trans (by
    rw [Below.heap_alloc _ _ _ (by simp; omega), show B + 1 = (w.alloc (.cells #[.slice p.wa p.widen.length p.wc, .slice p.fa p.funcs.length p.fc] 26)).heap.size by simp [hB]]; exact heap_alloc_new _ _)
  have h1O : w1.heap[B + 1 + 1]? = some (.cells #[.slice none 0 0, .slice none 0 0] 26 (0, 0)) := (hgrow1.block (B + 1 + 1) (by omega) (by simp)).trans (by
    rw [show B + 1 + 1 = ((w.alloc (.cells #[.slice p.wa p.widen.length p.wc, .slice p.fa p.funcs.length p.fc] 26)).alloc (.cells #[.slice none 0 0, .slice none 0 0] 26)).heap.size by simp [hB]]; exact heap_alloc_new _ _)
  have hb1 : Below B w w1 := (((Below.refl B w).alloc (by omega) _).alloc (by simp; omega) _).alloc (by simp; omega) _ |>.grown hgrow1 (by omega) (fun k hk => by cases hk)
  rw [hs0] at hown1
  have hs1 : B + 1 + 1 + 1 < w1.heap.size := owns_lt hown1
  clear hgrow1 hs0
  obtain ⟨R, hR⟩ : ∃ R, B + 1 = R := ⟨_, rfl⟩
  rw [hR] at h1R h1O hown1 hs1 ⊢
  obtain ⟨O, hO⟩ : ∃ O, R + 1 = O := ⟨_, rfl⟩
  rw [hO] at h1O hown1 hs1 ⊢
  obtain ⟨D, hD⟩ : ∃ D, O + 1 = D := ⟨_, rfl⟩
  rw [hD] at hown1 hs1 ⊢
  have hbr : B < R := by omega
  have hro : R < O := by omega
  have hod : O < D := by omega
  have HBB : Hid (w.heap.size = B) := hB
  have XW : Hid (∀ w', Below B w w' → p.In w') := fun w' h => XP.out w' (HBB.out ▸ h)
  clear hR hO hD hB XP
  have k0 : w1.cell? ⟨B, 0, none⟩ = some (.slice p.wa p.widen.length p.wc) := by rw [Lib.cell_of_heap h1B]; rfl
  have HO1 : Hid (w1.ownsRow (B + 3) 2 1 (.slice (some ⟨D, 0, none⟩) 0 (p.widen.length + 1)) 0 []) := hown1
  have HN1 : Hid (∀ ad, p.wa = some ad → ∀ j u, (p.widen.flatMap cI)[j]? = some u → w1.cell? (ad.add j) = some u) := src_news (k := 1) (XW.out w1 hb1).thr.2.2 (fun _ => rfl) (by decide)
  have HL1 : Hid ((p.widen.flatMap cI).length = p.widen.length * 1) := flat_len (f := cI) (k := 1) (fun _ => rfl) p.widen
  have HC1 : Hid (∀ u ∈ p.widen.flatMap cI, u.oneCell' = true) := fun u hu => by
    obtain ⟨z, _, hz⟩ := List.mem_flatMap.1 hu
    obtain rfl := List.mem_singleton.1 hz
    rfl
  clear hown1
  go_upto_region 4 with (at_builtin; refine wpList_append_src _ rfl _ _ 23 rfl (B + 3) 2 i0 1 Tryd.underlying23 HI.out hz1 D 0 (p.widen.length + 1) [] rfl HO1.out p.wa p.widen.length p.wc (p.widen.flatMap cI) rfl HL1.out HNO.out HN1.out HC1.out (by omega) ?_; intro w2 hown2 hgrow2)
  rw [Nat.zero_add, List.nil_append] at hown2
  have hK2 : Kp D w1 w2 := (Kp.refl D w1).grown hgrow2
  have hb2 : Below B w w2 := hb1.grown hgrow2 (by omega) (fun k hk => by simp at hk; omega)
  have hs2 : D < w2.heap.size := owns_lt hown2
  have HO2 : Hid ((w2.alloc (.cells #[.int .i64 (-77)] 2)).ownsRow (B + 3) 2 1 (.slice (some ⟨D, 0, none⟩) p.widen.length (p.widen.length + 1)) p.widen.length (p.widen.flatMap cI)) := hown2.alloc _
  have HN2 : Hid (∀ i u, ([.int .i64 (-77)] : List Value)[i]? = some u → (w2.alloc (.cells #[.int .i64 (-77)] 2)).cell? ((⟨w2.heap.size, 0, none⟩ : Addr).add i) = some u) := World.news_of_block (heap_alloc_new w2 _)
  have HC2 : Hid (∀ u ∈ ([.int .i64 (-77)] : List Value), u.oneCell' = true) := List.all_eq_true.1 (show ([.int .i64 (-77)] : List Value).all (fun u => u.oneCell') = true from rfl)
  clear hown2 hgrow2 HO1 HN1 HL1 HC1 k0
  go_upto_region 5 with (at_builtin; refine wpList_append_own_spare _ rfl _ _ 23 rfl (B + 3) 2 i0 1 Tryd.underlying23 HI.out hz1 D p.widen.length (p.widen.length + 1) (p.widen.flatMap cI) rfl HO2.out ⟨w2.heap.size, 0, none⟩ 1 1 [.int .i64 (-77)] rfl rfl HN2.out HC2.out (by omega) ?_; intro w3 hown3 hgrow3)
  have hK3 : Kp D w1 w3 := (hK2.alloc _).grown hgrow3
  have hb3 : Below B w w3 := (hb2.alloc (by omega) _).grown hgrow3 (by simp; omega) (fun k hk => by simp at hk; omega)
  have hs3 : D < w3.heap.size := owns_lt hown3
  have HD3 : Hid (w3.heap[D]? = some (.cells ⟨p.widen.flatMap cI ++ [.int .i64 (-77)]⟩ 2 (0, 0))) := owns_full hown3
  have h3B := (hK3.2 B (by omega) (by omega)).trans h1B
  have h3R := (hK3.2 R (by omega) (by omega)).trans h1R
  have h3O := (hK3.2 O (by omega) (by omega)).trans h1O
  clear hown3 hgrow3 HO2 HN2 HC2 hK2 hK3 hb1 hb2 h1B h1R h1O hs1 hs2
  have k0 : w3.cell? ⟨B, 0, none⟩ = some (.slice p.wa p.widen.length p.wc) := by rw [Lib.cell_of_heap h3B]; rfl
  have k1 : w3.cell? ⟨B, 1, none⟩ = some (.slice p.fa p.funcs.length p.fc) := by rw [Lib.cell_of_heap h3B]; rfl
  have o0 : w3.cell? ⟨O, 0, none⟩ = some (.slice none 0 0) := by rw [Lib.cell_of_heap h3O]; rfl
  have of : ∀ i, w3.frozen? ⟨O, i, none⟩ = false := fun i => by simp [World.frozen?, h3O]
  have hne : B ≠ O := by omega
  have hne' : O ≠ B := by omega
  go_upto_region 6 with fail
  obtain ⟨W4, hW4⟩ : ∃ W4, w3.setCell ⟨O, 0, none⟩ (.slice (some ⟨D, 0, none⟩) p.widen.length (p.widen.length + 1)) = W4 := ⟨_, rfl⟩
  rw [hW4]
  have hK4 : Kp O w3 W4 := by rw [← hW4]; exact (Kp.refl O w3).set 0 _
  have h4O : W4.heap[O]? = some (.cells #[.slice (some ⟨D, 0, none⟩) p.widen.length (p.widen.length + 1), .slice none 0 0] 26 (0, 0)) := by rw [← hW4]; exact set_list h3O 0 _
  have h4B := (hK4.2 B (by omega) (by omega)).trans h3B
  have h4R := (hK4.2 R (by omega) (by omega)).trans h3R
  have h4D := (hK4.2 D (by omega) (by omega)).trans HD3.out
  have hb4 : Below B w W4 := by rw [← hW4]; exact Below.setCell (p := ⟨O, 0, none⟩) hb3 (by show B ≤ O; omega) _
  have hs4 : D < W4.heap.size := Nat.lt_of_lt_of_le hs3 hK4.1
  clear hW4 hK4 k0 k1 o0 of h3B h3R h3O HD3 hb3 hs3
  have k1 : W4.cell? ⟨B, 1, none⟩ = some (.slice p.fa p.funcs.length p.fc) := by rw [Lib.cell_of_heap h4B]; rfl
  obtain ⟨F, hF⟩ : ∃ F, W4.heap.size = F := ⟨_, rfl⟩
  go_wp2_with (at_make; refine wpList_make_own _ rfl _ _ 24 rfl F 37 i2 _ 3 Tryd.underlying24 HI2.out hx0 hx1 _ _ _ (p.funcs.length + 1) rfl rfl (by omega) (by rw [hx2]; omega) (by unfold maxLen; omega) (by omega) ?_; intro w5 hown5 hgrow5)
  rw [hF] at hown5
  have hs5 : F < w5.heap.size := owns_lt hown5
  have h5B := (hgrow5.block B (by omega) (by simp)).trans h4B
  have h5R := (hgrow5.block R (by omega) (by simp)).trans h4R
  have h5O := (hgrow5.block O (by omega) (by simp)).trans h4O
  have h5D := (hgrow5.block D (by omega) (by simp)).trans h4D
  have hb5 : Below B w w5 := hb4.grown hgrow5 (by omega) (fun k hk => by cases hk)
  have hDF : D < F := by omega
  have HO5 : Hid (w5.ownsRow F 37 3 (.slice (some ⟨F, 0, none⟩) 0 (p.funcs.length + 1)) 0 []) := hown5
  have H5 : Hid (w5.heap[B]? = some (.cells #[.slice p.wa p.widen.length p.wc, .slice p.fa p.funcs.length p.fc] 26 (0, 0)) ∧ w5.heap[R]? = some (.cells #[.slice none 0 0, .slice none 0 0] 26 (0, 0)) ∧ w5.heap[O]? = some (.cells #[.slice (some ⟨D, 0, none⟩) p.widen.length (p.widen.length + 1), .slice none 0 0] 26 (0, 0)) ∧ w5.heap[D]? = some (.cells ⟨p.widen.flatMap cI ++ [.int .i64 (-77)]⟩ 2 (0, 0))) := ⟨h5B, h5R, h5O, h5D⟩
  clear hown5 hgrow5 h4B h4R h4O h4D hb4 hs4 k1 h5B h5R h5O h5D hF
  go_wp2_with fail
  go_loopw [5, 6] (fun t5 t6 wr => ∃ (fl : List Fu), t6 = .int .i64 fl.length ∧ fl.length ≤ p.funcs.length ∧ t5 = .slice (some ⟨F, 0, none⟩) fl.length (p.funcs.length + 1) ∧ wr.ownsRow F 37 3 (.slice (some ⟨F, 0, none⟩) fl.length (p.funcs.length + 1)) fl.length (fl.flatMap Fu.cells) ∧ (∀ x ∈ fl, x.Cp wr) ∧ fl.map Fu.er = (p.funcs.take fl.length).map Fu.er ∧ (fl.flatMap Fu.bl).Nodup ∧ (∀ b ∈ fl.flatMap Fu.bl, F < b ∧ b < wr.heap.size) ∧ Kp F w5 wr ∧ Below B w wr) (fun _ t6 _ => p.funcs.length - (intOf t6).toNat)
  case atStart => exact ⟨[], rfl, Nat.zero_le _, rfl, HO5.out, by simp, by simp, by simp, by simp, Kp.refl _ _, hb5⟩
  case round =>
    clear HO5 hb5
    obtain ⟨fl, rfl, hle, rfl, hown, hcp, her, hnd, hbd, hkp, hb⟩ := hrel
    obtain ⟨j, hj⟩ : ∃ j, fl.length = j := ⟨_, rfl⟩
    have HJ : Hid (fl.length = j) := hj
    rw [hj] at hown hle her ⊢
    have HO : Hid (wr.ownsRow F 37 3 (.slice (some ⟨F, 0, none⟩) j (p.funcs.length + 1)) j (fl.flatMap Fu.cells)) := hown
    have HR : Hid ((∀ x ∈ fl, x.Cp wr) ∧ fl.map Fu.er = (p.funcs.take j).map Fu.er ∧ (fl.flatMap Fu.bl).Nodup ∧ (∀ b ∈ fl.flatMap Fu.bl, F < b ∧ b < wr.heap.size)) := ⟨hcp, her, hnd, hbd⟩
    have HKP : Hid (Kp F w5 wr) := hkp
    have BW : Hid (Below B w wr) := hb
    have hFw : F < wr.heap.size := owns_lt hown
    have hrB := (hkp.2 B (by omega) (by omega)).trans H5.out.1
    have k1 : wr.cell? ⟨B, 1, none⟩ = some (.slice p.fa p.funcs.length p.fc) := by rw [Lib.cell_of_heap hrB]; rfl
    clear hown hcp her hnd hbd hkp hb hj hrB
    by_cases hlt : j < p.funcs.length
    · have hli : (j : Int) < (p.funcs.length : Int) := by omega
      obtain ⟨b, o, ea, hcell⟩ := rowF_cells (XW.out wr BW.out).haveF.1.2.2 hlt
      have XI : Hid (∀ w', Below B w w' → p.funcs[j].In w') := fun w' h => (XW.out w' h).haveF.2 p.funcs[j] (List.getElem_mem hlt)
      have XF : Hid (p.funcs[j].Few) := HFW.out.2.2 _ (List.getElem_mem hlt)
      have HT : Hid ((p.funcs.take (j + 1)).map Fu.er = (p.funcs.take j).map Fu.er ++ [p.funcs[j].er]) := by
        show _ = _
        rw [List.take_succ_eq_append_getElem hlt, List.map_append]; rfl
      generalize p.funcs[j] = f at *
      have c0 := hcell 0 _ rfl
      have c1 := hcell 1 _ rfl
      have c2 := hcell 2 _ rfl
      simp only [← Nat.add_assoc, Nat.add_zero] at c0 c1 c2
      rw [ea] at k1
      clear hcell ea
      obtain ⟨g1, g2, g3, g4, g5, g6, _⟩ := XI.out w (Below.refl _ _)
      have HOK : Hid (f.name.size ≤ 140737488351232 ∧ ∀ p ∈ f.params, p.Ok) := ⟨g1, g6⟩
      have HNP : Hid (f.pa = none → f.params.length = 0) := fun h => by have := g4 h; omega
      have hp1 := XF.out.1
      clear g1 g4 g5 g6
      obtain ⟨X, hX⟩ : ∃ X, wr.heap.size = X := ⟨_, rfl⟩
      go_upto_region 12 with (at_make; refine wpList_make_own _ rfl _ _ 34 rfl (X + 1) 61 i1 _ 3 Tryd.underlying34 HI1.out hy0 hy1 _ _ _ (f.params.length + 1) rfl rfl (by omega) (by rw [hy2]; omega) (by unfold maxLen; omega) (by simp; omega) ?_; intro v1 hown1 hgrow1)
      have hsx : (wr.alloc (.cells #[.string f.name, .slice f.pa f.params.length f.pc, .slice f.ba f.body.length f.bc] 37)).heap.size = X + 1 := by simp [hX]
      rw [hsx] at hown1
      have h1X : v1.heap[X]? = some (.cells #[.string f.name, .slice f.pa f.params.length f.pc, .slice f.ba f.body.length f.bc] 37 (0, 0)) := (hgrow1.block X (by omega) (by simp)).trans (by rw [← hX]; exact heap_alloc_new _ _)
      have hK1 : ∀ k, k < X → v1.heap[k]? = wr.heap[k]? := fun k h => (hgrow1.block k (by omega) (by simp)).trans (Below.heap_alloc _ _ _ (by omega))
      have hb1 : Below B w v1 := (BW.out.alloc (by omega) _).grown hgrow1 (by omega) (fun k hk => by cases hk)
      have hs1 : X + 1 < v1.heap.size := owns_lt hown1
      have HX : Hid (wr.heap.size = X) := hX
      have hFX : F < X := by omega
      clear hgrow1 hsx c0 c1 c2 k1 hX hFw
      obtain ⟨Q, hQ⟩ : ∃ Q, X + 1 = Q := ⟨_, rfl⟩
      rw [hQ] at hown1 hs1 ⊢
      have hXQ : X < Q := by omega
      have m1 : v1.cell? ⟨X, 1, none⟩ = some (.slice f.pa f.params.length f.pc) := by rw [Lib.cell_of_heap h1X]; rfl
      have HO1 : Hid (v1.ownsRow Q 61 3 (.slice (some ⟨Q, 0, none⟩) 0 (f.params.length + 1)) 0 []) := hown1
      have HN1 : Hid (∀ ad, f.pa = some ad → ∀ j u, (f.params.flatMap Pa.cells)[j]? = some u → v1.cell? (ad.add j) = some u) := src_news (k := 3) (XI.out v1 hb1).2.2.2.2.1 (fun _ => rfl) (by decide)
      have HL1 : Hid ((f.params.flatMap Pa.cells).length = f.params.length * 3) := flat_len (f := Pa.cells) (k := 3) (fun _ => rfl) f.params
      have HC1 : Hid (∀ u ∈ f.params.flatMap Pa.cells, u.oneCell' = true) := fun u hu => by
        obtain ⟨z, _, hz⟩ := List.mem_flatMap.1 hu
        simp [Pa.cells] at hz
        rcases hz with rfl | rfl | rfl <;> rfl
      clear hown1 hQ
      go_upto_region 13 with (at_builtin; refine wpList_append_src _ rfl _ _ 34 rfl Q 61 i1 3 Tryd.underlying34 HI1.out hy1 Q 0 (f.params.length + 1) [] rfl HO1.out f.pa f.params.length f.pc (f.params.flatMap Pa.cells) rfl HL1.out HNP.out HN1.out HC1.out (by omega) ?_; intro v2 hown2 hgrow2)
      rw [Nat.zero_add, List.nil_append] at hown2
      have hK2 : Kp Q v1 v2 := (Kp.refl Q v1).grown hgrow2
      have hb2 : Below B w v2 := hb1.grown hgrow2 (by omega) (fun k hk => by simp at hk; omega)
      have hs2 : Q < v2.heap.size := owns_lt hown2
      have HO2 : Hid ((v2.alloc (.cells #[.string ⟨#[63]⟩, .int .i64 0, .int .i64 0] 61)).ownsRow Q 61 3 (.slice (some ⟨Q, 0, none⟩) f.params.length (f.params.length + 1)) f.params.length (f.params.flatMap Pa.cells)) := hown2.alloc _
      have HN2 : Hid (∀ i u, senP[i]? = some u → (v2.alloc (.cells #[.string ⟨#[63]⟩, .int .i64 0, .int .i64 0] 61)).cell? ((⟨v2.heap.size, 0, none⟩ : Addr).add i) = some u) := World.news_of_block (heap_alloc_new v2 _)
      have HC2 : Hid (∀ u ∈ senP, u.oneCell' = true) := List.all_eq_true.1 (show senP.all (fun u => u.oneCell') = true from rfl)
      clear hown2 hgrow2 HO1 HN1 HL1 HC1 m1
      go_upto_region 14 with (at_builtin; refine wpList_append_own_spare _ rfl _ _ 34 rfl Q 61 i1 3 Tryd.underlying34 HI1.out hy1 Q f.params.length (f.params.length + 1) (f.params.flatMap Pa.cells) rfl HO2.out ⟨v2.heap.size, 0, none⟩ 1 1 senP rfl rfl HN2.out HC2.out (by omega) ?_; intro v3 hown3 hgrow3)
      have hK3 : Kp Q v1 v3 := (hK2.alloc _).grown hgrow3
      have hb3 : Below B w v3 := (hb2.alloc (by omega) _).grown hgrow3 (by simp; omega) (fun k hk => by simp at hk; omega)
      have hs3 : Q < v3.heap.size := owns_lt hown3
      have h3Q : v3.heap[Q]? = some (.cells ⟨f.params.flatMap Pa.cells ++ senP⟩ 61 (0, 0)) := owns_full hown3
      have h3X := (hK3.2 X (by omega) (by omega)).trans h1X
      have HKO : Hid (∀ k, k < X → v3.heap[k]? = wr.heap[k]?) := fun k h => (hK3.2 k (by omega) (by omega)).trans (hK1 k h)
      clear hown3 hgrow3 HO2 HN2 HC2 hK2 hK3 hb1 hb2 h1X hK1 hs1 hs2
      have m1 : v3.cell? ⟨X, 1, none⟩ = some (.slice f.pa f.params.length f.pc) := by rw [Lib.cell_of_heap h3X]; rfl
      have m2 : v3.cell? ⟨X, 2, none⟩ = some (.slice f.ba f.body.length f.bc) := by rw [Lib.cell_of_heap h3X]; rfl
      have mf : ∀ i, v3.frozen? ⟨X, i, none⟩ = false := fun i => by simp [World.frozen?, h3X]
      go_wp2_with fail
      obtain ⟨V4, hV4⟩ : ∃ V4, v3.setCell ⟨X, 1, none⟩ (.slice (some ⟨Q, 0, none⟩) f.params.length (f.params.length + 1)) = V4 := ⟨_, rfl⟩
      rw [hV4]
      have hK4 : Kp X v3 V4 := by rw [← hV4]; exact (Kp.refl X v3).set 1 _
      have h4X : V4.heap[X]? = some (.cells #[.string f.name, .slice (some ⟨Q, 0, none⟩) f.params.length (f.params.length + 1), .slice f.ba f.body.length f.bc] 37 (0, 0)) := by rw [← hV4]; exact set_list h3X 1 _
      have hb4 : Below B w V4 := by rw [← hV4]; exact Below.setCell (p := ⟨X, 1, none⟩) hb3 (by show B ≤ X; omega) _
      have hs4 : Q < V4.heap.size := Nat.lt_of_lt_of_le hs3 hK4.1
      clear hV4 m1 m2 mf h3X hb3
      refine (stmtsOf_any f.body f.ba f.bc V4 (XI.out V4 hb4).2.2.2.2.2.2 XF.out.2.1 XF.out.2.2).mono ?_
      rintro e v5 ⟨⟨gB, lB, rfl, hr5, hc5, he5, hn5, hd5⟩, hb5⟩
      have PB : Hid (RowCp v5 (some ⟨gB, 0, none⟩) (f.body.length + 1) lB.length 216 44 (lB.flatMap St.cells ++ senS) ∧ (∀ y ∈ lB, y.Cp v5) ∧ erS lB = erS f.body ∧ (gB :: blS lB).Nodup ∧ (∀ b ∈ gB :: blS lB, Q < b ∧ b < v5.heap.size)) := ⟨hr5, hc5, he5, hn5, fun b hb => ⟨by have := (hd5 b hb).1; omega, (hd5 b hb).2⟩⟩
      have h5X := (hb5.block X (by omega)).trans h4X
      have H5Q : Hid (v5.heap[Q]? = some (.cells ⟨f.params.flatMap Pa.cells ++ senP⟩ 61 (0, 0))) := (hb5.block Q (by omega)).trans ((hK4.2 Q hs3 (by omega)).trans h3Q)
      have HK5 : Hid (∀ k, k < X → v5.heap[k]? = wr.heap[k]?) := fun k h => (hb5.block k (by omega)).trans ((hK4.2 k (by omega) (by omega)).trans (HKO.out k h))
      have hb5' : Below B w v5 := hb4.trans (hb5.mono (by omega))
      have hs5 : Q < v5.heap.size := Nat.lt_of_lt_of_le hs4 hb5.size
      clear hr5 hc5 he5 hn5 hd5 hb5 h4X hK4 hb4 hs4 h3Q hs3 HKO
      have m2 : v5.cell? ⟨X, 2, none⟩ = some (.slice f.ba f.body.length f.bc) := by rw [Lib.cell_of_heap h5X]; rfl
      have mf : ∀ i, v5.frozen? ⟨X, i, none⟩ = false := fun i => by simp [World.frozen?, h5X]
      go_upto_region 16 with fail
      obtain ⟨V6, hV6⟩ : ∃ V6, v5.setCell ⟨X, 2, none⟩ (.slice (some ⟨gB, 0, none⟩) f.body.length (f.body.length + 1)) = V6 := ⟨_, rfl⟩
      rw [hV6]
      have HK6 : Hid (Kp X v5 V6) := by rw [← hV6]; exact (Kp.refl X v5).set 2 _
      have h6X : V6.heap[X]? = some (.cells #[.string f.name, .slice (some ⟨Q, 0, none⟩) f.params.length (f.params.length + 1), .slice (some ⟨gB, 0, none⟩) f.body.length (f.body.length + 1)] 37 (0, 0)) := by rw [← hV6]; exact set_list h5X 2 _
      have HB6 : Hid (Below B w V6) := by rw [← hV6]; exact Below.setCell (p := ⟨X, 2, none⟩) hb5' (by show B ≤ X; omega) _
      have HS6 : Hid (V6.heap.size = v5.heap.size ∧ Q < v5.heap.size) := ⟨by rw [← hV6, size_set], hs5⟩
      clear hV6 m2 mf h5X hb5' hs5
      have n0 : V6.cell? ⟨X, 0, none⟩ = some (.string f.name) := by rw [Lib.cell_of_heap h6X]; rfl
      have n1 : V6.cell? ⟨X, 1, none⟩ = some (.slice (some ⟨Q, 0, none⟩) f.params.length (f.params.length + 1)) := by rw [Lib.cell_of_heap h6X]; rfl
      have n2 : V6.cell? ⟨X, 2, none⟩ = some (.slice (some ⟨gB, 0, none⟩) f.body.length (f.body.length + 1)) := by rw [Lib.cell_of_heap h6X]; rfl
      have HO7 : Hid ((V6.alloc (.cells #[.string f.name, .slice (some ⟨Q, 0, none⟩) f.params.length (f.params.length + 1), .slice (some ⟨gB, 0, none⟩) f.body.length (f.body.length + 1)] 37)).ownsRow F 37 3 (.slice (some ⟨F, 0, none⟩) j (p.funcs.length + 1)) j (fl.flatMap Fu.cells)) :=
        owns_heap HO.out ((Below.heap_alloc _ _ _ (by have := HS6.out; omega)).trans ((HK6.out.2 F (by have := HS6.out; omega) (by omega)).trans (HK5.out F hFX)))
      have HN7 : Hid (∀ i u, ([.string f.name, .slice (some ⟨Q, 0, none⟩) f.params.length (f.params.length + 1), .slice (some ⟨gB, 0, none⟩) f.body.length (f.body.length + 1)] : List Value)[i]? = some u → (V6.alloc (.cells #[.string f.name, .slice (some ⟨Q, 0, none⟩) f.params.length (f.params.length + 1), .slice (some ⟨gB, 0, none⟩) f.body.length (f.body.length + 1)] 37)).cell? ((⟨V6.heap.size, 0, none⟩ : Addr).add i) = some u) := World.news_of_block (heap_alloc_new V6 _)
      have HC7 : Hid (∀ u ∈ ([.string f.name, .slice (some ⟨Q, 0, none⟩) f.params.length (f.params.length + 1), .slice (some ⟨gB, 0, none⟩) f.body.length (f.body.length + 1)] : List Value), u.oneCell' = true) := List.all_eq_true.1 (show ([.string f.name, .slice (some ⟨Q, 0, none⟩) f.params.length (f.params.length + 1), .slice (some ⟨gB, 0, none⟩) f.body.length (f.body.length + 1)] : List Value).all (fun u => u.oneCell') = true from rfl)
      clear h6X
      go_wp2_with (at_builtin; refine wpList_append_own_spare _ rfl _ _ 24 rfl F 37 i2 3 Tryd.underlying24 HI2.out hx1 F j (p.funcs.length + 1) (fl.flatMap Fu.cells) rfl HO7.out ⟨V6.heap.size, 0, none⟩ 1 1 [.string f.name, .slice (some ⟨Q, 0, none⟩) f.params.length (f.params.length + 1), .slice (some ⟨gB, 0, none⟩) f.body.length (f.body.length + 1)] rfl rfl HN7.out HC7.out (by omega) ?_; intro v7 hown7 hgrow7)
      have HW7 : Hid (v7.ownsRow F 37 3 (.slice (some ⟨F, 0, none⟩) (j + 1) (p.funcs.length + 1)) (j + 1) (fl.flatMap Fu.cells ++ [.string f.name, .slice (some ⟨Q, 0, none⟩) f.params.length (f.params.length + 1), .slice (some ⟨gB, 0, none⟩) f.body.length (f.body.length + 1)])) := hown7
      have HK7 : Hid (V6.heap.size < v7.heap.size ∧ ∀ k, k < V6.heap.size → k ≠ F → v7.heap[k]? = V6.heap[k]?) := ⟨by have := hgrow7.size; simp at this; omega, fun k h1 h2 => (hgrow7.block k (by simp; omega) (by simpa using h2)).trans (Below.heap_alloc _ _ _ h1)⟩
      have BW7 : Hid (Below B w v7) := (HB6.out.alloc (by have := HS6.out; omega) _).grown hgrow7 (by have := HS6.out; simp; omega) (fun k hk => by simp at hk; omega)
      clear hown7 hgrow7 HO7 HN7 HC7 n0 n1 n2
      go_wp2_with fail
      go_roundw
      case rel =>
        obtain ⟨hrB, hcB, heB, hnB, hdB⟩ := PB.out
        obtain ⟨hcp, her, hnd, hbd⟩ := HR.out
        obtain ⟨hs7, hk7⟩ := HK7.out
        obtain ⟨hs6, hq5⟩ := HS6.out
        have hkp := HKP.out
        have hx := HX.out
        have hji := HJ.out
        have hlB : lB.length = f.body.length := erS_len heB
        obtain ⟨z, hzd⟩ : ∃ z : Fu, z = ⟨f.name, some ⟨Q, 0, none⟩, f.params.length + 1, f.params, some ⟨gB, 0, none⟩, f.body.length + 1, lB⟩ := ⟨_, rfl⟩
        have hzb : z.bl = Q :: gB :: blS lB := by rw [hzd]; rfl
        have hll : (fl ++ [z]).length = j + 1 := by simp; omega
        have f5 : ∀ k, X < k → k < v5.heap.size → v7.heap[k]? = v5.heap[k]? := fun k h1 h2 => (hk7 k (by omega) (by omega)).trans (HK6.out.2 k h2 (by omega))
        have fo : ∀ k, k < X → k ≠ F → v7.heap[k]? = wr.heap[k]? := fun k h1 h2 => (hk7 k (by omega) h2).trans ((HK6.out.2 k (by omega) (by omega)).trans (HK5.out k h1))
        have hbl : (fl ++ [z]).flatMap Fu.bl = fl.flatMap Fu.bl ++ (Q :: gB :: blS lB) := by rw [List.flatMap_append]; simp [hzb]
        refine ⟨fl ++ [z], ?_, ?_, ?_, ?_, ?_, ?_, ?_, ?_, ⟨by have := hkp.1; omega, fun k h1 h2 => (fo k (by have := hkp.1; omega) h2).trans (hkp.2 k h1 h2)⟩, BW7.out⟩
        · rw [hll]; go_num
        · rw [hll]; omega
        · rw [hll]
        · rw [hll, List.flatMap_append]
          have h7 := HW7.out
          rw [hzd]
          simpa [Fu.cells, hlB] using h7
        · intro y hy
          rcases List.mem_append.1 hy with hy | hy
          · refine (hcp y hy).kept fun b h => ?_
            have hb' := hbd b (List.mem_flatMap.2 ⟨y, hy, h⟩)
            exact fo b (by omega) (by omega)
          · obtain rfl := List.mem_singleton.1 hy
            rw [hzd]
            refine ⟨HOK.out.1, ⟨Q, rfl, rfl, by show (f.params.length + 1) * 32 ≤ _; omega, (f5 Q (by omega) hq5).trans H5Q.out⟩, HOK.out.2, hrB.keep (f5 gB (by have := hdB gB (List.mem_cons_self ..); omega) (hdB gB (List.mem_cons_self ..)).2), fun x hx => (hcB x hx).kept fun b h => ?_⟩
            have := hdB b (List.mem_cons_of_mem _ (by rw [blS_map]; exact List.mem_flatMap.2 ⟨x, hx, h⟩))
            exact f5 b (by omega) this.2
        · rw [hll, HT.out, ← her, List.map_append]
          simp only [List.map_cons, List.map_nil]
          rw [hzd]
          simp only [Fu.er, heB]
        · rw [hbl, List.nodup_append]
          refine ⟨hnd, List.nodup_cons.2 ⟨fun h => ?_, hnB⟩, fun p hp q hq => ?_⟩
          · have := hdB Q h; omega
          · have := hbd p hp
            rcases List.mem_cons.1 hq with hq | hq
            · omega
            · have := hdB q hq; omega
        · intro b h
          rw [hbl] at h
          rcases List.mem_append.1 h with h | h
          · have := hbd b h; omega
          rcases List.mem_cons.1 h with h | h
          · omega
          · have := hdB b h; omega
      case measure => simp [intOf]; omega
    · obtain rfl : j = p.funcs.length := by omega
      have HO9 : Hid ((wr.alloc (.cells #[.string ⟨#[63]⟩, .slice none 0 0, .slice none 0 0] 37)).ownsRow F 37 3 (.slice (some ⟨F, 0, none⟩) p.funcs.length (p.funcs.length + 1)) p.funcs.length (fl.flatMap Fu.cells)) := HO.out.alloc _
      have HN9 : Hid (∀ i u, senF[i]? = some u → (wr.alloc (.cells #[.string ⟨#[63]⟩, .slice none 0 0, .slice none 0 0] 37)).cell? ((⟨wr.heap.size, 0, none⟩ : Addr).add i) = some u) := World.news_of_block (heap_alloc_new wr _)
      have HC9 : Hid (∀ u ∈ senF, u.oneCell' = true) := List.all_eq_true.1 (show senF.all (fun u => u.oneCell') = true from rfl)
      go_upto_region 18 with (at_builtin; refine wpList_append_own_spare _ rfl _ _ 24 rfl F 37 i2 3 Tryd.underlying24 HI2.out hx1 F p.funcs.length (p.funcs.length + 1) (fl.flatMap Fu.cells) rfl HO9.out ⟨wr.heap.size, 0, none⟩ 1 1 senF rfl rfl HN9.out HC9.out (by omega) ?_; intro w9 hown9 hgrow9)
      have hK9 : Kp F wr w9 := ((Kp.refl F wr).alloc _).grown hgrow9
      have hK59 : Kp F w5 w9 := HKP.out.trans hK9
      have hb9 : Below B w w9 := (BW.out.alloc (by omega) _).grown hgrow9 (by simp; omega) (fun k hk => by simp at hk; omega)
      have h9F : w9.heap[F]? = some (.cells ⟨fl.flatMap Fu.cells ++ senF⟩ 37 (0, 0)) := owns_full hown9
      have hs9 : F < w9.heap.size := owns_lt hown9
      have h9B := (hK59.2 B (by omega) (by omega)).trans H5.out.1
      have h9R := (hK59.2 R (by omega) (by omega)).trans H5.out.2.1
      have h9O := (hK59.2 O (by omega) (by omega)).trans H5.out.2.2.1
      have H9 : Hid (Kp F wr w9 ∧ w9.heap[D]? = some (.cells ⟨p.widen.flatMap cI ++ [.int .i64 (-77)]⟩ 2 (0, 0)) ∧ w9.heap[F]? = some (.cells ⟨fl.flatMap Fu.cells ++ senF⟩ 37 (0, 0)) ∧ F < w9.heap.size) := ⟨hK9, (hK59.2 D (by omega) (by omega)).trans H5.out.2.2.2, h9F, hs9⟩
      clear hown9 hgrow9 HO9 HN9 HC9 hK59 hK9 h9F k1
      have m1 : w9.cell? ⟨B, 1, none⟩ = some (.slice p.fa p.funcs.length p.fc) := by rw [Lib.cell_of_heap h9B]; rfl
      have o0 : w9.cell? ⟨O, 0, none⟩ = some (.slice (some ⟨D, 0, none⟩) p.widen.length (p.widen.length + 1)) := by rw [Lib.cell_of_heap h9O]; rfl
      have o1 : w9.cell? ⟨O, 1, none⟩ = some (.slice none 0 0) := by rw [Lib.cell_of_heap h9O]; rfl
      have of : ∀ i, w9.frozen? ⟨O, i, none⟩ = false := fun i => by simp [World.frozen?, h9O]
      have r0 : w9.cell? ⟨R, 0, none⟩ = some (.slice none 0 0) := by rw [Lib.cell_of_heap h9R]; rfl
      have r1 : w9.cell? ⟨R, 1, none⟩ = some (.slice none 0 0) := by rw [Lib.cell_of_heap h9R]; rfl
      have rf : ∀ i, w9.frozen? ⟨R, i, none⟩ = false := fun i => by simp [World.frozen?, h9R]
      have hor : O ≠ R := by omega
      have hor' : R ≠ O := by omega
      clear h9B h9R h9O
      go_wp2_with fail
      refine bodyPost_ret (v := .agg #[.slice (some ⟨D, 0, none⟩) p.widen.length (p.widen.length + 1), .slice (some ⟨F, 0, none⟩) p.funcs.length (p.funcs.length + 1)]) (by simp [results, Tryd.results10, go_sem, r0, r1]) rfl ?_
      have hB := HBB.out
      obtain ⟨hK9, h9D, h9F, _⟩ := H9.out
      obtain ⟨hcp, her, hnd, hbd⟩ := HR.out
      have hji := HJ.out
      have kk : ∀ k, k ≠ O → k ≠ R → (((w9.setCell ⟨O, 1, none⟩ (.slice (some ⟨F, 0, none⟩) p.funcs.length (p.funcs.length + 1))).setCell ⟨R, 0, none⟩ (.slice (some ⟨D, 0, none⟩) p.widen.length (p.widen.length + 1))).setCell ⟨R, 1, none⟩ (.slice (some ⟨F, 0, none⟩) p.funcs.length (p.funcs.length + 1))).heap[k]? = w9.heap[k]? := fun k h1 h2 => by
        rw [Below.heap_setCell _ _ _ _ h2, Below.heap_setCell _ _ _ _ h2, Below.heap_setCell _ _ _ _ h1]
      have hsz : (((w9.setCell ⟨O, 1, none⟩ (.slice (some ⟨F, 0, none⟩) p.funcs.length (p.funcs.length + 1))).setCell ⟨R, 0, none⟩ (.slice (some ⟨D, 0, none⟩) p.widen.length (p.widen.length + 1))).setCell ⟨R, 1, none⟩ (.slice (some ⟨F, 0, none⟩) p.funcs.length (p.funcs.length + 1))).heap.size = w9.heap.size := by rw [size_set, size_set, size_set]
      refine ⟨⟨⟨some ⟨D, 0, none⟩, p.widen.length + 1, p.widen, some ⟨F, 0, none⟩, p.funcs.length + 1, fl⟩, ?_, ⟨⟨D, rfl, rfl, by show (p.widen.length + 1) * 8 ≤ _; omega, (kk D (by omega) (by omega)).trans h9D⟩, (XW.out w (Below.refl _ _)).2.2.2.2.1, ⟨F, rfl, by show p.funcs.length + 1 = fl.length + 1; omega, by show (p.funcs.length + 1) * 64 ≤ _; omega, (kk F (by omega) (by omega)).trans h9F⟩, fun y hy => (hcp y hy).kept fun b hb => ?_⟩, ?_, ?_, ?_⟩, ?_⟩
      · simp only [hji]
      · have := hbd b (List.mem_flatMap.2 ⟨y, hy, hb⟩)
        exact (kk b (by omega) (by omega)).trans (hK9.2 b this.2 (by omega))
      · simp only [Pr.er, her, List.take_length]
      · refine List.nodup_cons.2 ⟨fun h => ?_, List.nodup_cons.2 ⟨fun h => ?_, hnd⟩⟩
        · rcases List.mem_cons.1 h with h | h
          · have : D = F := h
            omega
          · have := hbd D h; omega
        · have := hbd F h; omega
      · intro b h
        rw [hsz]
        have := hK9.1
        rcases List.mem_cons.1 h with h | h
        · have : b = D := h
          omega
        rcases List.mem_cons.1 h with h | h
        · have : b = F := h
          omega
        · have := hbd b h; omega
      · rw [hB]
        exact Below.setCell (p := ⟨R, 1, none⟩) (Below.setCell (p := ⟨R, 0, none⟩) (Below.setCell (p := ⟨O, 1, none⟩) hb9 (by show B ≤ O; omega) _) (by show B ≤ R; omega) _) (by show B ≤ R; omega) _
end Go.Proofs.YtkkcgkpbbngloaaDoor

/- Does the room behind the lists of a copy read as it did? -/
namespace Go.Proofs.YtkkcgkpbbngloaaDoor
open Go.RowKit Go.Sort

theorem RowCp.lt {W : World} {a : Option Addr} {c n B : Nat} {T : TypeId} {cs : List Value} (h : RowCp W a c n B T cs) : blk a < W.heap.size := by
  obtain ⟨g, rfl, _, _, h3⟩ := h
  exact (Array.getElem?_eq_some_iff.1 h3).1
theorem Ex.Cp.lt {W : World} : ∀ (k : Nat) (x : Ex), x.sz ≤ k → x.Cp W → ∀ b ∈ x.bl, b < W.heap.size := by
  intro k
  induction k with
  | zero => intro x hk; have := x.sz_args; omega
  | succ k ih =>
    intro x hk h b hb
    obtain ⟨_, _, _, h4, h5⟩ := Ex.cp_iff.1 h
    rw [x.bl_eq] at hb
    rcases List.mem_cons.1 hb with rfl | hb
    · exact h4.lt
    · rw [blL_map] at hb
      obtain ⟨y, hy, hb⟩ := List.mem_flatMap.1 hb
      exact ih y (by have := x.sz_args; have := szL_mem hy; omega) (h5 y hy) b hb
theorem Ex.Cp.stay {W W' : World} {x : Ex} (h : x.Cp W) (hb : Below W.heap.size W W') : x.Cp W' := h.kept fun b hx => hb.block b (Ex.Cp.lt _ x (Nat.le_refl _) h b hx)
theorem RowCp.stay {W W' : World} {a : Option Addr} {c n B : Nat} {T : TypeId} {cs : List Value} (h : RowCp W a c n B T cs) (hb : Below W.heap.size W W') : RowCp W' a c n B T cs := h.keep (hb.block _ h.lt)

set_option maxRecDepth 100000 in
set_option maxHeartbeats 4000000 in
theorem roomE_step (n : Nat) (ih : ∀ (l : List Ex) (a : Option Addr) (c : Nat) (w : World), szL l < n → RowCp w a c l.length 56 41 (l.flatMap Ex.cells ++ senE) → (∀ x ∈ l, x.Cp w) → Calls Tryd.prog 42 #[.slice a l.length c] w fun e w' => e = .returned (.bool true) ∧ Below w.heap.size w w')
    (l : List Ex) (a : Option Addr) (c : Nat) (w : World) (hk : szL l ≤ n) (hr : RowCp w a c l.length 56 41 (l.flatMap Ex.cells ++ senE)) (hc : ∀ x ∈ l, x.Cp w) : Calls Tryd.prog 42 #[.slice a l.length c] w fun e w' => e = .returned (.bool true) ∧ Below w.heap.size w w' := by
  have IH : Hid (∀ (l : List Ex) (a : Option Addr) (c : Nat) (w : World), szL l < n → RowCp w a c l.length 56 41 (l.flatMap Ex.cells ++ senE) → (∀ x ∈ l, x.Cp w) → Calls Tryd.prog 42 #[.slice a l.length c] w fun e w' => e = .returned (.bool true) ∧ Below w.heap.size w w') := ih
  have HK : Hid (szL l ≤ n) := hk
  have HC : Hid (∀ x ∈ l, x.Cp w) := hc
  have HRW : Hid (RowIn w a 4 (l.map Ex.cells)) := hr.row (k := 4) (fun _ => rfl)
  obtain ⟨g, rfl, rfl, hcb, hg⟩ := hr
  have hsen : w.cell? ⟨g, l.length * 4, none⟩ = some (.int .i64 (-77)) := by
    rw [Lib.cell_of_heap hg]
    show (l.flatMap Ex.cells ++ senE).toArray[l.length * 4]? = _
    have : (l.flatMap Ex.cells).length = l.length * 4 := flat_len (f := Ex.cells) (k := 4) (fun _ => rfl) l
    simp [← this, senE]
  have HSEN : Hid (w.cell? ⟨g, l.length * 4, none⟩ = some (.int .i64 (-77))) := hsen
  clear ih hk hc hg hsen
  go_enter Tryd.func42, Tryd.ntmps42
  go_wp2_with fail
  go_loopw [3] (fun t3 wr => ∃ (j : Nat), j ≤ l.length ∧ t3 = .int .i64 j ∧ Below w.heap.size w wr) (fun t3 _ => l.length - (intOf t3).toNat)
  case atStart => exact ⟨0, Nat.zero_le _, rfl, Below.refl _ w⟩
  case round =>
    obtain ⟨j, hj, rfl, hb⟩ := hrel
    have hws := hb.size
    by_cases hlt : j < l.length
    · have hli : (j : Int) < (l.length : Int) := by omega
      obtain ⟨b, o, hba, c0, c1, c2, c3⟩ := row_at (HRW.out.below hb) hlt
      obtain ⟨rfl, rfl⟩ : g = b ∧ 0 = o := by simpa using hba
      clear hba
      simp only [Nat.zero_add] at c0 c1 c2 c3
      have HQ : Hid (∀ w', Below w.heap.size w w' → Calls Tryd.prog 42 #[.slice l[j].a l[j].args.length l[j].cap] w' fun e w'' => e = .returned (.bool true) ∧ Below w'.heap.size w' w'') := fun w' h => by
        have h1 := szL_mem (List.getElem_mem hlt)
        have h2 := (l[j]).sz_args
        have h3 := HK.out
        have h4 := Ex.cp_iff.1 ((HC.out l[j] (List.getElem_mem hlt)).stay h)
        exact IH.out _ _ _ w' (by omega) h4.2.2.2.1 h4.2.2.2.2
      generalize l[j] = x at *
      go_wp2_with fail
      refine (HQ.out _ hb).mono ?_
      rintro e w' ⟨rfl, hb'⟩
      clear c0 c1 c2 c3
      go_wp2_with fail
      go_roundw
      case rel => exact ⟨j + 1, by omega, by go_num, Below.on hb hb'⟩
      case measure => simp [intOf]; omega
    · obtain rfl : j = l.length := by omega
      have hsn := (hb.cell (lt_of_cell HSEN.out)).trans HSEN.out
      go_wp2_with fail
      go_ret
      exact ⟨rfl, hb⟩
theorem roomE_k (n : Nat) : ∀ (l : List Ex) (a : Option Addr) (c : Nat) (w : World), szL l < n → RowCp w a c l.length 56 41 (l.flatMap Ex.cells ++ senE) → (∀ x ∈ l, x.Cp w) → Calls Tryd.prog 42 #[.slice a l.length c] w fun e w' => e = .returned (.bool true) ∧ Below w.heap.size w w' := by
  induction n with
  | zero => intro l a c w h; omega
  | succ n ih => exact fun l a c w h => roomE_step n ih l a c w (by omega)
theorem roomE_any (l : List Ex) (a : Option Addr) (c : Nat) (w : World) (hr : RowCp w a c l.length 56 41 (l.flatMap Ex.cells ++ senE)) (hc : ∀ x ∈ l, x.Cp w) : Calls Tryd.prog 42 #[.slice a l.length c] w fun e w' => e = .returned (.bool true) ∧ Below w.heap.size w w' := roomE_k (szL l + 1) l a c w (by omega) hr hc
end Go.Proofs.YtkkcgkpbbngloaaDoor

/- Does the room behind the lists of a copy read as it did? Statements. -/
namespace Go.Proofs.YtkkcgkpbbngloaaDoor
open Go.RowKit Go.Sort

theorem cp_lt {W : World} (k : Nat) : (∀ s : St, s.sz ≤ k → s.Cp W → ∀ b ∈ s.bl, b < W.heap.size) ∧ (∀ c : Ca, c.sz ≤ k → c.Cp W → ∀ b ∈ c.bl, b < W.heap.size) := by
  induction k with
  | zero => exact ⟨fun s h => by have := s.sz_eq; omega, fun c h => by have := c.sz_eq; omega⟩
  | succ k ih =>
    refine ⟨fun s hk h b hb => ?_, fun c hk h b hb => ?_⟩
    · obtain ⟨h1, h2, h3, h4, h5, h6, h7, h8, h9, h10, h11⟩ := St.cp_iff.1 h
      have := s.sz_eq
      rw [s.bl_eq] at hb
      rcases List.mem_append.1 hb with hb | hb
      · exact Ex.Cp.lt _ s.a (Nat.le_refl _) h4 b hb
      rcases List.mem_append.1 hb with hb | hb
      · exact Ex.Cp.lt _ s.b (Nat.le_refl _) h5 b hb
      rcases List.mem_append.1 hb with hb | hb
      · rcases List.mem_cons.1 hb with rfl | hb
        · exact h6.lt
        · rw [blS_map] at hb
          obtain ⟨x, hx, hb⟩ := List.mem_flatMap.1 hb
          exact ih.1 x (by have := ssz_mem hx; omega) (h9 x hx) b hb
      rcases List.mem_append.1 hb with hb | hb
      · rcases List.mem_cons.1 hb with rfl | hb
        · exact h7.lt
        · rw [blS_map] at hb
          obtain ⟨x, hx, hb⟩ := List.mem_flatMap.1 hb
          exact ih.1 x (by have := ssz_mem hx; omega) (h10 x hx) b hb
      rcases List.mem_cons.1 hb with rfl | hb
      · exact h8.lt
      · rw [blC_map] at hb
        obtain ⟨x, hx, hb⟩ := List.mem_flatMap.1 hb
        exact ih.2 x (by have := csz_mem hx; omega) (h11 x hx) b hb
    · obtain ⟨h1, h2, h3⟩ := Ca.cp_iff.1 h
      have := c.sz_eq
      rw [c.bl_eq] at hb
      rcases List.mem_cons.1 hb with rfl | hb
      · exact h2.lt
      · rw [blS_map] at hb
        obtain ⟨x, hx, hb⟩ := List.mem_flatMap.1 hb
        exact ih.1 x (by have := ssz_mem hx; omega) (h3 x hx) b hb
theorem St.Cp.stay {W W' : World} {s : St} (h : s.Cp W) (hb : Below W.heap.size W W') : s.Cp W' := h.kept fun b hx => hb.block b ((cp_lt _).1 s (Nat.le_refl _) h b hx)

abbrev RmOk (n : Nat) : Prop := ∀ (l : List St) (a : Option Addr) (c : Nat) (w : World), ssz l < n → RowCp w a c l.length 216 44 (l.flatMap St.cells ++ senS) → (∀ x ∈ l, x.Cp w) → Calls Tryd.prog 27 #[.slice a l.length c] w fun e w' => e = .returned (.bool true) ∧ Below w.heap.size w w'
set_option maxRecDepth 100000 in
set_option maxHeartbeats 8000000 in
theorem roomS_step (n : Nat) (ih : RmOk n) (l : List St) (a : Option Addr) (c : Nat) (w : World) (hk : ssz l ≤ n) (hr : RowCp w a c l.length 216 44 (l.flatMap St.cells ++ senS)) (hc : ∀ x ∈ l, x.Cp w) : Calls Tryd.prog 27 #[.slice a l.length c] w fun e w' => e = .returned (.bool true) ∧ Below w.heap.size w w' := by
  have IH : Hid (RmOk n) := ih
  have HK : Hid (ssz l ≤ n) := hk
  have HC : Hid (∀ x ∈ l, x.Cp w) := hc
  have HRW : Hid (RowIn w a 14 (l.map St.cells)) := hr.row (k := 14) (fun _ => rfl)
  obtain ⟨g, rfl, rfl, hcb, hg⟩ := hr
  have hsen : w.cell? ⟨g, l.length * 14, none⟩ = some (.int .i64 (-77)) := by
    rw [Lib.cell_of_heap hg]
    show (l.flatMap St.cells ++ senS).toArray[l.length * 14]? = _
    have : (l.flatMap St.cells).length = l.length * 14 := flat_len (f := St.cells) (k := 14) (fun _ => rfl) l
    simp [← this, senS]
  have HSEN : Hid (w.cell? ⟨g, l.length * 14, none⟩ = some (.int .i64 (-77))) := hsen
  clear ih hk hc hg hsen
  go_enter Tryd.func27, Tryd.ntmps27
  go_wp2_with fail
  go_loopw [3] (fun t3 wr => ∃ (j : Nat), j ≤ l.length ∧ t3 = .int .i64 j ∧ Below w.heap.size w wr) (fun t3 _ => l.length - (intOf t3).toNat)
  case atStart => exact ⟨0, Nat.zero_le _, rfl, Below.refl _ w⟩
  case round =>
    obtain ⟨j, hj, rfl, hb⟩ := hrel
    have hws := hb.size
    by_cases hlt : j < l.length
    · have hli : (j : Int) < (l.length : Int) := by omega
      obtain ⟨b, o, hba, hcell⟩ := rowS_at (HRW.out.below hb) hlt
      obtain ⟨rfl, rfl⟩ : g = b ∧ 0 = o := by simpa using hba
      clear hba
      have c0 := hcell 0 _ rfl
      have c1 := hcell 1 _ rfl
      have c2 := hcell 2 _ rfl
      have c3 := hcell 3 _ rfl
      have c4 := hcell 4 _ rfl
      have c5 := hcell 5 _ rfl
      have c6 := hcell 6 _ rfl
      have c7 := hcell 7 _ rfl
      have c8 := hcell 8 _ rfl
      have c9 := hcell 9 _ rfl
      have c10 := hcell 10 _ rfl
      have c11 := hcell 11 _ rfl
      have c12 := hcell 12 _ rfl
      have c13 := hcell 13 _ rfl
      simp only [Nat.zero_add, Nat.add_zero] at c0 c1 c2 c3 c4 c5 c6 c7 c8 c9 c10 c11 c12 c13
      clear hcell
      have XC : Hid (∀ w', Below w.heap.size w w' → l[j].Cp w') := fun w' h => (HC.out l[j] (List.getElem_mem hlt)).stay h
      have HZ : Hid (l[j].sz ≤ n) := Nat.le_trans (ssz_mem (List.getElem_mem hlt)) HK.out
      generalize l[j] = s at *
      have HE1 : Hid (∀ w', Below w.heap.size w w' → Calls Tryd.prog 42 #[.slice s.a.a s.a.args.length s.a.cap] w' fun e w'' => e = .returned (.bool true) ∧ Below w'.heap.size w' w'') := fun w' h => by
        have h4 := Ex.cp_iff.1 (St.cp_iff.1 (XC.out w' h)).2.2.2.1
        exact roomE_any _ _ _ w' h4.2.2.2.1 h4.2.2.2.2
      have HE2 : Hid (∀ w', Below w.heap.size w w' → Calls Tryd.prog 42 #[.slice s.b.a s.b.args.length s.b.cap] w' fun e w'' => e = .returned (.bool true) ∧ Below w'.heap.size w' w'') := fun w' h => by
        have h4 := Ex.cp_iff.1 (St.cp_iff.1 (XC.out w' h)).2.2.2.2.1
        exact roomE_any _ _ _ w' h4.2.2.2.1 h4.2.2.2.2
      have HB1 : Hid (∀ w', Below w.heap.size w w' → Calls Tryd.prog 27 #[.slice s.ba s.body.length s.bc] w' fun e w'' => e = .returned (.bool true) ∧ Below w'.heap.size w' w'') := fun w' h => by
        have h4 := St.cp_iff.1 (XC.out w' h)
        exact IH.out _ _ _ w' (by have := HZ.out; have := s.sz_eq; omega) h4.2.2.2.2.2.1 h4.2.2.2.2.2.2.2.2.1
      have HB2 : Hid (∀ w', Below w.heap.size w w' → Calls Tryd.prog 27 #[.slice s.ea s.els.length s.ec] w' fun e w'' => e = .returned (.bool true) ∧ Below w'.heap.size w' w'') := fun w' h => by
        have h4 := St.cp_iff.1 (XC.out w' h)
        exact IH.out _ _ _ w' (by have := HZ.out; have := s.sz_eq; omega) h4.2.2.2.2.2.2.1 h4.2.2.2.2.2.2.2.2.2.1
      obtain ⟨W1, hW1⟩ : ∃ W1, wr.alloc (.cells #[.int .i64 s.kind, .string s.name, .int .i64 s.n, .int .i64 s.a.kind, .int .i64 s.a.n, .string s.a.name, .slice s.a.a s.a.args.length s.a.cap, .int .i64 s.b.kind, .int .i64 s.b.n, .string s.b.name, .slice s.b.a s.b.args.length s.b.cap, .slice s.ba s.body.length s.bc, .slice s.ea s.els.length s.ec, .slice s.ca s.cases.length s.cc] 44) = W1 := ⟨_, rfl⟩
      have hb1 : Below wr.heap.size wr W1 := by rw [← hW1]; exact (Below.refl _ _).alloc (Nat.le_refl _) _
      have hbk : W1.heap[wr.heap.size]? = some (.cells (⟨s.cells⟩ : Array Value) 44 (0, 0)) := by rw [← hW1]; exact heap_alloc_new wr _
      obtain ⟨X, hX⟩ : ∃ X, wr.heap.size = X := ⟨_, rfl⟩
      have CX : Hid (∀ w', Below W1.heap.size W1 w' → ∀ (i : Nat) v, s.cells[i]? = some v → w'.cell? ⟨X, i, none⟩ = some v) := fun w' h i v e => seen (by rw [← hX, Lib.cell_of_heap hbk]; simpa using e) w' h
      have BW1 : Hid (Below w.heap.size w W1) := Below.on hb hb1
      have BWR : Hid (Below w.heap.size w wr) := hb
      have HW1 := show Hid _ from hW1
      have HX := show Hid _ from hX
      clear hW1 hb1 hbk hX
      go_wp2_with fail
      rw [HW1.out, HX.out]
      clear HW1 c0 c1 c2 c3 c4 c5 c6 c7 c8 c9 c10 c11 c12 c13
      refine (HE1.out _ BW1.out).mono ?_
      rintro e w2 ⟨rfl, hb2⟩
      have c10 := CX.out _ hb2 10 _ rfl
      go_wp2_with fail
      refine (HE2.out _ (Below.on BW1.out hb2)).mono ?_
      rintro e w3 ⟨rfl, hb3⟩
      have hb3' := Below.on hb2 hb3
      clear hb2 hb3 c10
      have c11 := CX.out _ hb3' 11 _ rfl
      go_wp2_with fail
      refine (HB1.out _ (Below.on BW1.out hb3')).mono ?_
      rintro e w4 ⟨rfl, hb4⟩
      have hb4' := Below.on hb3' hb4
      clear hb3' hb4 c11
      have c12 := CX.out _ hb4' 12 _ rfl
      go_wp2_with fail
      refine (HB2.out _ (Below.on BW1.out hb4')).mono ?_
      rintro e w5 ⟨rfl, hb5⟩
      have hb5' := Below.on hb4' hb5
      clear hb4' hb5 c12
      obtain ⟨hcl, hcc2⟩ : s.cases.length ≤ s.cc ∧ s.cc * 32 ≤ 140737488351232 := by
        obtain ⟨g', _, e1, e2, _⟩ := (St.cp_iff.1 (XC.out w (Below.refl _ _))).2.2.2.2.2.2.2.1
        exact ⟨by omega, e2⟩
      go_wp2_with fail
      go_loopw [5] (fun t5 wr => ∃ (i : Nat), i ≤ s.cases.length ∧ t5 = .int .i64 i ∧ Below W1.heap.size W1 wr) (fun t5 _ => s.cases.length - (intOf t5).toNat)
      case atStart => exact ⟨0, Nat.zero_le _, rfl, hb5'⟩
      case round =>
        clear hb5' hb hws
        obtain ⟨i, hi, rfl, hb⟩ := hrel
        have c13 := CX.out _ hb 13 _ rfl
        have hbw := Below.on BW1.out hb
        by_cases hilt : i < s.cases.length
        · have hili : (i : Int) < (s.cases.length : Int) := by omega
          have h8 := (St.cp_iff.1 (XC.out _ hbw)).2.2.2.2.2.2.2.1
          obtain ⟨rb, ro, hca, hcell⟩ := rowC_cells (h8.row (k := 2) (fun _ => rfl)) hilt
          have d0 := hcell 0 _ rfl
          have d1 := hcell 1 _ rfl
          simp only [← Nat.add_assoc, Nat.add_zero] at d0 d1
          rw [hca] at c13
          clear h8 hca hcell
          have HQ : Hid (∀ w', Below w.heap.size w w' → Calls Tryd.prog 27 #[.slice s.cases[i].ba s.cases[i].body.length s.cases[i].bc] w' fun e w'' => e = .returned (.bool true) ∧ Below w'.heap.size w' w'') := fun w' h => by
            have h4 := Ca.cp_iff.1 ((St.cp_iff.1 (XC.out w' h)).2.2.2.2.2.2.2.2.2.2 _ (List.getElem_mem hilt))
            have h1 := csz_mem (List.getElem_mem hilt)
            have h2 := (s.cases[i]).sz_eq
            have h3 := s.sz_eq
            exact IH.out _ _ _ w' (by have := HZ.out; omega) h4.2.1 h4.2.2
          generalize s.cases[i] = y at *
          go_wp2_with fail
          refine (HQ.out _ hbw).mono ?_
          rintro e w6 ⟨rfl, hb6⟩
          clear c13 d0 d1
          go_wp2_with fail
          go_roundw
          case rel => exact ⟨i + 1, by omega, by go_num, Below.on hb hb6⟩
          case measure => simp [intOf]; omega
        · obtain rfl : i = s.cases.length := by omega
          obtain ⟨g', hca, hcc, _, hg'⟩ := (St.cp_iff.1 (XC.out _ hbw)).2.2.2.2.2.2.2.1
          have d0 : wr.cell? ⟨g', s.cases.length * 2, none⟩ = some (.int .i64 (-77)) := by
            rw [Lib.cell_of_heap hg']
            show (s.cases.flatMap Ca.cells ++ senC).toArray[s.cases.length * 2]? = _
            have : (s.cases.flatMap Ca.cells).length = s.cases.length * 2 := flat_len (f := Ca.cells) (k := 2) (fun _ => rfl) s.cases
            simp [← this, senC]
          rw [hca, hcc] at c13
          clear hca hg'
          go_wp2_with fail
          go_roundw
          case rel => exact ⟨j + 1, by omega, by go_num, hbw⟩
          case measure => simp [intOf]; omega
    · obtain rfl : j = l.length := by omega
      have hsn := (hb.cell (lt_of_cell HSEN.out)).trans HSEN.out
      go_wp2_with fail
      go_ret
      exact ⟨rfl, hb⟩
theorem roomS_k (n : Nat) : RmOk n := by
  induction n with
  | zero => intro l a c w h; omega
  | succ n ih => exact fun l a c w h => roomS_step n ih l a c w (by omega)
theorem roomS_any (l : List St) (a : Option Addr) (c : Nat) (w : World) (hr : RowCp w a c l.length 216 44 (l.flatMap St.cells ++ senS)) (hc : ∀ x ∈ l, x.Cp w) : Calls Tryd.prog 27 #[.slice a l.length c] w fun e w' => e = .returned (.bool true) ∧ Below w.heap.size w w' := roomS_k (ssz l + 1) l a c w (by omega) hr hc
end Go.Proofs.YtkkcgkpbbngloaaDoor

/- Copies are written over: expressions. What turns is the copy's alone. -/
namespace Go.Proofs.YtkkcgkpbbngloaaDoor
open Go.RowKit Go.Sort

/-- Of what was there only these blocks have turned. -/
def Only (S : List Nat) (W W' : World) : Prop := W'.os = W.os ∧ W'.tape = W.tape ∧ W'.output = W.output ∧ W.heap.size ≤ W'.heap.size ∧ ∀ k, k < W.heap.size → k ∉ S → W'.heap[k]? = W.heap[k]?
theorem Only.refl (S : List Nat) (W : World) : Only S W W := ⟨rfl, rfl, rfl, Nat.le_refl _, fun _ _ _ => rfl⟩
theorem Only.trans {S : List Nat} {A B C : World} (h : Only S A B) (k : Only S B C) : Only S A C := ⟨k.1.trans h.1, k.2.1.trans h.2.1, k.2.2.1.trans h.2.2.1, Nat.le_trans h.2.2.2.1 k.2.2.2.1, fun i h1 h2 => (k.2.2.2.2 i (Nat.lt_of_lt_of_le h1 h.2.2.2.1) h2).trans (h.2.2.2.2 i h1 h2)⟩
theorem Only.mono {S S' : List Nat} {A B : World} (h : Only S A B) (hs : ∀ k ∈ S, k ∈ S') : Only S' A B := ⟨h.1, h.2.1, h.2.2.1, h.2.2.2.1, fun i h1 h2 => h.2.2.2.2 i h1 (fun e => h2 (hs i e))⟩
theorem Only.of_below {S : List Nat} {A B : World} (h : Below A.heap.size A B) : Only S A B := ⟨h.os, h.tape, h.output, h.size, fun i h1 _ => h.block i h1⟩
theorem Only.set {S : List Nat} {A B : World} (h : Only S A B) {g : Nat} (hg : g ∈ S) (i : Nat) (v : Value) : Only S A (B.setCell ⟨g, i, none⟩ v) := h.trans ⟨rfl, rfl, rfl, by simp [World.setCell], fun k _ h2 => Below.heap_setCell _ _ _ _ (fun e => h2 (e ▸ hg))⟩
theorem Only.below {S : List Nat} {A B : World} {N : Nat} (h : Only S A B) (hs : ∀ k ∈ S, N ≤ k) (hN : N ≤ A.heap.size) : Below N A B := ⟨h.1, h.2.1, h.2.2.1, h.2.2.2.1, fun k hk => h.2.2.2.2 k (by omega) (fun e => by have := hs k e; omega)⟩

/-- From the element j on a row of expressions is as it was. -/
def Tail (W : World) (g : Nat) (l : List Ex) (j : Nat) : Prop := ∃ cs : List Value, W.heap[g]? = some (.cells ⟨cs⟩ 41 (0, 0)) ∧ ∀ i, j * 4 ≤ i → cs[i]? = (l.flatMap Ex.cells ++ senE)[i]?

theorem Tail.set {W : World} {g : Nat} {l : List Ex} {j : Nat} (h : Tail W g l j) {i : Nat} (hi : i < j * 4) (v : Value) : Tail (W.setCell ⟨g, i, none⟩ v) g l j := by
  obtain ⟨cs, h1, h2⟩ := h
  refine ⟨cs.set i v, ?_, fun k hk => by rw [List.getElem?_set_ne (by omega)]; exact h2 k hk⟩
  simp [World.setCell, Array.getElem?_modify, h1]
theorem heap_set4 (W : World) {g b : Nat} (h : b ≠ g) (i0 i1 i2 i3 : Nat) (v0 v1 v2 v3 : Value) : ((((W.setCell ⟨g, i0, none⟩ v0).setCell ⟨g, i1, none⟩ v1).setCell ⟨g, i2, none⟩ v2).setCell ⟨g, i3, none⟩ v3).heap[b]? = W.heap[b]? := by
  rw [Below.heap_setCell _ _ _ _ h, Below.heap_setCell _ _ _ _ h, Below.heap_setCell _ _ _ _ h, Below.heap_setCell _ _ _ _ h]
theorem nd_parts {g : Nat} {l : List Ex} (h : (g :: blL l).Nodup) {j : Nat} (hj : j < l.length) : g ∉ l[j].bl ∧ l[j].bl.Nodup ∧ (∀ y ∈ l.drop (j + 1), ∀ b ∈ y.bl, b ∉ l[j].bl ∧ b ≠ g) ∧ (∀ b ∈ l[j].bl, b ∈ blL l) := by
  have hm : ∀ x ∈ l, ∀ b ∈ x.bl, b ∈ blL l := fun x hx b hb => by rw [blL_map]; exact List.mem_flatMap.2 ⟨x, hx, hb⟩
  obtain ⟨h1, h2⟩ := List.nodup_cons.1 h
  have e : l = l.take j ++ l[j] :: l.drop (j + 1) := by rw [← List.drop_eq_getElem_cons hj, List.take_append_drop]
  have h3 : (blL (l.take j) ++ (l[j].bl ++ blL (l.drop (j + 1)))).Nodup := by
    have : blL l = blL (l.take j) ++ (l[j].bl ++ blL (l.drop (j + 1))) := by
      conv => lhs; rw [e]
      simp only [blL_map, List.flatMap_append, List.flatMap_cons]
    rw [← this]; exact h2
  have h4 := (List.nodup_append.1 h3).2.1
  obtain ⟨h5, _, h6⟩ := List.nodup_append.1 h4
  refine ⟨fun hb => h1 (hm _ (List.getElem_mem hj) g hb), h5, fun y hy b hb => ⟨fun hx => ?_, fun hg => ?_⟩, hm _ (List.getElem_mem hj)⟩
  · exact h6 b hx b (by rw [blL_map]; exact List.mem_flatMap.2 ⟨y, hy, hb⟩) rfl
  · exact h1 (hg ▸ hm y (List.mem_of_mem_drop hy) b hb)

set_option maxRecDepth 100000 in
set_option maxHeartbeats 4000000 in
theorem spoilE_step (n : Nat) (ih : ∀ (l : List Ex) (a : Option Addr) (c : Nat) (w : World), szL l < n → RowCp w a c l.length 56 41 (l.flatMap Ex.cells ++ senE) → (∀ x ∈ l, x.Cp w) → (blk a :: blL l).Nodup → Calls Tryd.prog 43 #[.slice a l.length c] w fun e w' => e = .returned (.tuple #[]) ∧ Only (blk a :: blL l) w w')
    (l : List Ex) (a : Option Addr) (c : Nat) (w : World) (hk : szL l ≤ n) (hr : RowCp w a c l.length 56 41 (l.flatMap Ex.cells ++ senE)) (hc : ∀ x ∈ l, x.Cp w) (hnd : (blk a :: blL l).Nodup) : Calls Tryd.prog 43 #[.slice a l.length c] w fun e w' => e = .returned (.tuple #[]) ∧ Only (blk a :: blL l) w w' := by
  have IH : Hid (∀ (l : List Ex) (a : Option Addr) (c : Nat) (w : World), szL l < n → RowCp w a c l.length 56 41 (l.flatMap Ex.cells ++ senE) → (∀ x ∈ l, x.Cp w) → (blk a :: blL l).Nodup → Calls Tryd.prog 43 #[.slice a l.length c] w fun e w' => e = .returned (.tuple #[]) ∧ Only (blk a :: blL l) w w') := ih
  have HK : Hid (szL l ≤ n) := hk
  have HC : Hid (∀ x ∈ l, x.Cp w) := hc
  have HND : Hid ((blk a :: blL l).Nodup) := hnd
  obtain ⟨g, rfl, rfl, hcb, hg⟩ := hr
  have HG : Hid (Tail w g l 0) := ⟨_, hg, fun i _ => rfl⟩
  clear ih hk hc hnd hg
  go_enter Tryd.func43, Tryd.ntmps43
  go_wp2_with fail
  go_loopw [2] (fun t2 wr => ∃ (j : Nat), j ≤ l.length ∧ t2 = .int .i64 j ∧ Tail wr g l j ∧ (∀ x ∈ l.drop j, x.Cp wr) ∧ Only (g :: blL l) w wr) (fun t2 _ => l.length - (intOf t2).toNat)
  case atStart => exact ⟨0, Nat.zero_le _, rfl, HG.out, by simpa using HC.out, Only.refl _ w⟩
  case round =>
    obtain ⟨j, hj, rfl, htl, hcp, hon⟩ := hrel
    by_cases hlt : j < l.length
    · have hli : (j : Int) < (l.length : Int) := by omega
      obtain ⟨cs, hgr, hcs⟩ := htl
      have hcell : ∀ (i : Nat) v, l[j].cells[i]? = some v → wr.cell? ⟨g, j * 4 + i, none⟩ = some v := fun i v e => by
        rw [Lib.cell_of_heap hgr]
        have hi : i < 4 := (List.getElem?_eq_some_iff.1 e).1
        have := flatC_at (f := Ex.cells) (k := 4) (fun _ => rfl) senE l j l[j] i (List.getElem?_eq_getElem hlt) hi
        show cs.toArray[j * 4 + i]? = _
        rw [List.getElem?_toArray, hcs _ (by omega), this, e]
      have c0 := hcell 0 _ rfl
      have c1 := hcell 1 _ rfl
      have c2 := hcell 2 _ rfl
      have c3 := hcell 3 _ rfl
      simp only [Nat.add_zero] at c0
      obtain ⟨n1, n2, n3, n4⟩ := nd_parts (show (g :: blL l).Nodup from HND.out) hlt
      have hdr : l.drop j = l[j] :: l.drop (j + 1) := List.drop_eq_getElem_cons hlt
      have HQ : Hid (Calls Tryd.prog 43 #[.slice l[j].a l[j].args.length l[j].cap] wr fun e w'' => e = .returned (.tuple #[]) ∧ Only l[j].bl wr w'') := by
        have h1 := szL_mem (List.getElem_mem hlt)
        have h2 := (l[j]).sz_args
        have h3 := HK.out
        have h4 := Ex.cp_iff.1 (hcp l[j] (by rw [hdr]; exact List.mem_cons_self))
        have := IH.out l[j].args l[j].a l[j].cap wr (by omega) h4.2.2.2.1 h4.2.2.2.2 (by rw [← Ex.bl_eq]; exact n2)
        rw [← Ex.bl_eq] at this
        exact this
      have N1 := show Hid _ from n1
      have N3 := show Hid _ from n3
      have N4 := show Hid _ from n4
      have HCP : Hid (∀ y ∈ l.drop (j + 1), y.Cp wr) := fun y hy => hcp y (by rw [hdr]; exact List.mem_cons_of_mem _ hy)
      have HON : Hid _ := hon
      have HGR : Hid _ := hgr
      have HCS : Hid _ := hcs
      have hsz : (j + 1) * 4 ≤ cs.length := by
        have h1 := hcs (j * 4 + 3) (by omega)
        have h2 := flatC_at (f := Ex.cells) (k := 4) (fun _ => rfl) senE l j l[j] 3 (List.getElem?_eq_getElem hlt) (by omega)
        rw [h2] at h1
        have := (List.getElem?_eq_some_iff.1 h1).1
        omega
      clear n1 n2 n3 n4 hdr hcp hon hgr hcs hcell
      generalize l[j] = x at *
      go_wp2_with fail
      refine HQ.out.mono ?_
      rintro e w' ⟨rfl, ho⟩
      have hg' : w'.heap[g]? = some (.cells ⟨cs⟩ 41 (0, 0)) := (ho.2.2.2.2 g (Array.getElem?_eq_some_iff.1 HGR.out).1 N1.out).trans HGR.out
      clear c0 c1 c2 c3
      have hcc : ∀ i : Nat, i < 4 → ∃ v, w'.cell? ⟨g, j * 4 + i, none⟩ = some v := fun i hi => ⟨cs[j * 4 + i]'(by omega), by
        rw [Lib.cell_of_heap hg']
        show cs.toArray[j * 4 + i]? = _
        rw [List.getElem?_toArray, List.getElem?_eq_getElem]⟩
      obtain ⟨v0, d0⟩ := hcc 0 (by omega)
      obtain ⟨v1, d1⟩ := hcc 1 (by omega)
      obtain ⟨v2, d2⟩ := hcc 2 (by omega)
      obtain ⟨v3, d3⟩ := hcc 3 (by omega)
      have q0 : w'.frozen? ⟨g, j * 4, none⟩ = false := Lib.frozen_of_heap hg' _
      have q1 : w'.frozen? ⟨g, j * 4 + 1, none⟩ = false := Lib.frozen_of_heap hg' _
      have q2 : w'.frozen? ⟨g, j * 4 + 2, none⟩ = false := Lib.frozen_of_heap hg' _
      have q3 : w'.frozen? ⟨g, j * 4 + 3, none⟩ = false := Lib.frozen_of_heap hg' _
      simp only [Nat.add_zero] at d0
      have HG' : Hid (Tail w' g l (j + 1)) := ⟨cs, hg', fun i hi => HCS.out i (by omega)⟩
      have HO : Hid (Only x.bl wr w') := ho
      clear hcc hg' ho
      go_wp2_with fail
      go_roundw
      case rel =>
        refine ⟨j + 1, by omega, by go_num, (((HG'.out.set (by omega) _).set (by omega) _).set (by omega) _).set (by omega) _, fun y hy => ?_, ((((Only.trans HON.out (HO.out.mono fun k hk => List.mem_cons_of_mem _ (N4.out k hk))).set List.mem_cons_self _ _).set List.mem_cons_self _ _).set List.mem_cons_self _ _).set List.mem_cons_self _ _⟩
        have hy' := HCP.out y hy
        refine hy'.kept fun b hb => ?_
        rw [heap_set4 w' (N3.out y hy b hb).2]
        exact HO.out.2.2.2.2 b (Ex.Cp.lt _ y (Nat.le_refl _) hy' b hb) (N3.out y hy b hb).1
      case measure => simp [intOf]; omega
    · obtain rfl : j = l.length := by omega
      go_wp2_with fail
      go_end0
      exact ⟨rfl, hon⟩
theorem spoilE_k (n : Nat) : ∀ (l : List Ex) (a : Option Addr) (c : Nat) (w : World), szL l < n → RowCp w a c l.length 56 41 (l.flatMap Ex.cells ++ senE) → (∀ x ∈ l, x.Cp w) → (blk a :: blL l).Nodup → Calls Tryd.prog 43 #[.slice a l.length c] w fun e w' => e = .returned (.tuple #[]) ∧ Only (blk a :: blL l) w w' := by
  induction n with
  | zero => intro l a c w h; omega
  | succ n ih => exact fun l a c w h => spoilE_step n ih l a c w (by omega)
theorem spoilE_any (x : Ex) (w : World) (h : x.Cp w) (hn : x.bl.Nodup) : Calls Tryd.prog 43 #[.slice x.a x.args.length x.cap] w fun e w' => e = .returned (.tuple #[]) ∧ Only x.bl w w' := by
  have h4 := Ex.cp_iff.1 h
  have := spoilE_k (szL x.args + 1) x.args x.a x.cap w (by omega) h4.2.2.2.1 h4.2.2.2.2 (by rw [← Ex.bl_eq]; exact hn)
  rw [← Ex.bl_eq] at this
  exact this
end Go.Proofs.YtkkcgkpbbngloaaDoor

/- Copies are written over: tools for statements. -/
namespace Go.Proofs.YtkkcgkpbbngloaaDoor
open Go.RowKit Go.Sort

/-- From the cell m on a block is as it was. -/
def TailF (W : World) (g : Nat) (T : TypeId) (c0 : List Value) (m : Nat) : Prop := ∃ cs : List Value, W.heap[g]? = some (.cells ⟨cs⟩ T (0, 0)) ∧ cs.length = c0.length ∧ ∀ i, m ≤ i → cs[i]? = c0[i]?
theorem TailF.set {W : World} {g : Nat} {T : TypeId} {c0 : List Value} {m : Nat} (h : TailF W g T c0 m) {i : Nat} (hi : i < m) (v : Value) : TailF (W.setCell ⟨g, i, none⟩ v) g T c0 m := by
  obtain ⟨cs, h1, h0, h2⟩ := h
  refine ⟨cs.set i v, ?_, by simpa using h0, fun k hk => by rw [List.getElem?_set_ne (by omega)]; exact h2 k hk⟩
  simp [World.setCell, Array.getElem?_modify, h1]
theorem TailF.mono {W : World} {g : Nat} {T : TypeId} {c0 : List Value} {m m' : Nat} (h : TailF W g T c0 m) (hm : m ≤ m') : TailF W g T c0 m' := by
  obtain ⟨cs, h1, h0, h2⟩ := h
  exact ⟨cs, h1, h0, fun i hi => h2 i (by omega)⟩
theorem TailF.keep {W W' : World} {g : Nat} {T : TypeId} {c0 : List Value} {m : Nat} {S : List Nat} (h : TailF W g T c0 m) (ho : Only S W W') (hg : g ∉ S) : TailF W' g T c0 m := by
  obtain ⟨cs, h1, h0, h2⟩ := h
  exact ⟨cs, (ho.2.2.2.2 g (Array.getElem?_eq_some_iff.1 h1).1 hg).trans h1, h0, h2⟩
theorem TailF.frozen {W : World} {g : Nat} {T : TypeId} {c0 : List Value} {m : Nat} (h : TailF W g T c0 m) (i : Nat) : W.frozen? ⟨g, i, none⟩ = false := by
  obtain ⟨cs, h1, _⟩ := h
  exact Lib.frozen_of_heap h1 _
theorem TailF.cell {α : Type} {f : α → List Value} {k : Nat} (hf : ∀ x, (f x).length = k) {r : List Value} {W : World} {g : Nat} {T : TypeId} {l : List α} {j : Nat} (h : TailF W g T (l.flatMap f ++ r) (j * k)) {x : α} (hj : l[j]? = some x) {i : Nat} {v : Value} (e : (f x)[i]? = some v) : W.cell? ⟨g, j * k + i, none⟩ = some v := by
  obtain ⟨cs, h1, _, h2⟩ := h
  rw [Lib.cell_of_heap h1]
  have hi : i < k := by rw [← hf x]; exact (List.getElem?_eq_some_iff.1 e).1
  show cs.toArray[j * k + i]? = _
  rw [List.getElem?_toArray, h2 _ (by omega), flatC_at hf r l j x i hj hi, e]
theorem nd_any {α : Type} {bl : α → List Nat} {g : Nat} {l : List α} (h : (g :: l.flatMap bl).Nodup) {j : Nat} (hj : j < l.length) : g ∉ bl l[j] ∧ (bl l[j]).Nodup ∧ (∀ y ∈ l.drop (j + 1), ∀ b ∈ bl y, b ∉ bl l[j] ∧ b ≠ g) ∧ (∀ b ∈ bl l[j], b ∈ l.flatMap bl) := by
  have hm : ∀ x ∈ l, ∀ b ∈ bl x, b ∈ l.flatMap bl := fun x hx b hb => List.mem_flatMap.2 ⟨x, hx, hb⟩
  obtain ⟨h1, h2⟩ := List.nodup_cons.1 h
  have e : l = l.take j ++ l[j] :: l.drop (j + 1) := by rw [← List.drop_eq_getElem_cons hj, List.take_append_drop]
  have h3 : ((l.take j).flatMap bl ++ (bl l[j] ++ (l.drop (j + 1)).flatMap bl)).Nodup := by
    have : l.flatMap bl = (l.take j).flatMap bl ++ (bl l[j] ++ (l.drop (j + 1)).flatMap bl) := by
      conv => lhs; rw [e]
      simp only [List.flatMap_append, List.flatMap_cons]
    rw [← this]; exact h2
  have h4 := (List.nodup_append.1 h3).2.1
  obtain ⟨h5, _, h6⟩ := List.nodup_append.1 h4
  refine ⟨fun hb => h1 (hm _ (List.getElem_mem hj) g hb), h5, fun y hy b hb => ⟨fun hx => ?_, fun hg => ?_⟩, hm _ (List.getElem_mem hj)⟩
  · exact h6 b hx b (List.mem_flatMap.2 ⟨y, hy, hb⟩) rfl
  · exact h1 (hg ▸ hm y (List.mem_of_mem_drop hy) b hb)
theorem Ex.Cp.only {W W' : World} {S : List Nat} {x : Ex} (h : x.Cp W) (ho : Only S W W') (hd : ∀ b ∈ x.bl, b ∉ S) : x.Cp W' := h.kept fun b hb => ho.2.2.2.2 b (Ex.Cp.lt _ x (Nat.le_refl _) h b hb) (hd b hb)
theorem St.Cp.only {W W' : World} {S : List Nat} {x : St} (h : x.Cp W) (ho : Only S W W') (hd : ∀ b ∈ x.bl, b ∉ S) : x.Cp W' := h.kept fun b hb => ho.2.2.2.2 b ((cp_lt _).1 x (Nat.le_refl _) h b hb) (hd b hb)
theorem Ca.Cp.only {W W' : World} {S : List Nat} {x : Ca} (h : x.Cp W) (ho : Only S W W') (hd : ∀ b ∈ x.bl, b ∉ S) : x.Cp W' := h.kept fun b hb => ho.2.2.2.2 b ((cp_lt _).2 x (Nat.le_refl _) h b hb) (hd b hb)
theorem RowCp.only {W W' : World} {S : List Nat} {a : Option Addr} {c n B : Nat} {T : TypeId} {cs : List Value} (h : RowCp W a c n B T cs) (ho : Only S W W') (hd : blk a ∉ S) : RowCp W' a c n B T cs := h.keep (ho.2.2.2.2 _ h.lt hd)
theorem Only.app {S S' : List Nat} {A B C : World} (h : Only S A B) (k : Only S' B C) : Only (S ++ S') A C := (h.mono fun _ e => List.mem_append_left _ e).trans (k.mono fun _ e => List.mem_append_right _ e)
/-- A list's part of what a statement has: its rows and what they have. -/
theorem nd_five {A B C D E : List Nat} (h : (A ++ (B ++ (C ++ (D ++ E)))).Nodup) : A.Nodup ∧ B.Nodup ∧ C.Nodup ∧ D.Nodup ∧ E.Nodup ∧ (∀ b ∈ B, b ∉ A) ∧ (∀ b ∈ C, b ∉ A ++ B) ∧ (∀ b ∈ D, b ∉ A ++ B ++ C) ∧ (∀ b ∈ E, b ∉ A ++ B ++ C ++ D) := by
  simp only [List.nodup_append, List.mem_append] at h ⊢
  obtain ⟨a, ⟨b, ⟨c, ⟨d, e, de⟩, cd⟩, bc⟩, ab⟩ := h
  refine ⟨a, b, c, d, e, fun x hx hy => ab x hy x (.inl hx) rfl, fun x hx hy => ?_, fun x hx hy => ?_, fun x hx hy => ?_⟩
  · rcases hy with hy | hy
    · exact ab x hy x (.inr (.inl hx)) rfl
    · exact bc x hy x (.inl hx) rfl
  · rcases hy with (hy | hy) | hy
    · exact ab x hy x (.inr (.inr (.inl hx))) rfl
    · exact bc x hy x (.inr (.inl hx)) rfl
    · exact cd x hy x (.inl hx) rfl
  · rcases hy with ((hy | hy) | hy) | hy
    · exact ab x hy x (.inr (.inr (.inr hx))) rfl
    · exact bc x hy x (.inr (.inr hx)) rfl
    · exact cd x hy x (.inr hx) rfl
    · exact de x hy x hx rfl
end Go.Proofs.YtkkcgkpbbngloaaDoor

/- Copies are written over: statements. -/
namespace Go.Proofs.YtkkcgkpbbngloaaDoor
open Go.RowKit Go.Sort

abbrev SpOk (n : Nat) : Prop := ∀ (l : List St) (a : Option Addr) (c : Nat) (w : World), ssz l < n → RowCp w a c l.length 216 44 (l.flatMap St.cells ++ senS) → (∀ x ∈ l, x.Cp w) → (blk a :: blS l).Nodup → Calls Tryd.prog 28 #[.slice a l.length c] w fun e w' => e = .returned (.tuple #[]) ∧ Only (blk a :: blS l) w w'
set_option maxRecDepth 100000 in
set_option maxHeartbeats 8000000 in
theorem spoilS_step (n : Nat) (ih : SpOk n) (l : List St) (a : Option Addr) (c : Nat) (w : World) (hk : ssz l ≤ n) (hr : RowCp w a c l.length 216 44 (l.flatMap St.cells ++ senS)) (hc : ∀ x ∈ l, x.Cp w) (hnd : (blk a :: blS l).Nodup) : Calls Tryd.prog 28 #[.slice a l.length c] w fun e w' => e = .returned (.tuple #[]) ∧ Only (blk a :: blS l) w w' := by
  have IH : Hid (SpOk n) := ih
  have HK : Hid (ssz l ≤ n) := hk
  have HC : Hid (∀ x ∈ l, x.Cp w) := hc
  obtain ⟨g, rfl, rfl, hcb, hg⟩ := hr
  have HND : Hid ((g :: l.flatMap St.bl).Nodup) := by rw [← blS_map]; exact hnd
  have HG : Hid (TailF w g 44 (l.flatMap St.cells ++ senS) (0 * 14)) := ⟨_, hg, rfl, fun i _ => rfl⟩
  clear ih hk hc hnd hg
  go_enter Tryd.func28, Tryd.ntmps28
  go_wp2_with fail
  go_loopw [2] (fun t wr => ∃ (j : Nat), j ≤ l.length ∧ t = .int .i64 j ∧ TailF wr g 44 (l.flatMap St.cells ++ senS) (j * 14) ∧ (∀ x ∈ l.drop j, x.Cp wr) ∧ Only (g :: blS l) w wr) (fun t _ => l.length - (intOf t).toNat)
  case atStart => exact ⟨0, Nat.zero_le _, rfl, HG.out, by simpa using HC.out, Only.refl _ w⟩
  case round =>
    obtain ⟨j, hj, rfl, htl, hcp, hon⟩ := hrel
    by_cases hlt : j < l.length
    · have hli : (j : Int) < (l.length : Int) := by omega
      obtain ⟨n1, n2, n3, n4⟩ := nd_any HND.out hlt
      have hdr : l.drop j = l[j] :: l.drop (j + 1) := List.drop_eq_getElem_cons hlt
      have hxc : l[j].Cp wr := hcp l[j] (by rw [hdr]; exact List.mem_cons_self)
      have HXJ : Hid (l[j]? = some l[j]) := List.getElem?_eq_getElem hlt
      have HZ : Hid (l[j].sz ≤ n) := Nat.le_trans (ssz_mem (List.getElem_mem hlt)) HK.out
      have N1 : Hid (g ∉ l[j].bl) := n1
      have N3 : Hid (∀ y ∈ l.drop (j + 1), ∀ b ∈ y.bl, b ∉ l[j].bl ∧ b ≠ g) := n3
      have N4 : Hid (∀ b ∈ l[j].bl, b ∈ blS l) := by rw [blS_map]; exact n4
      have HCP : Hid (∀ y ∈ l.drop (j + 1), y.Cp wr) := fun y hy => hcp y (by rw [hdr]; exact List.mem_cons_of_mem _ hy)
      have HON : Hid (Only (g :: blS l) w wr) := hon
      have HTL : Hid (TailF wr g 44 (l.flatMap St.cells ++ senS) (j * 14)) := htl
      clear n1 n3 n4 hdr hcp hon htl
      generalize l[j] = s at *
      have CX : Hid (∀ w', Only s.bl wr w' → ∀ (i : Nat) v, s.cells[i]? = some v → w'.cell? ⟨g, j * 14 + i, none⟩ = some v) := fun w' h i v e => (HTL.out.keep h N1.out).cell (f := St.cells) (fun _ => rfl) HXJ.out e
      rw [St.bl_eq] at n2
      obtain ⟨nA, nB, nC, nD, nE, dB, dC, dD, dE⟩ := nd_five n2
      obtain ⟨_, _, _, x4, x5, x6, x7, x8, x9, x10, x11⟩ := St.cp_iff.1 hxc
      have mA : ∀ b ∈ s.a.bl, b ∈ s.bl := fun b hb => by rw [St.bl_eq]; simp only [List.mem_append]; exact .inl hb
      have mB : ∀ b ∈ s.a.bl ++ s.b.bl, b ∈ s.bl := fun b hb => by rw [St.bl_eq]; simp only [List.mem_append] at hb ⊢; rcases hb with h | h <;> simp only [h, true_or, or_true]
      have mC : ∀ b ∈ s.a.bl ++ s.b.bl ++ (blk s.ba :: blS s.body), b ∈ s.bl := fun b hb => by rw [St.bl_eq]; simp only [List.mem_append] at hb ⊢; rcases hb with (h | h) | h <;> simp only [h, true_or, or_true]
      have mD : ∀ b ∈ s.a.bl ++ s.b.bl ++ (blk s.ba :: blS s.body) ++ (blk s.ea :: blS s.els), b ∈ s.bl := fun b hb => by rw [St.bl_eq]; simp only [List.mem_append] at hb ⊢; rcases hb with ((h | h) | h) | h <;> simp only [h, true_or, or_true]
      have mE : ∀ b ∈ (blk s.ca :: s.cases.flatMap Ca.bl), b ∈ s.bl := fun b hb => by rw [← blC_map] at hb; rw [St.bl_eq]; simp only [List.mem_append]; exact .inr (.inr (.inr (.inr hb)))
      have MA := show Hid _ from mA
      have MB := show Hid _ from mB
      have MC := show Hid _ from mC
      have MD := show Hid _ from mD
      have ME := show Hid _ from mE
      have HE1 : Hid (Calls Tryd.prog 43 #[.slice s.a.a s.a.args.length s.a.cap] wr fun e w'' => e = .returned (.tuple #[]) ∧ Only s.a.bl wr w'') := spoilE_any _ _ x4 nA
      have HE2 : Hid (∀ w', Only s.a.bl wr w' → Calls Tryd.prog 43 #[.slice s.b.a s.b.args.length s.b.cap] w' fun e w'' => e = .returned (.tuple #[]) ∧ Only s.b.bl w' w'') := fun w' h => spoilE_any _ _ (x5.only h dB) nB
      have HB1 : Hid (∀ w', Only (s.a.bl ++ s.b.bl) wr w' → Calls Tryd.prog 28 #[.slice s.ba s.body.length s.bc] w' fun e w'' => e = .returned (.tuple #[]) ∧ Only (blk s.ba :: blS s.body) w' w'') := fun w' h =>
        IH.out _ _ _ w' (by have := HZ.out; have := s.sz_eq; omega) (x6.only h (dC _ List.mem_cons_self)) (fun y hy => (x9 y hy).only h fun b hb => dC b (List.mem_cons_of_mem _ (by rw [blS_map]; exact List.mem_flatMap.2 ⟨y, hy, hb⟩))) nC
      have HB2 : Hid (∀ w', Only (s.a.bl ++ s.b.bl ++ (blk s.ba :: blS s.body)) wr w' → Calls Tryd.prog 28 #[.slice s.ea s.els.length s.ec] w' fun e w'' => e = .returned (.tuple #[]) ∧ Only (blk s.ea :: blS s.els) w' w'') := fun w' h =>
        IH.out _ _ _ w' (by have := HZ.out; have := s.sz_eq; omega) (x7.only h (dD _ List.mem_cons_self)) (fun y hy => (x10 y hy).only h fun b hb => dD b (List.mem_cons_of_mem _ (by rw [blS_map]; exact List.mem_flatMap.2 ⟨y, hy, hb⟩))) nD
      have X8 : Hid (∀ w', Only (s.a.bl ++ s.b.bl ++ (blk s.ba :: blS s.body) ++ (blk s.ea :: blS s.els)) wr w' → RowCp w' s.ca s.cc s.cases.length 32 64 (s.cases.flatMap Ca.cells ++ senC) ∧ ∀ y ∈ s.cases, y.Cp w') := fun w' h =>
        ⟨x8.only h (dE _ List.mem_cons_self), fun y hy => (x11 y hy).only h fun b hb => dE b (List.mem_cons_of_mem _ (by rw [blC_map]; exact List.mem_flatMap.2 ⟨y, hy, hb⟩))⟩
      have NE : Hid ((blk s.ca :: s.cases.flatMap Ca.bl).Nodup) := by rw [← blC_map]; exact nE
      clear nA nB nC nD nE dB dC dD dE x4 x5 x6 x7 x8 x9 x10 x11 n2 hxc mA mB mC mD mE
      have c6 := CX.out wr (Only.refl _ _) 6 _ rfl
      go_wp2_with fail
      refine HE1.out.mono ?_
      rintro e w1 ⟨rfl, o1⟩
      clear c6
      have c10 := CX.out w1 (o1.mono MA.out) 10 _ rfl
      go_wp2_with fail
      refine (HE2.out _ o1).mono ?_
      rintro e w2 ⟨rfl, o2'⟩
      have o2 := o1.app o2'
      clear c10 o1 o2'
      have c11 := CX.out w2 (o2.mono MB.out) 11 _ rfl
      go_wp2_with fail
      refine (HB1.out _ o2).mono ?_
      rintro e w3 ⟨rfl, o3'⟩
      have o3 := o2.app o3'
      clear c11 o2 o3'
      have c12 := CX.out w3 (o3.mono MC.out) 12 _ rfl
      go_wp2_with fail
      refine (HB2.out _ o3).mono ?_
      rintro e w4 ⟨rfl, o4'⟩
      have o4 := o3.app o4'
      clear c12 o3 o4'
      obtain ⟨hr8, hc8⟩ := X8.out w4 o4
      obtain ⟨gc, hca, hcc, hcb8, hg8⟩ := hr8
      have HCA : Hid (s.ca = some ⟨gc, 0, none⟩ ∧ s.cc = s.cases.length + 1) := ⟨hca, hcc⟩
      have HC8 : Hid (∀ y ∈ s.cases, y.Cp w4) := hc8
      have HT8 : Hid (TailF w4 gc 64 (s.cases.flatMap Ca.cells ++ senC) (0 * 2)) := ⟨_, hg8, rfl, fun i _ => rfl⟩
      have O4 : Hid (Only s.bl wr w4) := o4.mono MD.out
      have NE' : Hid ((gc :: s.cases.flatMap Ca.bl).Nodup) := by have := NE.out; rw [hca] at this; exact this
      have ME' : Hid (∀ b ∈ gc :: s.cases.flatMap Ca.bl, b ∈ s.bl) := by have := ME.out; rw [hca] at this; exact this
      have hcl : s.cases.length + 1 ≤ s.cc := by omega
      clear hca hcc hc8 hg8 o4
      go_wp2_with fail
      generalize wr = WR at *
      go_loopw [3] (fun t wq => ∃ (i : Nat), i ≤ s.cases.length ∧ t = .int .i64 i ∧ TailF wq gc 64 (s.cases.flatMap Ca.cells ++ senC) (i * 2) ∧ (∀ y ∈ s.cases.drop i, y.Cp wq) ∧ Only s.bl WR wq) (fun t _ => s.cases.length - (intOf t).toNat)
      case atStart => exact ⟨0, Nat.zero_le _, rfl, HT8.out, by simpa using HC8.out, O4.out⟩
      case round =>
        obtain ⟨i, hi, rfl, htl, hcp, hon⟩ := hrel
        have c13 := CX.out _ hon 13 _ rfl
        by_cases hilt : i < s.cases.length
        · have hili : (i : Int) < (s.cases.length : Int) := by omega
          obtain ⟨n1, n2, n3, n4⟩ := nd_any NE'.out hilt
          have hdr : s.cases.drop i = s.cases[i] :: s.cases.drop (i + 1) := List.drop_eq_getElem_cons hilt
          have hyc : s.cases[i].Cp wr := hcp s.cases[i] (by rw [hdr]; exact List.mem_cons_self)
          have hyz := csz_mem (List.getElem_mem hilt)
          have hyj : s.cases[i]? = some s.cases[i] := List.getElem?_eq_getElem hilt
          have HYJ := show Hid _ from hyj
          have HON2 : Hid (Only s.bl WR wr) := hon
          have HCP2 : Hid (∀ y ∈ s.cases.drop (i + 1), y.Cp wr) := fun y hy => hcp y (by rw [hdr]; exact List.mem_cons_of_mem _ hy)
          have HTL2 : Hid (TailF wr gc 64 (s.cases.flatMap Ca.cells ++ senC) (i * 2)) := htl
          have M1 : Hid (gc ∉ s.cases[i].bl) := n1
          have M3 : Hid (∀ y ∈ s.cases.drop (i + 1), ∀ b ∈ y.bl, b ∉ s.cases[i].bl ∧ b ≠ gc) := n3
          have M4 : Hid (∀ b ∈ s.cases[i].bl, b ∈ s.bl) := fun b hb => ME'.out b (List.mem_cons_of_mem _ (n4 b hb))
          have MG : Hid (gc ∈ s.bl) := ME'.out gc List.mem_cons_self
          clear n1 n3 n4 hdr hcp hon htl hyj
          rw [HCA.out.1, HCA.out.2] at c13
          have d1 := HTL2.out.cell (f := Ca.cells) (fun _ => rfl) HYJ.out (i := 1) rfl
          generalize s.cases[i] = y at *
          have HQ : Hid (Calls Tryd.prog 28 #[.slice y.ba y.body.length y.bc] wr fun e w'' => e = .returned (.tuple #[]) ∧ Only y.bl wr w'') := by
            have h4 := Ca.cp_iff.1 hyc
            have h2 := y.sz_eq
            have h3 := s.sz_eq
            have := IH.out _ _ _ wr (by have := HZ.out; omega) h4.2.1 h4.2.2 (by rw [← Ca.bl_eq]; exact n2)
            rw [← Ca.bl_eq] at this
            exact this
          clear n2 hyc hyz
          go_wp2_with fail
          refine HQ.out.mono ?_
          rintro e w6 ⟨rfl, o6⟩
          clear c13 d1
          have c13 := CX.out _ (HON2.out.trans (o6.mono M4.out)) 13 _ rfl
          rw [HCA.out.1, HCA.out.2] at c13
          have ht6 := HTL2.out.keep o6 M1.out
          have d0 := ht6.cell (f := Ca.cells) (fun _ => rfl) HYJ.out (i := 0) rfl
          have d1 := ht6.cell (f := Ca.cells) (fun _ => rfl) HYJ.out (i := 1) rfl
          have q0 := ht6.frozen (i * 2)
          have q1 := ht6.frozen (i * 2 + 1)
          simp only [Nat.add_zero] at d0
          have HT6 : Hid (TailF w6 gc 64 (s.cases.flatMap Ca.cells ++ senC) ((i + 1) * 2)) := ht6.mono (by omega)
          have O6 : Hid (Only y.bl wr w6) := o6
          clear ht6 o6
          go_wp2_with fail
          go_roundw
          case rel =>
            refine ⟨i + 1, by omega, by go_num, (HT6.out.set (by omega) _).set (by omega) _, fun z hz => ?_, ((HON2.out.trans (O6.out.mono M4.out)).set MG.out _ _).set MG.out _ _⟩
            have hz' := HCP2.out z hz
            refine hz'.kept fun b hb => ?_
            have hne := (M3.out z hz b hb).2
            rw [Below.heap_setCell _ _ _ _ hne, Below.heap_setCell _ _ _ _ hne]
            exact O6.out.2.2.2.2 b ((cp_lt _).2 z (Nat.le_refl _) hz' b hb) (M3.out z hz b hb).1
          case measure => simp [intOf]; omega
        · obtain rfl : i = s.cases.length := by omega
          have ht := HTL.out.keep hon N1.out
          have d0 := ht.cell (f := St.cells) (fun _ => rfl) HXJ.out (i := 0) rfl
          have q0 := ht.frozen (j * 14)
          have d1 := ht.cell (f := St.cells) (fun _ => rfl) HXJ.out (i := 1) rfl
          have q1 := ht.frozen (j * 14 + 1)
          have d2 := ht.cell (f := St.cells) (fun _ => rfl) HXJ.out (i := 2) rfl
          have q2 := ht.frozen (j * 14 + 2)
          have d3 := ht.cell (f := St.cells) (fun _ => rfl) HXJ.out (i := 3) rfl
          have q3 := ht.frozen (j * 14 + 3)
          have d4 := ht.cell (f := St.cells) (fun _ => rfl) HXJ.out (i := 4) rfl
          have q4 := ht.frozen (j * 14 + 4)
          have d5 := ht.cell (f := St.cells) (fun _ => rfl) HXJ.out (i := 5) rfl
          have q5 := ht.frozen (j * 14 + 5)
          have d6 := ht.cell (f := St.cells) (fun _ => rfl) HXJ.out (i := 6) rfl
          have q6 := ht.frozen (j * 14 + 6)
          have d7 := ht.cell (f := St.cells) (fun _ => rfl) HXJ.out (i := 7) rfl
          have q7 := ht.frozen (j * 14 + 7)
          have d8 := ht.cell (f := St.cells) (fun _ => rfl) HXJ.out (i := 8) rfl
          have q8 := ht.frozen (j * 14 + 8)
          have d9 := ht.cell (f := St.cells) (fun _ => rfl) HXJ.out (i := 9) rfl
          have q9 := ht.frozen (j * 14 + 9)
          have d10 := ht.cell (f := St.cells) (fun _ => rfl) HXJ.out (i := 10) rfl
          have q10 := ht.frozen (j * 14 + 10)
          have d11 := ht.cell (f := St.cells) (fun _ => rfl) HXJ.out (i := 11) rfl
          have q11 := ht.frozen (j * 14 + 11)
          have d12 := ht.cell (f := St.cells) (fun _ => rfl) HXJ.out (i := 12) rfl
          have q12 := ht.frozen (j * 14 + 12)
          have d13 := ht.cell (f := St.cells) (fun _ => rfl) HXJ.out (i := 13) rfl
          have q13 := ht.frozen (j * 14 + 13)
          simp only [Nat.add_zero] at d0
          have HT6 : Hid (TailF wr g 44 (l.flatMap St.cells ++ senS) ((j + 1) * 14)) := ht.mono (by omega)
          have O6 : Hid (Only s.bl WR wr) := hon
          clear ht hon hcp htl
          go_wp2_with fail
          go_roundw
          case rel =>
            refine ⟨j + 1, by omega, by go_num, ((((((((((((((HT6.out.set (by omega) _).set (by omega) _).set (by omega) _).set (by omega) _).set (by omega) _).set (by omega) _).set (by omega) _).set (by omega) _).set (by omega) _).set (by omega) _).set (by omega) _).set (by omega) _).set (by omega) _).set (by omega) _), fun z hz => ?_, ((((((((((((((((HON.out.trans (O6.out.mono fun k hk => List.mem_cons_of_mem _ (N4.out k hk)))).set List.mem_cons_self _ _).set List.mem_cons_self _ _).set List.mem_cons_self _ _).set List.mem_cons_self _ _).set List.mem_cons_self _ _).set List.mem_cons_self _ _).set List.mem_cons_self _ _).set List.mem_cons_self _ _).set List.mem_cons_self _ _).set List.mem_cons_self _ _).set List.mem_cons_self _ _).set List.mem_cons_self _ _).set List.mem_cons_self _ _).set List.mem_cons_self _ _)⟩
            have hz' := HCP.out z hz
            refine hz'.kept fun b hb => ?_
            have hne := (N3.out z hz b hb).2
            rw [Below.heap_setCell _ _ _ _ hne, Below.heap_setCell _ _ _ _ hne, Below.heap_setCell _ _ _ _ hne, Below.heap_setCell _ _ _ _ hne, Below.heap_setCell _ _ _ _ hne, Below.heap_setCell _ _ _ _ hne, Below.heap_setCell _ _ _ _ hne, Below.heap_setCell _ _ _ _ hne, Below.heap_setCell _ _ _ _ hne, Below.heap_setCell _ _ _ _ hne, Below.heap_setCell _ _ _ _ hne, Below.heap_setCell _ _ _ _ hne, Below.heap_setCell _ _ _ _ hne, Below.heap_setCell _ _ _ _ hne]
            exact O6.out.2.2.2.2 b ((cp_lt _).1 z (Nat.le_refl _) hz' b hb) (N3.out z hz b hb).1
          case measure => simp [intOf]; omega
    · obtain rfl : j = l.length := by omega
      go_wp2_with fail
      go_end0
      exact ⟨rfl, by rw [show blk (some ⟨g, 0, none⟩) = g from rfl]; exact hon⟩
theorem spoilS_k (n : Nat) : SpOk n := by
  induction n with
  | zero => intro l a c w h; omega
  | succ n ih => exact fun l a c w h => spoilS_step n ih l a c w (by omega)
theorem spoilS_any (l : List St) (a : Option Addr) (c : Nat) (w : World) (hr : RowCp w a c l.length 216 44 (l.flatMap St.cells ++ senS)) (hc : ∀ x ∈ l, x.Cp w) (hn : (blk a :: blS l).Nodup) : Calls Tryd.prog 28 #[.slice a l.length c] w fun e w' => e = .returned (.tuple #[]) ∧ Only (blk a :: blS l) w w' := spoilS_k (ssz l + 1) l a c w (by omega) hr hc hn
end Go.Proofs.YtkkcgkpbbngloaaDoor

/- Does the room behind all lists of a copy read as it did? -/
namespace Go.Proofs.YtkkcgkpbbngloaaDoor
open Go.RowKit Go.Sort

theorem Fu.Cp.lt {W : World} {f : Fu} (h : f.Cp W) : ∀ b ∈ f.bl, b < W.heap.size := by
  obtain ⟨_, h2, _, h4, h5⟩ := h
  intro b hb
  unfold Fu.bl at hb
  rcases List.mem_cons.1 hb with rfl | hb
  · exact h2.lt
  rcases List.mem_cons.1 hb with rfl | hb
  · exact h4.lt
  rw [blS_map] at hb
  obtain ⟨x, hx, hb⟩ := List.mem_flatMap.1 hb
  exact (cp_lt _).1 x (Nat.le_refl _) (h5 x hx) b hb
theorem Fu.Cp.stay {W W' : World} {f : Fu} (h : f.Cp W) (hb : Below W.heap.size W W') : f.Cp W' := h.kept fun b hx => hb.block b (h.lt b hx)
theorem RowCp.behind {α : Type} {f : α → List Value} {k : Nat} (hf : ∀ x, (f x).length = k) {W : World} {a : Option Addr} {c B : Nat} {T : TypeId} {l : List α} {r : List Value} (h : RowCp W a c l.length B T (l.flatMap f ++ r)) : ∃ g, a = some ⟨g, 0, none⟩ ∧ c = l.length + 1 ∧ c * B ≤ 140737488351232 ∧ ∀ (i : Nat) v, r[i]? = some v → W.cell? ⟨g, l.length * k + i, none⟩ = some v := by
  obtain ⟨g, h1, h2, h3, h4⟩ := h
  refine ⟨g, h1, h2, h3, fun i v e => ?_⟩
  rw [Lib.cell_of_heap h4]
  show (l.flatMap f ++ r).toArray[l.length * k + i]? = _
  have : (l.flatMap f).length = l.length * k := flat_len hf l
  rw [List.getElem?_toArray, List.getElem?_append_right (by omega), this, show l.length * k + i - l.length * k = i by omega, e]

set_option maxRecDepth 100000 in
set_option maxHeartbeats 1200000 in
theorem room_any (p : Pr) (w : World) (h : p.Cp w) : Calls Tryd.prog 17 #[p.val] w fun e w' => e = .returned (.bool true) ∧ Below w.heap.size w w' := by
  obtain ⟨h1, h2, h3, h4⟩ := h
  have HR : Hid (RowIn w p.fa 3 (List.map Fu.cells p.funcs)) := h3.row (k := 3) (fun _ => rfl)
  have HS : Hid (∀ f ∈ p.funcs, f.Cp w) := h4
  obtain ⟨gw, ew, lw, bw, cw⟩ := h1.behind (k := 1) (fun _ => rfl)
  obtain ⟨gf, ef, lf, bf, cf⟩ := h3.behind (k := 3) (fun _ => rfl)
  have cw0 := cw 0 _ rfl
  have cf0 := cf 0 _ rfl
  have cf1 := cf 1 _ rfl
  have cf2 := cf 2 _ rfl
  simp only [Nat.add_zero, Nat.mul_one] at cw0 cf0
  have CW0 := show Hid _ from cw0
  have CF0 := show Hid _ from cf0
  clear h1 h2 h3 h4 cw cf cw0 cf0 cf1 cf2
  unfold Pr.val
  rw [ew, ef, lw, lf]
  rw [ef] at HR
  obtain ⟨W1, hW1⟩ : ∃ W1, w.alloc (.cells #[.slice (some ⟨gw, 0, none⟩) p.widen.length (p.widen.length + 1), .slice (some ⟨gf, 0, none⟩) p.funcs.length (p.funcs.length + 1)] 26) = W1 := ⟨_, rfl⟩
  have HW1 := show Hid _ from hW1
  have hb1 : Below w.heap.size w W1 := by rw [← hW1]; exact (Below.refl _ w).alloc (Nat.le_refl _) _
  have hc : ∀ (j : Nat) v, (#[.slice (some ⟨gw, 0, none⟩) p.widen.length (p.widen.length + 1), .slice (some ⟨gf, 0, none⟩) p.funcs.length (p.funcs.length + 1)] : Array Value)[j]? = some v → ∀ w', Below W1.heap.size W1 w' → w'.cell? ⟨w.heap.size, j, none⟩ = some v := fun j v e w' h => by
    refine (h.cell (p := ⟨w.heap.size, j, none⟩) (by rw [← hW1]; simp)).trans ?_
    rw [← hW1, World.cell?_alloc_at _ _ _ _ rfl]; exact e
  have CX := show Hid _ from hc 1 _ rfl
  have CW := show Hid _ from hc 0 _ rfl
  have HB1 : Hid (Below w.heap.size w W1) := hb1
  rw [lw] at bw
  rw [lf] at bf
  clear hW1 hc hb1 ew ef lw lf
  go_enter Tryd.func17, Tryd.ntmps17
  go_wp2_with fail
  rw [HW1.out]
  clear HW1
  obtain ⟨Z, hZ⟩ : ∃ Z, w.heap.size = Z := ⟨_, rfl⟩
  have HW : Hid (w.heap.size = Z) := hZ
  rw [hZ] at CX CW ⊢
  clear hZ
  go_loopw [3] (fun t wr => ∃ (j : Nat), j ≤ p.funcs.length ∧ t = .int .i64 j ∧ Below W1.heap.size W1 wr) (fun t _ => p.funcs.length - (intOf t).toNat)
  case atStart => exact ⟨0, Nat.zero_le _, rfl, Below.refl _ _⟩
  case round =>
    obtain ⟨j, hj, rfl, hb⟩ := hrel
    have hws := hb.size
    have hbw : Below w.heap.size w wr := Below.on HB1.out hb
    have c1 := CX.out _ hb
    by_cases hlt : j < p.funcs.length
    · have hli : (j : Int) < (p.funcs.length : Int) := by omega
      obtain ⟨b, o, hfa, d0, d1, d2⟩ := rowF_at (HR.out.below hbw) hlt
      obtain ⟨rfl, rfl⟩ : gf = b ∧ 0 = o := by simpa using hfa
      clear hfa
      simp only [Nat.zero_add] at d0 d1 d2
      have hfc := (HS.out p.funcs[j] (List.getElem_mem hlt)).stay hbw
      generalize p.funcs[j] = f at *
      obtain ⟨f1, f2, f3, f4, f5⟩ := hfc
      obtain ⟨gp, ep, lp, bp, cp⟩ := f2.behind (k := 3) (fun _ => rfl)
      have HB : Hid (∀ w', Below wr.heap.size wr w' → Calls Tryd.prog 27 #[.slice f.ba f.body.length f.bc] w' fun e w'' => e = .returned (.bool true) ∧ Below w'.heap.size w' w'') := fun w' h => roomS_any _ _ _ w' (f4.stay h) fun x hx => (f5 x hx).stay h
      have e0 := cp 0 _ rfl
      have e1 := cp 1 _ rfl
      have e2 := cp 2 _ rfl
      simp only [Nat.add_zero] at e0
      rw [ep, lp] at d1
      rw [lp] at bp
      clear cp ep lp f2 f3 f4 f5
      have HBR : Hid (Below W1.heap.size W1 wr) := hb
      have hlp := lt_of_cell e0
      go_wp2_with fail
      refine (HB.out _ ?_).mono ?_
      · exact (Below.refl _ _).alloc (Nat.le_refl _) _
      rintro e w' ⟨rfl, hb'⟩
      have HB' : Hid (Below W1.heap.size W1 w') := Below.on HBR.out (Below.on ((Below.refl _ _).alloc (Nat.le_refl _) _) hb')
      clear hb' hb c1 d0 d1 d2 e0 e1 e2
      go_wp2_with fail
      go_roundw
      case rel => exact ⟨j + 1, by omega, by go_num, HB'.out⟩
      case measure => simp [intOf]; omega
    · obtain rfl : j = p.funcs.length := by omega
      have c0 := CW.out _ hb
      have x0 := (hbw.cell (lt_of_cell CW0.out)).trans CW0.out
      have x1 := (hbw.cell (lt_of_cell CF0.out)).trans CF0.out
      go_wp2_with fail
      go_ret
      exact ⟨rfl, hbw⟩
end Go.Proofs.YtkkcgkpbbngloaaDoor

/- A copy is written over. -/
namespace Go.Proofs.YtkkcgkpbbngloaaDoor
open Go.RowKit Go.Sort

theorem Fu.Cp.only {W W' : World} {S : List Nat} {x : Fu} (h : x.Cp W) (ho : Only S W W') (hd : ∀ b ∈ x.bl, b ∉ S) : x.Cp W' := h.kept fun b hb => ho.2.2.2.2 b (h.lt b hb) (hd b hb)
theorem Only.cell {S : List Nat} {W W' : World} (h : Only S W W') {Z i : Nat} {v : Value} (hz : Z ∉ S) (e : W.cell? ⟨Z, i, none⟩ = some v) : W'.cell? ⟨Z, i, none⟩ = some v := by
  rw [← e]
  unfold World.cell?
  rw [show W'.heap[Z]? = W.heap[Z]? from h.2.2.2.2 Z (lt_of_cell e) hz]

set_option maxRecDepth 100000 in
set_option maxHeartbeats 1200000 in
theorem spoil_any (p : Pr) (w : World) (h : p.Cp w) (hn : p.bl.Nodup) : Calls Tryd.prog 18 #[p.val] w fun e w' => e = .returned (.tuple #[]) ∧ Only p.bl w w' := by
  obtain ⟨h1, h2, h3, h4⟩ := h
  have l1 := h1.lt
  have l2 := h3.lt
  obtain ⟨gw, ew, lw, bw, cw⟩ := h1
  obtain ⟨gf, ef, lf, bf, cf⟩ := h3
  have hbl : p.bl = gw :: gf :: p.funcs.flatMap Fu.bl := by unfold Pr.bl; rw [ew, ef]; rfl
  have hblt : ∀ b ∈ p.bl, b < w.heap.size := by
    intro b hb
    rw [hbl] at hb
    rw [ew] at l1
    rw [ef] at l2
    rcases List.mem_cons.1 hb with rfl | hb
    · exact l1
    rcases List.mem_cons.1 hb with rfl | hb
    · exact l2
    obtain ⟨f, hf, hb⟩ := List.mem_flatMap.1 hb
    exact (h4 f hf).lt b hb
  have HBL := show Hid _ from hbl
  have HLT := show Hid _ from hblt
  have HN : Hid ((gw :: gf :: p.funcs.flatMap Fu.bl).Nodup) := by rw [← hbl]; exact hn
  unfold Pr.val
  rw [ew, ef, lw, lf]
  obtain ⟨W1, hW1⟩ : ∃ W1, w.alloc (.cells #[.slice (some ⟨gw, 0, none⟩) p.widen.length (p.widen.length + 1), .slice (some ⟨gf, 0, none⟩) p.funcs.length (p.funcs.length + 1)] 26) = W1 := ⟨_, rfl⟩
  have HW1 := show Hid _ from hW1
  have hb1 : Below w.heap.size w W1 := by rw [← hW1]; exact (Below.refl _ w).alloc (Nat.le_refl _) _
  have hc : ∀ (j : Nat) v, (#[.slice (some ⟨gw, 0, none⟩) p.widen.length (p.widen.length + 1), .slice (some ⟨gf, 0, none⟩) p.funcs.length (p.funcs.length + 1)] : Array Value)[j]? = some v → ∀ w', Only p.bl W1 w' → w'.cell? ⟨w.heap.size, j, none⟩ = some v := fun j v e w' h => by
    refine h.cell (fun hz => by have := HLT.out _ hz; omega) ?_
    rw [← hW1, World.cell?_alloc_at _ _ _ _ rfl]; exact e
  have CX := show Hid _ from hc 1 _ rfl
  have CW := show Hid _ from hc 0 _ rfl
  have HB1 : Hid (Only p.bl w W1) := Only.of_below hb1
  have HTW : Hid (TailF W1 gw 2 (p.widen.flatMap cI ++ [.int .i64 (-77)]) (0 * 1)) := ⟨_, (hb1.block gw (by rw [ew] at l1; exact l1)).trans cw, rfl, fun _ _ => rfl⟩
  have HTF : Hid (TailF W1 gf 37 (p.funcs.flatMap Fu.cells ++ senF) (0 * 3)) := ⟨_, (hb1.block gf (by rw [ef] at l2; exact l2)).trans cf, rfl, fun _ _ => rfl⟩
  have HS : Hid (∀ f ∈ p.funcs, f.Cp W1) := fun f hf => (h4 f hf).stay hb1
  rw [lw] at bw
  rw [lf] at bf
  clear hW1 hc hb1 ew ef lw lf l1 l2 h2 h4 cw cf hbl hblt hn
  go_enter Tryd.func18, Tryd.ntmps18
  go_wp2_with fail
  rw [HW1.out]
  clear HW1
  obtain ⟨Z, hZ⟩ : ∃ Z, w.heap.size = Z := ⟨_, rfl⟩
  have HW : Hid (w.heap.size = Z) := hZ
  rw [hZ] at CX CW ⊢
  clear hZ
  go_loopw [2] (fun t wr => ∃ (i : Nat), i ≤ p.widen.length ∧ t = .int .i64 i ∧ TailF wr gw 2 (p.widen.flatMap cI ++ [.int .i64 (-77)]) (i * 1) ∧ Only [gw] W1 wr) (fun t _ => p.widen.length - (intOf t).toNat)
  case atStart => exact ⟨0, Nat.zero_le _, rfl, HTW.out, Only.refl _ _⟩
  case round =>
    obtain ⟨i, hi, rfl, htl, hon⟩ := hrel
    have c0 := CW.out _ (hon.mono (by rw [HBL.out]; simp))
    by_cases hlt : i < p.widen.length
    · have hli : (i : Int) < (p.widen.length : Int) := by omega
      have d0 := htl.cell (f := cI) (fun _ => rfl) (List.getElem?_eq_getElem hlt) (i := 0) rfl
      have q0 := htl.frozen i
      simp only [Nat.mul_one, Nat.add_zero] at d0
      have HT : Hid (TailF wr gw 2 (p.widen.flatMap cI ++ [.int .i64 (-77)]) (i * 1)) := htl
      have HO : Hid (Only [gw] W1 wr) := hon
      clear htl hon
      go_wp2_with fail
      go_roundw
      case rel => exact ⟨i + 1, by omega, by go_num, (HT.out.mono (by omega)).set (by omega) _, HO.out.set (by simp) _ _⟩
      case measure => simp [intOf]; omega
    · obtain rfl : i = p.widen.length := by omega
      have HO : Hid (Only [gw] W1 wr) := hon
      clear htl hon
      go_wp2_with fail
      generalize wr = WA at *
      go_loopw [3] (fun t wr => ∃ (j : Nat), j ≤ p.funcs.length ∧ t = .int .i64 j ∧ TailF wr gf 37 (p.funcs.flatMap Fu.cells ++ senF) (j * 3) ∧ (∀ f ∈ p.funcs.drop j, f.Cp wr) ∧ Only p.bl W1 wr) (fun t _ => p.funcs.length - (intOf t).toNat)
      case atStart =>
        obtain ⟨n1, _⟩ := List.nodup_cons.1 HN.out
        refine ⟨0, Nat.zero_le _, rfl, HTF.out.keep HO.out (by simp only [List.mem_singleton]; rintro rfl; exact n1 List.mem_cons_self), fun f hf => ?_, HO.out.mono (by rw [HBL.out]; simp)⟩
        have hf' : f ∈ p.funcs := by simpa using hf
        refine (HS.out f hf').only HO.out fun b hb => ?_
        simp only [List.mem_singleton]
        rintro rfl
        exact n1 (List.mem_cons_of_mem _ (List.mem_flatMap.2 ⟨f, hf', hb⟩))
      case round =>
        obtain ⟨j, hj, rfl, htl, hcp, hon⟩ := hrel
        have c1 := CX.out _ hon
        by_cases hlt : j < p.funcs.length
        · have hli : (j : Int) < (p.funcs.length : Int) := by omega
          obtain ⟨n1, n2, n3, n4⟩ := nd_any (List.nodup_cons.1 HN.out).2 hlt
          have hdr : p.funcs.drop j = p.funcs[j] :: p.funcs.drop (j + 1) := List.drop_eq_getElem_cons hlt
          have hfc : p.funcs[j].Cp wr := hcp p.funcs[j] (by rw [hdr]; exact List.mem_cons_self)
          have HXJ : Hid (p.funcs[j]? = some p.funcs[j]) := List.getElem?_eq_getElem hlt
          have N1 : Hid (gf ∉ p.funcs[j].bl) := n1
          have N3 : Hid (∀ y ∈ p.funcs.drop (j + 1), ∀ b ∈ y.bl, b ∉ p.funcs[j].bl ∧ b ≠ gf) := n3
          have M4 : Hid (∀ b ∈ p.funcs[j].bl, b ∈ p.bl) := fun b hb => by rw [HBL.out]; exact List.mem_cons_of_mem _ (List.mem_cons_of_mem _ (n4 b hb))
          have MGF : Hid (gf ∈ p.bl) := by rw [HBL.out]; exact List.mem_cons_of_mem _ List.mem_cons_self
          have HCP : Hid (∀ y ∈ p.funcs.drop (j + 1), y.Cp wr) := fun y hy => hcp y (by rw [hdr]; exact List.mem_cons_of_mem _ hy)
          have HON : Hid (Only p.bl W1 wr) := hon
          have HTL : Hid (TailF wr gf 37 (p.funcs.flatMap Fu.cells ++ senF) (j * 3)) := htl
          clear n1 n3 n4 hdr hcp hon htl
          generalize p.funcs[j] = f at *
          have CF : Hid (∀ w', Only f.bl wr w' → ∀ (i : Nat) v, f.cells[i]? = some v → w'.cell? ⟨gf, j * 3 + i, none⟩ = some v) := fun w' h i v e => (HTL.out.keep h N1.out).cell (f := Fu.cells) (fun _ => rfl) HXJ.out e
          obtain ⟨f1, f2, f3, f4, f5⟩ := hfc
          unfold Fu.bl at n2
          obtain ⟨m1, m2⟩ := List.nodup_cons.1 n2
          have HQ : Hid (Calls Tryd.prog 28 #[.slice f.ba f.body.length f.bc] wr fun e w' => e = .returned (.tuple #[]) ∧ Only (blk f.ba :: blS f.body) wr w') := spoilS_any _ _ _ wr f4 f5 m2
          have M5 : Hid (∀ b ∈ blk f.ba :: blS f.body, b ∈ f.bl) := fun b hb => by unfold Fu.bl; exact List.mem_cons_of_mem _ hb
          obtain ⟨gp, ep, lp, bp, cp⟩ := f2
          rw [ep] at m1
          have HP : Hid (f.pa = some ⟨gp, 0, none⟩ ∧ f.pc = f.params.length + 1) := ⟨ep, lp⟩
          have MGP : Hid (gp ∈ f.bl) := by unfold Fu.bl; rw [ep]; exact List.mem_cons_self
          have HTP : Hid (∀ w', Only (blk f.ba :: blS f.body) wr w' → TailF w' gp 61 (f.params.flatMap Pa.cells ++ senP) (0 * 3)) := fun w' h => TailF.keep ⟨_, cp, rfl, fun _ _ => rfl⟩ h m1
          rw [lp] at bp
          clear f3 f4 f5 n2 m1 m2 ep lp cp
          have d2 := CF.out wr (Only.refl _ _) 2 _ rfl
          go_wp2_with fail
          refine HQ.out.mono ?_
          rintro e w2 ⟨rfl, o2⟩
          have HT2 := HTP.out w2 o2
          have HT2' : Hid (TailF w2 gp 61 (f.params.flatMap Pa.cells ++ senP) (0 * 3)) := HT2
          have O2 : Hid (Only f.bl wr w2) := o2.mono M5.out
          clear d2 c1 HT2 o2
          go_wp2_with fail
          generalize wr = WR at *
          go_loopw [4] (fun t wq => ∃ (k : Nat), k ≤ f.params.length ∧ t = .int .i64 k ∧ TailF wq gp 61 (f.params.flatMap Pa.cells ++ senP) (k * 3) ∧ Only f.bl WR wq) (fun t _ => f.params.length - (intOf t).toNat)
          case atStart => exact ⟨0, Nat.zero_le _, rfl, HT2'.out, O2.out⟩
          case round =>
            obtain ⟨k, hk, rfl, htl, hon⟩ := hrel
            have c1 := CX.out _ (HON.out.trans (hon.mono M4.out))
            have d1 := CF.out _ hon 1 _ rfl
            rw [HP.out.1, HP.out.2] at d1
            by_cases hklt : k < f.params.length
            · have hkli : (k : Int) < (f.params.length : Int) := by omega
              have e0 := htl.cell (f := Pa.cells) (fun _ => rfl) (List.getElem?_eq_getElem hklt) (i := 0) rfl
              have e1 := htl.cell (f := Pa.cells) (fun _ => rfl) (List.getElem?_eq_getElem hklt) (i := 1) rfl
              have e2 := htl.cell (f := Pa.cells) (fun _ => rfl) (List.getElem?_eq_getElem hklt) (i := 2) rfl
              have q0 := htl.frozen (k * 3)
              have q1 := htl.frozen (k * 3 + 1)
              have q2 := htl.frozen (k * 3 + 2)
              simp only [Nat.add_zero] at e0
              have HT : Hid (TailF wr gp 61 (f.params.flatMap Pa.cells ++ senP) ((k + 1) * 3)) := htl.mono (by omega)
              have HO3 : Hid (Only f.bl WR wr) := hon
              clear htl hon
              go_wp2_with fail
              go_roundw
              case rel => exact ⟨k + 1, by omega, by go_num, ((HT.out.set (by omega) _).set (by omega) _).set (by omega) _, ((HO3.out.set MGP.out _ _).set MGP.out _ _).set MGP.out _ _⟩
              case measure => simp [intOf]; omega
            · obtain rfl : k = f.params.length := by omega
              have ht := HTL.out.keep hon N1.out
              have e0 := CF.out _ hon 0 _ rfl
              have e2 := CF.out _ hon 2 _ rfl
              have q0 := ht.frozen (j * 3)
              have q1 := ht.frozen (j * 3 + 1)
              have q2 := ht.frozen (j * 3 + 2)
              simp only [Nat.add_zero] at e0
              have HT6 : Hid (TailF wr gf 37 (p.funcs.flatMap Fu.cells ++ senF) ((j + 1) * 3)) := ht.mono (by omega)
              have O6 : Hid (Only f.bl WR wr) := hon
              clear ht hon htl
              go_wp2_with fail
              go_roundw
              case rel =>
                refine ⟨j + 1, by omega, by go_num, ((HT6.out.set (by omega) _).set (by omega) _).set (by omega) _, fun z hz => ?_, (((HON.out.trans (O6.out.mono M4.out)).set MGF.out _ _).set MGF.out _ _).set MGF.out _ _⟩
                have hz' := HCP.out z hz
                refine hz'.kept fun b hb => ?_
                have hne := (N3.out z hz b hb).2
                rw [Below.heap_setCell _ _ _ _ hne, Below.heap_setCell _ _ _ _ hne, Below.heap_setCell _ _ _ _ hne]
                exact O6.out.2.2.2.2 b (hz'.lt b hb) (N3.out z hz b hb).1
              case measure => simp [intOf]; omega
        · obtain rfl : j = p.funcs.length := by omega
          clear htl hcp
          go_wp2_with fail
          go_end0
          exact ⟨rfl, HB1.out.trans hon⟩
end Go.Proofs.YtkkcgkpbbngloaaDoor

/- A copy stays a copy; a new block reads as it was laid. -/
namespace Go.Proofs.YtkkcgkpbbngloaaDoor
open Go.RowKit Go.Sort

theorem Pr.Cp.stay {W W' : World} {p : Pr} (h : p.Cp W) (hb : Below W.heap.size W W') : p.Cp W' := by
  obtain ⟨h1, h2, h3, h4⟩ := h
  exact ⟨h1.stay hb, h2, h3.stay hb, fun f hf => (h4 f hf).stay hb⟩
/-- A new block reads as it was laid. -/
theorem new_at {w w' : World} {cs : Array Value} {t : TypeId} (hb : Below (w.alloc (.cells cs t)).heap.size (w.alloc (.cells cs t)) w') {j : Nat} {v : Value} (h : cs[j]? = some v) : w'.cell? ⟨w.heap.size, j, none⟩ = some v := by
  rw [hb.cell (p := ⟨w.heap.size, j, none⟩) (by simp), World.cell?_alloc_at _ _ _ _ rfl]; exact h
end Go.Proofs.YtkkcgkpbbngloaaDoor

/- What a call may turn: one block alone; blocks that hold an expression or a statement. -/
namespace Go.Proofs.YtkkcgkpbbngloaaDoor
open Go.RowKit Go.Sort

/-- All but one block lies as it did. -/
def OnlyB (b : Nat) (W W' : World) : Prop := W'.os = W.os ∧ W'.tape = W.tape ∧ W'.output = W.output ∧ W.heap.size ≤ W'.heap.size ∧ ∀ k, k < W.heap.size → k ≠ b → W'.heap[k]? = W.heap[k]?
theorem OnlyB.refl (b : Nat) (W : World) : OnlyB b W W := ⟨rfl, rfl, rfl, Nat.le_refl _, fun _ _ _ => rfl⟩
theorem OnlyB.trans {b : Nat} {A B C : World} (h : OnlyB b A B) (k : OnlyB b B C) : OnlyB b A C := ⟨k.1.trans h.1, k.2.1.trans h.2.1, k.2.2.1.trans h.2.2.1, Nat.le_trans h.2.2.2.1 k.2.2.2.1, fun i h1 h2 => (k.2.2.2.2 i (Nat.lt_of_lt_of_le h1 h.2.2.2.1) h2).trans (h.2.2.2.2 i h1 h2)⟩
theorem OnlyB.size {b : Nat} {A B : World} (h : OnlyB b A B) : A.heap.size ≤ B.heap.size := h.2.2.2.1
theorem OnlyB.of_below {b : Nat} {A B : World} (h : Below A.heap.size A B) : OnlyB b A B := ⟨h.os, h.tape, h.output, h.size, fun i h1 _ => h.block i h1⟩
theorem OnlyB.set {b : Nat} {A B : World} (h : OnlyB b A B) (i : Nat) (v : Value) : OnlyB b A (B.setCell ⟨b, i, none⟩ v) := h.trans ⟨rfl, rfl, rfl, by simp [World.setCell], fun k _ h2 => Below.heap_setCell _ _ _ _ h2⟩
theorem OnlyB.below {b : Nat} {A B : World} {N : Nat} (h : OnlyB b A B) (hb : N ≤ b) (hN : N ≤ A.heap.size) : Below N A B := ⟨h.1, h.2.1, h.2.2.1, h.2.2.2.1, fun k hk => h.2.2.2.2 k (by omega) (by omega)⟩
theorem OnlyB.cell {b : Nat} {A B : World} (h : OnlyB b A B) {k i : Nat} (hk : k < A.heap.size) (hb : k ≠ b) : B.cell? ⟨k, i, none⟩ = A.cell? ⟨k, i, none⟩ := by
  have := h.2.2.2.2 k hk hb
  simp only [World.cell?, this]
theorem OnlyB.alloc {b : Nat} {A B : World} (h : OnlyB b A B) (o : Obj) : OnlyB b A (B.alloc o) := h.trans (OnlyB.of_below ((Below.refl _ B).alloc (Nat.le_refl _) o))
/-- From a world in which programs lie, on to one that has more, but for the look's block. -/
theorem OnlyB.on {b : Nat} {W0 A B : World} (hB : Below W0.heap.size W0 A) (hb : W0.heap.size ≤ b) (h : OnlyB b A B) : Below W0.heap.size W0 B := hB.trans (h.below hb hB.size)
/-- A block that holds an expression's cells. -/
def BoxE (W : World) (B : Nat) (x : Ex) : Prop := ∀ (i : Nat) v, x.cells[i]? = some v → W.cell? ⟨B, i, none⟩ = some v
theorem BoxE.only {W W' : World} {B b : Nat} {x : Ex} (h : BoxE W B x) (ho : OnlyB b W W') (hB : B < W.heap.size) (hb : B ≠ b) : BoxE W' B x := fun i v hi => (ho.cell hB hb).trans (h i v hi)
theorem boxE_new (w : World) (x : Ex) : BoxE (w.alloc (.cells #[.int .i64 x.kind, .int .i64 x.n, .string x.name, .slice x.a x.args.length x.cap] 41)) w.heap.size x := by
  intro i v h
  rw [World.cell?_alloc_at _ _ _ _ rfl]; simpa [Ex.cells] using h
theorem BoxS.only {W W' : World} {B b : Nat} {s : St} (h : BoxS W B s) (ho : OnlyB b W W') (hB : B < W.heap.size) (hb : B ≠ b) : BoxS W' B s := fun i v hi => (ho.cell hB hb).trans (h i v hi)
end Go.Proofs.YtkkcgkpbbngloaaDoor

/- A table of names and numbers, as a map holds it. -/
namespace Go.Proofs.YtkkcgkpbbngloaaDoor
open Go.RowKit Go.Sort

/-- The number of a name, the latest one; 0 where there is none. -/
def tabAt (l : List (List UInt8 × Int)) (s : List UInt8) : Int := match l.find? (fun p => p.1 == s) with | some p => p.2 | none => 0
def tabHas (l : List (List UInt8 × Int)) (s : List UInt8) : Bool := l.any fun p => p.1 == s
theorem tabAt_cons (l : List (List UInt8 × Int)) (k : List UInt8) (v : Int) (s : List UInt8) : tabAt ((k, v) :: l) s = if k = s then v else tabAt l s := by
  unfold tabAt
  rw [List.find?_cons]
  by_cases h : k = s
  · subst h; simp
  · rw [if_neg h]
    have : (k == s) = false := by simpa using h
    simp only [this]
theorem tabHas_cons (l : List (List UInt8 × Int)) (k : List UInt8) (v : Int) (s : List UInt8) : tabHas ((k, v) :: l) s = if k = s then true else tabHas l s := by
  unfold tabHas
  rw [List.any_cons]
  by_cases h : k = s
  · subst h; simp
  · rw [if_neg h]
    have : (k == s) = false := by simpa using h
    simp only [this, Bool.false_or]

theorem zero_int (w : World) : (zeroValue 3).run Tryd.prog w = .ok (.int .i64 0) w := by kernel_rfl
theorem keyedS : Maps.Keyed Tryd.prog 9 := Maps.string_keyed Tryd.underlying9
/-- Block b is a map that holds the table l. -/
def Tab (W : World) (b : Nat) (l : List (List UInt8 × Int)) : Prop :=
  ∃ D : DataW Unit, W.ownsMap Tryd.prog 9 (plainElem Tryd.prog 3) b l.length D ∧ ∀ s : List UInt8, Maps.has D (.string s) = tabHas l s ∧ D.atKey (.string s) (.lit (.int .i64 0)) = .lit (.int .i64 (tabAt l s))
theorem tab_made (w : World) : Tab (w.alloc (.map #[] 0)) w.heap.size [] := ⟨.map [], World.ownsMap_made w _ _ _, fun _ => ⟨rfl, rfl⟩⟩
theorem Tab.lt {W : World} {b : Nat} {l : List (List UInt8 × Int)} (h : Tab W b l) : b < W.heap.size := by
  obtain ⟨D, h, _⟩ := h; exact h.lt
theorem Tab.keep {W W' : World} {b : Nat} {l : List (List UInt8 × Int)} (h : Tab W b l) (he : W'.heap[b]? = W.heap[b]?) : Tab W' b l := by
  obtain ⟨D, ⟨es, clock, hb, hr⟩, h2⟩ := h
  exact ⟨D, ⟨es, clock, he.trans hb, hr⟩, h2⟩
theorem Tab.stay {W W' : World} {b : Nat} {l : List (List UInt8 × Int)} (h : Tab W b l) (hb : Below W.heap.size W W') : Tab W' b l := h.keep (hb.block b h.lt)
theorem Tab.only {W W' : World} {b m : Nat} {l : List (List UInt8 × Int)} (h : Tab W b l) (ho : OnlyB m W W') (hm : b ≠ m) : Tab W' b l := h.keep (ho.2.2.2.2 b h.lt hm)
/-- What 'v, ok := m[s]' answers. -/
theorem Tab.look {W : World} {b : Nat} {l : List (List UInt8 × Int)} (h : Tab W b l) (s : ByteArray) (hs : s.size ≤ maxLen) :
    (Instr.lookup 71 (.map (some b)) (.string s) true).run Tryd.prog W = .ok (.tuple #[.int .i64 (tabAt l s.data.toList), .bool (tabHas l s.data.toList)]) W := by
  obtain ⟨D, h, h2⟩ := h
  obtain ⟨v, ps, hr, hv⟩ := h.look_ok keyedS Tryd.underlying71 (z := .int .i64 0) (zero_int W) (zd := .lit (.int .i64 0)) (zp := []) (plainElem_int Tryd.underlying3 (by decide)) (key := .string s) (WideMaps.keyOf_string_mk Tryd.underlying9 hs)
  obtain ⟨c, rfl, hc, _⟩ := plainElem_int_inv Tryd.underlying3 hv
  obtain ⟨e1, e2⟩ := h2 s.data.toList
  have hc' := congrArg Prod.fst hc
  simp only at hc'
  rw [e2] at hc'
  cases hc'
  rw [hr, e1]
/-- What 'm[s] = v' does. -/
theorem Tab.put {W : World} {b : Nat} {l : List (List UInt8 × Int)} (h : Tab W b l) (s : ByteArray) (hs : s.size ≤ maxLen) (v : Int) (hv : I64 v) (hn : l.length < 1000000) :
    ∃ W', (Instr.mapUpdate 71 (.map (some b)) (.string s) (.int .i64 v)).run Tryd.prog W = .ok () W' ∧ Tab W' b ((s.data.toList, v) :: l) ∧ OnlyB b W W' := by
  obtain ⟨D, h, h2⟩ := h
  have hm := h.isMap
  obtain ⟨W', hr, ho, hg⟩ := h.update keyedS Tryd.underlying71 (by unfold maxLen; omega) (key := .string s) (val := .int .i64 v) (WideMaps.keyOf_string_mk Tryd.underlying9 hs) (plainElem_int Tryd.underlying3 (by simp [Lit.wf]; exact hv))
  refine ⟨W', hr, ⟨_, ho, fun k => ?_⟩, hg.1, hg.2, hg.3, hg.4, fun i h1 h2 => hg.5 i h1 (by simpa using h2)⟩
  by_cases e : s.data.toList = k
  · subst e
    rw [tabHas_cons, tabAt_cons, if_pos rfl, if_pos rfl]
    exact ⟨Maps.has_put_same hm (by trivial) _, Maps.atKey_put_same hm (by trivial) _ _⟩
  · rw [tabHas_cons, tabAt_cons, if_neg e, if_neg e]
    have hne : (Lit.string k) ≠ Lit.string s.data.toList := fun h => by cases h; exact e rfl
    rw [Maps.has_put_other hne, Maps.atKey_put_other hne]
    exact h2 k
end Go.Proofs.YtkkcgkpbbngloaaDoor

/- The program's scopes: what is known, from the inside out. -/
namespace Go.Proofs.YtkkcgkpbbngloaaDoor
open Go.RowKit Go.Sort

abbrev Env := List (Bool × List (List UInt8 × Int))
/-- The kind of a name; 0: it is not known. -/
def envAt : Env → List UInt8 → Int
  | [], _ => 0
  | f :: r, s => if tabHas f.2 s = true then tabAt f.2 s else envAt r s
/-- Scopes in memory: their blocks and their maps' blocks, from the inside out. -/
def Chain (W : World) : Option Addr → List (Nat × Nat) → Env → Prop
  | a, [], [] => a = none
  | a, x :: bs, f :: env => a = some ⟨x.1, 0, none⟩ ∧ (∃ a', W.heap[x.1]? = some (.cells #[.pointer a', .map (some x.2), .bool f.1] 93 (0, 0)) ∧ Chain W a' bs env) ∧ Tab W x.2 f.2
  | _, _, _ => False
def chB : List (Nat × Nat) → List Nat
  | [] => []
  | x :: bs => x.1 :: x.2 :: chB bs
theorem Chain.keep {W W' : World} : ∀ {a : Option Addr} {bs : List (Nat × Nat)} {env : Env}, Chain W a bs env → (∀ b ∈ chB bs, W'.heap[b]? = W.heap[b]?) → Chain W' a bs env
  | _, [], [], h, _ => h
  | _, x :: bs, f :: env, ⟨h1, ⟨a', h2, h3⟩, h4⟩, hk => ⟨h1, ⟨a', (hk x.1 (by simp [chB])).trans h2, h3.keep fun b hb => hk b (by simp [chB, hb])⟩, h4.keep (hk x.2 (by simp [chB]))⟩
  | _, [], _ :: _, h, _ => h.elim
  | _, _ :: _, [], h, _ => h.elim
theorem Chain.lt {W : World} : ∀ {a : Option Addr} {bs : List (Nat × Nat)} {env : Env}, Chain W a bs env → ∀ b ∈ chB bs, b < W.heap.size
  | _, [], [], _, b, hb => by simp [chB] at hb
  | _, x :: bs, f :: env, ⟨_, ⟨a', h2, h3⟩, h4⟩, b, hb => by
    simp only [chB, List.mem_cons] at hb
    rcases hb with rfl | rfl | hb
    · exact (Array.getElem?_eq_some_iff.1 h2).1
    · exact h4.lt
    · exact h3.lt b hb
  | _, [], _ :: _, h, _, _ => h.elim
  | _, _ :: _, [], h, _, _ => h.elim
theorem Chain.stay {W W' : World} {a : Option Addr} {bs : List (Nat × Nat)} {env : Env} (h : Chain W a bs env) (hb : Below W.heap.size W W') : Chain W' a bs env := h.keep fun b hx => hb.block b (h.lt b hx)
theorem Chain.only {W W' : World} {a : Option Addr} {bs : List (Nat × Nat)} {env : Env} {m : Nat} (h : Chain W a bs env) (ho : OnlyB m W W') (hm : m ∉ chB bs) : Chain W' a bs env := h.keep fun b hx => ho.2.2.2.2 b (h.lt b hx) (fun e => hm (e ▸ hx))

set_option maxRecDepth 100000 in
set_option maxHeartbeats 1000000 in
theorem kind_any (s : ByteArray) (hs : s.size ≤ 140737488351232) (a : Option Addr) (bs : List (Nat × Nat)) (env : Env) (w : World) (hc : Chain w a bs env) :
    Calls Tryd.prog 62 #[.pointer a, .string s] w fun e w' => e = .returned (.int .i64 (envAt env s.data.toList)) ∧ w' = w := by
  have hs' : s.size ≤ maxLen := by unfold maxLen; omega
  have HLK : Hid (∀ b l, Tab w b l → (Instr.lookup 71 (.map (some b)) (.string s) true).run Tryd.prog w = .ok (.tuple #[.int .i64 (tabAt l s.data.toList), .bool (tabHas l s.data.toList)]) w) := fun b l h => h.look s hs'
  have HC : Hid (Chain w a bs env) := hc
  clear hs hs' hc
  go_enter Tryd.func62, Tryd.ntmps62
  go_wp2_with fail
  go_loopg [0] env.length (fun g t0 wx => ∃ a' bs' env', env'.length = g ∧ t0 = .pointer a' ∧ Aside (Chain w a' bs' env') ∧ Aside (envAt env' s.data.toList = envAt env s.data.toList) ∧ wx = w)
  case atStart => exact ⟨a, bs, env, rfl, rfl, HC.out, rfl, rfl⟩
  case round =>
    obtain ⟨a', bs', env', hg, rfl, HCH, HEV, hwx⟩ := hrel
    obtain rfl := hwx.symm
    match bs', env', HCH, HEV, hg with
    | [], [], HCH, HEV, hg =>
      obtain rfl : a' = none := HCH.out
      have HF : Hid (envAt env s.data.toList = 0) := HEV.out.symm
      go_wp2_with fail
      go_ret
      exact ⟨ret_int HF.out.symm, rfl⟩
    | x :: bs1, f :: env1, HCH, HEV, hg =>
      obtain ⟨rfl, ⟨a1, h2, h3⟩, h4⟩ := HCH.out
      have HC1 : Hid (Chain w a1 bs1 env1) := h3
      have hl := HLK.out x.2 f.2 h4
      have k0 : w.cell? ⟨x.1, 0, none⟩ = some (.pointer a1) := by rw [Lib.cell_of_heap h2]; rfl
      have k1 : w.cell? ⟨x.1, 1, none⟩ = some (.map (some x.2)) := by rw [Lib.cell_of_heap h2]; rfl
      have HE : Hid (envAt env s.data.toList = if tabHas f.2 s.data.toList = true then tabAt f.2 s.data.toList else envAt env1 s.data.toList) := HEV.out.symm
      clear h2 h3 h4 HCH HEV
      generalize x.1 = xb at *
      generalize x.2 = xm at *
      generalize tabAt f.2 s.data.toList = tv at *
      cases hh : tabHas f.2 s.data.toList
      · rw [hh] at hl
        have HN : Hid (envAt env1 s.data.toList = envAt env s.data.toList) := by show _ = _; rw [HE.out, hh]; rfl
        obtain ⟨g1, rfl⟩ : ∃ g1, gk = g1 + 1 := ⟨env1.length, by simpa using hg.symm⟩
        have hg1 : env1.length = g1 := by simpa using hg
        clear hg
        go_wp2_with fail
        go_roundg g1
        case rel => exact ⟨a1, bs1, env1, hg1, rfl, HC1.out, HN.out, rfl⟩
        case measure => omega
      · rw [hh] at hl
        have HF : Hid (envAt env s.data.toList = tv) := by show _ = _; rw [HE.out, hh]; rfl
        clear hg
        go_wp2_with fail
        go_ret
        exact ⟨ret_int HF.out.symm, rfl⟩
    | [], _ :: _, HCH, HEV, hg => exact HCH.out.elim
    | _ :: _, [], HCH, HEV, hg => exact HCH.out.elim
end Go.Proofs.YtkkcgkpbbngloaaDoor
