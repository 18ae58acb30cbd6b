/- The document's own copies: programs. -/
import Derived.Test.YtbpemackmadhgabDoorPart7
import Derived.Test.YtbpemackmadhgabDoorPart5
namespace Go.Proofs.YtbpemackmadhgabDoor
open Go.RowKit

set_option maxRecDepth 100000 in
set_option maxHeartbeats 16000000 in
theorem copy_any (p : Pr) (w : World) (hin : p.In w) (hf : p.Few) : Calls Tryd.prog 8 #[p.val] w fun e w' => (∃ q : Pr, e = .returned q.val ∧ q.Cp w' ∧ q.er = p.er ∧ q.bl.Nodup ∧ (∀ b ∈ q.bl, w.heap.size ≤ b ∧ b < w'.heap.size)) ∧ Below w.heap.size w w' := by
  obtain ⟨i0, hi, hz0, hz1, hz2⟩ := info_parts Tryd.infoI64
  have HI : Hid (Tryd.prog.info? 2 = some i0) := hi
  obtain ⟨i1, hi1, hy0, hy1, hy2⟩ := info_parts Tryd.infoPa
  have HI1 : Hid (Tryd.prog.info? 50 = some i1) := hi1
  obtain ⟨i2, hi2, hx0, hx1, hx2⟩ := info_parts Tryd.infoFu
  have HI2 : Hid (Tryd.prog.info? 36 = some i2) := hi2
  have XP : Hid (∀ w', Below w.heap.size w w' → p.In w') := fun w' h => hin.stay h
  have HFW : Hid (p.Few) := hf
  have hw1 := hf.1
  have hf1 := hf.2.1
  have q1 := hin.1
  have q2 := hin.2.1
  have q3 := hin.haveF.1.1
  have q4 := hin.haveF.1.2.1
  have HNO : Hid ((p.wa = none → p.widen.length = 0)) := fun h => by have := hin.2.2.1 h; omega
  clear hin hf hi hi1 hi2
  unfold Pr.val
  obtain ⟨B, hB⟩ : ∃ B, w.heap.size = B := ⟨_, rfl⟩
  go_enter Tryd.func8, Tryd.ntmps8
  go_upto_region 3 with (at_make; refine wpList_make_own _ rfl _ _ 22 rfl (B + 3) 2 i0 _ 1 Tryd.underlying22 HI.out hz0 hz1 _ _ _ (p.widen.length + 1) rfl rfl (by omega) (by rw [hz2]; omega) (by unfold maxLen; omega) (by simp; omega) ?_; intro w1 hown1 hgrow1)
  have hs0 : (((w.alloc (.cells #[.slice p.wa p.widen.length p.wc, .slice p.fa p.funcs.length p.fc] 25)).alloc (.cells #[.slice none 0 0, .slice none 0 0] 25)).alloc (.cells #[.slice none 0 0, .slice none 0 0] 25)).heap.size = B + 1 + 1 + 1 := by simp [hB]
  have h1B : w1.heap[B]? = some (.cells #[.slice p.wa p.widen.length p.wc, .slice p.fa p.funcs.length p.fc] 25 (0, 0)) := (hgrow1.block B (by omega) (by simp)).trans (by
    rw [Below.heap_alloc _ _ _ (by simp; omega), Below.heap_alloc _ _ _ (by simp; omega), ← hB]; exact heap_alloc_new _ _)
  have h1R : w1.heap[B + 1]? = some (.cells #[.slice none 0 0, .slice none 0 0] 25 (0, 0)) := (hgrow1.block (B + 1) (by omega) (by simp)).trans (by
    rw [Below.heap_alloc _ _ _ (by simp; omega), show B + 1 = (w.alloc (.cells #[.slice p.wa p.widen.length p.wc, .slice p.fa p.funcs.length p.fc] 25)).heap.size by simp [hB]]; exact heap_alloc_new _ _)
  have h1O : w1.heap[B + 1 + 1]? = some (.cells #[.slice none 0 0, .slice none 0 0] 25 (0, 0)) := (hgrow1.block (B + 1 + 1) (by omega) (by simp)).trans (by
    rw [show B + 1 + 1 = ((w.alloc (.cells #[.slice p.wa p.widen.length p.wc, .slice p.fa p.funcs.length p.fc] 25)).alloc (.cells #[.slice none 0 0, .slice none 0 0] 25)).heap.size by simp [hB]]; exact heap_alloc_new _ _)
  have hb1 : Below B w w1 := (((Below.refl B w).alloc (by omega) _).alloc (by simp; omega) _).alloc (by simp; omega) _ |>.grown hgrow1 (by omega) (fun k hk => by cases hk)
  rw [hs0] at hown1
  have hs1 : B + 1 + 1 + 1 < w1.heap.size := owns_lt hown1
  clear hgrow1 hs0
  obtain ⟨R, hR⟩ : ∃ R, B + 1 = R := ⟨_, rfl⟩
  rw [hR] at h1R h1O hown1 hs1 ⊢
  obtain ⟨O, hO⟩ : ∃ O, R + 1 = O := ⟨_, rfl⟩
  rw [hO] at h1O hown1 hs1 ⊢
  obtain ⟨D, hD⟩ : ∃ D, O + 1 = D := ⟨_, rfl⟩
  rw [hD] at hown1 hs1 ⊢
  have hbr : B < R := by omega
  have hro : R < O := by omega
  have hod : O < D := by omega
  have HBB : Hid (w.heap.size = B) := hB
  have XW : Hid (∀ w', Below B w w' → p.In w') := fun w' h => XP.out w' (HBB.out ▸ h)
  clear hR hO hD hB XP
  have k0 : w1.cell? ⟨B, 0, none⟩ = some (.slice p.wa p.widen.length p.wc) := by rw [Lib.cell_of_heap h1B]; rfl
  have HO1 : Hid (w1.ownsRow (B + 3) 2 1 (.slice (some ⟨D, 0, none⟩) 0 (p.widen.length + 1)) 0 []) := hown1
  have HN1 : Hid (∀ ad, p.wa = some ad → ∀ j u, (p.widen.flatMap cI)[j]? = some u → w1.cell? (ad.add j) = some u) := src_news (k := 1) (XW.out w1 hb1).thr.2.2 (fun _ => rfl) (by decide)
  have HL1 : Hid ((p.widen.flatMap cI).length = p.widen.length * 1) := flat_len (f := cI) (k := 1) (fun _ => rfl) p.widen
  have HC1 : Hid (∀ u ∈ p.widen.flatMap cI, u.oneCell' = true) := fun u hu => by
    obtain ⟨z, _, hz⟩ := List.mem_flatMap.1 hu
    obtain rfl := List.mem_singleton.1 hz
    rfl
  clear hown1
  go_upto_region 4 with (at_builtin; refine wpList_append_src _ rfl _ _ 22 rfl (B + 3) 2 i0 1 Tryd.underlying22 HI.out hz1 D 0 (p.widen.length + 1) [] rfl HO1.out p.wa p.widen.length p.wc (p.widen.flatMap cI) rfl HL1.out HNO.out HN1.out HC1.out (by omega) ?_; intro w2 hown2 hgrow2)
  rw [Nat.zero_add, List.nil_append] at hown2
  have hK2 : Kp D w1 w2 := (Kp.refl D w1).grown hgrow2
  have hb2 : Below B w w2 := hb1.grown hgrow2 (by omega) (fun k hk => by simp at hk; omega)
  have hs2 : D < w2.heap.size := owns_lt hown2
  have HO2 : Hid ((w2.alloc (.cells #[.int .i64 (-77)] 2)).ownsRow (B + 3) 2 1 (.slice (some ⟨D, 0, none⟩) p.widen.length (p.widen.length + 1)) p.widen.length (p.widen.flatMap cI)) := hown2.alloc _
  have HN2 : Hid (∀ i u, ([.int .i64 (-77)] : List Value)[i]? = some u → (w2.alloc (.cells #[.int .i64 (-77)] 2)).cell? ((⟨w2.heap.size, 0, none⟩ : Addr).add i) = some u) := World.news_of_block (heap_alloc_new w2 _)
  have HC2 : Hid (∀ u ∈ ([.int .i64 (-77)] : List Value), u.oneCell' = true) := List.all_eq_true.1 (show ([.int .i64 (-77)] : List Value).all (fun u => u.oneCell') = true from rfl)
  clear hown2 hgrow2 HO1 HN1 HL1 HC1 k0
  go_upto_region 5 with (at_builtin; refine wpList_append_own_spare _ rfl _ _ 22 rfl (B + 3) 2 i0 1 Tryd.underlying22 HI.out hz1 D p.widen.length (p.widen.length + 1) (p.widen.flatMap cI) rfl HO2.out ⟨w2.heap.size, 0, none⟩ 1 1 [.int .i64 (-77)] rfl rfl HN2.out HC2.out (by omega) ?_; intro w3 hown3 hgrow3)
  have hK3 : Kp D w1 w3 := (hK2.alloc _).grown hgrow3
  have hb3 : Below B w w3 := (hb2.alloc (by omega) _).grown hgrow3 (by simp; omega) (fun k hk => by simp at hk; omega)
  have hs3 : D < w3.heap.size := owns_lt hown3
  have HD3 : Hid (w3.heap[D]? = some (.cells ⟨p.widen.flatMap cI ++ [.int .i64 (-77)]⟩ 2 (0, 0))) := owns_full hown3
  have h3B := (hK3.2 B (by omega) (by omega)).trans h1B
  have h3R := (hK3.2 R (by omega) (by omega)).trans h1R
  have h3O := (hK3.2 O (by omega) (by omega)).trans h1O
  clear hown3 hgrow3 HO2 HN2 HC2 hK2 hK3 hb1 hb2 h1B h1R h1O hs1 hs2
  have k0 : w3.cell? ⟨B, 0, none⟩ = some (.slice p.wa p.widen.length p.wc) := by rw [Lib.cell_of_heap h3B]; rfl
  have k1 : w3.cell? ⟨B, 1, none⟩ = some (.slice p.fa p.funcs.length p.fc) := by rw [Lib.cell_of_heap h3B]; rfl
  have o0 : w3.cell? ⟨O, 0, none⟩ = some (.slice none 0 0) := by rw [Lib.cell_of_heap h3O]; rfl
  have of : ∀ i, w3.frozen? ⟨O, i, none⟩ = false := fun i => by simp [World.frozen?, h3O]
  have hne : B ≠ O := by omega
  have hne' : O ≠ B := by omega
  go_upto_region 6 with fail
  obtain ⟨W4, hW4⟩ : ∃ W4, w3.setCell ⟨O, 0, none⟩ (.slice (some ⟨D, 0, none⟩) p.widen.length (p.widen.length + 1)) = W4 := ⟨_, rfl⟩
  rw [hW4]
  have hK4 : Kp O w3 W4 := by rw [← hW4]; exact (Kp.refl O w3).set 0 _
  have h4O : W4.heap[O]? = some (.cells #[.slice (some ⟨D, 0, none⟩) p.widen.length (p.widen.length + 1), .slice none 0 0] 25 (0, 0)) := by rw [← hW4]; exact set_list h3O 0 _
  have h4B := (hK4.2 B (by omega) (by omega)).trans h3B
  have h4R := (hK4.2 R (by omega) (by omega)).trans h3R
  have h4D := (hK4.2 D (by omega) (by omega)).trans HD3.out
  have hb4 : Below B w W4 := by rw [← hW4]; exact Below.setCell (p := ⟨O, 0, none⟩) hb3 (by show B ≤ O; omega) _
  have hs4 : D < W4.heap.size := Nat.lt_of_lt_of_le hs3 hK4.1
  clear hW4 hK4 k0 k1 o0 of h3B h3R h3O HD3 hb3 hs3
  have k1 : W4.cell? ⟨B, 1, none⟩ = some (.slice p.fa p.funcs.length p.fc) := by rw [Lib.cell_of_heap h4B]; rfl
  obtain ⟨F, hF⟩ : ∃ F, W4.heap.size = F := ⟨_, rfl⟩
  go_wp2_with (at_make; refine wpList_make_own _ rfl _ _ 23 rfl F 36 i2 _ 3 Tryd.underlying23 HI2.out hx0 hx1 _ _ _ (p.funcs.length + 1) rfl rfl (by omega) (by rw [hx2]; omega) (by unfold maxLen; omega) (by omega) ?_; intro w5 hown5 hgrow5)
  rw [hF] at hown5
  have hs5 : F < w5.heap.size := owns_lt hown5
  have h5B := (hgrow5.block B (by omega) (by simp)).trans h4B
  have h5R := (hgrow5.block R (by omega) (by simp)).trans h4R
  have h5O := (hgrow5.block O (by omega) (by simp)).trans h4O
  have h5D := (hgrow5.block D (by omega) (by simp)).trans h4D
  have hb5 : Below B w w5 := hb4.grown hgrow5 (by omega) (fun k hk => by cases hk)
  have hDF : D < F := by omega
  have HO5 : Hid (w5.ownsRow F 36 3 (.slice (some ⟨F, 0, none⟩) 0 (p.funcs.length + 1)) 0 []) := hown5
  have H5 : Hid (w5.heap[B]? = some (.cells #[.slice p.wa p.widen.length p.wc, .slice p.fa p.funcs.length p.fc] 25 (0, 0)) ∧ w5.heap[R]? = some (.cells #[.slice none 0 0, .slice none 0 0] 25 (0, 0)) ∧ w5.heap[O]? = some (.cells #[.slice (some ⟨D, 0, none⟩) p.widen.length (p.widen.length + 1), .slice none 0 0] 25 (0, 0)) ∧ w5.heap[D]? = some (.cells ⟨p.widen.flatMap cI ++ [.int .i64 (-77)]⟩ 2 (0, 0))) := ⟨h5B, h5R, h5O, h5D⟩
  clear hown5 hgrow5 h4B h4R h4O h4D hb4 hs4 k1 h5B h5R h5O h5D hF
  go_wp2_with fail
  go_loopw [5, 6] (fun t5 t6 wr => ∃ (fl : List Fu), t6 = .int .i64 fl.length ∧ fl.length ≤ p.funcs.length ∧ t5 = .slice (some ⟨F, 0, none⟩) fl.length (p.funcs.length + 1) ∧ wr.ownsRow F 36 3 (.slice (some ⟨F, 0, none⟩) fl.length (p.funcs.length + 1)) fl.length (fl.flatMap Fu.cells) ∧ (∀ x ∈ fl, x.Cp wr) ∧ fl.map Fu.er = (p.funcs.take fl.length).map Fu.er ∧ (fl.flatMap Fu.bl).Nodup ∧ (∀ b ∈ fl.flatMap Fu.bl, F < b ∧ b < wr.heap.size) ∧ Kp F w5 wr ∧ Below B w wr) (fun _ t6 _ => p.funcs.length - (intOf t6).toNat)
  case atStart => exact ⟨[], rfl, Nat.zero_le _, rfl, HO5.out, by simp, by simp, by simp, by simp, Kp.refl _ _, hb5⟩
  case round =>
    clear HO5 hb5
    obtain ⟨fl, rfl, hle, rfl, hown, hcp, her, hnd, hbd, hkp, hb⟩ := hrel
    obtain ⟨j, hj⟩ : ∃ j, fl.length = j := ⟨_, rfl⟩
    have HJ : Hid (fl.length = j) := hj
    rw [hj] at hown hle her ⊢
    have HO : Hid (wr.ownsRow F 36 3 (.slice (some ⟨F, 0, none⟩) j (p.funcs.length + 1)) j (fl.flatMap Fu.cells)) := hown
    have HR : Hid ((∀ x ∈ fl, x.Cp wr) ∧ fl.map Fu.er = (p.funcs.take j).map Fu.er ∧ (fl.flatMap Fu.bl).Nodup ∧ (∀ b ∈ fl.flatMap Fu.bl, F < b ∧ b < wr.heap.size)) := ⟨hcp, her, hnd, hbd⟩
    have HKP : Hid (Kp F w5 wr) := hkp
    have BW : Hid (Below B w wr) := hb
    have hFw : F < wr.heap.size := owns_lt hown
    have hrB := (hkp.2 B (by omega) (by omega)).trans H5.out.1
    have k1 : wr.cell? ⟨B, 1, none⟩ = some (.slice p.fa p.funcs.length p.fc) := by rw [Lib.cell_of_heap hrB]; rfl
    clear hown hcp her hnd hbd hkp hb hj hrB
    by_cases hlt : j < p.funcs.length
    · have hli : (j : Int) < (p.funcs.length : Int) := by omega
      obtain ⟨b, o, ea, hcell⟩ := rowF_cells (XW.out wr BW.out).haveF.1.2.2 hlt
      have XI : Hid (∀ w', Below B w w' → p.funcs[j].In w') := fun w' h => (XW.out w' h).haveF.2 p.funcs[j] (List.getElem_mem hlt)
      have XF : Hid (p.funcs[j].Few) := HFW.out.2.2 _ (List.getElem_mem hlt)
      have HT : Hid ((p.funcs.take (j + 1)).map Fu.er = (p.funcs.take j).map Fu.er ++ [p.funcs[j].er]) := by
        show _ = _
        rw [List.take_succ_eq_append_getElem hlt, List.map_append]; rfl
      generalize p.funcs[j] = f at *
      have c0 := hcell 0 _ rfl
      have c1 := hcell 1 _ rfl
      have c2 := hcell 2 _ rfl
      simp only [← Nat.add_assoc, Nat.add_zero] at c0 c1 c2
      rw [ea] at k1
      clear hcell ea
      obtain ⟨g1, g2, g3, g4, g5, g6, _⟩ := XI.out w (Below.refl _ _)
      have HOK : Hid (f.name.size ≤ 140737488351232 ∧ ∀ p ∈ f.params, p.Ok) := ⟨g1, g6⟩
      have HNP : Hid (f.pa = none → f.params.length = 0) := fun h => by have := g4 h; omega
      have hp1 := XF.out.1
      clear g1 g4 g5 g6
      obtain ⟨X, hX⟩ : ∃ X, wr.heap.size = X := ⟨_, rfl⟩
      go_upto_region 12 with (at_make; refine wpList_make_own _ rfl _ _ 33 rfl (X + 1) 50 i1 _ 3 Tryd.underlying33 HI1.out hy0 hy1 _ _ _ (f.params.length + 1) rfl rfl (by omega) (by rw [hy2]; omega) (by unfold maxLen; omega) (by simp; omega) ?_; intro v1 hown1 hgrow1)
      have hsx : (wr.alloc (.cells #[.string f.name, .slice f.pa f.params.length f.pc, .slice f.ba f.body.length f.bc] 36)).heap.size = X + 1 := by simp [hX]
      rw [hsx] at hown1
      have h1X : v1.heap[X]? = some (.cells #[.string f.name, .slice f.pa f.params.length f.pc, .slice f.ba f.body.length f.bc] 36 (0, 0)) := (hgrow1.block X (by omega) (by simp)).trans (by rw [← hX]; exact heap_alloc_new _ _)
      have hK1 : ∀ k, k < X → v1.heap[k]? = wr.heap[k]? := fun k h => (hgrow1.block k (by omega) (by simp)).trans (Below.heap_alloc _ _ _ (by omega))
      have hb1 : Below B w v1 := (BW.out.alloc (by omega) _).grown hgrow1 (by omega) (fun k hk => by cases hk)
      have hs1 : X + 1 < v1.heap.size := owns_lt hown1
      have HX : Hid (wr.heap.size = X) := hX
      have hFX : F < X := by omega
      clear hgrow1 hsx c0 c1 c2 k1 hX hFw
      obtain ⟨Q, hQ⟩ : ∃ Q, X + 1 = Q := ⟨_, rfl⟩
      rw [hQ] at hown1 hs1 ⊢
      have hXQ : X < Q := by omega
      have m1 : v1.cell? ⟨X, 1, none⟩ = some (.slice f.pa f.params.length f.pc) := by rw [Lib.cell_of_heap h1X]; rfl
      have HO1 : Hid (v1.ownsRow Q 50 3 (.slice (some ⟨Q, 0, none⟩) 0 (f.params.length + 1)) 0 []) := hown1
      have HN1 : Hid (∀ ad, f.pa = some ad → ∀ j u, (f.params.flatMap Pa.cells)[j]? = some u → v1.cell? (ad.add j) = some u) := src_news (k := 3) (XI.out v1 hb1).2.2.2.2.1 (fun _ => rfl) (by decide)
      have HL1 : Hid ((f.params.flatMap Pa.cells).length = f.params.length * 3) := flat_len (f := Pa.cells) (k := 3) (fun _ => rfl) f.params
      have HC1 : Hid (∀ u ∈ f.params.flatMap Pa.cells, u.oneCell' = true) := fun u hu => by
        obtain ⟨z, _, hz⟩ := List.mem_flatMap.1 hu
        simp [Pa.cells] at hz
        rcases hz with rfl | rfl | rfl <;> rfl
      clear hown1 hQ
      go_upto_region 13 with (at_builtin; refine wpList_append_src _ rfl _ _ 33 rfl Q 50 i1 3 Tryd.underlying33 HI1.out hy1 Q 0 (f.params.length + 1) [] rfl HO1.out f.pa f.params.length f.pc (f.params.flatMap Pa.cells) rfl HL1.out HNP.out HN1.out HC1.out (by omega) ?_; intro v2 hown2 hgrow2)
      rw [Nat.zero_add, List.nil_append] at hown2
      have hK2 : Kp Q v1 v2 := (Kp.refl Q v1).grown hgrow2
      have hb2 : Below B w v2 := hb1.grown hgrow2 (by omega) (fun k hk => by simp at hk; omega)
      have hs2 : Q < v2.heap.size := owns_lt hown2
      have HO2 : Hid ((v2.alloc (.cells #[.string ⟨#[63]⟩, .int .i64 0, .int .i64 0] 50)).ownsRow Q 50 3 (.slice (some ⟨Q, 0, none⟩) f.params.length (f.params.length + 1)) f.params.length (f.params.flatMap Pa.cells)) := hown2.alloc _
      have HN2 : Hid (∀ i u, senP[i]? = some u → (v2.alloc (.cells #[.string ⟨#[63]⟩, .int .i64 0, .int .i64 0] 50)).cell? ((⟨v2.heap.size, 0, none⟩ : Addr).add i) = some u) := World.news_of_block (heap_alloc_new v2 _)
      have HC2 : Hid (∀ u ∈ senP, u.oneCell' = true) := List.all_eq_true.1 (show senP.all (fun u => u.oneCell') = true from rfl)
      clear hown2 hgrow2 HO1 HN1 HL1 HC1 m1
      go_upto_region 14 with (at_builtin; refine wpList_append_own_spare _ rfl _ _ 33 rfl Q 50 i1 3 Tryd.underlying33 HI1.out hy1 Q f.params.length (f.params.length + 1) (f.params.flatMap Pa.cells) rfl HO2.out ⟨v2.heap.size, 0, none⟩ 1 1 senP rfl rfl HN2.out HC2.out (by omega) ?_; intro v3 hown3 hgrow3)
      have hK3 : Kp Q v1 v3 := (hK2.alloc _).grown hgrow3
      have hb3 : Below B w v3 := (hb2.alloc (by omega) _).grown hgrow3 (by simp; omega) (fun k hk => by simp at hk; omega)
      have hs3 : Q < v3.heap.size := owns_lt hown3
      have h3Q : v3.heap[Q]? = some (.cells ⟨f.params.flatMap Pa.cells ++ senP⟩ 50 (0, 0)) := owns_full hown3
      have h3X := (hK3.2 X (by omega) (by omega)).trans h1X
      have HKO : Hid (∀ k, k < X → v3.heap[k]? = wr.heap[k]?) := fun k h => (hK3.2 k (by omega) (by omega)).trans (hK1 k h)
      clear hown3 hgrow3 HO2 HN2 HC2 hK2 hK3 hb1 hb2 h1X hK1 hs1 hs2
      have m1 : v3.cell? ⟨X, 1, none⟩ = some (.slice f.pa f.params.length f.pc) := by rw [Lib.cell_of_heap h3X]; rfl
      have m2 : v3.cell? ⟨X, 2, none⟩ = some (.slice f.ba f.body.length f.bc) := by rw [Lib.cell_of_heap h3X]; rfl
      have mf : ∀ i, v3.frozen? ⟨X, i, none⟩ = false := fun i => by simp [World.frozen?, h3X]
      go_wp2_with fail
      obtain ⟨V4, hV4⟩ : ∃ V4, v3.setCell ⟨X, 1, none⟩ (.slice (some ⟨Q, 0, none⟩) f.params.length (f.params.length + 1)) = V4 := ⟨_, rfl⟩
      rw [hV4]
      have hK4 : Kp X v3 V4 := by rw [← hV4]; exact (Kp.refl X v3).set 1 _
      have h4X : V4.heap[X]? = some (.cells #[.string f.name, .slice (some ⟨Q, 0, none⟩) f.params.length (f.params.length + 1), .slice f.ba f.body.length f.bc] 36 (0, 0)) := by rw [← hV4]; exact set_list h3X 1 _
      have hb4 : Below B w V4 := by rw [← hV4]; exact Below.setCell (p := ⟨X, 1, none⟩) hb3 (by show B ≤ X; omega) _
      have hs4 : Q < V4.heap.size := Nat.lt_of_lt_of_le hs3 hK4.1
      clear hV4 m1 m2 mf h3X hb3
      refine (stmtsOf_any f.body f.ba f.bc V4 (XI.out V4 hb4).2.2.2.2.2.2 XF.out.2.1 XF.out.2.2).mono ?_
      rintro e v5 ⟨⟨gB, lB, rfl, hr5, hc5, he5, hn5, hd5⟩, hb5⟩
      have PB : Hid (RowCp v5 (some ⟨gB, 0, none⟩) (f.body.length + 1) lB.length 216 53 (lB.flatMap St.cells ++ senS) ∧ (∀ y ∈ lB, y.Cp v5) ∧ erS lB = erS f.body ∧ (gB :: blS lB).Nodup ∧ (∀ b ∈ gB :: blS lB, Q < b ∧ b < v5.heap.size)) := ⟨hr5, hc5, he5, hn5, fun b hb => ⟨by have := (hd5 b hb).1; omega, (hd5 b hb).2⟩⟩
      have h5X := (hb5.block X (by omega)).trans h4X
      have H5Q : Hid (v5.heap[Q]? = some (.cells ⟨f.params.flatMap Pa.cells ++ senP⟩ 50 (0, 0))) := (hb5.block Q (by omega)).trans ((hK4.2 Q hs3 (by omega)).trans h3Q)
      have HK5 : Hid (∀ k, k < X → v5.heap[k]? = wr.heap[k]?) := fun k h => (hb5.block k (by omega)).trans ((hK4.2 k (by omega) (by omega)).trans (HKO.out k h))
      have hb5' : Below B w v5 := hb4.trans (hb5.mono (by omega))
      have hs5 : Q < v5.heap.size := Nat.lt_of_lt_of_le hs4 hb5.size
      clear hr5 hc5 he5 hn5 hd5 hb5 h4X hK4 hb4 hs4 h3Q hs3 HKO
      have m2 : v5.cell? ⟨X, 2, none⟩ = some (.slice f.ba f.body.length f.bc) := by rw [Lib.cell_of_heap h5X]; rfl
      have mf : ∀ i, v5.frozen? ⟨X, i, none⟩ = false := fun i => by simp [World.frozen?, h5X]
      go_upto_region 16 with fail
      obtain ⟨V6, hV6⟩ : ∃ V6, v5.setCell ⟨X, 2, none⟩ (.slice (some ⟨gB, 0, none⟩) f.body.length (f.body.length + 1)) = V6 := ⟨_, rfl⟩
      rw [hV6]
      have HK6 : Hid (Kp X v5 V6) := by rw [← hV6]; exact (Kp.refl X v5).set 2 _
      have h6X : V6.heap[X]? = some (.cells #[.string f.name, .slice (some ⟨Q, 0, none⟩) f.params.length (f.params.length + 1), .slice (some ⟨gB, 0, none⟩) f.body.length (f.body.length + 1)] 36 (0, 0)) := by rw [← hV6]; exact set_list h5X 2 _
      have HB6 : Hid (Below B w V6) := by rw [← hV6]; exact Below.setCell (p := ⟨X, 2, none⟩) hb5' (by show B ≤ X; omega) _
      have HS6 : Hid (V6.heap.size = v5.heap.size ∧ Q < v5.heap.size) := ⟨by rw [← hV6, size_set], hs5⟩
      clear hV6 m2 mf h5X hb5' hs5
      have n0 : V6.cell? ⟨X, 0, none⟩ = some (.string f.name) := by rw [Lib.cell_of_heap h6X]; rfl
      have n1 : V6.cell? ⟨X, 1, none⟩ = some (.slice (some ⟨Q, 0, none⟩) f.params.length (f.params.length + 1)) := by rw [Lib.cell_of_heap h6X]; rfl
      have n2 : V6.cell? ⟨X, 2, none⟩ = some (.slice (some ⟨gB, 0, none⟩) f.body.length (f.body.length + 1)) := by rw [Lib.cell_of_heap h6X]; rfl
      have HO7 : Hid ((V6.alloc (.cells #[.string f.name, .slice (some ⟨Q, 0, none⟩) f.params.length (f.params.length + 1), .slice (some ⟨gB, 0, none⟩) f.body.length (f.body.length + 1)] 36)).ownsRow F 36 3 (.slice (some ⟨F, 0, none⟩) j (p.funcs.length + 1)) j (fl.flatMap Fu.cells)) :=
        owns_heap HO.out ((Below.heap_alloc _ _ _ (by have := HS6.out; omega)).trans ((HK6.out.2 F (by have := HS6.out; omega) (by omega)).trans (HK5.out F hFX)))
      have HN7 : Hid (∀ i u, ([.string f.name, .slice (some ⟨Q, 0, none⟩) f.params.length (f.params.length + 1), .slice (some ⟨gB, 0, none⟩) f.body.length (f.body.length + 1)] : List Value)[i]? = some u → (V6.alloc (.cells #[.string f.name, .slice (some ⟨Q, 0, none⟩) f.params.length (f.params.length + 1), .slice (some ⟨gB, 0, none⟩) f.body.length (f.body.length + 1)] 36)).cell? ((⟨V6.heap.size, 0, none⟩ : Addr).add i) = some u) := World.news_of_block (heap_alloc_new V6 _)
      have HC7 : Hid (∀ u ∈ ([.string f.name, .slice (some ⟨Q, 0, none⟩) f.params.length (f.params.length + 1), .slice (some ⟨gB, 0, none⟩) f.body.length (f.body.length + 1)] : List Value), u.oneCell' = true) := List.all_eq_true.1 (show ([.string f.name, .slice (some ⟨Q, 0, none⟩) f.params.length (f.params.length + 1), .slice (some ⟨gB, 0, none⟩) f.body.length (f.body.length + 1)] : List Value).all (fun u => u.oneCell') = true from rfl)
      clear h6X
      go_wp2_with (at_builtin; refine wpList_append_own_spare _ rfl _ _ 23 rfl F 36 i2 3 Tryd.underlying23 HI2.out hx1 F j (p.funcs.length + 1) (fl.flatMap Fu.cells) rfl HO7.out ⟨V6.heap.size, 0, none⟩ 1 1 [.string f.name, .slice (some ⟨Q, 0, none⟩) f.params.length (f.params.length + 1), .slice (some ⟨gB, 0, none⟩) f.body.length (f.body.length + 1)] rfl rfl HN7.out HC7.out (by omega) ?_; intro v7 hown7 hgrow7)
      have HW7 : Hid (v7.ownsRow F 36 3 (.slice (some ⟨F, 0, none⟩) (j + 1) (p.funcs.length + 1)) (j + 1) (fl.flatMap Fu.cells ++ [.string f.name, .slice (some ⟨Q, 0, none⟩) f.params.length (f.params.length + 1), .slice (some ⟨gB, 0, none⟩) f.body.length (f.body.length + 1)])) := hown7
      have HK7 : Hid (V6.heap.size < v7.heap.size ∧ ∀ k, k < V6.heap.size → k ≠ F → v7.heap[k]? = V6.heap[k]?) := ⟨by have := hgrow7.size; simp at this; omega, fun k h1 h2 => (hgrow7.block k (by simp; omega) (by simpa using h2)).trans (Below.heap_alloc _ _ _ h1)⟩
      have BW7 : Hid (Below B w v7) := (HB6.out.alloc (by have := HS6.out; omega) _).grown hgrow7 (by have := HS6.out; simp; omega) (fun k hk => by simp at hk; omega)
      clear hown7 hgrow7 HO7 HN7 HC7 n0 n1 n2
      go_wp2_with fail
      go_roundw
      case rel =>
        obtain ⟨hrB, hcB, heB, hnB, hdB⟩ := PB.out
        obtain ⟨hcp, her, hnd, hbd⟩ := HR.out
        obtain ⟨hs7, hk7⟩ := HK7.out
        obtain ⟨hs6, hq5⟩ := HS6.out
        have hkp := HKP.out
        have hx := HX.out
        have hji := HJ.out
        have hlB : lB.length = f.body.length := erS_len heB
        obtain ⟨z, hzd⟩ : ∃ z : Fu, z = ⟨f.name, some ⟨Q, 0, none⟩, f.params.length + 1, f.params, some ⟨gB, 0, none⟩, f.body.length + 1, lB⟩ := ⟨_, rfl⟩
        have hzb : z.bl = Q :: gB :: blS lB := by rw [hzd]; rfl
        have hll : (fl ++ [z]).length = j + 1 := by simp; omega
        have f5 : ∀ k, X < k → k < v5.heap.size → v7.heap[k]? = v5.heap[k]? := fun k h1 h2 => (hk7 k (by omega) (by omega)).trans (HK6.out.2 k h2 (by omega))
        have fo : ∀ k, k < X → k ≠ F → v7.heap[k]? = wr.heap[k]? := fun k h1 h2 => (hk7 k (by omega) h2).trans ((HK6.out.2 k (by omega) (by omega)).trans (HK5.out k h1))
        have hbl : (fl ++ [z]).flatMap Fu.bl = fl.flatMap Fu.bl ++ (Q :: gB :: blS lB) := by rw [List.flatMap_append]; simp [hzb]
        refine ⟨fl ++ [z], ?_, ?_, ?_, ?_, ?_, ?_, ?_, ?_, ⟨by have := hkp.1; omega, fun k h1 h2 => (fo k (by have := hkp.1; omega) h2).trans (hkp.2 k h1 h2)⟩, BW7.out⟩
        · rw [hll]; go_num
        · rw [hll]; omega
        · rw [hll]
        · rw [hll, List.flatMap_append]
          have h7 := HW7.out
          rw [hzd]
          simpa [Fu.cells, hlB] using h7
        · intro y hy
          rcases List.mem_append.1 hy with hy | hy
          · refine (hcp y hy).kept fun b h => ?_
            have hb' := hbd b (List.mem_flatMap.2 ⟨y, hy, h⟩)
            exact fo b (by omega) (by omega)
          · obtain rfl := List.mem_singleton.1 hy
            rw [hzd]
            refine ⟨HOK.out.1, ⟨Q, rfl, rfl, by show (f.params.length + 1) * 32 ≤ _; omega, (f5 Q (by omega) hq5).trans H5Q.out⟩, HOK.out.2, hrB.keep (f5 gB (by have := hdB gB (List.mem_cons_self ..); omega) (hdB gB (List.mem_cons_self ..)).2), fun x hx => (hcB x hx).kept fun b h => ?_⟩
            have := hdB b (List.mem_cons_of_mem _ (by rw [blS_map]; exact List.mem_flatMap.2 ⟨x, hx, h⟩))
            exact f5 b (by omega) this.2
        · rw [hll, HT.out, ← her, List.map_append]
          simp only [List.map_cons, List.map_nil]
          rw [hzd]
          simp only [Fu.er, heB]
        · rw [hbl, List.nodup_append]
          refine ⟨hnd, List.nodup_cons.2 ⟨fun h => ?_, hnB⟩, fun p hp q hq => ?_⟩
          · have := hdB Q h; omega
          · have := hbd p hp
            rcases List.mem_cons.1 hq with hq | hq
            · omega
            · have := hdB q hq; omega
        · intro b h
          rw [hbl] at h
          rcases List.mem_append.1 h with h | h
          · have := hbd b h; omega
          rcases List.mem_cons.1 h with h | h
          · omega
          · have := hdB b h; omega
      case measure => simp [intOf]; omega
    · obtain rfl : j = p.funcs.length := by omega
      have HO9 : Hid ((wr.alloc (.cells #[.string ⟨#[63]⟩, .slice none 0 0, .slice none 0 0] 36)).ownsRow F 36 3 (.slice (some ⟨F, 0, none⟩) p.funcs.length (p.funcs.length + 1)) p.funcs.length (fl.flatMap Fu.cells)) := HO.out.alloc _
      have HN9 : Hid (∀ i u, senF[i]? = some u → (wr.alloc (.cells #[.string ⟨#[63]⟩, .slice none 0 0, .slice none 0 0] 36)).cell? ((⟨wr.heap.size, 0, none⟩ : Addr).add i) = some u) := World.news_of_block (heap_alloc_new wr _)
      have HC9 : Hid (∀ u ∈ senF, u.oneCell' = true) := List.all_eq_true.1 (show senF.all (fun u => u.oneCell') = true from rfl)
      go_upto_region 18 with (at_builtin; refine wpList_append_own_spare _ rfl _ _ 23 rfl F 36 i2 3 Tryd.underlying23 HI2.out hx1 F p.funcs.length (p.funcs.length + 1) (fl.flatMap Fu.cells) rfl HO9.out ⟨wr.heap.size, 0, none⟩ 1 1 senF rfl rfl HN9.out HC9.out (by omega) ?_; intro w9 hown9 hgrow9)
      have hK9 : Kp F wr w9 := ((Kp.refl F wr).alloc _).grown hgrow9
      have hK59 : Kp F w5 w9 := HKP.out.trans hK9
      have hb9 : Below B w w9 := (BW.out.alloc (by omega) _).grown hgrow9 (by simp; omega) (fun k hk => by simp at hk; omega)
      have h9F : w9.heap[F]? = some (.cells ⟨fl.flatMap Fu.cells ++ senF⟩ 36 (0, 0)) := owns_full hown9
      have hs9 : F < w9.heap.size := owns_lt hown9
      have h9B := (hK59.2 B (by omega) (by omega)).trans H5.out.1
      have h9R := (hK59.2 R (by omega) (by omega)).trans H5.out.2.1
      have h9O := (hK59.2 O (by omega) (by omega)).trans H5.out.2.2.1
      have H9 : Hid (Kp F wr w9 ∧ w9.heap[D]? = some (.cells ⟨p.widen.flatMap cI ++ [.int .i64 (-77)]⟩ 2 (0, 0)) ∧ w9.heap[F]? = some (.cells ⟨fl.flatMap Fu.cells ++ senF⟩ 36 (0, 0)) ∧ F < w9.heap.size) := ⟨hK9, (hK59.2 D (by omega) (by omega)).trans H5.out.2.2.2, h9F, hs9⟩
      clear hown9 hgrow9 HO9 HN9 HC9 hK59 hK9 h9F k1
      have m1 : w9.cell? ⟨B, 1, none⟩ = some (.slice p.fa p.funcs.length p.fc) := by rw [Lib.cell_of_heap h9B]; rfl
      have o0 : w9.cell? ⟨O, 0, none⟩ = some (.slice (some ⟨D, 0, none⟩) p.widen.length (p.widen.length + 1)) := by rw [Lib.cell_of_heap h9O]; rfl
      have o1 : w9.cell? ⟨O, 1, none⟩ = some (.slice none 0 0) := by rw [Lib.cell_of_heap h9O]; rfl
      have of : ∀ i, w9.frozen? ⟨O, i, none⟩ = false := fun i => by simp [World.frozen?, h9O]
      have r0 : w9.cell? ⟨R, 0, none⟩ = some (.slice none 0 0) := by rw [Lib.cell_of_heap h9R]; rfl
      have r1 : w9.cell? ⟨R, 1, none⟩ = some (.slice none 0 0) := by rw [Lib.cell_of_heap h9R]; rfl
      have rf : ∀ i, w9.frozen? ⟨R, i, none⟩ = false := fun i => by simp [World.frozen?, h9R]
      have hor : O ≠ R := by omega
      have hor' : R ≠ O := by omega
      clear h9B h9R h9O
      go_wp2_with fail
      refine bodyPost_ret (v := .agg #[.slice (some ⟨D, 0, none⟩) p.widen.length (p.widen.length + 1), .slice (some ⟨F, 0, none⟩) p.funcs.length (p.funcs.length + 1)]) (by simp [results, Tryd.results8, go_sem, r0, r1]) rfl ?_
      have hB := HBB.out
      obtain ⟨hK9, h9D, h9F, _⟩ := H9.out
      obtain ⟨hcp, her, hnd, hbd⟩ := HR.out
      have hji := HJ.out
      have kk : ∀ k, k ≠ O → k ≠ R → (((w9.setCell ⟨O, 1, none⟩ (.slice (some ⟨F, 0, none⟩) p.funcs.length (p.funcs.length + 1))).setCell ⟨R, 0, none⟩ (.slice (some ⟨D, 0, none⟩) p.widen.length (p.widen.length + 1))).setCell ⟨R, 1, none⟩ (.slice (some ⟨F, 0, none⟩) p.funcs.length (p.funcs.length + 1))).heap[k]? = w9.heap[k]? := fun k h1 h2 => by
        rw [Below.heap_setCell _ _ _ _ h2, Below.heap_setCell _ _ _ _ h2, Below.heap_setCell _ _ _ _ h1]
      have hsz : (((w9.setCell ⟨O, 1, none⟩ (.slice (some ⟨F, 0, none⟩) p.funcs.length (p.funcs.length + 1))).setCell ⟨R, 0, none⟩ (.slice (some ⟨D, 0, none⟩) p.widen.length (p.widen.length + 1))).setCell ⟨R, 1, none⟩ (.slice (some ⟨F, 0, none⟩) p.funcs.length (p.funcs.length + 1))).heap.size = w9.heap.size := by rw [size_set, size_set, size_set]
      refine ⟨⟨⟨some ⟨D, 0, none⟩, p.widen.length + 1, p.widen, some ⟨F, 0, none⟩, p.funcs.length + 1, fl⟩, ?_, ⟨⟨D, rfl, rfl, by show (p.widen.length + 1) * 8 ≤ _; omega, (kk D (by omega) (by omega)).trans h9D⟩, (XW.out w (Below.refl _ _)).2.2.2.2.1, ⟨F, rfl, by show p.funcs.length + 1 = fl.length + 1; omega, by show (p.funcs.length + 1) * 64 ≤ _; omega, (kk F (by omega) (by omega)).trans h9F⟩, fun y hy => (hcp y hy).kept fun b hb => ?_⟩, ?_, ?_, ?_⟩, ?_⟩
      · simp only [hji]
      · have := hbd b (List.mem_flatMap.2 ⟨y, hy, hb⟩)
        exact (kk b (by omega) (by omega)).trans (hK9.2 b this.2 (by omega))
      · simp only [Pr.er, her, List.take_length]
      · refine List.nodup_cons.2 ⟨fun h => ?_, List.nodup_cons.2 ⟨fun h => ?_, hnd⟩⟩
        · rcases List.mem_cons.1 h with h | h
          · have : D = F := h
            omega
          · have := hbd D h; omega
        · have := hbd F h; omega
      · intro b h
        rw [hsz]
        have := hK9.1
        rcases List.mem_cons.1 h with h | h
        · have : b = D := h
          omega
        rcases List.mem_cons.1 h with h | h
        · have : b = F := h
          omega
        · have := hbd b h; omega
      · rw [hB]
        exact Below.setCell (p := ⟨R, 1, none⟩) (Below.setCell (p := ⟨R, 0, none⟩) (Below.setCell (p := ⟨O, 1, none⟩) hb9 (by show B ≤ O; omega) _) (by show B ≤ R; omega) _) (by show B ≤ R; omega) _
end Go.Proofs.YtbpemackmadhgabDoor

/- Does the room behind the lists of a copy read as it did? -/
namespace Go.Proofs.YtbpemackmadhgabDoor
open Go.RowKit Go.Sort

theorem RowCp.lt {W : World} {a : Option Addr} {c n B : Nat} {T : TypeId} {cs : List Value} (h : RowCp W a c n B T cs) : blk a < W.heap.size := by
  obtain ⟨g, rfl, _, _, h3⟩ := h
  exact (Array.getElem?_eq_some_iff.1 h3).1
theorem Ex.Cp.lt {W : World} : ∀ (k : Nat) (x : Ex), x.sz ≤ k → x.Cp W → ∀ b ∈ x.bl, b < W.heap.size := by
  intro k
  induction k with
  | zero => intro x hk; have := x.sz_args; omega
  | succ k ih =>
    intro x hk h b hb
    obtain ⟨_, _, _, h4, h5⟩ := Ex.cp_iff.1 h
    rw [x.bl_eq] at hb
    rcases List.mem_cons.1 hb with rfl | hb
    · exact h4.lt
    · rw [blL_map] at hb
      obtain ⟨y, hy, hb⟩ := List.mem_flatMap.1 hb
      exact ih y (by have := x.sz_args; have := szL_mem hy; omega) (h5 y hy) b hb
theorem Ex.Cp.stay {W W' : World} {x : Ex} (h : x.Cp W) (hb : Below W.heap.size W W') : x.Cp W' := h.kept fun b hx => hb.block b (Ex.Cp.lt _ x (Nat.le_refl _) h b hx)
theorem RowCp.stay {W W' : World} {a : Option Addr} {c n B : Nat} {T : TypeId} {cs : List Value} (h : RowCp W a c n B T cs) (hb : Below W.heap.size W W') : RowCp W' a c n B T cs := h.keep (hb.block _ h.lt)

set_option maxRecDepth 100000 in
set_option maxHeartbeats 4000000 in
theorem roomE_step (n : Nat) (ih : ∀ (l : List Ex) (a : Option Addr) (c : Nat) (w : World), szL l < n → RowCp w a c l.length 56 48 (l.flatMap Ex.cells ++ senE) → (∀ x ∈ l, x.Cp w) → Calls Tryd.prog 51 #[.slice a l.length c] w fun e w' => e = .returned (.bool true) ∧ Below w.heap.size w w')
    (l : List Ex) (a : Option Addr) (c : Nat) (w : World) (hk : szL l ≤ n) (hr : RowCp w a c l.length 56 48 (l.flatMap Ex.cells ++ senE)) (hc : ∀ x ∈ l, x.Cp w) : Calls Tryd.prog 51 #[.slice a l.length c] w fun e w' => e = .returned (.bool true) ∧ Below w.heap.size w w' := by
  have IH : Hid (∀ (l : List Ex) (a : Option Addr) (c : Nat) (w : World), szL l < n → RowCp w a c l.length 56 48 (l.flatMap Ex.cells ++ senE) → (∀ x ∈ l, x.Cp w) → Calls Tryd.prog 51 #[.slice a l.length c] w fun e w' => e = .returned (.bool true) ∧ Below w.heap.size w w') := ih
  have HK : Hid (szL l ≤ n) := hk
  have HC : Hid (∀ x ∈ l, x.Cp w) := hc
  have HRW : Hid (RowIn w a 4 (l.map Ex.cells)) := hr.row (k := 4) (fun _ => rfl)
  obtain ⟨g, rfl, rfl, hcb, hg⟩ := hr
  have hsen : w.cell? ⟨g, l.length * 4, none⟩ = some (.int .i64 (-77)) := by
    rw [Lib.cell_of_heap hg]
    show (l.flatMap Ex.cells ++ senE).toArray[l.length * 4]? = _
    have : (l.flatMap Ex.cells).length = l.length * 4 := flat_len (f := Ex.cells) (k := 4) (fun _ => rfl) l
    simp [← this, senE]
  have HSEN : Hid (w.cell? ⟨g, l.length * 4, none⟩ = some (.int .i64 (-77))) := hsen
  clear ih hk hc hg hsen
  go_enter Tryd.func51, Tryd.ntmps51
  go_wp2_with fail
  go_loopw [3] (fun t3 wr => ∃ (j : Nat), j ≤ l.length ∧ t3 = .int .i64 j ∧ Below w.heap.size w wr) (fun t3 _ => l.length - (intOf t3).toNat)
  case atStart => exact ⟨0, Nat.zero_le _, rfl, Below.refl _ w⟩
  case round =>
    obtain ⟨j, hj, rfl, hb⟩ := hrel
    have hws := hb.size
    by_cases hlt : j < l.length
    · have hli : (j : Int) < (l.length : Int) := by omega
      obtain ⟨b, o, hba, c0, c1, c2, c3⟩ := row_at (HRW.out.below hb) hlt
      obtain ⟨rfl, rfl⟩ : g = b ∧ 0 = o := by simpa using hba
      clear hba
      simp only [Nat.zero_add] at c0 c1 c2 c3
      have HQ : Hid (∀ w', Below w.heap.size w w' → Calls Tryd.prog 51 #[.slice l[j].a l[j].args.length l[j].cap] w' fun e w'' => e = .returned (.bool true) ∧ Below w'.heap.size w' w'') := fun w' h => by
        have h1 := szL_mem (List.getElem_mem hlt)
        have h2 := (l[j]).sz_args
        have h3 := HK.out
        have h4 := Ex.cp_iff.1 ((HC.out l[j] (List.getElem_mem hlt)).stay h)
        exact IH.out _ _ _ w' (by omega) h4.2.2.2.1 h4.2.2.2.2
      generalize l[j] = x at *
      go_wp2_with fail
      refine (HQ.out _ hb).mono ?_
      rintro e w' ⟨rfl, hb'⟩
      clear c0 c1 c2 c3
      go_wp2_with fail
      go_roundw
      case rel => exact ⟨j + 1, by omega, by go_num, Below.on hb hb'⟩
      case measure => simp [intOf]; omega
    · obtain rfl : j = l.length := by omega
      have hsn := (hb.cell (lt_of_cell HSEN.out)).trans HSEN.out
      go_wp2_with fail
      go_ret
      exact ⟨rfl, hb⟩
theorem roomE_k (n : Nat) : ∀ (l : List Ex) (a : Option Addr) (c : Nat) (w : World), szL l < n → RowCp w a c l.length 56 48 (l.flatMap Ex.cells ++ senE) → (∀ x ∈ l, x.Cp w) → Calls Tryd.prog 51 #[.slice a l.length c] w fun e w' => e = .returned (.bool true) ∧ Below w.heap.size w w' := by
  induction n with
  | zero => intro l a c w h; omega
  | succ n ih => exact fun l a c w h => roomE_step n ih l a c w (by omega)
theorem roomE_any (l : List Ex) (a : Option Addr) (c : Nat) (w : World) (hr : RowCp w a c l.length 56 48 (l.flatMap Ex.cells ++ senE)) (hc : ∀ x ∈ l, x.Cp w) : Calls Tryd.prog 51 #[.slice a l.length c] w fun e w' => e = .returned (.bool true) ∧ Below w.heap.size w w' := roomE_k (szL l + 1) l a c w (by omega) hr hc
end Go.Proofs.YtbpemackmadhgabDoor

/- Does the room behind the lists of a copy read as it did? Statements. -/
namespace Go.Proofs.YtbpemackmadhgabDoor
open Go.RowKit Go.Sort

theorem cp_lt {W : World} (k : Nat) : (∀ s : St, s.sz ≤ k → s.Cp W → ∀ b ∈ s.bl, b < W.heap.size) ∧ (∀ c : Ca, c.sz ≤ k → c.Cp W → ∀ b ∈ c.bl, b < W.heap.size) := by
  induction k with
  | zero => exact ⟨fun s h => by have := s.sz_eq; omega, fun c h => by have := c.sz_eq; omega⟩
  | succ k ih =>
    refine ⟨fun s hk h b hb => ?_, fun c hk h b hb => ?_⟩
    · obtain ⟨h1, h2, h3, h4, h5, h6, h7, h8, h9, h10, h11⟩ := St.cp_iff.1 h
      have := s.sz_eq
      rw [s.bl_eq] at hb
      rcases List.mem_append.1 hb with hb | hb
      · exact Ex.Cp.lt _ s.a (Nat.le_refl _) h4 b hb
      rcases List.mem_append.1 hb with hb | hb
      · exact Ex.Cp.lt _ s.b (Nat.le_refl _) h5 b hb
      rcases List.mem_append.1 hb with hb | hb
      · rcases List.mem_cons.1 hb with rfl | hb
        · exact h6.lt
        · rw [blS_map] at hb
          obtain ⟨x, hx, hb⟩ := List.mem_flatMap.1 hb
          exact ih.1 x (by have := ssz_mem hx; omega) (h9 x hx) b hb
      rcases List.mem_append.1 hb with hb | hb
      · rcases List.mem_cons.1 hb with rfl | hb
        · exact h7.lt
        · rw [blS_map] at hb
          obtain ⟨x, hx, hb⟩ := List.mem_flatMap.1 hb
          exact ih.1 x (by have := ssz_mem hx; omega) (h10 x hx) b hb
      rcases List.mem_cons.1 hb with rfl | hb
      · exact h8.lt
      · rw [blC_map] at hb
        obtain ⟨x, hx, hb⟩ := List.mem_flatMap.1 hb
        exact ih.2 x (by have := csz_mem hx; omega) (h11 x hx) b hb
    · obtain ⟨h1, h2, h3⟩ := Ca.cp_iff.1 h
      have := c.sz_eq
      rw [c.bl_eq] at hb
      rcases List.mem_cons.1 hb with rfl | hb
      · exact h2.lt
      · rw [blS_map] at hb
        obtain ⟨x, hx, hb⟩ := List.mem_flatMap.1 hb
        exact ih.1 x (by have := ssz_mem hx; omega) (h3 x hx) b hb
theorem St.Cp.stay {W W' : World} {s : St} (h : s.Cp W) (hb : Below W.heap.size W W') : s.Cp W' := h.kept fun b hx => hb.block b ((cp_lt _).1 s (Nat.le_refl _) h b hx)

abbrev RmOk (n : Nat) : Prop := ∀ (l : List St) (a : Option Addr) (c : Nat) (w : World), ssz l < n → RowCp w a c l.length 216 53 (l.flatMap St.cells ++ senS) → (∀ x ∈ l, x.Cp w) → Calls Tryd.prog 30 #[.slice a l.length c] w fun e w' => e = .returned (.bool true) ∧ Below w.heap.size w w'
set_option maxRecDepth 100000 in
set_option maxHeartbeats 8000000 in
theorem roomS_step (n : Nat) (ih : RmOk n) (l : List St) (a : Option Addr) (c : Nat) (w : World) (hk : ssz l ≤ n) (hr : RowCp w a c l.length 216 53 (l.flatMap St.cells ++ senS)) (hc : ∀ x ∈ l, x.Cp w) : Calls Tryd.prog 30 #[.slice a l.length c] w fun e w' => e = .returned (.bool true) ∧ Below w.heap.size w w' := by
  have IH : Hid (RmOk n) := ih
  have HK : Hid (ssz l ≤ n) := hk
  have HC : Hid (∀ x ∈ l, x.Cp w) := hc
  have HRW : Hid (RowIn w a 14 (l.map St.cells)) := hr.row (k := 14) (fun _ => rfl)
  obtain ⟨g, rfl, rfl, hcb, hg⟩ := hr
  have hsen : w.cell? ⟨g, l.length * 14, none⟩ = some (.int .i64 (-77)) := by
    rw [Lib.cell_of_heap hg]
    show (l.flatMap St.cells ++ senS).toArray[l.length * 14]? = _
    have : (l.flatMap St.cells).length = l.length * 14 := flat_len (f := St.cells) (k := 14) (fun _ => rfl) l
    simp [← this, senS]
  have HSEN : Hid (w.cell? ⟨g, l.length * 14, none⟩ = some (.int .i64 (-77))) := hsen
  clear ih hk hc hg hsen
  go_enter Tryd.func30, Tryd.ntmps30
  go_wp2_with fail
  go_loopw [3] (fun t3 wr => ∃ (j : Nat), j ≤ l.length ∧ t3 = .int .i64 j ∧ Below w.heap.size w wr) (fun t3 _ => l.length - (intOf t3).toNat)
  case atStart => exact ⟨0, Nat.zero_le _, rfl, Below.refl _ w⟩
  case round =>
    obtain ⟨j, hj, rfl, hb⟩ := hrel
    have hws := hb.size
    by_cases hlt : j < l.length
    · have hli : (j : Int) < (l.length : Int) := by omega
      obtain ⟨b, o, hba, hcell⟩ := rowS_at (HRW.out.below hb) hlt
      obtain ⟨rfl, rfl⟩ : g = b ∧ 0 = o := by simpa using hba
      clear hba
      have c0 := hcell 0 _ rfl
      have c1 := hcell 1 _ rfl
      have c2 := hcell 2 _ rfl
      have c3 := hcell 3 _ rfl
      have c4 := hcell 4 _ rfl
      have c5 := hcell 5 _ rfl
      have c6 := hcell 6 _ rfl
      have c7 := hcell 7 _ rfl
      have c8 := hcell 8 _ rfl
      have c9 := hcell 9 _ rfl
      have c10 := hcell 10 _ rfl
      have c11 := hcell 11 _ rfl
      have c12 := hcell 12 _ rfl
      have c13 := hcell 13 _ rfl
      simp only [Nat.zero_add, Nat.add_zero] at c0 c1 c2 c3 c4 c5 c6 c7 c8 c9 c10 c11 c12 c13
      clear hcell
      have XC : Hid (∀ w', Below w.heap.size w w' → l[j].Cp w') := fun w' h => (HC.out l[j] (List.getElem_mem hlt)).stay h
      have HZ : Hid (l[j].sz ≤ n) := Nat.le_trans (ssz_mem (List.getElem_mem hlt)) HK.out
      generalize l[j] = s at *
      have HE1 : Hid (∀ w', Below w.heap.size w w' → Calls Tryd.prog 51 #[.slice s.a.a s.a.args.length s.a.cap] w' fun e w'' => e = .returned (.bool true) ∧ Below w'.heap.size w' w'') := fun w' h => by
        have h4 := Ex.cp_iff.1 (St.cp_iff.1 (XC.out w' h)).2.2.2.1
        exact roomE_any _ _ _ w' h4.2.2.2.1 h4.2.2.2.2
      have HE2 : Hid (∀ w', Below w.heap.size w w' → Calls Tryd.prog 51 #[.slice s.b.a s.b.args.length s.b.cap] w' fun e w'' => e = .returned (.bool true) ∧ Below w'.heap.size w' w'') := fun w' h => by
        have h4 := Ex.cp_iff.1 (St.cp_iff.1 (XC.out w' h)).2.2.2.2.1
        exact roomE_any _ _ _ w' h4.2.2.2.1 h4.2.2.2.2
      have HB1 : Hid (∀ w', Below w.heap.size w w' → Calls Tryd.prog 30 #[.slice s.ba s.body.length s.bc] w' fun e w'' => e = .returned (.bool true) ∧ Below w'.heap.size w' w'') := fun w' h => by
        have h4 := St.cp_iff.1 (XC.out w' h)
        exact IH.out _ _ _ w' (by have := HZ.out; have := s.sz_eq; omega) h4.2.2.2.2.2.1 h4.2.2.2.2.2.2.2.2.1
      have HB2 : Hid (∀ w', Below w.heap.size w w' → Calls Tryd.prog 30 #[.slice s.ea s.els.length s.ec] w' fun e w'' => e = .returned (.bool true) ∧ Below w'.heap.size w' w'') := fun w' h => by
        have h4 := St.cp_iff.1 (XC.out w' h)
        exact IH.out _ _ _ w' (by have := HZ.out; have := s.sz_eq; omega) h4.2.2.2.2.2.2.1 h4.2.2.2.2.2.2.2.2.2.1
      obtain ⟨W1, hW1⟩ : ∃ W1, wr.alloc (.cells #[.int .i64 s.kind, .string s.name, .int .i64 s.n, .int .i64 s.a.kind, .int .i64 s.a.n, .string s.a.name, .slice s.a.a s.a.args.length s.a.cap, .int .i64 s.b.kind, .int .i64 s.b.n, .string s.b.name, .slice s.b.a s.b.args.length s.b.cap, .slice s.ba s.body.length s.bc, .slice s.ea s.els.length s.ec, .slice s.ca s.cases.length s.cc] 53) = W1 := ⟨_, rfl⟩
      have hb1 : Below wr.heap.size wr W1 := by rw [← hW1]; exact (Below.refl _ _).alloc (Nat.le_refl _) _
      have hbk : W1.heap[wr.heap.size]? = some (.cells (⟨s.cells⟩ : Array Value) 53 (0, 0)) := by rw [← hW1]; exact heap_alloc_new wr _
      obtain ⟨X, hX⟩ : ∃ X, wr.heap.size = X := ⟨_, rfl⟩
      have CX : Hid (∀ w', Below W1.heap.size W1 w' → ∀ (i : Nat) v, s.cells[i]? = some v → w'.cell? ⟨X, i, none⟩ = some v) := fun w' h i v e => seen (by rw [← hX, Lib.cell_of_heap hbk]; simpa using e) w' h
      have BW1 : Hid (Below w.heap.size w W1) := Below.on hb hb1
      have BWR : Hid (Below w.heap.size w wr) := hb
      have HW1 := show Hid _ from hW1
      have HX := show Hid _ from hX
      clear hW1 hb1 hbk hX
      go_wp2_with fail
      rw [HW1.out, HX.out]
      clear HW1 c0 c1 c2 c3 c4 c5 c6 c7 c8 c9 c10 c11 c12 c13
      refine (HE1.out _ BW1.out).mono ?_
      rintro e w2 ⟨rfl, hb2⟩
      have c10 := CX.out _ hb2 10 _ rfl
      go_wp2_with fail
      refine (HE2.out _ (Below.on BW1.out hb2)).mono ?_
      rintro e w3 ⟨rfl, hb3⟩
      have hb3' := Below.on hb2 hb3
      clear hb2 hb3 c10
      have c11 := CX.out _ hb3' 11 _ rfl
      go_wp2_with fail
      refine (HB1.out _ (Below.on BW1.out hb3')).mono ?_
      rintro e w4 ⟨rfl, hb4⟩
      have hb4' := Below.on hb3' hb4
      clear hb3' hb4 c11
      have c12 := CX.out _ hb4' 12 _ rfl
      go_wp2_with fail
      refine (HB2.out _ (Below.on BW1.out hb4')).mono ?_
      rintro e w5 ⟨rfl, hb5⟩
      have hb5' := Below.on hb4' hb5
      clear hb4' hb5 c12
      obtain ⟨hcl, hcc2⟩ : s.cases.length ≤ s.cc ∧ s.cc * 32 ≤ 140737488351232 := by
        obtain ⟨g', _, e1, e2, _⟩ := (St.cp_iff.1 (XC.out w (Below.refl _ _))).2.2.2.2.2.2.2.1
        exact ⟨by omega, e2⟩
      go_wp2_with fail
      go_loopw [5] (fun t5 wr => ∃ (i : Nat), i ≤ s.cases.length ∧ t5 = .int .i64 i ∧ Below W1.heap.size W1 wr) (fun t5 _ => s.cases.length - (intOf t5).toNat)
      case atStart => exact ⟨0, Nat.zero_le _, rfl, hb5'⟩
      case round =>
        clear hb5' hb hws
        obtain ⟨i, hi, rfl, hb⟩ := hrel
        have c13 := CX.out _ hb 13 _ rfl
        have hbw := Below.on BW1.out hb
        by_cases hilt : i < s.cases.length
        · have hili : (i : Int) < (s.cases.length : Int) := by omega
          have h8 := (St.cp_iff.1 (XC.out _ hbw)).2.2.2.2.2.2.2.1
          obtain ⟨rb, ro, hca, hcell⟩ := rowC_cells (h8.row (k := 2) (fun _ => rfl)) hilt
          have d0 := hcell 0 _ rfl
          have d1 := hcell 1 _ rfl
          simp only [← Nat.add_assoc, Nat.add_zero] at d0 d1
          rw [hca] at c13
          clear h8 hca hcell
          have HQ : Hid (∀ w', Below w.heap.size w w' → Calls Tryd.prog 30 #[.slice s.cases[i].ba s.cases[i].body.length s.cases[i].bc] w' fun e w'' => e = .returned (.bool true) ∧ Below w'.heap.size w' w'') := fun w' h => by
            have h4 := Ca.cp_iff.1 ((St.cp_iff.1 (XC.out w' h)).2.2.2.2.2.2.2.2.2.2 _ (List.getElem_mem hilt))
            have h1 := csz_mem (List.getElem_mem hilt)
            have h2 := (s.cases[i]).sz_eq
            have h3 := s.sz_eq
            exact IH.out _ _ _ w' (by have := HZ.out; omega) h4.2.1 h4.2.2
          generalize s.cases[i] = y at *
          go_wp2_with fail
          refine (HQ.out _ hbw).mono ?_
          rintro e w6 ⟨rfl, hb6⟩
          clear c13 d0 d1
          go_wp2_with fail
          go_roundw
          case rel => exact ⟨i + 1, by omega, by go_num, Below.on hb hb6⟩
          case measure => simp [intOf]; omega
        · obtain rfl : i = s.cases.length := by omega
          obtain ⟨g', hca, hcc, _, hg'⟩ := (St.cp_iff.1 (XC.out _ hbw)).2.2.2.2.2.2.2.1
          have d0 : wr.cell? ⟨g', s.cases.length * 2, none⟩ = some (.int .i64 (-77)) := by
            rw [Lib.cell_of_heap hg']
            show (s.cases.flatMap Ca.cells ++ senC).toArray[s.cases.length * 2]? = _
            have : (s.cases.flatMap Ca.cells).length = s.cases.length * 2 := flat_len (f := Ca.cells) (k := 2) (fun _ => rfl) s.cases
            simp [← this, senC]
          rw [hca, hcc] at c13
          clear hca hg'
          go_wp2_with fail
          go_roundw
          case rel => exact ⟨j + 1, by omega, by go_num, hbw⟩
          case measure => simp [intOf]; omega
    · obtain rfl : j = l.length := by omega
      have hsn := (hb.cell (lt_of_cell HSEN.out)).trans HSEN.out
      go_wp2_with fail
      go_ret
      exact ⟨rfl, hb⟩
theorem roomS_k (n : Nat) : RmOk n := by
  induction n with
  | zero => intro l a c w h; omega
  | succ n ih => exact fun l a c w h => roomS_step n ih l a c w (by omega)
theorem roomS_any (l : List St) (a : Option Addr) (c : Nat) (w : World) (hr : RowCp w a c l.length 216 53 (l.flatMap St.cells ++ senS)) (hc : ∀ x ∈ l, x.Cp w) : Calls Tryd.prog 30 #[.slice a l.length c] w fun e w' => e = .returned (.bool true) ∧ Below w.heap.size w w' := roomS_k (ssz l + 1) l a c w (by omega) hr hc
end Go.Proofs.YtbpemackmadhgabDoor

/- Copies are written over: expressions. What turns is the copy's alone. -/
namespace Go.Proofs.YtbpemackmadhgabDoor
open Go.RowKit Go.Sort

/-- Of what was there only these blocks have turned. -/
def Only (S : List Nat) (W W' : World) : Prop := W'.os = W.os ∧ W'.tape = W.tape ∧ W'.output = W.output ∧ W.heap.size ≤ W'.heap.size ∧ ∀ k, k < W.heap.size → k ∉ S → W'.heap[k]? = W.heap[k]?
theorem Only.refl (S : List Nat) (W : World) : Only S W W := ⟨rfl, rfl, rfl, Nat.le_refl _, fun _ _ _ => rfl⟩
theorem Only.trans {S : List Nat} {A B C : World} (h : Only S A B) (k : Only S B C) : Only S A C := ⟨k.1.trans h.1, k.2.1.trans h.2.1, k.2.2.1.trans h.2.2.1, Nat.le_trans h.2.2.2.1 k.2.2.2.1, fun i h1 h2 => (k.2.2.2.2 i (Nat.lt_of_lt_of_le h1 h.2.2.2.1) h2).trans (h.2.2.2.2 i h1 h2)⟩
theorem Only.mono {S S' : List Nat} {A B : World} (h : Only S A B) (hs : ∀ k ∈ S, k ∈ S') : Only S' A B := ⟨h.1, h.2.1, h.2.2.1, h.2.2.2.1, fun i h1 h2 => h.2.2.2.2 i h1 (fun e => h2 (hs i e))⟩
theorem Only.of_below {S : List Nat} {A B : World} (h : Below A.heap.size A B) : Only S A B := ⟨h.os, h.tape, h.output, h.size, fun i h1 _ => h.block i h1⟩
theorem Only.set {S : List Nat} {A B : World} (h : Only S A B) {g : Nat} (hg : g ∈ S) (i : Nat) (v : Value) : Only S A (B.setCell ⟨g, i, none⟩ v) := h.trans ⟨rfl, rfl, rfl, by simp [World.setCell], fun k _ h2 => Below.heap_setCell _ _ _ _ (fun e => h2 (e ▸ hg))⟩
theorem Only.below {S : List Nat} {A B : World} {N : Nat} (h : Only S A B) (hs : ∀ k ∈ S, N ≤ k) (hN : N ≤ A.heap.size) : Below N A B := ⟨h.1, h.2.1, h.2.2.1, h.2.2.2.1, fun k hk => h.2.2.2.2 k (by omega) (fun e => by have := hs k e; omega)⟩

/-- From the element j on a row of expressions is as it was. -/
def Tail (W : World) (g : Nat) (l : List Ex) (j : Nat) : Prop := ∃ cs : List Value, W.heap[g]? = some (.cells ⟨cs⟩ 48 (0, 0)) ∧ ∀ i, j * 4 ≤ i → cs[i]? = (l.flatMap Ex.cells ++ senE)[i]?

theorem Tail.set {W : World} {g : Nat} {l : List Ex} {j : Nat} (h : Tail W g l j) {i : Nat} (hi : i < j * 4) (v : Value) : Tail (W.setCell ⟨g, i, none⟩ v) g l j := by
  obtain ⟨cs, h1, h2⟩ := h
  refine ⟨cs.set i v, ?_, fun k hk => by rw [List.getElem?_set_ne (by omega)]; exact h2 k hk⟩
  simp [World.setCell, Array.getElem?_modify, h1]
theorem heap_set4 (W : World) {g b : Nat} (h : b ≠ g) (i0 i1 i2 i3 : Nat) (v0 v1 v2 v3 : Value) : ((((W.setCell ⟨g, i0, none⟩ v0).setCell ⟨g, i1, none⟩ v1).setCell ⟨g, i2, none⟩ v2).setCell ⟨g, i3, none⟩ v3).heap[b]? = W.heap[b]? := by
  rw [Below.heap_setCell _ _ _ _ h, Below.heap_setCell _ _ _ _ h, Below.heap_setCell _ _ _ _ h, Below.heap_setCell _ _ _ _ h]
theorem nd_parts {g : Nat} {l : List Ex} (h : (g :: blL l).Nodup) {j : Nat} (hj : j < l.length) : g ∉ l[j].bl ∧ l[j].bl.Nodup ∧ (∀ y ∈ l.drop (j + 1), ∀ b ∈ y.bl, b ∉ l[j].bl ∧ b ≠ g) ∧ (∀ b ∈ l[j].bl, b ∈ blL l) := by
  have hm : ∀ x ∈ l, ∀ b ∈ x.bl, b ∈ blL l := fun x hx b hb => by rw [blL_map]; exact List.mem_flatMap.2 ⟨x, hx, hb⟩
  obtain ⟨h1, h2⟩ := List.nodup_cons.1 h
  have e : l = l.take j ++ l[j] :: l.drop (j + 1) := by rw [← List.drop_eq_getElem_cons hj, List.take_append_drop]
  have h3 : (blL (l.take j) ++ (l[j].bl ++ blL (l.drop (j + 1)))).Nodup := by
    have : blL l = blL (l.take j) ++ (l[j].bl ++ blL (l.drop (j + 1))) := by
      conv => lhs; rw [e]
      simp only [blL_map, List.flatMap_append, List.flatMap_cons]
    rw [← this]; exact h2
  have h4 := (List.nodup_append.1 h3).2.1
  obtain ⟨h5, _, h6⟩ := List.nodup_append.1 h4
  refine ⟨fun hb => h1 (hm _ (List.getElem_mem hj) g hb), h5, fun y hy b hb => ⟨fun hx => ?_, fun hg => ?_⟩, hm _ (List.getElem_mem hj)⟩
  · exact h6 b hx b (by rw [blL_map]; exact List.mem_flatMap.2 ⟨y, hy, hb⟩) rfl
  · exact h1 (hg ▸ hm y (List.mem_of_mem_drop hy) b hb)

set_option maxRecDepth 100000 in
set_option maxHeartbeats 4000000 in
theorem spoilE_step (n : Nat) (ih : ∀ (l : List Ex) (a : Option Addr) (c : Nat) (w : World), szL l < n → RowCp w a c l.length 56 48 (l.flatMap Ex.cells ++ senE) → (∀ x ∈ l, x.Cp w) → (blk a :: blL l).Nodup → Calls Tryd.prog 52 #[.slice a l.length c] w fun e w' => e = .returned (.tuple #[]) ∧ Only (blk a :: blL l) w w')
    (l : List Ex) (a : Option Addr) (c : Nat) (w : World) (hk : szL l ≤ n) (hr : RowCp w a c l.length 56 48 (l.flatMap Ex.cells ++ senE)) (hc : ∀ x ∈ l, x.Cp w) (hnd : (blk a :: blL l).Nodup) : Calls Tryd.prog 52 #[.slice a l.length c] w fun e w' => e = .returned (.tuple #[]) ∧ Only (blk a :: blL l) w w' := by
  have IH : Hid (∀ (l : List Ex) (a : Option Addr) (c : Nat) (w : World), szL l < n → RowCp w a c l.length 56 48 (l.flatMap Ex.cells ++ senE) → (∀ x ∈ l, x.Cp w) → (blk a :: blL l).Nodup → Calls Tryd.prog 52 #[.slice a l.length c] w fun e w' => e = .returned (.tuple #[]) ∧ Only (blk a :: blL l) w w') := ih
  have HK : Hid (szL l ≤ n) := hk
  have HC : Hid (∀ x ∈ l, x.Cp w) := hc
  have HND : Hid ((blk a :: blL l).Nodup) := hnd
  obtain ⟨g, rfl, rfl, hcb, hg⟩ := hr
  have HG : Hid (Tail w g l 0) := ⟨_, hg, fun i _ => rfl⟩
  clear ih hk hc hnd hg
  go_enter Tryd.func52, Tryd.ntmps52
  go_wp2_with fail
  go_loopw [2] (fun t2 wr => ∃ (j : Nat), j ≤ l.length ∧ t2 = .int .i64 j ∧ Tail wr g l j ∧ (∀ x ∈ l.drop j, x.Cp wr) ∧ Only (g :: blL l) w wr) (fun t2 _ => l.length - (intOf t2).toNat)
  case atStart => exact ⟨0, Nat.zero_le _, rfl, HG.out, by simpa using HC.out, Only.refl _ w⟩
  case round =>
    obtain ⟨j, hj, rfl, htl, hcp, hon⟩ := hrel
    by_cases hlt : j < l.length
    · have hli : (j : Int) < (l.length : Int) := by omega
      obtain ⟨cs, hgr, hcs⟩ := htl
      have hcell : ∀ (i : Nat) v, l[j].cells[i]? = some v → wr.cell? ⟨g, j * 4 + i, none⟩ = some v := fun i v e => by
        rw [Lib.cell_of_heap hgr]
        have hi : i < 4 := (List.getElem?_eq_some_iff.1 e).1
        have := flatC_at (f := Ex.cells) (k := 4) (fun _ => rfl) senE l j l[j] i (List.getElem?_eq_getElem hlt) hi
        show cs.toArray[j * 4 + i]? = _
        rw [List.getElem?_toArray, hcs _ (by omega), this, e]
      have c0 := hcell 0 _ rfl
      have c1 := hcell 1 _ rfl
      have c2 := hcell 2 _ rfl
      have c3 := hcell 3 _ rfl
      simp only [Nat.add_zero] at c0
      obtain ⟨n1, n2, n3, n4⟩ := nd_parts (show (g :: blL l).Nodup from HND.out) hlt
      have hdr : l.drop j = l[j] :: l.drop (j + 1) := List.drop_eq_getElem_cons hlt
      have HQ : Hid (Calls Tryd.prog 52 #[.slice l[j].a l[j].args.length l[j].cap] wr fun e w'' => e = .returned (.tuple #[]) ∧ Only l[j].bl wr w'') := by
        have h1 := szL_mem (List.getElem_mem hlt)
        have h2 := (l[j]).sz_args
        have h3 := HK.out
        have h4 := Ex.cp_iff.1 (hcp l[j] (by rw [hdr]; exact List.mem_cons_self))
        have := IH.out l[j].args l[j].a l[j].cap wr (by omega) h4.2.2.2.1 h4.2.2.2.2 (by rw [← Ex.bl_eq]; exact n2)
        rw [← Ex.bl_eq] at this
        exact this
      have N1 := show Hid _ from n1
      have N3 := show Hid _ from n3
      have N4 := show Hid _ from n4
      have HCP : Hid (∀ y ∈ l.drop (j + 1), y.Cp wr) := fun y hy => hcp y (by rw [hdr]; exact List.mem_cons_of_mem _ hy)
      have HON : Hid _ := hon
      have HGR : Hid _ := hgr
      have HCS : Hid _ := hcs
      have hsz : (j + 1) * 4 ≤ cs.length := by
        have h1 := hcs (j * 4 + 3) (by omega)
        have h2 := flatC_at (f := Ex.cells) (k := 4) (fun _ => rfl) senE l j l[j] 3 (List.getElem?_eq_getElem hlt) (by omega)
        rw [h2] at h1
        have := (List.getElem?_eq_some_iff.1 h1).1
        omega
      clear n1 n2 n3 n4 hdr hcp hon hgr hcs hcell
      generalize l[j] = x at *
      go_wp2_with fail
      refine HQ.out.mono ?_
      rintro e w' ⟨rfl, ho⟩
      have hg' : w'.heap[g]? = some (.cells ⟨cs⟩ 48 (0, 0)) := (ho.2.2.2.2 g (Array.getElem?_eq_some_iff.1 HGR.out).1 N1.out).trans HGR.out
      clear c0 c1 c2 c3
      have hcc : ∀ i : Nat, i < 4 → ∃ v, w'.cell? ⟨g, j * 4 + i, none⟩ = some v := fun i hi => ⟨cs[j * 4 + i]'(by omega), by
        rw [Lib.cell_of_heap hg']
        show cs.toArray[j * 4 + i]? = _
        rw [List.getElem?_toArray, List.getElem?_eq_getElem]⟩
      obtain ⟨v0, d0⟩ := hcc 0 (by omega)
      obtain ⟨v1, d1⟩ := hcc 1 (by omega)
      obtain ⟨v2, d2⟩ := hcc 2 (by omega)
      obtain ⟨v3, d3⟩ := hcc 3 (by omega)
      have q0 : w'.frozen? ⟨g, j * 4, none⟩ = false := Lib.frozen_of_heap hg' _
      have q1 : w'.frozen? ⟨g, j * 4 + 1, none⟩ = false := Lib.frozen_of_heap hg' _
      have q2 : w'.frozen? ⟨g, j * 4 + 2, none⟩ = false := Lib.frozen_of_heap hg' _
      have q3 : w'.frozen? ⟨g, j * 4 + 3, none⟩ = false := Lib.frozen_of_heap hg' _
      simp only [Nat.add_zero] at d0
      have HG' : Hid (Tail w' g l (j + 1)) := ⟨cs, hg', fun i hi => HCS.out i (by omega)⟩
      have HO : Hid (Only x.bl wr w') := ho
      clear hcc hg' ho
      go_wp2_with fail
      go_roundw
      case rel =>
        refine ⟨j + 1, by omega, by go_num, (((HG'.out.set (by omega) _).set (by omega) _).set (by omega) _).set (by omega) _, fun y hy => ?_, ((((Only.trans HON.out (HO.out.mono fun k hk => List.mem_cons_of_mem _ (N4.out k hk))).set List.mem_cons_self _ _).set List.mem_cons_self _ _).set List.mem_cons_self _ _).set List.mem_cons_self _ _⟩
        have hy' := HCP.out y hy
        refine hy'.kept fun b hb => ?_
        rw [heap_set4 w' (N3.out y hy b hb).2]
        exact HO.out.2.2.2.2 b (Ex.Cp.lt _ y (Nat.le_refl _) hy' b hb) (N3.out y hy b hb).1
      case measure => simp [intOf]; omega
    · obtain rfl : j = l.length := by omega
      go_wp2_with fail
      go_end0
      exact ⟨rfl, hon⟩
theorem spoilE_k (n : Nat) : ∀ (l : List Ex) (a : Option Addr) (c : Nat) (w : World), szL l < n → RowCp w a c l.length 56 48 (l.flatMap Ex.cells ++ senE) → (∀ x ∈ l, x.Cp w) → (blk a :: blL l).Nodup → Calls Tryd.prog 52 #[.slice a l.length c] w fun e w' => e = .returned (.tuple #[]) ∧ Only (blk a :: blL l) w w' := by
  induction n with
  | zero => intro l a c w h; omega
  | succ n ih => exact fun l a c w h => spoilE_step n ih l a c w (by omega)
theorem spoilE_any (x : Ex) (w : World) (h : x.Cp w) (hn : x.bl.Nodup) : Calls Tryd.prog 52 #[.slice x.a x.args.length x.cap] w fun e w' => e = .returned (.tuple #[]) ∧ Only x.bl w w' := by
  have h4 := Ex.cp_iff.1 h
  have := spoilE_k (szL x.args + 1) x.args x.a x.cap w (by omega) h4.2.2.2.1 h4.2.2.2.2 (by rw [← Ex.bl_eq]; exact hn)
  rw [← Ex.bl_eq] at this
  exact this
end Go.Proofs.YtbpemackmadhgabDoor

/- Copies are written over: tools for statements. -/
namespace Go.Proofs.YtbpemackmadhgabDoor
open Go.RowKit Go.Sort

/-- From the cell m on a block is as it was. -/
def TailF (W : World) (g : Nat) (T : TypeId) (c0 : List Value) (m : Nat) : Prop := ∃ cs : List Value, W.heap[g]? = some (.cells ⟨cs⟩ T (0, 0)) ∧ cs.length = c0.length ∧ ∀ i, m ≤ i → cs[i]? = c0[i]?
theorem TailF.set {W : World} {g : Nat} {T : TypeId} {c0 : List Value} {m : Nat} (h : TailF W g T c0 m) {i : Nat} (hi : i < m) (v : Value) : TailF (W.setCell ⟨g, i, none⟩ v) g T c0 m := by
  obtain ⟨cs, h1, h0, h2⟩ := h
  refine ⟨cs.set i v, ?_, by simpa using h0, fun k hk => by rw [List.getElem?_set_ne (by omega)]; exact h2 k hk⟩
  simp [World.setCell, Array.getElem?_modify, h1]
theorem TailF.mono {W : World} {g : Nat} {T : TypeId} {c0 : List Value} {m m' : Nat} (h : TailF W g T c0 m) (hm : m ≤ m') : TailF W g T c0 m' := by
  obtain ⟨cs, h1, h0, h2⟩ := h
  exact ⟨cs, h1, h0, fun i hi => h2 i (by omega)⟩
theorem TailF.keep {W W' : World} {g : Nat} {T : TypeId} {c0 : List Value} {m : Nat} {S : List Nat} (h : TailF W g T c0 m) (ho : Only S W W') (hg : g ∉ S) : TailF W' g T c0 m := by
  obtain ⟨cs, h1, h0, h2⟩ := h
  exact ⟨cs, (ho.2.2.2.2 g (Array.getElem?_eq_some_iff.1 h1).1 hg).trans h1, h0, h2⟩
theorem TailF.frozen {W : World} {g : Nat} {T : TypeId} {c0 : List Value} {m : Nat} (h : TailF W g T c0 m) (i : Nat) : W.frozen? ⟨g, i, none⟩ = false := by
  obtain ⟨cs, h1, _⟩ := h
  exact Lib.frozen_of_heap h1 _
theorem TailF.cell {α : Type} {f : α → List Value} {k : Nat} (hf : ∀ x, (f x).length = k) {r : List Value} {W : World} {g : Nat} {T : TypeId} {l : List α} {j : Nat} (h : TailF W g T (l.flatMap f ++ r) (j * k)) {x : α} (hj : l[j]? = some x) {i : Nat} {v : Value} (e : (f x)[i]? = some v) : W.cell? ⟨g, j * k + i, none⟩ = some v := by
  obtain ⟨cs, h1, _, h2⟩ := h
  rw [Lib.cell_of_heap h1]
  have hi : i < k := by rw [← hf x]; exact (List.getElem?_eq_some_iff.1 e).1
  show cs.toArray[j * k + i]? = _
  rw [List.getElem?_toArray, h2 _ (by omega), flatC_at hf r l j x i hj hi, e]
theorem nd_any {α : Type} {bl : α → List Nat} {g : Nat} {l : List α} (h : (g :: l.flatMap bl).Nodup) {j : Nat} (hj : j < l.length) : g ∉ bl l[j] ∧ (bl l[j]).Nodup ∧ (∀ y ∈ l.drop (j + 1), ∀ b ∈ bl y, b ∉ bl l[j] ∧ b ≠ g) ∧ (∀ b ∈ bl l[j], b ∈ l.flatMap bl) := by
  have hm : ∀ x ∈ l, ∀ b ∈ bl x, b ∈ l.flatMap bl := fun x hx b hb => List.mem_flatMap.2 ⟨x, hx, hb⟩
  obtain ⟨h1, h2⟩ := List.nodup_cons.1 h
  have e : l = l.take j ++ l[j] :: l.drop (j + 1) := by rw [← List.drop_eq_getElem_cons hj, List.take_append_drop]
  have h3 : ((l.take j).flatMap bl ++ (bl l[j] ++ (l.drop (j + 1)).flatMap bl)).Nodup := by
    have : l.flatMap bl = (l.take j).flatMap bl ++ (bl l[j] ++ (l.drop (j + 1)).flatMap bl) := by
      conv => lhs; rw [e]
      simp only [List.flatMap_append, List.flatMap_cons]
    rw [← this]; exact h2
  have h4 := (List.nodup_append.1 h3).2.1
  obtain ⟨h5, _, h6⟩ := List.nodup_append.1 h4
  refine ⟨fun hb => h1 (hm _ (List.getElem_mem hj) g hb), h5, fun y hy b hb => ⟨fun hx => ?_, fun hg => ?_⟩, hm _ (List.getElem_mem hj)⟩
  · exact h6 b hx b (List.mem_flatMap.2 ⟨y, hy, hb⟩) rfl
  · exact h1 (hg ▸ hm y (List.mem_of_mem_drop hy) b hb)
theorem Ex.Cp.only {W W' : World} {S : List Nat} {x : Ex} (h : x.Cp W) (ho : Only S W W') (hd : ∀ b ∈ x.bl, b ∉ S) : x.Cp W' := h.kept fun b hb => ho.2.2.2.2 b (Ex.Cp.lt _ x (Nat.le_refl _) h b hb) (hd b hb)
theorem St.Cp.only {W W' : World} {S : List Nat} {x : St} (h : x.Cp W) (ho : Only S W W') (hd : ∀ b ∈ x.bl, b ∉ S) : x.Cp W' := h.kept fun b hb => ho.2.2.2.2 b ((cp_lt _).1 x (Nat.le_refl _) h b hb) (hd b hb)
theorem Ca.Cp.only {W W' : World} {S : List Nat} {x : Ca} (h : x.Cp W) (ho : Only S W W') (hd : ∀ b ∈ x.bl, b ∉ S) : x.Cp W' := h.kept fun b hb => ho.2.2.2.2 b ((cp_lt _).2 x (Nat.le_refl _) h b hb) (hd b hb)
theorem RowCp.only {W W' : World} {S : List Nat} {a : Option Addr} {c n B : Nat} {T : TypeId} {cs : List Value} (h : RowCp W a c n B T cs) (ho : Only S W W') (hd : blk a ∉ S) : RowCp W' a c n B T cs := h.keep (ho.2.2.2.2 _ h.lt hd)
theorem Only.app {S S' : List Nat} {A B C : World} (h : Only S A B) (k : Only S' B C) : Only (S ++ S') A C := (h.mono fun _ e => List.mem_append_left _ e).trans (k.mono fun _ e => List.mem_append_right _ e)
/-- A list's part of what a statement has: its rows and what they have. -/
theorem nd_five {A B C D E : List Nat} (h : (A ++ (B ++ (C ++ (D ++ E)))).Nodup) : A.Nodup ∧ B.Nodup ∧ C.Nodup ∧ D.Nodup ∧ E.Nodup ∧ (∀ b ∈ B, b ∉ A) ∧ (∀ b ∈ C, b ∉ A ++ B) ∧ (∀ b ∈ D, b ∉ A ++ B ++ C) ∧ (∀ b ∈ E, b ∉ A ++ B ++ C ++ D) := by
  simp only [List.nodup_append, List.mem_append] at h ⊢
  obtain ⟨a, ⟨b, ⟨c, ⟨d, e, de⟩, cd⟩, bc⟩, ab⟩ := h
  refine ⟨a, b, c, d, e, fun x hx hy => ab x hy x (.inl hx) rfl, fun x hx hy => ?_, fun x hx hy => ?_, fun x hx hy => ?_⟩
  · rcases hy with hy | hy
    · exact ab x hy x (.inr (.inl hx)) rfl
    · exact bc x hy x (.inl hx) rfl
  · rcases hy with (hy | hy) | hy
    · exact ab x hy x (.inr (.inr (.inl hx))) rfl
    · exact bc x hy x (.inr (.inl hx)) rfl
    · exact cd x hy x (.inl hx) rfl
  · rcases hy with ((hy | hy) | hy) | hy
    · exact ab x hy x (.inr (.inr (.inr hx))) rfl
    · exact bc x hy x (.inr (.inr hx)) rfl
    · exact cd x hy x (.inr hx) rfl
    · exact de x hy x hx rfl
end Go.Proofs.YtbpemackmadhgabDoor

/- A statement without its kind, in a copy: tools. -/
namespace Go.Proofs.YtbpemackmadhgabDoor
open Go.RowKit Go.Sort

/-- A number that lies by itself. -/
def Ctr (W : World) (nb : Nat) (m : Int) : Prop := W.heap[nb]? = some (.cells #[.int .i64 m] 3 (0, 0))
theorem Ctr.cell {W : World} {nb : Nat} {m : Int} (h : Ctr W nb m) : W.cell? ⟨nb, 0, none⟩ = some (.int .i64 m) := by
  rw [Lib.cell_of_heap h]; rfl
theorem Ctr.frozen {W : World} {nb : Nat} {m : Int} (h : Ctr W nb m) : W.frozen? ⟨nb, 0, none⟩ = false := Lib.frozen_of_heap h _
theorem Ctr.set {W : World} {nb : Nat} {m : Int} (h : Ctr W nb m) (k : Int) : Ctr (W.setCell ⟨nb, 0, none⟩ (.int .i64 k)) nb k := by
  have h' : W.heap[nb]? = some (.cells #[.int .i64 m] 3 (0, 0)) := h
  unfold Ctr
  simp [World.setCell, Array.getElem?_modify, h']
theorem Ctr.lt {W : World} {nb : Nat} {m : Int} (h : Ctr W nb m) : nb < W.heap.size := (Array.getElem?_eq_some_iff.1 h).1
theorem flat_set {α : Type} {f : α → List Value} {k : Nat} (hf : ∀ x, (f x).length = k) (r : List Value) : ∀ (l : List α) (j : Nat) (x y : α) (i : Nat) (v : Value), l[j]? = some x → i < k → f y = (f x).set i v → (l.flatMap f ++ r).set (j * k + i) v = (l.set j y).flatMap f ++ r
  | [], j, x, y, i, v, h, _, _ => by simp at h
  | a :: l, 0, x, y, i, v, h, hi, e => by
    obtain rfl : a = x := by simpa using h
    rw [List.set_cons_zero, List.flatMap_cons, List.flatMap_cons, e, List.append_assoc, List.append_assoc, Nat.zero_mul, Nat.zero_add, List.set_append_left _ _ (by rw [hf]; exact hi)]
  | a :: l, j + 1, x, y, i, v, h, hi, e => by
    have ih := flat_set hf r l j x y i v (by simpa using h) hi e
    rw [List.set_cons_succ, List.flatMap_cons, List.flatMap_cons, List.append_assoc, List.append_assoc, ← ih, List.set_append_right _ _ (by rw [hf, Nat.succ_mul]; omega)]
    congr 2
    rw [hf, Nat.succ_mul]; omega
theorem tuL_take : ∀ (l : List St) (k : Int) (j : Nat), (tuL l k).take j = tuL (l.take j) k
  | [], _, _ => by simp [tuL]
  | x :: r, k, 0 => by simp [tuL]
  | x :: r, k, j + 1 => by rw [tuL, List.take_succ_cons, List.take_succ_cons, tuL, tuL_take r]
theorem tuC_take : ∀ (l : List Ca) (k : Int) (j : Nat), (tuC l k).take j = tuC (l.take j) k
  | [], _, _ => by simp [tuC]
  | x :: r, k, 0 => by simp [tuC]
  | x :: r, k, j + 1 => by rw [tuC, List.take_succ_cons, List.take_succ_cons, tuC, tuC_take r]
theorem tuL_succ {l : List St} {k : Int} {j : Nat} (h : j < l.length) : tuL (l.take (j + 1)) k = tuL (l.take j) k ++ [tuS l[j] (k - cnL (l.take j))] := by
  rw [← tuL_take, ← tuL_take, List.take_add_one, tuL_at l k j h]; rfl
theorem tuC_succ {l : List Ca} {k : Int} {j : Nat} (h : j < l.length) : tuC (l.take (j + 1)) k = tuC (l.take j) k ++ [tuA l[j] (k - cnC (l.take j))] := by
  rw [← tuC_take, ← tuC_take, List.take_add_one, tuC_at l k j h]; rfl
theorem nd_take {α : Type} {bl : α → List Nat} {g : Nat} {l : List α} (h : (g :: l.flatMap bl).Nodup) {j : Nat} (hj : j < l.length) : ∀ b ∈ (l.take j).flatMap bl, b ∉ bl l[j] ∧ b ≠ g := by
  obtain ⟨h1, h2⟩ := List.nodup_cons.1 h
  have e : l = l.take j ++ l[j] :: l.drop (j + 1) := by rw [← List.drop_eq_getElem_cons hj, List.take_append_drop]
  have ee : l.flatMap bl = (l.take j).flatMap bl ++ (bl l[j] ++ (l.drop (j + 1)).flatMap bl) := by
    conv => lhs; rw [e]
    simp only [List.flatMap_append, List.flatMap_cons]
  rw [ee] at h1 h2
  obtain ⟨_, _, h3⟩ := List.nodup_append.1 h2
  exact fun b hb => ⟨fun hx => h3 b hb b (List.mem_append_left _ hx) rfl, fun e => h1 (e ▸ List.mem_append_left _ hb)⟩
/-- A statement's cells but for its kind. -/
theorem tuS_cells (s : St) (k : Int) : (tuS s k).cells = s.cells.set 0 (.int .i64 (if k = 1 then 0 else s.kind)) := by
  unfold St.cells
  rw [tuS_kind, tuS_name, tuS_n, tuS_a, tuS_b, tuS_ba, tuS_bc, tuS_body, tuS_ea, tuS_ec, tuS_els, tuS_ca, tuS_cc, tuS_cases, tuL_length, tuL_length, tuC_length]
  rfl
theorem tuS_cells_ne (s : St) {k : Int} (h : k ≠ 1) : (tuS s k).cells = s.cells := by
  rw [tuS_cells, if_neg h]; rfl
theorem tuS_cells_at (s : St) (k : Int) {i : Nat} (hi : 1 ≤ i) : (tuS s k).cells[i]? = s.cells[i]? := by
  rw [tuS_cells, List.getElem?_set_ne (by omega)]
/-- The row at the round j: those ahead are turned. -/
def midR (l : List St) (k : Int) (j : Nat) : List Value := (tuL (l.take j) k ++ l.drop j).flatMap St.cells ++ senS
theorem midR_zero (l : List St) (k : Int) : midR l k 0 = l.flatMap St.cells ++ senS := by simp [midR, tuL]
theorem midR_end (l : List St) (k : Int) : midR l k l.length = (tuL l k).flatMap St.cells ++ senS := by simp [midR]
theorem midR_at {l : List St} {k : Int} {j : Nat} (h : j < l.length) (i : Nat) (hi : i < 14) : (midR l k j)[j * 14 + i]? = l[j].cells[i]? := by
  unfold midR
  refine flatC_at (f := St.cells) (k := 14) (fun _ => rfl) senS _ j l[j] i ?_ hi
  rw [List.getElem?_append_right (by rw [tuL_length]; simp; omega), tuL_length]
  simp [Nat.min_eq_left (Nat.le_of_lt h), h]
theorem midR_next {l : List St} {k : Int} {j : Nat} (h : j < l.length) : midR l k (j + 1) = (tuL (l.take j) k ++ tuS l[j] (k - cnL (l.take j)) :: l.drop (j + 1)).flatMap St.cells ++ senS := by
  unfold midR
  rw [tuL_succ h, List.append_assoc]; rfl
theorem midR_ne {l : List St} {k : Int} {j : Nat} (h : j < l.length) (hk : k - cnL (l.take j) ≠ 1) : midR l k (j + 1) = midR l k j := by
  rw [midR_next h]
  unfold midR
  rw [List.drop_eq_getElem_cons h, List.flatMap_append, List.flatMap_append, List.flatMap_cons, List.flatMap_cons, tuS_cells_ne _ hk]
theorem midR_set {l : List St} {k : Int} {j : Nat} (h : j < l.length) (hk : k - cnL (l.take j) = 1) : midR l k (j + 1) = (midR l k j).set (j * 14) (.int .i64 0) := by
  have hl : (tuL (l.take j) k).length = j := by rw [tuL_length]; simp; omega
  have := flat_set (f := St.cells) (k := 14) (fun _ => rfl) senS (tuL (l.take j) k ++ l.drop j) j l[j] (tuS l[j] (k - cnL (l.take j))) 0 (.int .i64 0) (by
    rw [List.getElem?_append_right (by omega), hl]; simp [h]) (by omega) (by rw [tuS_cells, if_pos hk])
  unfold midR at this ⊢
  rw [Nat.add_zero] at this
  rw [this, tuL_succ h, List.append_assoc, List.set_append_right _ _ (by omega), hl, Nat.sub_self, List.drop_eq_getElem_cons h]
  rfl
theorem midR_cell {l : List St} {k : Int} {j : Nat} (h : j < l.length) {i : Nat} (h1 : 1 ≤ i) (hi : i < 14) : (midR l k (j + 1))[j * 14 + i]? = l[j].cells[i]? := by
  by_cases e : k - cnL (l.take j) = 1
  · rw [midR_set h e, List.getElem?_set_ne (by omega), midR_at h i hi]
  · rw [midR_ne h e, midR_at h i hi]
theorem nd_tu {A B C D E : List Nat} {gc nb g : Nat} (h : (A ++ (B ++ (C ++ (D ++ (gc :: E))))).Nodup) (hg : g ∉ A ++ (B ++ (C ++ (D ++ (gc :: E))))) (hn : nb ∉ A ++ (B ++ (C ++ (D ++ (gc :: E))))) :
    ((∀ b ∈ A, b ∉ nb :: g :: (C ++ E ++ D)) ∧ (∀ b ∈ B, b ∉ nb :: g :: (C ++ E ++ D)) ∧ gc ∉ nb :: g :: (C ++ E ++ D)) ∧
    ((∀ b ∈ C, b ∉ nb :: (E ++ D)) ∧ (∀ b ∈ E, b ∉ nb :: D)) ∧
    ((∀ b ∈ C, b ∉ [nb, g]) ∧ (∀ b ∈ E, b ∉ nb :: g :: C) ∧ (∀ b ∈ D, b ∉ nb :: g :: (C ++ E)) ∧ gc ∉ nb :: E ∧ gc ∉ nb :: g :: C) ∧ C.Nodup ∧ D.Nodup ∧ (gc :: E).Nodup := by
  simp only [List.nodup_append, List.nodup_cons, List.mem_append, List.mem_cons, not_or] at h hg hn ⊢
  obtain ⟨a, ⟨b, ⟨c, ⟨d, ⟨e1, e2⟩, de⟩, cd⟩, bc⟩, ab⟩ := h
  refine ⟨⟨fun x hx => ⟨?_, ?_, ⟨?_, ?_⟩, ?_⟩, fun x hx => ⟨?_, ?_, ⟨?_, ?_⟩, ?_⟩, ?_, ?_, ⟨?_, ?_⟩, ?_⟩, ⟨fun x hx => ⟨?_, ?_, ?_⟩, fun x hx => ⟨?_, ?_⟩⟩, ⟨fun x hx => ⟨?_, ?_, ?_⟩, fun x hx => ⟨?_, ?_, ?_⟩, fun x hx => ⟨?_, ?_, ?_, ?_⟩, ⟨?_, ?_⟩, ⟨?_, ?_, ?_⟩⟩, c, d, e1, e2⟩ <;> grind
theorem tuS_cp {W : World} {s : St} {k : Int} (h0 : I64 s.kind ∧ s.name.size ≤ 140737488351232 ∧ I64 s.n) (ha : s.a.Cp W) (hb : s.b.Cp W)
    (r1 : RowCp W s.ba s.bc s.body.length 216 53 ((tuL s.body (k - 1)).flatMap St.cells ++ senS)) (c1 : ∀ x ∈ tuL s.body (k - 1), x.Cp W)
    (r2 : RowCp W s.ea s.ec s.els.length 216 53 ((tuL s.els (k - 1 - cnL s.body - cnC s.cases)).flatMap St.cells ++ senS)) (c2 : ∀ x ∈ tuL s.els (k - 1 - cnL s.body - cnC s.cases), x.Cp W)
    (r3 : RowCp W s.ca s.cc s.cases.length 32 59 (s.cases.flatMap Ca.cells ++ senC)) (c3 : ∀ x ∈ tuC s.cases (k - 1 - cnL s.body), x.Cp W) : (tuS s k).Cp W := by
  refine St.cp_iff.2 ⟨?_, ?_, ?_, ?_, ?_, ?_, ?_, ?_, ?_, ?_, ?_⟩
  · rw [tuS_kind]; split
    · unfold I64; omega
    · exact h0.1
  · rw [tuS_name]; exact h0.2.1
  · rw [tuS_n]; exact h0.2.2
  · rw [tuS_a]; exact ha
  · rw [tuS_b]; exact hb
  · rw [tuS_ba, tuS_bc, tuS_body, tuL_length]; exact r1
  · rw [tuS_ea, tuS_ec, tuS_els, tuL_length]; exact r2
  · rw [tuS_ca, tuS_cc, tuS_cases, tuC_length, tuC_cells]; exact r3
  · rw [tuS_body]; exact c1
  · rw [tuS_els]; exact c2
  · rw [tuS_cases]; exact c3
theorem tuA_cp {W : World} {c : Ca} {k : Int} (h0 : I64 c.n) (r1 : RowCp W c.ba c.bc c.body.length 216 53 ((tuL c.body k).flatMap St.cells ++ senS)) (c1 : ∀ x ∈ tuL c.body k, x.Cp W) : (tuA c k).Cp W := by
  refine Ca.cp_iff.2 ⟨?_, ?_, ?_⟩
  · rw [tuA_n]; exact h0
  · rw [tuA_ba, tuA_bc, tuA_body, tuL_length]; exact r1
  · rw [tuA_body]; exact c1
theorem ssz_take : ∀ (l : List St) (j : Nat) (h : j < l.length), ssz (l.take j) + l[j].sz ≤ ssz l
  | x :: r, 0, _ => by simp [ssz]
  | x :: r, j + 1, h => by
    rw [List.take_succ_cons, ssz, ssz, List.getElem_cons_succ]
    have := ssz_take r j (by simpa using h); omega
theorem csz_take : ∀ (l : List Ca) (j : Nat) (h : j < l.length), csz (l.take j) + l[j].sz ≤ csz l
  | x :: r, 0, _ => by simp [csz]
  | x :: r, j + 1, h => by
    rw [List.take_succ_cons, csz, csz, List.getElem_cons_succ]
    have := csz_take r j (by simpa using h); omega
theorem row_set {W : World} {g : Nat} {T : TypeId} {c : List Value} (h : W.heap[g]? = some (.cells ⟨c⟩ T (0, 0))) (i : Nat) (v : Value) : (W.setCell ⟨g, i, none⟩ v).heap[g]? = some (.cells ⟨c.set i v⟩ T (0, 0)) := by
  simp [World.setCell, Array.getElem?_modify, h]
theorem sub_tu (nb g : Nat) (C E D : List Nat) :
    ((∀ b ∈ [nb, g], b ∈ nb :: g :: C) ∧ (∀ b ∈ nb :: C, b ∈ nb :: g :: C)) ∧
    ((∀ b ∈ nb :: g :: C, b ∈ nb :: g :: (C ++ E)) ∧ (∀ b ∈ nb :: E, b ∈ nb :: g :: (C ++ E))) ∧
    ((∀ b ∈ nb :: g :: (C ++ E), b ∈ nb :: g :: (C ++ E ++ D)) ∧ (∀ b ∈ nb :: D, b ∈ nb :: g :: (C ++ E ++ D))) ∧
    ((∀ b ∈ nb :: E, b ∈ nb :: (E ++ D)) ∧ (∀ b ∈ nb :: D, b ∈ nb :: (E ++ D))) := by
  simp only [List.mem_cons, List.mem_append]
  grind
end Go.Proofs.YtbpemackmadhgabDoor

/- A statement without its kind, in a copy: the walk. -/
namespace Go.Proofs.YtbpemackmadhgabDoor
open Go.RowKit Go.Sort

abbrev TuOk (n : Nat) : Prop := ∀ (l : List St) (a : Option Addr) (c : Nat) (w : World) (nb : Nat) (at_ m : Int), ssz l < n → RowCp w a c l.length 216 53 (l.flatMap St.cells ++ senS) → (∀ x ∈ l, x.Cp w) → (blk a :: blS l).Nodup → nb ∉ blk a :: blS l → Ctr w nb m → 0 ≤ m → m + ssz l ≤ 1000000000 →
  Calls Tryd.prog 9 #[.slice a l.length c, .int .i64 at_, .pointer (some ⟨nb, 0, none⟩)] w fun e w' => e = .returned (.tuple #[]) ∧ RowCp w' a c l.length 216 53 ((tuL l (at_ - m)).flatMap St.cells ++ senS) ∧ (∀ x ∈ tuL l (at_ - m), x.Cp w') ∧ Ctr w' nb (m + cnL l) ∧ Only (nb :: blk a :: blS l) w w'
set_option maxRecDepth 100000 in
set_option maxHeartbeats 16000000 in
theorem turned_step (n : Nat) (ih : TuOk n) (l : List St) (a : Option Addr) (c : Nat) (w : World) (nb : Nat) (at_ m : Int) (hk : ssz l ≤ n) (hr : RowCp w a c l.length 216 53 (l.flatMap St.cells ++ senS)) (hc : ∀ x ∈ l, x.Cp w) (hnd : (blk a :: blS l).Nodup) (hnb : nb ∉ blk a :: blS l) (hct : Ctr w nb m) (h0 : 0 ≤ m) (h1 : m + ssz l ≤ 1000000000) :
    Calls Tryd.prog 9 #[.slice a l.length c, .int .i64 at_, .pointer (some ⟨nb, 0, none⟩)] w fun e w' => e = .returned (.tuple #[]) ∧ RowCp w' a c l.length 216 53 ((tuL l (at_ - m)).flatMap St.cells ++ senS) ∧ (∀ x ∈ tuL l (at_ - m), x.Cp w') ∧ Ctr w' nb (m + cnL l) ∧ Only (nb :: blk a :: blS l) w w' := by
  have IH : Hid (TuOk n) := ih
  have HK : Hid (ssz l ≤ n ∧ m + ssz l ≤ 1000000000) := ⟨hk, h1⟩
  have HC : Hid (∀ x ∈ l, x.Cp w) := hc
  obtain ⟨g, rfl, rfl, hcb, hg⟩ := hr
  have HCB : Hid ((l.length + 1) * 216 ≤ 140737488351232) := hcb
  have HND : Hid ((g :: l.flatMap St.bl).Nodup) := by rw [← blS_map]; exact hnd
  have HNB : Hid (nb ≠ g ∧ nb ∉ l.flatMap St.bl) := show _ ∧ _ by rw [← blS_map]; simpa [blk] using hnb
  have HG : Hid (w.heap[g]? = some (.cells ⟨midR l (at_ - m) 0⟩ 53 (0, 0)) ∧ Ctr w nb m) := ⟨by rw [midR_zero]; exact hg, hct⟩
  clear ih hk hc hnd hg hnb hct h1
  go_enter Tryd.func9, Tryd.ntmps9
  go_wp2_with fail
  go_loopw [10] (fun t wr => ∃ (j : Nat), j ≤ l.length ∧ t = .int .i64 j ∧ wr.heap[g]? = some (.cells ⟨midR l (at_ - m) j⟩ 53 (0, 0)) ∧ (∀ x ∈ tuL (l.take j) (at_ - m), x.Cp wr) ∧ (∀ x ∈ l.drop j, x.Cp wr) ∧ Ctr wr nb (m + cnL (l.take j)) ∧ Only (nb :: g :: blS l) w wr) (fun t _ => l.length - (intOf t).toNat)
  case atStart => exact ⟨0, Nat.zero_le _, rfl, HG.out.1, fun x hx => by simp [tuL] at hx, by simpa using HC.out, by simpa [cnL] using HG.out.2, Only.refl _ w⟩
  case round =>
    obtain ⟨j, hj, rfl, hrow, hcp1, hcp2, hctr, hon⟩ := hrel
    by_cases hlt : j < l.length
    · have hli : (j : Int) < (l.length : Int) := by omega
      obtain ⟨n1, n2, n3, n4⟩ := nd_any HND.out hlt
      have n5 := nd_take HND.out hlt
      have hdr : l.drop j = l[j] :: l.drop (j + 1) := List.drop_eq_getElem_cons hlt
      have hxc : l[j].Cp wr := hcp2 l[j] (by rw [hdr]; exact List.mem_cons_self)
      have hcn : cnL (l.take j) + cnS l[j] = cnL (l.take (j + 1)) := (cnL_take l j hlt).symm
      have hcl := cnL_le (l.take j)
      have hct := ssz_take l j hlt
      have HSU : Hid (tuL (l.take (j + 1)) (at_ - m) = tuL (l.take j) (at_ - m) ++ [tuS l[j] (at_ - m - cnL (l.take j))]) := tuL_succ hlt
      have HM1 : Hid (∀ i, 1 ≤ i → i < 14 → (midR l (at_ - m) (j + 1))[j * 14 + i]? = l[j].cells[i]?) := fun i h1 h2 => midR_cell hlt h1 h2
      have HM2 : Hid (at_ - m - cnL (l.take j) = 1 → midR l (at_ - m) (j + 1) = (midR l (at_ - m) j).set (j * 14) (.int .i64 0)) := fun h => midR_set hlt h
      have HM3 : Hid (at_ - m - cnL (l.take j) ≠ 1 → midR l (at_ - m) (j + 1) = midR l (at_ - m) j) := fun h => midR_ne hlt h
      have HZ : Hid (l[j].sz ≤ n ∧ m + cnL (l.take j) + l[j].sz ≤ 1000000000) := ⟨Nat.le_trans (ssz_mem (List.getElem_mem hlt)) HK.out.1, by have := HK.out.2; omega⟩
      have N3 : Hid (∀ y ∈ l.drop (j + 1), ∀ b ∈ y.bl, b ∉ nb :: g :: l[j].bl) := fun y hy b hb h => by
        rcases List.mem_cons.1 h with e | h
        · exact HNB.out.2 (e ▸ List.mem_flatMap.2 ⟨y, List.mem_of_mem_drop hy, hb⟩)
        rcases List.mem_cons.1 h with e | h
        · exact (n3 y hy b hb).2 e
        · exact (n3 y hy b hb).1 h
      have N5 : Hid (∀ y ∈ tuL (l.take j) (at_ - m), ∀ b ∈ y.bl, b ∉ nb :: g :: l[j].bl) := fun y hy b hb h => by
        have hb' : b ∈ (l.take j).flatMap St.bl := by
          rw [← blS_map, ← tuL_bl (l.take j) (at_ - m), blS_map]; exact List.mem_flatMap.2 ⟨y, hy, hb⟩
        rcases List.mem_cons.1 h with e | h
        · obtain ⟨z, hz, hbz⟩ := List.mem_flatMap.1 hb'
          exact HNB.out.2 (e ▸ List.mem_flatMap.2 ⟨z, List.mem_of_mem_take hz, hbz⟩)
        rcases List.mem_cons.1 h with e | h
        · exact (n5 b hb').2 e
        · exact (n5 b hb').1 h
      have N4 : Hid (∀ b ∈ nb :: g :: l[j].bl, b ∈ nb :: g :: blS l) := fun b hb => by
        rw [blS_map]
        rcases List.mem_cons.1 hb with rfl | hb
        · simp
        rcases List.mem_cons.1 hb with rfl | hb
        · simp
        · exact List.mem_cons_of_mem _ (List.mem_cons_of_mem _ (n4 b hb))
      have hnb2 : nb ∉ l[j].bl := fun h => HNB.out.2 (n4 nb h)
      have HCP1 : Hid (∀ y ∈ tuL (l.take j) (at_ - m), y.Cp wr) := hcp1
      have HCP2 : Hid (∀ y ∈ l.drop (j + 1), y.Cp wr) := fun y hy => hcp2 y (by rw [hdr]; exact List.mem_cons_of_mem _ hy)
      have HON : Hid (Only (nb :: g :: blS l) w wr) := hon
      have HCN : Hid (cnL (l.take j) + cnS l[j] = cnL (l.take (j + 1))) := hcn
      have hm1 : m + cnL (l.take j) + 1 ≤ 1000000000 := by have := HK.out.2; have := l[j].sz_eq; omega
      have hc0 := hctr.cell
      have hf0 := hctr.frozen
      have d0 : wr.cell? ⟨g, j * 14, none⟩ = some (.int .i64 l[j].kind) := by
        rw [Lib.cell_of_heap hrow]
        have := midR_at (k := at_ - m) hlt 0 (by omega)
        rw [Nat.add_zero] at this
        show (midR l (at_ - m) j).toArray[j * 14]? = _
        rw [List.getElem?_toArray, this]; rfl
      have HRO : Hid (wr.heap[g]? = some (.cells ⟨midR l (at_ - m) j⟩ 53 (0, 0)) ∧ Ctr wr nb (m + cnL (l.take j)) ∧ nb ≠ g) := ⟨hrow, hctr, HNB.out.1⟩
      clear n3 n4 n5 hdr hcp1 hcp2 hon hcn hcl hct hrow hctr
      generalize hMJ : midR l (at_ - m) (j + 1) = MJ at *
      generalize hM0 : midR l (at_ - m) j = M0 at *
      generalize tuL (l.take j) (at_ - m) = AH at *
      generalize hm' : m + (cnL (l.take j) : Int) = m' at *
      have hkk : at_ - m - cnL (l.take j) = at_ - m' := by omega
      rw [hkk] at HSU HM2 HM3
      have h0' : 0 ≤ m' := by omega
      have HMM : Hid (m + (cnL (l.take j) : Int) = m') := hm'
      have HMJ : Hid (midR l (at_ - m) (j + 1) = MJ) := hMJ
      generalize l[j] = s at *
      clear hkk hm' hM0 hMJ
      have HBL : Hid (∀ b ∈ nb :: g :: ((blk s.ba :: blS s.body) ++ s.cases.flatMap Ca.bl ++ (blk s.ea :: blS s.els)), b ∈ nb :: g :: s.bl) := fun b hb => by
        rw [St.bl_eq, blC_map]
        simp only [List.mem_cons, List.mem_append] at hb ⊢
        grind
      rw [St.bl_eq, blC_map] at n2 n1 hnb2
      obtain ⟨⟨dA, dB, dG⟩, ⟨dC, dE⟩, ⟨d1, d2, d3, d4, d5⟩, nC, nD, nE⟩ := nd_tu n2 n1 hnb2
      obtain ⟨x1, x2, x3, x4, x5, x6, x7, x8, x9, x10, x11⟩ := St.cp_iff.1 hxc
      have hsz := s.sz_eq
      have X1 : Hid (I64 s.kind ∧ s.name.size ≤ 140737488351232 ∧ I64 s.n) := ⟨x1, x2, x3⟩
      have X4 : Hid (∀ w', Only (nb :: g :: ((blk s.ba :: blS s.body) ++ s.cases.flatMap Ca.bl ++ (blk s.ea :: blS s.els))) wr w' → s.a.Cp w' ∧ s.b.Cp w' ∧ RowCp w' s.ca s.cc s.cases.length 32 59 (s.cases.flatMap Ca.cells ++ senC)) := fun w' h => ⟨x4.only h dA, x5.only h dB, x8.only h dG⟩
      have CB : Hid (∀ w', Only [nb, g] wr w' → Ctr w' nb (m' + 1) → Calls Tryd.prog 9 #[.slice s.ba s.body.length s.bc, .int .i64 at_, .pointer (some ⟨nb, 0, none⟩)] w' fun e w'' => e = .returned (.tuple #[]) ∧ RowCp w'' s.ba s.bc s.body.length 216 53 ((tuL s.body (at_ - (m' + 1))).flatMap St.cells ++ senS) ∧ (∀ x ∈ tuL s.body (at_ - (m' + 1)), x.Cp w'') ∧ Ctr w'' nb (m' + 1 + cnL s.body) ∧ Only (nb :: blk s.ba :: blS s.body) w' w'') := fun w' h hc =>
        IH.out _ _ _ w' nb at_ (m' + 1) (by have := HZ.out.1; omega) (x6.only h (d1 _ List.mem_cons_self)) (fun y hy => (x9 y hy).only h fun b hb => d1 b (List.mem_cons_of_mem _ (by rw [blS_map]; exact List.mem_flatMap.2 ⟨y, hy, hb⟩))) nC (fun h => d1 nb h (by simp)) hc (by omega) (by have := HZ.out.2; omega)
      have CE : Hid (∀ w', Only (nb :: g :: ((blk s.ba :: blS s.body) ++ s.cases.flatMap Ca.bl)) wr w' → Ctr w' nb (m' + 1 + cnL s.body + cnC s.cases) → Calls Tryd.prog 9 #[.slice s.ea s.els.length s.ec, .int .i64 at_, .pointer (some ⟨nb, 0, none⟩)] w' fun e w'' => e = .returned (.tuple #[]) ∧ RowCp w'' s.ea s.ec s.els.length 216 53 ((tuL s.els (at_ - (m' + 1 + cnL s.body + cnC s.cases))).flatMap St.cells ++ senS) ∧ (∀ x ∈ tuL s.els (at_ - (m' + 1 + cnL s.body + cnC s.cases)), x.Cp w'') ∧ Ctr w'' nb (m' + 1 + cnL s.body + cnC s.cases + cnL s.els) ∧ Only (nb :: blk s.ea :: blS s.els) w' w'') := fun w' h hc =>
        IH.out _ _ _ w' nb at_ _ (by have := HZ.out.1; omega) (x7.only h (d3 _ List.mem_cons_self)) (fun y hy => (x10 y hy).only h fun b hb => d3 b (List.mem_cons_of_mem _ (by rw [blS_map]; exact List.mem_flatMap.2 ⟨y, hy, hb⟩))) nD (fun h => d3 nb h (by simp)) hc (by omega) (by have := HZ.out.2; have := cnL_le s.body; have := cnC_le s.cases; omega)
      obtain ⟨gc, hca, hcc, hcb8, hg8⟩ := x8
      have HCA : Hid (s.ca = some ⟨gc, 0, none⟩ ∧ s.cc = s.cases.length + 1) := ⟨hca, hcc⟩
      have hblk : blk s.ca = gc := by rw [hca]; rfl
      rw [hblk] at d4 d5 dG nE
      have HG8 : Hid (∀ w', Only (nb :: g :: (blk s.ba :: blS s.body)) wr w' → w'.heap[gc]? = some (.cells ⟨s.cases.flatMap Ca.cells ++ senC⟩ 59 (0, 0))) := fun w' h => (h.2.2.2.2 gc (Array.getElem?_eq_some_iff.1 hg8).1 d5).trans hg8
      have X11 : Hid (∀ w', Only (nb :: g :: (blk s.ba :: blS s.body)) wr w' → ∀ y ∈ s.cases, y.Cp w') := fun w' h y hy => (x11 y hy).only h fun b hb => d2 b (List.mem_flatMap.2 ⟨y, hy, hb⟩)
      have NE : Hid ((gc :: s.cases.flatMap Ca.bl).Nodup) := nE
      have D4 : Hid (gc ∉ nb :: s.cases.flatMap Ca.bl) := d4
      have DC : Hid (∀ b ∈ (blk s.ba :: blS s.body), b ∉ nb :: (s.cases.flatMap Ca.bl ++ (blk s.ea :: blS s.els))) := dC
      have DE : Hid (∀ b ∈ s.cases.flatMap Ca.bl, b ∉ nb :: (blk s.ea :: blS s.els)) := dE
      have GG : Hid (g ∉ nb :: (blk s.ba :: blS s.body) ∧ g ∉ nb :: s.cases.flatMap Ca.bl ∧ g ∉ nb :: (blk s.ea :: blS s.els)) := by
        have := HRO.out.2.2
        simp only [List.mem_append, List.mem_cons, not_or] at n1 ⊢
        show _ ∧ _
        grind
      clear hca hcc hg8 hblk dA dB dG dC dE d1 d2 d3 d4 d5 nC nD nE n1 n2 hnb2 x1 x2 x3 x4 x5 x6 x7 x9 x10 x11 hxc
      have SB := show Hid _ from sub_tu nb g (blk s.ba :: blS s.body) (s.cases.flatMap Ca.bl) (blk s.ea :: blS s.els)
      have hccl : s.cases.length + 1 ≤ s.cc := by have := HCA.out.2; omega
      have c1 : Hid (Ctr (wr.setCell ⟨nb, 0, none⟩ (.int .i64 (m' + 1))) nb (m' + 1)) := HRO.out.2.1.set _
      have r1 : (wr.setCell ⟨nb, 0, none⟩ (.int .i64 (m' + 1))).heap[g]? = some (.cells ⟨M0⟩ 53 (0, 0)) := by
        rw [Below.heap_setCell _ _ _ _ (Ne.symm HRO.out.2.2)]; exact HRO.out.1
      have o1 : Hid (Only [nb, g] wr (wr.setCell ⟨nb, 0, none⟩ (.int .i64 (m' + 1)))) := (Only.refl _ _).set (by simp) _ _
      by_cases hk : at_ = m' + 1
      · have hM := HM2.out (by omega)
        have d0' : (wr.setCell ⟨nb, 0, none⟩ (.int .i64 (m' + 1))).cell? ⟨g, j * 14, none⟩ = some (.int .i64 s.kind) := by
          rw [Lib.cell_of_heap r1, ← Lib.cell_of_heap HRO.out.1]; exact d0
        have e0 : (wr.setCell ⟨nb, 0, none⟩ (.int .i64 (m' + 1))).frozen? ⟨g, j * 14, none⟩ = false := Lib.frozen_of_heap r1 _
        have r2 := row_set r1 (j * 14) (.int .i64 0)
        rw [← hM] at r2
        have R1 : Hid (((wr.setCell ⟨nb, 0, none⟩ (.int .i64 (m' + 1))).setCell ⟨g, j * 14, none⟩ (.int .i64 0)).heap[g]? = some (.cells ⟨MJ⟩ 53 (0, 0))) := r2
        have C1 : Hid (Ctr ((wr.setCell ⟨nb, 0, none⟩ (.int .i64 (m' + 1))).setCell ⟨g, j * 14, none⟩ (.int .i64 0)) nb (m' + 1)) := by
          have := c1.out
          unfold Ctr at this ⊢
          show _ = _
          rw [Below.heap_setCell _ _ _ _ HRO.out.2.2]; exact this
        have O1 : Hid (Only [nb, g] wr ((wr.setCell ⟨nb, 0, none⟩ (.int .i64 (m' + 1))).setCell ⟨g, j * 14, none⟩ (.int .i64 0))) := o1.out.set (by simp) _ _
        have e11 : ((wr.setCell ⟨nb, 0, none⟩ (.int .i64 (m' + 1))).setCell ⟨g, j * 14, none⟩ (.int .i64 0)).cell? ⟨g, j * 14 + 11, none⟩ = some (.slice s.ba s.body.length s.bc) := by
          rw [Lib.cell_of_heap R1.out]
          show MJ.toArray[j * 14 + 11]? = _
          rw [List.getElem?_toArray, HM1.out 11 (by omega) (by omega)]; rfl
        have hk2 : (m' + 1 == at_) = true := by rw [beq_iff_eq]; exact hk.symm
        clear r1 r2 hM c1 o1 d0 hk
        go_wp2_with fail
        clear hk2
        obtain ⟨W1, hW1⟩ : ∃ W1, (wr.setCell ⟨nb, 0, none⟩ (.int .i64 (m' + 1))).setCell ⟨g, j * 14, none⟩ (.int .i64 0) = W1 := ⟨_, rfl⟩
        rw [hW1] at R1 C1 O1 ⊢
        clear hW1 d0' e0 e11
        refine (CB.out _ O1.out C1.out).mono ?_
        rintro e w2 ⟨rfl, br, bc, ct2, o2⟩
        have BR : Hid (RowCp w2 s.ba s.bc s.body.length 216 53 ((tuL s.body (at_ - (m' + 1))).flatMap St.cells ++ senS) ∧ ∀ x ∈ tuL s.body (at_ - (m' + 1)), x.Cp w2) := ⟨br, bc⟩
        have R2 : Hid (w2.heap[g]? = some (.cells ⟨MJ⟩ 53 (0, 0))) := (o2.2.2.2.2 g (Array.getElem?_eq_some_iff.1 R1.out).1 GG.out.1).trans R1.out
        have O2 : Hid (Only (nb :: g :: (blk s.ba :: blS s.body)) wr w2) := (O1.out.mono SB.out.1.1).trans (o2.mono SB.out.1.2)
        have CX : Hid (∀ w' : World, w'.heap[g]? = some (.cells ⟨MJ⟩ 53 (0, 0)) → ∀ i v, 1 ≤ i → i < 14 → s.cells[i]? = some v → w'.cell? ⟨g, j * 14 + i, none⟩ = some v) := fun w' h i v h1 h2 e => by
          rw [Lib.cell_of_heap h]
          show MJ.toArray[j * 14 + i]? = _
          rw [List.getElem?_toArray, HM1.out i h1 h2]; exact e
        have CT2 : Hid (Ctr w2 nb (m' + 1 + cnL s.body)) := ct2
        clear br bc o2 ct2 R1 C1 O1
        have c13 := CX.out w2 R2.out 13 _ (by omega) (by omega) rfl
        go_wp2_with fail
        generalize wr = WR at *
        go_loopw [41] (fun t wq => ∃ (i : Nat), i ≤ s.cases.length ∧ t = .int .i64 i ∧ (∀ y ∈ tuC (s.cases.take i) (at_ - (m' + 1 + cnL s.body)), y.Cp wq) ∧ (∀ y ∈ s.cases.drop i, y.Cp wq) ∧ Ctr wq nb (m' + 1 + cnL s.body + cnC (s.cases.take i)) ∧ Only (nb :: s.cases.flatMap Ca.bl) w2 wq) (fun t _ => s.cases.length - (intOf t).toNat)
        case atStart => exact ⟨0, Nat.zero_le _, rfl, fun x hx => by simp [tuC] at hx, by simpa using X11.out _ O2.out, by simpa [cnC] using CT2.out, Only.refl _ _⟩
        case round =>
          obtain ⟨i, hi, rfl, hy1, hy2, hct, hon⟩ := hrel
          have hrg : wr.heap[g]? = some (.cells ⟨MJ⟩ 53 (0, 0)) := (hon.2.2.2.2 g (Array.getElem?_eq_some_iff.1 R2.out).1 GG.out.2.1).trans R2.out
          by_cases hilt : i < s.cases.length
          · have hili : (i : Int) < (s.cases.length : Int) := by omega
            have c13' := CX.out wr hrg 13 _ (by omega) (by omega) rfl
            rw [HCA.out.1, HCA.out.2] at c13'
            have hgc : wr.heap[gc]? = some (.cells ⟨s.cases.flatMap Ca.cells ++ senC⟩ 59 (0, 0)) := (hon.2.2.2.2 gc (Array.getElem?_eq_some_iff.1 (HG8.out _ O2.out)).1 D4.out).trans (HG8.out _ O2.out)
            obtain ⟨m1, m2, m3, m4⟩ := nd_any NE.out hilt
            have m5 := nd_take NE.out hilt
            have hdr : s.cases.drop i = s.cases[i] :: s.cases.drop (i + 1) := List.drop_eq_getElem_cons hilt
            have hyc : s.cases[i].Cp wr := hy2 s.cases[i] (by rw [hdr]; exact List.mem_cons_self)
            have d1 : wr.cell? ⟨gc, i * 2 + 1, none⟩ = some (.slice s.cases[i].ba s.cases[i].body.length s.cases[i].bc) := by
              rw [Lib.cell_of_heap hgc]
              show (s.cases.flatMap Ca.cells ++ senC).toArray[i * 2 + 1]? = _
              rw [List.getElem?_toArray, flatC_at (f := Ca.cells) (k := 2) (fun _ => rfl) senC s.cases i s.cases[i] 1 (List.getElem?_eq_getElem hilt) (by omega)]; rfl
            have hcz := csz_take s.cases i hilt
            have hcl := cnC_le (s.cases.take i)
            have hnby : nb ∉ s.cases[i].bl := fun h => DE.out nb (m4 nb h) (by simp)
            have MY : Hid (∀ b ∈ nb :: s.cases[i].bl, b ∈ nb :: s.cases.flatMap Ca.bl) := fun b hb => by
              rcases List.mem_cons.1 hb with rfl | hb
              · simp
              · exact List.mem_cons_of_mem _ (m4 b hb)
            have M3 : Hid (∀ z ∈ s.cases.drop (i + 1), ∀ b ∈ z.bl, b ∉ nb :: s.cases[i].bl) := fun z hz b hb h => by
              rcases List.mem_cons.1 h with e | h
              · exact DE.out b (List.mem_flatMap.2 ⟨z, List.mem_of_mem_drop hz, hb⟩) (by rw [e]; simp)
              · exact (m3 z hz b hb).1 h
            have M5 : Hid (∀ z ∈ tuC (s.cases.take i) (at_ - (m' + 1 + cnL s.body)), ∀ b ∈ z.bl, b ∉ nb :: s.cases[i].bl) := fun z hz b hb h => by
              have hb' : b ∈ (s.cases.take i).flatMap Ca.bl := by
                rw [← blC_map, ← tuC_bl (s.cases.take i) (at_ - (m' + 1 + cnL s.body)), blC_map]; exact List.mem_flatMap.2 ⟨z, hz, hb⟩
              rcases List.mem_cons.1 h with e | h
              · obtain ⟨y, hy, hby⟩ := List.mem_flatMap.1 hb'
                exact DE.out b (List.mem_flatMap.2 ⟨y, List.mem_of_mem_take hy, hby⟩) (by rw [e]; simp)
              · exact (m5 b hb').1 h
            have YS : Hid (tuC (s.cases.take (i + 1)) (at_ - (m' + 1 + cnL s.body)) = tuC (s.cases.take i) (at_ - (m' + 1 + cnL s.body)) ++ [tuA s.cases[i] (at_ - (m' + 1 + cnL s.body) - cnC (s.cases.take i))]) := tuC_succ hilt
            have YT : Hid (cnC (s.cases.take (i + 1)) = cnC (s.cases.take i) + cnL s.cases[i].body) := by rw [← cnA_eq]; exact cnC_take s.cases i hilt
            have Y1 : Hid (∀ y ∈ tuC (s.cases.take i) (at_ - (m' + 1 + cnL s.body)), y.Cp wr) := hy1
            have Y2 : Hid (∀ y ∈ s.cases.drop (i + 1), y.Cp wr) := fun y hy => hy2 y (by rw [hdr]; exact List.mem_cons_of_mem _ hy)
            have YO : Hid (Only (nb :: s.cases.flatMap Ca.bl) w2 wr) := hon
            have YQ : Hid (Calls Tryd.prog 9 #[.slice s.cases[i].ba s.cases[i].body.length s.cases[i].bc, .int .i64 at_, .pointer (some ⟨nb, 0, none⟩)] wr fun e w'' => e = .returned (.tuple #[]) ∧ (tuA s.cases[i] (at_ - (m' + 1 + cnL s.body) - cnC (s.cases.take i))).Cp w'' ∧ Ctr w'' nb (m' + 1 + cnL s.body + cnC (s.cases.take i) + cnL s.cases[i].body) ∧ Only (nb :: s.cases[i].bl) wr w'') := by
              obtain ⟨y1, y2, y3⟩ := Ca.cp_iff.1 hyc
              have hys := s.cases[i].sz_eq
              rw [Ca.bl_eq] at m2 hnby
              have := IH.out _ _ _ wr nb at_ _ (by have := HZ.out.1; omega) y2 y3 m2 hnby hct (by omega) (by have := HZ.out.2; have := cnL_le s.body; omega)
              refine this.mono ?_
              rintro e w'' ⟨rfl, t1, t2, t3, t4⟩
              rw [show at_ - (m' + 1 + (cnL s.body : Int) + (cnC (s.cases.take i) : Int)) = at_ - (m' + 1 + cnL s.body) - cnC (s.cases.take i) by omega] at t1 t2
              exact ⟨rfl, tuA_cp y1 t1 t2, t3, by rw [Ca.bl_eq]; exact t4⟩
            clear hy1 hy2 hon hct hgc m1 m2 m3 m4 m5 hdr hyc hcz hcl hnby hrg
            generalize s.cases[i] = y at *
            go_wp2_with fail
            refine YQ.out.mono ?_
            rintro e w6 ⟨rfl, t1, t2, t3⟩
            have T1 : Hid ((tuA y (at_ - (m' + 1 + cnL s.body) - cnC (s.cases.take i))).Cp w6 ∧ Ctr w6 nb (m' + 1 + cnL s.body + cnC (s.cases.take i) + cnL y.body) ∧ Only (nb :: y.bl) wr w6) := ⟨t1, t2, t3⟩
            clear t1 t2 t3 c13' d1
            go_wp2_with fail
            go_roundw
            case rel =>
              obtain ⟨t1, t2, t3⟩ := T1.out
              refine ⟨i + 1, by omega, by go_num, fun z hz => ?_, fun z hz => (Y2.out z hz).only t3 (M3.out z hz), ?_, YO.out.trans (t3.mono MY.out)⟩
              · rw [YS.out] at hz
                rcases List.mem_append.1 hz with hz | hz
                · exact (Y1.out z hz).only t3 (M5.out z hz)
                · rw [List.mem_singleton.1 hz]; exact t1
              · rw [YT.out]
                have e : m' + 1 + (cnL s.body : Int) + ((cnC (s.cases.take i) + cnL y.body : Nat) : Int) = m' + 1 + cnL s.body + cnC (s.cases.take i) + cnL y.body := by omega
                rw [e]; exact t2
            case measure => simp [intOf]; omega
          · obtain rfl : i = s.cases.length := by omega
            rw [List.take_length] at hy1 hct
            have O3 : Hid (Only (nb :: g :: ((blk s.ba :: blS s.body) ++ s.cases.flatMap Ca.bl)) WR wr) := (O2.out.mono SB.out.2.1.1).trans (hon.mono SB.out.2.1.2)
            have c12 := CX.out wr hrg 12 _ (by omega) (by omega) rfl
            have Y1 : Hid (∀ y ∈ tuC s.cases (at_ - (m' + 1 + cnL s.body)), y.Cp wr) := hy1
            have YC : Hid (Ctr wr nb (m' + 1 + cnL s.body + cnC s.cases)) := hct
            have RG : Hid (wr.heap[g]? = some (.cells ⟨MJ⟩ 53 (0, 0))) := hrg
            have O23 : Hid (Only (nb :: s.cases.flatMap Ca.bl) w2 wr) := hon
            clear hy1 hy2 hct hon hrg
            go_wp2_with fail
            refine (CE.out _ O3.out YC.out).mono ?_
            rintro e w4 ⟨rfl, t1, t2, t3, t4⟩
            have T1 : Hid (RowCp w4 s.ea s.ec s.els.length 216 53 ((tuL s.els (at_ - (m' + 1 + cnL s.body + cnC s.cases))).flatMap St.cells ++ senS) ∧ (∀ x ∈ tuL s.els (at_ - (m' + 1 + cnL s.body + cnC s.cases)), x.Cp w4) ∧ Ctr w4 nb (m' + 1 + cnL s.body + cnC s.cases + cnL s.els) ∧ Only (nb :: blk s.ea :: blS s.els) wr w4) := ⟨t1, t2, t3, t4⟩
            clear t1 t2 t3 t4 c12
            go_wp2_with fail
            go_roundw
            case rel =>
              obtain ⟨t1, t2, t3, t4⟩ := T1.out
              have o4 : Only (nb :: g :: ((blk s.ba :: blS s.body) ++ s.cases.flatMap Ca.bl ++ (blk s.ea :: blS s.els))) WR w4 := (O3.out.mono SB.out.2.2.1.1).trans (t4.mono SB.out.2.2.1.2)
              have o24 : Only (nb :: (s.cases.flatMap Ca.bl ++ (blk s.ea :: blS s.els))) w2 w4 := (O23.out.mono SB.out.2.2.2.1).trans (t4.mono SB.out.2.2.2.2)
              have o4' := o4.mono HBL.out
              obtain ⟨ca, cb, cc⟩ := X4.out _ o4
              have k1 : at_ - (m' + 1) = at_ - m' - 1 := by omega
              have k2 : at_ - (m' + 1 + (cnL s.body : Int)) = at_ - m' - 1 - cnL s.body := by omega
              have k3 : at_ - (m' + 1 + (cnL s.body : Int) + (cnC s.cases : Int)) = at_ - m' - 1 - cnL s.body - cnC s.cases := by omega
              have hb1 := BR.out.1.only o24 (DC.out _ List.mem_cons_self)
              have hb2 : ∀ x ∈ tuL s.body (at_ - (m' + 1)), x.Cp w4 := fun x hx => (BR.out.2 x hx).only o24 fun b hb => DC.out b (List.mem_cons_of_mem _ (by rw [← tuL_bl s.body (at_ - (m' + 1)), blS_map]; exact List.mem_flatMap.2 ⟨x, hx, hb⟩))
              have hc2 : ∀ x ∈ tuC s.cases (at_ - (m' + 1 + cnL s.body)), x.Cp w4 := fun x hx => (Y1.out x hx).only t4 fun b hb => DE.out b (by rw [← blC_map, ← tuC_bl s.cases (at_ - (m' + 1 + cnL s.body)), blC_map]; exact List.mem_flatMap.2 ⟨x, hx, hb⟩)
              rw [k1] at hb1 hb2
              rw [k2] at hc2
              rw [k3] at t1 t2
              have hs' : (tuS s (at_ - m')).Cp w4 := tuS_cp X1.out ca cb hb1 hb2 t1 t2 cc hc2
              refine ⟨j + 1, by omega, by go_num, ?_, fun z hz => ?_, fun z hz => (HCP2.out z hz).only o4' (N3.out z hz), ?_, HON.out.trans (o4'.mono N4.out)⟩
              · rw [HMJ.out]
                exact (t4.2.2.2.2 g (Array.getElem?_eq_some_iff.1 RG.out).1 GG.out.2.2).trans RG.out
              · rw [HSU.out] at hz
                rcases List.mem_append.1 hz with hz | hz
                · exact (HCP1.out z hz).only o4' (N5.out z hz)
                · rw [List.mem_singleton.1 hz]; exact hs'
              · have e : m + (cnL (l.take (j + 1)) : Int) = m' + 1 + cnL s.body + cnC s.cases + cnL s.els := by
                  have h1 := HCN.out
                  have h2 := HMM.out
                  have h3 := cnS_eq s
                  omega
                rw [e]; exact t3
            case measure => simp [intOf]; omega
      · have hM := HM3.out (by omega)
        rw [← hM] at r1
        have R1 : Hid ((wr.setCell ⟨nb, 0, none⟩ (.int .i64 (m' + 1))).heap[g]? = some (.cells ⟨MJ⟩ 53 (0, 0))) := r1
        have e11 : (wr.setCell ⟨nb, 0, none⟩ (.int .i64 (m' + 1))).cell? ⟨g, j * 14 + 11, none⟩ = some (.slice s.ba s.body.length s.bc) := by
          rw [Lib.cell_of_heap R1.out]
          show MJ.toArray[j * 14 + 11]? = _
          rw [List.getElem?_toArray, HM1.out 11 (by omega) (by omega)]; rfl
        have hk' : ¬ m' + 1 = at_ := fun h => hk h.symm
        clear r1 hM d0
        go_wp2_with fail
        obtain ⟨W1, hW1⟩ : ∃ W1, wr.setCell ⟨nb, 0, none⟩ (.int .i64 (m' + 1)) = W1 := ⟨_, rfl⟩
        have C1 := c1
        have O1 := o1
        rw [hW1] at R1 C1 O1 ⊢
        clear hW1 e11 c1 o1 hk hk'
        refine (CB.out _ O1.out C1.out).mono ?_
        rintro e w2 ⟨rfl, br, bc, ct2, o2⟩
        have BR : Hid (RowCp w2 s.ba s.bc s.body.length 216 53 ((tuL s.body (at_ - (m' + 1))).flatMap St.cells ++ senS) ∧ ∀ x ∈ tuL s.body (at_ - (m' + 1)), x.Cp w2) := ⟨br, bc⟩
        have R2 : Hid (w2.heap[g]? = some (.cells ⟨MJ⟩ 53 (0, 0))) := (o2.2.2.2.2 g (Array.getElem?_eq_some_iff.1 R1.out).1 GG.out.1).trans R1.out
        have O2 : Hid (Only (nb :: g :: (blk s.ba :: blS s.body)) wr w2) := (O1.out.mono SB.out.1.1).trans (o2.mono SB.out.1.2)
        have CX : Hid (∀ w' : World, w'.heap[g]? = some (.cells ⟨MJ⟩ 53 (0, 0)) → ∀ i v, 1 ≤ i → i < 14 → s.cells[i]? = some v → w'.cell? ⟨g, j * 14 + i, none⟩ = some v) := fun w' h i v h1 h2 e => by
          rw [Lib.cell_of_heap h]
          show MJ.toArray[j * 14 + i]? = _
          rw [List.getElem?_toArray, HM1.out i h1 h2]; exact e
        have CT2 : Hid (Ctr w2 nb (m' + 1 + cnL s.body)) := ct2
        clear br bc o2 ct2 R1 C1 O1
        have c13 := CX.out w2 R2.out 13 _ (by omega) (by omega) rfl
        go_wp2_with fail
        generalize wr = WR at *
        go_loopw [41] (fun t wq => ∃ (i : Nat), i ≤ s.cases.length ∧ t = .int .i64 i ∧ (∀ y ∈ tuC (s.cases.take i) (at_ - (m' + 1 + cnL s.body)), y.Cp wq) ∧ (∀ y ∈ s.cases.drop i, y.Cp wq) ∧ Ctr wq nb (m' + 1 + cnL s.body + cnC (s.cases.take i)) ∧ Only (nb :: s.cases.flatMap Ca.bl) w2 wq) (fun t _ => s.cases.length - (intOf t).toNat)
        case atStart => exact ⟨0, Nat.zero_le _, rfl, fun x hx => by simp [tuC] at hx, by simpa using X11.out _ O2.out, by simpa [cnC] using CT2.out, Only.refl _ _⟩
        case round =>
          obtain ⟨i, hi, rfl, hy1, hy2, hct, hon⟩ := hrel
          have hrg : wr.heap[g]? = some (.cells ⟨MJ⟩ 53 (0, 0)) := (hon.2.2.2.2 g (Array.getElem?_eq_some_iff.1 R2.out).1 GG.out.2.1).trans R2.out
          by_cases hilt : i < s.cases.length
          · have hili : (i : Int) < (s.cases.length : Int) := by omega
            have c13' := CX.out wr hrg 13 _ (by omega) (by omega) rfl
            rw [HCA.out.1, HCA.out.2] at c13'
            have hgc : wr.heap[gc]? = some (.cells ⟨s.cases.flatMap Ca.cells ++ senC⟩ 59 (0, 0)) := (hon.2.2.2.2 gc (Array.getElem?_eq_some_iff.1 (HG8.out _ O2.out)).1 D4.out).trans (HG8.out _ O2.out)
            obtain ⟨m1, m2, m3, m4⟩ := nd_any NE.out hilt
            have m5 := nd_take NE.out hilt
            have hdr : s.cases.drop i = s.cases[i] :: s.cases.drop (i + 1) := List.drop_eq_getElem_cons hilt
            have hyc : s.cases[i].Cp wr := hy2 s.cases[i] (by rw [hdr]; exact List.mem_cons_self)
            have d1 : wr.cell? ⟨gc, i * 2 + 1, none⟩ = some (.slice s.cases[i].ba s.cases[i].body.length s.cases[i].bc) := by
              rw [Lib.cell_of_heap hgc]
              show (s.cases.flatMap Ca.cells ++ senC).toArray[i * 2 + 1]? = _
              rw [List.getElem?_toArray, flatC_at (f := Ca.cells) (k := 2) (fun _ => rfl) senC s.cases i s.cases[i] 1 (List.getElem?_eq_getElem hilt) (by omega)]; rfl
            have hcz := csz_take s.cases i hilt
            have hcl := cnC_le (s.cases.take i)
            have hnby : nb ∉ s.cases[i].bl := fun h => DE.out nb (m4 nb h) (by simp)
            have MY : Hid (∀ b ∈ nb :: s.cases[i].bl, b ∈ nb :: s.cases.flatMap Ca.bl) := fun b hb => by
              rcases List.mem_cons.1 hb with rfl | hb
              · simp
              · exact List.mem_cons_of_mem _ (m4 b hb)
            have M3 : Hid (∀ z ∈ s.cases.drop (i + 1), ∀ b ∈ z.bl, b ∉ nb :: s.cases[i].bl) := fun z hz b hb h => by
              rcases List.mem_cons.1 h with e | h
              · exact DE.out b (List.mem_flatMap.2 ⟨z, List.mem_of_mem_drop hz, hb⟩) (by rw [e]; simp)
              · exact (m3 z hz b hb).1 h
            have M5 : Hid (∀ z ∈ tuC (s.cases.take i) (at_ - (m' + 1 + cnL s.body)), ∀ b ∈ z.bl, b ∉ nb :: s.cases[i].bl) := fun z hz b hb h => by
              have hb' : b ∈ (s.cases.take i).flatMap Ca.bl := by
                rw [← blC_map, ← tuC_bl (s.cases.take i) (at_ - (m' + 1 + cnL s.body)), blC_map]; exact List.mem_flatMap.2 ⟨z, hz, hb⟩
              rcases List.mem_cons.1 h with e | h
              · obtain ⟨y, hy, hby⟩ := List.mem_flatMap.1 hb'
                exact DE.out b (List.mem_flatMap.2 ⟨y, List.mem_of_mem_take hy, hby⟩) (by rw [e]; simp)
              · exact (m5 b hb').1 h
            have YS : Hid (tuC (s.cases.take (i + 1)) (at_ - (m' + 1 + cnL s.body)) = tuC (s.cases.take i) (at_ - (m' + 1 + cnL s.body)) ++ [tuA s.cases[i] (at_ - (m' + 1 + cnL s.body) - cnC (s.cases.take i))]) := tuC_succ hilt
            have YT : Hid (cnC (s.cases.take (i + 1)) = cnC (s.cases.take i) + cnL s.cases[i].body) := by rw [← cnA_eq]; exact cnC_take s.cases i hilt
            have Y1 : Hid (∀ y ∈ tuC (s.cases.take i) (at_ - (m' + 1 + cnL s.body)), y.Cp wr) := hy1
            have Y2 : Hid (∀ y ∈ s.cases.drop (i + 1), y.Cp wr) := fun y hy => hy2 y (by rw [hdr]; exact List.mem_cons_of_mem _ hy)
            have YO : Hid (Only (nb :: s.cases.flatMap Ca.bl) w2 wr) := hon
            have YQ : Hid (Calls Tryd.prog 9 #[.slice s.cases[i].ba s.cases[i].body.length s.cases[i].bc, .int .i64 at_, .pointer (some ⟨nb, 0, none⟩)] wr fun e w'' => e = .returned (.tuple #[]) ∧ (tuA s.cases[i] (at_ - (m' + 1 + cnL s.body) - cnC (s.cases.take i))).Cp w'' ∧ Ctr w'' nb (m' + 1 + cnL s.body + cnC (s.cases.take i) + cnL s.cases[i].body) ∧ Only (nb :: s.cases[i].bl) wr w'') := by
              obtain ⟨y1, y2, y3⟩ := Ca.cp_iff.1 hyc
              have hys := s.cases[i].sz_eq
              rw [Ca.bl_eq] at m2 hnby
              have := IH.out _ _ _ wr nb at_ _ (by have := HZ.out.1; omega) y2 y3 m2 hnby hct (by omega) (by have := HZ.out.2; have := cnL_le s.body; omega)
              refine this.mono ?_
              rintro e w'' ⟨rfl, t1, t2, t3, t4⟩
              rw [show at_ - (m' + 1 + (cnL s.body : Int) + (cnC (s.cases.take i) : Int)) = at_ - (m' + 1 + cnL s.body) - cnC (s.cases.take i) by omega] at t1 t2
              exact ⟨rfl, tuA_cp y1 t1 t2, t3, by rw [Ca.bl_eq]; exact t4⟩
            clear hy1 hy2 hon hct hgc m1 m2 m3 m4 m5 hdr hyc hcz hcl hnby hrg
            generalize s.cases[i] = y at *
            go_wp2_with fail
            refine YQ.out.mono ?_
            rintro e w6 ⟨rfl, t1, t2, t3⟩
            have T1 : Hid ((tuA y (at_ - (m' + 1 + cnL s.body) - cnC (s.cases.take i))).Cp w6 ∧ Ctr w6 nb (m' + 1 + cnL s.body + cnC (s.cases.take i) + cnL y.body) ∧ Only (nb :: y.bl) wr w6) := ⟨t1, t2, t3⟩
            clear t1 t2 t3 c13' d1
            go_wp2_with fail
            go_roundw
            case rel =>
              obtain ⟨t1, t2, t3⟩ := T1.out
              refine ⟨i + 1, by omega, by go_num, fun z hz => ?_, fun z hz => (Y2.out z hz).only t3 (M3.out z hz), ?_, YO.out.trans (t3.mono MY.out)⟩
              · rw [YS.out] at hz
                rcases List.mem_append.1 hz with hz | hz
                · exact (Y1.out z hz).only t3 (M5.out z hz)
                · rw [List.mem_singleton.1 hz]; exact t1
              · rw [YT.out]
                have e : m' + 1 + (cnL s.body : Int) + ((cnC (s.cases.take i) + cnL y.body : Nat) : Int) = m' + 1 + cnL s.body + cnC (s.cases.take i) + cnL y.body := by omega
                rw [e]; exact t2
            case measure => simp [intOf]; omega
          · obtain rfl : i = s.cases.length := by omega
            rw [List.take_length] at hy1 hct
            have O3 : Hid (Only (nb :: g :: ((blk s.ba :: blS s.body) ++ s.cases.flatMap Ca.bl)) WR wr) := (O2.out.mono SB.out.2.1.1).trans (hon.mono SB.out.2.1.2)
            have c12 := CX.out wr hrg 12 _ (by omega) (by omega) rfl
            have Y1 : Hid (∀ y ∈ tuC s.cases (at_ - (m' + 1 + cnL s.body)), y.Cp wr) := hy1
            have YC : Hid (Ctr wr nb (m' + 1 + cnL s.body + cnC s.cases)) := hct
            have RG : Hid (wr.heap[g]? = some (.cells ⟨MJ⟩ 53 (0, 0))) := hrg
            have O23 : Hid (Only (nb :: s.cases.flatMap Ca.bl) w2 wr) := hon
            clear hy1 hy2 hct hon hrg
            go_wp2_with fail
            refine (CE.out _ O3.out YC.out).mono ?_
            rintro e w4 ⟨rfl, t1, t2, t3, t4⟩
            have T1 : Hid (RowCp w4 s.ea s.ec s.els.length 216 53 ((tuL s.els (at_ - (m' + 1 + cnL s.body + cnC s.cases))).flatMap St.cells ++ senS) ∧ (∀ x ∈ tuL s.els (at_ - (m' + 1 + cnL s.body + cnC s.cases)), x.Cp w4) ∧ Ctr w4 nb (m' + 1 + cnL s.body + cnC s.cases + cnL s.els) ∧ Only (nb :: blk s.ea :: blS s.els) wr w4) := ⟨t1, t2, t3, t4⟩
            clear t1 t2 t3 t4 c12
            go_wp2_with fail
            go_roundw
            case rel =>
              obtain ⟨t1, t2, t3, t4⟩ := T1.out
              have o4 : Only (nb :: g :: ((blk s.ba :: blS s.body) ++ s.cases.flatMap Ca.bl ++ (blk s.ea :: blS s.els))) WR w4 := (O3.out.mono SB.out.2.2.1.1).trans (t4.mono SB.out.2.2.1.2)
              have o24 : Only (nb :: (s.cases.flatMap Ca.bl ++ (blk s.ea :: blS s.els))) w2 w4 := (O23.out.mono SB.out.2.2.2.1).trans (t4.mono SB.out.2.2.2.2)
              have o4' := o4.mono HBL.out
              obtain ⟨ca, cb, cc⟩ := X4.out _ o4
              have k1 : at_ - (m' + 1) = at_ - m' - 1 := by omega
              have k2 : at_ - (m' + 1 + (cnL s.body : Int)) = at_ - m' - 1 - cnL s.body := by omega
              have k3 : at_ - (m' + 1 + (cnL s.body : Int) + (cnC s.cases : Int)) = at_ - m' - 1 - cnL s.body - cnC s.cases := by omega
              have hb1 := BR.out.1.only o24 (DC.out _ List.mem_cons_self)
              have hb2 : ∀ x ∈ tuL s.body (at_ - (m' + 1)), x.Cp w4 := fun x hx => (BR.out.2 x hx).only o24 fun b hb => DC.out b (List.mem_cons_of_mem _ (by rw [← tuL_bl s.body (at_ - (m' + 1)), blS_map]; exact List.mem_flatMap.2 ⟨x, hx, hb⟩))
              have hc2 : ∀ x ∈ tuC s.cases (at_ - (m' + 1 + cnL s.body)), x.Cp w4 := fun x hx => (Y1.out x hx).only t4 fun b hb => DE.out b (by rw [← blC_map, ← tuC_bl s.cases (at_ - (m' + 1 + cnL s.body)), blC_map]; exact List.mem_flatMap.2 ⟨x, hx, hb⟩)
              rw [k1] at hb1 hb2
              rw [k2] at hc2
              rw [k3] at t1 t2
              have hs' : (tuS s (at_ - m')).Cp w4 := tuS_cp X1.out ca cb hb1 hb2 t1 t2 cc hc2
              refine ⟨j + 1, by omega, by go_num, ?_, fun z hz => ?_, fun z hz => (HCP2.out z hz).only o4' (N3.out z hz), ?_, HON.out.trans (o4'.mono N4.out)⟩
              · rw [HMJ.out]
                exact (t4.2.2.2.2 g (Array.getElem?_eq_some_iff.1 RG.out).1 GG.out.2.2).trans RG.out
              · rw [HSU.out] at hz
                rcases List.mem_append.1 hz with hz | hz
                · exact (HCP1.out z hz).only o4' (N5.out z hz)
                · rw [List.mem_singleton.1 hz]; exact hs'
              · have e : m + (cnL (l.take (j + 1)) : Int) = m' + 1 + cnL s.body + cnC s.cases + cnL s.els := by
                  have h1 := HCN.out
                  have h2 := HMM.out
                  have h3 := cnS_eq s
                  omega
                rw [e]; exact t3
            case measure => simp [intOf]; omega
    · obtain rfl : j = l.length := by omega
      go_wp2_with fail
      go_end0
      rw [List.take_length] at hcp1 hctr
      rw [midR_end] at hrow
      exact ⟨rfl, ⟨g, rfl, rfl, HCB.out, hrow⟩, hcp1, hctr, hon⟩
theorem turned_k (n : Nat) : TuOk n := by
  induction n with
  | zero => intro l a c w nb at_ m h; omega
  | succ n ih => exact fun l a c w nb at_ m h => turned_step n ih l a c w nb at_ m (by omega)
theorem turned_any (l : List St) (a : Option Addr) (c : Nat) (w : World) (nb : Nat) (at_ m : Int) (hr : RowCp w a c l.length 216 53 (l.flatMap St.cells ++ senS)) (hc : ∀ x ∈ l, x.Cp w) (hnd : (blk a :: blS l).Nodup) (hnb : nb ∉ blk a :: blS l) (hct : Ctr w nb m) (h0 : 0 ≤ m) (h1 : m + ssz l ≤ 1000000000) :
    Calls Tryd.prog 9 #[.slice a l.length c, .int .i64 at_, .pointer (some ⟨nb, 0, none⟩)] w fun e w' => e = .returned (.tuple #[]) ∧ RowCp w' a c l.length 216 53 ((tuL l (at_ - m)).flatMap St.cells ++ senS) ∧ (∀ x ∈ tuL l (at_ - m), x.Cp w') ∧ Ctr w' nb (m + cnL l) ∧ Only (nb :: blk a :: blS l) w w' :=
  turned_k (ssz l + 1) l a c w nb at_ m (by omega) hr hc hnd hnb hct h0 h1
end Go.Proofs.YtbpemackmadhgabDoor
