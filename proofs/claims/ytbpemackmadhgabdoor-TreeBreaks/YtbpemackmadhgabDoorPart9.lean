/- Copies are written over: statements. -/
import Derived.Test.YtbpemackmadhgabDoorPart8
import Derived.Test.YtbpemackmadhgabDoorPart7
import Derived.Test.YtbpemackmadhgabDoorPart6
import Derived.Test.YtbpemackmadhgabDoorPart3
import Derived.Test.YtbpemackmadhgabDoorPart5
namespace Go.Proofs.YtbpemackmadhgabDoor
open Go.RowKit Go.Sort

abbrev SpOk (n : Nat) : Prop := ∀ (l : List St) (a : Option Addr) (c : Nat) (w : World), ssz l < n → RowCp w a c l.length 216 53 (l.flatMap St.cells ++ senS) → (∀ x ∈ l, x.Cp w) → (blk a :: blS l).Nodup → Calls Tryd.prog 31 #[.slice a l.length c] w fun e w' => e = .returned (.tuple #[]) ∧ Only (blk a :: blS l) w w'
set_option maxRecDepth 100000 in
set_option maxHeartbeats 8000000 in
theorem spoilS_step (n : Nat) (ih : SpOk n) (l : List St) (a : Option Addr) (c : Nat) (w : World) (hk : ssz l ≤ n) (hr : RowCp w a c l.length 216 53 (l.flatMap St.cells ++ senS)) (hc : ∀ x ∈ l, x.Cp w) (hnd : (blk a :: blS l).Nodup) : Calls Tryd.prog 31 #[.slice a l.length c] w fun e w' => e = .returned (.tuple #[]) ∧ Only (blk a :: blS l) w w' := by
  have IH : Hid (SpOk n) := ih
  have HK : Hid (ssz l ≤ n) := hk
  have HC : Hid (∀ x ∈ l, x.Cp w) := hc
  obtain ⟨g, rfl, rfl, hcb, hg⟩ := hr
  have HND : Hid ((g :: l.flatMap St.bl).Nodup) := by rw [← blS_map]; exact hnd
  have HG : Hid (TailF w g 53 (l.flatMap St.cells ++ senS) (0 * 14)) := ⟨_, hg, rfl, fun i _ => rfl⟩
  clear ih hk hc hnd hg
  go_enter Tryd.func31, Tryd.ntmps31
  go_wp2_with fail
  go_loopw [2] (fun t wr => ∃ (j : Nat), j ≤ l.length ∧ t = .int .i64 j ∧ TailF wr g 53 (l.flatMap St.cells ++ senS) (j * 14) ∧ (∀ x ∈ l.drop j, x.Cp wr) ∧ Only (g :: blS l) w wr) (fun t _ => l.length - (intOf t).toNat)
  case atStart => exact ⟨0, Nat.zero_le _, rfl, HG.out, by simpa using HC.out, Only.refl _ w⟩
  case round =>
    obtain ⟨j, hj, rfl, htl, hcp, hon⟩ := hrel
    by_cases hlt : j < l.length
    · have hli : (j : Int) < (l.length : Int) := by omega
      obtain ⟨n1, n2, n3, n4⟩ := nd_any HND.out hlt
      have hdr : l.drop j = l[j] :: l.drop (j + 1) := List.drop_eq_getElem_cons hlt
      have hxc : l[j].Cp wr := hcp l[j] (by rw [hdr]; exact List.mem_cons_self)
      have HXJ : Hid (l[j]? = some l[j]) := List.getElem?_eq_getElem hlt
      have HZ : Hid (l[j].sz ≤ n) := Nat.le_trans (ssz_mem (List.getElem_mem hlt)) HK.out
      have N1 : Hid (g ∉ l[j].bl) := n1
      have N3 : Hid (∀ y ∈ l.drop (j + 1), ∀ b ∈ y.bl, b ∉ l[j].bl ∧ b ≠ g) := n3
      have N4 : Hid (∀ b ∈ l[j].bl, b ∈ blS l) := by rw [blS_map]; exact n4
      have HCP : Hid (∀ y ∈ l.drop (j + 1), y.Cp wr) := fun y hy => hcp y (by rw [hdr]; exact List.mem_cons_of_mem _ hy)
      have HON : Hid (Only (g :: blS l) w wr) := hon
      have HTL : Hid (TailF wr g 53 (l.flatMap St.cells ++ senS) (j * 14)) := htl
      clear n1 n3 n4 hdr hcp hon htl
      generalize l[j] = s at *
      have CX : Hid (∀ w', Only s.bl wr w' → ∀ (i : Nat) v, s.cells[i]? = some v → w'.cell? ⟨g, j * 14 + i, none⟩ = some v) := fun w' h i v e => (HTL.out.keep h N1.out).cell (f := St.cells) (fun _ => rfl) HXJ.out e
      rw [St.bl_eq] at n2
      obtain ⟨nA, nB, nC, nD, nE, dB, dC, dD, dE⟩ := nd_five n2
      obtain ⟨_, _, _, x4, x5, x6, x7, x8, x9, x10, x11⟩ := St.cp_iff.1 hxc
      have mA : ∀ b ∈ s.a.bl, b ∈ s.bl := fun b hb => by rw [St.bl_eq]; simp only [List.mem_append]; exact .inl hb
      have mB : ∀ b ∈ s.a.bl ++ s.b.bl, b ∈ s.bl := fun b hb => by rw [St.bl_eq]; simp only [List.mem_append] at hb ⊢; rcases hb with h | h <;> simp only [h, true_or, or_true]
      have mC : ∀ b ∈ s.a.bl ++ s.b.bl ++ (blk s.ba :: blS s.body), b ∈ s.bl := fun b hb => by rw [St.bl_eq]; simp only [List.mem_append] at hb ⊢; rcases hb with (h | h) | h <;> simp only [h, true_or, or_true]
      have mD : ∀ b ∈ s.a.bl ++ s.b.bl ++ (blk s.ba :: blS s.body) ++ (blk s.ea :: blS s.els), b ∈ s.bl := fun b hb => by rw [St.bl_eq]; simp only [List.mem_append] at hb ⊢; rcases hb with ((h | h) | h) | h <;> simp only [h, true_or, or_true]
      have mE : ∀ b ∈ (blk s.ca :: s.cases.flatMap Ca.bl), b ∈ s.bl := fun b hb => by rw [← blC_map] at hb; rw [St.bl_eq]; simp only [List.mem_append]; exact .inr (.inr (.inr (.inr hb)))
      have MA := show Hid _ from mA
      have MB := show Hid _ from mB
      have MC := show Hid _ from mC
      have MD := show Hid _ from mD
      have ME := show Hid _ from mE
      have HE1 : Hid (Calls Tryd.prog 52 #[.slice s.a.a s.a.args.length s.a.cap] wr fun e w'' => e = .returned (.tuple #[]) ∧ Only s.a.bl wr w'') := spoilE_any _ _ x4 nA
      have HE2 : Hid (∀ w', Only s.a.bl wr w' → Calls Tryd.prog 52 #[.slice s.b.a s.b.args.length s.b.cap] w' fun e w'' => e = .returned (.tuple #[]) ∧ Only s.b.bl w' w'') := fun w' h => spoilE_any _ _ (x5.only h dB) nB
      have HB1 : Hid (∀ w', Only (s.a.bl ++ s.b.bl) wr w' → Calls Tryd.prog 31 #[.slice s.ba s.body.length s.bc] w' fun e w'' => e = .returned (.tuple #[]) ∧ Only (blk s.ba :: blS s.body) w' w'') := fun w' h =>
        IH.out _ _ _ w' (by have := HZ.out; have := s.sz_eq; omega) (x6.only h (dC _ List.mem_cons_self)) (fun y hy => (x9 y hy).only h fun b hb => dC b (List.mem_cons_of_mem _ (by rw [blS_map]; exact List.mem_flatMap.2 ⟨y, hy, hb⟩))) nC
      have HB2 : Hid (∀ w', Only (s.a.bl ++ s.b.bl ++ (blk s.ba :: blS s.body)) wr w' → Calls Tryd.prog 31 #[.slice s.ea s.els.length s.ec] w' fun e w'' => e = .returned (.tuple #[]) ∧ Only (blk s.ea :: blS s.els) w' w'') := fun w' h =>
        IH.out _ _ _ w' (by have := HZ.out; have := s.sz_eq; omega) (x7.only h (dD _ List.mem_cons_self)) (fun y hy => (x10 y hy).only h fun b hb => dD b (List.mem_cons_of_mem _ (by rw [blS_map]; exact List.mem_flatMap.2 ⟨y, hy, hb⟩))) nD
      have X8 : Hid (∀ w', Only (s.a.bl ++ s.b.bl ++ (blk s.ba :: blS s.body) ++ (blk s.ea :: blS s.els)) wr w' → RowCp w' s.ca s.cc s.cases.length 32 59 (s.cases.flatMap Ca.cells ++ senC) ∧ ∀ y ∈ s.cases, y.Cp w') := fun w' h =>
        ⟨x8.only h (dE _ List.mem_cons_self), fun y hy => (x11 y hy).only h fun b hb => dE b (List.mem_cons_of_mem _ (by rw [blC_map]; exact List.mem_flatMap.2 ⟨y, hy, hb⟩))⟩
      have NE : Hid ((blk s.ca :: s.cases.flatMap Ca.bl).Nodup) := by rw [← blC_map]; exact nE
      clear nA nB nC nD nE dB dC dD dE x4 x5 x6 x7 x8 x9 x10 x11 n2 hxc mA mB mC mD mE
      have c6 := CX.out wr (Only.refl _ _) 6 _ rfl
      go_wp2_with fail
      refine HE1.out.mono ?_
      rintro e w1 ⟨rfl, o1⟩
      clear c6
      have c10 := CX.out w1 (o1.mono MA.out) 10 _ rfl
      go_wp2_with fail
      refine (HE2.out _ o1).mono ?_
      rintro e w2 ⟨rfl, o2'⟩
      have o2 := o1.app o2'
      clear c10 o1 o2'
      have c11 := CX.out w2 (o2.mono MB.out) 11 _ rfl
      go_wp2_with fail
      refine (HB1.out _ o2).mono ?_
      rintro e w3 ⟨rfl, o3'⟩
      have o3 := o2.app o3'
      clear c11 o2 o3'
      have c12 := CX.out w3 (o3.mono MC.out) 12 _ rfl
      go_wp2_with fail
      refine (HB2.out _ o3).mono ?_
      rintro e w4 ⟨rfl, o4'⟩
      have o4 := o3.app o4'
      clear c12 o3 o4'
      obtain ⟨hr8, hc8⟩ := X8.out w4 o4
      obtain ⟨gc, hca, hcc, hcb8, hg8⟩ := hr8
      have HCA : Hid (s.ca = some ⟨gc, 0, none⟩ ∧ s.cc = s.cases.length + 1) := ⟨hca, hcc⟩
      have HC8 : Hid (∀ y ∈ s.cases, y.Cp w4) := hc8
      have HT8 : Hid (TailF w4 gc 59 (s.cases.flatMap Ca.cells ++ senC) (0 * 2)) := ⟨_, hg8, rfl, fun i _ => rfl⟩
      have O4 : Hid (Only s.bl wr w4) := o4.mono MD.out
      have NE' : Hid ((gc :: s.cases.flatMap Ca.bl).Nodup) := by have := NE.out; rw [hca] at this; exact this
      have ME' : Hid (∀ b ∈ gc :: s.cases.flatMap Ca.bl, b ∈ s.bl) := by have := ME.out; rw [hca] at this; exact this
      have hcl : s.cases.length + 1 ≤ s.cc := by omega
      clear hca hcc hc8 hg8 o4
      go_wp2_with fail
      generalize wr = WR at *
      go_loopw [3] (fun t wq => ∃ (i : Nat), i ≤ s.cases.length ∧ t = .int .i64 i ∧ TailF wq gc 59 (s.cases.flatMap Ca.cells ++ senC) (i * 2) ∧ (∀ y ∈ s.cases.drop i, y.Cp wq) ∧ Only s.bl WR wq) (fun t _ => s.cases.length - (intOf t).toNat)
      case atStart => exact ⟨0, Nat.zero_le _, rfl, HT8.out, by simpa using HC8.out, O4.out⟩
      case round =>
        obtain ⟨i, hi, rfl, htl, hcp, hon⟩ := hrel
        have c13 := CX.out _ hon 13 _ rfl
        by_cases hilt : i < s.cases.length
        · have hili : (i : Int) < (s.cases.length : Int) := by omega
          obtain ⟨n1, n2, n3, n4⟩ := nd_any NE'.out hilt
          have hdr : s.cases.drop i = s.cases[i] :: s.cases.drop (i + 1) := List.drop_eq_getElem_cons hilt
          have hyc : s.cases[i].Cp wr := hcp s.cases[i] (by rw [hdr]; exact List.mem_cons_self)
          have hyz := csz_mem (List.getElem_mem hilt)
          have hyj : s.cases[i]? = some s.cases[i] := List.getElem?_eq_getElem hilt
          have HYJ := show Hid _ from hyj
          have HON2 : Hid (Only s.bl WR wr) := hon
          have HCP2 : Hid (∀ y ∈ s.cases.drop (i + 1), y.Cp wr) := fun y hy => hcp y (by rw [hdr]; exact List.mem_cons_of_mem _ hy)
          have HTL2 : Hid (TailF wr gc 59 (s.cases.flatMap Ca.cells ++ senC) (i * 2)) := htl
          have M1 : Hid (gc ∉ s.cases[i].bl) := n1
          have M3 : Hid (∀ y ∈ s.cases.drop (i + 1), ∀ b ∈ y.bl, b ∉ s.cases[i].bl ∧ b ≠ gc) := n3
          have M4 : Hid (∀ b ∈ s.cases[i].bl, b ∈ s.bl) := fun b hb => ME'.out b (List.mem_cons_of_mem _ (n4 b hb))
          have MG : Hid (gc ∈ s.bl) := ME'.out gc List.mem_cons_self
          clear n1 n3 n4 hdr hcp hon htl hyj
          rw [HCA.out.1, HCA.out.2] at c13
          have d1 := HTL2.out.cell (f := Ca.cells) (fun _ => rfl) HYJ.out (i := 1) rfl
          generalize s.cases[i] = y at *
          have HQ : Hid (Calls Tryd.prog 31 #[.slice y.ba y.body.length y.bc] wr fun e w'' => e = .returned (.tuple #[]) ∧ Only y.bl wr w'') := by
            have h4 := Ca.cp_iff.1 hyc
            have h2 := y.sz_eq
            have h3 := s.sz_eq
            have := IH.out _ _ _ wr (by have := HZ.out; omega) h4.2.1 h4.2.2 (by rw [← Ca.bl_eq]; exact n2)
            rw [← Ca.bl_eq] at this
            exact this
          clear n2 hyc hyz
          go_wp2_with fail
          refine HQ.out.mono ?_
          rintro e w6 ⟨rfl, o6⟩
          clear c13 d1
          have c13 := CX.out _ (HON2.out.trans (o6.mono M4.out)) 13 _ rfl
          rw [HCA.out.1, HCA.out.2] at c13
          have ht6 := HTL2.out.keep o6 M1.out
          have d0 := ht6.cell (f := Ca.cells) (fun _ => rfl) HYJ.out (i := 0) rfl
          have d1 := ht6.cell (f := Ca.cells) (fun _ => rfl) HYJ.out (i := 1) rfl
          have q0 := ht6.frozen (i * 2)
          have q1 := ht6.frozen (i * 2 + 1)
          simp only [Nat.add_zero] at d0
          have HT6 : Hid (TailF w6 gc 59 (s.cases.flatMap Ca.cells ++ senC) ((i + 1) * 2)) := ht6.mono (by omega)
          have O6 : Hid (Only y.bl wr w6) := o6
          clear ht6 o6
          go_wp2_with fail
          go_roundw
          case rel =>
            refine ⟨i + 1, by omega, by go_num, (HT6.out.set (by omega) _).set (by omega) _, fun z hz => ?_, ((HON2.out.trans (O6.out.mono M4.out)).set MG.out _ _).set MG.out _ _⟩
            have hz' := HCP2.out z hz
            refine hz'.kept fun b hb => ?_
            have hne := (M3.out z hz b hb).2
            rw [Below.heap_setCell _ _ _ _ hne, Below.heap_setCell _ _ _ _ hne]
            exact O6.out.2.2.2.2 b ((cp_lt _).2 z (Nat.le_refl _) hz' b hb) (M3.out z hz b hb).1
          case measure => simp [intOf]; omega
        · obtain rfl : i = s.cases.length := by omega
          have ht := HTL.out.keep hon N1.out
          have d0 := ht.cell (f := St.cells) (fun _ => rfl) HXJ.out (i := 0) rfl
          have q0 := ht.frozen (j * 14)
          have d1 := ht.cell (f := St.cells) (fun _ => rfl) HXJ.out (i := 1) rfl
          have q1 := ht.frozen (j * 14 + 1)
          have d2 := ht.cell (f := St.cells) (fun _ => rfl) HXJ.out (i := 2) rfl
          have q2 := ht.frozen (j * 14 + 2)
          have d3 := ht.cell (f := St.cells) (fun _ => rfl) HXJ.out (i := 3) rfl
          have q3 := ht.frozen (j * 14 + 3)
          have d4 := ht.cell (f := St.cells) (fun _ => rfl) HXJ.out (i := 4) rfl
          have q4 := ht.frozen (j * 14 + 4)
          have d5 := ht.cell (f := St.cells) (fun _ => rfl) HXJ.out (i := 5) rfl
          have q5 := ht.frozen (j * 14 + 5)
          have d6 := ht.cell (f := St.cells) (fun _ => rfl) HXJ.out (i := 6) rfl
          have q6 := ht.frozen (j * 14 + 6)
          have d7 := ht.cell (f := St.cells) (fun _ => rfl) HXJ.out (i := 7) rfl
          have q7 := ht.frozen (j * 14 + 7)
          have d8 := ht.cell (f := St.cells) (fun _ => rfl) HXJ.out (i := 8) rfl
          have q8 := ht.frozen (j * 14 + 8)
          have d9 := ht.cell (f := St.cells) (fun _ => rfl) HXJ.out (i := 9) rfl
          have q9 := ht.frozen (j * 14 + 9)
          have d10 := ht.cell (f := St.cells) (fun _ => rfl) HXJ.out (i := 10) rfl
          have q10 := ht.frozen (j * 14 + 10)
          have d11 := ht.cell (f := St.cells) (fun _ => rfl) HXJ.out (i := 11) rfl
          have q11 := ht.frozen (j * 14 + 11)
          have d12 := ht.cell (f := St.cells) (fun _ => rfl) HXJ.out (i := 12) rfl
          have q12 := ht.frozen (j * 14 + 12)
          have d13 := ht.cell (f := St.cells) (fun _ => rfl) HXJ.out (i := 13) rfl
          have q13 := ht.frozen (j * 14 + 13)
          simp only [Nat.add_zero] at d0
          have HT6 : Hid (TailF wr g 53 (l.flatMap St.cells ++ senS) ((j + 1) * 14)) := ht.mono (by omega)
          have O6 : Hid (Only s.bl WR wr) := hon
          clear ht hon hcp htl
          go_wp2_with fail
          go_roundw
          case rel =>
            refine ⟨j + 1, by omega, by go_num, ((((((((((((((HT6.out.set (by omega) _).set (by omega) _).set (by omega) _).set (by omega) _).set (by omega) _).set (by omega) _).set (by omega) _).set (by omega) _).set (by omega) _).set (by omega) _).set (by omega) _).set (by omega) _).set (by omega) _).set (by omega) _), fun z hz => ?_, ((((((((((((((((HON.out.trans (O6.out.mono fun k hk => List.mem_cons_of_mem _ (N4.out k hk)))).set List.mem_cons_self _ _).set List.mem_cons_self _ _).set List.mem_cons_self _ _).set List.mem_cons_self _ _).set List.mem_cons_self _ _).set List.mem_cons_self _ _).set List.mem_cons_self _ _).set List.mem_cons_self _ _).set List.mem_cons_self _ _).set List.mem_cons_self _ _).set List.mem_cons_self _ _).set List.mem_cons_self _ _).set List.mem_cons_self _ _).set List.mem_cons_self _ _)⟩
            have hz' := HCP.out z hz
            refine hz'.kept fun b hb => ?_
            have hne := (N3.out z hz b hb).2
            rw [Below.heap_setCell _ _ _ _ hne, Below.heap_setCell _ _ _ _ hne, Below.heap_setCell _ _ _ _ hne, Below.heap_setCell _ _ _ _ hne, Below.heap_setCell _ _ _ _ hne, Below.heap_setCell _ _ _ _ hne, Below.heap_setCell _ _ _ _ hne, Below.heap_setCell _ _ _ _ hne, Below.heap_setCell _ _ _ _ hne, Below.heap_setCell _ _ _ _ hne, Below.heap_setCell _ _ _ _ hne, Below.heap_setCell _ _ _ _ hne, Below.heap_setCell _ _ _ _ hne, Below.heap_setCell _ _ _ _ hne]
            exact O6.out.2.2.2.2 b ((cp_lt _).1 z (Nat.le_refl _) hz' b hb) (N3.out z hz b hb).1
          case measure => simp [intOf]; omega
    · obtain rfl : j = l.length := by omega
      go_wp2_with fail
      go_end0
      exact ⟨rfl, by rw [show blk (some ⟨g, 0, none⟩) = g from rfl]; exact hon⟩
theorem spoilS_k (n : Nat) : SpOk n := by
  induction n with
  | zero => intro l a c w h; omega
  | succ n ih => exact fun l a c w h => spoilS_step n ih l a c w (by omega)
theorem spoilS_any (l : List St) (a : Option Addr) (c : Nat) (w : World) (hr : RowCp w a c l.length 216 53 (l.flatMap St.cells ++ senS)) (hc : ∀ x ∈ l, x.Cp w) (hn : (blk a :: blS l).Nodup) : Calls Tryd.prog 31 #[.slice a l.length c] w fun e w' => e = .returned (.tuple #[]) ∧ Only (blk a :: blS l) w w' := spoilS_k (ssz l + 1) l a c w (by omega) hr hc hn
end Go.Proofs.YtbpemackmadhgabDoor

/- Does the room behind all lists of a copy read as it did? -/
namespace Go.Proofs.YtbpemackmadhgabDoor
open Go.RowKit Go.Sort

theorem Fu.Cp.lt {W : World} {f : Fu} (h : f.Cp W) : ∀ b ∈ f.bl, b < W.heap.size := by
  obtain ⟨_, h2, _, h4, h5⟩ := h
  intro b hb
  unfold Fu.bl at hb
  rcases List.mem_cons.1 hb with rfl | hb
  · exact h2.lt
  rcases List.mem_cons.1 hb with rfl | hb
  · exact h4.lt
  rw [blS_map] at hb
  obtain ⟨x, hx, hb⟩ := List.mem_flatMap.1 hb
  exact (cp_lt _).1 x (Nat.le_refl _) (h5 x hx) b hb
theorem Fu.Cp.stay {W W' : World} {f : Fu} (h : f.Cp W) (hb : Below W.heap.size W W') : f.Cp W' := h.kept fun b hx => hb.block b (h.lt b hx)
theorem RowCp.behind {α : Type} {f : α → List Value} {k : Nat} (hf : ∀ x, (f x).length = k) {W : World} {a : Option Addr} {c B : Nat} {T : TypeId} {l : List α} {r : List Value} (h : RowCp W a c l.length B T (l.flatMap f ++ r)) : ∃ g, a = some ⟨g, 0, none⟩ ∧ c = l.length + 1 ∧ c * B ≤ 140737488351232 ∧ ∀ (i : Nat) v, r[i]? = some v → W.cell? ⟨g, l.length * k + i, none⟩ = some v := by
  obtain ⟨g, h1, h2, h3, h4⟩ := h
  refine ⟨g, h1, h2, h3, fun i v e => ?_⟩
  rw [Lib.cell_of_heap h4]
  show (l.flatMap f ++ r).toArray[l.length * k + i]? = _
  have : (l.flatMap f).length = l.length * k := flat_len hf l
  rw [List.getElem?_toArray, List.getElem?_append_right (by omega), this, show l.length * k + i - l.length * k = i by omega, e]

set_option maxRecDepth 100000 in
set_option maxHeartbeats 1200000 in
theorem room_any (p : Pr) (w : World) (h : p.Cp w) : Calls Tryd.prog 15 #[p.val] w fun e w' => e = .returned (.bool true) ∧ Below w.heap.size w w' := by
  obtain ⟨h1, h2, h3, h4⟩ := h
  have HR : Hid (RowIn w p.fa 3 (List.map Fu.cells p.funcs)) := h3.row (k := 3) (fun _ => rfl)
  have HS : Hid (∀ f ∈ p.funcs, f.Cp w) := h4
  obtain ⟨gw, ew, lw, bw, cw⟩ := h1.behind (k := 1) (fun _ => rfl)
  obtain ⟨gf, ef, lf, bf, cf⟩ := h3.behind (k := 3) (fun _ => rfl)
  have cw0 := cw 0 _ rfl
  have cf0 := cf 0 _ rfl
  have cf1 := cf 1 _ rfl
  have cf2 := cf 2 _ rfl
  simp only [Nat.add_zero, Nat.mul_one] at cw0 cf0
  have CW0 := show Hid _ from cw0
  have CF0 := show Hid _ from cf0
  clear h1 h2 h3 h4 cw cf cw0 cf0 cf1 cf2
  unfold Pr.val
  rw [ew, ef, lw, lf]
  rw [ef] at HR
  obtain ⟨W1, hW1⟩ : ∃ W1, w.alloc (.cells #[.slice (some ⟨gw, 0, none⟩) p.widen.length (p.widen.length + 1), .slice (some ⟨gf, 0, none⟩) p.funcs.length (p.funcs.length + 1)] 25) = W1 := ⟨_, rfl⟩
  have HW1 := show Hid _ from hW1
  have hb1 : Below w.heap.size w W1 := by rw [← hW1]; exact (Below.refl _ w).alloc (Nat.le_refl _) _
  have hc : ∀ (j : Nat) v, (#[.slice (some ⟨gw, 0, none⟩) p.widen.length (p.widen.length + 1), .slice (some ⟨gf, 0, none⟩) p.funcs.length (p.funcs.length + 1)] : Array Value)[j]? = some v → ∀ w', Below W1.heap.size W1 w' → w'.cell? ⟨w.heap.size, j, none⟩ = some v := fun j v e w' h => by
    refine (h.cell (p := ⟨w.heap.size, j, none⟩) (by rw [← hW1]; simp)).trans ?_
    rw [← hW1, World.cell?_alloc_at _ _ _ _ rfl]; exact e
  have CX := show Hid _ from hc 1 _ rfl
  have CW := show Hid _ from hc 0 _ rfl
  have HB1 : Hid (Below w.heap.size w W1) := hb1
  rw [lw] at bw
  rw [lf] at bf
  clear hW1 hc hb1 ew ef lw lf
  go_enter Tryd.func15, Tryd.ntmps15
  go_wp2_with fail
  rw [HW1.out]
  clear HW1
  obtain ⟨Z, hZ⟩ : ∃ Z, w.heap.size = Z := ⟨_, rfl⟩
  have HW : Hid (w.heap.size = Z) := hZ
  rw [hZ] at CX CW ⊢
  clear hZ
  go_loopw [3] (fun t wr => ∃ (j : Nat), j ≤ p.funcs.length ∧ t = .int .i64 j ∧ Below W1.heap.size W1 wr) (fun t _ => p.funcs.length - (intOf t).toNat)
  case atStart => exact ⟨0, Nat.zero_le _, rfl, Below.refl _ _⟩
  case round =>
    obtain ⟨j, hj, rfl, hb⟩ := hrel
    have hws := hb.size
    have hbw : Below w.heap.size w wr := Below.on HB1.out hb
    have c1 := CX.out _ hb
    by_cases hlt : j < p.funcs.length
    · have hli : (j : Int) < (p.funcs.length : Int) := by omega
      obtain ⟨b, o, hfa, d0, d1, d2⟩ := rowF_at (HR.out.below hbw) hlt
      obtain ⟨rfl, rfl⟩ : gf = b ∧ 0 = o := by simpa using hfa
      clear hfa
      simp only [Nat.zero_add] at d0 d1 d2
      have hfc := (HS.out p.funcs[j] (List.getElem_mem hlt)).stay hbw
      generalize p.funcs[j] = f at *
      obtain ⟨f1, f2, f3, f4, f5⟩ := hfc
      obtain ⟨gp, ep, lp, bp, cp⟩ := f2.behind (k := 3) (fun _ => rfl)
      have HB : Hid (∀ w', Below wr.heap.size wr w' → Calls Tryd.prog 30 #[.slice f.ba f.body.length f.bc] w' fun e w'' => e = .returned (.bool true) ∧ Below w'.heap.size w' w'') := fun w' h => roomS_any _ _ _ w' (f4.stay h) fun x hx => (f5 x hx).stay h
      have e0 := cp 0 _ rfl
      have e1 := cp 1 _ rfl
      have e2 := cp 2 _ rfl
      simp only [Nat.add_zero] at e0
      rw [ep, lp] at d1
      rw [lp] at bp
      clear cp ep lp f2 f3 f4 f5
      have HBR : Hid (Below W1.heap.size W1 wr) := hb
      have hlp := lt_of_cell e0
      go_wp2_with fail
      refine (HB.out _ ?_).mono ?_
      · exact (Below.refl _ _).alloc (Nat.le_refl _) _
      rintro e w' ⟨rfl, hb'⟩
      have HB' : Hid (Below W1.heap.size W1 w') := Below.on HBR.out (Below.on ((Below.refl _ _).alloc (Nat.le_refl _) _) hb')
      clear hb' hb c1 d0 d1 d2 e0 e1 e2
      go_wp2_with fail
      go_roundw
      case rel => exact ⟨j + 1, by omega, by go_num, HB'.out⟩
      case measure => simp [intOf]; omega
    · obtain rfl : j = p.funcs.length := by omega
      have c0 := CW.out _ hb
      have x0 := (hbw.cell (lt_of_cell CW0.out)).trans CW0.out
      have x1 := (hbw.cell (lt_of_cell CF0.out)).trans CF0.out
      go_wp2_with fail
      go_ret
      exact ⟨rfl, hbw⟩
end Go.Proofs.YtbpemackmadhgabDoor

/- A copy is written over. -/
namespace Go.Proofs.YtbpemackmadhgabDoor
open Go.RowKit Go.Sort

theorem Fu.Cp.only {W W' : World} {S : List Nat} {x : Fu} (h : x.Cp W) (ho : Only S W W') (hd : ∀ b ∈ x.bl, b ∉ S) : x.Cp W' := h.kept fun b hb => ho.2.2.2.2 b (h.lt b hb) (hd b hb)
theorem Only.cell {S : List Nat} {W W' : World} (h : Only S W W') {Z i : Nat} {v : Value} (hz : Z ∉ S) (e : W.cell? ⟨Z, i, none⟩ = some v) : W'.cell? ⟨Z, i, none⟩ = some v := by
  rw [← e]
  unfold World.cell?
  rw [show W'.heap[Z]? = W.heap[Z]? from h.2.2.2.2 Z (lt_of_cell e) hz]

set_option maxRecDepth 100000 in
set_option maxHeartbeats 1200000 in
theorem spoil_any (p : Pr) (w : World) (h : p.Cp w) (hn : p.bl.Nodup) : Calls Tryd.prog 16 #[p.val] w fun e w' => e = .returned (.tuple #[]) ∧ Only p.bl w w' := by
  obtain ⟨h1, h2, h3, h4⟩ := h
  have l1 := h1.lt
  have l2 := h3.lt
  obtain ⟨gw, ew, lw, bw, cw⟩ := h1
  obtain ⟨gf, ef, lf, bf, cf⟩ := h3
  have hbl : p.bl = gw :: gf :: p.funcs.flatMap Fu.bl := by unfold Pr.bl; rw [ew, ef]; rfl
  have hblt : ∀ b ∈ p.bl, b < w.heap.size := by
    intro b hb
    rw [hbl] at hb
    rw [ew] at l1
    rw [ef] at l2
    rcases List.mem_cons.1 hb with rfl | hb
    · exact l1
    rcases List.mem_cons.1 hb with rfl | hb
    · exact l2
    obtain ⟨f, hf, hb⟩ := List.mem_flatMap.1 hb
    exact (h4 f hf).lt b hb
  have HBL := show Hid _ from hbl
  have HLT := show Hid _ from hblt
  have HN : Hid ((gw :: gf :: p.funcs.flatMap Fu.bl).Nodup) := by rw [← hbl]; exact hn
  unfold Pr.val
  rw [ew, ef, lw, lf]
  obtain ⟨W1, hW1⟩ : ∃ W1, w.alloc (.cells #[.slice (some ⟨gw, 0, none⟩) p.widen.length (p.widen.length + 1), .slice (some ⟨gf, 0, none⟩) p.funcs.length (p.funcs.length + 1)] 25) = W1 := ⟨_, rfl⟩
  have HW1 := show Hid _ from hW1
  have hb1 : Below w.heap.size w W1 := by rw [← hW1]; exact (Below.refl _ w).alloc (Nat.le_refl _) _
  have hc : ∀ (j : Nat) v, (#[.slice (some ⟨gw, 0, none⟩) p.widen.length (p.widen.length + 1), .slice (some ⟨gf, 0, none⟩) p.funcs.length (p.funcs.length + 1)] : Array Value)[j]? = some v → ∀ w', Only p.bl W1 w' → w'.cell? ⟨w.heap.size, j, none⟩ = some v := fun j v e w' h => by
    refine h.cell (fun hz => by have := HLT.out _ hz; omega) ?_
    rw [← hW1, World.cell?_alloc_at _ _ _ _ rfl]; exact e
  have CX := show Hid _ from hc 1 _ rfl
  have CW := show Hid _ from hc 0 _ rfl
  have HB1 : Hid (Only p.bl w W1) := Only.of_below hb1
  have HTW : Hid (TailF W1 gw 2 (p.widen.flatMap cI ++ [.int .i64 (-77)]) (0 * 1)) := ⟨_, (hb1.block gw (by rw [ew] at l1; exact l1)).trans cw, rfl, fun _ _ => rfl⟩
  have HTF : Hid (TailF W1 gf 36 (p.funcs.flatMap Fu.cells ++ senF) (0 * 3)) := ⟨_, (hb1.block gf (by rw [ef] at l2; exact l2)).trans cf, rfl, fun _ _ => rfl⟩
  have HS : Hid (∀ f ∈ p.funcs, f.Cp W1) := fun f hf => (h4 f hf).stay hb1
  rw [lw] at bw
  rw [lf] at bf
  clear hW1 hc hb1 ew ef lw lf l1 l2 h2 h4 cw cf hbl hblt hn
  go_enter Tryd.func16, Tryd.ntmps16
  go_wp2_with fail
  rw [HW1.out]
  clear HW1
  obtain ⟨Z, hZ⟩ : ∃ Z, w.heap.size = Z := ⟨_, rfl⟩
  have HW : Hid (w.heap.size = Z) := hZ
  rw [hZ] at CX CW ⊢
  clear hZ
  go_loopw [2] (fun t wr => ∃ (i : Nat), i ≤ p.widen.length ∧ t = .int .i64 i ∧ TailF wr gw 2 (p.widen.flatMap cI ++ [.int .i64 (-77)]) (i * 1) ∧ Only [gw] W1 wr) (fun t _ => p.widen.length - (intOf t).toNat)
  case atStart => exact ⟨0, Nat.zero_le _, rfl, HTW.out, Only.refl _ _⟩
  case round =>
    obtain ⟨i, hi, rfl, htl, hon⟩ := hrel
    have c0 := CW.out _ (hon.mono (by rw [HBL.out]; simp))
    by_cases hlt : i < p.widen.length
    · have hli : (i : Int) < (p.widen.length : Int) := by omega
      have d0 := htl.cell (f := cI) (fun _ => rfl) (List.getElem?_eq_getElem hlt) (i := 0) rfl
      have q0 := htl.frozen i
      simp only [Nat.mul_one, Nat.add_zero] at d0
      have HT : Hid (TailF wr gw 2 (p.widen.flatMap cI ++ [.int .i64 (-77)]) (i * 1)) := htl
      have HO : Hid (Only [gw] W1 wr) := hon
      clear htl hon
      go_wp2_with fail
      go_roundw
      case rel => exact ⟨i + 1, by omega, by go_num, (HT.out.mono (by omega)).set (by omega) _, HO.out.set (by simp) _ _⟩
      case measure => simp [intOf]; omega
    · obtain rfl : i = p.widen.length := by omega
      have HO : Hid (Only [gw] W1 wr) := hon
      clear htl hon
      go_wp2_with fail
      generalize wr = WA at *
      go_loopw [3] (fun t wr => ∃ (j : Nat), j ≤ p.funcs.length ∧ t = .int .i64 j ∧ TailF wr gf 36 (p.funcs.flatMap Fu.cells ++ senF) (j * 3) ∧ (∀ f ∈ p.funcs.drop j, f.Cp wr) ∧ Only p.bl W1 wr) (fun t _ => p.funcs.length - (intOf t).toNat)
      case atStart =>
        obtain ⟨n1, _⟩ := List.nodup_cons.1 HN.out
        refine ⟨0, Nat.zero_le _, rfl, HTF.out.keep HO.out (by simp only [List.mem_singleton]; rintro rfl; exact n1 List.mem_cons_self), fun f hf => ?_, HO.out.mono (by rw [HBL.out]; simp)⟩
        have hf' : f ∈ p.funcs := by simpa using hf
        refine (HS.out f hf').only HO.out fun b hb => ?_
        simp only [List.mem_singleton]
        rintro rfl
        exact n1 (List.mem_cons_of_mem _ (List.mem_flatMap.2 ⟨f, hf', hb⟩))
      case round =>
        obtain ⟨j, hj, rfl, htl, hcp, hon⟩ := hrel
        have c1 := CX.out _ hon
        by_cases hlt : j < p.funcs.length
        · have hli : (j : Int) < (p.funcs.length : Int) := by omega
          obtain ⟨n1, n2, n3, n4⟩ := nd_any (List.nodup_cons.1 HN.out).2 hlt
          have hdr : p.funcs.drop j = p.funcs[j] :: p.funcs.drop (j + 1) := List.drop_eq_getElem_cons hlt
          have hfc : p.funcs[j].Cp wr := hcp p.funcs[j] (by rw [hdr]; exact List.mem_cons_self)
          have HXJ : Hid (p.funcs[j]? = some p.funcs[j]) := List.getElem?_eq_getElem hlt
          have N1 : Hid (gf ∉ p.funcs[j].bl) := n1
          have N3 : Hid (∀ y ∈ p.funcs.drop (j + 1), ∀ b ∈ y.bl, b ∉ p.funcs[j].bl ∧ b ≠ gf) := n3
          have M4 : Hid (∀ b ∈ p.funcs[j].bl, b ∈ p.bl) := fun b hb => by rw [HBL.out]; exact List.mem_cons_of_mem _ (List.mem_cons_of_mem _ (n4 b hb))
          have MGF : Hid (gf ∈ p.bl) := by rw [HBL.out]; exact List.mem_cons_of_mem _ List.mem_cons_self
          have HCP : Hid (∀ y ∈ p.funcs.drop (j + 1), y.Cp wr) := fun y hy => hcp y (by rw [hdr]; exact List.mem_cons_of_mem _ hy)
          have HON : Hid (Only p.bl W1 wr) := hon
          have HTL : Hid (TailF wr gf 36 (p.funcs.flatMap Fu.cells ++ senF) (j * 3)) := htl
          clear n1 n3 n4 hdr hcp hon htl
          generalize p.funcs[j] = f at *
          have CF : Hid (∀ w', Only f.bl wr w' → ∀ (i : Nat) v, f.cells[i]? = some v → w'.cell? ⟨gf, j * 3 + i, none⟩ = some v) := fun w' h i v e => (HTL.out.keep h N1.out).cell (f := Fu.cells) (fun _ => rfl) HXJ.out e
          obtain ⟨f1, f2, f3, f4, f5⟩ := hfc
          unfold Fu.bl at n2
          obtain ⟨m1, m2⟩ := List.nodup_cons.1 n2
          have HQ : Hid (Calls Tryd.prog 31 #[.slice f.ba f.body.length f.bc] wr fun e w' => e = .returned (.tuple #[]) ∧ Only (blk f.ba :: blS f.body) wr w') := spoilS_any _ _ _ wr f4 f5 m2
          have M5 : Hid (∀ b ∈ blk f.ba :: blS f.body, b ∈ f.bl) := fun b hb => by unfold Fu.bl; exact List.mem_cons_of_mem _ hb
          obtain ⟨gp, ep, lp, bp, cp⟩ := f2
          rw [ep] at m1
          have HP : Hid (f.pa = some ⟨gp, 0, none⟩ ∧ f.pc = f.params.length + 1) := ⟨ep, lp⟩
          have MGP : Hid (gp ∈ f.bl) := by unfold Fu.bl; rw [ep]; exact List.mem_cons_self
          have HTP : Hid (∀ w', Only (blk f.ba :: blS f.body) wr w' → TailF w' gp 50 (f.params.flatMap Pa.cells ++ senP) (0 * 3)) := fun w' h => TailF.keep ⟨_, cp, rfl, fun _ _ => rfl⟩ h m1
          rw [lp] at bp
          clear f3 f4 f5 n2 m1 m2 ep lp cp
          have d2 := CF.out wr (Only.refl _ _) 2 _ rfl
          go_wp2_with fail
          refine HQ.out.mono ?_
          rintro e w2 ⟨rfl, o2⟩
          have HT2 := HTP.out w2 o2
          have HT2' : Hid (TailF w2 gp 50 (f.params.flatMap Pa.cells ++ senP) (0 * 3)) := HT2
          have O2 : Hid (Only f.bl wr w2) := o2.mono M5.out
          clear d2 c1 HT2 o2
          go_wp2_with fail
          generalize wr = WR at *
          go_loopw [4] (fun t wq => ∃ (k : Nat), k ≤ f.params.length ∧ t = .int .i64 k ∧ TailF wq gp 50 (f.params.flatMap Pa.cells ++ senP) (k * 3) ∧ Only f.bl WR wq) (fun t _ => f.params.length - (intOf t).toNat)
          case atStart => exact ⟨0, Nat.zero_le _, rfl, HT2'.out, O2.out⟩
          case round =>
            obtain ⟨k, hk, rfl, htl, hon⟩ := hrel
            have c1 := CX.out _ (HON.out.trans (hon.mono M4.out))
            have d1 := CF.out _ hon 1 _ rfl
            rw [HP.out.1, HP.out.2] at d1
            by_cases hklt : k < f.params.length
            · have hkli : (k : Int) < (f.params.length : Int) := by omega
              have e0 := htl.cell (f := Pa.cells) (fun _ => rfl) (List.getElem?_eq_getElem hklt) (i := 0) rfl
              have e1 := htl.cell (f := Pa.cells) (fun _ => rfl) (List.getElem?_eq_getElem hklt) (i := 1) rfl
              have e2 := htl.cell (f := Pa.cells) (fun _ => rfl) (List.getElem?_eq_getElem hklt) (i := 2) rfl
              have q0 := htl.frozen (k * 3)
              have q1 := htl.frozen (k * 3 + 1)
              have q2 := htl.frozen (k * 3 + 2)
              simp only [Nat.add_zero] at e0
              have HT : Hid (TailF wr gp 50 (f.params.flatMap Pa.cells ++ senP) ((k + 1) * 3)) := htl.mono (by omega)
              have HO3 : Hid (Only f.bl WR wr) := hon
              clear htl hon
              go_wp2_with fail
              go_roundw
              case rel => exact ⟨k + 1, by omega, by go_num, ((HT.out.set (by omega) _).set (by omega) _).set (by omega) _, ((HO3.out.set MGP.out _ _).set MGP.out _ _).set MGP.out _ _⟩
              case measure => simp [intOf]; omega
            · obtain rfl : k = f.params.length := by omega
              have ht := HTL.out.keep hon N1.out
              have e0 := CF.out _ hon 0 _ rfl
              have e2 := CF.out _ hon 2 _ rfl
              have q0 := ht.frozen (j * 3)
              have q1 := ht.frozen (j * 3 + 1)
              have q2 := ht.frozen (j * 3 + 2)
              simp only [Nat.add_zero] at e0
              have HT6 : Hid (TailF wr gf 36 (p.funcs.flatMap Fu.cells ++ senF) ((j + 1) * 3)) := ht.mono (by omega)
              have O6 : Hid (Only f.bl WR wr) := hon
              clear ht hon htl
              go_wp2_with fail
              go_roundw
              case rel =>
                refine ⟨j + 1, by omega, by go_num, ((HT6.out.set (by omega) _).set (by omega) _).set (by omega) _, fun z hz => ?_, (((HON.out.trans (O6.out.mono M4.out)).set MGF.out _ _).set MGF.out _ _).set MGF.out _ _⟩
                have hz' := HCP.out z hz
                refine hz'.kept fun b hb => ?_
                have hne := (N3.out z hz b hb).2
                rw [Below.heap_setCell _ _ _ _ hne, Below.heap_setCell _ _ _ _ hne, Below.heap_setCell _ _ _ _ hne]
                exact O6.out.2.2.2.2 b (hz'.lt b hb) (N3.out z hz b hb).1
              case measure => simp [intOf]; omega
        · obtain rfl : j = p.funcs.length := by omega
          clear htl hcp
          go_wp2_with fail
          go_end0
          exact ⟨rfl, HB1.out.trans hon⟩
end Go.Proofs.YtbpemackmadhgabDoor

/- A copy of which a statement has lost its kind, and functions their names. -/
namespace Go.Proofs.YtbpemackmadhgabDoor
open Go.RowKit Go.Sort

theorem pr_nd {q : Pr} (h : q.bl.Nodup) {fn : Nat} {f : Fu} (hf : q.funcs[fn]? = some f) :
    (blk q.wa ∉ blk f.ba :: blS f.body ∧ blk q.fa ∉ blk f.ba :: blS f.body ∧ blk f.pa ∉ blk f.ba :: blS f.body) ∧
    (∀ (j : Nat) y, j ≠ fn → q.funcs[j]? = some y → ∀ b ∈ y.bl, b ∉ blk f.ba :: blS f.body) ∧ (blk f.ba :: blS f.body).Nodup ∧ (∀ b ∈ blk f.ba :: blS f.body, b ∈ q.bl) := by
  have hlt := (List.getElem?_eq_some_iff.1 hf).1
  have he : q.funcs[fn] = f := (List.getElem?_eq_some_iff.1 hf).2
  unfold Pr.bl at h ⊢
  obtain ⟨h1, h2⟩ := List.nodup_cons.1 h
  obtain ⟨m1, m2, m3, m4⟩ := nd_any h2 hlt
  have m5 := nd_take h2 hlt
  rw [he] at m1 m2 m3 m4 m5
  have hs : ∀ b ∈ blk f.ba :: blS f.body, b ∈ f.bl := fun b hb => List.mem_cons_of_mem _ hb
  unfold Fu.bl at m2
  obtain ⟨m6, m7⟩ := List.nodup_cons.1 m2
  refine ⟨⟨fun hb => h1 (List.mem_cons_of_mem _ (m4 _ (hs _ hb))), fun hb => m1 (hs _ hb), m6⟩, fun j y hj hy b hb hb' => ?_, m7, fun b hb => List.mem_cons_of_mem _ (List.mem_cons_of_mem _ (m4 _ (hs _ hb)))⟩
  have hjl := (List.getElem?_eq_some_iff.1 hy).1
  have hje : q.funcs[j] = y := (List.getElem?_eq_some_iff.1 hy).2
  rcases Nat.lt_or_gt_of_ne hj with hj | hj
  · have : y ∈ q.funcs.take fn := List.mem_iff_getElem?.2 ⟨j, by rw [List.getElem?_take, if_pos hj, hy]⟩
    exact (m5 b (List.mem_flatMap.2 ⟨y, this, hb⟩)).1 (hs b hb')
  · have : y ∈ q.funcs.drop (fn + 1) := List.mem_iff_getElem?.2 ⟨j - (fn + 1), by rw [List.getElem?_drop, show fn + 1 + (j - (fn + 1)) = j by omega, hy]⟩
    exact (m3 y this b hb).1 (hs b hb')
theorem flat_set_same {α : Type} {f : α → List Value} : ∀ (l : List α) (j : Nat) (x y : α), l[j]? = some x → f y = f x → (l.set j y).flatMap f = l.flatMap f
  | [], j, x, y, h, _ => by simp at h
  | a :: l, 0, x, y, h, e => by
    obtain rfl : a = x := by simpa using h
    rw [List.set_cons_zero, List.flatMap_cons, List.flatMap_cons, e]
  | a :: l, j + 1, x, y, h, e => by rw [List.set_cons_succ, List.flatMap_cons, List.flatMap_cons, flat_set_same l j x y (by simpa using h) e]
theorem cp_tu {q : Pr} {W W' : World} {nb fn : Nat} {f : Fu} {k : Int} (hq : q.Cp W) (hnd : q.bl.Nodup) (hf : q.funcs[fn]? = some f) (hnb : nb ∉ q.bl) (ho : Only (nb :: blk f.ba :: blS f.body) W W')
    (hr : RowCp W' f.ba f.bc f.body.length 216 53 ((tuL f.body k).flatMap St.cells ++ senS)) (hc : ∀ x ∈ tuL f.body k, x.Cp W') : (withF q (q.funcs.set fn (tuF f k))).Cp W' := by
  obtain ⟨h1, h2, h3, h4⟩ := hq
  obtain ⟨⟨n1, n2, n3⟩, n4, n5, n6⟩ := pr_nd hnd hf
  have out : ∀ b, b ∈ q.bl → b ∉ blk f.ba :: blS f.body → b ∉ nb :: blk f.ba :: blS f.body := fun b hb h hh => by
    rcases List.mem_cons.1 hh with rfl | hh
    · exact hnb hb
    · exact h hh
  have hfm : f ∈ q.funcs := List.mem_of_getElem? hf
  have hbf : ∀ y ∈ q.funcs, ∀ b ∈ y.bl, b ∈ q.bl := fun y hy b hb => List.mem_cons_of_mem _ (List.mem_cons_of_mem _ (List.mem_flatMap.2 ⟨y, hy, hb⟩))
  refine ⟨h1.only ho (out _ (by simp [Pr.bl]) n1), h2, ?_, fun y hy => ?_⟩
  · have := h3.only ho (out _ (by simp [Pr.bl]) n2)
    show RowCp W' q.fa q.fc (q.funcs.set fn (tuF f k)).length 64 _ _
    rw [List.length_set, show (withF q (q.funcs.set fn (tuF f k))).funcs = q.funcs.set fn (tuF f k) from rfl, flat_set_same q.funcs fn f (tuF f k) hf (tuF_cells f k)]
    exact this
  · obtain ⟨j, hj⟩ := List.mem_iff_getElem?.1 hy
    have hj : (q.funcs.set fn (tuF f k))[j]? = some y := hj
    by_cases e : j = fn
    · subst e
      rw [List.getElem?_set_self (List.getElem?_eq_some_iff.1 hf).1] at hj
      cases hj
      obtain ⟨f1, f2, f3, f4, f5⟩ := h4 f hfm
      refine ⟨f1, f2.only ho (out _ (hbf f hfm _ (by simp [Fu.bl])) n3), f3, ?_, hc⟩
      show RowCp W' f.ba f.bc (tuL f.body k).length 216 _ _
      rw [tuL_length]; exact hr
    · rw [List.getElem?_set_ne (Ne.symm e)] at hj
      exact (h4 y (List.mem_of_getElem? hj)).only ho fun b hb => out b (hbf y (List.mem_of_getElem? hj) b hb) (n4 j y e hj b hb)
theorem tuP_first {q : Pr} {fn : Nat} {f : Fu} (hf : q.funcs[fn]? = some f) (k : Int) : TuP q (q.funcs.set fn (tuF f k)) fn f k := by
  refine ⟨by simp, hf, List.getElem?_set_self (List.getElem?_eq_some_iff.1 hf).1, fun j hj => List.getElem?_set_ne (by omega), fun j hj x y hx hy => ?_⟩
  rw [List.getElem?_set_ne (by omega), hy] at hx
  cases hx; rfl
def nmF (x : Fu) (nm : ByteArray) : Fu := { x with name := nm }
theorem TuP.name {q : Pr} {L : List Fu} {fn : Nat} {f : Fu} {k : Int} (h : TuP q L fn f k) {i : Nat} (hi : fn < i) {x : Fu} (hx : L[i]? = some x) (nm : ByteArray) : TuP q (L.set i (nmF x nm)) fn f k := by
  refine ⟨by rw [List.length_set]; exact h.len, h.at_, by rw [List.getElem?_set_ne (by omega)]; exact h.here, fun j hj => by rw [List.getElem?_set_ne (by omega)]; exact h.ahead j hj, fun j hj a b ha hb => ?_⟩
  by_cases e : i = j
  · subst e
    rw [List.getElem?_set_self (List.getElem?_eq_some_iff.1 hx).1] at ha
    cases ha
    exact h.behind i hj x b hx hb
  · rw [List.getElem?_set_ne e] at ha
    exact h.behind j hj a b ha hb
theorem cp_name {q : Pr} {L : List Fu} {W : World} {gf i : Nat} {x : Fu} (hL : (withF q L).Cp W) (hfa : q.fa = some ⟨gf, 0, none⟩) (hi : L[i]? = some x) (hg : ∀ y ∈ L, gf ∉ y.bl) (hw : blk q.wa ≠ gf) (nm : ByteArray) (hnm : nm.size ≤ 140737488351232) :
    (withF q (L.set i (nmF x nm))).Cp (W.setCell ⟨gf, i * 3, none⟩ (.string nm)) ∧ ∀ y ∈ L.set i (nmF x nm), gf ∉ y.bl := by
  obtain ⟨h1, h2, h3, h4⟩ := hL
  have keep : ∀ y ∈ L, y.Cp (W.setCell ⟨gf, i * 3, none⟩ (.string nm)) := fun y hy => (h4 y hy).kept fun b hb => Below.heap_setCell _ _ _ _ (fun e => hg y hy ((show b = gf from e) ▸ hb))
  have hxm : x ∈ L := List.mem_of_getElem? hi
  refine ⟨⟨h1.keep (Below.heap_setCell _ _ _ _ hw), h2, ?_, fun y hy => ?_⟩, fun y hy => ?_⟩
  · obtain ⟨g, e1, e2, e3, e4⟩ := h3
    have e1' : q.fa = some ⟨g, 0, none⟩ := e1
    rw [hfa] at e1'
    obtain rfl : gf = g := by cases e1'; rfl
    refine ⟨gf, hfa, ?_, e3, ?_⟩
    · show q.fc = (L.set i (nmF x nm)).length + 1
      rw [List.length_set]; exact e2
    · have r := row_set e4 (i * 3) (.string nm)
      rw [r]
      have := flat_set (f := Fu.cells) (k := 3) (fun _ => rfl) senF L i x (nmF x nm) 0 (.string nm) hi (by omega) rfl
      rw [Nat.add_zero] at this
      show some (Obj.cells ⟨(L.flatMap Fu.cells ++ senF).set (i * 3) (.string nm)⟩ _ _) = some (Obj.cells ⟨(L.set i (nmF x nm)).flatMap Fu.cells ++ senF⟩ _ _)
      rw [this]
  · rcases List.mem_or_eq_of_mem_set hy with hy | rfl
    · exact keep y hy
    · obtain ⟨f1, f2, f3, f4, f5⟩ := keep x hxm
      exact ⟨hnm, f2, f3, f4, f5⟩
  · rcases List.mem_or_eq_of_mem_set hy with hy | rfl
    · exact hg y hy
    · exact hg x hxm
end Go.Proofs.YtbpemackmadhgabDoor

/- The document's own answer whether two lists of cases, of statements are the same: cases; and where two statements are looked at. -/
namespace Go.Proofs.YtbpemackmadhgabDoor
open Go.RowKit Go.Sort

set_option maxRecDepth 100000 in
set_option maxHeartbeats 8000000 in
theorem rsamC_step (n : Nat) (ih : ∀ (l t : List St) (a a' : Option Addr) (c c' : Nat) (w : World), ssz l < n → Have w a c l → Have w a' c' t →
      Calls Tryd.prog 29 #[.slice a l.length c, .slice a' t.length c'] w fun e w' => e = .returned (.bool (samSs l t)) ∧ Below w.heap.size w w')
    (l t : List Ca) (a a' : Option Addr) (c c' : Nat) (w : World) (hk : csz l ≤ n) (hin : HaveC w a c l) (hin' : HaveC w a' c' t) :
    Calls Tryd.prog 50 #[.slice a l.length c, .slice a' t.length c'] w fun e w' => e = .returned (.bool (samCs l t)) ∧ Below w.heap.size w w' := by
  have IH : Hid (∀ (l t : List St) (a a' : Option Addr) (c c' : Nat) (w : World), ssz l < n → Have w a c l → Have w a' c' t →
      Calls Tryd.prog 29 #[.slice a l.length c, .slice a' t.length c'] w fun e w' => e = .returned (.bool (samSs l t)) ∧ Below w.heap.size w w') := ih
  have HA : Hid (HaveC w a c l) := hin
  have HB : Hid (HaveC w a' c' t) := hin'
  have hl := hin.1.1
  have hc := hin.1.2.1
  have hl' := hin'.1.1
  have hc' := hin'.1.2.1
  have HK : Hid (csz l ≤ n) := hk
  clear ih hin hin' hk
  by_cases hle : l.length = t.length
  · have HL : Hid (l.length = t.length) := hle
    rw [← hle] at hl' ⊢
    clear hle
    go_enter Tryd.func50, Tryd.ntmps50
    go_wp2_with fail
    go_loopw [5] (fun t5 wr => ∃ (j : Nat), j ≤ l.length ∧ t5 = .int .i64 j ∧ samCs (l.drop j) (t.drop j) = samCs l t ∧ Below w.heap.size w wr) (fun t5 _ => l.length - (intOf t5).toNat)
    case atStart => exact ⟨0, Nat.zero_le _, rfl, rfl, Below.refl _ w⟩
    case round =>
      obtain ⟨j, hj, rfl, hcnt, hb⟩ := hrel
      have HC : Hid (samCs (l.drop j) (t.drop j) = samCs l t) := hcnt
      clear hcnt
      have hws := hb.size
      by_cases hlt : j < l.length
      · have hlt' : j < t.length := by have := HL.out; omega
        obtain ⟨b, o, rfl, hc1⟩ := rowC_cells (HA.out.1.2.2.2.below hb) hlt
        obtain ⟨b', o', rfl, hc2⟩ := rowC_cells (HB.out.1.2.2.2.below hb) hlt'
        have k0 := hc1 0 _ rfl
        have m0 := hc2 0 _ rfl
        have k1 := hc1 1 _ rfl
        have m1 := hc2 1 _ rfl
        simp only [← Nat.add_assoc, Nat.add_zero] at k0 m0 k1 m1
        clear hc1 hc2
        have hli : (j : Int) < (l.length : Int) := by omega
        have HQ : Hid (∀ w', Below wr.heap.size wr w' → Calls Tryd.prog 29 #[.slice l[j].ba l[j].body.length l[j].bc, .slice t[j].ba t[j].body.length t[j].bc] w' fun e w'' => e = .returned (.bool (samSs l[j].body t[j].body)) ∧ Below w'.heap.size w' w'') := fun w' h => by
          have hbw : Below w.heap.size w w' := hb.trans (h.mono hws)
          have h1 := csz_mem (List.getElem_mem hlt)
          have h2 := (l[j]).sz_eq
          have h3 := HK.out
          exact IH.out _ _ _ _ _ _ w' (by omega) (Ca.in_iff.1 ((HA.out.2 l[j] (List.getElem_mem hlt)).stay hbw)).2 (Ca.in_iff.1 ((HB.out.2 t[j] (List.getElem_mem hlt')).stay hbw)).2
        have HD : Hid (samCs (l.drop j) (t.drop j) = ((l[j].n == t[j].n && samSs l[j].body t[j].body) && samCs (l.drop (j + 1)) (t.drop (j + 1)))) := by
          show _ = _; rw [samCs_drop hlt hlt', samC_eq]
        generalize l[j] = x at *
        generalize t[j] = y at *
        generalize samSs x.body y.body = sub at *
        have c0 := cell_regrown k0
        have d0 := cell_regrown m0
        have c1 := cell_regrown k1
        have d1 := cell_regrown m1
        clear k0 k1 m0 m1 hlt'
        have hu : undef = Value.tuple #[] := rfl
        cases e1 : (x.n == y.n)
        · have e1' : (x.n != y.n) = true := by simp [bne, e1]
          rw [e1] at HD
          go_wp2_with fail
          refine wp_region_quiet_below (by kernel_rfl) (by kernel_rfl) ?_
          repeat (go_big_quiet_step (fail))
          refine wpQuiet_nil ?_
          intro _ hw'
          obtain ⟨⟨dq, osq⟩, hw''⟩ := hw'
          subst hw''
          have hbq := below_regrown wr dq osq
          clear c0 c1 d0 d1
          go_wp2_with fail
          go_ret
          exact ⟨ret_bool (by rw [← HC.out, HD.out]; rfl), hb.trans (hbq.mono hws)⟩
        · have e1' : (x.n != y.n) = false := by simp [bne, e1]
          rw [e1] at HD
          go_wp2_with fail
          refine wp_region_quiet_below (by kernel_rfl) (by kernel_rfl) ?_
          repeat (go_big_quiet_step ((go_at_call 29; exact Calls.regrown_of (HQ.out _ (below_regrown _ _ _)))))
          refine wpQuiet_nil ?_
          intro _ hw'
          obtain ⟨⟨dq, osq⟩, hw''⟩ := hw'
          subst hw''
          have hbq := below_regrown wr dq osq
          clear c0 c1 d0 d1
          generalize grow (redrawn wr dq) osq = W3 at *
          cases sub
          · go_wp2_with fail
            go_ret
            exact ⟨ret_bool (by rw [← HC.out, HD.out]; rfl), hb.trans (hbq.mono hws)⟩
          · go_wp2_with fail
            go_roundw
            case rel => exact ⟨j + 1, by omega, by go_num, by rw [← HC.out, HD.out]; rfl, hb.trans (hbq.mono hws)⟩
            case measure => simp [intOf]; omega
      · go_wp2_with fail
        go_ret
        refine ⟨ret_bool ?_, hb⟩
        rw [← HC.out, List.drop_eq_nil_of_le (by omega), List.drop_eq_nil_of_le (by have := HL.out; omega)]; simp [samCs]
  · have hne : ((l.length : Int) != (t.length : Int)) = true := by simp only [bne_iff_ne]; omega
    go_enter Tryd.func50, Tryd.ntmps50
    go_wp2_with fail
    go_ret
    exact ⟨ret_bool (by rw [samCs_len hle]), Below.refl _ w⟩
end Go.Proofs.YtbpemackmadhgabDoor

/- The document's own answer whether two programs are the same. -/
namespace Go.Proofs.YtbpemackmadhgabDoor
open Go.RowKit Go.Sort
attribute [local go_sem ↓] Go.wp_at_zero Go.wp_at_succ

theorem rsamS_k (n : Nat) : ∀ (l t : List St) (a a' : Option Addr) (c c' : Nat) (w : World), ssz l < n → Have w a c l → Have w a' c' t →
    Calls Tryd.prog 29 #[.slice a l.length c, .slice a' t.length c'] w fun e w' => e = .returned (.bool (samSs l t)) ∧ Below w.heap.size w w' := by
  induction n with
  | zero => intro l t a a' c c' w h; omega
  | succ n ih => exact fun l t a a' c c' w h h1 h2 => rsamS_step n ih (fun l t a a' c c' w h h1 h2 => rsamC_step n ih l t a a' c c' w h h1 h2) l t a a' c c' w (by omega) h1 h2
theorem rsamS_any (l t : List St) (a a' : Option Addr) (c c' : Nat) (w : World) (h1 : Have w a c l) (h2 : Have w a' c' t) :
    Calls Tryd.prog 29 #[.slice a l.length c, .slice a' t.length c'] w fun e w' => e = .returned (.bool (samSs l t)) ∧ Below w.heap.size w w' := rsamS_k (ssz l + 1) l t a a' c c' w (by omega) h1 h2

set_option maxRecDepth 100000 in
set_option maxHeartbeats 8000000 in
theorem rsame_any (p q : Pr) (w : World) (hx : p.In w) (hy : q.In w) : Calls Tryd.prog 14 #[p.val, q.val] w fun e w' => e = .returned (.bool (samPr p q)) ∧ Below w.heap.size w w' := by
  have XP : Hid (∀ w', Below w.heap.size w w' → p.In w') := fun w' h => hx.stay h
  have XQ : Hid (∀ w', Below w.heap.size w w' → q.In w') := fun w' h => hy.stay h
  have q1 := hx.thr.1
  have q2 := hx.thr.2.1
  have q3 := hx.haveF.1.1
  have q4 := hx.haveF.1.2.1
  have q5 := hy.thr.1
  have q6 := hy.thr.2.1
  have q7 := hy.haveF.1.1
  have q8 := hy.haveF.1.2.1
  have HE : Hid (samPr p q = (samI p.widen q.widen && samFs p.funcs q.funcs)) := (rfl : samPr p q = _)
  clear hx hy
  generalize samPr p q = res at HE ⊢
  unfold Pr.val
  have hb1 : Below w.heap.size w ((w.alloc (.cells #[.slice p.wa p.widen.length p.wc, .slice p.fa p.funcs.length p.fc] 25)).alloc (.cells #[.slice q.wa q.widen.length q.wc, .slice q.fa q.funcs.length q.fc] 25)) := Below.one (Below.one (Below.refl _ _) _) _
  by_cases hle : p.widen.length = q.widen.length
  · by_cases hlf : p.funcs.length = q.funcs.length
    · have HL : Hid (p.widen.length = q.widen.length) := hle
      have HF : Hid (p.funcs.length = q.funcs.length) := hlf
      rw [← hle] at q5 hb1 ⊢
      rw [← hlf] at q7 hb1 ⊢
      clear hle hlf
      obtain ⟨W1, hW1⟩ : ∃ W1, (w.alloc (.cells #[.slice p.wa p.widen.length p.wc, .slice p.fa p.funcs.length p.fc] 25)).alloc (.cells #[.slice q.wa p.widen.length q.wc, .slice q.fa p.funcs.length q.fc] 25) = W1 := ⟨_, rfl⟩
      have HC2 := fun w' (h : Below ((w.alloc (.cells #[.slice p.wa p.widen.length p.wc, .slice p.fa p.funcs.length p.fc] 25)).alloc (.cells #[.slice q.wa p.widen.length q.wc, .slice q.fa p.funcs.length q.fc] 25)).heap.size ((w.alloc (.cells #[.slice p.wa p.widen.length p.wc, .slice p.fa p.funcs.length p.fc] 25)).alloc (.cells #[.slice q.wa p.widen.length q.wc, .slice q.fa p.funcs.length q.fc] 25)) w') => two_cells h
      have HW1 := show Hid _ from hW1
      rw [hW1] at hb1 HC2
      clear hW1
      obtain ⟨Z, hZ⟩ : ∃ Z, w.heap.size = Z := ⟨_, rfl⟩
      have P0 : Hid (∀ w', Below W1.heap.size W1 w' → w'.cell? ⟨Z, 0, none⟩ = some (.slice p.wa p.widen.length p.wc)) := fun w' h => hZ ▸ (HC2 w' h).1 0 _ rfl
      have P1 : Hid (∀ w', Below W1.heap.size W1 w' → w'.cell? ⟨Z, 1, none⟩ = some (.slice p.fa p.funcs.length p.fc)) := fun w' h => hZ ▸ (HC2 w' h).1 1 _ rfl
      have Q0 : Hid (∀ w', Below W1.heap.size W1 w' → w'.cell? ⟨Z + 1, 0, none⟩ = some (.slice q.wa p.widen.length q.wc)) := fun w' h => hZ ▸ (HC2 w' h).2.1 0 _ rfl
      have Q1 : Hid (∀ w', Below W1.heap.size W1 w' → w'.cell? ⟨Z + 1, 1, none⟩ = some (.slice q.fa p.funcs.length q.fc)) := fun w' h => hZ ▸ (HC2 w' h).2.1 1 _ rfl
      have HZ := show Hid _ from hZ
      clear HC2 hZ
      go_enter Tryd.func14, Tryd.ntmps14
      go_wp2_with fail
      rw [HW1.out, HZ.out]
      clear HW1
      go_loopw [5] (fun t5 wr => ∃ (j : Nat), j ≤ p.widen.length ∧ t5 = .int .i64 j ∧ samI (p.widen.drop j) (q.widen.drop j) = samI p.widen q.widen ∧ Below W1.heap.size W1 wr) (fun t5 _ => p.widen.length - (intOf t5).toNat)
      case atStart => exact ⟨0, Nat.zero_le _, rfl, rfl, Below.refl _ _⟩
      case round =>
        obtain ⟨j, hj, rfl, hcnt, hb⟩ := hrel
        have HC : Hid (samI (p.widen.drop j) (q.widen.drop j) = samI p.widen q.widen) := hcnt
        clear hcnt
        have hbw : Below w.heap.size w wr := Below.on hb1 hb
        have p0 := P0.out _ hb
        have q0 := Q0.out _ hb
        by_cases hlt : j < p.widen.length
        · have hlt' : j < q.widen.length := by have := HL.out; omega
          obtain ⟨b, o, ea, c0⟩ := rowW_at (XP.out _ hbw).thr.2.2 hlt
          obtain ⟨b', o', ea', d0⟩ := rowW_at (XQ.out _ hbw).thr.2.2 hlt'
          rw [ea] at p0
          rw [ea'] at q0
          clear ea ea'
          have hli : (j : Int) < (p.widen.length : Int) := by omega
          have HD : Hid (samI (p.widen.drop j) (q.widen.drop j) = (p.widen[j] == q.widen[j] && samI (p.widen.drop (j + 1)) (q.widen.drop (j + 1)))) := samI_drop hlt hlt'
          generalize p.widen[j] = x at *
          generalize q.widen[j] = y at *
          clear hlt'
          go_wp2_with fail
          go_quiet (fail)
          cases ev : (x == y)
          · have ev' : (x != y) = true := by simp [bne, ev]
            rw [ev] at HD
            go_wp2_with fail
            go_ret
            exact ⟨ret_bool (by rw [HE.out, ← HC.out, HD.out]; rfl), hbw.drewN _⟩
          · have ev' : (x != y) = false := by simp [bne, ev]
            rw [ev] at HD
            clear p0 q0 c0 d0
            go_wp2_with fail
            go_roundw
            case rel => exact ⟨j + 1, by omega, by go_num, by rw [← HC.out, HD.out]; rfl, hb.drewN _⟩
            case measure => simp [intOf]; omega
        · have HI : Hid (samI p.widen q.widen = true) := by
            show _ = _
            rw [← HC.out, List.drop_eq_nil_of_le (by omega), List.drop_eq_nil_of_le (by have := HL.out; omega)]; rfl
          clear HC
          obtain rfl : j = p.widen.length := by omega
          clear q0 hj hlt
          go_wp2_with fail
          clear p0
          go_loopw [6] (fun t6 wr => ∃ (i : Nat), i ≤ p.funcs.length ∧ t6 = .int .i64 i ∧ samFs (p.funcs.drop i) (q.funcs.drop i) = samFs p.funcs q.funcs ∧ Below W1.heap.size W1 wr) (fun t6 _ => p.funcs.length - (intOf t6).toNat)
          case atStart => exact ⟨0, Nat.zero_le _, rfl, rfl, hb⟩
          case round =>
            clear hb hbw
            obtain ⟨i, hi, rfl, hcnt, hb⟩ := hrel
            have HC : Hid (samFs (p.funcs.drop i) (q.funcs.drop i) = samFs p.funcs q.funcs) := hcnt
            clear hcnt
            have hbw : Below w.heap.size w wr := Below.on hb1 hb
            have p1 := P1.out _ hb
            by_cases hlt : i < p.funcs.length
            · have hlt' : i < q.funcs.length := by have := HF.out; omega
              obtain ⟨b, o, ea, hc1⟩ := rowF_cells (XP.out _ hbw).haveF.1.2.2 hlt
              obtain ⟨b', o', ea', hc2⟩ := rowF_cells (XQ.out _ hbw).haveF.1.2.2 hlt'
              have hli : (i : Int) < (p.funcs.length : Int) := by omega
              have hli0 : (0 : Int) ≤ (i : Int) := by omega
              have XI : Hid (∀ w', Below w.heap.size w w' → p.funcs[i].In w') := fun w' h => (XP.out w' h).haveF.2 p.funcs[i] (List.getElem_mem hlt)
              have YI : Hid (∀ w', Below w.heap.size w w' → q.funcs[i].In w') := fun w' h => (XQ.out w' h).haveF.2 q.funcs[i] (List.getElem_mem hlt')
              have HD : Hid (samFs (p.funcs.drop i) (q.funcs.drop i) = ((p.funcs[i].name.toList == q.funcs[i].name.toList && (samPs p.funcs[i].params q.funcs[i].params && samSs p.funcs[i].body q.funcs[i].body)) && samFs (p.funcs.drop (i + 1)) (q.funcs.drop (i + 1)))) := samFs_drop hlt hlt'
              generalize p.funcs[i] = x at *
              generalize q.funcs[i] = y at *
              clear hlt'
              go_upto_region 11 with fail
              go_cut [7, 8] from 44 to 100 (fun t7 t8 wx => ∃ bx bz, t7 = .pointer (some ⟨bx, 0, none⟩) ∧ t8 = .pointer (some ⟨bz, 0, none⟩) ∧ (∀ (k : Nat) v, x.cells[k]? = some v → wx.cell? ⟨bx, k, none⟩ = some v) ∧ (∀ (k : Nat) v, y.cells[k]? = some v → wx.cell? ⟨bz, k, none⟩ = some v) ∧ Below wr.heap.size wr wx)
              case first =>
                have c0 : ∀ w', Below wr.heap.size wr w' → w'.cell? ⟨b, o + i * 3, none⟩ = some (.string x.name) := seen (by have := hc1 0 _ rfl; simpa only [← Nat.add_assoc, Nat.add_zero] using this)
                have c1 : ∀ w', Below wr.heap.size wr w' → w'.cell? ⟨b, o + i * 3 + 1, none⟩ = some (.slice x.pa x.params.length x.pc) := seen (by have := hc1 1 _ rfl; simpa only [← Nat.add_assoc, Nat.add_zero] using this)
                have c2 : ∀ w', Below wr.heap.size wr w' → w'.cell? ⟨b, o + i * 3 + 2, none⟩ = some (.slice x.ba x.body.length x.bc) := seen (by have := hc1 2 _ rfl; simpa only [← Nat.add_assoc, Nat.add_zero] using this)
                have d0 : ∀ w', Below wr.heap.size wr w' → w'.cell? ⟨b', o' + i * 3, none⟩ = some (.string y.name) := seen (by have := hc2 0 _ rfl; simpa only [← Nat.add_assoc, Nat.add_zero] using this)
                have d1 : ∀ w', Below wr.heap.size wr w' → w'.cell? ⟨b', o' + i * 3 + 1, none⟩ = some (.slice y.pa y.params.length y.pc) := seen (by have := hc2 1 _ rfl; simpa only [← Nat.add_assoc, Nat.add_zero] using this)
                have d2 : ∀ w', Below wr.heap.size wr w' → w'.cell? ⟨b', o' + i * 3 + 2, none⟩ = some (.slice y.ba y.body.length y.bc) := seen (by have := hc2 2 _ rfl; simpa only [← Nat.add_assoc, Nat.add_zero] using this)
                have P1' : ∀ w', Below wr.heap.size wr w' → w'.cell? ⟨Z, 1, none⟩ = some (.slice (some ⟨b, o, none⟩) p.funcs.length p.fc) := fun w' h => ea ▸ P1.out w' (Below.on hb h)
                have Q1' : ∀ w', Below wr.heap.size wr w' → w'.cell? ⟨Z + 1, 1, none⟩ = some (.slice (some ⟨b', o', none⟩) p.funcs.length q.fc) := fun w' h => ea' ▸ Q1.out w' (Below.on hb h)
                clear hc1 hc2 ea ea' p1
                go_region_held3 (fun w' => Below wr.heap.size wr w') (first | exact Below.drew (Below.refl _ _) | exact Below.drew (Below.one (Below.refl _ _) _) | exact Below.drew (Below.one (Below.one (Below.refl _ _) _) _) | exact Below.on (by assumption) (by assumption) | exact Below.one (by assumption) _) (fail)
                all_goals (go_wp2_with fail; go_meet)
                case rel =>
                  obtain ⟨p1, p2, _⟩ := two_cells (w := wr) (Below.drew (Below.refl _ ((wr.alloc (.cells (⟨x.cells⟩ : Array Value) 36)).alloc (.cells (⟨y.cells⟩ : Array Value) 36))))
                  exact ⟨_, _, rfl, rfl, fun i v h => p1 i v (by simpa using h), fun i v h => p2 i v (by simpa using h), Below.drew (Below.one (Below.one (Below.refl _ _) _) _)⟩
                case rel =>
                  obtain ⟨p1, p2, _⟩ := two_cells (w := wr) (Below.drew (Below.refl _ ((wr.alloc (.cells (⟨y.cells⟩ : Array Value) 36)).alloc (.cells (⟨x.cells⟩ : Array Value) 36))))
                  exact ⟨_, _, rfl, rfl, fun i v h => p2 i v (by simpa using h), fun i v h => p1 i v (by simpa using h), Below.drew (Below.one (Below.one (Below.refl _ _) _) _)⟩
              case rest =>
                obtain ⟨bx, bz, rfl, rfl, hx, hy, hbx⟩ := hcut
                have hbw2 : Below w.heap.size w wc := Below.on hbw hbx
                have CX : Hid (∀ w', Below wc.heap.size wc w' → ∀ (k : Nat) v, x.cells[k]? = some v → w'.cell? ⟨bx, k, none⟩ = some v) := fun w' h k v e => seen (hx k v e) w' h
                have CY : Hid (∀ w', Below wc.heap.size wc w' → ∀ (k : Nat) v, y.cells[k]? = some v → w'.cell? ⟨bz, k, none⟩ = some v) := fun w' h k v e => seen (hy k v e) w' h
                have BW : Hid (Below w.heap.size w wc) := hbw2
                have BV : Hid (Below W1.heap.size W1 wc) := Below.on hb hbx
                clear hx hy hc1 hc2 hb hbx hbw hbw2 ea ea' p1
                obtain ⟨r1, r2, r3, r4, _⟩ := (XI.out _ BW.out).2
                obtain ⟨s1, s2, s3, s4, _⟩ := (YI.out _ BW.out).2
                clear r3 r4 s3 s4
                have c0 := CX.out wc (Below.refl _ _) 0 _ rfl
                have d0 := CY.out wc (Below.refl _ _) 0 _ rfl
                have c1 := CX.out wc (Below.refl _ _) 1 _ rfl
                have d1 := CY.out wc (Below.refl _ _) 1 _ rfl
                have c2 := CX.out wc (Below.refl _ _) 2 _ rfl
                have d2 := CY.out wc (Below.refl _ _) 2 _ rfl
                cases e1 : (x.name.toList == y.name.toList)
                · have e1' : (x.name.toList != y.name.toList) = true := by simp [bne, e1]
                  rw [e1] at HD
                  go_wp2_with fail
                  go_ret
                  exact ⟨ret_bool (by rw [HE.out, HI.out, ← HC.out, HD.out]; rfl), BW.out⟩
                · have e1' : (x.name.toList != y.name.toList) = false := by simp [bne, e1]
                  rw [e1] at HD
                  by_cases hlp : x.params.length = y.params.length
                  · have HP : Hid (x.params.length = y.params.length) := hlp
                    rw [← hlp] at s1 d1
                    clear hlp
                    have HB1 : Hid (∀ w', Below wc.heap.size wc w' → Calls Tryd.prog 29 #[.slice x.ba x.body.length x.bc, .slice y.ba y.body.length y.bc] w' fun e w'' => e = .returned (.bool (samSs x.body y.body)) ∧ Below w'.heap.size w' w'') := fun w' h => rsamS_any _ _ _ _ _ _ w' (XI.out _ (Below.on BW.out h)).2.2.2.2.2.2 (YI.out _ (Below.on BW.out h)).2.2.2.2.2.2
                    generalize samSs x.body y.body = q1 at HB1 HD
                    go_wp2_with fail
                    refine (HB1.out _ (Below.refl _ _)).mono ?_
                    rintro e w2 ⟨rfl, hb2⟩
                    clear c0 c1 c2 d0 d1 d2
                    cases q1
                    · go_wp2_with fail
                      go_ret
                      exact ⟨ret_bool (by rw [HE.out, HI.out, ← HC.out, HD.out]; simp), Below.on BW.out hb2⟩
                    · go_wp2_with fail
                      go_loopw [9] (fun t9 wr => ∃ (k : Nat), k ≤ x.params.length ∧ t9 = .int .i64 k ∧ samPs (x.params.drop k) (y.params.drop k) = samPs x.params y.params ∧ Below wc.heap.size wc wr) (fun t9 _ => x.params.length - (intOf t9).toNat)
                      case atStart => exact ⟨0, Nat.zero_le _, rfl, rfl, hb2⟩
                      case round =>
                        clear hb2
                        obtain ⟨k, hk, rfl, hcnt, hb⟩ := hrel
                        have HCP : Hid (samPs (x.params.drop k) (y.params.drop k) = samPs x.params y.params) := hcnt
                        clear hcnt
                        have c1 := CX.out wr hb 1 _ rfl
                        by_cases hklt : k < x.params.length
                        · have hklt' : k < y.params.length := by have := HP.out; omega
                          have d1 := CY.out wr hb 1 _ rfl
                          rw [← HP.out] at d1
                          obtain ⟨b, o, ea, k0, k1, k2⟩ := rowP_at (XI.out _ (Below.on BW.out hb)).2.2.2.2.1 hklt
                          obtain ⟨b', o', ea', m0, m1, m2⟩ := rowP_at (YI.out _ (Below.on BW.out hb)).2.2.2.2.1 hklt'
                          rw [ea] at c1
                          rw [ea'] at d1
                          clear ea ea'
                          have hkli : (k : Int) < (x.params.length : Int) := by omega
                          have HD2 : Hid (samPs (x.params.drop k) (y.params.drop k) = (samP x.params[k] y.params[k] && samPs (x.params.drop (k + 1)) (y.params.drop (k + 1)))) := samPs_drop hklt hklt'
                          generalize x.params[k] = u at *
                          generalize y.params[k] = v at *
                          clear hklt'
                          have hq := fun w => equalIn_pa u v w
                          have hg : ∀ (w : World) (op : BinOp) (a b : Operand) (xs ys : Array Value), (eqGuard op 50 a b (.agg xs) (.agg ys)).run Tryd.prog w = .ok () w := fun w op a b xs ys => run_eqGuard_agg w op 50 a b xs ys (by kernel_rfl)
                          go_wp2_with fail
                          go_quiet (fail)
                          clear hq hg c1 d1 k0 k1 k2 m0 m1 m2
                          cases ev : samP u v
                          · rw [ev] at HD2
                            go_wp2_with fail
                            go_ret
                            exact ⟨ret_bool (by rw [HE.out, HI.out, ← HC.out, HD.out, ← HCP.out, HD2.out]; simp), (Below.on BW.out hb).drewN _⟩
                          · rw [ev] at HD2
                            go_wp2_with fail
                            go_roundw
                            case rel => exact ⟨k + 1, by omega, by go_num, by rw [← HCP.out, HD2.out]; rfl, hb.drewN _⟩
                            case measure => simp [intOf]; omega
                        · obtain rfl : k = x.params.length := by omega
                          have HT : Hid (samPs x.params y.params = true) := by
                            show _ = _
                            rw [← HCP.out, List.drop_eq_nil_of_le (Nat.le_refl _), List.drop_eq_nil_of_le (by have := HP.out; omega)]; rfl
                          clear HCP
                          go_wp2_with fail
                          go_roundw
                          case rel => exact ⟨i + 1, by omega, by go_num, by rw [← HC.out, HD.out, HT.out]; rfl, Below.on BV.out hb⟩
                          case measure => simp [intOf]; omega
                  · have hne : ((x.params.length : Int) != (y.params.length : Int)) = true := by simp only [bne_iff_ne]; omega
                    have HF2 : Hid (res = false) := by show _ = _; rw [HE.out, HI.out, ← HC.out, HD.out, samPs_len hlp]; simp
                    go_wp2_with fail
                    go_ret
                    exact ⟨ret_bool HF2.out.symm, BW.out⟩
            · obtain rfl : i = p.funcs.length := by omega
              go_wp2_with fail
              go_ret
              refine ⟨ret_bool ?_, hbw⟩
              rw [HE.out, HI.out, ← HC.out, List.drop_eq_nil_of_le (Nat.le_refl _), List.drop_eq_nil_of_le (by have := HF.out; omega)]; rfl
    · have hne : ((p.funcs.length : Int) != (q.funcs.length : Int)) = true := by simp only [bne_iff_ne]; omega
      have hnw : ((p.widen.length : Int) != (q.widen.length : Int)) = false := by simp [hle]
      have HF : Hid (res = false) := by show _ = _; rw [HE.out, samFs_len hlf]; simp
      clear hle
      go_enter Tryd.func14, Tryd.ntmps14
      go_wp2_with fail
      go_ret
      exact ⟨ret_bool HF.out.symm, hb1⟩
  · have hne : ((p.widen.length : Int) != (q.widen.length : Int)) = true := by simp only [bne_iff_ne]; omega
    go_enter Tryd.func14, Tryd.ntmps14
    go_wp2_with fail
    go_ret
    exact ⟨ret_bool (by rw [HE.out, samI_len hle]; rfl), hb1⟩
end Go.Proofs.YtbpemackmadhgabDoor

/- The statement that what is handed in stays, at a program that lies in memory. -/
namespace Go.Proofs.YtbpemackmadhgabDoor
open Go.RowKit Go.Sort
attribute [local go_sem ↓] Go.wp_at_zero Go.wp_at_succ

theorem Pr.Cp.stay {W W' : World} {p : Pr} (h : p.Cp W) (hb : Below W.heap.size W W') : p.Cp W' := by
  obtain ⟨h1, h2, h3, h4⟩ := h
  exact ⟨h1.stay hb, h2, h3.stay hb, fun f hf => (h4 f hf).stay hb⟩
/-- A new block reads as it was laid. -/
theorem new_at {w w' : World} {cs : Array Value} {t : TypeId} (hb : Below (w.alloc (.cells cs t)).heap.size (w.alloc (.cells cs t)) w') {j : Nat} {v : Value} (h : cs[j]? = some v) : w'.cell? ⟨w.heap.size, j, none⟩ = some v := by
  rw [hb.cell (p := ⟨w.heap.size, j, none⟩) (by simp), World.cell?_alloc_at _ _ _ _ rfl]; exact h

/-- What is asked of the copy q of p. -/
structure AskQ (q p : Pr) (w' : World) : Prop where
  chk : Calls Tryd.prog 7 #[.agg #[.slice q.wa q.widen.length q.wc, .slice q.fa q.funcs.length q.fc]] w' fun e w'' => e = .returned (fltV (checkZ p).1 (checkZ p).2.1 (checkZ p).2.2) ∧ Below w'.heap.size w' w''
  prn : Calls Tryd.prog 11 #[.agg #[.slice q.wa q.widen.length q.wc, .slice q.fa q.funcs.length q.fc]] w' fun e w'' => e = .returned (.tuple #[sB (prT p), fltV (prF p).1 (prF p).2.1 (prF p).2.2]) ∧ Below w'.heap.size w' w''
  nod : Calls Tryd.prog 13 #[.agg #[.slice q.wa q.widen.length q.wc, .slice q.fa q.funcs.length q.fc]] w' fun e w'' => e = .returned (.int .i64 (nodesZ p)) ∧ Below w'.heap.size w' w''
  sam : Calls Tryd.prog 10 #[.agg #[.slice q.wa q.widen.length q.wc, .slice q.fa q.funcs.length q.fc], .agg #[.slice p.wa p.widen.length p.wc, .slice p.fa p.funcs.length p.fc]] w' fun e w'' => e = .returned (.bool true) ∧ Below w'.heap.size w' w''
  rsm : Calls Tryd.prog 14 #[.agg #[.slice q.wa q.widen.length q.wc, .slice q.fa q.funcs.length q.fc], .agg #[.slice p.wa p.widen.length p.wc, .slice p.fa p.funcs.length p.fc]] w' fun e w'' => e = .returned (.bool true) ∧ Below w'.heap.size w' w''
  room : Calls Tryd.prog 15 #[.agg #[.slice q.wa q.widen.length q.wc, .slice q.fa q.funcs.length q.fc]] w' fun e w'' => e = .returned (.bool true) ∧ Below w'.heap.size w' w''
  spl : Calls Tryd.prog 16 #[.agg #[.slice q.wa q.widen.length q.wc, .slice q.fa q.funcs.length q.fc]] w' fun e w'' => e = .returned (.tuple #[]) ∧ Only q.bl w' w''
theorem askQ {q p : Pr} {w' : World} (hq : q.Cp w') (hp : p.In w') (her : q.er = p.er) (hnd : q.bl.Nodup) (ht : Tabs w') (hnt : NumT w') : AskQ q p w' := by
  obtain ⟨e1, e2, e3, e4⟩ := er_same her
  have es := samPr_er her
  refine ⟨?_, ?_, ?_, ?_, ?_, room_any q w' hq, spoil_any q w' hq hnd⟩
  · have := check_any q w' hq.in ht; rw [e1] at this; exact this
  · have := print_any q w' hq.in ht hnt; rw [e3, e4] at this; exact this
  · have := nodes_any q w' hq.in; rw [e2] at this; exact this
  · have := same_any q p w' hq.in hp; rw [es] at this; exact this
  · have := rsame_any q p w' hq.in hp; rw [es] at this; exact this

set_option maxRecDepth 100000 in
set_option maxHeartbeats 8000000 in
theorem treeKeeps_any (p : Pr) (w : World) (hp : p.In w) (ht : Tabs w) (hnt : NumT w) : Calls Tryd.prog 4 #[p.val] w fun e w' => e = .returned (.bool true) ∧ Below w.heap.size w w' := by
  have HA : Hid (∀ w', Below w.heap.size w w' → Calls Tryd.prog 6 #[] w' fun e w'' => e = .returned (.bool true) ∧ Below w'.heap.size w' w'') := fun w' h => awake_any w' (ht.stay h) (hnt.stay h)
  have HB1 : Hid (∀ w', Below w.heap.size w w' → Calls Tryd.prog 12 #[p.val] w' fun e w'' => e = .returned (.bool (bigZ p)) ∧ Below w'.heap.size w' w'') := fun w' h => big_any p w' (hp.stay h)
  have HCP : Hid (bigZ p = false → ∀ w', Below w.heap.size w w' → Calls Tryd.prog 8 #[p.val] w' fun e w'' => (∃ q : Pr, e = .returned q.val ∧ q.Cp w'' ∧ q.er = p.er ∧ q.bl.Nodup ∧ (∀ b ∈ q.bl, w'.heap.size ≤ b ∧ b < w''.heap.size)) ∧ Below w'.heap.size w' w'') := fun hb w' h => copy_any p w' (hp.stay h) (few_of_big hb)
  have HPC : Hid (∀ w', Below w.heap.size w w' → Calls Tryd.prog 7 #[p.val] w' fun e w'' => e = .returned (fltV (checkZ p).1 (checkZ p).2.1 (checkZ p).2.2) ∧ Below w'.heap.size w' w'') := fun w' h => check_any p w' (hp.stay h) (ht.stay h)
  have HPP : Hid (∀ w', Below w.heap.size w w' → Calls Tryd.prog 11 #[p.val] w' fun e w'' => e = .returned (.tuple #[sB (prT p), fltV (prF p).1 (prF p).2.1 (prF p).2.2]) ∧ Below w'.heap.size w' w'') := fun w' h => print_any p w' (hp.stay h) (ht.stay h) (hnt.stay h)
  have HPN : Hid (∀ w', Below w.heap.size w w' → Calls Tryd.prog 13 #[p.val] w' fun e w'' => e = .returned (.int .i64 (nodesZ p)) ∧ Below w'.heap.size w' w'') := fun w' h => nodes_any p w' (hp.stay h)
  have HQ : Hid (∀ (q : Pr) (w' : World), Below w.heap.size w w' → q.Cp w' → q.er = p.er → q.bl.Nodup → AskQ q p w') := fun q w' h hq her hnd => askQ hq (hp.stay h) her hnd (ht.stay h) (hnt.stay h)
  clear hp ht hnt
  unfold Pr.val at *
  obtain ⟨W1, hW1⟩ : ∃ W1, w.alloc (.cells #[.slice p.wa p.widen.length p.wc, .slice p.fa p.funcs.length p.fc] 25) = W1 := ⟨_, rfl⟩
  obtain ⟨Z, hZ⟩ : ∃ Z, w.heap.size = Z := ⟨_, rfl⟩
  have P0 : Hid (∀ w', Below W1.heap.size W1 w' → w'.cell? ⟨Z, 0, none⟩ = some (.slice p.wa p.widen.length p.wc)) := fun w' h => hZ ▸ new_at (by rw [hW1]; exact h) rfl
  have P1 : Hid (∀ w', Below W1.heap.size W1 w' → w'.cell? ⟨Z, 1, none⟩ = some (.slice p.fa p.funcs.length p.fc)) := fun w' h => hZ ▸ new_at (by rw [hW1]; exact h) rfl
  have HW1 := show Hid _ from hW1
  have HZ := show Hid _ from hZ
  have B1 : Hid (Below w.heap.size w W1 ∧ Z < W1.heap.size) := ⟨by rw [← hW1]; exact Below.one (Below.refl _ _) _, by rw [← hW1, ← hZ]; simp⟩
  clear hZ hW1
  go_enter Tryd.func4, Tryd.ntmps4
  go_wp2_with fail
  rw [HW1.out, HZ.out]
  clear HW1
  refine (HA.out _ B1.out.1).mono ?_
  rintro e w2 ⟨rfl, hb2⟩
  have p0 := P0.out _ hb2
  have p1 := P1.out _ hb2
  go_wp2_with fail
  refine (HB1.out _ (Below.on B1.out.1 hb2)).mono ?_
  rintro e w3 ⟨rfl, hb3⟩
  have hb3' := Below.on hb2 hb3
  clear p0 p1 hb2 hb3
  cases hbp : bigZ p with
  | true =>
    go_wp2_with fail
    go_ret
    exact ⟨rfl, Below.on B1.out.1 hb3'⟩
  | false =>
    have HCP2 := show Hid _ from HCP.out hbp
    have p0 := P0.out _ hb3'
    have p1 := P1.out _ hb3'
    clear HCP HA HB1
    go_wp2_with fail
    refine (HCP2.out _ (Below.on B1.out.1 hb3')).mono ?_
    rintro e w4 ⟨⟨q, rfl, hcp, her, hnd, hbl⟩, hb4⟩
    have hb4' := Below.on hb3' hb4
    clear p0 p1 HCP2
    go_wp2_with fail
    have hb5 : Below w4.heap.size w4 (w4.alloc (.cells #[.slice q.wa q.widen.length q.wc, .slice q.fa q.funcs.length q.fc] 25)) := Below.one (Below.refl _ _) _
    obtain ⟨W5, hW5⟩ : ∃ W5, w4.alloc (.cells #[.slice q.wa q.widen.length q.wc, .slice q.fa q.funcs.length q.fc] 25) = W5 := ⟨_, rfl⟩
    obtain ⟨Y, hY⟩ : ∃ Y, w4.heap.size = Y := ⟨_, rfl⟩
    have Q0 : Hid (∀ w', Below W5.heap.size W5 w' → w'.cell? ⟨Y, 0, none⟩ = some (.slice q.wa q.widen.length q.wc)) := fun w' h => hY ▸ new_at (by rw [hW5]; exact h) rfl
    have Q1 : Hid (∀ w', Below W5.heap.size W5 w' → w'.cell? ⟨Y, 1, none⟩ = some (.slice q.fa q.funcs.length q.fc)) := fun w' h => hY ▸ new_at (by rw [hW5]; exact h) rfl
    rw [hW5] at hb5
    have hY5 : Y < W5.heap.size := by rw [← hW5, ← hY]; simp
    have P0' : Hid (∀ w', Below W5.heap.size W5 w' → w'.cell? ⟨Z, 0, none⟩ = some (.slice p.wa p.widen.length p.wc)) := fun w' h => P0.out w' (Below.on hb4' (Below.on hb5 h))
    have P1' : Hid (∀ w', Below W5.heap.size W5 w' → w'.cell? ⟨Z, 1, none⟩ = some (.slice p.fa p.funcs.length p.fc)) := fun w' h => P1.out w' (Below.on hb4' (Below.on hb5 h))
    have B5 : Hid (Below w.heap.size w W5) := Below.on B1.out.1 (Below.on hb4' hb5)
    have HQ5 : Hid (∀ w', Below W5.heap.size W5 w' → AskQ q p w') := fun w' h => HQ.out q w' (Below.on B5.out h) (hcp.stay (Below.on hb5 h)) her hnd
    have HBL : Hid ((∀ b ∈ q.bl, w.heap.size ≤ b) ∧ Z ∉ q.bl ∧ ∀ b, W5.heap.size ≤ b → b ∉ q.bl) := by
      have s1 := B1.out.1.size
      have s2 := hb3'.size
      have s3 := hb5.size
      have s4 := B1.out.2
      exact ⟨fun b hb => by have := (hbl b hb).1; omega, fun h => by have := (hbl Z h).1; omega, fun b hb h => by have := (hbl b h).2; omega⟩
    rw [hW5, hY]
    clear P0 P1 HQ hcp her hnd hbl hb5 hb4' hb4 hb3' hW5 hY B1 hbp
    refine (HQ5.out _ (Below.refl _ _)).chk.mono ?_
    rintro e w6 ⟨rfl, hb6⟩
    have q0 : ∀ o, (w6.alloc o).cell? ⟨Y, 0, none⟩ = some (.slice q.wa q.widen.length q.wc) := fun o => Q0.out _ (Below.one hb6 _)
    have q1 : ∀ o, (w6.alloc o).cell? ⟨Y, 1, none⟩ = some (.slice q.fa q.funcs.length q.fc) := fun o => Q1.out _ (Below.one hb6 _)
    go_wp2_with fail
    have b7 : Below W5.heap.size W5 (w6.alloc (.cells #[.int .i64 (checkZ p).1, .int .i64 (checkZ p).2.1, .int .i64 (checkZ p).2.2] 29)) := Below.one hb6 _
    obtain ⟨W7, hW7⟩ : ∃ W7, w6.alloc (.cells #[.int .i64 (checkZ p).1, .int .i64 (checkZ p).2.1, .int .i64 (checkZ p).2.2] 29) = W7 := ⟨_, rfl⟩
    obtain ⟨X, hX⟩ : ∃ X, w6.heap.size = X := ⟨_, rfl⟩
    have F0 : Hid (∀ w', Below W7.heap.size W7 w' → w'.cell? ⟨X, 0, none⟩ = some (.int .i64 (checkZ p).1)) := fun w' h => hX ▸ new_at (by rw [hW7]; exact h) rfl
    have F1 : Hid (∀ w', Below W7.heap.size W7 w' → w'.cell? ⟨X, 1, none⟩ = some (.int .i64 (checkZ p).2.1)) := fun w' h => hX ▸ new_at (by rw [hW7]; exact h) rfl
    have F2 : Hid (∀ w', Below W7.heap.size W7 w' → w'.cell? ⟨X, 2, none⟩ = some (.int .i64 (checkZ p).2.2)) := fun w' h => hX ▸ new_at (by rw [hW7]; exact h) rfl
    have HX : Hid (W5.heap.size ≤ X) := by rw [← hX]; exact hb6.size
    rw [hW7] at b7
    have B7 := show Hid _ from b7
    rw [hW7, hX]
    clear hW7 hX hb6 q0 q1
    refine (HQ5.out _ b7).prn.mono ?_
    rintro e w8 ⟨rfl, hb8⟩
    have hb8' := Below.on b7 hb8
    have q0 : ∀ o, (w8.alloc o).cell? ⟨Y, 0, none⟩ = some (.slice q.wa q.widen.length q.wc) := fun o => Q0.out _ (Below.one hb8' _)
    have q1 : ∀ o, (w8.alloc o).cell? ⟨Y, 1, none⟩ = some (.slice q.fa q.funcs.length q.fc) := fun o => Q1.out _ (Below.one hb8' _)
    clear b7
    go_wp2_with fail
    have b9 : Below W7.heap.size W7 (w8.alloc (.cells #[.int .i64 (prF p).1, .int .i64 (prF p).2.1, .int .i64 (prF p).2.2] 29)) := Below.one hb8 _
    obtain ⟨W9, hW9⟩ : ∃ W9, w8.alloc (.cells #[.int .i64 (prF p).1, .int .i64 (prF p).2.1, .int .i64 (prF p).2.2] 29) = W9 := ⟨_, rfl⟩
    obtain ⟨V, hV⟩ : ∃ V, w8.heap.size = V := ⟨_, rfl⟩
    have G0 : Hid (∀ w', Below W9.heap.size W9 w' → w'.cell? ⟨V, 0, none⟩ = some (.int .i64 (prF p).1)) := fun w' h => hV ▸ new_at (by rw [hW9]; exact h) rfl
    have G1 : Hid (∀ w', Below W9.heap.size W9 w' → w'.cell? ⟨V, 1, none⟩ = some (.int .i64 (prF p).2.1)) := fun w' h => hV ▸ new_at (by rw [hW9]; exact h) rfl
    have G2 : Hid (∀ w', Below W9.heap.size W9 w' → w'.cell? ⟨V, 2, none⟩ = some (.int .i64 (prF p).2.2)) := fun w' h => hV ▸ new_at (by rw [hW9]; exact h) rfl
    have HV : Hid (W5.heap.size ≤ V) := by rw [← hV]; exact hb8'.size
    rw [hW9] at b9
    have B97 : Hid (Below W7.heap.size W7 W9) := b9
    have B95 : Hid (Below W5.heap.size W5 W9) := Below.on B7.out b9
    rw [hW9, hV]
    clear hW9 hV hb8 hb8' q0 q1 b9
    refine (HQ5.out _ B95.out).nod.mono ?_
    rintro e w10 ⟨rfl, hb10⟩
    have b5 := Below.on B95.out hb10
    have q0 := Q0.out _ b5
    have q1 := Q1.out _ b5
    have p0 := P0'.out _ b5
    have p1 := P1'.out _ b5
    go_wp2_with fail
    refine (HQ5.out _ b5).sam.mono ?_
    rintro e w11 ⟨rfl, hb11⟩
    have b9 := Below.on hb10 hb11
    have b5' := Below.on b5 hb11
    clear q0 q1 p0 p1 b5 hb10 hb11
    have q0 := Q0.out _ b5'
    have q1 := Q1.out _ b5'
    have p0 := P0'.out _ b5'
    have p1 := P1'.out _ b5'
    go_wp2_with fail
    refine (HQ5.out _ b5').rsm.mono ?_
    rintro e w12 ⟨rfl, hb12⟩
    have c9 := Below.on b9 hb12
    have c5 := Below.on b5' hb12
    clear q0 q1 p0 p1 b5' b9 hb12
    have q0 := Q0.out _ c5
    have q1 := Q1.out _ c5
    go_wp2_with fail
    refine (HQ5.out _ c5).room.mono ?_
    rintro e w13 ⟨rfl, hb13⟩
    have d9 := Below.on c9 hb13
    have d5 := Below.on c5 hb13
    clear q0 q1 c5 c9 hb13
    have q0 := Q0.out _ d5
    have q1 := Q1.out _ d5
    go_wp2_with fail
    refine (HQ5.out _ d5).spl.mono ?_
    rintro e w14 ⟨rfl, ho⟩
    have hN : Below w.heap.size w w14 := (Below.on B5.out d5).trans (ho.below HBL.out.1 (Below.on B5.out d5).size)
    have p0 := ho.cell HBL.out.2.1 (P0'.out _ d5)
    have p1 := ho.cell HBL.out.2.1 (P1'.out _ d5)
    have f0 := ho.cell (HBL.out.2.2 X HX.out) (F0.out _ (Below.on B97.out d9))
    have f1 := ho.cell (HBL.out.2.2 X HX.out) (F1.out _ (Below.on B97.out d9))
    have f2 := ho.cell (HBL.out.2.2 X HX.out) (F2.out _ (Below.on B97.out d9))
    have g0 := ho.cell (HBL.out.2.2 V HV.out) (G0.out _ d9)
    have g1 := ho.cell (HBL.out.2.2 V HV.out) (G1.out _ d9)
    have g2 := ho.cell (HBL.out.2.2 V HV.out) (G2.out _ d9)
    clear q0 q1 d5 d9 ho Q0 Q1 P0' P1' F0 F1 F2 G0 G1 G2 HQ5 HBL B95 B97 B7 HX HV
    go_wp2_with fail
    refine (HPP.out _ hN).mono ?_
    rintro e w15 ⟨rfl, hb15⟩
    have hN15 := Below.on hN hb15
    have k0 := (hb15.cell (lt_of_cell p0)).trans p0
    have k1 := (hb15.cell (lt_of_cell p1)).trans p1
    have l0 := (hb15.cell (lt_of_cell f0)).trans f0
    have l1 := (hb15.cell (lt_of_cell f1)).trans f1
    have l2 := (hb15.cell (lt_of_cell f2)).trans f2
    have m0 := (hb15.cell (lt_of_cell g0)).trans g0
    have m1 := (hb15.cell (lt_of_cell g1)).trans g1
    have m2 := (hb15.cell (lt_of_cell g2)).trans g2
    clear p0 p1 f0 f1 f2 g0 g1 g2 hb15 hN
    obtain ⟨U, hU⟩ : ∃ U, w15.heap.size = U := ⟨_, rfl⟩
    obtain ⟨W16, hW16⟩ : ∃ W16, w15.alloc (.cells #[.int .i64 (prF p).1, .int .i64 (prF p).2.1, .int .i64 (prF p).2.2] 29) = W16 := ⟨_, rfl⟩
    have b16 : Below w15.heap.size w15 W16 := by rw [← hW16]; exact Below.one (Below.refl _ _) _
    have zl : Z < w15.heap.size := lt_of_cell k0
    have xl : X < w15.heap.size := lt_of_cell l0
    have vl : V < w15.heap.size := lt_of_cell m0
    have keep : ∀ w', Below W16.heap.size W16 w' → ∀ (b o : Nat) v, b < w15.heap.size → w15.cell? ⟨b, o, none⟩ = some v → w'.cell? ⟨b, o, none⟩ = some v := fun w' h b o v hlt e => by
      have hs := b16.size
      rw [h.cell (p := ⟨b, o, none⟩) (show b < _ by omega), b16.cell (p := ⟨b, o, none⟩) hlt, e]
    have p0 : ∀ w', Below W16.heap.size W16 w' → w'.cell? ⟨Z, 0, none⟩ = some (.slice p.wa p.widen.length p.wc) := fun w' h => keep w' h _ _ _ zl k0
    have p1 : ∀ w', Below W16.heap.size W16 w' → w'.cell? ⟨Z, 1, none⟩ = some (.slice p.fa p.funcs.length p.fc) := fun w' h => keep w' h _ _ _ zl k1
    have f0 : ∀ w', Below W16.heap.size W16 w' → w'.cell? ⟨X, 0, none⟩ = some (.int .i64 (checkZ p).1) := fun w' h => keep w' h _ _ _ xl l0
    have f1 : ∀ w', Below W16.heap.size W16 w' → w'.cell? ⟨X, 1, none⟩ = some (.int .i64 (checkZ p).2.1) := fun w' h => keep w' h _ _ _ xl l1
    have f2 : ∀ w', Below W16.heap.size W16 w' → w'.cell? ⟨X, 2, none⟩ = some (.int .i64 (checkZ p).2.2) := fun w' h => keep w' h _ _ _ xl l2
    have g0 : ∀ w', Below W16.heap.size W16 w' → w'.cell? ⟨V, 0, none⟩ = some (.int .i64 (prF p).1) := fun w' h => keep w' h _ _ _ vl m0
    have g1 : ∀ w', Below W16.heap.size W16 w' → w'.cell? ⟨V, 1, none⟩ = some (.int .i64 (prF p).2.1) := fun w' h => keep w' h _ _ _ vl m1
    have g2 : ∀ w', Below W16.heap.size W16 w' → w'.cell? ⟨V, 2, none⟩ = some (.int .i64 (prF p).2.2) := fun w' h => keep w' h _ _ _ vl m2
    have h0 : ∀ w', Below W16.heap.size W16 w' → w'.cell? ⟨U, 0, none⟩ = some (.int .i64 (prF p).1) := fun w' h => hU ▸ new_at (by rw [hW16]; exact h) rfl
    have h1 : ∀ w', Below W16.heap.size W16 w' → w'.cell? ⟨U, 1, none⟩ = some (.int .i64 (prF p).2.1) := fun w' h => hU ▸ new_at (by rw [hW16]; exact h) rfl
    have h2 : ∀ w', Below W16.heap.size W16 w' → w'.cell? ⟨U, 2, none⟩ = some (.int .i64 (prF p).2.2) := fun w' h => hU ▸ new_at (by rw [hW16]; exact h) rfl
    have B16 : Hid (Below w.heap.size w W16) := Below.on hN15 b16
    clear k0 k1 l0 l1 l2 m0 m1 m2 b16 hN15 keep zl xl vl
    have HW16 := show Hid _ from hW16
    have HU := show Hid _ from hU
    clear hW16 hU
    go_wp2_with fail
    rw [HW16.out, HU.out]
    clear HW16 HU
    go_region_held3 (fun w' => Below W16.heap.size W16 w') (first | exact Below.drew (Below.refl _ _) | exact Below.on (by assumption) (by assumption) | exact Below.one (by assumption) _)
      (first
        | (go_at_call 7; refine (HPC.out _ (Below.on B16.out (by assumption))).mono ?_; rintro e w' ⟨rfl, hb⟩)
        | (go_at_call 13; refine (HPN.out _ (Below.on B16.out (by assumption))).mono ?_; rintro e w' ⟨rfl, hb⟩))
    all_goals go_wp2_with fail
    all_goals go_ret
    all_goals exact ⟨rfl, Below.on B16.out (by assumption)⟩
end Go.Proofs.YtbpemackmadhgabDoor

/- The statement of a statement without its kind, at a program that lies in memory. -/
namespace Go.Proofs.YtbpemackmadhgabDoor
open Go.RowKit Go.Sort
attribute [local go_sem ↓] Go.wp_at_zero Go.wp_at_succ

/-- Where the law keeps p and its copy. -/
structure Loc (p q : Pr) (gf Z Y : Nat) (W : World) : Prop where
  p0 : W.cell? ⟨Z, 0, none⟩ = some (.slice p.wa p.widen.length p.wc)
  p1 : W.cell? ⟨Z, 1, none⟩ = some (.slice p.fa p.funcs.length p.fc)
  q0 : W.cell? ⟨Y, 0, none⟩ = some (.slice q.wa q.widen.length q.wc)
  q1 : W.cell? ⟨Y, 1, none⟩ = some (.slice (some ⟨gf, 0, none⟩) p.funcs.length (p.funcs.length + 1))
theorem Loc.below {p q : Pr} {gf Z Y : Nat} {W W' : World} (h : Loc p q gf Z Y W) (hb : Below W.heap.size W W') : Loc p q gf Z Y W' :=
  ⟨(hb.cell (lt_of_cell h.p0)).trans h.p0, (hb.cell (lt_of_cell h.p1)).trans h.p1, (hb.cell (lt_of_cell h.q0)).trans h.q0, (hb.cell (lt_of_cell h.q1)).trans h.q1⟩
theorem Loc.only {p q : Pr} {gf Z Y : Nat} {W W' : World} {S : List Nat} (h : Loc p q gf Z Y W) (ho : Only S W W') (hz : Z ∉ S) (hy : Y ∉ S) : Loc p q gf Z Y W' :=
  ⟨ho.cell hz h.p0, ho.cell hz h.p1, ho.cell hy h.q0, ho.cell hy h.q1⟩
theorem set_same_self {α : Type} {l : List α} {j : Nat} {x : α} (h : l[j]? = some x) : l.set j x = l := by
  apply List.ext_getElem?
  intro i
  by_cases e : j = i
  · subst e; rw [List.getElem?_set_self (List.getElem?_eq_some_iff.1 h).1, h]
  · rw [List.getElem?_set_ne e]

set_option maxRecDepth 100000 in
set_option maxHeartbeats 8000000 in
theorem treeBreaks_any (p : Pr) (fn at_ : Int) (w : World) (hp : p.In w) (_hf : I64 fn) (_hat : I64 at_) (ht : Tabs w) (hnt : NumT w) : Calls Tryd.prog 3 #[p.val, .int .i64 fn, .int .i64 at_] w fun e w' => e = .returned (.bool true) ∧ Below w.heap.size w w' := by
  have HA : Hid (∀ w', Below w.heap.size w w' → Calls Tryd.prog 6 #[] w' fun e w'' => e = .returned (.bool true) ∧ Below w'.heap.size w' w'') := fun w' h => awake_any w' (ht.stay h) (hnt.stay h)
  have HCP : Hid ((checkZ p).1 = 0 → ∀ w', Below w.heap.size w w' → Calls Tryd.prog 8 #[p.val] w' fun e w'' => (∃ q : Pr, e = .returned q.val ∧ q.Cp w'' ∧ q.er = p.er ∧ q.bl.Nodup ∧ (∀ b ∈ q.bl, w'.heap.size ≤ b ∧ b < w''.heap.size)) ∧ Below w'.heap.size w' w'') := fun hb w' h => copy_any p w' (hp.stay h) (few_of_check hb)
  have HPC : Hid (∀ w', Below w.heap.size w w' → Calls Tryd.prog 7 #[p.val] w' fun e w'' => e = .returned (fltV (checkZ p).1 (checkZ p).2.1 (checkZ p).2.2) ∧ Below w'.heap.size w' w'') := fun w' h => check_any p w' (hp.stay h) (ht.stay h)
  have HQC : Hid (∀ (q : Pr) (w' : World), Below w.heap.size w w' → q.Cp w' → Calls Tryd.prog 7 #[q.val] w' fun e w'' => e = .returned (fltV (checkZ q).1 (checkZ q).2.1 (checkZ q).2.2) ∧ Below w'.heap.size w' w'') := fun q w' h hq => check_any q w' hq.in (ht.stay h)
  have HQP : Hid (∀ (q : Pr) (w' : World), Below w.heap.size w w' → q.Cp w' → Calls Tryd.prog 11 #[q.val] w' fun e w'' => e = .returned (.tuple #[sB (prT q), fltV (prF q).1 (prF q).2.1 (prF q).2.2]) ∧ Below w'.heap.size w' w'') := fun q w' h hq => print_any q w' hq.in (ht.stay h) (hnt.stay h)
  have HQS : Hid (∀ (q : Pr) (w' : World), Below w.heap.size w w' → q.Cp w' → Calls Tryd.prog 10 #[q.val, p.val] w' fun e w'' => e = .returned (.bool (samPr q p)) ∧ Below w'.heap.size w' w'') := fun q w' h hq => same_any q p w' hq.in (hp.stay h)
  have hlen : p.funcs.length ≤ 140737488351232 := by have := hp.2.2.2.2.2; omega
  have HLEN : Hid (p.funcs.length ≤ 140737488351232) := hlen
  clear hp ht hnt
  unfold Pr.val at *
  obtain ⟨W1, hW1⟩ : ∃ W1, w.alloc (.cells #[.slice p.wa p.widen.length p.wc, .slice p.fa p.funcs.length p.fc] 25) = W1 := ⟨_, rfl⟩
  obtain ⟨Z, hZ⟩ : ∃ Z, w.heap.size = Z := ⟨_, rfl⟩
  have P0 : Hid (∀ w', Below W1.heap.size W1 w' → w'.cell? ⟨Z, 0, none⟩ = some (.slice p.wa p.widen.length p.wc)) := fun w' h => hZ ▸ new_at (by rw [hW1]; exact h) rfl
  have P1 : Hid (∀ w', Below W1.heap.size W1 w' → w'.cell? ⟨Z, 1, none⟩ = some (.slice p.fa p.funcs.length p.fc)) := fun w' h => hZ ▸ new_at (by rw [hW1]; exact h) rfl
  have HW1 := show Hid _ from hW1
  have HZ := show Hid _ from hZ
  have B1 : Hid (Below w.heap.size w W1 ∧ Z < W1.heap.size) := ⟨by rw [← hW1]; exact Below.one (Below.refl _ _) _, by rw [← hW1, ← hZ]; simp⟩
  clear hZ hW1
  go_enter Tryd.func3, Tryd.ntmps3
  go_wp2_with fail
  rw [HW1.out, HZ.out]
  clear HW1
  refine (HA.out _ B1.out.1).mono ?_
  rintro e w2 ⟨rfl, hb2⟩
  have p0 := P0.out _ hb2
  have p1 := P1.out _ hb2
  go_wp2_with fail
  refine (HPC.out _ (Below.on B1.out.1 hb2)).mono ?_
  rintro e w3 ⟨rfl, hb3⟩
  have hb3' := Below.on hb2 hb3
  clear p0 p1 hb2 hb3 HA HPC
  have p0 : ∀ o, (w3.alloc o).cell? ⟨Z, 0, none⟩ = some (.slice p.wa p.widen.length p.wc) := fun o => P0.out _ (Below.one hb3' _)
  have p1 : ∀ o, (w3.alloc o).cell? ⟨Z, 1, none⟩ = some (.slice p.fa p.funcs.length p.fc) := fun o => P1.out _ (Below.one hb3' _)
  by_cases hz : (checkZ p).1 = 0
  · by_cases h1 : p.funcs.length = 0
    · go_wp2_with fail
      go_ret
      exact ⟨rfl, Below.one (Below.on B1.out.1 hb3') _⟩
    by_cases h2 : fn < 0
    · go_wp2_with fail
      go_ret
      exact ⟨rfl, Below.one (Below.on B1.out.1 hb3') _⟩
    by_cases h3 : (p.funcs.length : Int) ≤ fn
    · go_wp2_with fail
      go_ret
      exact ⟨rfl, Below.one (Below.on B1.out.1 hb3') _⟩
    by_cases h4 : at_ < 1
    · go_wp2_with fail
      go_ret
      exact ⟨rfl, Below.one (Below.on B1.out.1 hb3') _⟩
    obtain ⟨k, rfl⟩ : ∃ k : Nat, fn = k := ⟨fn.toNat, by omega⟩
    have h5 : (k : Int) < (p.funcs.length : Int) := by omega
    have b1 : ((p.funcs.length : Int) == 0) = false := beq_false_of_ne (by omega)
    have hb3 : Below w3.heap.size w3 (w3.alloc (.cells #[.int .i64 0, .int .i64 (checkZ p).2.1, .int .i64 (checkZ p).2.2] 29)) := Below.one (Below.refl _ _) _
    have HCP2 := show Hid _ from HCP.out hz
    have HZ0 : Hid ((checkZ p).1 = 0) := hz
    clear HCP
    go_wp2_with fail
    clear b1 hz
    refine (HCP2.out _ (Below.on B1.out.1 (Below.on hb3' hb3))).mono ?_
    rintro e w4 ⟨⟨q, rfl, hcp, her, hnd, hbl⟩, hb4⟩
    have hb4' := Below.on hb3' (Below.on hb3 hb4)
    have hql : q.funcs.length = p.funcs.length := by
      have e1 : (q.funcs.map Fu.er).length = (p.funcs.map Fu.er).length := congrArg List.length (congrArg Pr.funcs her)
      rwa [List.length_map, List.length_map] at e1
    obtain ⟨gf, hfa, hfc, hfb, hgf⟩ := hcp.2.2.1
    have hklt : k < q.funcs.length := by omega
    have hfk : q.funcs[k]? = some q.funcs[k] := List.getElem?_eq_getElem hklt
    generalize q.funcs[k] = f at hfk
    have d2 : ∀ o o', ((w4.alloc o).alloc o').cell? ⟨gf, k * 3 + 2, none⟩ = some (.slice f.ba f.body.length f.bc) := fun o o' => by
      have hlt := (Array.getElem?_eq_some_iff.1 hgf).1
      have h2 : ((w4.alloc o).alloc o').heap[gf]? = some (.cells ⟨q.funcs.flatMap Fu.cells ++ senF⟩ 36 (0, 0)) := by
        rw [Below.heap_alloc _ _ _ (by simp; omega), Below.heap_alloc _ _ _ hlt]; exact hgf
      rw [Lib.cell_of_heap h2]
      show (q.funcs.flatMap Fu.cells ++ senF).toArray[k * 3 + 2]? = _
      rw [List.getElem?_toArray, flatC_at (f := Fu.cells) (k := 3) (fun _ => rfl) senF q.funcs k f 2 hfk (by omega)]; rfl
    have hfc' : q.fc = p.funcs.length + 1 := by rw [hfc]; show q.funcs.length + 1 = _; rw [hql]
    rw [hfa, hql, hfc']
    have B4 : Hid (Below W1.heap.size W1 w4) := hb4'
    have HFA : Hid (q.fa = some ⟨gf, 0, none⟩ ∧ q.fc = p.funcs.length + 1 ∧ q.funcs.length = p.funcs.length ∧ q.funcs[k]? = some f) := ⟨hfa, hfc', hql, hfk⟩
    have HCQ : Hid (q.Cp w4) := hcp
    have HER : Hid (q.er = p.er ∧ q.bl.Nodup) := ⟨her, hnd⟩
    have HBL : Hid ((∀ b ∈ q.bl, w.heap.size ≤ b) ∧ Z ∉ q.bl ∧ ∀ b, w4.heap.size ≤ b → b ∉ q.bl) := by
      have s1 := B1.out.1.size
      have s2 := (Below.on hb3' hb3).size
      have s4 := B1.out.2
      exact ⟨fun b hb => by have := (hbl b hb).1; omega, fun h => by have := (hbl Z h).1; omega, fun b hb h => by have := (hbl b h).2; omega⟩
    clear p0 p1 HCP2 hfa hfc hfc' hfk hql her hnd hbl hb4 hb4' hb3 hb3' hgf hfb hcp hklt
    go_wp2_with fail
    clear d2
    obtain ⟨W6, hW6⟩ : ∃ W6, (w4.alloc (.cells #[.slice q.wa q.widen.length q.wc, .slice (some ⟨gf, 0, none⟩) p.funcs.length (p.funcs.length + 1)] 25)).alloc (.cells #[.int .i64 0] 3) = W6 := ⟨_, rfl⟩
    obtain ⟨Y, hY⟩ : ∃ Y, w4.heap.size = Y := ⟨_, rfl⟩
    have b6 : Below w4.heap.size w4 W6 := by rw [← hW6]; exact Below.one (Below.one (Below.refl _ _) _) _
    have B6 : Hid (Below w.heap.size w W6) := Below.on B1.out.1 (Below.on B4.out b6)
    have hcp6 : q.Cp W6 := HCQ.out.stay b6
    have ct6 : Ctr W6 (Y + 1) 0 := by
      unfold Ctr
      rw [← hW6, ← hY]
      have := heap_alloc_new (w4.alloc (.cells #[.slice q.wa q.widen.length q.wc, .slice (some ⟨gf, 0, none⟩) p.funcs.length (p.funcs.length + 1)] 25)) (.cells #[.int .i64 0] 3)
      rwa [World.size_alloc] at this
    have loc6 : Loc p q gf Z Y W6 := by
      have hc := two_cells (w := w4) (c1 := #[.slice q.wa q.widen.length q.wc, .slice (some ⟨gf, 0, none⟩) p.funcs.length (p.funcs.length + 1)]) (c2 := #[.int .i64 0]) (t1 := 25) (t2 := 3) (w1 := W6) (by rw [hW6]; exact Below.refl _ _)
      refine ⟨P0.out _ (Below.on B4.out b6), P1.out _ (Below.on B4.out b6), ?_, ?_⟩
      · rw [← hY]; exact hc.1 0 _ rfl
      · rw [← hY]; exact hc.1 1 _ rfl
    have nY : Y ∉ q.bl := HBL.out.2.2 Y (by omega)
    have nB : Y + 1 ∉ q.bl := HBL.out.2.2 (Y + 1) (by omega)
    have hZY : Z ≠ Y + 1 := by have := B1.out.2; have := B4.out.size; omega
    have hck : (checkZ q).1 = 0 := by rw [(er_same HER.out.1).1]; exact HZ0.out
    obtain ⟨_, n4, n5, n6⟩ := pr_nd HER.out.2 HFA.out.2.2.2
    have hfm : f ∈ q.funcs := List.mem_of_getElem? HFA.out.2.2.2
    obtain ⟨f1, f2, f3, f4, f5⟩ := hcp6.2.2.2 f hfm
    have hsz := whole_sz (check_ok hck).2.1 f hfm
    have HT := turned_any f.body f.ba f.bc W6 (Y + 1) at_ 0 f4 f5 n5 (fun h => nB (n6 _ h)) ct6 (by omega) (by omega)
    rw [Int.sub_zero, Int.zero_add] at HT
    rw [hW6, hY]
    have HT' := show Hid _ from HT
    have HH : Hid (q.Cp W6 ∧ Loc p q gf Z Y W6 ∧ Y ∉ q.bl ∧ Y + 1 ∉ q.bl ∧ (checkZ q).1 = 0 ∧ (∀ b ∈ blk f.ba :: blS f.body, b ∈ q.bl) ∧ Z ≠ Y + 1 ∧ Y < W6.heap.size ∧ w.heap.size ≤ Y + 1 ∧ w4.heap.size ≤ W6.heap.size) := ⟨hcp6, loc6, nY, nB, hck, n6, hZY, lt_of_cell loc6.q0, by have := B4.out.size; have := B1.out.1.size; omega, b6.size⟩
    clear HT hW6 hY b6 hcp6 ct6 loc6 nY nB hck n4 n5 n6 hfm f1 f2 f3 f4 f5 hsz hZY HCQ P0 P1 B4
    refine Calls.mono HT'.out ?_
    rintro e w7 ⟨rfl, hr, hc, ct, ho⟩
    obtain ⟨hcp6, loc6, nY, nB, hck, n6, hZY, hYl, hwY, hw46⟩ := HH.out
    have hin : ∀ b ∈ (Y + 1) :: blk f.ba :: blS f.body, b ∈ (Y + 1) :: q.bl := fun b hb => by
      rcases List.mem_cons.1 hb with rfl | hb
      · exact List.mem_cons_self
      · exact List.mem_cons_of_mem _ (n6 b hb)
    have ho' := ho.mono hin
    have loc7 : Loc p q gf Z Y w7 := loc6.only ho' (by simp only [List.mem_cons, not_or]; exact ⟨hZY, HBL.out.2.1⟩) (by simp only [List.mem_cons, not_or]; exact ⟨by omega, nY⟩)
    have B7 : Hid (Below w.heap.size w w7) := B6.out.trans (ho'.below (fun b hb => by
      rcases List.mem_cons.1 hb with rfl | hb
      · exact hwY
      · exact HBL.out.1 b hb) B6.out.size)
    have C7 : Hid ((withF q (q.funcs.set k (tuF f at_))).Cp w7) := cp_tu hcp6 HER.out.2 HFA.out.2.2.2 nB ho hr hc
    have L7 := show Hid _ from loc7
    have hcc := ct.cell
    have p0 := loc7.p0
    have p1 := loc7.p1
    have q0 := loc7.q0
    have q1 := loc7.q1
    have HCK : Hid ((checkZ q).1 = 0) := hck
    have HN7 : Hid (w7.heap.size ∉ q.bl) := HBL.out.2.2 _ (by have := ho.2.2.2.1; omega)
    have HY7 : Hid (Y ∉ q.bl ∧ Y < w7.heap.size) := ⟨nY, lt_of_cell loc7.q0⟩
    clear hr hc ct ho ho' hin hcp6 loc6 nY nB n6 hZY hYl hwY hw46 HH HT' hck loc7
    by_cases h6 : (cnL f.body : Int) < at_
    · have he : tuF f at_ = f := by unfold tuF; rw [tuL_out f.body at_ (.inr h6)]
      have hC : q.Cp w7 := by have := C7.out; rw [he, set_same_self HFA.out.2.2.2] at this; exact this
      have HS := HQS.out q w7 B7.out hC
      rw [samPr_er HER.out.1, HFA.out.1, HFA.out.2.1, HFA.out.2.2.1] at HS
      have HS' := show Hid _ from HS
      clear he hC HS
      go_wp2_with fail
      refine Calls.mono HS'.out ?_
      rintro e w8 ⟨rfl, hb8⟩
      go_wp2_with fail
      go_ret
      exact ⟨rfl, Below.on B7.out hb8⟩
    · go_wp2_with fail
      have hTP := tuP_first HFA.out.2.2.2 at_
      have b8 : Below w7.heap.size w7 (w7.alloc (.cells #[.int .i64 5, .int .i64 k, .int .i64 at_] 29)) := Below.one (Below.refl _ _) _
      obtain ⟨W8, hW8⟩ : ∃ W8, w7.alloc (.cells #[.int .i64 5, .int .i64 k, .int .i64 at_] 29) = W8 := ⟨_, rfl⟩
      obtain ⟨X, hX⟩ : ∃ X, w7.heap.size = X := ⟨_, rfl⟩
      have x0 : ∀ w', Below W8.heap.size W8 w' → w'.cell? ⟨X, 0, none⟩ = some (.int .i64 5) := fun w' h => hX ▸ new_at (by rw [hW8]; exact h) rfl
      have x1 : ∀ w', Below W8.heap.size W8 w' → w'.cell? ⟨X, 1, none⟩ = some (.int .i64 k) := fun w' h => hX ▸ new_at (by rw [hW8]; exact h) rfl
      have x2 : ∀ w', Below W8.heap.size W8 w' → w'.cell? ⟨X, 2, none⟩ = some (.int .i64 at_) := fun w' h => hX ▸ new_at (by rw [hW8]; exact h) rfl
      rw [hW8] at b8
      have L8 : Hid (∀ w', Below W8.heap.size W8 w' → Loc p q gf Z Y w') := fun w' h => (L7.out.below b8).below h
      have B8 : Hid (Below w.heap.size w W8) := Below.on B7.out b8
      have C8 : Hid (∀ w', Below W8.heap.size W8 w' → (withF q (q.funcs.set k (tuF f at_))).Cp w') := fun w' h => (C7.out.stay b8).stay h
      have HXB : Hid (X ∉ q.bl) := by rw [← hX]; exact HN7.out
      have TP1 : Hid (TuP q (q.funcs.set k (tuF f at_)) k f at_) := hTP
      have H12 : Hid (1 ≤ at_ ∧ at_ ≤ cnL f.body) := ⟨by omega, by omega⟩
      have HC8 : Hid (∀ w', Below W8.heap.size W8 w' → Calls Tryd.prog 7 #[.agg #[.slice q.wa q.widen.length q.wc, .slice (some ⟨gf, 0, none⟩) p.funcs.length (p.funcs.length + 1)]] w' fun e w'' => e = .returned (fltV 5 k at_) ∧ Below w'.heap.size w' w'') := fun w' h => by
        have := HQC.out _ w' (Below.on B8.out h) (C8.out w' h)
        rw [TP1.out.check HCK.out H12.out.1 H12.out.2] at this
        rw [show (withF q (q.funcs.set k (tuF f at_))).funcs.length = p.funcs.length by show (q.funcs.set k (tuF f at_)).length = _; rw [List.length_set]; exact HFA.out.2.2.1, show (withF q (q.funcs.set k (tuF f at_))).fa = q.fa from rfl, show (withF q (q.funcs.set k (tuF f at_))).fc = q.fc from rfl, HFA.out.1, HFA.out.2.1] at this
        exact this
      rw [hW8, hX]
      clear p0 p1 q0 q1 hcc b8 hW8 hX hTP L7 C7
      have q0 : ∀ w', Below W8.heap.size W8 w' → w'.cell? ⟨Y, 0, none⟩ = some (.slice q.wa q.widen.length q.wc) := fun w' h => (L8.out w' h).q0
      have q1 : ∀ w', Below W8.heap.size W8 w' → w'.cell? ⟨Y, 1, none⟩ = some (.slice (some ⟨gf, 0, none⟩) p.funcs.length (p.funcs.length + 1)) := fun w' h => (L8.out w' h).q1
      go_region_held3 (fun w' => Below W8.heap.size W8 w') (first | exact Below.drew (Below.refl _ _) | exact Below.on (by assumption) (by assumption) | exact Below.one (by assumption) _)
        (first
          | (go_at_call 7; refine (HC8.out _ (by assumption)).mono ?_; rintro e w' ⟨rfl, hb⟩))
      have GFB : Hid (gf ∈ q.bl ∧ blk q.wa ≠ gf ∧ ∀ y ∈ q.funcs.set k (tuF f at_), gf ∉ y.bl) := by
        have hg : blk q.fa = gf := by rw [HFA.out.1]; rfl
        have hn := HER.out.2
        unfold Pr.bl at hn
        rw [hg] at hn
        obtain ⟨a1, a2⟩ := List.nodup_cons.1 hn
        obtain ⟨a3, _⟩ := List.nodup_cons.1 a2
        refine ⟨by simp [Pr.bl, hg], fun e => a1 (by rw [e]; simp), fun y hy hb => ?_⟩
        rcases List.mem_or_eq_of_mem_set hy with hy | rfl
        · exact a3 (List.mem_flatMap.2 ⟨y, hy, hb⟩)
        · refine a3 (List.mem_flatMap.2 ⟨f, List.mem_of_getElem? HFA.out.2.2.2, ?_⟩)
          unfold Fu.bl at hb ⊢
          rw [show (tuF f at_).body = tuL f.body at_ from rfl, tuL_bl] at hb
          exact hb
      have X8 : Hid (∀ w', Below W8.heap.size W8 w' → w'.cell? ⟨X, 0, none⟩ = some (.int .i64 5) ∧ w'.cell? ⟨X, 1, none⟩ = some (.int .i64 k) ∧ w'.cell? ⟨X, 2, none⟩ = some (.int .i64 at_)) := fun w' h => ⟨x0 w' h, x1 w' h, x2 w' h⟩
      clear x0 x1 x2
      go_wp2_with fail
      go_loopw [11] (fun t wr => ∃ (i : Nat) (L : List Fu), k + 1 ≤ i ∧ i ≤ p.funcs.length ∧ t = .int .i64 i ∧ TuP q L k f at_ ∧ (withF q L).Cp wr ∧ (∀ y ∈ L, gf ∉ y.bl) ∧ Loc p q gf Z Y wr ∧ (wr.cell? ⟨X, 0, none⟩ = some (.int .i64 5) ∧ wr.cell? ⟨X, 1, none⟩ = some (.int .i64 k) ∧ wr.cell? ⟨X, 2, none⟩ = some (.int .i64 at_)) ∧ Below w.heap.size w wr) (fun t _ => p.funcs.length - (intOf t).toNat)
      case atStart => exact ⟨k + 1, _, Nat.le_refl _, by omega, by go_num, TP1.out, C8.out _ (by assumption), GFB.out.2.2, L8.out _ (by assumption), X8.out _ (by assumption), Below.on B8.out (by assumption)⟩
      case round =>
        obtain ⟨i, L, hi1, hi2, rfl, htp, hcp, hgl, hloc, hx, hbw⟩ := hrel
        have q0 := hloc.q0
        have q1 := hloc.q1
        have HLOC : Hid (Loc p q gf Z Y wr) := hloc
        have HX : Hid (wr.cell? ⟨X, 0, none⟩ = some (.int .i64 5) ∧ wr.cell? ⟨X, 1, none⟩ = some (.int .i64 k) ∧ wr.cell? ⟨X, 2, none⟩ = some (.int .i64 at_)) := hx
        have HBW : Hid (Below w.heap.size w wr) := hbw
        have HTP : Hid (TuP q L k f at_) := htp
        have HCP : Hid ((withF q L).Cp wr) := hcp
        have HGL : Hid (∀ y ∈ L, gf ∉ y.bl) := hgl
        have hlen := htp.len
        by_cases hlt : i < p.funcs.length
        · have hli : (i : Int) < (p.funcs.length : Int) := by omega
          have hiL : i < L.length := by have := HFA.out.2.2.1; omega
          obtain ⟨g', e1, e2, e3, e4⟩ := hcp.2.2.1
          obtain rfl : gf = g' := by
            have e1' : q.fa = some ⟨g', 0, none⟩ := e1
            rw [HFA.out.1] at e1'; cases e1'; rfl
          have d0 : wr.cell? ⟨gf, i * 3, none⟩ = some (.string L[i].name) := by
            rw [Lib.cell_of_heap e4]
            show (L.flatMap Fu.cells ++ senF).toArray[i * 3]? = _
            have := flatC_at (f := Fu.cells) (k := 3) (fun _ => rfl) senF L i L[i] 0 (List.getElem?_eq_getElem hiL) (by omega)
            rw [Nat.add_zero] at this
            rw [List.getElem?_toArray, this]; rfl
          have d1 : wr.frozen? ⟨gf, i * 3, none⟩ = false := Lib.frozen_of_heap e4 _
          have LI : Hid (L[i]? = some L[i]) := List.getElem?_eq_getElem hiL
          clear hloc hx hbw htp hcp hgl e1 e2 e3 e4 hlen
          generalize L[i] = x at *
          go_wp2_with fail
          go_roundw
          case rel =>
            have ho : Only q.bl wr (wr.setCell ⟨gf, i * 3, none⟩ (.string ⟨#[105, 110]⟩)) := (Only.refl _ _).set GFB.out.1 _ _
            obtain ⟨c1, c2⟩ := cp_name HCP.out HFA.out.1 LI.out HGL.out GFB.out.2.1 ⟨#[105, 110]⟩ (by decide)
            exact ⟨i + 1, L.set i (nmF x ⟨#[105, 110]⟩), by omega, by omega, by go_num, HTP.out.name (by omega) LI.out _, c1, c2, HLOC.out.only ho HBL.out.2.1 HY7.out.1, ⟨ho.cell HXB.out HX.out.1, ho.cell HXB.out HX.out.2.1, ho.cell HXB.out HX.out.2.2⟩, HBW.out.trans (ho.below HBL.out.1 HBW.out.size)⟩
          case measure => simp [intOf]; omega
        · obtain rfl : i = p.funcs.length := by omega
          clear hloc hx hbw htp hcp hgl hlen
          have HQ : Hid (∀ w', Below wr.heap.size wr w' →
              Calls Tryd.prog 7 #[.agg #[.slice q.wa q.widen.length q.wc, .slice (some ⟨gf, 0, none⟩) p.funcs.length (p.funcs.length + 1)]] w' (fun e w'' => e = .returned (fltV 5 k at_) ∧ Below w'.heap.size w' w'') ∧
              Calls Tryd.prog 11 #[.agg #[.slice q.wa q.widen.length q.wc, .slice (some ⟨gf, 0, none⟩) p.funcs.length (p.funcs.length + 1)]] w' (fun e w'' => e = .returned (.tuple #[sB (prT (withF q L)), fltV 5 k at_]) ∧ Below w'.heap.size w' w'') ∧
              Calls Tryd.prog 10 #[.agg #[.slice q.wa q.widen.length q.wc, .slice (some ⟨gf, 0, none⟩) p.funcs.length (p.funcs.length + 1)], .agg #[.slice p.wa p.widen.length p.wc, .slice p.fa p.funcs.length p.fc]] w' (fun e w'' => e = .returned (.bool false) ∧ Below w'.heap.size w' w'')) := fun w' h => by
            have hw := Below.on HBW.out h
            have hc := HCP.out.stay h
            have t1 := HQC.out _ w' hw hc
            have t2 := HQP.out _ w' hw hc
            have t3 := HQS.out _ w' hw hc
            have el : (withF q L).funcs.length = p.funcs.length := by show L.length = _; rw [HTP.out.len]; exact HFA.out.2.2.1
            rw [el, show (withF q L).fa = q.fa from rfl, show (withF q L).fc = q.fc from rfl, HFA.out.1, HFA.out.2.1] at t1 t2 t3
            rw [HTP.out.check HCK.out H12.out.1 H12.out.2] at t1
            rw [HTP.out.prF HCK.out H12.out.1 H12.out.2] at t2
            rw [HTP.out.differs HER.out.1 HCK.out H12.out.1 H12.out.2] at t3
            exact ⟨t1, t2, t3⟩
          generalize prT (withF q L) = tx at HQ
          clear GFB HFA HER HCK TP1 H12 HC8 HTP HCP HGL C8 L8 X8 HQC HQP HQS HBL HXB HY7 HN7
          go_wp2_with fail
          refine (HQ.out _ (Below.refl _ _)).2.1.mono ?_
          rintro e w9 ⟨rfl, hb9⟩
          have b10 : Below wr.heap.size wr (w9.alloc (.cells #[.int .i64 5, .int .i64 k, .int .i64 at_] 29)) := Below.one hb9 _
          obtain ⟨W10, hW10⟩ : ∃ W10, w9.alloc (.cells #[.int .i64 5, .int .i64 k, .int .i64 at_] 29) = W10 := ⟨_, rfl⟩
          obtain ⟨U, hU⟩ : ∃ U, w9.heap.size = U := ⟨_, rfl⟩
          rw [hW10] at b10
          have u0 : ∀ w', Below W10.heap.size W10 w' → w'.cell? ⟨U, 0, none⟩ = some (.int .i64 5) := fun w' h => hU ▸ new_at (by rw [hW10]; exact h) rfl
          have u1 : ∀ w', Below W10.heap.size W10 w' → w'.cell? ⟨U, 1, none⟩ = some (.int .i64 k) := fun w' h => hU ▸ new_at (by rw [hW10]; exact h) rfl
          have u2 : ∀ w', Below W10.heap.size W10 w' → w'.cell? ⟨U, 2, none⟩ = some (.int .i64 at_) := fun w' h => hU ▸ new_at (by rw [hW10]; exact h) rfl
          have p0 : ∀ w', Below W10.heap.size W10 w' → w'.cell? ⟨Z, 0, none⟩ = some (.slice p.wa p.widen.length p.wc) := fun w' h => (HLOC.out.below (Below.on b10 h)).p0
          have p1 : ∀ w', Below W10.heap.size W10 w' → w'.cell? ⟨Z, 1, none⟩ = some (.slice p.fa p.funcs.length p.fc) := fun w' h => (HLOC.out.below (Below.on b10 h)).p1
          have q0' : ∀ w', Below W10.heap.size W10 w' → w'.cell? ⟨Y, 0, none⟩ = some (.slice q.wa q.widen.length q.wc) := fun w' h => (HLOC.out.below (Below.on b10 h)).q0
          have q1' : ∀ w', Below W10.heap.size W10 w' → w'.cell? ⟨Y, 1, none⟩ = some (.slice (some ⟨gf, 0, none⟩) p.funcs.length (p.funcs.length + 1)) := fun w' h => (HLOC.out.below (Below.on b10 h)).q1
          have x0 : ∀ w', Below W10.heap.size W10 w' → w'.cell? ⟨X, 0, none⟩ = some (.int .i64 5) := fun w' h => ((Below.on b10 h).cell (lt_of_cell HX.out.1)).trans HX.out.1
          have x1 : ∀ w', Below W10.heap.size W10 w' → w'.cell? ⟨X, 1, none⟩ = some (.int .i64 k) := fun w' h => ((Below.on b10 h).cell (lt_of_cell HX.out.2.1)).trans HX.out.2.1
          have x2 : ∀ w', Below W10.heap.size W10 w' → w'.cell? ⟨X, 2, none⟩ = some (.int .i64 at_) := fun w' h => ((Below.on b10 h).cell (lt_of_cell HX.out.2.2)).trans HX.out.2.2
          have B10 : Hid (Below w.heap.size w W10) := Below.on HBW.out b10
          have HQ10 : Hid (∀ w', Below W10.heap.size W10 w' → Calls Tryd.prog 7 #[.agg #[.slice q.wa q.widen.length q.wc, .slice (some ⟨gf, 0, none⟩) p.funcs.length (p.funcs.length + 1)]] w' (fun e w'' => e = .returned (fltV 5 k at_) ∧ Below w'.heap.size w' w'') ∧ Calls Tryd.prog 10 #[.agg #[.slice q.wa q.widen.length q.wc, .slice (some ⟨gf, 0, none⟩) p.funcs.length (p.funcs.length + 1)], .agg #[.slice p.wa p.widen.length p.wc, .slice p.fa p.funcs.length p.fc]] w' (fun e w'' => e = .returned (.bool false) ∧ Below w'.heap.size w' w'')) := fun w' h => ⟨(HQ.out w' (Below.on b10 h)).1, (HQ.out w' (Below.on b10 h)).2.2⟩
          have HW10 := show Hid _ from hW10
          have HU := show Hid _ from hU
          clear HLOC HX HBW HQ b10 hb9 q0 q1 hW10 hU
          go_wp2_with fail
          rw [HW10.out, HU.out]
          clear HW10 HU
          go_region_held3 (fun w' => Below W10.heap.size W10 w') (first | exact Below.drew (Below.refl _ _) | exact Below.on (by assumption) (by assumption) | exact Below.one (by assumption) _)
            (first
              | (go_at_call 7; refine (HQ10.out _ (by assumption)).1.mono ?_; rintro e w' ⟨rfl, hb⟩)
              | (go_at_call 10; refine (HQ10.out _ (by assumption)).2.mono ?_; rintro e w' ⟨rfl, hb⟩))
          all_goals go_wp2_with fail
          all_goals go_ret
          all_goals exact ⟨rfl, Below.on B10.out (by assumption)⟩
  · obtain ⟨z1, z2, z3⟩ := checkZ_bd hz
    have hzb : ((checkZ p).1 != 0) = true := by simp [hz]
    go_wp2_with fail
    go_ret
    exact ⟨by first | rfl | (simp; omega) | simp, Below.one (Below.on B1.out.1 hb3') _⟩
end Go.Proofs.YtbpemackmadhgabDoor
