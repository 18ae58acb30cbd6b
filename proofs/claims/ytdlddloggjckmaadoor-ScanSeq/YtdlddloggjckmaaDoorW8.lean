/- soffitlaw01.ScanWords answers true at every text. -/
import Derived.Test.YtdlddloggjckmaaDoorAw
import Derived.Test.YtdlddloggjckmaaDoorQ3
import Derived.Test.YtdlddloggjckmaaDoorM5
namespace Go.Proofs.YtdlddloggjckmaaDoor
open Go.RowKit

set_option maxRecDepth 100000 in
set_option maxHeartbeats 2000000 in
theorem words_err (s : ByteArray) (er at_ : Int) (w : World) (hv : VarOk w) (her : (er == 0) = false)
    (h16 : ∀ w, Calls Tryd.prog 16 #[.string s] w fun e w' => e = .returned (.bool false) ∧ w' = w) (h17 : ∀ w, Calls Tryd.prog 17 #[.string s] w fun e w' => e = .returned (.bool false) ∧ Below w.heap.size w w')
    (h18 : ∀ w, Calls Tryd.prog 18 #[.string s] w fun e w' => e = .returned (.bool false) ∧ w' = w) (h19 : ∀ w, Calls Tryd.prog 19 #[.string s] w fun e w' => e = .returned (.bool false) ∧ Below w.heap.size w w')
    (h10 : ∀ w, VarOk w → Calls Tryd.prog 10 #[.string s] w fun e w' => e = .returned (.tuple #[.slice none 0 0, .int .i64 er, .int .i64 at_]) ∧ Below w.heap.size w w') :
    Calls Tryd.prog 8 #[.string s] w fun e w' => e = .returned (.bool true) ∧ Below w.heap.size w w' := by
  go_enter Tryd.func8, Tryd.ntmps8
  go_wp2_with fail
  refine (awake_any _ hv).mono ?_
  rintro e w1 ⟨rfl, hb1⟩
  have hv1 := hv.below hb1
  go_wp2_with fail
  refine (h16 _).mono ?_
  rintro e w2 ⟨rfl, rfl⟩
  go_wp2_with fail
  refine (h17 _).mono ?_
  rintro e w3 ⟨rfl, hb3⟩
  have hv3 := hv1.below hb3
  go_wp2_with fail
  refine (h18 _).mono ?_
  rintro e w4 ⟨rfl, rfl⟩
  go_wp2_with fail
  refine (h19 _).mono ?_
  rintro e w5 ⟨rfl, hb5⟩
  have hv5 := hv3.below hb5
  go_wp2_with fail
  refine (h10 _ hv5).mono ?_
  rintro e w6 ⟨rfl, hb6⟩
  go_wp2_with fail
  refine (h16 _).mono ?_
  rintro e w7 ⟨rfl, rfl⟩
  go_wp2_with fail
  refine (h18 _).mono ?_
  rintro e w8 ⟨rfl, rfl⟩
  go_wp2_with fail
  go_ret
  have hz1 := hb1.size
  have hz3 := hb3.size
  have hz5 := hb5.size
  exact ⟨rfl, ((hb1.trans (hb3.mono hz1)).trans (hb5.mono (by omega))).trans (hb6.mono (by omega))⟩

set_option maxRecDepth 100000 in
set_option maxHeartbeats 2000000 in
theorem words_many (s : ByteArray) (n : Nat) (w : World) (hv : VarOk w) (hn : ((n : Int) == 1) = false)
    (h16 : ∀ w, Calls Tryd.prog 16 #[.string s] w fun e w' => e = .returned (.bool false) ∧ w' = w) (h17 : ∀ w, Calls Tryd.prog 17 #[.string s] w fun e w' => e = .returned (.bool false) ∧ Below w.heap.size w w')
    (h18 : ∀ w, Calls Tryd.prog 18 #[.string s] w fun e w' => e = .returned (.bool false) ∧ w' = w) (h19 : ∀ w, Calls Tryd.prog 19 #[.string s] w fun e w' => e = .returned (.bool false) ∧ Below w.heap.size w w')
    (h10 : ∀ w, VarOk w → Calls Tryd.prog 10 #[.string s] w fun e w' => ∃ bo cap, e = .returned (.tuple #[.slice bo n cap, .int .i64 0, .int .i64 0]) ∧ Below w.heap.size w w') :
    Calls Tryd.prog 8 #[.string s] w fun e w' => e = .returned (.bool true) ∧ Below w.heap.size w w' := by
  go_enter Tryd.func8, Tryd.ntmps8
  go_wp2_with fail
  refine (awake_any _ hv).mono ?_
  rintro e w1 ⟨rfl, hb1⟩
  have hv1 := hv.below hb1
  go_wp2_with fail
  refine (h16 _).mono ?_
  rintro e w2 ⟨rfl, rfl⟩
  go_wp2_with fail
  refine (h17 _).mono ?_
  rintro e w3 ⟨rfl, hb3⟩
  have hv3 := hv1.below hb3
  go_wp2_with fail
  refine (h18 _).mono ?_
  rintro e w4 ⟨rfl, rfl⟩
  go_wp2_with fail
  refine (h19 _).mono ?_
  rintro e w5 ⟨rfl, hb5⟩
  have hv5 := hv3.below hb5
  go_wp2_with fail
  refine (h10 _ hv5).mono ?_
  rintro e w6 ⟨bo, cap, rfl, hb6⟩
  go_wp2_with fail
  refine (h16 _).mono ?_
  rintro e w7 ⟨rfl, rfl⟩
  go_wp2_with fail
  refine (h18 _).mono ?_
  rintro e w8 ⟨rfl, rfl⟩
  go_wp2_with fail
  go_ret
  have hz1 := hb1.size
  have hz3 := hb3.size
  have hz5 := hb5.size
  exact ⟨rfl, ((hb1.trans (hb3.mono hz1)).trans (hb5.mono (by omega))).trans (hb6.mono (by omega))⟩

set_option maxRecDepth 100000 in
set_option maxHeartbeats 2000000 in
theorem words_one (s : ByteArray) (x : It) (ab wb nb : Bool) (w : World) (hv : VarOk w) (hab : (x.text.toList == s.toList) = ab) (hwb : (ab && x.kind == 3) = wb) (hnb : (ab && x.kind == 1) = nb)
    (h16 : ∀ w, Calls Tryd.prog 16 #[.string s] w fun e w' => e = .returned (.bool wb) ∧ w' = w) (h17 : ∀ w, Calls Tryd.prog 17 #[.string s] w fun e w' => e = .returned (.bool wb) ∧ Below w.heap.size w w')
    (h18 : ∀ w, Calls Tryd.prog 18 #[.string s] w fun e w' => e = .returned (.bool nb) ∧ w' = w) (h19 : ∀ w, Calls Tryd.prog 19 #[.string s] w fun e w' => e = .returned (.bool nb) ∧ Below w.heap.size w w')
    (h10 : ∀ w, VarOk w → Calls Tryd.prog 10 #[.string s] w fun e w' => ∃ g cap, e = .returned (.tuple #[.slice (some ⟨g, 0, none⟩) 1 cap, .int .i64 0, .int .i64 0]) ∧ Below w.heap.size w w' ∧ w'.cell? ⟨g, 0, none⟩ = some (.int .i64 x.kind) ∧ w'.cell? ⟨g, 2, none⟩ = some (.string x.text)) :
    Calls Tryd.prog 8 #[.string s] w fun e w' => e = .returned (.bool true) ∧ Below w.heap.size w w' := by
  have hwn : (wb != wb) = false := by simp
  have hnn : (nb != nb) = false := by simp
  have hk3 : ab = true → (x.kind == 3) = wb := fun h => by rw [← hwb, h]; rfl
  have hk1 : ab = true → (x.kind == 1) = nb := fun h => by rw [← hnb, h]; rfl
  have hf3 : ab = false → wb = false := fun h => by rw [← hwb, h]; rfl
  have hf1 : ab = false → nb = false := fun h => by rw [← hnb, h]; rfl
  clear hwb hnb
  cases ab
  · obtain rfl := hf3 rfl
    obtain rfl := hf1 rfl
    clear hk3 hk1 hf3 hf1 hwn hnn
    go_enter Tryd.func8, Tryd.ntmps8
    go_wp2_with fail
    refine (awake_any _ hv).mono ?_
    rintro e w1 ⟨rfl, hb1⟩
    have hv1 := hv.below hb1
    go_wp2_with fail
    refine (h16 _).mono ?_
    rintro e w2 ⟨rfl, rfl⟩
    go_wp2_with fail
    refine (h17 _).mono ?_
    rintro e w3 ⟨rfl, hb3⟩
    have hv3 := hv1.below hb3
    go_wp2_with fail
    refine (h18 _).mono ?_
    rintro e w4 ⟨rfl, rfl⟩
    go_wp2_with fail
    refine (h19 _).mono ?_
    rintro e w5 ⟨rfl, hb5⟩
    have hv5 := hv3.below hb5
    go_wp2_with fail
    refine (h10 _ hv5).mono ?_
    rintro e w6 ⟨g, cap, rfl, hb6, hc0, hc2⟩
    go_wp2_with fail
    refine (h16 _).mono ?_
    rintro e w7 ⟨rfl, rfl⟩
    go_wp2_with fail
    refine (h18 _).mono ?_
    rintro e w8 ⟨rfl, rfl⟩
    go_wp2_with fail
    go_ret
    have hz1 := hb1.size
    have hz3 := hb3.size
    have hz5 := hb5.size
    exact ⟨rfl, ((hb1.trans (hb3.mono hz1)).trans (hb5.mono (by omega))).trans (hb6.mono (by omega))⟩
  · have k3 := hk3 rfl
    have k1 := hk1 rfl
    clear hk3 hk1 hf3 hf1
    cases wb <;> cases nb
    all_goals
      go_enter Tryd.func8, Tryd.ntmps8
      go_wp2_with fail
      refine (awake_any _ hv).mono ?_
      rintro e w1 ⟨rfl, hb1⟩
      have hv1 := hv.below hb1
      go_wp2_with fail
      refine (h16 _).mono ?_
      rintro e w2 ⟨rfl, rfl⟩
      go_wp2_with fail
      refine (h17 _).mono ?_
      rintro e w3 ⟨rfl, hb3⟩
      have hv3 := hv1.below hb3
      go_wp2_with fail
      refine (h18 _).mono ?_
      rintro e w4 ⟨rfl, rfl⟩
      go_wp2_with fail
      refine (h19 _).mono ?_
      rintro e w5 ⟨rfl, hb5⟩
      have hv5 := hv3.below hb5
      go_wp2_with fail
      refine (h10 _ hv5).mono ?_
      rintro e w6 ⟨g, cap, rfl, hb6, hc0, hc2⟩
      go_wp2_with fail
      refine (h16 _).mono ?_
      rintro e w7 ⟨rfl, rfl⟩
      go_wp2_with fail
      refine (h18 _).mono ?_
      rintro e w8 ⟨rfl, rfl⟩
      go_wp2_with fail
      go_ret
      have hz1 := hb1.size
      have hz3 := hb3.size
      have hz5 := hb5.size
      exact ⟨rfl, ((hb1.trans (hb3.mono hz1)).trans (hb5.mono (by omega))).trans (hb6.mono (by omega))⟩

end Go.Proofs.YtdlddloggjckmaaDoor
