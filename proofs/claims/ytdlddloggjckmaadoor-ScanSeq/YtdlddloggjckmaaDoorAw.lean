/- The statements' own first question: answers that the document fixes. -/
import Derived.Test.YtdlddloggjckmaaDoorH
import Derived.Test.YtdlddloggjckmaaDoorN
namespace Go.Proofs.YtdlddloggjckmaaDoor
open Go.RowKit Go.Shelf

def src1 : ByteArray := ⟨#[102, 111, 114, 32, 105, 32, 105, 110, 32, 48, 46, 46, 110]⟩
def src2 : ByteArray := ⟨#[120, 32, 61, 32, 48, 48, 55, 59]⟩
def its1 : List It := [⟨3, 0, ⟨#[102, 111, 114]⟩, 0, 0⟩, ⟨1, 4, ⟨#[105]⟩, 0, 0⟩, ⟨3, 6, ⟨#[105, 110]⟩, 0, 0⟩, ⟨2, 9, ⟨#[48]⟩, 0, 0⟩, ⟨4, 10, ⟨#[46, 46]⟩, 0, 0⟩, ⟨1, 12, ⟨#[110]⟩, 0, 0⟩]
def its2 : List It := [⟨1, 0, ⟨#[120]⟩, 0, 0⟩, ⟨4, 2, ⟨#[61]⟩, 0, 0⟩, ⟨0, 4, ⟨#[]⟩, 0, 11⟩]
theorem items1 : items src1 = its1 := by kernel_rfl
theorem items2 : items src2 = its2 := by kernel_rfl

theorem all1 (w : World) (hv : VarOk w) : Calls Tryd.prog 10 #[.string ⟨#[102, 111, 114, 32, 105, 32, 105, 110, 32, 48, 46, 46, 110]⟩] w fun e w' => ∃ g cap, e = .returned (.tuple #[.slice (some ⟨g, 0, none⟩) 6 cap, .int .i64 0, .int .i64 0]) ∧ Below w.heap.size w w' ∧ w.heap.size ≤ g ∧ 6 ≤ cap ∧ ∀ j u, (rowCells its1)[j]? = some u → w'.cell? ⟨g, j, none⟩ = some u :=
  (all_any src1 w (by decide) hv).mono fun e w' h => by
    obtain ⟨hb, ⟨pre, x, h1, _, h3, _⟩ | ⟨_, v, h2, h3⟩⟩ := h
    · rw [items1] at h1
      have : its1.all (fun y => y.err == 0) = true := by decide
      rw [h1, List.all_append] at this
      simp at this
      exact (h3 this.2).elim
    · rw [items1] at h3
      rcases h3.2 with ⟨_, h⟩ | ⟨g, cap, cur, rfl, hg, hc, hcap, _, hsz, ht⟩
      · cases h
      · refine ⟨g, cap, h2, hb, hg, hcap, fun j u hj => ?_⟩
        have hj' : cur[j]? = some u := by
          rw [← ht, List.getElem?_take] at hj
          split at hj
          · simpa using hj
          · cases hj
        simp [World.cell?, hc, hj']

theorem all2 (w : World) (hv : VarOk w) : Calls Tryd.prog 10 #[.string ⟨#[120, 32, 61, 32, 48, 48, 55, 59]⟩] w fun e w' => e = .returned (.tuple #[.slice none 0 0, .int .i64 11, .int .i64 4]) ∧ Below w.heap.size w w' :=
  (all_any src2 w (by decide) hv).mono fun e w' h => by
    obtain ⟨hb, ⟨pre, x, h1, _, h3, he⟩ | ⟨h, _⟩⟩ := h
    · rw [items2] at h1
      have hx : its2.getLast? = some x := by rw [h1]; simp
      have hx' : its2.getLast? = some ⟨0, 4, ⟨#[]⟩, 0, 11⟩ := rfl
      rw [hx'] at hx
      cases hx
      exact ⟨he, hb⟩
    · rw [items2] at h
      have := h ⟨0, 4, ⟨#[]⟩, 0, 11⟩ (by simp [its2])
      simp at this

theorem nm1 (w : World) : Calls Tryd.prog 18 #[.string ⟨#[105]⟩] w fun e w' => e = .returned (.bool true) ∧ w' = w := name_any ⟨#[105]⟩ w
theorem nm2 (w : World) : Calls Tryd.prog 18 #[.string ⟨#[105, 110]⟩] w fun e w' => e = .returned (.bool false) ∧ w' = w := name_any ⟨#[105, 110]⟩ w
theorem wd1 (w : World) : Calls Tryd.prog 16 #[.string ⟨#[105, 110]⟩] w fun e w' => e = .returned (.bool true) ∧ w' = w := word_any ⟨#[105, 110]⟩ w

set_option maxRecDepth 100000 in
set_option maxHeartbeats 2000000 in
theorem awake_any (w : World) (hv : VarOk w) : Calls Tryd.prog 9 #[] w fun e w' => e = .returned (.bool true) ∧ Below w.heap.size w w' := by
  go_enter Tryd.func9, Tryd.ntmps9
  go_wp2_with fail
  refine (all1 _ hv).mono ?_
  rintro e w1 ⟨g, cap, rfl, hb1, hg, hcap, hcell⟩
  go_wp2_with fail
  refine (all2 _ (hv.below hb1)).mono ?_
  rintro e w2 ⟨rfl, hb2⟩
  have hgl : g < w1.heap.size := Lib.lt_of_cell (hcell 0 _ rfl)
  have hc2 : ∀ j u, (rowCells its1)[j]? = some u → w2.cell? ⟨g, j, none⟩ = some u := fun j u hj => (hb2.cell (p := ⟨g, j, none⟩) hgl).trans (hcell j u hj)
  have k12 := hc2 12 _ rfl
  have k13 := hc2 13 _ rfl
  have k14 := hc2 14 _ rfl
  have k15 := hc2 15 _ rfl
  have k16 := hc2 16 _ rfl
  have k17 := hc2 17 _ rfl
  have k18 := hc2 18 _ rfl
  have k19 := hc2 19 _ rfl
  clear hc2 hcell
  go_wp2_with fail
  refine (nm1 _).mono ?_
  rintro e w3 ⟨rfl, rfl⟩
  go_wp2_with fail
  refine (nm2 _).mono ?_
  rintro e w3 ⟨rfl, rfl⟩
  go_wp2_with fail
  refine (wd1 _).mono ?_
  rintro e w3 ⟨rfl, rfl⟩
  go_wp2_with fail
  go_ret
  exact ⟨rfl, hb1.trans (hb2.mono hb1.size)⟩

set_option maxHeartbeats 400000 in
theorem scanNames_any (w : World) (hv : VarOk w) : Calls Tryd.prog 3 #[] w fun e w' => e = .returned (.bool true) ∧ Below w.heap.size w w' := by
  go_enter Tryd.func3, Tryd.ntmps3
  go_wp2_with (go_at_call 9; refine (awake_any _ hv).mono ?_; rintro e w1 ⟨rfl, hb⟩)
  go_ret
  exact ⟨rfl, hb⟩
end Go.Proofs.YtdlddloggjckmaaDoor
