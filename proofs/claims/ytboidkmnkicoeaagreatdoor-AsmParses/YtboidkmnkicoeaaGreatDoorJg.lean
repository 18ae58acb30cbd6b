/- What holds of a line as it is read, and of all that has been read. -/
import Derived.Test.YtboidkmnkicoeaaGreatDoorJj
import Derived.Test.YtboidkmnkicoeaaGreatDoorJf
namespace Go.Proofs.YtboidkmnkicoeaaGreatDoor
open Go.RowKit

theorem rowZ_app (n : Nat) (x : Nat × Bt) : ∀ (pre : List (Nat × Bt)) (r r' : Rs), rowZ n r pre = .ok r' → rowZ n r (pre ++ [x]) = tkZ n r' x.1 x.2
  | [], r, r', h => by
    injection h with h
    subst h
    obtain ⟨p, w⟩ := x
    rw [List.nil_append, rowZ]
    cases tkZ n r p w <;> rfl
  | (p, w) :: t, r, r', h => by
    rw [rowZ] at h
    rw [List.cons_append, rowZ]
    cases ht : tkZ n r p w with
    | error e => rw [ht] at h; cases h
    | ok r1 => rw [ht] at h; exact rowZ_app n x t r1 r' h
theorem rowZ_err (n : Nat) (t : List (Nat × Bt)) {e : Int × Nat} : ∀ (pre : List (Nat × Bt)) (r : Rs), rowZ n r pre = .error e → rowZ n r (pre ++ t) = .error e
  | [], r, h => by cases h
  | (p, w) :: s, r, h => by
    rw [rowZ] at h
    rw [List.cons_append, rowZ]
    cases ht : tkZ n r p w with
    | error e => rw [ht] at h; exact h
    | ok r1 => rw [ht] at h; exact rowZ_err n t s r1 h
theorem bgZ_num {n : Nat} {l : Bt} (h : (bgZ n l).1 = 0) : ((bgZ n l).2 = -1 → n = 1) ∧ ((bgZ n l).2 = -2 → n ≠ 1) ∧ (0 ≤ (bgZ n l).2 → 3 ≤ n) := by
  unfold bgZ at h ⊢
  by_cases h1 : n = 1 ∧ l = widenB
  · rw [if_pos h1]; exact ⟨fun _ => h1.1, fun e => (by cases e), fun e => absurd e (by decide)⟩
  · rw [if_neg h1] at h ⊢
    by_cases h2 : n ≠ 1 ∧ l = funcB
    · rw [if_pos h2]; exact ⟨fun e => (by cases e), fun _ => h2.1, fun e => absurd e (by decide)⟩
    · rw [if_neg h2] at h ⊢
      by_cases h3 : n ≤ 2
      · rw [if_pos h3] at h; cases h
      · rw [if_neg h3] at h ⊢
        cases ho : opOf l with
        | none => rw [ho] at h; cases h
        | some k => exact ⟨fun e => (by simp only at e; omega), fun e => (by simp only at e; omega), fun _ => by omega⟩
/-- What holds of line n after k words, each of them no longer than q. -/
structure RwI (n k q : Nat) (r : Rs) : Prop where
  words : r.words = k
  kok : KOk r
  zero : r.words = 0 → r.ns = [] ∧ r.name = []
  head : r.words ≠ 0 → r.kind = -2 → (r.words = 1 ∧ r.ns = []) ∨ r.ns.length + 2 = r.words
  rest : r.words ≠ 0 → r.kind ≠ -2 → r.ns.length + 1 = r.words
  ok : ∀ z ∈ r.ns, I64 z
  one : r.words ≠ 0 → (r.kind = -1 → n = 1) ∧ (r.kind = -2 → n ≠ 1) ∧ (0 ≤ r.kind → 3 ≤ n)
  name : r.name.length ≤ q
theorem RwI.start (n q : Nat) : RwI n 0 q rs0 := ⟨rfl, .inl rfl, fun _ => ⟨rfl, rfl⟩, fun h => absurd rfl h, fun h => absurd rfl h, fun z hz => by simp [rs0] at hz, fun h => absurd rfl h, Nat.zero_le _⟩
theorem RwI.next {n k q p : Nat} {r r' : Rs} {w : Bt} (h : RwI n k q r) (hw : w.length ≤ q) (ht : tkZ n r p w = .ok r') : RwI n (k + 1) q r' := by
  obtain ⟨hk, hws⟩ := tkZ_ok ht h.kok
  have hws' := hws
  unfold tkZ at ht
  by_cases h0 : r.words = 0
  · rw [if_pos h0] at ht
    by_cases h1 : (bgZ n w).1 = 0
    · rw [if_pos h1] at ht
      injection ht with ht
      subst ht
      obtain ⟨z1, z2⟩ := h.zero h0
      exact ⟨by have := h.words; show 1 = k + 1; omega, hk, fun e => absurd e (by simp), fun _ _ => .inl ⟨rfl, z1⟩, fun _ _ => by show r.ns.length + 1 = 1; rw [z1]; rfl, h.ok, fun _ => bgZ_num h1, h.name⟩
    · rw [if_neg h1] at ht; cases ht
  · rw [if_neg h0] at ht
    by_cases h1 : r.words = 1 ∧ r.kind = -2
    · rw [if_pos h1] at ht
      injection ht with ht
      subst ht
      have hns : r.ns = [] := by
        rcases h.head h0 h1.2 with ⟨_, e⟩ | e
        · exact e
        · have := h1.1; omega
      exact ⟨by have := h.words; have := h1.1; show 2 = k + 1; omega, hk, fun e => absurd e (by simp), fun _ _ => .inr (by show r.ns.length + 2 = 2; rw [hns]; rfl), fun _ e => absurd h1.2 e, h.ok, fun _ => h.one h0, hw⟩
    · rw [if_neg h1] at ht
      by_cases h2 : 0 ≤ r.kind ∧ (hasL r.kind).length < r.words
      · rw [if_pos h2] at ht; cases ht
      · rw [if_neg h2] at ht
        cases hn : numB w with
        | none => rw [hn] at ht; cases ht
        | some v =>
          rw [hn] at ht
          injection ht with ht
          subst ht
          refine ⟨by have := h.words; show r.words + 1 = k + 1; omega, hk, fun e => absurd e (by simp), fun _ e => .inr ?_, fun _ e => ?_, fun z hz => ?_, fun _ => h.one h0, h.name⟩
          · rcases h.head h0 e with ⟨e1, _⟩ | e1
            · exact absurd ⟨e1, e⟩ h1
            · show (r.ns ++ [v]).length + 2 = r.words + 1; rw [List.length_append, List.length_singleton]; omega
          · have := h.rest h0 e
            show (r.ns ++ [v]).length + 1 = r.words + 1; rw [List.length_append, List.length_singleton]; omega
          · rcases List.mem_append.1 hz with hz | hz
            · exact h.ok z hz
            · rw [List.mem_singleton] at hz; subst hz; exact (numB_some hn).2
theorem RwI.row {n q : Nat} : ∀ (pre : List (Nat × Bt)) (k : Nat) (r r' : Rs), RwI n k q r → (∀ x ∈ pre, x.2.length ≤ q) → rowZ n r pre = .ok r' → RwI n (k + pre.length) q r'
  | [], k, r, r', h, _, e => by injection e with e; subst e; exact h
  | (p, w) :: t, k, r, r', h, hq, e => by
    rw [rowZ] at e
    cases ht : tkZ n r p w with
    | error q => rw [ht] at e; cases e
    | ok r1 =>
      rw [ht] at e
      have := RwI.row t (k + 1) r1 r' (h.next (hq (p, w) (by simp)) ht) (fun x hx => hq x (by simp [hx])) e
      rwa [List.length_cons, show k + (t.length + 1) = k + 1 + t.length by omega]
theorem plc_mem : ∀ (p : Nat) (l : List Bt), ∀ x ∈ plc p l, x.2 ∈ l
  | _, [], x, h => by cases h
  | p, w :: t, x, h => by
    rw [plc] at h
    rcases List.mem_cons.1 h with rfl | h
    · simp
    · exact List.mem_cons_of_mem _ (plc_mem _ t x h)
theorem jn_len (c : UInt8) : ∀ (l : List Bt), ∀ w ∈ l, w.length ≤ (jn c l).length
  | [], w, h => by cases h
  | [a], w, h => by rw [List.mem_singleton] at h; subst h; exact Nat.le_refl _
  | a :: b :: t, w, h => by
    rw [jn_cons c a (by simp), List.length_append, List.length_cons]
    rcases List.mem_cons.1 h with rfl | h
    · omega
    · have := jn_len c (b :: t) w h; omega
theorem jn_places (c : UInt8) : ∀ (l : List Bt) (p : Nat), ∀ x ∈ plc p l, x.1 ≤ p + (jn c l).length
  | [], _, x, h => by cases h
  | [a], p, x, h => by
    rw [plc, plc, List.mem_singleton] at h; subst h; simp
  | a :: b :: t, p, x, h => by
    rw [jn_cons c a (by simp), List.length_append, List.length_cons]
    rw [plc] at h
    rcases List.mem_cons.1 h with rfl | h
    · simp
    · have := jn_places c (b :: t) (p + a.length + 1) x h; omega
theorem jn_count (c : UInt8) : ∀ (l : List Bt), l.length ≤ (jn c l).length + 1
  | [] => by simp
  | [a] => by simp
  | a :: b :: t => by
    have := jn_count c (b :: t)
    rw [jn_cons c a (by simp)]
    simp only [List.length_cons, List.length_append] at *
    omega
theorem plc_first : ∀ (l : List Bt) (p j : Nat) (x : Nat × Bt), (plc p l)[j]? = some x → p + j ≤ x.1
  | [], _, j, x, h => by simp [plc] at h
  | a :: t, p, 0, x, h => by simp [plc] at h; subst h; simp
  | a :: t, p, j + 1, x, h => by
    rw [plc, List.getElem?_cons_succ] at h
    have := plc_first t _ j x h
    omega
/-- What holds of the words of a line: their places, their lengths, how many there are. -/
theorem line_words (l : Bt) : (∀ x ∈ plc 0 (spl 32 l), x.2.length ≤ l.length ∧ x.1 ≤ l.length) ∧ (plc 0 (spl 32 l)).length ≤ l.length + 1 ∧ (plc 0 (spl 32 l)).length ≠ 0 := by
  have hj := jn_spl 32 l
  refine ⟨fun x hx => ⟨?_, ?_⟩, ?_, ?_⟩
  · have := jn_len 32 _ _ (plc_mem _ _ _ hx); rwa [hj] at this
  · have := jn_places 32 _ 0 x hx; rw [hj] at this; omega
  · have := jn_count 32 (spl 32 l); rw [plc_len]; rwa [hj] at this
  · rw [plc_len]
    have := spl_ne 32 l
    cases h : spl 32 l with
    | nil => exact absurd h this
    | cons a t => simp
/-- What holds of a line that has been read. -/
structure LnI (n q : Nat) (r : Rs) : Prop where
  kind : r.kind = -1 ∨ r.kind = -2 ∨ (0 ≤ r.kind ∧ r.kind ≤ 19)
  words : r.words ≤ q + 1
  hnl : whole r = true → r.kind = -2 → r.ns.length + 2 = r.words
  hni : 0 ≤ r.kind → r.ns.length + 1 = r.words
  hn1 : r.kind = -1 → r.ns.length + 1 = r.words
  ok : ∀ z ∈ r.ns, I64 z
  one : (r.kind = -1 → n = 1) ∧ (r.kind = -2 → n ≠ 1) ∧ (0 ≤ r.kind → 3 ≤ n)
  name : r.name.length ≤ q
theorem row_line {n : Nat} {l : Bt} {r : Rs} (h : rowZ n rs0 (plc 0 (spl 32 l)) = .ok r) : LnI n l.length r := by
  obtain ⟨h1, h2, h3⟩ := line_words l
  have hr := RwI.row _ 0 rs0 r (RwI.start n l.length) (fun x hx => (h1 x hx).1) h
  rw [Nat.zero_add] at hr
  have hw : r.words ≠ 0 := by rw [hr.words]; exact h3
  refine ⟨hr.kok.resolve_left hw, by rw [hr.words]; exact h2, fun hwh hk => ?_, fun hk => hr.rest hw (by omega), fun hk => hr.rest hw (by omega), hr.ok, hr.one hw, hr.name⟩
  rcases hr.head hw hk with ⟨e, _⟩ | e
  · unfold whole at hwh
    rw [if_neg (by omega), if_pos hk] at hwh
    have := of_decide_eq_true hwh
    omega
  · exact e
/-- What holds of all that has been read, n lines. -/
structure PrI (n : Nat) (d : Dr) : Prop where
  ok : DOk n d
  fs : 2 ≤ n → d.fs ≠ []
theorem PrI.start : PrI 0 dr0 := ⟨⟨rfl, fun f hf => by simp [dr0] at hf, fun z hz => by simp [dr0] at hz, fun h hh => by simp [dr0] at hh⟩, fun h => by omega⟩
theorem hdF_er (r : Rs) : (hdF r).er = hdF r := rfl
theorem PrI.next {n q : Nat} {d : Dr} (h : PrI n d) {r : Rs} (hr : LnI (n + 1) q r) : PrI (n + 1) (addZ d (n + 1) r) := by
  unfold addZ
  obtain ⟨h1, h2, h3⟩ := hr.one
  by_cases k1 : r.kind = -1
  · rw [if_pos k1]
    exact ⟨⟨h.ok.len, h.ok.er, hr.ok, fun x hx => by have := h.ok.hs x hx; omega⟩, fun e => by have := h1 k1; omega⟩
  · rw [if_neg k1]
    by_cases k2 : r.kind = -2
    · rw [if_pos k2]
      refine ⟨⟨?_, fun f hf => ?_, h.ok.ths, fun x hx => ?_⟩, fun _ => by simp⟩
      · show (d.hs ++ [n + 1]).length = (d.fs ++ [hdF r]).length
        rw [List.length_append, List.length_append, h.ok.len]; rfl
      · rcases List.mem_append.1 hf with hf | hf
        · exact h.ok.er f hf
        · rw [List.mem_singleton] at hf; subst hf; rfl
      · rcases List.mem_append.1 hx with hx | hx
        · have := h.ok.hs x hx; omega
        · rw [List.mem_singleton] at hx; omega
    · rw [if_neg k2]
      have h0 : 0 ≤ r.kind := by rcases hr.kind with e | e | e; · exact absurd e k1
                                 · exact absurd e k2
                                 · exact e.1
      have hn := h3 h0
      have hf := h.fs (by omega)
      refine ⟨⟨?_, fun f hf' => ?_, h.ok.ths, fun x hx => by have := h.ok.hs x hx; omega⟩, fun _ e => ?_⟩
      · show d.hs.length = (d.fs.modify _ _).length
        rw [List.length_modify]; exact h.ok.len
      · obtain ⟨i, hi⟩ := List.getElem?_of_mem hf'
        simp only at hi
        rw [List.getElem?_modify] at hi
        cases hg : d.fs[i]? with
        | none => rw [hg] at hi; cases hi
        | some g =>
          rw [hg] at hi
          have hge := h.ok.er g (List.mem_of_getElem? hg)
          simp only [Option.map_eq_map, Option.map_some, Option.some.injEq] at hi
          subst hi
          split
          · exact er_eq hge _
          · exact hge
      · have := congrArg List.length e
        simp only [List.length_modify, List.length_nil] at this
        exact hf (List.eq_nil_of_length_eq_zero this)
/-- The text's rest has no further end of a line. -/
theorem go_last {l : Bt} (h : (10 : UInt8) ∉ l) (n : Nat) (d : Dr) (hl : n = 1 ∨ l ≠ []) : goZ (spl 10 l) n d = match lineZ n l false with | .error e => .error (e.1, n, e.2) | .ok _ => .ok d := by
  rw [spl_no h, goZ, if_neg (fun e => hl.elim e.1 (fun h => h e.2))]
  cases lineZ n l false <;> rfl
theorem go_line {a r : Bt} (h : (10 : UInt8) ∉ a) (n : Nat) (d : Dr) : goZ (spl 10 (a ++ 10 :: r)) n d = match lineZ n a true with | .error e => .error (e.1, n, e.2) | .ok q => goZ (spl 10 r) (n + 1) (addZ d n q) := by
  rw [spl_cut r h]
  have := spl_ne 10 r
  cases hs : spl 10 r with
  | nil => exact absurd hs this
  | cons b t =>
    rw [goZ]
    · cases lineZ n a true <;> rfl
    · simp
theorem go_end (n : Nat) (d : Dr) (h : n ≠ 1) : goZ (spl 10 []) n d = .ok d := by
  rw [show spl 10 [] = [[]] from rfl, goZ, if_pos ⟨h, rfl⟩]
/-- A line by its words. -/
theorem line_err {n : Nat} {l : Bt} {e : Int × Nat} (en : Bool) (h : rowZ n rs0 (plc 0 (spl 32 l)) = .error e) : lineZ n l en = .error e := by unfold lineZ; rw [h]
theorem line_short {n : Nat} {l : Bt} {r : Rs} {en : Bool} (h : rowZ n rs0 (plc 0 (spl 32 l)) = .ok r) (hw : (en && whole r) = false) : lineZ n l en = .error (6, l.length) := by unfold lineZ; rw [h]; simp only; rw [hw]; rfl
theorem line_ok {n : Nat} {l : Bt} {r : Rs} (h : rowZ n rs0 (plc 0 (spl 32 l)) = .ok r) (hw : whole r = true) : lineZ n l true = .ok r := by unfold lineZ; rw [h]; simp only; rw [hw]; rfl
/-- What is wrong is something. -/
theorem tkZ_err {n p : Nat} {r : Rs} {w : Bt} {e : Int × Nat} (h : tkZ n r p w = .error e) : e.1 ≠ 0 := by
  unfold tkZ at h
  split at h
  · split at h
    · cases h
    · rename_i h1; injection h with h; subst h; exact h1
  · split at h
    · cases h
    · split at h
      · injection h with h; subst h; simp
      · split at h
        · injection h with h; subst h; simp
        · cases h
end Go.Proofs.YtboidkmnkicoeaaGreatDoor

/- Plain: what is printed is read as it was. -/
namespace Go.Proofs.YtboidkmnkicoeaaGreatDoor
open Go.RowKit

theorem itoa_no {n : Int} {c : UInt8} (hc : c = 32 ∨ c = 10) : c ∉ Lib.itoa n := fun h => by
  have := itoa_signs n c h
  rcases hc with rfl | rfl <;> revert this <;> decide
theorem nums_no (ns : List Int) : (10 : UInt8) ∉ ns.flatMap numT := fun h => by
  obtain ⟨n, _, h2⟩ := List.mem_flatMap.1 h
  rcases List.mem_cons.1 h2 with h2 | h2
  · revert h2; decide
  · exact itoa_no (.inr rfl) h2
theorem spl_nums : ∀ (ns : List Int) {b : Bt}, (32 : UInt8) ∉ b → spl 32 (b ++ ns.flatMap numT) = b :: ns.map Lib.itoa
  | [], b, hb => by simp [spl_no hb]
  | n :: r, b, hb => by
    rw [List.flatMap_cons, show b ++ (numT n ++ r.flatMap numT) = b ++ 32 :: (Lib.itoa n ++ r.flatMap numT) from rfl, spl_cut _ hb, spl_nums r (itoa_no (.inl rfl)), List.map_cons]
theorem row_nums (n : Nat) : ∀ (ns : List Int) (r : Rs) (p : Nat), r.words ≠ 0 → ¬ (r.words = 1 ∧ r.kind = -2) → (r.kind < 0 ∨ r.words + ns.length ≤ 1 + (hasL r.kind).length) → (∀ z ∈ ns, I64 z) → rowZ n r (plc p (ns.map Lib.itoa)) = .ok ⟨r.words + ns.length, r.kind, r.name, r.ns ++ ns⟩
  | [], r, p, _, _, _, _ => by simp [plc, rowZ]
  | z :: t, r, p, h0, h1, h2, h3 => by
    have hk : tkZ n r p (Lib.itoa z) = .ok ⟨r.words + 1, r.kind, r.name, r.ns ++ [z]⟩ := by
      unfold tkZ
      rw [if_neg h0, if_neg h1, if_neg (fun e => by have := e.1; have := e.2; simp only [List.length_cons] at h2; omega), numB_itoa (h3 z (by simp))]
    rw [List.map_cons, plc, rowZ, hk]
    have := row_nums n t ⟨r.words + 1, r.kind, r.name, r.ns ++ [z]⟩ (p + (Lib.itoa z).length + 1) (by simp) (by simp only; omega) (by simp only [List.length_cons] at h2 ⊢; omega) (fun y hy => h3 y (by simp [hy]))
    simp only at this ⊢
    rw [this]
    simp only [List.length_cons, List.append_assoc, List.singleton_append]
    congr 2
    omega
theorem line_widen {ths : List Int} (h : ∀ z ∈ ths, I64 z) : lineZ 1 (widenB ++ ths.flatMap numT) true = .ok ⟨1 + ths.length, -1, [], ths⟩ := by
  have hr : rowZ 1 rs0 (plc 0 (spl 32 (widenB ++ ths.flatMap numT))) = .ok ⟨1 + ths.length, -1, [], ths⟩ := by
    rw [spl_nums ths (by decide), plc, rowZ, show tkZ 1 rs0 0 widenB = .ok ⟨1, -1, [], []⟩ from rfl]
    exact row_nums 1 ths ⟨1, -1, [], []⟩ _ (by simp) (by simp) (.inl (by simp)) h
  exact line_ok hr rfl
theorem line_func {n : Nat} (hn : n ≠ 1) {nm : Bt} (h32 : (32 : UInt8) ∉ nm) {ns : List Int} (h : ∀ z ∈ ns, I64 z) (h2 : 2 ≤ ns.length) (he : ns.length % 2 = 0) : lineZ n (funcB ++ 32 :: nm ++ ns.flatMap numT) true = .ok ⟨2 + ns.length, -2, nm, ns⟩ := by
  have hb : bgZ n funcB = (0, -2) := by unfold bgZ; rw [if_neg (fun e => hn e.1), if_pos ⟨hn, rfl⟩]
  have hr : rowZ n rs0 (plc 0 (spl 32 (funcB ++ 32 :: nm ++ ns.flatMap numT))) = .ok ⟨2 + ns.length, -2, nm, ns⟩ := by
    rw [List.append_assoc, List.cons_append, spl_cut _ (by decide), spl_nums ns h32, plc, rowZ]
    have h1 : tkZ n rs0 0 funcB = .ok ⟨1, -2, [], []⟩ := by
      unfold tkZ
      rw [if_pos (show rs0.words = 0 from by unfold rs0; rfl), hb]
      rfl
    rw [h1]
    simp only
    rw [plc, rowZ]
    have h3 : tkZ n ⟨1, -2, [], []⟩ (0 + funcB.length + 1) nm = .ok ⟨2, -2, nm, []⟩ := by
      unfold tkZ
      rw [if_neg (by simp), if_pos ⟨rfl, rfl⟩]
    rw [h3]
    exact row_nums n ns ⟨2, -2, nm, []⟩ _ (by simp) (by simp) (.inl (by simp)) h
  refine line_ok hr ?_
  unfold whole
  rw [if_neg (by simp), if_pos (by simp)]
  exact decide_eq_true ⟨by simp only; omega, by simp only; omega⟩
theorem op_word {op : Int} (h0 : 0 ≤ op) (h1 : op ≤ 19) : opOf (rwOf op).word.data.toList = some op.toNat ∧ (rwOf op).word.data.toList ≠ funcB ∧ (32 : UInt8) ∉ (rwOf op).word.data.toList ∧ (10 : UInt8) ∉ (rwOf op).word.data.toList := by
  refine op_cases (P := fun op => opOf (rwOf op).word.data.toList = some op.toNat ∧ (rwOf op).word.data.toList ≠ funcB ∧ (32 : UInt8) ∉ (rwOf op).word.data.toList ∧ (10 : UInt8) ∉ (rwOf op).word.data.toList) h0 h1 ?_ ?_ ?_ ?_ ?_ ?_ ?_ ?_ ?_ ?_ ?_ ?_ ?_ ?_ ?_ ?_ ?_ ?_ ?_ ?_ <;> decide
theorem line_ins {n : Nat} (hn : 3 ≤ n) {x : Is} (h0 : 0 ≤ x.op) (h1 : x.op ≤ 19) (h : ∀ z ∈ insL x, I64 z) : lineZ n ((rwOf x.op).word.data.toList ++ (insL x).flatMap numT) true = .ok ⟨1 + (insL x).length, x.op, [], insL x⟩ := by
  obtain ⟨w1, w2, w3, _⟩ := op_word h0 h1
  have hb : bgZ n (rwOf x.op).word.data.toList = (0, x.op) := by
    unfold bgZ
    rw [if_neg (by omega), if_neg (fun e => w2 e.2), if_neg (by omega), w1]
    show ((0 : Int), ((x.op.toNat : Nat) : Int)) = _
    rw [show ((x.op.toNat : Nat) : Int) = x.op by omega]
  have hl : (insL x).length = (hasL x.op).length := by unfold insL; rw [List.length_map]
  have hr : rowZ n rs0 (plc 0 (spl 32 ((rwOf x.op).word.data.toList ++ (insL x).flatMap numT))) = .ok ⟨1 + (insL x).length, x.op, [], insL x⟩ := by
    rw [spl_nums _ w3, plc, rowZ]
    have h1 : tkZ n rs0 0 (rwOf x.op).word.data.toList = .ok ⟨1, x.op, [], []⟩ := by
      unfold tkZ
      rw [if_pos (show rs0.words = 0 from by unfold rs0; rfl), hb]
      rfl
    rw [h1]
    exact row_nums n (insL x) ⟨1, x.op, [], []⟩ _ (by simp) (by simp only; omega) (.inr (by simp only; omega)) h
  refine line_ok hr ?_
  unfold whole
  simp only
  rw [if_neg (by omega), if_neg (by omega), hl]
  exact decide_eq_true rfl
theorem go_step {n : Nat} {d : Dr} {l rest : Bt} {r : Rs} (h : (10 : UInt8) ∉ l) (hl : lineZ n l true = .ok r) : goZ (spl 10 (l ++ [10] ++ rest)) n d = goZ (spl 10 rest) (n + 1) (addZ d n r) := by
  rw [List.append_assoc, List.singleton_append, go_line h, hl]
theorem no_app {c : UInt8} {a b : Bt} (h1 : c ∉ a) (h2 : c ∉ b) : c ∉ a ++ b := fun h => (List.mem_append.1 h).elim h1 h2
theorem no_cons {c x : UInt8} {b : Bt} (h1 : c ≠ x) (h2 : c ∉ b) : c ∉ x :: b := fun h => (List.mem_cons.1 h).elim h1 h2
theorem line_count {b : Bt} (h : (10 : UInt8) ∉ b) (ns : List Int) : (lineT b ns).count 10 = 1 := by
  unfold lineT
  rw [List.count_append, List.count_eq_zero.2 (no_app h (nums_no ns))]
  rfl
/-- What is asked of an instruction that is printed. -/
structure InsI (x : Is) : Prop where
  h0 : 0 ≤ x.op
  h1 : x.op ≤ 19
  ok : ∀ z ∈ insL x, I64 z
  back : insF x.op (insL x) = x
theorem mod_last (fs : List Fn) (f : Fn) (g : Fn → Fn) : (fs ++ [f]).modify ((fs ++ [f]).length - 1) g = fs ++ [g f] := by
  rw [List.length_append, List.length_singleton, Nat.add_sub_cancel]
  apply List.ext_getElem?
  intro i
  rw [List.getElem?_modify]
  by_cases h : i < fs.length
  · rw [List.getElem?_append_left h, List.getElem?_append_left h]
    cases fs[i]? with
    | none => rfl
    | some a => simp; intro e; omega
  · by_cases h2 : i = fs.length
    · subst h2; simp
    · rw [List.getElem?_eq_none (by simp; omega), List.getElem?_eq_none (by simp; omega)]; rfl
theorem go_code (rest : Bt) : ∀ (code : List Is) (n : Nat) (ths : List Int) (hs : List Nat) (fs : List Fn) (f : Fn), 3 ≤ n → (∀ x ∈ code, InsI x) → goZ (spl 10 (code.flatMap insT ++ rest)) n ⟨ths, hs, fs ++ [f]⟩ = goZ (spl 10 rest) (n + (code.flatMap insT).count 10) ⟨ths, hs, fs ++ [{ f with code := f.code ++ code }]⟩
  | [], n, ths, hs, fs, f, _, _ => by simp
  | x :: r, n, ths, hs, fs, f, hn, h => by
    have hx := h x (by simp)
    obtain ⟨w1, w2, w3, w4⟩ := op_word hx.h0 hx.h1
    have h1 : insT x = ((rwOf x.op).word.data.toList ++ (insL x).flatMap numT) ++ [10] := rfl
    rw [List.flatMap_cons, List.append_assoc, h1, go_step (no_app w4 (nums_no _)) (line_ins hn hx.h0 hx.h1 hx.ok)]
    have ha : addZ ⟨ths, hs, fs ++ [f]⟩ n ⟨1 + (insL x).length, x.op, [], insL x⟩ = ⟨ths, hs, fs ++ [{ f with code := f.code ++ [x] }]⟩ := by
      have := hx.h0
      unfold addZ
      simp only
      rw [if_neg (by omega), if_neg (by omega), mod_last, hx.back]
      rfl
    rw [ha, go_code rest r (n + 1) ths hs fs { f with code := f.code ++ [x] } (by omega) (fun y hy => h y (by simp [hy]))]
    have hc : (insT x).count 10 = 1 := line_count w4 _
    rw [← h1, List.count_append, hc]
    simp only [List.append_assoc, List.singleton_append]
    rw [show n + 1 + List.count 10 (r.flatMap insT) = n + (1 + List.count 10 (r.flatMap insT)) by omega]
/-- What is asked of a function that is printed. -/
structure FnI (f : Fn) : Prop where
  n32 : (32 : UInt8) ∉ f.name.data.toList
  n10 : (10 : UInt8) ∉ f.name.data.toList
  ok : ∀ z ∈ hdN f, I64 z
  ins : ∀ x ∈ f.code, InsI x
theorem prs_flat : ∀ (l : List Sp), prs (l.flatMap fun s => [s.1, s.2]) = l
  | [] => rfl
  | s :: r => by
    rw [List.flatMap_cons]
    show (s.1, s.2) :: prs (r.flatMap fun s => [s.1, s.2]) = _
    rw [prs_flat r]
theorem hdN_eq (f : Fn) : (hdN f).length = 2 + 2 * f.params.length := by
  have : (f.params.flatMap fun s => [s.1, s.2]).length = 2 * f.params.length := by
    induction f.params with
    | nil => rfl
    | cons a r ih => rw [List.flatMap_cons, List.length_append, ih]; simp; omega
  unfold hdN
  simp only [List.length_cons]
  omega
theorem go_fns (rest : Bt) : ∀ (fl : List Fn) (n : Nat) (ths : List Int) (hs : List Nat) (fs : List Fn), 2 ≤ n → (∀ f ∈ fl, FnI f) → ∃ hs', goZ (spl 10 (fl.flatMap fnT ++ rest)) n ⟨ths, hs, fs⟩ = goZ (spl 10 rest) (n + (fl.flatMap fnT).count 10) ⟨ths, hs', fs ++ fl.map Fn.er⟩
  | [], n, ths, hs, fs, _, _ => ⟨hs, by simp⟩
  | f :: r, n, ths, hs, fs, hn, h => by
    have hf := h f (by simp)
    have hl := hdN_eq f
    have n10 : (10 : UInt8) ∉ funcB ++ 32 :: f.name.data.toList := no_app (by decide) (no_cons (by decide) hf.n10)
    have h1 : fnT f = ((funcB ++ 32 :: f.name.data.toList ++ (hdN f).flatMap numT) ++ [10]) ++ f.code.flatMap insT := rfl
    obtain ⟨hs', ih⟩ := go_fns rest r (n + 1 + (f.code.flatMap insT).count 10) ths (hs ++ [n]) (fs ++ [f.er]) (by omega) (fun g hg => h g (by simp [hg]))
    refine ⟨hs', ?_⟩
    rw [List.flatMap_cons, List.append_assoc, h1, List.append_assoc, go_step (no_app n10 (nums_no _)) (line_func (by omega) hf.n32 hf.ok (by omega) (by omega))]
    have ha : addZ ⟨ths, hs, fs⟩ n ⟨2 + (hdN f).length, -2, f.name.data.toList, hdN f⟩ = ⟨ths, hs ++ [n], fs ++ [{ f.er with code := [] }]⟩ := by
      unfold addZ
      rw [if_neg (by simp), if_pos (by simp)]
      unfold hdF Fn.er
      have hd : (hdN f).drop 2 = f.params.flatMap fun s => [s.1, s.2] := rfl
      simp only [hd, prs_flat, tb_of]
      rfl
    rw [ha, go_code _ f.code (n + 1) ths (hs ++ [n]) fs _ (by omega) hf.ins]
    have he : ({ ({ f.er with code := [] } : Fn) with code := ({ f.er with code := [] } : Fn).code ++ f.code } : Fn) = f.er := rfl
    rw [he, ih]
    have hc : (lineT (funcB ++ 32 :: f.name.data.toList) (hdN f)).count 10 = 1 := line_count n10 _
    have hc2 : (fnT f).count 10 = 1 + (f.code.flatMap insT).count 10 := by
      unfold fnT
      rw [List.count_append, hc]
    rw [← h1, List.count_append, hc2, List.map_cons, List.append_assoc, List.singleton_append]
    rw [show n + 1 + List.count 10 (f.code.flatMap insT) + List.count 10 (r.flatMap fnT) = n + (1 + List.count 10 (f.code.flatMap insT) + List.count 10 (r.flatMap fnT)) by omega]
/-- The whole module. -/
theorem go_mod (rest : Bt) {m : Mo} (ht : ∀ z ∈ m.ths, I64 z) (hf : ∀ f ∈ m.funcs, FnI f) : ∃ hs, goZ (spl 10 (moT m ++ rest)) 1 dr0 = goZ (spl 10 rest) (1 + (moT m).count 10) ⟨m.ths, hs, m.funcs.map Fn.er⟩ := by
  have h1 : moT m = ((widenB ++ m.ths.flatMap numT) ++ [10]) ++ m.funcs.flatMap fnT := rfl
  have n10 : (10 : UInt8) ∉ widenB := by decide
  have hc : (lineT widenB m.ths).count 10 = 1 := line_count n10 _
  have hc2 : (moT m).count 10 = 1 + (m.funcs.flatMap fnT).count 10 := by
    unfold moT
    rw [List.count_append, hc]
  obtain ⟨hs, ih⟩ := go_fns rest m.funcs 2 m.ths [] [] (by omega) hf
  refine ⟨hs, ?_⟩
  rw [hc2, h1, List.append_assoc, go_step (no_app n10 (nums_no _)) (line_widen ht)]
  show goZ _ 2 ⟨m.ths, [], []⟩ = _
  rw [ih, List.nil_append, show 2 + List.count 10 (m.funcs.flatMap fnT) = 1 + (1 + List.count 10 (m.funcs.flatMap fnT)) by omega]
theorem moT_count (m : Mo) : 1 ≤ (moT m).count 10 := by
  have hc : (lineT widenB m.ths).count 10 = 1 := line_count (by decide) _
  unfold moT
  rw [List.count_append, hc]
  omega
end Go.Proofs.YtboidkmnkicoeaaGreatDoor

/- Plain: a text that is taken is what its module prints; where a text is refused. -/
namespace Go.Proofs.YtboidkmnkicoeaaGreatDoor
open Go.RowKit

theorem ins_back {x : Is} (ha : bt (rwOf x.op).regs 0 = false → x.a = 0) (hb : bt (rwOf x.op).regs 1 = false → x.b = 0) (hc : bt (rwOf x.op).regs 2 = false → x.c = 0) (hn : ((rwOf x.op).n != 0) = false → x.n = 0) : insF x.op (insL x) = x := by
  obtain ⟨op, a, b, c, n⟩ := x
  unfold insF insL hasL
  simp only at *
  cases h0 : bt (rwOf op).regs 0 <;> cases h1 : bt (rwOf op).regs 1 <;> cases h2 : bt (rwOf op).regs 2 <;> cases h3 : ((rwOf op).n != 0) <;> simp [h0, h1, h2, h3] at ha hb hc hn <;> simp [setL, setF, getF] <;> simp [*]
theorem setL_op : ∀ (L : List Nat) (t : List Int) (x : Is), (setL L t x).op = x.op
  | [], _, x => by unfold setL; rfl
  | _ :: _, [], x => by unfold setL; rfl
  | k :: r, v :: t, x => by
    rw [setL, setL_op r t]
    match k with
    | 0 => rfl
    | 1 => rfl
    | 2 => rfl
    | _ + 3 => rfl
theorem insF_op (k : Int) (ns : List Int) : (insF k ns).op = k := setL_op _ _ _
theorem ins_forth {k : Int} {ns : List Int} (h : ns.length = (hasL k).length) : insL (insF k ns) = ns := by
  unfold insL
  rw [insF_op]
  unfold insF
  unfold hasL at h ⊢
  cases h0 : bt (rwOf k).regs 0 <;> cases h1 : bt (rwOf k).regs 1 <;> cases h2 : bt (rwOf k).regs 2 <;> cases h3 : ((rwOf k).n != 0) <;> rw [h0, h1, h2, h3] at h <;> simp only [if_true, if_false, Bool.false_eq_true, List.append_nil, List.nil_append, List.cons_append, List.length_cons, List.length_nil] at h ⊢
  all_goals
    match ns, h with
    | [], h => first | rfl | (simp at h)
    | [a], h => first | rfl | (simp at h)
    | [a, b], h => first | rfl | (simp at h)
    | [a, b, c], h => first | rfl | (simp at h)
    | [a, b, c, d], h => first | rfl | (simp at h)
    | a :: b :: c :: d :: e :: t, h => (simp at h)
/-- The words of a line as far as it has been read. -/
def firstB (k : Int) : Bt := if k = -1 then widenB else if k = -2 then funcB else (rwOf k).word.data.toList
def wordsOf (r : Rs) : List Bt := if r.words = 0 then [] else firstB r.kind :: ((if r.kind = -2 ∧ 2 ≤ r.words then [r.name] else []) ++ r.ns.map Lib.itoa)
theorem opN_word (w : Bt) : ∀ (k j i : Nat), opN w k j = some i → (rwN i).word.data.toList = w
  | 0, j, i, h => by cases h
  | k + 1, j, i, h => by
    rw [opN] at h
    split at h
    · rename_i e; injection h with h; subst h; exact e
    · exact opN_word w k (j + 1) i h
theorem bgZ_first {n : Nat} {l : Bt} (h : (bgZ n l).1 = 0) : firstB (bgZ n l).2 = l := by
  unfold bgZ at h ⊢
  by_cases h1 : n = 1 ∧ l = widenB
  · rw [if_pos h1]; unfold firstB; rw [if_pos rfl]; exact h1.2.symm
  · rw [if_neg h1] at h ⊢
    by_cases h2 : n ≠ 1 ∧ l = funcB
    · rw [if_pos h2]; unfold firstB; rw [if_neg (by decide), if_pos rfl]; exact h2.2.symm
    · rw [if_neg h2] at h ⊢
      by_cases h3 : n ≤ 2
      · rw [if_pos h3] at h; cases h
      · rw [if_neg h3] at h ⊢
        cases ho : opOf l with
        | none => rw [ho] at h; cases h
        | some k =>
          have h20 : k < 20 := by have := opN_lt l 20 0 k ho; omega
          simp only
          unfold firstB
          rw [if_neg (by omega), if_neg (by omega), rwOf_nat h20]
          exact opN_word l 20 0 k ho
theorem tk_words {n k q p : Nat} {r r' : Rs} {w : Bt} (h : RwI n k q r) (ht : tkZ n r p w = .ok r') : wordsOf r' = wordsOf r ++ [w] := by
  unfold tkZ at ht
  by_cases h0 : r.words = 0
  · rw [if_pos h0] at ht
    by_cases h1 : (bgZ n w).1 = 0
    · rw [if_pos h1] at ht
      injection ht with ht
      subst ht
      obtain ⟨z1, z2⟩ := h.zero h0
      unfold wordsOf
      rw [if_pos h0, if_neg (by simp)]
      simp only
      rw [bgZ_first h1, z1, if_neg (by omega)]
      rfl
    · rw [if_neg h1] at ht; cases ht
  · rw [if_neg h0] at ht
    by_cases h1 : r.words = 1 ∧ r.kind = -2
    · rw [if_pos h1] at ht
      injection ht with ht
      subst ht
      have hns : r.ns = [] := by
        rcases h.head h0 h1.2 with ⟨_, e⟩ | e
        · exact e
        · have := h1.1; omega
      unfold wordsOf
      rw [if_neg h0, if_neg (by simp)]
      simp only
      rw [hns, h1.2, if_pos ⟨rfl, by omega⟩, if_neg (by omega)]
      rfl
    · rw [if_neg h1] at ht
      by_cases h2 : 0 ≤ r.kind ∧ (hasL r.kind).length < r.words
      · rw [if_pos h2] at ht; cases ht
      · rw [if_neg h2] at ht
        cases hn : numB w with
        | none => rw [hn] at ht; cases ht
        | some v =>
          rw [hn] at ht
          injection ht with ht
          subst ht
          have hw := (numB_some hn).1
          unfold wordsOf
          rw [if_neg h0, if_neg (by simp)]
          simp only
          rw [List.map_append, List.map_singleton, ← hw]
          by_cases hk : r.kind = -2
          · rw [if_pos ⟨hk, by omega⟩, if_pos ⟨hk, by omega⟩]; simp
          · rw [if_neg (fun e => hk e.1), if_neg (fun e => hk e.1)]; simp
theorem row_words {n q : Nat} : ∀ (pre : List (Nat × Bt)) (k : Nat) (r r' : Rs), RwI n k q r → (∀ x ∈ pre, x.2.length ≤ q) → rowZ n r pre = .ok r' → wordsOf r' = wordsOf r ++ pre.map (·.2)
  | [], k, r, r', _, _, e => by injection e with e; subst e; simp
  | (p, w) :: t, k, r, r', h, hq, e => by
    rw [rowZ] at e
    cases ht : tkZ n r p w with
    | error q => rw [ht] at e; cases e
    | ok r1 =>
      rw [ht] at e
      rw [row_words t (k + 1) r1 r' (h.next (hq (p, w) (by simp)) ht) (fun x hx => hq x (by simp [hx])) e, tk_words h ht]
      simp
theorem jn_nums : ∀ (ns : List Int) (b : Bt), jn 32 (b :: ns.map Lib.itoa) = b ++ ns.flatMap numT
  | [], b => by simp [jn]
  | n :: r, b => by
    rw [List.map_cons, jn_cons 32 b (by simp), jn_nums r (Lib.itoa n), List.flatMap_cons]
    rfl
theorem line_row {n : Nat} {l : Bt} {en : Bool} {r : Rs} (h : lineZ n l en = .ok r) : rowZ n rs0 (plc 0 (spl 32 l)) = .ok r ∧ en = true ∧ whole r = true := by
  unfold lineZ at h
  cases hr : rowZ n rs0 (plc 0 (spl 32 l)) with
  | error e => rw [hr] at h; cases h
  | ok r1 =>
    rw [hr] at h
    simp only at h
    by_cases hw : (en && whole r1) = true
    · rw [if_pos hw] at h
      injection h with h
      subst h
      simp only [Bool.and_eq_true] at hw
      exact ⟨rfl, hw.1, hw.2⟩
    · rw [if_neg hw] at h; cases h
/-- The text of a line that is taken. -/
theorem line_text {n : Nat} {l : Bt} {r : Rs} (h : lineZ n l true = .ok r) : LnI n l.length r ∧ whole r = true ∧ l = (firstB r.kind ++ if r.kind = -2 then 32 :: r.name else []) ++ r.ns.flatMap numT := by
  obtain ⟨hr, _, hw⟩ := line_row h
  have hL := row_line hr
  refine ⟨hL, hw, ?_⟩
  obtain ⟨h1, h2, h3⟩ := line_words l
  have hRI := RwI.row _ 0 rs0 r (RwI.start n l.length) (fun x hx => (h1 x hx).1) hr
  have hws := row_words _ 0 rs0 r (RwI.start n l.length) (fun x hx => (h1 x hx).1) hr
  rw [plc_words] at hws
  have h0 : wordsOf rs0 = [] := by unfold wordsOf; rw [if_pos (by unfold rs0; rfl)]
  rw [h0, List.nil_append] at hws
  have hne : r.words ≠ 0 := by rw [hRI.words]; simpa using h3
  have hl : l = jn 32 (wordsOf r) := by rw [hws, jn_spl]
  unfold wordsOf at hl
  rw [if_neg hne] at hl
  by_cases hk : r.kind = -2
  · have h2' : 2 ≤ r.words := by have := hL.hnl hw hk; omega
    rw [if_pos ⟨hk, h2'⟩, List.singleton_append, jn_cons 32 _ (by simp), jn_nums] at hl
    rw [if_pos hk]
    simpa using hl
  · rw [if_neg (fun e => hk e.1), List.nil_append, jn_nums] at hl
    rw [if_neg hk, List.append_nil]
    exact hl
theorem flat_prs : ∀ (l : List Int), l.length % 2 = 0 → (prs l).flatMap (fun s => [s.1, s.2]) = l
  | [], _ => rfl
  | [a], h => by simp at h
  | a :: b :: t, h => by
    rw [prs, List.flatMap_cons, flat_prs t (by simp only [List.length_cons] at h; omega)]
    rfl
/-- One line more. -/
theorem add_text {n : Nat} {d : Dr} {l : Bt} {r : Rs} (hn : n ≠ 1) (hf : 3 ≤ n → d.fs ≠ []) (h : lineZ n l true = .ok r) : moT (moD (addZ d n r)) = moT (moD d) ++ (l ++ [10]) := by
  obtain ⟨hL, hw, hl⟩ := line_text h
  obtain ⟨o1, o2, o3⟩ := hL.one
  unfold addZ
  rw [if_neg (fun e => hn (o1 e))]
  by_cases hk : r.kind = -2
  · rw [if_pos hk]
    have h1 := hL.hnl hw hk
    have hwh : 4 ≤ r.words ∧ r.words % 2 = 0 := by
      unfold whole at hw
      rw [if_neg (by omega), if_pos hk] at hw
      exact of_decide_eq_true hw
    have hh : hdN (hdF r) = r.ns := by
      have e1 : hdN (hdF r) = r.ns.getD 0 0 :: r.ns.getD 1 0 :: (prs (r.ns.drop 2)).flatMap fun s => [s.1, s.2] := rfl
      rw [e1, flat_prs _ (by rw [List.length_drop]; omega)]
      match hq : r.ns with
      | [] => rw [hq] at h1; simp at h1; omega
      | [a] => rw [hq] at h1; simp at h1; omega
      | a :: b :: t => rfl
    rw [if_pos hk] at hl
    unfold firstB at hl
    rw [hk, if_neg (by decide), if_pos rfl] at hl
    have e2 : fnT (hdF r) = l ++ [10] := by
      unfold fnT lineT
      rw [hh, show (hdF r).name.data.toList = r.name from rfl, show (hdF r).code = [] from rfl, hl]
      simp
    unfold moT moD
    simp only
    rw [List.flatMap_append, List.flatMap_singleton, e2, List.append_assoc]
  · rw [if_neg hk]
    have h0 : 0 ≤ r.kind := by
      rcases hL.kind with e | e | e
      · exact absurd (o1 e) hn
      · exact absurd e hk
      · exact e.1
    have hfs := hf (o3 h0)
    obtain ⟨fs, f, hff⟩ : ∃ fs f, d.fs = fs ++ [f] := ⟨d.fs.dropLast, d.fs.getLast hfs, (List.dropLast_concat_getLast hfs).symm⟩
    have hwh : r.words = 1 + (hasL r.kind).length := by
      unfold whole at hw
      rw [if_neg (by omega), if_neg hk] at hw
      exact of_decide_eq_true hw
    have h1 := hL.hni h0
    rw [if_neg hk, List.append_nil] at hl
    unfold firstB at hl
    rw [if_neg (by omega), if_neg hk] at hl
    have e2 : insT (insF r.kind r.ns) = l ++ [10] := by
      unfold insT lineT
      rw [ins_forth (by omega), insF_op, ← hl]
    unfold moT moD
    simp only
    rw [hff, mod_last]
    have e3 : fnT (moreI (insF r.kind r.ns) f) = fnT f ++ (l ++ [10]) := by
      unfold fnT moreI
      simp only
      rw [List.flatMap_append, List.flatMap_singleton, e2]
      unfold hdN
      simp only [List.append_assoc]
    rw [List.flatMap_append, List.flatMap_append, List.flatMap_singleton, List.flatMap_singleton, e3]
    simp only [List.append_assoc]
theorem go_text (s : Bt) : ∀ (n : Nat) (d d' : Dr), 1 ≤ n → PrI n d → goZ (spl 10 s) (n + 1) d = .ok d' → moT (moD d') = moT (moD d) ++ s := by
  refine spl_rec (P := fun s => ∀ (n : Nat) (d d' : Dr), 1 ≤ n → PrI n d → goZ (spl 10 s) (n + 1) d = .ok d' → moT (moD d') = moT (moD d) ++ s) 10 (fun l hl n d d' hn hp h => ?_) (fun a r ha ih n d d' hn hp h => ?_) s
  · by_cases he : l = []
    · subst he
      rw [go_end _ _ (by omega)] at h
      injection h with h
      subst h
      simp
    · rw [go_last hl _ _ (.inr he)] at h
      cases hq : lineZ (n + 1) l false with
      | error e => rw [hq] at h; cases h
      | ok q => exact absurd (line_row hq).2.1 (by simp)
  · rw [go_line ha] at h
    cases hq : lineZ (n + 1) a true with
    | error e => rw [hq] at h; cases h
    | ok q =>
      rw [hq] at h
      have := ih (n + 1) _ d' (by omega) (hp.next (line_text hq).1) h
      rw [this, add_text (by omega) (fun _ => hp.fs (by omega)) hq]
      simp
theorem parse_text {s : Bt} {d : Dr} (h : goZ (spl 10 s) 1 dr0 = .ok d) : moT (moD d) = s := by
  rcases spl_cases 10 s with hs | ⟨a, r, ha, rfl⟩
  · rw [go_last hs _ _ (.inl rfl)] at h
    cases hq : lineZ 1 s false with
    | error e => rw [hq] at h; cases h
    | ok q => exact absurd (line_row hq).2.1 (by simp)
  · rw [go_line ha] at h
    cases hq : lineZ 1 a true with
    | error e => rw [hq] at h; cases h
    | ok q =>
      rw [hq] at h
      obtain ⟨hL, hw, hl⟩ := line_text hq
      obtain ⟨o1, o2, o3⟩ := hL.one
      have hk : q.kind = -1 := by
        rcases hL.kind with e | e | e
        · exact e
        · exact absurd rfl (o2 e)
        · have := o3 e.1; omega
      have := go_text r 1 _ d (Nat.le_refl _) (PrI.start.next hL) h
      rw [this]
      unfold addZ
      rw [if_pos hk]
      rw [if_neg (by omega), List.append_nil, hk] at hl
      unfold firstB at hl
      rw [if_pos rfl] at hl
      unfold moT moD lineT
      simp only
      rw [hl]
      simp [dr0]
end Go.Proofs.YtboidkmnkicoeaaGreatDoor

/- Plain: on which line a text is refused. -/
namespace Go.Proofs.YtboidkmnkicoeaaGreatDoor
open Go.RowKit

theorem rowZ_ne {n : Nat} {e : Int × Nat} : ∀ (pre : List (Nat × Bt)) (r : Rs), rowZ n r pre = .error e → e.1 ≠ 0
  | [], r, h => by cases h
  | (p, w) :: t, r, h => by
    rw [rowZ] at h
    cases ht : tkZ n r p w with
    | error q => rw [ht] at h; injection h with h; subst h; exact tkZ_err ht
    | ok r1 => rw [ht] at h; exact rowZ_ne t r1 h
theorem lineZ_ne {n : Nat} {l : Bt} {en : Bool} {e : Int × Nat} (h : lineZ n l en = .error e) : e.1 ≠ 0 := by
  unfold lineZ at h
  cases hr : rowZ n rs0 (plc 0 (spl 32 l)) with
  | error q => rw [hr] at h; injection h with h; subst h; exact rowZ_ne _ _ hr
  | ok r =>
    rw [hr] at h
    simp only at h
    split at h
    · cases h
    · injection h with h; subst h; simp
/-- A text is refused at one of its lines. -/
theorem go_lines (s : Bt) : ∀ (n : Nat) (d : Dr) (e : Int) (l p : Nat), goZ (spl 10 s) n d = .error (e, l, p) → e ≠ 0 ∧ n ≤ l ∧ l ≤ n + s.count 10 := by
  refine spl_rec (P := fun s => ∀ (n : Nat) (d : Dr) (e : Int) (l p : Nat), goZ (spl 10 s) n d = .error (e, l, p) → e ≠ 0 ∧ n ≤ l ∧ l ≤ n + s.count 10) 10 (fun t ht n d e l p h => ?_) (fun a r ha ih n d e l p h => ?_) s
  · by_cases he : n ≠ 1 ∧ t = []
    · rw [spl_no ht, goZ, if_pos he] at h; cases h
    · rw [go_last ht _ _ (by by_cases h1 : n = 1; · exact .inl h1
                             · exact .inr (fun e => he ⟨h1, e⟩))] at h
      cases hq : lineZ n t false with
      | error q =>
        rw [hq] at h
        injection h with h
        simp only [Prod.mk.injEq] at h
        obtain ⟨rfl, rfl, rfl⟩ := h
        exact ⟨lineZ_ne hq, Nat.le_refl _, by omega⟩
      | ok q => exact absurd (line_row hq).2.1 (by simp)
  · rw [go_line ha] at h
    rw [List.count_append, List.count_cons_self]
    cases hq : lineZ n a true with
    | error q =>
      rw [hq] at h
      injection h with h
      simp only [Prod.mk.injEq] at h
      obtain ⟨rfl, rfl, rfl⟩ := h
      exact ⟨lineZ_ne hq, Nat.le_refl _, by omega⟩
    | ok q =>
      rw [hq] at h
      have := ih (n + 1) _ e l p h
      exact ⟨this.1, by omega, by omega⟩
/-- A text whose last line isn't ended is refused. -/
theorem go_cut (s : Bt) : ∀ (n : Nat) (d d' : Dr), s ≠ [] → s.getLast? ≠ some 10 → goZ (spl 10 s) n d ≠ .ok d' := by
  refine spl_rec (P := fun s => ∀ (n : Nat) (d d' : Dr), s ≠ [] → s.getLast? ≠ some 10 → goZ (spl 10 s) n d ≠ .ok d') 10 (fun t ht n d d' h1 _ h => ?_) (fun a r ha ih n d d' _ h2 h => ?_) s
  · rw [go_last ht _ _ (.inr h1)] at h
    cases hq : lineZ n t false with
    | error q => rw [hq] at h; cases h
    | ok q => exact absurd (line_row hq).2.1 (by simp)
  · have hr : r ≠ [] := by
      rintro rfl
      rw [List.getLast?_append] at h2
      simp at h2
    rw [go_line ha] at h
    cases hq : lineZ n a true with
    | error q => rw [hq] at h; cases h
    | ok q =>
      rw [hq] at h
      refine ih (n + 1) _ d' hr ?_ h
      rw [List.getLast?_append, List.getLast?_cons] at h2
      intro e
      rw [e] at h2
      simp at h2
theorem parZ_cut {s : Bt} (h1 : s ≠ []) (h2 : s.getLast? ≠ some 10) : (parZ s).e ≠ 0 ∧ 1 ≤ (parZ s).line ∧ (parZ s).line ≤ ((1 + s.count 10 : Nat) : Int) := by
  unfold parZ
  cases h : goZ (spl 10 s) 1 dr0 with
  | ok d => exact absurd h (go_cut s 1 dr0 d h1 h2)
  | error q =>
    obtain ⟨e, l, p⟩ := q
    have := go_lines s 1 dr0 e l p h
    simp only
    exact ⟨this.1, by omega, by omega⟩
def nopB : Bt := [110, 111, 112]
theorem go_nop {n : Nat} (hn : 2 ≤ n) (d : Dr) : goZ (spl 10 (nopB ++ [10])) n d = .error (if n ≤ 2 then 5 else 60, n, 0) := by
  have hb : bgZ n nopB = (if n ≤ 2 then 5 else 60, 0) := by
    unfold bgZ
    rw [if_neg (by omega), if_neg (fun e => absurd e.2 (by decide))]
    split
    · rfl
    · rw [show opOf nopB = none by decide]
  have hl : lineZ n nopB true = .error (if n ≤ 2 then 5 else 60, 0) := by
    refine line_err true ?_
    rw [show spl 32 nopB = [nopB] by decide, plc, rowZ]
    have : tkZ n rs0 0 nopB = .error (if n ≤ 2 then 5 else 60, 0) := by
      unfold tkZ
      rw [if_pos (show rs0.words = 0 from by unfold rs0; rfl), hb]
      simp only
      rw [if_neg (by split <;> decide)]
    rw [this]
  rw [show nopB ++ [10] = nopB ++ 10 :: [] from rfl, go_line (by decide), hl]
theorem ins_of {m : Mo} {f : Fn} {x : Is} (h : insZ m f x = 0) (hx : x.Ok) : InsI x := by
  obtain ⟨h0, h1, h2, h3, h4⟩ := insZ_parts h
  have hk : 0 ≤ x.op ∧ x.op ≤ 19 := by unfold knB at h0; simpa using h0
  obtain ⟨o0, o1, o2, o3, o4⟩ := hx
  have hz : ∀ {r : Int} {has : Bool}, regZ has r f.regs = 0 → has = false → r = 0 := fun {r has} h e => by
    subst e
    unfold regZ at h
    simp only [Bool.false_eq_true, if_false] at h
    split at h
    · simp at h
    · rename_i e; simpa using e
  refine ⟨hk.1, hk.2, fun z hz' => ?_, ins_back (hz h1) (hz h2) (hz h3) (fun e => ?_)⟩
  · unfold insL at hz'
    obtain ⟨q, _, rfl⟩ := List.mem_map.1 hz'
    match q with
    | 0 => exact o1
    | 1 => exact o2
    | 2 => exact o3
    | _ + 3 => exact o4
  · unfold numZ at h4
    rw [if_pos (by simpa using e)] at h4
    split at h4
    · simp at h4
    · rename_i e; simpa using e
theorem fn_of {m : Mo} (h : (mayZ m).1 = 0) {f : Fn} (hf : f ∈ m.funcs) (h1 : I64 f.regs) (h2 : I64 f.words) (h3 : ∀ p ∈ f.params, spOk p) (h4 : ∀ x ∈ f.code, x.Ok) : FnI f := by
  have ho := may_fn h hf
  have hid := id_parts ho.nm
  refine ⟨fun hm => (lod_signs (hid.2.2 _ hm)).1 rfl, fun hm => (lod_signs (hid.2.2 _ hm)).2 rfl, fun z hz => ?_, fun x hx => ins_of (ho.ins x hx) (h4 x hx)⟩
  unfold hdN at hz
  rcases List.mem_cons.1 hz with rfl | hz
  · exact h1
  · rcases List.mem_cons.1 hz with rfl | hz
    · exact h2
    · obtain ⟨s, hs, hz⟩ := List.mem_flatMap.1 hz
      simp only [List.mem_cons, List.not_mem_nil, or_false] at hz
      rcases hz with rfl | rfl
      · exact (h3 s hs).1
      · exact (h3 s hs).2
/-- What is printed of a module that may be, and then read. -/
theorem back_of {m : Mo} {w : World} (h : (mayZ m).1 = 0) (hm : m.In w) (rest : Bt) : ∃ d, moD d = m.er ∧ goZ (spl 10 (moT m ++ rest)) 1 dr0 = goZ (spl 10 rest) (1 + (moT m).count 10) d := by
  obtain ⟨hs, hg⟩ := go_mod rest hm.2.1 (fun f hf => by
    obtain ⟨_, i1, i2, _, i3, _, i4⟩ := hm.2.2.2 f hf
    exact fn_of h hf i1 i2 i3 i4)
  exact ⟨_, rfl, hg⟩
theorem parZ_back {m : Mo} {w : World} (h : (mayZ m).1 = 0) (hm : m.In w) : ∃ d, moD d = m.er ∧ parZ (moT m) = ⟨d, 0, 0, 0⟩ := by
  obtain ⟨d, hd, hg⟩ := back_of h hm []
  refine ⟨d, hd, ?_⟩
  rw [List.append_nil, go_end _ _ (by have := moT_count m; omega)] at hg
  unfold parZ
  rw [hg]
  simp only
  rw [if_pos (by rw [hd, mayZ_er]; exact h)]
theorem add_hs {d : Dr} {n : Nat} {r : Rs} (hn : 1 ≤ n) (h : ∀ x ∈ d.hs, 1 ≤ x) : ∀ x ∈ (addZ d n r).hs, 1 ≤ x := by
  unfold addZ
  split
  · exact h
  · split
    · intro x hx
      rcases List.mem_append.1 hx with hx | hx
      · exact h x hx
      · rw [List.mem_singleton] at hx; omega
    · exact h
theorem go_pri (s : Bt) : ∀ (n : Nat) (d d' : Dr), PrI n d → (∀ x ∈ d.hs, 1 ≤ x) → goZ (spl 10 s) (n + 1) d = .ok d' → ∃ n', PrI n' d' ∧ ∀ x ∈ d'.hs, 1 ≤ x := by
  refine spl_rec (P := fun s => ∀ (n : Nat) (d d' : Dr), PrI n d → (∀ x ∈ d.hs, 1 ≤ x) → goZ (spl 10 s) (n + 1) d = .ok d' → ∃ n', PrI n' d' ∧ ∀ x ∈ d'.hs, 1 ≤ x) 10 (fun t ht n d d' hp hh h => ?_) (fun a r ha ih n d d' hp hh h => ?_) s
  · by_cases he : n + 1 ≠ 1 ∧ t = []
    · rw [spl_no ht, goZ, if_pos he] at h
      injection h with h
      subst h
      exact ⟨n, hp, hh⟩
    · rw [go_last ht _ _ (by by_cases h1 : n + 1 = 1; · exact .inl h1
                             · exact .inr (fun e => he ⟨h1, e⟩))] at h
      cases hq : lineZ (n + 1) t false with
      | error q => rw [hq] at h; cases h
      | ok q => exact absurd (line_row hq).2.1 (by simp)
  · rw [go_line ha] at h
    cases hq : lineZ (n + 1) a true with
    | error q => rw [hq] at h; cases h
    | ok q =>
      rw [hq] at h
      exact ih (n + 1) _ d' (hp.next (line_text hq).1) (add_hs (by omega) hh) h
theorem headZ_nn (m : Mo) (f : Fn) (k : Nat) : 0 ≤ (headZ m f k).2 := by
  unfold headZ
  split
  · simp
  · split
    · simp
    · split
      · simp
      · split
        · simp only; omega
        · split
          · simp
          · split
            · simp
            · split <;> simp
theorem headsN_nn {m : Mo} : ∀ (l : List Fn) (i : Nat), 0 ≤ (headsN m l i).2.2
  | [], _ => by simp [headsN]
  | f :: r, i => by
    rw [headsN]
    split
    · exact headZ_nn m f i
    · exact headsN_nn r (i + 1)
theorem codeZ_nn (m : Mo) (f : Fn) (h0 : 1 ≤ f.code.length) : 0 ≤ (codeZ m f).2 := by
  have := codeN_le (m := m) (f := f) f.code 0
  unfold codeZ
  split
  · omega
  · split
    · simp
    · simp only; omega
theorem codesN_nn {m : Mo} : ∀ (l : List Fn) (i : Nat), (∀ f ∈ l, 1 ≤ f.code.length) → 0 ≤ (codesN m l i).2.2
  | [], _, _ => by simp [codesN]
  | f :: r, i, h => by
    rw [codesN]
    split
    · exact codeZ_nn m f (h f (by simp))
    · exact codesN_nn r (i + 1) (fun g hg => h g (by simp [hg]))
theorem may_nn (m : Mo) : 0 ≤ (mayZ m).2.2 := by
  unfold mayZ
  split
  · unfold wholeZ
    split
    · simp
    · split
      · simp only; omega
      · split <;> simp
  · split
    · exact headsN_nn m.funcs 0
    · rename_i h1 h2
      refine codesN_nn m.funcs 0 (fun f hf' => ?_)
      have h2' : (headsN m m.funcs 0).1 = 0 := by simpa using h2
      obtain ⟨j, hj⟩ := List.getElem?_of_mem hf'
      exact (head_rest (heads_ok m.funcs 0 h2' j f hj)).2.2.2.2.2.2.2.2.2.1
theorem flt_one {n : Nat} {d : Dr} (hp : PrI n d) (hh : ∀ x ∈ d.hs, 1 ≤ x) (h : (mayZ (moD d)).1 ≠ 0) : 1 ≤ fltN d (mayZ (moD d)) := by
  unfold fltN
  split
  · omega
  · rename_i hq
    have hat := may_at h (fun e => hq (.inl e)) (fun e => hq (.inr e))
    have hn := may_nn (moD d)
    have hl : (mayZ (moD d)).2.1.toNat < d.hs.length := by
      rw [hp.ok.len]
      have : (moD d).funcs.length = d.fs.length := rfl
      omega
    have h1 : 1 ≤ d.hs.getD (mayZ (moD d)).2.1.toNat 0 := by
      rw [List.getD_eq_getElem?_getD, List.getElem?_eq_getElem hl]
      exact hh _ (List.getElem_mem hl)
    split <;> omega
theorem parZ_line {s : Bt} (h : (parZ s).e ≠ 0) : 1 ≤ (parZ s).line ∧ 0 ≤ (parZ s).at_ := by
  unfold parZ at h ⊢
  cases hg : goZ (spl 10 s) 1 dr0 with
  | error q =>
    obtain ⟨e, l, p⟩ := q
    have := go_lines s 1 dr0 e l p hg
    simp only
    exact ⟨by omega, by omega⟩
  | ok d =>
    rw [hg] at h
    simp only at h ⊢
    obtain ⟨n, hp, hh⟩ := go_pri s 0 dr0 d PrI.start (fun x hx => by simp [dr0] at hx) hg
    split at h
    · exact absurd rfl h
    · rename_i hz
      rw [if_neg hz]
      exact ⟨flt_one hp hh hz, by simp⟩
/-- A text that is taken. -/
theorem parZ_text {s : Bt} (h : (parZ s).e = 0) : (parZ s).line = 0 ∧ (parZ s).at_ = 0 ∧ moT (moD (parZ s).d) = s ∧ (mayZ (moD (parZ s).d)).1 = 0 := by
  unfold parZ at h ⊢
  cases hg : goZ (spl 10 s) 1 dr0 with
  | error q =>
    obtain ⟨e, l, p⟩ := q
    rw [hg] at h
    exact absurd h (go_lines s 1 dr0 e l p hg).1
  | ok d =>
    rw [hg] at h
    simp only at h ⊢
    split at h
    · rename_i hz
      rw [if_pos hz]
      exact ⟨rfl, rfl, parse_text hg, hz⟩
    · rename_i hz
      exact absurd h hz
/-- A line with no word of the table behind. -/
theorem parZ_nop {m : Mo} {w : World} (h : (mayZ m).1 = 0) (hm : m.In w) : parZ (moT m ++ (nopB ++ [10])) = ⟨dr0, if (moT m).count 10 = 1 then 5 else 60, (moT m).count 10 + 1, 0⟩ := by
  obtain ⟨d, hd, hg⟩ := back_of h hm (nopB ++ [10])
  have hc := moT_count m
  rw [go_nop (by omega)] at hg
  unfold parZ
  rw [hg]
  simp only
  congr 1
  · split
    · rw [if_pos (by omega)]
    · rw [if_neg (by omega)]
  · omega
end Go.Proofs.YtboidkmnkicoeaaGreatDoor
