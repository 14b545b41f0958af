/-
  The plain mathematics of layer deps: who waits for whom, as a list of pairs; rising lists; who goes with whom. No program stands here.
-/
import Derived.Test.YthbnbifagenpiaaStMath
namespace Go.Proofs.Ythbnbifagenpiaa.Dp
open T (Rises)

/-- one that waits, and for whom -/
abbrev Wt := Int × Int

def has (l : List Int) (n : Int) : Bool := decide (n ∈ l)
/-- those below n come first -/
def put (l : List Int) (n : Int) : List Int := if n ∈ l then l else l.takeWhile (fun x => decide (x < n)) ++ n :: l.dropWhile (fun x => decide (x < n))
def addB (o n : Int) : Bool := !(decide (n < 1) || decide (o ≤ n))
def addD (d : List Wt) (o n : Int) : List Wt := if addB o n = true then (if (o, n) ∈ d then d else d ++ [(o, n)]) else d
def without (d : List Wt) (l : List Int) : List Wt := d.filter (fun p => !has l p.1 && !has l p.2)
def waits (d : List Wt) (o : Int) : List Int := d.foldl (fun out p => if p.1 = o then put out p.2 else out) []
def all (d : List Wt) : List Int := d.foldl (fun out p => put out p.1) []
def round (d : List Wt) (l : List Int) : List Int := d.foldl (fun l p => if p.2 ∈ l then put l p.1 else l) l
def rounds (d : List Wt) : Nat → List Int → List Int
  | 0, l => l
  | k + 1, l => rounds d k (round d l)
def dropL (d : List Wt) (ts : Int) : List Int := if ts < 1 then [] else rounds d d.length [ts]
def dropD (d : List Wt) (ts : Int) : List Wt := if ts < 1 then d else without d (dropL d ts)

/-- each waits for lower ones, and none of them twice -/
structure Ok (d : List Wt) : Prop where
  low : ∀ p ∈ d, 1 ≤ p.2 ∧ p.2 < p.1
  nod : d.Nodup

theorem nodup_le : ∀ (A B : List Int), A.Nodup → (∀ x ∈ A, x ∈ B) → A.length ≤ B.length
  | [], _, _, _ => Nat.zero_le _
  | a :: A, B, hn, hs => by
    have hn := List.nodup_cons.1 hn
    have ha := hs a (by simp)
    have h1 : ∀ x ∈ A, x ∈ B.erase a := fun x hx => (List.mem_erase_of_ne (fun e => hn.1 (by rw [← e]; exact hx))).2 (hs x (by simp [hx]))
    have h2 := nodup_le A (B.erase a) hn.2 h1
    rw [List.length_erase_of_mem ha] at h2
    have : 0 < B.length := List.length_pos_of_mem ha
    simp only [List.length_cons]
    omega
theorem nodup_full {A B : List Int} (hn : A.Nodup) (hs : ∀ x ∈ A, x ∈ B) (hl : B.length ≤ A.length) {x : Int} (hx : x ∈ B) : x ∈ A := by
  by_cases e : x ∈ A
  · exact e
  · have := nodup_le (x :: A) B (List.nodup_cons.2 ⟨e, hn⟩) (fun y hy => by
      rcases List.mem_cons.1 hy with rfl | hy
      · exact hx
      · exact hs y hy)
    simp only [List.length_cons] at this
    omega

/-! ### put -/
section
variable {l : List Int} {n x : Int}
theorem put_mem : x ∈ put l n ↔ x = n ∨ x ∈ l := by
  unfold put
  split
  · rename_i h
    constructor
    · exact Or.inr
    · rintro (rfl | h)
      · assumption
      · exact h
  · have e : x ∈ l ↔ x ∈ l.takeWhile (fun x => decide (x < n)) ++ l.dropWhile (fun x => decide (x < n)) := by rw [List.takeWhile_append_dropWhile]
    rw [e]
    simp only [List.mem_append, List.mem_cons]
    constructor
    · rintro (h | h | h)
      · exact Or.inr (Or.inl h)
      · exact Or.inl h
      · exact Or.inr (Or.inr h)
    · rintro (h | h | h)
      · exact Or.inr (Or.inl h)
      · exact Or.inl h
      · exact Or.inr (Or.inr h)
theorem take_lt {y : Int} (h : y ∈ l.takeWhile (fun x => decide (x < n))) : y < n := by
  induction l with
  | nil => cases h
  | cons z l ih =>
    rw [List.takeWhile_cons] at h
    split at h
    · rename_i g
      rcases List.mem_cons.1 h with rfl | h
      · simpa using g
      · exact ih h
    · cases h
theorem drop_ge (h : Rises l) {y : Int} (hy : y ∈ l.dropWhile (fun x => decide (x < n))) : n ≤ y := by
  induction l with
  | nil => cases hy
  | cons z l ih =>
    have h2 := List.pairwise_cons.1 h
    rw [List.dropWhile_cons] at hy
    split at hy
    · exact ih h2.2 hy
    · rename_i g
      have g : n ≤ z := by simpa using g
      rcases List.mem_cons.1 hy with rfl | hy
      · exact g
      · have := h2.1 y hy; omega
theorem put_rises (h : Rises l) : Rises (put l n) := by
  unfold put
  split
  · exact h
  · rename_i hn
    have hu : (l.takeWhile (fun x => decide (x < n)) ++ l.dropWhile (fun x => decide (x < n))).Pairwise (· < ·) := by rw [List.takeWhile_append_dropWhile]; exact h
    have hu := List.pairwise_append.1 hu
    refine List.pairwise_append.2 ⟨hu.1, List.pairwise_cons.2 ⟨fun y hy => ?_, hu.2.1⟩, fun y hy z hz => ?_⟩
    · have h1 := drop_ge h hy
      have h2 : y ≠ n := fun e => hn (by rw [← e]; exact (List.dropWhile_sublist _).subset hy)
      omega
    · rcases List.mem_cons.1 hz with rfl | hz
      · exact take_lt hy
      · exact hu.2.2 y hy z hz
theorem put_len : (put l n).length ≤ l.length + 1 := by
  unfold put
  split
  · omega
  · have e : l.length = (l.takeWhile (fun x => decide (x < n)) ++ l.dropWhile (fun x => decide (x < n))).length := by rw [List.takeWhile_append_dropWhile]
    rw [e]
    simp only [List.length_append, List.length_cons]
    omega
end

/-! ### who waits, for whom -/
section
variable {d e : List Wt} {l : List Int} {o n ts : Int} {p : Wt}

theorem waits_go (d : List Wt) (o : Int) : ∀ out : List Int, Rises out → Rises (d.foldl (fun out p => if p.1 = o then put out p.2 else out) out) ∧ ∀ n, n ∈ d.foldl (fun out p => if p.1 = o then put out p.2 else out) out ↔ n ∈ out ∨ (o, n) ∈ d := by
  induction d with
  | nil => intro out h; exact ⟨h, fun n => by simp⟩
  | cons p d ih =>
    intro out h
    rw [List.foldl_cons]
    by_cases e : p.1 = o
    · rw [if_pos e]
      obtain ⟨h1, h2⟩ := ih _ (put_rises (n := p.2) h)
      refine ⟨h1, fun n => ?_⟩
      rw [h2, put_mem, List.mem_cons]
      constructor
      · rintro ((rfl | q) | q)
        · exact Or.inr (Or.inl (by rw [← e]))
        · exact Or.inl q
        · exact Or.inr (Or.inr q)
      · rintro (q | q | q)
        · exact Or.inl (Or.inr q)
        · exact Or.inl (Or.inl (by rw [← q]))
        · exact Or.inr q
    · rw [if_neg e]
      obtain ⟨h1, h2⟩ := ih _ h
      refine ⟨h1, fun n => ?_⟩
      rw [h2, List.mem_cons]
      constructor
      · rintro (q | q)
        · exact Or.inl q
        · exact Or.inr (Or.inr q)
      · rintro (q | q | q)
        · exact Or.inl q
        · exact absurd (by rw [← q]) e
        · exact Or.inr q
theorem waits_rises (d : List Wt) (o : Int) : Rises (waits d o) := (waits_go d o [] List.Pairwise.nil).1
theorem waits_mem : n ∈ waits d o ↔ (o, n) ∈ d := by rw [waits, (waits_go d o [] List.Pairwise.nil).2]; simp
theorem all_go (d : List Wt) : ∀ out : List Int, Rises out → Rises (d.foldl (fun out p => put out p.1) out) ∧ ∀ n, n ∈ d.foldl (fun out p => put out p.1) out ↔ n ∈ out ∨ ∃ m, (n, m) ∈ d := by
  induction d with
  | nil => intro out h; exact ⟨h, fun n => by simp⟩
  | cons p d ih =>
    intro out h
    rw [List.foldl_cons]
    obtain ⟨h1, h2⟩ := ih _ (put_rises (n := p.1) h)
    refine ⟨h1, fun n => ?_⟩
    rw [h2, put_mem]
    constructor
    · rintro ((rfl | q) | ⟨m, q⟩)
      · exact Or.inr ⟨p.2, by simp⟩
      · exact Or.inl q
      · exact Or.inr ⟨m, by simp [q]⟩
    · rintro (q | ⟨m, q⟩)
      · exact Or.inl (Or.inr q)
      · rcases List.mem_cons.1 q with q | q
        · exact Or.inl (Or.inl (by rw [← q]))
        · exact Or.inr ⟨m, q⟩
theorem all_rises (d : List Wt) : Rises (all d) := (all_go d [] List.Pairwise.nil).1
theorem all_mem : n ∈ all d ↔ ∃ m, (n, m) ∈ d := by rw [all, (all_go d [] List.Pairwise.nil).2]; simp
theorem waits_len (d : List Wt) (o : Int) : (waits d o).length ≤ d.length := by
  have : ∀ (d : List Wt) (out : List Int), (d.foldl (fun out p => if p.1 = o then put out p.2 else out) out).length ≤ out.length + d.length := by
    intro d
    induction d with
    | nil => intro out; simp
    | cons p d ih =>
      intro out
      rw [List.foldl_cons, List.length_cons]
      split
      · have := ih (put out p.2); have := put_len (l := out) (n := p.2); omega
      · have := ih out; omega
  have := this d []
  unfold waits
  simp only [List.length_nil] at this
  omega
theorem all_len (d : List Wt) : (all d).length ≤ d.length := by
  have : ∀ (d : List Wt) (out : List Int), (d.foldl (fun out p => put out p.1) out).length ≤ out.length + d.length := by
    intro d
    induction d with
    | nil => intro out; simp
    | cons p d ih =>
      intro out
      rw [List.foldl_cons, List.length_cons]
      have := ih (put out p.1); have := put_len (l := out) (n := p.1); omega
  have := this d []
  unfold all
  simp only [List.length_nil] at this
  omega

theorem addB_iff : addB o n = true ↔ 1 ≤ n ∧ n < o := by
  unfold addB
  simp only [Bool.not_eq_true', Bool.or_eq_false_iff, decide_eq_false_iff_not]
  omega
theorem Ok.nil : Ok [] := ⟨(fun p hp => by cases hp), List.nodup_nil⟩
theorem Ok.add (h : Ok d) (o n : Int) : Ok (addD d o n) := by
  unfold addD
  split
  · rename_i hb
    split
    · exact h
    · rename_i hn
      refine ⟨fun p hp => ?_, ?_⟩
      · rcases List.mem_append.1 hp with hp | hp
        · exact h.low p hp
        · rw [List.mem_singleton] at hp
          subst hp
          exact addB_iff.1 hb
      · refine List.nodup_append.2 ⟨h.nod, by simp, fun p hp q hq e => ?_⟩
        rw [List.mem_singleton] at hq
        subst hq
        exact hn (e ▸ hp)
  · exact h
theorem Ok.without (h : Ok d) (l : List Int) : Ok (without d l) := ⟨fun p hp => h.low p (List.mem_filter.1 hp).1, h.nod.filter _⟩
theorem Ok.drop (h : Ok d) (ts : Int) : Ok (dropD d ts) := by
  unfold dropD
  split
  · exact h
  · exact h.without _
theorem without_mem : p ∈ without d l ↔ p ∈ d ∧ p.1 ∉ l ∧ p.2 ∉ l := by
  unfold without has
  rw [List.mem_filter]
  simp
theorem add_mem : p ∈ addD d o n ↔ p ∈ d ∨ (p = (o, n) ∧ addB o n = true) := by
  unfold addD
  split
  · rename_i hb
    split
    · rename_i hn
      constructor
      · exact Or.inl
      · rintro (q | ⟨rfl, _⟩)
        · exact q
        · exact hn
    · rw [List.mem_append, List.mem_singleton]
      simp [hb]
  · rename_i hb
    simp [hb]
theorem add_len : (addD d o n).length ≤ d.length + 1 := by
  unfold addD
  split
  · split
    · omega
    · simp
  · omega
theorem without_len : (without d l).length ≤ d.length := List.length_filter_le ..
theorem dropD_len : (dropD d ts).length ≤ d.length := by
  unfold dropD
  split
  · omega
  · exact without_len

/-! ### who goes with whom -/
theorem round_go (d : List Wt) : ∀ l : List Int, Rises l → Rises (d.foldl (fun l p => if p.2 ∈ l then put l p.1 else l) l) ∧ ∀ x ∈ l, x ∈ d.foldl (fun l p => if p.2 ∈ l then put l p.1 else l) l := by
  induction d with
  | nil => intro l h; exact ⟨h, fun x hx => hx⟩
  | cons p d ih =>
    intro l h
    rw [List.foldl_cons]
    split
    · obtain ⟨h1, h2⟩ := ih _ (put_rises (n := p.1) h)
      exact ⟨h1, fun x hx => h2 x (put_mem.2 (Or.inr hx))⟩
    · exact ih l h
theorem round_rises (h : Rises l) : Rises (round d l) := (round_go d l h).1
theorem round_sub (h : Rises l) {x : Int} (hx : x ∈ l) : x ∈ round d l := (round_go d l h).2 x hx
/-- whoever waits for one of l goes -/
theorem round_next (h : Rises l) (hp : p ∈ d) (hl : p.2 ∈ l) : p.1 ∈ round d l := by
  unfold round
  induction d generalizing l with
  | nil => cases hp
  | cons q d ih =>
    rw [List.foldl_cons]
    rcases List.mem_cons.1 hp with rfl | hp
    · rw [if_pos hl]
      exact (round_go d _ (put_rises (n := p.1) h)).2 _ (put_mem.2 (Or.inl rfl))
    · split
      · exact ih (put_rises h) hp (put_mem.2 (Or.inr hl))
      · exact ih h hp hl
/-- nobody else does -/
theorem round_only {C : Int → Prop} (hC : ∀ p ∈ d, C p.2 → C p.1) (hl : ∀ x ∈ l, C x) : ∀ x ∈ round d l, C x := by
  unfold round
  induction d generalizing l with
  | nil => exact hl
  | cons q d ih =>
    rw [List.foldl_cons]
    split
    · rename_i g
      refine ih (fun p hp => hC p (by simp [hp])) (fun x hx => ?_)
      rcases put_mem.1 hx with rfl | hx
      · exact hC q (by simp) (hl _ g)
      · exact hl x hx
    · exact ih (fun p hp => hC p (by simp [hp])) hl
/-- of each place one more, or all stays -/
theorem round_len (h : Rises l) : round d l = l ∨ l.length < (round d l).length := by
  have hs : ∀ x ∈ l, x ∈ round d l := fun x hx => round_sub h hx
  by_cases e : ∀ x ∈ round d l, x ∈ l
  · exact Or.inl ((round_rises h).ext h (fun x => ⟨e x, hs x⟩))
  · right
    obtain ⟨x, hx⟩ := Classical.not_forall.1 e
    obtain ⟨hx1, hx2⟩ := Classical.not_imp.1 hx
    have h1 : (x :: l).Nodup := List.nodup_cons.2 ⟨hx2, h.nodup⟩
    have := nodup_le _ (round d l) h1 (fun y hy => by
      rcases List.mem_cons.1 hy with rfl | hy
      · exact hx1
      · exact hs y hy)
    simp only [List.length_cons] at this
    omega
theorem rounds_rises : ∀ (k : Nat) {l : List Int}, Rises l → Rises (rounds d k l)
  | 0, _, h => h
  | k + 1, _, h => rounds_rises k (round_rises h)
theorem rounds_sub : ∀ (k : Nat) {l : List Int}, Rises l → ∀ x ∈ l, x ∈ rounds d k l
  | 0, _, _, _, hx => hx
  | k + 1, _, h, x, hx => rounds_sub k (round_rises h) x (round_sub h hx)
theorem rounds_only {C : Int → Prop} (hC : ∀ p ∈ d, C p.2 → C p.1) : ∀ (k : Nat) {l : List Int}, (∀ x ∈ l, C x) → ∀ x ∈ rounds d k l, C x
  | 0, _, hl => hl
  | k + 1, _, hl => rounds_only hC k (round_only hC hl)
theorem rounds_still (h : round d l = l) : ∀ k, rounds d k l = l
  | 0 => rfl
  | k + 1 => by rw [rounds, h, rounds_still h k]
theorem rounds_end : ∀ (k : Nat) {l : List Int}, Rises l → round d (rounds d k l) = rounds d k l ∨ l.length + k ≤ (rounds d k l).length
  | 0, _, _ => Or.inr (by rw [rounds]; omega)
  | k + 1, l, h => by
    rw [rounds]
    rcases round_len (d := d) h with e | e
    · left
      rw [e, rounds_still e, e]
    · rcases rounds_end k (round_rises (d := d) h) with g | g
      · exact Or.inl g
      · exact Or.inr (by omega)
/-- who is dropped takes with it those that wait for it, and for one that goes -/
theorem drop_closed (hts : ¬ ts < 1) (hp : p ∈ d) (hl : p.2 ∈ dropL d ts) : p.1 ∈ dropL d ts := by
  unfold dropL at hl ⊢
  rw [if_neg hts] at hl ⊢
  have hr : Rises [ts] := List.pairwise_singleton _ _
  have hrr := rounds_rises (d := d) d.length hr
  rcases rounds_end (d := d) d.length hr with e | e
  · rw [← e]
    exact round_next hrr hp hl
  · -- all of them have come
    have hsub : ∀ x ∈ rounds d d.length [ts], x ∈ ts :: d.map Prod.fst := fun x hx =>
      rounds_only (C := fun x => x ∈ ts :: d.map Prod.fst) (fun q hq _ => List.mem_cons_of_mem _ (List.mem_map_of_mem hq)) d.length (fun x hx => by rw [List.mem_singleton] at hx; subst hx; simp) x hx
    exact nodup_full hrr.nodup hsub (by simp only [List.length_cons, List.length_map, List.length_nil] at e ⊢; omega) (List.mem_cons_of_mem _ (List.mem_map_of_mem hp))
theorem drop_first (hts : ¬ ts < 1) : ts ∈ dropL d ts := by
  unfold dropL
  rw [if_neg hts]
  exact rounds_sub _ (List.pairwise_singleton _ _) _ (by simp)
theorem drop_only {C : Int → Prop} (hC : ∀ p ∈ d, C p.2 → C p.1) (h0 : C ts) : ∀ x ∈ dropL d ts, C x := by
  unfold dropL
  split
  · intro _ hx; cases hx
  · exact rounds_only hC _ (fun x hx => by rw [List.mem_singleton] at hx; subst hx; exact h0)
theorem drop_rises : Rises (dropL d ts) := by
  unfold dropL
  split
  · exact List.Pairwise.nil
  · exact rounds_rises _ (List.pairwise_singleton _ _)
theorem drop_len : (dropL d ts).length ≤ d.length + 1 := by
  have h := nodup_le (dropL d ts) (ts :: d.map Prod.fst) drop_rises.nodup (fun x hx => drop_only (C := fun x => x ∈ ts :: d.map Prod.fst) (fun q hq _ => List.mem_cons_of_mem _ (List.mem_map_of_mem hq)) (by simp) x hx)
  simpa using h
end
end Go.Proofs.Ythbnbifagenpiaa.Dp
