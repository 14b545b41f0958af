/-
  The plain mathematics of layer value: which values may be, their order, their strings, and what a string begins with. No program stands here.
-/
import Derived.Test.YtepgefjehnjibaaPackI
namespace Go.Proofs.Ytepgefjehnjibaa.V

/-! the order of strings -/

theorem u8_tri (a b : UInt8) : a < b ∨ a = b ∨ b < a := by
  rcases Nat.lt_trichotomy a.toNat b.toNat with h | h | h
  · exact Or.inl (UInt8.lt_iff_toNat_lt.2 h)
  · exact Or.inr (Or.inl (UInt8.toNat_inj.1 h))
  · exact Or.inr (Or.inr (UInt8.lt_iff_toNat_lt.2 h))

theorem u8_irr (a : UInt8) : ¬ a < a := by rw [UInt8.lt_iff_toNat_lt]; omega
theorem u8_asym {a b : UInt8} (h : a < b) : ¬ b < a := by rw [UInt8.lt_iff_toNat_lt] at *; omega
theorem u8_tr {a b c : UInt8} (h : a < b) (h' : b < c) : a < c := by rw [UInt8.lt_iff_toNat_lt] at *; omega
theorem u8_ne {a b : UInt8} (h : a < b) : ¬ a = b := fun e => u8_irr a (by rw [← e] at h; exact h)

theorem less_iff (a b : UInt8) (x y : List UInt8) : Op.bytesLess (a :: x) (b :: y) = true ↔ a < b ∨ (a = b ∧ Op.bytesLess x y = true) := by
  simp [Op.bytesLess]

theorem less_asym (a : List UInt8) : ∀ b, Op.bytesLess a b = true → Op.bytesLess b a = false := by
  induction a with
  | nil => intro b h; cases b <;> simp [Op.bytesLess]
  | cons c r ih =>
    intro b h
    cases b with
    | nil => simp [Op.bytesLess] at h
    | cons d t =>
      rw [less_iff] at h
      rw [← Bool.not_eq_true, less_iff]
      rcases h with h | ⟨rfl, h⟩
      · rintro (g | ⟨rfl, _⟩)
        · exact u8_asym h g
        · exact u8_irr _ h
      · rintro (g | ⟨_, g⟩)
        · exact u8_irr _ g
        · rw [ih t h] at g; cases g

theorem less_tri (a : List UInt8) : ∀ b, Op.bytesLess a b = false → Op.bytesLess b a = false → a = b := by
  induction a with
  | nil => intro b h h'; cases b with
    | nil => rfl
    | cons d t => simp [Op.bytesLess] at h
  | cons c r ih =>
    intro b h h'
    cases b with
    | nil => simp [Op.bytesLess] at h'
    | cons d t =>
      rw [← Bool.not_eq_true, less_iff] at h h'
      rcases u8_tri c d with g | g | g
      · exact absurd (Or.inl g) h
      · subst g
        rw [ih t (by rw [← Bool.not_eq_true]; exact fun e => h (Or.inr ⟨rfl, e⟩)) (by rw [← Bool.not_eq_true]; exact fun e => h' (Or.inr ⟨rfl, e⟩))]
      · exact absurd (Or.inl g) h'

theorem less_tr (a : List UInt8) : ∀ b c, Op.bytesLess a b = true → Op.bytesLess b c = true → Op.bytesLess a c = true := by
  induction a with
  | nil => intro b c h h'; cases b with
    | nil => simp [Op.bytesLess] at h
    | cons d t => cases c with
      | nil => simp [Op.bytesLess] at h'
      | cons e u => simp [Op.bytesLess]
  | cons x r ih =>
    intro b c h h'
    cases b with
    | nil => simp [Op.bytesLess] at h
    | cons d t => cases c with
      | nil => simp [Op.bytesLess] at h'
      | cons e u =>
        rw [less_iff] at *
        rcases h with h | ⟨rfl, h⟩
        · rcases h' with g | ⟨rfl, _⟩
          · exact Or.inl (u8_tr h g)
          · exact Or.inl h
        · rcases h' with g | ⟨rfl, g⟩
          · exact Or.inl g
          · exact Or.inr ⟨rfl, ih t u h g⟩

/-! Compare -/

def cmpI (a b : Int) : Int := if a < b then -1 else if b < a then 1 else 0
def cmpS (a b : List UInt8) : Int := if Op.bytesLess a b = true then -1 else if Op.bytesLess b a = true then 1 else 0
def cmp (t n : Int) (s : List UInt8) (t' n' : Int) (s' : List UInt8) : Int :=
  if cmpI t t' = 0 then (if cmpI n n' = 0 then cmpS s s' else cmpI n n') else cmpI t t'

theorem cmpI_self (a : Int) : cmpI a a = 0 := by unfold cmpI; simp
theorem cmpI_zero {a b : Int} : cmpI a b = 0 ↔ a = b := by unfold cmpI; split <;> (try split) <;> omega
theorem cmpI_neg (a b : Int) : cmpI a b = - cmpI b a := by unfold cmpI; repeat' split
                                                           all_goals omega
theorem cmpI_is (a b : Int) : cmpI a b = -1 ∨ cmpI a b = 0 ∨ cmpI a b = 1 := by unfold cmpI; repeat' split
                                                                                all_goals omega
theorem cmpI_tr {a b c : Int} (h : cmpI a b ≤ 0) (h' : cmpI b c ≤ 0) : cmpI a c ≤ 0 := by
  unfold cmpI at *
  repeat' split at *
  all_goals omega
theorem cmpI_lt {a b : Int} : cmpI a b < 0 ↔ a < b := by unfold cmpI; repeat' split
                                                         all_goals omega

theorem cmpS_self (a : List UInt8) : cmpS a a = 0 := by unfold cmpS; rw [M.less_irrefl]; simp
theorem cmpS_zero {a b : List UInt8} : cmpS a b = 0 ↔ a = b := by
  constructor
  · intro h
    unfold cmpS at h
    by_cases h1 : Op.bytesLess a b = true
    · rw [if_pos h1] at h; omega
    · rw [if_neg h1] at h
      by_cases h2 : Op.bytesLess b a = true
      · rw [if_pos h2] at h; omega
      · exact less_tri a b (by simpa using h1) (by simpa using h2)
  · rintro rfl; exact cmpS_self a
theorem cmpS_neg (a b : List UInt8) : cmpS a b = - cmpS b a := by
  unfold cmpS
  by_cases h1 : Op.bytesLess a b = true
  · rw [if_pos h1, if_neg (by rw [less_asym a b h1]; decide), if_pos h1]
  · rw [if_neg h1]
    by_cases h2 : Op.bytesLess b a = true
    · rw [if_pos h2, if_pos h2]; rfl
    · rw [if_neg h2, if_neg h2, if_neg h1]; rfl
theorem cmpS_is (a b : List UInt8) : cmpS a b = -1 ∨ cmpS a b = 0 ∨ cmpS a b = 1 := by unfold cmpS; repeat' split
                                                                                       all_goals omega
theorem cmpS_lt {a b : List UInt8} : cmpS a b < 0 ↔ Op.bytesLess a b = true := by
  unfold cmpS
  by_cases h1 : Op.bytesLess a b = true
  · simp [h1]
  · rw [if_neg h1]; constructor
    · intro h; split at h <;> omega
    · intro h; exact absurd h h1
theorem cmpS_le {a b : List UInt8} : cmpS a b ≤ 0 ↔ a = b ∨ Op.bytesLess a b = true := by
  rw [← cmpS_lt, ← cmpS_zero]; omega
theorem cmpS_tr {a b c : List UInt8} (h : cmpS a b ≤ 0) (h' : cmpS b c ≤ 0) : cmpS a c ≤ 0 := by
  rw [cmpS_le] at *
  rcases h with rfl | h
  · exact h'
  · rcases h' with rfl | h'
    · exact Or.inr h
    · exact Or.inr (less_tr a b c h h')

section
variable (t n : Int) (s : List UInt8) (t' n' : Int) (s' : List UInt8)

theorem cmp_zero : cmp t n s t' n' s' = 0 ↔ t = t' ∧ n = n' ∧ s = s' := by
  unfold cmp
  by_cases h1 : cmpI t t' = 0
  · rw [if_pos h1]
    have e1 := cmpI_zero.1 h1
    by_cases h2 : cmpI n n' = 0
    · rw [if_pos h2, cmpS_zero]
      have e2 := cmpI_zero.1 h2
      exact ⟨fun h => ⟨e1, e2, h⟩, fun h => h.2.2⟩
    · rw [if_neg h2]
      exact ⟨fun h => absurd h h2, fun h => absurd (cmpI_zero.2 h.2.1) h2⟩
  · rw [if_neg h1]
    exact ⟨fun h => absurd h h1, fun h => absurd (cmpI_zero.2 h.1) h1⟩

theorem cmp_neg : cmp t n s t' n' s' = - cmp t' n' s' t n s := by
  unfold cmp
  have e1 := cmpI_neg t t'
  have e2 := cmpI_neg n n'
  have e3 := cmpS_neg s s'
  repeat' split
  all_goals omega

theorem cmp_is : cmp t n s t' n' s' = -1 ∨ cmp t n s t' n' s' = 0 ∨ cmp t n s t' n' s' = 1 := by
  have e1 := cmpI_is t t'
  have e2 := cmpI_is n n'
  have e3 := cmpS_is s s'
  unfold cmp
  repeat' split
  all_goals omega

theorem cmp_tr (u m : Int) (r : List UInt8) (h : cmp t n s t' n' s' ≤ 0) (h' : cmp t' n' s' u m r ≤ 0) : cmp t n s u m r ≤ 0 := by
  have i1 := cmpI_is t t'
  have i2 := cmpI_is t' u
  have i3 := cmpI_is n n'
  have i4 := cmpI_is n' m
  unfold cmp at *
  by_cases h1 : cmpI t t' = 0
  · obtain rfl := cmpI_zero.1 h1
    rw [if_pos h1] at h
    by_cases h2 : cmpI t u = 0
    · rw [if_pos h2] at h' ⊢
      by_cases h3 : cmpI n n' = 0
      · obtain rfl := cmpI_zero.1 h3
        rw [if_pos h3] at h
        by_cases h4 : cmpI n m = 0
        · rw [if_pos h4] at h' ⊢; exact cmpS_tr h h'
        · rw [if_neg h4] at h' ⊢; exact h'
      · rw [if_neg h3] at h
        by_cases h4 : cmpI n' m = 0
        · obtain rfl := cmpI_zero.1 h4
          rw [if_neg h3]; exact h
        · rw [if_neg h4] at h'
          have hn := cmpI_lt.1 (show cmpI n n' < 0 by omega)
          have hm := cmpI_lt.1 (show cmpI n' m < 0 by omega)
          have := cmpI_lt.2 (show n < m by omega)
          rw [if_neg (by omega)]; omega
    · rw [if_neg h2] at h' ⊢; exact h'
  · rw [if_neg h1] at h
    by_cases h2 : cmpI t' u = 0
    · obtain rfl := cmpI_zero.1 h2
      rw [if_neg h1]; exact h
    · rw [if_neg h2] at h'
      have hn := cmpI_lt.1 (show cmpI t t' < 0 by omega)
      have hm := cmpI_lt.1 (show cmpI t' u < 0 by omega)
      have := cmpI_lt.2 (show t < u by omega)
      rw [if_neg (by omega)]; omega
end

/-! May, Put and Take -/

def tb (t : Int) : Nat := if 0 ≤ t ∧ t ≤ 255 then t.toNat else 255

theorem tb_lt (t : Int) : tb t < 256 := by unfold tb; split <;> omega

def may (t n : Int) (s : List UInt8) : Bool :=
  if t = 0 then decide (n = 0) && decide (s = []) else
  if t = 1 then decide (s = []) else
  if t = 2 then decide (n = 0) && decide (s.length ≤ 16) else
  if t = 3 then decide (n = 0 ∨ n = 1) && decide (s = []) else false

def body (t n : Int) (s : List UInt8) : List UInt8 := if t = 1 ∨ t = 3 then M.hiB 8 (up n) else if t = 2 then M.text s else []

def put (t n : Int) (s : List UInt8) : List UInt8 := UInt8.ofNat (tb t) :: body t n s

/-- the value with which a string begins, be it one that may be or not -/
def raw : List UInt8 → Option (Int × Int × List UInt8 × List UInt8)
  | [] => none
  | c :: r =>
    if c = 1 ∨ c = 3 then (if r.length < 8 then none else some (c.toNat, (M.num (r.take 8) : Nat) - 9223372036854775808, [], r.drop 8))
    else if c = 2 then (match M.ttake [] false r with | some (g, h) => some (2, 0, g, h) | none => none)
    else some (c.toNat, 0, [], r)

def take (l : List UInt8) : Option (Int × Int × List UInt8 × List UInt8) :=
  match raw l with
  | some (t, n, s, h) => if may t n s = true then some (t, n, s, h) else none
  | none => none

theorem take_may {l : List UInt8} {t n : Int} {s h : List UInt8} (e : take l = some (t, n, s, h)) : may t n s = true ∧ raw l = some (t, n, s, h) := by
  unfold take at e
  split at e
  · rename_i hr
    split at e
    · rename_i hm
      cases e
      exact ⟨hm, hr⟩
    · cases e
  · cases e

theorem may_form {t n : Int} {s : List UInt8} (h : may t n s = true) : (t = 0 ∧ n = 0 ∧ s = []) ∨ (t = 1 ∧ s = []) ∨ (t = 2 ∧ n = 0 ∧ s.length ≤ 16) ∨ (t = 3 ∧ (n = 0 ∨ n = 1) ∧ s = []) := by
  unfold may at h
  by_cases h0 : t = 0
  · rw [if_pos h0] at h; simp only [Bool.and_eq_true, decide_eq_true_eq] at h; exact Or.inl ⟨h0, h⟩
  · rw [if_neg h0] at h
    by_cases h1 : t = 1
    · rw [if_pos h1] at h; simp only [decide_eq_true_eq] at h; exact Or.inr (Or.inl ⟨h1, h⟩)
    · rw [if_neg h1] at h
      by_cases h2 : t = 2
      · rw [if_pos h2] at h; simp only [Bool.and_eq_true, decide_eq_true_eq] at h; exact Or.inr (Or.inr (Or.inl ⟨h2, h⟩))
      · rw [if_neg h2] at h
        by_cases h3 : t = 3
        · rw [if_pos h3] at h; simp only [Bool.and_eq_true, decide_eq_true_eq] at h; exact Or.inr (Or.inr (Or.inr ⟨h3, h⟩))
        · rw [if_neg h3] at h; cases h

theorem up_back (r : List UInt8) : up ((M.num (r.take 8) : Nat) - 9223372036854775808) = M.num (r.take 8) := by unfold up; omega

/-- what is taken, whether it may be or not, has the very bytes -/
theorem raw_very {l : List UInt8} {t n : Int} {s h : List UInt8} (e : raw l = some (t, n, s, h)) : put t n s ++ h = l := by
  match l, e with
  | c :: r, e =>
    have hc := c.toNat_lt
    have tbc : UInt8.ofNat (tb (c.toNat : Int)) = c := by
      unfold tb; rw [if_pos (by omega)]; simp
    simp only [raw] at e
    by_cases h1 : c = 1 ∨ c = 3
    · rw [if_pos h1] at e
      by_cases h8 : r.length < 8
      · rw [if_pos h8] at e; cases e
      · rw [if_neg h8] at e
        cases e
        have hl : (r.take 8).length = 8 := by simp; omega
        have hb := M.hiB_num (r.take 8)
        rw [hl] at hb
        have ht : (c.toNat : Int) = 1 ∨ (c.toNat : Int) = 3 := by rcases h1 with rfl | rfl <;> simp
        rw [put, body, if_pos ht, tbc, up_back, hb, List.cons_append, List.take_append_drop]
    · rw [if_neg h1] at e
      by_cases h2 : c = 2
      · rw [if_pos h2] at e
        split at e
        · rename_i g h' hr
          cases e
          rw [put, body, if_neg (by decide), if_pos rfl, List.cons_append, M.ttake_very hr]
          subst h2
          rfl
        · cases e
      · rw [if_neg h2] at e
        cases e
        have n1 : ¬ ((c.toNat : Int) = 1 ∨ (c.toNat : Int) = 3) := by
          rintro (g | g)
          · exact h1 (Or.inl (UInt8.toNat_inj.1 (by show c.toNat = 1; omega)))
          · exact h1 (Or.inr (UInt8.toNat_inj.1 (by show c.toNat = 3; omega)))
        have n2 : ¬ (c.toNat : Int) = 2 := fun g => h2 (UInt8.toNat_inj.1 (by show c.toNat = 2; omega))
        rw [put, body, if_neg n1, if_neg n2, tbc]
        rfl

/-- what may be is taken as it was put, whatever stands behind -/
theorem take_put {t n : Int} {s : List UInt8} (x : List UInt8) (hm : may t n s = true) (h0 : -9223372036854775808 ≤ n) (h1 : n ≤ 9223372036854775807) : take (put t n s ++ x) = some (t, n, s, x) := by
  have hr : raw (put t n s ++ x) = some (t, n, s, x) := by
    have hint : (M.hiB 8 (up n) ++ x).length < 8 → False := by simp [M.hiB_len]
    have htk : (M.hiB 8 (up n) ++ x).take 8 = M.hiB 8 (up n) := List.take_left' (M.hiB_len 8 _)
    have hdr : (M.hiB 8 (up n) ++ x).drop 8 = x := List.drop_left' (M.hiB_len 8 _)
    have hnum : ((M.num (M.hiB 8 (up n)) : Nat) : Int) - 9223372036854775808 = n := by
      have hu := up_lt h0 h1
      rw [M.num_hiB, show 256 ^ 8 = 18446744073709551616 by decide, Nat.mod_eq_of_lt hu]
      unfold up; omega
    rcases may_form hm with ⟨rfl, rfl, rfl⟩ | ⟨rfl, rfl⟩ | ⟨rfl, rfl, _⟩ | ⟨rfl, _, rfl⟩
    · rfl
    · rw [put, body, if_pos (Or.inl rfl), show UInt8.ofNat (tb 1) = 1 by decide, List.cons_append, raw, if_pos (Or.inl rfl), if_neg hint, htk, hdr, hnum]
      rfl
    · have := M.ttake_text [] s x
      rw [put, body, if_neg (by decide), if_pos rfl, show UInt8.ofNat (tb 2) = 2 by decide, List.cons_append, raw, if_neg (by decide), if_pos rfl, show M.text s ++ x = M.esc s ++ 0 :: 1 :: x by simp [M.text], this]
      rfl
    · rw [put, body, if_pos (Or.inr rfl), show UInt8.ofNat (tb 3) = 3 by decide, List.cons_append, raw, if_pos (Or.inr rfl), if_neg hint, htk, hdr, hnum]
      rfl
  rw [take, hr]
  exact if_pos hm

theorem take_very {l : List UInt8} {t n : Int} {s h : List UInt8} (e : take l = some (t, n, s, h)) : put t n s ++ h = l := raw_very (take_may e).2

theorem up_less {a b : Int} (ha : -9223372036854775808 ≤ a) (ha' : a ≤ 9223372036854775807) (hb : -9223372036854775808 ≤ b) (hb' : b ≤ 9223372036854775807) (x y : List UInt8) (h : ¬ a = b) :
    Op.bytesLess (M.hiB 8 (up a) ++ x) (M.hiB 8 (up b) ++ y) = decide (a < b) := by
  have h1 := M.hiB_less 8 (up a) (up b)
  have e : 256 ^ 8 = 18446744073709551616 := by decide
  have ua := up_lt ha ha'
  have ub := up_lt hb hb'
  rw [e, Nat.mod_eq_of_lt ua, Nat.mod_eq_of_lt ub] at h1
  have hne : M.hiB 8 (up a) ≠ M.hiB 8 (up b) := by
    intro g
    have := M.hiB_inj g
    rw [e, Nat.mod_eq_of_lt ua, Nat.mod_eq_of_lt ub] at this
    unfold up at this; omega
  have hl : ∀ (p q : List UInt8), p.length = q.length → p ≠ q → Op.bytesLess (p ++ x) (q ++ y) = Op.bytesLess p q := by
    intro p
    induction p with
    | nil => intro q hq hn; cases q with
      | nil => exact absurd rfl hn
      | cons _ _ => simp at hq
    | cons c r ih =>
      intro q hq hn
      cases q with
      | nil => simp at hq
      | cons d t =>
        by_cases hc : c = d
        · subst hc
          rw [List.cons_append, List.cons_append, M.less_cons_same, M.less_cons_same]
          exact ih t (by simpa using hq) (by simpa using hn)
        · rw [List.cons_append, List.cons_append, M.less_cons_ne hc, M.less_cons_ne hc]
  rw [hl _ _ (by rw [M.hiB_len, M.hiB_len]) hne, h1]
  congr 1
  unfold up
  apply propext
  omega

/-- of two that may be, and are unlike, the one ahead has the lower string, whatever stands behind both -/
theorem put_less {t n t' n' : Int} {s s' : List UInt8} (x y : List UInt8) (hm : may t n s = true) (hm' : may t' n' s' = true) (h0 : -9223372036854775808 ≤ n) (h1 : n ≤ 9223372036854775807)
    (h0' : -9223372036854775808 ≤ n') (h1' : n' ≤ 9223372036854775807) (hne : ¬ cmp t n s t' n' s' = 0) : Op.bytesLess (put t n s ++ x) (put t' n' s' ++ y) = decide (cmp t n s t' n' s' < 0) := by
  by_cases ht : t = t'
  · subst ht
    have hc : cmp t n s t n' s' = if cmpI n n' = 0 then cmpS s s' else cmpI n n' := by rw [cmp, if_pos (cmpI_self t)]
    rw [hc] at hne ⊢
    rw [put, put, List.cons_append, List.cons_append, M.less_cons_same]
    rcases may_form hm with ⟨rfl, rfl, rfl⟩ | ⟨rfl, rfl⟩ | ⟨rfl, rfl, _⟩ | ⟨rfl, hn, rfl⟩
    · rcases may_form hm' with ⟨_, rfl, rfl⟩ | ⟨h, _⟩ | ⟨h, _⟩ | ⟨h, _⟩
      · exact absurd (by rw [if_pos (cmpI_self _)]; exact cmpS_self _) hne
      · exact absurd h (by decide)
      · exact absurd h (by decide)
      · exact absurd h (by decide)
    · rcases may_form hm' with ⟨h, _⟩ | ⟨_, rfl⟩ | ⟨h, _⟩ | ⟨h, _⟩
      · exact absurd h (by decide)
      · rw [cmpS_self] at hne ⊢
        have hz : ¬ cmpI n n' = 0 := fun g => hne (by rw [if_pos g])
        rw [if_neg hz]
        rw [body, body, if_pos (by decide), if_pos (by decide), up_less h0 h1 h0' h1' x y (fun g => hz (cmpI_zero.2 g))]
        congr 1
        exact propext cmpI_lt.symm
      · exact absurd h (by decide)
      · exact absurd h (by decide)
    · rcases may_form hm' with ⟨h, _⟩ | ⟨h, _⟩ | ⟨_, rfl, _⟩ | ⟨h, _⟩
      · exact absurd h (by decide)
      · exact absurd h (by decide)
      · rw [if_pos (cmpI_self _)] at hne ⊢
        rw [body, body, if_neg (by decide), if_pos rfl, if_neg (by decide), if_pos rfl, M.text_less, if_neg (fun g => hne (cmpS_zero.2 g))]
        rw [Bool.eq_iff_iff, decide_eq_true_eq]
        exact cmpS_lt.symm
      · exact absurd h (by decide)
    · rcases may_form hm' with ⟨h, _⟩ | ⟨h, _⟩ | ⟨h, _⟩ | ⟨_, hn', rfl⟩
      · exact absurd h (by decide)
      · exact absurd h (by decide)
      · exact absurd h (by decide)
      · rw [cmpS_self] at hne ⊢
        have hz : ¬ cmpI n n' = 0 := fun g => hne (by rw [if_pos g])
        rw [if_neg hz]
        rw [body, body, if_pos (by decide), if_pos (by decide), up_less h0 h1 h0' h1' x y (fun g => hz (cmpI_zero.2 g))]
        congr 1
        exact propext cmpI_lt.symm
  · have hz : ¬ cmpI t t' = 0 := fun g => ht (cmpI_zero.1 g)
    have r1 : t = 0 ∨ t = 1 ∨ t = 2 ∨ t = 3 := by rcases may_form hm with h | h | h | h <;> simp [h.1]
    have r2 : t' = 0 ∨ t' = 1 ∨ t' = 2 ∨ t' = 3 := by rcases may_form hm' with h | h | h | h <;> simp [h.1]
    rw [cmp, if_neg hz, put, put, List.cons_append, List.cons_append]
    have b : ¬ UInt8.ofNat (tb t) = UInt8.ofNat (tb t') := by
      rcases r1 with rfl | rfl | rfl | rfl <;> rcases r2 with rfl | rfl | rfl | rfl <;> first | exact absurd rfl ht | decide
    rw [M.less_cons_ne b, Bool.eq_iff_iff, decide_eq_true_eq, decide_eq_true_eq, cmpI_lt]
    rcases r1 with rfl | rfl | rfl | rfl <;> rcases r2 with rfl | rfl | rfl | rfl <;> decide

theorem put_len {t n : Int} {s : List UInt8} : (put t n s).length ≤ 2 * s.length + 9 := by
  have := M.text_len s
  unfold put body
  split
  · simp [M.hiB_len]
  · split <;> simp <;> omega

end Go.Proofs.Ytepgefjehnjibaa.V
