/-
  The plain mathematics of layer pack: bytes of a number, the number of bytes, texts with their zeros marked, and the order of all these. No program stands here.
-/
import GoSem.Op.String
namespace Go.Proofs.Ytfpojbnidoeohaa.M

/-- a number's lowest bytes, so many, the highest first -/
def hiB : Nat → Nat → List UInt8
  | 0, _ => []
  | k + 1, n => hiB k (n / 256) ++ [UInt8.ofNat (n % 256)]

theorem hiB_len (k n : Nat) : (hiB k n).length = k := by
  induction k generalizing n with
  | zero => rfl
  | succ k ih => simp [hiB, ih]

theorem hiB_cons (k n : Nat) : hiB (k + 1) n = UInt8.ofNat (n / 256 ^ k % 256) :: hiB k n := by
  induction k generalizing n with
  | zero => simp [hiB]
  | succ k ih =>
    rw [hiB, ih (n / 256), hiB, Nat.div_div_eq_div_mul, Nat.pow_succ, Nat.mul_comm (256 ^ k) 256]
    simp

theorem hiB_mod (k n : Nat) : hiB k (n % 256 ^ k) = hiB k n := by
  induction k generalizing n with
  | zero => rfl
  | succ k ih =>
    have h1 : n % 256 ^ (k + 1) / 256 = n / 256 % 256 ^ k := by
      rw [Nat.pow_succ, Nat.mul_comm, Nat.mod_mul_right_div_self]
    have h2 : n % 256 ^ (k + 1) % 256 = n % 256 := by
      rw [Nat.pow_succ, Nat.mul_comm, Nat.mod_mul_right_mod]
    rw [hiB, hiB, h1, h2, ih]

/-- the number of bytes -/
def num (l : List UInt8) : Nat := l.foldl (fun a b => 256 * a + b.toNat) 0

theorem num_snoc (l : List UInt8) (c : UInt8) : num (l ++ [c]) = 256 * num l + c.toNat := by simp [num]

theorem num_nil : num [] = 0 := rfl

theorem num_aux (l : List UInt8) : ∀ r : List UInt8, l.reverse = r → num l < 256 ^ l.length := by
  intro r
  induction r generalizing l with
  | nil => intro h; have : l = [] := by simpa using h
           subst this; simp [num]
  | cons c r ih =>
    intro h
    obtain ⟨p, rfl⟩ : ∃ p, l = p ++ [c] := ⟨r.reverse, by rw [← List.reverse_reverse l, h]; simp⟩
    have := ih p (by simpa using h)
    rw [num_snoc, List.length_append, List.length_singleton, Nat.pow_succ]
    have := c.toNat_lt
    omega

theorem num_lt (l : List UInt8) : num l < 256 ^ l.length := num_aux l _ rfl

theorem num_hiB (k n : Nat) : num (hiB k n) = n % 256 ^ k := by
  induction k generalizing n with
  | zero => simp [hiB, num, Nat.mod_one]
  | succ k ih =>
    rw [hiB, num_snoc, ih, Nat.pow_succ, Nat.mul_comm (256 ^ k) 256, Nat.mod_mul]
    have : (UInt8.ofNat (n % 256)).toNat = n % 256 := by simp
    omega

theorem hiB_num_aux (l : List UInt8) : ∀ r : List UInt8, l.reverse = r → hiB l.length (num l) = l := by
  intro r
  induction r generalizing l with
  | nil => intro h; have : l = [] := by simpa using h
           subst this; rfl
  | cons c r ih =>
    intro h
    obtain ⟨p, rfl⟩ : ∃ p, l = p ++ [c] := ⟨r.reverse, by rw [← List.reverse_reverse l, h]; simp⟩
    have h1 := ih p (by simpa using h)
    have hc := c.toNat_lt
    rw [num_snoc, List.length_append, List.length_singleton, hiB]
    have e1 : (256 * num p + c.toNat) / 256 = num p := by omega
    have e2 : (256 * num p + c.toNat) % 256 = c.toNat := by omega
    rw [e1, e2, h1]
    simp

theorem hiB_num (l : List UInt8) : hiB l.length (num l) = l := hiB_num_aux l _ rfl

/-- of two numbers the lower one's bytes are the lower ones -/
theorem hiB_less (k n m : Nat) : Op.bytesLess (hiB k n) (hiB k m) = decide (n % 256 ^ k < m % 256 ^ k) := by
  induction k generalizing n m with
  | zero => simp [hiB, Op.bytesLess, Nat.mod_one]
  | succ k ih =>
    rw [hiB_cons, hiB_cons, Op.bytesLess, ih, Bool.eq_iff_iff]
    rw [Nat.pow_succ, Nat.mod_mul, Nat.mod_mul (x := m)]
    have hn : n / 256 ^ k % 256 < 256 := Nat.mod_lt _ (by decide)
    have hm : m / 256 ^ k % 256 < 256 := Nat.mod_lt _ (by decide)
    have hp : 0 < 256 ^ k := Nat.pow_pos (by decide)
    have hn' : n % 256 ^ k < 256 ^ k := Nat.mod_lt _ hp
    have hm' : m % 256 ^ k < 256 ^ k := Nat.mod_lt _ hp
    generalize n / 256 ^ k % 256 = a at *
    generalize m / 256 ^ k % 256 = b at *
    generalize n % 256 ^ k = c at *
    generalize m % 256 ^ k = d at *
    generalize 256 ^ k = p at *
    have ea : (UInt8.ofNat a < UInt8.ofNat b) ↔ a < b := by
      rw [UInt8.lt_iff_toNat_lt]; simp [Nat.mod_eq_of_lt hn, Nat.mod_eq_of_lt hm]
    have eb : (UInt8.ofNat a = UInt8.ofNat b) ↔ a = b := by
      rw [← UInt8.toNat_inj]; simp [Nat.mod_eq_of_lt hn, Nat.mod_eq_of_lt hm]
    simp only [Bool.or_eq_true, decide_eq_true_eq, Bool.and_eq_true, beq_iff_eq, ea, eb]
    constructor
    · rintro (h | ⟨rfl, h⟩)
      · have : p * (a + 1) ≤ p * b := Nat.mul_le_mul_left p h
        rw [Nat.mul_add, Nat.mul_one] at this
        omega
      · omega
    · intro h
      rcases Nat.lt_trichotomy a b with g | g | g
      · exact Or.inl g
      · subst g; exact Or.inr ⟨rfl, by omega⟩
      · have : p * (b + 1) ≤ p * a := Nat.mul_le_mul_left p g
        rw [Nat.mul_add, Nat.mul_one] at this
        omega

theorem hiB_inj {k n m : Nat} (h : hiB k n = hiB k m) : n % 256 ^ k = m % 256 ^ k := by
  rw [← num_hiB, ← num_hiB, h]

/-- a text's bytes, each zero marked -/
def esc : List UInt8 → List UInt8
  | [] => []
  | c :: r => if c = 0 then 0 :: 255 :: esc r else c :: esc r

theorem esc_append (a b : List UInt8) : esc (a ++ b) = esc a ++ esc b := by
  induction a with
  | nil => rfl
  | cons c r ih => simp only [List.cons_append, esc, ih]; split <;> simp

theorem esc_snoc_zero (a : List UInt8) (c : UInt8) (h : c = 0) : esc (a ++ [c]) = esc a ++ [c] ++ [255] := by
  rw [esc_append]; subst h; simp [esc]

theorem esc_snoc (a : List UInt8) (c : UInt8) (h : ¬ c = 0) : esc (a ++ [c]) = esc a ++ [c] := by
  rw [esc_append]; simp [esc, h]

theorem esc_len (a : List UInt8) : a.length ≤ (esc a).length ∧ (esc a).length ≤ 2 * a.length := by
  induction a with
  | nil => simp [esc]
  | cons c r ih => simp only [esc]; split <;> simp only [List.length_cons] <;> omega

def text (l : List UInt8) : List UInt8 := esc l ++ [0, 1]

theorem text_len (a : List UInt8) : (text a).length ≤ 2 * a.length + 2 := by
  have := esc_len a; simp [text]; omega

/-- what a string begins with: what is gathered so far, whether the byte ahead was a mark, what is left -/
def ttake : List UInt8 → Bool → List UInt8 → Option (List UInt8 × List UInt8)
  | _, _, [] => none
  | acc, true, c :: r => if c = 1 then some (acc, r) else if c = 255 then ttake (acc ++ [0]) false r else none
  | acc, false, c :: r => if c = 0 then ttake acc true r else ttake (acc ++ [c]) false r

theorem ttake_text (acc l x : List UInt8) : ttake acc false (esc l ++ 0 :: 1 :: x) = some (acc ++ l, x) := by
  induction l generalizing acc with
  | nil => simp [esc, ttake]
  | cons c r ih =>
    simp only [esc]
    split
    · rename_i h; subst h; simp [ttake, ih]
    · rename_i h; simp [ttake, ih, h]

theorem ttake_back (s : List UInt8) : ∀ acc g h, (ttake acc false s = some (g, h) → ∃ t, g = acc ++ t ∧ s = esc t ++ 0 :: 1 :: h) ∧
    (ttake acc true s = some (g, h) → (g = acc ∧ s = 1 :: h) ∨ ∃ t, g = acc ++ 0 :: t ∧ s = 255 :: (esc t ++ 0 :: 1 :: h)) := by
  induction s with
  | nil => intro acc g h; simp [ttake]
  | cons c r ih =>
    intro acc g h
    constructor
    · intro e
      simp only [ttake] at e
      split at e
      · rename_i hc; subst hc
        rcases (ih acc g h).2 e with ⟨rfl, rfl⟩ | ⟨t, rfl, rfl⟩
        · exact ⟨[], by simp, by simp [esc]⟩
        · exact ⟨0 :: t, by simp, by simp [esc]⟩
      · rename_i hc
        obtain ⟨t, rfl, rfl⟩ := (ih (acc ++ [c]) g h).1 e
        exact ⟨c :: t, by simp, by simp [esc, hc]⟩
    · intro e
      simp only [ttake] at e
      split at e
      · rename_i hc; subst hc
        simp only [Option.some.injEq, Prod.mk.injEq] at e
        obtain ⟨rfl, rfl⟩ := e
        exact Or.inl ⟨rfl, rfl⟩
      · split at e
        · rename_i hc; subst hc
          obtain ⟨t, rfl, rfl⟩ := (ih (acc ++ [0]) g h).1 e
          exact Or.inr ⟨t, by simp, rfl⟩
        · cases e

theorem ttake_very {s g h : List UInt8} (e : ttake [] false s = some (g, h)) : text g ++ h = s := by
  obtain ⟨t, rfl, rfl⟩ := (ttake_back s [] g h).1 e
  simp [text]

theorem ttake_len {s g h : List UInt8} (e : ttake [] false s = some (g, h)) : g.length + h.length + 2 ≤ s.length := by
  obtain ⟨t, ht, rfl⟩ := (ttake_back s [] g h).1 e
  have h1 := esc_len t
  have h2 : g.length = t.length := by rw [ht]; simp
  simp; omega

/-- nothing that a text's string begins is one -/
theorem ttake_cut (l : List UInt8) : ∀ acc k, k < (esc l).length + 2 → ttake acc false ((esc l ++ [0, 1]).take k) = none := by
  induction l with
  | nil =>
    intro acc k hk
    match k, hk with
    | 0, _ => simp [ttake]
    | 1, _ => simp [esc, ttake]
    | k + 2, hk => simp [esc] at hk; omega
  | cons c r ih =>
    intro acc k hk
    simp only [esc] at hk ⊢
    by_cases hc : c = 0
    · subst hc
      simp only [if_true, List.cons_append, List.length_cons] at hk ⊢
      match k, hk with
      | 0, _ => simp [ttake]
      | 1, _ => simp [ttake]
      | k + 2, hk => simp [ttake]; have := ih (acc ++ [0]) k (by omega); simpa using this
    · simp only [hc, if_false, List.cons_append, List.length_cons] at hk ⊢
      match k, hk with
      | 0, _ => simp [ttake]
      | k + 1, hk => simp [ttake, hc]; have := ih (acc ++ [c]) k (by omega); simpa using this

theorem text_cut (l : List UInt8) (k : Nat) (h : k < (text l).length) : ttake [] false ((text l).take k) = none :=
  ttake_cut l [] k (by simpa [text] using h)

theorem less_cons_same (c : UInt8) (a b : List UInt8) : Op.bytesLess (c :: a) (c :: b) = Op.bytesLess a b := by
  have : ¬ c < c := by rw [UInt8.lt_iff_toNat_lt]; omega
  simp [Op.bytesLess, this]

theorem less_cons_ne {c d : UInt8} (h : ¬ c = d) (a b : List UInt8) : Op.bytesLess (c :: a) (d :: b) = decide (c < d) := by
  simp [Op.bytesLess, h]

theorem zero_less {d : UInt8} (h : ¬ d = 0) : (0 : UInt8) < d := by
  rw [UInt8.lt_iff_toNat_lt]
  have : d.toNat ≠ 0 := fun e => h (by rw [← UInt8.toNat_inj]; simpa using e)
  simp; omega

/-- texts' order, whatever stands behind -/
theorem esc_less (a : List UInt8) : ∀ b x y, Op.bytesLess (esc a ++ 0 :: 1 :: x) (esc b ++ 0 :: 1 :: y) = if a = b then Op.bytesLess x y else Op.bytesLess a b := by
  induction a with
  | nil =>
    intro b x y
    cases b with
    | nil => simp [esc, less_cons_same]
    | cons d t =>
      simp only [esc, List.nil_append]
      by_cases hd : d = 0
      · subst hd; simp [less_cons_same]; rw [less_cons_ne (by decide)]; simp [Op.bytesLess]
      · simp only [hd, if_false, List.cons_append]; rw [less_cons_ne (fun e => hd e.symm)]; simp [Op.bytesLess, zero_less hd]
  | cons c r ih =>
    intro b x y
    cases b with
    | nil =>
      simp only [esc, List.nil_append]
      by_cases hd : c = 0
      · subst hd; simp [less_cons_same]; rw [less_cons_ne (by decide)]; simp [Op.bytesLess]
      · simp only [hd, if_false, List.cons_append]; rw [less_cons_ne hd]; simp [Op.bytesLess]
    | cons d t =>
      by_cases hcd : c = d
      · subst hcd
        simp only [esc, List.cons.injEq, true_and, less_cons_same]
        rw [← ih t x y]
        split <;> simp [less_cons_same]
      · rw [if_neg (by simp [hcd]), less_cons_ne hcd]
        simp only [esc]
        by_cases hc : c = 0
        · subst hc
          have hd : ¬ d = 0 := fun e => hcd e.symm
          simp only [hd, if_true, if_false, List.cons_append]
          rw [less_cons_ne hcd]
        · by_cases hd : d = 0
          · subst hd; simp only [hc, if_true, if_false, List.cons_append]; rw [less_cons_ne hc]
          · simp only [hc, hd, if_false, List.cons_append]; rw [less_cons_ne hcd]

theorem text_less (a b x y : List UInt8) : Op.bytesLess (text a ++ x) (text b ++ y) = if a = b then Op.bytesLess x y else Op.bytesLess a b := by
  simpa [text] using esc_less a b x y

theorem less_irrefl (a : List UInt8) : Op.bytesLess a a = false := by
  induction a with
  | nil => rfl
  | cons c r ih => rw [less_cons_same, ih]

theorem text_less' (a b : List UInt8) : Op.bytesLess (text a) (text b) = Op.bytesLess a b := by
  have := text_less a b [] []
  simp only [List.append_nil] at this
  rw [this]
  split
  · rename_i h; subst h; rw [less_irrefl, less_irrefl]
  · rfl

end Go.Proofs.Ytfpojbnidoeohaa.M
