/-
  Plain mathematics of the sums of layer crc: no program, no memory.
-/
import Derived.Lib.SmallJoins
namespace Go.Proofs.Ytfpojbnidoeohaa.C

/-- one step of a number -/
def step (n : Nat) : Nat := if n % 2 = 1 then (n / 2) ^^^ 2197175160 else n / 2
/-- so many steps -/
def steps : Nat → Nat → Nat
  | 0, n => n
  | k + 1, n => step (steps k n)
def s8 (n : Nat) : Nat := steps 8 n
/-- a byte more -/
def upd (c : Nat) (x : UInt8) : Nat := s8 (c ^^^ x.toNat)
def run (c : Nat) (l : List UInt8) : Nat := l.foldl upd c
def flip (c : Nat) : Nat := 4294967295 ^^^ c
def more (c : Nat) (l : List UInt8) : Nat := flip (run (flip c) l)
def sum (l : List UInt8) : Nat := more 0 l

theorem xor_mod2 (a b : Nat) : (a ^^^ b) % 2 = (a + b) % 2 := by
  have h := Nat.testBit_xor a b 0
  simp only [Nat.testBit_zero] at h
  rcases Nat.mod_two_eq_zero_or_one a with ha | ha <;> rcases Nat.mod_two_eq_zero_or_one b with hb | hb <;> rcases Nat.mod_two_eq_zero_or_one (a ^^^ b) with hc | hc <;> simp [ha, hb, hc] at h <;> omega

theorem xor_zero_eq {a b : Nat} (h : a ^^^ b = 0) : a = b := by
  have h1 : (a ^^^ b) ^^^ b = b := by rw [h, Nat.zero_xor]
  rw [Nat.xor_assoc, Nat.xor_self, Nat.xor_zero] at h1
  exact h1

theorem xor_left_eq {a b c : Nat} (h : a ^^^ b = a ^^^ c) : b = c := by
  have h1 : a ^^^ (a ^^^ b) = a ^^^ (a ^^^ c) := by rw [h]
  rwa [← Nat.xor_assoc, ← Nat.xor_assoc, Nat.xor_self, Nat.zero_xor, Nat.zero_xor] at h1

theorem step_xor (a b : Nat) : step (a ^^^ b) = step a ^^^ step b := by
  have hd : (a ^^^ b) / 2 = a / 2 ^^^ b / 2 := by
    apply Nat.eq_of_testBit_eq
    intro i
    rw [Nat.testBit_div_two, Nat.testBit_xor, Nat.testBit_xor, Nat.testBit_div_two, Nat.testBit_div_two]
  have hm : (a ^^^ b) % 2 = (a + b) % 2 := xor_mod2 a b
  unfold step
  rw [hd, hm]
  rcases Nat.mod_two_eq_zero_or_one a with ha | ha <;> rcases Nat.mod_two_eq_zero_or_one b with hb | hb
  · rw [if_neg (by omega), if_neg (by omega), if_neg (by omega)]
  · rw [if_pos (by omega), if_neg (by omega), if_pos (by omega), Nat.xor_assoc]
  · rw [if_pos (by omega), if_pos (by omega), if_neg (by omega), Nat.xor_assoc, Nat.xor_assoc, Nat.xor_comm (b / 2)]
  · rw [if_neg (by omega), if_pos (by omega), if_pos (by omega)]
    generalize a / 2 = x
    generalize b / 2 = y
    apply Nat.eq_of_testBit_eq
    intro i
    simp only [Nat.testBit_xor]
    cases x.testBit i <;> cases y.testBit i <;> simp

theorem steps_xor (k a b : Nat) : steps k (a ^^^ b) = steps k a ^^^ steps k b := by
  induction k with
  | zero => rfl
  | succ k ih => rw [steps, ih, step_xor]; rfl

theorem s8_xor (a b : Nat) : s8 (a ^^^ b) = s8 a ^^^ s8 b := steps_xor 8 a b

theorem step_lt {n : Nat} (h : n < 4294967296) : step n < 4294967296 := by
  unfold step
  split
  · exact Nat.xor_lt_two_pow (n := 32) (by omega) (by omega)
  · omega

theorem steps_lt (k : Nat) {n : Nat} (h : n < 4294967296) : steps k n < 4294967296 := by
  induction k with
  | zero => exact h
  | succ k ih => exact step_lt ih

theorem s8_lt {n : Nat} (h : n < 4294967296) : s8 n < 4294967296 := steps_lt 8 h

theorem step_zero {n : Nat} (h : n < 4294967296) (h0 : step n = 0) : n = 0 := by
  unfold step at h0
  split at h0
  · have := xor_zero_eq h0
    omega
  · omega

theorem steps_zero (k : Nat) {n : Nat} (h : n < 4294967296) (h0 : steps k n = 0) : n = 0 := by
  induction k with
  | zero => exact h0
  | succ k ih => exact ih (step_zero (steps_lt k h) h0)

theorem s8_inj {a b : Nat} (ha : a < 4294967296) (hb : b < 4294967296) (h : s8 a = s8 b) : a = b := by
  have h1 : s8 (a ^^^ b) = 0 := by rw [s8_xor, h, Nat.xor_self]
  exact xor_zero_eq (steps_zero 8 (Nat.xor_lt_two_pow (n := 32) (by omega) (by omega)) h1)

theorem step_two (m : Nat) : step (2 * m) = m := by unfold step; rw [if_neg (by omega)]; omega

theorem s8_shift (b : Nat) : s8 (256 * b) = b := by
  have e : 256 * b = 2 * (2 * (2 * (2 * (2 * (2 * (2 * (2 * b))))))) := by omega
  rw [e]
  simp only [s8, steps, step_two]

theorem xor_low (q r : Nat) (h : r < 256) : r ^^^ (256 * q) = 256 * q + r := by
  apply Nat.eq_of_testBit_eq
  intro i
  have e : 256 * q = 2 ^ 8 * q := rfl
  rw [Nat.testBit_xor, e, Nat.testBit_two_pow_mul_add (a := q) (i := 8) (b := r) (by omega), Nat.testBit_two_pow_mul]
  by_cases hi : i < 8
  · simp [hi, show ¬ 8 ≤ i by omega]
  · have : r.testBit i = false := Nat.testBit_lt_two_pow (Nat.lt_of_lt_of_le (show r < 2 ^ 8 by omega) (Nat.pow_le_pow_right (by decide) (by omega)))
    simp [hi, this]; omega

/-- the table's way of eight steps -/
theorem s8_table (c x : Nat) : s8 (c % 256 ^^^ x) ^^^ c / 256 = s8 (c ^^^ x) := by
  have hc : c = (c % 256) ^^^ (256 * (c / 256)) := by rw [xor_low _ _ (by omega)]; omega
  have h2 : s8 (c ^^^ x) = s8 ((c % 256 ^^^ x) ^^^ (256 * (c / 256))) := by
    conv => lhs; rw [hc]
    rw [Nat.xor_assoc, Nat.xor_assoc, Nat.xor_comm x]
  rw [h2, s8_xor (c % 256 ^^^ x), s8_shift]

theorem upd_lt {c : Nat} (x : UInt8) (h : c < 4294967296) : upd c x < 4294967296 := by
  have := x.toNat_lt
  exact s8_lt (Nat.xor_lt_two_pow (n := 32) (by omega) (by omega))

theorem run_lt (l : List UInt8) {c : Nat} (h : c < 4294967296) : run c l < 4294967296 := by
  induction l generalizing c with
  | nil => exact h
  | cons x l ih => exact ih (upd_lt x h)

theorem run_append (c : Nat) (a b : List UInt8) : run c (a ++ b) = run (run c a) b := by simp [run]
theorem run_snoc (c : Nat) (a : List UInt8) (x : UInt8) : run c (a ++ [x]) = upd (run c a) x := by simp [run]

theorem flip_lt {c : Nat} (h : c < 4294967296) : flip c < 4294967296 := Nat.xor_lt_two_pow (n := 32) (by omega) (by omega)
theorem xor_twice (m c : Nat) : m ^^^ (m ^^^ c) = c := by rw [← Nat.xor_assoc, Nat.xor_self, Nat.zero_xor]
theorem flip_any (m : Nat) (hm : m = 4294967295) (c : Nat) : flip c = m ^^^ c := by subst hm; rfl
theorem flip_flip (c : Nat) : flip (flip c) = c := by
  obtain ⟨m, hm⟩ : ∃ m : Nat, m = 4294967295 := ⟨_, rfl⟩
  rw [flip_any m hm, flip_any m hm, xor_twice]
theorem more_lt {c : Nat} (l : List UInt8) (h : c < 4294967296) : more c l < 4294967296 := flip_lt (run_lt l (flip_lt h))
theorem sum_lt (l : List UInt8) : sum l < 4294967296 := more_lt l (by decide)

theorem sub_xor (n c : Nat) (h : c < 2 ^ n) : 2 ^ n - 1 - c = (2 ^ n - 1) ^^^ c := by
  have e : (~~~ (BitVec.ofNat n c)).toNat = (BitVec.allOnes n ^^^ BitVec.ofNat n c).toNat := by rw [BitVec.not_def]
  rw [BitVec.toNat_not, BitVec.toNat_xor, BitVec.toNat_ofNat, BitVec.toNat_allOnes, Nat.mod_eq_of_lt h] at e
  exact e

theorem flip_sub {c : Nat} (h : c < 4294967296) : 4294967295 - c = flip c := by
  obtain ⟨m, hm⟩ : ∃ m : Nat, m = 4294967295 := ⟨_, rfl⟩
  have h2 := sub_xor 32 c h
  have e : 2 ^ 32 - 1 = m := by rw [hm]
  rw [e] at h2
  rw [flip_any m hm, ← h2, hm]

theorem flip_inj {a b : Nat} (h : flip a = flip b) : a = b := by rw [← flip_flip a, h, flip_flip]

/-! ### What follows -/

theorem more_join (a b : List UInt8) : more (sum a) b = sum (a ++ b) := by
  simp only [sum, more, flip_flip, run_append]

theorem more_nil (c : Nat) : more c [] = c := by simp only [more, run, List.foldl_nil, flip_flip]

theorem sum_snoc (l : List UInt8) (x : UInt8) : sum (l ++ [x]) = flip (upd (flip (sum l)) x) := by
  simp only [sum, more, flip_flip, run_snoc]

theorem upd_inj {a b : Nat} (x : UInt8) (ha : a < 4294967296) (hb : b < 4294967296) (h : upd a x = upd b x) : a = b := by
  have := x.toNat_lt
  have h1 := s8_inj (Nat.xor_lt_two_pow (n := 32) (by omega) (by omega)) (Nat.xor_lt_two_pow (n := 32) (by omega) (by omega)) h
  exact xor_left_eq (a := x.toNat) (by rw [Nat.xor_comm, h1, Nat.xor_comm])

theorem run_inj (l : List UInt8) {a b : Nat} (ha : a < 4294967296) (hb : b < 4294967296) (h : run a l = run b l) : a = b := by
  induction l generalizing a b with
  | nil => exact h
  | cons x l ih => exact upd_inj x ha hb (ih (upd_lt x ha) (upd_lt x hb) h)

theorem upd_byte {c : Nat} (hc : c < 4294967296) {x y : UInt8} (h : upd c x = upd c y) : x = y := by
  have h1 := x.toNat_lt
  have h2 := y.toNat_lt
  have h3 := s8_inj (Nat.xor_lt_two_pow (n := 32) (by omega) (by omega)) (Nat.xor_lt_two_pow (n := 32) (by omega) (by omega)) h
  exact UInt8.toNat_inj.1 (xor_left_eq h3)

/-- one byte that is another one is told -/
theorem told_one (a b : List UInt8) {x y : UInt8} (h : sum (a ++ x :: b) = sum (a ++ y :: b)) : x = y := by
  have h1 : run (flip 0) (a ++ x :: b) = run (flip 0) (a ++ y :: b) := flip_inj h
  rw [run_append, run_append] at h1
  have h0 : flip 0 < 4294967296 := flip_lt (by decide)
  exact upd_byte (run_lt a h0) (run_inj b (upd_lt x (run_lt a h0)) (upd_lt y (run_lt a h0)) h1)

theorem s8_moves : ∀ d, d < 256 → s8 d = d → d = 0 := by decide +kernel

/-- two bytes that change places are told just if they are unlike -/
theorem told_two (a b : List UInt8) {x y : UInt8} (h : sum (a ++ x :: y :: b) = sum (a ++ y :: x :: b)) : x = y := by
  have h1 : run (flip 0) (a ++ x :: y :: b) = run (flip 0) (a ++ y :: x :: b) := flip_inj h
  rw [run_append, run_append] at h1
  have h0 : flip 0 < 4294967296 := flip_lt (by decide)
  have hc := run_lt a h0
  generalize run (flip 0) a = c at h1 hc
  have h2 : upd (upd c x) y = upd (upd c y) x := run_inj b (upd_lt y (upd_lt x hc)) (upd_lt x (upd_lt y hc)) h1
  have hx := x.toNat_lt
  have hy := y.toNat_lt
  have hcx := upd_lt x hc
  have hcy := upd_lt y hc
  have h3 : upd c x ^^^ y.toNat = upd c y ^^^ x.toNat := s8_inj (Nat.xor_lt_two_pow (n := 32) (by omega) (by omega)) (Nat.xor_lt_two_pow (n := 32) (by omega) (by omega)) h2
  unfold upd at h3
  rw [s8_xor, s8_xor] at h3
  have h4 : s8 (x.toNat ^^^ y.toNat) = x.toNat ^^^ y.toNat := by
    rw [s8_xor]
    generalize s8 c = p at h3
    generalize s8 x.toNat = q at h3
    generalize s8 y.toNat = r at h3
    generalize x.toNat = m at h3
    generalize y.toNat = n at h3
    apply Nat.eq_of_testBit_eq
    intro i
    have h5 := congrArg (fun t => Nat.testBit t i) h3
    simp only [Nat.testBit_xor] at h5 ⊢
    revert h5
    cases p.testBit i <;> cases q.testBit i <;> cases r.testBit i <;> cases m.testBit i <;> cases n.testBit i <;> simp
  have h5 := s8_moves _ (Nat.xor_lt_two_pow (n := 8) (by omega) (by omega)) h4
  exact UInt8.toNat_inj.1 (xor_zero_eq h5)

theorem xor6 (a b c d e f : Nat) : (a ^^^ b ^^^ c) ^^^ (d ^^^ e ^^^ f) = (a ^^^ d) ^^^ (b ^^^ e) ^^^ (c ^^^ f) := by
  apply Nat.eq_of_testBit_eq
  intro i
  simp only [Nat.testBit_xor]
  cases a.testBit i <;> cases b.testBit i <;> cases c.testBit i <;> cases d.testBit i <;> cases e.testBit i <;> cases f.testBit i <;> rfl

theorem upd3 (a b c : Nat) (x y z : UInt8) : upd (a ^^^ b ^^^ c) (x ^^^ y ^^^ z) = upd a x ^^^ upd b y ^^^ upd c z := by
  unfold upd
  rw [UInt8.toNat_xor, UInt8.toNat_xor, xor6, s8_xor, s8_xor]

/-- the three, byte by byte -/
def join3 : List UInt8 → List UInt8 → List UInt8 → List UInt8
  | x :: a, y :: b, z :: c => (x ^^^ y ^^^ z) :: join3 a b c
  | _, _, _ => []

theorem run3 : ∀ (l m n : List UInt8) (a b c : Nat), l.length = m.length → m.length = n.length → run (a ^^^ b ^^^ c) (join3 l m n) = run a l ^^^ run b m ^^^ run c n
  | [], [], [], _, _, _, _, _ => rfl
  | x :: l, y :: m, z :: n, a, b, c, h1, h2 => by
    have ih := run3 l m n (upd a x) (upd b y) (upd c z) (by simpa using h1) (by simpa using h2)
    rw [← upd3] at ih
    exact ih

theorem sum3 (l m n : List UInt8) (h1 : l.length = m.length) (h2 : m.length = n.length) : sum (join3 l m n) = sum l ^^^ sum m ^^^ sum n := by
  have h := run3 l m n (flip 0) (flip 0) (flip 0) h1 h2
  have e : flip 0 ^^^ flip 0 ^^^ flip 0 = flip 0 := by decide
  rw [e] at h
  unfold sum more
  rw [h]
  generalize run (flip 0) l = p
  generalize run (flip 0) m = q
  generalize run (flip 0) n = r
  unfold flip
  apply Nat.eq_of_testBit_eq
  intro i
  simp only [Nat.testBit_xor]
  cases p.testBit i <;> cases q.testBit i <;> cases r.testBit i <;> cases (4294967295 : Nat).testBit i <;> rfl

/-- the number that the bits below k of n make of the table -/
def bitsum (n : Nat) : Nat → Nat
  | 0 => 0
  | k + 1 => if n / 2 ^ k % 2 = 1 then bitsum n k ^^^ s8 (2 ^ k) else bitsum n k

theorem bitsum_all : ∀ n, n < 256 → bitsum n 8 = s8 n := by decide +kernel

theorem bitsum_lt (n k : Nat) (hk : k ≤ 8) : bitsum n k < 4294967296 := by
  induction k with
  | zero => show 0 < 4294967296; decide
  | succ k ih =>
    have h1 := ih (by omega)
    have h2 : 2 ^ k ≤ 2 ^ 7 := Nat.pow_le_pow_right (by decide) (by omega)
    rw [bitsum]
    split
    · exact Nat.xor_lt_two_pow (n := 32) h1 (s8_lt (by omega))
    · exact h1

theorem awake_sum : sum [49, 50, 51, 52, 53, 54, 55, 56, 57] = 3808858755 := by decide +kernel
theorem awake_one : s8 1 = 4067132163 := by decide +kernel

end Go.Proofs.Ytfpojbnidoeohaa.C
