/-
  The plain mathematics of layer ring: a ring's numbers, a record appended, a truncation; what stays. No program stands here.
  Walks of the document's ring: the sector of a number, how many are free, a truncation.
  The plain mathematics of layer scan: records read back off a disk, number by number; what is found of a ring's records, also behind a crash. No program stands here.
  The plain mathematics of layer scan's laws: a ring behind deeds, the records that it keeps, and how many of them were synced; what is found of them, behind a crash, too. No program stands here.
  The plain mathematics of layer slot: a checkpoint's frames read back from a slot; two slots in turn; what is loaded, also behind a crash. No program stands here.
  The plain mathematics of layer slot: savings one behind the other; what is loaded, also behind a crash. No program stands here.
-/
import Derived.Test.YtbjbnjpdackloaaJA
import Derived.Test.YtbjbnjpdackloaaJC
namespace Go.Proofs.Ytbjbnjpdackloaa.G

/-- the sector of a number -/
def at_ (first many seq : Nat) : Nat := first + seq % many

theorem at_range {first many seq : Nat} (h : 1 ≤ many) : first ≤ at_ first many seq ∧ at_ first many seq < first + many := by
  have := Nat.mod_lt seq (show many > 0 by omega)
  unfold at_
  omega

theorem mod_apart {many a b : Nat} (h : a < b) (hb : b < a + many) : a % many ≠ b % many := by
  intro e
  have h1 : (b - a) % many = 0 := by
    have := Nat.sub_mod_eq_zero_of_mod_eq e.symm
    exact this
  rw [Nat.mod_eq_of_lt (by omega)] at h1
  omega

theorem at_apart {first many a b : Nat} (h : a < b) (hb : b < a + many) : at_ first many a ≠ at_ first many b := by
  have := mod_apart h hb
  unfold at_
  omega

structure Rg where
  d : D.Dk
  first : Nat
  many : Nat
  epoch : Nat
  low : Nat
  next : Nat

structure Rg.May (r : Rg) : Prop where
  m1 : 1 ≤ r.many
  fits : r.first + r.many ≤ r.d.secs.length
  ln : r.low ≤ r.next
  nl : r.next ≤ r.low + r.many
  top : r.next ≤ 1073741824

/-- how many sectors are free -/
def Rg.free (r : Rg) : Nat := r.many + r.low - r.next

/-- frames written, each to the sector of its number -/
def lay (first many : Nat) (d : D.Dk) (fs : List R.Fr) : D.Dk := fs.foldl (fun d f => d.write (at_ first many f.seq) (R.sector f)) d

theorem lay_nil (first many : Nat) (d : D.Dk) : lay first many d [] = d := rfl
theorem lay_snoc (first many : Nat) (d : D.Dk) (fs : List R.Fr) (f : R.Fr) : lay first many d (fs ++ [f]) = (lay first many d fs).write (at_ first many f.seq) (R.sector f) := by simp [lay]
theorem lay_len (first many : Nat) (fs : List R.Fr) : ∀ d, (lay first many d fs).secs.length = d.secs.length := by
  induction fs with
  | nil => intro d; rfl
  | cons f r ih => intro d; exact (ih _).trans (D.write_len _ _ _)

theorem write_read {d : D.Dk} {k : Nat} {b : List UInt8} (hk : k < d.secs.length) (hb : b.length = 64) (i : Nat) : (d.write (k : Int) b).read i = if k = i then b else d.read i := by
  have ht : d.there (k : Int) := ⟨by omega, by omega⟩
  rw [D.Dk.write, if_pos ⟨ht, by omega⟩]
  unfold D.Dk.read
  rw [D.lastOf_snoc]
  have hf : D.full b = b := D.full_whole (by omega)
  simp [hf]

theorem write_row {d : D.Dk} {k : Nat} {b : List UInt8} (hk : k < d.secs.length) (hb : b.length = 64) : (d.write (k : Int) b).row.length = d.row.length + 1 := by
  have ht : d.there (k : Int) := ⟨by omega, by omega⟩
  rw [D.Dk.write, if_pos ⟨ht, by omega⟩]
  simp

/-- the first j frames of a record from the number 'next' on -/
def firsts (e next : Nat) (rec : List UInt8) (j : Nat) : List R.Fr := (List.range j).map (R.frameOf e next rec)
theorem firsts_succ (e next : Nat) (rec : List UInt8) (j : Nat) : firsts e next rec (j + 1) = firsts e next rec j ++ [R.frameOf e next rec j] := by simp [firsts, List.range_succ]
theorem firsts_all (e next : Nat) (rec : List UInt8) : firsts e next rec (R.many rec.length) = R.cut e next rec := rfl

theorem frameOf_fits (e s : Nat) (rec : List UInt8) (i : Nat) : (R.frameOf e s rec i).body.length ≤ 50 := by
  simp only [R.frameOf, List.length_take]
  omega
theorem frameOf_sector (e s : Nat) (rec : List UInt8) (i : Nat) : (R.sector (R.frameOf e s rec i)).length = 64 := R.sector_len (frameOf_fits e s rec i)

section
variable {first many e next : Nat} {d : D.Dk} {rec : List UInt8}

theorem firsts_row (h1 : 1 ≤ many) (hf : first + many ≤ d.secs.length) (j : Nat) : (lay first many d (firsts e next rec j)).row.length = d.row.length + j := by
  induction j with
  | zero => rfl
  | succ j ih =>
    have hr := at_range (first := first) (seq := (R.frameOf e next rec j).seq) h1
    rw [firsts_succ, lay_snoc, write_row (by rw [lay_len]; omega) (frameOf_sector _ _ _ _), ih]
    omega

/-- a sector of none of them -/
theorem firsts_other (h1 : 1 ≤ many) (hf : first + many ≤ d.secs.length) (i : Nat) (j : Nat) (hi : ∀ k, k < j → at_ first many ((next + k) % 4294967296) ≠ i) : (lay first many d (firsts e next rec j)).read i = d.read i := by
  induction j with
  | zero => rfl
  | succ j ih =>
    have hr := at_range (first := first) (seq := (R.frameOf e next rec j).seq) h1
    rw [firsts_succ, lay_snoc, write_read (by rw [lay_len]; omega) (frameOf_sector _ _ _ _), if_neg (show at_ first many (R.frameOf e next rec j).seq ≠ i from hi j (by omega))]
    exact ih fun k hk => hi k (by omega)

/-- a sector of one of them -/
theorem firsts_at (h1 : 1 ≤ many) (hf : first + many ≤ d.secs.length) (j : Nat) (hj : j ≤ many) (ht : next + j ≤ 4294967296) (k : Nat) (hk : k < j) :
    (lay first many d (firsts e next rec j)).read (at_ first many (next + k)) = R.sector (R.frameOf e next rec k) := by
  induction j with
  | zero => omega
  | succ j ih =>
    have hr := at_range (first := first) (seq := (R.frameOf e next rec j).seq) h1
    have hs : (R.frameOf e next rec j).seq = next + j := Nat.mod_eq_of_lt (by omega)
    rw [firsts_succ, lay_snoc, write_read (by rw [lay_len]; omega) (frameOf_sector _ _ _ _), hs]
    by_cases hkj : k = j
    · subst hkj
      rw [if_pos rfl]
    · rw [if_neg (fun ex => at_apart (a := next + k) (b := next + j) (by omega) (by omega) ex.symm)]
      exact ih (by omega) (by omega) (by omega)
end

/-- a record appended: what is told, and how the ring is then -/
def Rg.err (r : Rg) (rec : List UInt8) : Int := if r.free < R.many rec.length then 3 else if 1073741824 < r.next + R.many rec.length then 10 else 0
def Rg.put (r : Rg) (rec : List UInt8) : Rg := { r with d := lay r.first r.many r.d (R.cut r.epoch r.next rec), next := r.next + R.many rec.length }
def Rg.append (r : Rg) (rec : List UInt8) : Rg := if r.err rec = 0 then r.put rec else r
def Rg.told (r : Rg) (rec : List UInt8) : Nat := if r.err rec = 0 then r.next + R.many rec.length else 0
def Rg.trunc (r : Rg) (low : Nat) : Rg := if r.low < low ∧ low ≤ r.next then { r with low := low } else r
def Rg.sync (r : Rg) : Rg := { r with d := r.d.sync }

theorem err_zero {r : Rg} {rec : List UInt8} (h : r.err rec = 0) : R.many rec.length ≤ r.free ∧ r.next + R.many rec.length ≤ 1073741824 := by
  unfold Rg.err at h
  split at h
  · cases h
  · split at h
    · cases h
    · omega

theorem Rg.May.put {r : Rg} (h : r.May) {rec : List UInt8} (he : r.err rec = 0) : (r.put rec).May := by
  obtain ⟨h1, h2⟩ := err_zero he
  have a := h.ln
  have b := h.nl
  unfold Rg.free at h1
  exact ⟨h.m1, by show r.first + r.many ≤ (lay _ _ _ _).secs.length; rw [lay_len]; exact h.fits, by show r.low ≤ r.next + _; omega, by show r.next + _ ≤ r.low + r.many; omega, h2⟩
theorem Rg.May.append {r : Rg} (h : r.May) (rec : List UInt8) : (r.append rec).May := by
  unfold Rg.append
  split
  · exact h.put ‹_›
  · exact h
theorem Rg.May.trunc {r : Rg} (h : r.May) (low : Nat) : (r.trunc low).May := by
  unfold Rg.trunc
  split
  · rename_i hc
    have b := h.nl
    exact ⟨h.m1, h.fits, hc.2, by show r.next ≤ low + r.many; omega, h.top⟩
  · exact h
theorem Rg.May.sync {r : Rg} (h : r.May) : r.sync.May := ⟨h.m1, by show _ ≤ (D.Dk.sync _).secs.length; rw [D.sync_len]; exact h.fits, h.ln, h.nl, h.top⟩

/-- what is kept isn't written again by the next record -/
theorem put_spares {r : Rg} (h : r.May) {rec : List UInt8} (he : r.err rec = 0) (n : Nat) (h1 : r.low ≤ n) (h2 : n < r.next) : (r.put rec).d.read (at_ r.first r.many n) = r.d.read (at_ r.first r.many n) := by
  obtain ⟨h3, h4⟩ := err_zero he
  unfold Rg.free at h3
  have a := h.nl
  refine firsts_other h.m1 h.fits _ _ fun k hk ex => ?_
  rw [Nat.mod_eq_of_lt (by omega)] at ex
  exact at_apart (a := n) (b := r.next + k) (by omega) (by omega) ex.symm

/-- nothing is written outside of the place -/
theorem put_outside {r : Rg} (h : r.May) {rec : List UInt8} (i : Nat) (hi : i < r.first ∨ r.first + r.many ≤ i) : (r.put rec).d.read i = r.d.read i := by
  refine firsts_other h.m1 h.fits _ _ fun k _ ex => ?_
  have := at_range (first := r.first) (seq := (r.next + k) % 4294967296) h.m1
  omega

/-- the new record stands -/
theorem put_stands {r : Rg} (h : r.May) {rec : List UInt8} (he : r.err rec = 0) (k : Nat) (hk : k < R.many rec.length) : (r.put rec).d.read (at_ r.first r.many (r.next + k)) = R.sector (R.frameOf r.epoch r.next rec k) := by
  obtain ⟨h3, h4⟩ := err_zero he
  unfold Rg.free at h3
  have a := h.ln
  exact firsts_at h.m1 h.fits _ (by omega) (by omega) k hk

theorem put_row {r : Rg} (h : r.May) (rec : List UInt8) : (r.put rec).d.row.length = r.d.row.length + R.many rec.length := firsts_row h.m1 h.fits _

/-- a record, from its first number on, stands whole -/
def Stands (r : Rg) (x : Nat × List UInt8) : Prop := ∀ k, k < R.many x.2.length → r.d.read (at_ r.first r.many (x.1 + k)) = R.sector (R.frameOf r.epoch x.1 x.2 k)

/-- the records that were appended, one behind the other, up to 'n' -/
inductive Chain : Nat → List (Nat × List UInt8) → Nat → Prop
  | nil (n : Nat) : Chain n [] n
  | snoc {a n : Nat} {l : List (Nat × List UInt8)} (rec : List UInt8) : Chain a l n → Chain a (l ++ [(n, rec)]) (n + R.many rec.length)

/-- what holds of a ring behind deeds -/
structure Hist (r : Rg) (a : Nat) (l : List (Nat × List UInt8)) : Prop where
  may : r.May
  chain : Chain a l r.next
  ends : ∀ x ∈ l, x.1 + R.many x.2.length ≤ r.next
  stands : ∀ x ∈ l, r.low ≤ x.1 → Stands r x

theorem Hist.put {r : Rg} {a : Nat} {l : List (Nat × List UInt8)} (h : Hist r a l) {rec : List UInt8} (he : r.err rec = 0) : Hist (r.put rec) a (l ++ [(r.next, rec)]) := by
  refine ⟨h.may.put he, .snoc rec h.chain, fun x hx => ?_, fun x hx hl k hk => ?_⟩
  · rcases List.mem_append.1 hx with hx | hx
    · have := h.ends x hx
      show _ ≤ r.next + _
      omega
    · simp at hx
      subst hx
      exact Nat.le_refl _
  · rcases List.mem_append.1 hx with hx | hx
    · have he2 := h.ends x hx
      exact (put_spares h.may he (x.1 + k) (Nat.le_trans hl (Nat.le_add_right _ _)) (by omega)).trans (h.stands x hx hl k hk)
    · simp at hx
      subst hx
      exact put_stands h.may he k hk

theorem Hist.trunc {r : Rg} {a : Nat} {l : List (Nat × List UInt8)} (h : Hist r a l) (low : Nat) : Hist (r.trunc low) a l := by
  unfold Rg.trunc
  by_cases hc : r.low < low ∧ low ≤ r.next
  · have hm := h.may.trunc low
    rw [Rg.trunc, if_pos hc] at hm
    rw [if_pos hc]
    exact ⟨hm, h.chain, h.ends, fun x hx hl => h.stands x hx (Nat.le_trans (Nat.le_of_lt hc.1) hl)⟩
  · rw [if_neg hc]
    exact h

theorem Hist.sync {r : Rg} {a : Nat} {l : List (Nat × List UInt8)} (h : Hist r a l) : Hist r.sync a l := by
  refine ⟨h.may.sync, h.chain, h.ends, fun x hx hl k hk => ?_⟩
  have hr := at_range (first := r.first) (seq := x.1 + k) h.may.m1
  have hf := h.may.fits
  exact (D.sync_read r.d (at_ r.first r.many (x.1 + k)) (by omega)).trans (h.stands x hx hl k hk)

end Go.Proofs.Ytbjbnjpdackloaa.G

namespace Go.Proofs.Ytbjbnjpdackloaa
open Go.RowKit

/-- the document's ring r, by value: its disk's parts a, b, c ahead -/
def rgC (a b c : Value) (r : G.Rg) : List Value := [a, b, c, .int .i64 (r.first : Int), .int .i64 (r.many : Int), .int .u32 (r.epoch : Int), .int .u32 (r.low : Int), .int .u32 (r.next : Int)]

/-- v is the document's ring r, its disk in blocks of which F holds -/
def Rr (w : World) (F : Nat → Prop) (v : Value) (r : G.Rg) : Prop :=
  ∃ a b c, v = .agg (rgC a b c r).toArray ∧ Rd w F (.agg #[a, b, c]) r.d

/-- numbers of 32 bits, and small ones -/
structure RgNum (r : G.Rg) : Prop where
  e : r.epoch < 4294967296
  l : r.low < 4294967296
  n : r.next < 4294967296
  f : r.first ≤ 1024
  m1 : 1 ≤ r.many
  m : r.many ≤ 1024

theorem rd_form {w : World} {F : Nat → Prop} {a b c : Value} {d : D.Dk} (h : Rd w F (.agg #[a, b, c]) d) : ∃ A n k B m l C p q, a = .slice A n k ∧ b = .slice B m l ∧ c = .slice C p q := by
  obtain ⟨a', b', c', e, h1, h2, h3⟩ := h
  cases e
  obtain ⟨_, A, k, e1, _⟩ := h1
  obtain ⟨_, B, l, e2, _⟩ := h2
  obtain ⟨_, C, q, e3, _⟩ := h3
  exact ⟨A, _, k, B, _, l, C, _, q, e1, e2, e3⟩

end Go.Proofs.Ytbjbnjpdackloaa

namespace Go.Proofs.Ytbjbnjpdackloaa.Q

/-- the frame with number n at a sector, where it may come (b: it is the first one read, or the one ahead of it had Last) -/
def good (d : D.Dk) (i : Int) (epoch n : Nat) (b : Bool) : Option R.Fr :=
  if d.there i then
    match R.parse (d.read i.toNat) with
    | some f => if f.seq = n ∧ f.epoch = epoch ∧ (f.flag.toNat % 2 == 1) = b then some f else none
    | none => none
  else none

theorem good_some {d : D.Dk} {i : Int} {epoch n : Nat} {b : Bool} {f : R.Fr} (h : good d i epoch n b = some f) : d.there i ∧ R.parse (d.read i.toNat) = some f ∧ f.seq = n ∧ f.epoch = epoch ∧ (f.flag.toNat % 2 == 1) = b := by
  unfold good at h
  split at h
  · rename_i ht
    split at h
    · rename_i g hg
      split at h
      · rename_i hc
        cases h
        exact ⟨ht, hg, hc.1, hc.2.1, hc.2.2⟩
      · cases h
    · cases h
  · cases h
theorem good_of {d : D.Dk} {i : Int} {epoch n : Nat} {b : Bool} {f : R.Fr} (ht : d.there i) (hp : R.parse (d.read i.toNat) = some f) (h1 : f.seq = n) (h2 : f.epoch = epoch) (h3 : (f.flag.toNat % 2 == 1) = b) : good d i epoch n b = some f := by
  unfold good
  rw [if_pos ht, hp]
  simp only [h1, h2, h3, and_self, if_true]

/-- records, each with the number behind it: k numbers more, from n on; body: what was read of the record since its first frame -/
def recs (d : D.Dk) (ix : Nat → Int) (epoch : Nat) : Nat → Nat → Bool → List UInt8 → List (Nat × List UInt8)
  | 0, _, _, _ => []
  | k + 1, n, b, body =>
    match good d (ix n) epoch n b with
    | none => []
    | some f =>
      if f.flag.toNat / 2 % 2 = 1 then ((n + 1) % 4294967296, (if b then [] else body) ++ f.body) :: recs d ix epoch k ((n + 1) % 4294967296) true ((if b then [] else body) ++ f.body)
      else recs d ix epoch k ((n + 1) % 4294967296) false ((if b then [] else body) ++ f.body)

theorem recs_none {d : D.Dk} {ix : Nat → Int} {epoch k n : Nat} {b : Bool} {body : List UInt8} (h : good d (ix n) epoch n b = none) : recs d ix epoch k n b body = [] := by
  cases k with
  | zero => rfl
  | succ k => rw [recs, h]
theorem recs_last {d : D.Dk} {ix : Nat → Int} {epoch k n : Nat} {b : Bool} {body : List UInt8} {f : R.Fr} (h : good d (ix n) epoch n b = some f) (hf : f.flag.toNat / 2 % 2 = 1) : recs d ix epoch (k + 1) n b body = ((n + 1) % 4294967296, (if b then [] else body) ++ f.body) :: recs d ix epoch k ((n + 1) % 4294967296) true ((if b then [] else body) ++ f.body) := by
  rw [recs, h]
  simp only [hf, if_true]
theorem recs_more {d : D.Dk} {ix : Nat → Int} {epoch k n : Nat} {b : Bool} {body : List UInt8} {f : R.Fr} (h : good d (ix n) epoch n b = some f) (hf : ¬ f.flag.toNat / 2 % 2 = 1) : recs d ix epoch (k + 1) n b body = recs d ix epoch k ((n + 1) % 4294967296) false ((if b then [] else body) ++ f.body) := by
  rw [recs, h]
  simp only [hf, if_false]

/-- the number behind all that was found -/
def behind (n : Nat) (l : List (Nat × List UInt8)) : Nat := (l.getLast?.map (·.1)).getD n

theorem flag_first (k m : Nat) : ((R.flagOf k m).toNat % 2 == 1) = decide (k = 0) := by
  unfold R.flagOf
  by_cases h1 : k = 0
  · rw [if_pos h1, decide_eq_true h1]
    by_cases h2 : k + 1 = m
    · rw [if_pos h2]; rfl
    · rw [if_neg h2]; rfl
  · rw [if_neg h1, decide_eq_false h1]
    by_cases h2 : k + 1 = m
    · rw [if_pos h2]; rfl
    · rw [if_neg h2]; rfl
theorem flag_last (k m : Nat) : (R.flagOf k m).toNat / 2 % 2 = 1 ↔ k + 1 = m := by
  unfold R.flagOf
  by_cases h1 : k = 0
  · rw [if_pos h1]
    by_cases h2 : k + 1 = m
    · rw [if_pos h2]; exact ⟨fun _ => h2, fun _ => rfl⟩
    · rw [if_neg h2]; exact ⟨fun h => absurd h (by decide), fun h => absurd h h2⟩
  · rw [if_neg h1]
    by_cases h2 : k + 1 = m
    · rw [if_pos h2]; exact ⟨fun _ => h2, fun _ => rfl⟩
    · rw [if_neg h2]; exact ⟨fun h => absurd h (by decide), fun h => absurd h h2⟩

theorem rec_more (rec : List UInt8) (j : Nat) : rec.take (50 * j) ++ (rec.drop (50 * j)).take 50 = rec.take (50 * (j + 1)) := by
  rw [show 50 * (j + 1) = 50 * j + 50 by omega, List.take_add]
theorem rec_all (rec : List UInt8) : rec.take (50 * R.many rec.length) = rec := by
  rw [List.take_of_length_le]
  unfold R.many
  split <;> omega

/-- a frame that stands at a number of the record x is the record's own -/
def Right (d : D.Dk) (ix : Nat → Int) (e : Nat) (x : Nat × List UInt8) : Prop := ∀ k, k < R.many x.2.length → ∀ b f, good d (ix (x.1 + k)) e (x.1 + k) b = some f → f = R.frameOf e x.1 x.2 k
/-- all frames of the record x stand -/
def Full (d : D.Dk) (ix : Nat → Int) (e : Nat) (x : Nat × List UInt8) : Prop := ∀ k, k < R.many x.2.length → good d (ix (x.1 + k)) e (x.1 + k) (decide (k = 0)) = some (R.frameOf e x.1 x.2 k)

def told (x : Nat × List UInt8) : Nat × List UInt8 := (x.1 + R.many x.2.length, x.2)

section
variable {d : D.Dk} {ix : Nat → Int} {e : Nat}

/-- one record, from its frame j on -/
theorem recs_one {x : Nat × List UInt8} (hR : Right d ix e x) (hn : x.1 + R.many x.2.length < 4294967296) : ∀ (t j fuel : Nat) (body : List UInt8), j + t + 1 = R.many x.2.length → (j ≠ 0 → body = x.2.take (50 * j)) →
    (recs d ix e (fuel + (t + 1)) (x.1 + j) (decide (j = 0)) body = told x :: recs d ix e fuel (x.1 + R.many x.2.length) true x.2) ∨ (recs d ix e (fuel + (t + 1)) (x.1 + j) (decide (j = 0)) body = [] ∧ ¬ Full d ix e x) := by
  intro t
  induction t with
  | zero =>
    intro j fuel body hj hb
    cases hg : good d (ix (x.1 + j)) e (x.1 + j) (decide (j = 0)) with
    | none => exact Or.inr ⟨recs_none hg, fun hF => by rw [hF j (by omega)] at hg; cases hg⟩
    | some f =>
      have hf := hR j (by omega) _ f hg
      left
      rw [recs_last hg (by rw [hf]; exact (flag_last _ _).2 (by omega)), Nat.mod_eq_of_lt (by omega), show x.1 + j + 1 = x.1 + R.many x.2.length by omega]
      have hbody : (if decide (j = 0) = true then [] else body) ++ f.body = x.2 := by
        rw [hf]
        show _ ++ (x.2.drop (50 * j)).take 50 = x.2
        by_cases h0 : j = 0
        · subst h0
          simp only [decide_true, if_true, List.nil_append, Nat.mul_zero, List.drop_zero]
          have := rec_all x.2
          rw [← hj] at this
          exact this
        · simp only [h0, decide_false, Bool.false_eq_true, if_false]
          rw [hb h0, rec_more, show j + 1 = R.many x.2.length by omega, rec_all]
      rw [hbody]
      rfl
  | succ t ih =>
    intro j fuel body hj hb
    cases hg : good d (ix (x.1 + j)) e (x.1 + j) (decide (j = 0)) with
    | none => exact Or.inr ⟨recs_none hg, fun hF => by rw [hF j (by omega)] at hg; cases hg⟩
    | some f =>
      have hf := hR j (by omega) _ f hg
      rw [show fuel + (t + 1 + 1) = (fuel + (t + 1)) + 1 by omega, recs_more hg (by rw [hf]; exact fun h => by have := (flag_last j (R.many x.2.length)).1 h; omega), Nat.mod_eq_of_lt (by omega)]
      have hbody : (if decide (j = 0) = true then [] else body) ++ f.body = x.2.take (50 * (j + 1)) := by
        rw [hf]
        show _ ++ (x.2.drop (50 * j)).take 50 = _
        by_cases h0 : j = 0
        · subst h0
          simp
        · simp only [h0, decide_false, Bool.false_eq_true, if_false]
          rw [hb h0, rec_more]
      rw [hbody]
      have := ih (j + 1) fuel (x.2.take (50 * (j + 1))) (by omega) (fun _ => rfl)
      rw [show decide (j + 1 = 0) = false by simp] at this
      exact this

/-- records one behind the other, from s to n -/
def Chn : Nat → List (Nat × List UInt8) → Nat → Prop
  | s, [], n => s = n
  | s, x :: l, n => x.1 = s ∧ Chn (s + R.many x.2.length) l n

theorem Chn.le : ∀ {l : List (Nat × List UInt8)} {s n : Nat}, Chn s l n → s ≤ n
  | [], _, _, h => by cases h; exact Nat.le_refl _
  | _ :: _, _, _, h => Nat.le_trans (Nat.le_add_right _ _) (Chn.le h.2)

theorem Chn.snoc : ∀ {l : List (Nat × List UInt8)} {s n : Nat} (_ : Chn s l n) (rec : List UInt8), Chn s (l ++ [(n, rec)]) (n + R.many rec.length)
  | [], _, _, h, _ => by cases h; exact ⟨rfl, rfl⟩
  | _ :: _, _, _, h, rec => ⟨h.1, Chn.snoc h.2 rec⟩
theorem chn_of {a n : Nat} {l : List (Nat × List UInt8)} (h : G.Chain a l n) : Chn a l n := by
  induction h with
  | nil => exact rfl
  | snoc rec _ ih => exact ih.snoc rec

/-- what is found is a begin of the records, and all that stand whole at their begin -/
theorem recs_begin {n : Nat} (hn : n < 4294967296) (hend : ∀ b, good d (ix n) e n b = none) : ∀ (L : List (Nat × List UInt8)) (s fuel : Nat) (body : List UInt8), Chn s L n → n ≤ s + fuel → (∀ x ∈ L, Right d ix e x) →
    ∃ j, j ≤ L.length ∧ recs d ix e fuel s true body = (L.take j).map told ∧ ∀ i, i ≤ L.length → (∀ x ∈ L.take i, Full d ix e x) → i ≤ j := by
  intro L
  induction L with
  | nil =>
    intro s fuel body hc _ _
    cases hc
    exact ⟨0, Nat.le_refl _, recs_none (hend true), fun i hi _ => hi⟩
  | cons x t ih =>
    intro s fuel body hc hf hR
    obtain ⟨h1, h2⟩ := hc
    have hle := h2.le
    have hm := R.many_pos x.2.length
    obtain ⟨c, rfl⟩ : ∃ c, fuel = c + R.many x.2.length := ⟨fuel - R.many x.2.length, by omega⟩
    have h := recs_one (hR x (List.mem_cons_self ..)) (by omega) (R.many x.2.length - 1) 0 c body (by omega) (fun h => absurd rfl h)
    rw [show c + (R.many x.2.length - 1 + 1) = c + R.many x.2.length by omega, Nat.add_zero, h1] at h
    simp only [decide_true] at h
    rcases h with h | ⟨h, hF⟩
    · obtain ⟨j, hj, he, hi⟩ := ih (s + R.many x.2.length) c x.2 h2 (by omega) (fun y hy => hR y (List.mem_cons_of_mem _ hy))
      refine ⟨j + 1, by simp; omega, by rw [h, he]; rfl, fun i hi' hx => ?_⟩
      cases i with
      | zero => omega
      | succ i =>
        have := hi i (by simp at hi'; omega) (fun y hy => hx y (by simp [hy]))
        omega
    · refine ⟨0, Nat.zero_le _, h, fun i hi' hx => ?_⟩
      cases i with
      | zero => omega
      | succ i => exact absurd (hx x (by simp)) hF

/-- all records that stand are found -/
theorem recs_whole {n : Nat} (hn : n < 4294967296) (hend : ∀ b, good d (ix n) e n b = none) (L : List (Nat × List UInt8)) (s fuel : Nat) (body : List UInt8) (hc : Chn s L n) (hf : n ≤ s + fuel) (hR : ∀ x ∈ L, Right d ix e x) (hF : ∀ x ∈ L, Full d ix e x) : recs d ix e fuel s true body = L.map told := by
  obtain ⟨j, hj, he, hi⟩ := recs_begin hn hend L s fuel body hc hf hR
  have := hi L.length (Nat.le_refl _) (fun x hx => hF x (List.mem_of_mem_take hx))
  rw [he, List.take_of_length_le this]
end

/-- a sector holds these bytes, or a write to it does that isn't synced -/
def Holds (d : D.Dk) (i : Nat) (c : D.Sec) : Prop := d.secs[i]? = some c ∨ (i, c) ∈ d.row

theorem holds_read {d : D.Dk} {i : Nat} (hi : i < d.secs.length) : Holds d i (d.read i) := by
  unfold D.Dk.read
  rcases D.lastOf_is d.row i (d.secs.getD i []) with h | ⟨x, hx, h1, h2⟩
  · left; rw [h, List.getD_eq_getElem?_getD, List.getElem?_eq_getElem hi]; rfl
  · right; rw [h2, ← h1]; exact hx
theorem holds_crash {d : D.Dk} {i : Nat} (hi : i < d.secs.length) (keep : List Bool) : Holds d i ((d.crash keep).read i) := by
  rcases D.torn d i keep hi with h | ⟨x, hx, h1, h2⟩
  · left; rw [h]; exact List.getElem?_eq_getElem hi
  · right; rw [h2, ← h1]; exact hx

/-- whatever frame of the ring's epoch the disk holds, anywhere, was appended, with its number -/
def Known (r : G.Rg) (L : List (Nat × List UInt8)) : Prop := ∀ i c f, Holds r.d i c → R.parse c = some f → f.epoch = r.epoch → f.seq < r.next ∧ ∀ x ∈ L, ∀ k, k < R.many x.2.length → x.1 + k = f.seq → f = R.frameOf r.epoch x.1 x.2 k

theorem holds_write {d : D.Dk} {k i : Nat} {b c : D.Sec} (hb : b.length = 64) (h : Holds (d.write (k : Int) b) i c) : Holds d i c ∨ c = b := by
  unfold D.Dk.write at h
  split at h
  · rcases h with h | h
    · exact Or.inl (Or.inl h)
    · rcases List.mem_append.1 h with h | h
      · exact Or.inl (Or.inr h)
      · right
        simp at h
        rw [h.2, D.full_whole (by omega)]
  · exact Or.inl h

theorem holds_firsts {first many e next : Nat} {d : D.Dk} {rec : List UInt8} {i : Nat} {c : D.Sec} : ∀ j, Holds (G.lay first many d (G.firsts e next rec j)) i c → Holds d i c ∨ ∃ k, k < j ∧ c = R.sector (R.frameOf e next rec k) := by
  intro j
  induction j with
  | zero => intro h; exact Or.inl h
  | succ j ih =>
    intro h
    rw [G.firsts_succ, G.lay_snoc] at h
    rcases holds_write (G.frameOf_sector _ _ _ _) h with h | h
    · rcases ih h with h | ⟨k, hk, h⟩
      · exact Or.inl h
      · exact Or.inr ⟨k, by omega, h⟩
    · exact Or.inr ⟨j, by omega, h⟩

theorem holds_sync {d : D.Dk} {i : Nat} {c : D.Sec} (h : Holds d.sync i c) : Holds d i c := by
  rcases h with h | h
  · have hl : i < d.secs.length := by
      have := (List.getElem?_eq_some_iff.1 h).1
      rwa [D.sync_len] at this
    have e := D.done_at d.row i d.secs
    have h' : (D.done d.secs d.row)[i]? = some c := h
    rw [e, List.getElem?_eq_getElem hl] at h'
    simp at h'
    rcases D.lastOf_is d.row i d.secs[i] with g | ⟨x, hx, h1, h2⟩
    · left; rw [← h', g]; exact List.getElem?_eq_getElem hl
    · right; rw [← h', h2, ← h1]; exact hx
  · cases h

theorem Known.put {r : G.Rg} {a : Nat} {L : List (Nat × List UInt8)} (h : Known r L) (hh : G.Hist r a L) (he : r.epoch < 4294967296) {rec : List UInt8} (hz : r.err rec = 0) : Known (r.put rec) (L ++ [(r.next, rec)]) := by
  obtain ⟨_, htop⟩ := G.err_zero hz
  intro i c f hc hp hf
  rcases holds_firsts _ hc with hc | ⟨k, hk, rfl⟩
  · obtain ⟨h1, h2⟩ := h i c f hc hp hf
    refine ⟨by show f.seq < r.next + _; omega, fun x hx k hk hs => ?_⟩
    rcases List.mem_append.1 hx with hx | hx
    · exact h2 x hx k hk hs
    · simp at hx
      subst hx
      simp only at hs
      omega
  · have hnum : (R.frameOf r.epoch r.next rec k).Num := ⟨he, Nat.mod_lt _ (by decide)⟩
    rw [R.parse_sector hnum (G.frameOf_fits _ _ _ _)] at hp
    cases hp
    have hseq : (R.frameOf r.epoch r.next rec k).seq = r.next + k := Nat.mod_eq_of_lt (by omega)
    refine ⟨by rw [hseq]; show r.next + k < r.next + _; omega, fun x hx j hj hs => ?_⟩
    rw [hseq] at hs
    rcases List.mem_append.1 hx with hx | hx
    · have := hh.ends x hx; omega
    · simp at hx
      subst hx
      simp only at hs
      obtain rfl : j = k := by omega
      rfl
theorem Known.trunc {r : G.Rg} {L : List (Nat × List UInt8)} (h : Known r L) (low : Nat) : Known (r.trunc low) L := by
  unfold G.Rg.trunc
  split
  · exact h
  · exact h
theorem Known.sync {r : G.Rg} {L : List (Nat × List UInt8)} (h : Known r L) : Known r.sync L := fun i c f hc hp hf => h i c f (holds_sync hc) hp hf
theorem known_new {n first many epoch low next : Nat} : Known ⟨⟨List.replicate n (D.full []), []⟩, first, many, epoch, low, next⟩ [] := by
  intro i c f hc hp _
  rcases hc with hc | hc
  · have hm : c ∈ List.replicate n (D.full []) := List.mem_of_getElem? hc
    rw [List.eq_of_mem_replicate hm] at hp
    have : D.full [] = List.replicate 64 0 := rfl
    rw [this, R.zeros_none] at hp
    cases hp
  · cases hc

/-- the sector of a number -/
def ixOf (r : G.Rg) (n : Nat) : Int := (G.at_ r.first r.many n : Nat)

/-- on a disk each of whose sectors holds what the ring's disk held: a frame at a record's number is the record's own; at the next number there is none -/
theorem right_of {r : G.Rg} {L : List (Nat × List UInt8)} (hK : Known r L) {d' : D.Dk} (hl : d'.secs.length = r.d.secs.length) (hH : ∀ i, i < d'.secs.length → Holds r.d i (d'.read i)) : (∀ x ∈ L, Right d' (ixOf r) r.epoch x) ∧ ∀ b, good d' (ixOf r r.next) r.epoch r.next b = none := by
  refine ⟨fun x hx k hk b f hg => ?_, fun b => ?_⟩
  · obtain ⟨ht, hp, hs, he, _⟩ := good_some hg
    exact (hK _ _ f (hH _ (by have := ht.2; have := ht.1; omega)) hp he).2 x hx k hk hs.symm
  · cases hg : good d' (ixOf r r.next) r.epoch r.next b with
    | none => rfl
    | some f =>
      obtain ⟨ht, hp, hs, he, _⟩ := good_some hg
      have := (hK _ _ f (hH _ (by have := ht.2; have := ht.1; omega)) hp he).1
      omega

/-- a record that stands is whole -/
theorem full_of {r : G.Rg} (hm : r.May) (he : r.epoch < 4294967296) {x : Nat × List UInt8} (hx : x.1 + R.many x.2.length ≤ 1073741824) {d' : D.Dk} (hl : d'.secs.length = r.d.secs.length) (hS : ∀ k, k < R.many x.2.length → d'.read (G.at_ r.first r.many (x.1 + k)) = R.sector (R.frameOf r.epoch x.1 x.2 k)) : Full d' (ixOf r) r.epoch x := by
  intro k hk
  have hr := G.at_range (first := r.first) (seq := x.1 + k) hm.m1
  have hf := hm.fits
  have hnum : (R.frameOf r.epoch x.1 x.2 k).Num := ⟨he, Nat.mod_lt _ (by decide)⟩
  refine good_of ⟨by unfold ixOf; omega, by unfold ixOf; omega⟩ ?_ (Nat.mod_eq_of_lt (by omega)) rfl (flag_first _ _)
  unfold ixOf
  rw [Int.toNat_natCast, hS k hk]
  exact R.parse_sector hnum (G.frameOf_fits _ _ _ _)

end Go.Proofs.Ytbjbnjpdackloaa.Q

namespace Go.Proofs.Ytbjbnjpdackloaa.Q

/-- a ring, the records that were appended (L), those that it keeps, and how many of these were synced -/
structure Kp (r : G.Rg) (L kept : List (Nat × List UInt8)) (syn : Nat) : Prop where
  hist : G.Hist r 0 L
  known : Known r L
  sub : ∀ x ∈ kept, x ∈ L
  chn : Chn r.low kept r.next
  le : syn ≤ kept.length
  held : ∀ x ∈ kept.take syn, ∀ k, k < R.many x.2.length → D.Keeps r.d (G.at_ r.first r.many (x.1 + k)) (R.sector (R.frameOf r.epoch x.1 x.2 k))

theorem Chn.mem : ∀ {l : List (Nat × List UInt8)} {s n : Nat}, Chn s l n → ∀ x ∈ l, s ≤ x.1 ∧ x.1 + R.many x.2.length ≤ n
  | [], _, _, _, x, hx => by simp at hx
  | y :: l, s, n, h, x, hx => by
    rcases List.mem_cons.1 hx with rfl | hx
    · exact ⟨Nat.le_of_eq h.1.symm, by rw [h.1]; exact h.2.le⟩
    · have := h.2.mem x hx
      exact ⟨by omega, this.2⟩

/-- without its first k records a chain begins where the k-th one ends -/
theorem Chn.drop : ∀ {l : List (Nat × List UInt8)} {s n : Nat}, Chn s l n → ∀ k (hk : k < l.length), Chn (l[k].1 + R.many l[k].2.length) (l.drop (k + 1)) n
  | [], _, _, _, k, hk => by simp at hk
  | y :: l, s, n, h, 0, _ => by
    show Chn (y.1 + _) l n
    rw [h.1]; exact h.2
  | y :: l, s, n, h, k + 1, hk => by
    simp only [List.length_cons] at hk
    exact h.2.drop k (by omega)

theorem keeps_lay {first many : Nat} {i : Nat} {s : D.Sec} : ∀ (fs : List R.Fr) {d : D.Dk}, D.Keeps d i s → (∀ f ∈ fs, G.at_ first many f.seq ≠ i) → D.Keeps (G.lay first many d fs) i s := by
  intro fs
  induction fs with
  | nil => intro d h _; exact h
  | cons f t ih =>
    intro d h hf
    refine ih (h.write _ _ ?_) (fun g hg => hf g (List.mem_cons_of_mem _ hg))
    have := hf f (List.mem_cons_self ..)
    omega

theorem keeps_sync {d : D.Dk} {i : Nat} (hi : i < d.secs.length) : D.Keeps d.sync i (d.read i) := by
  refine ⟨?_, fun x hx => by simp [D.Dk.sync] at hx⟩
  rw [D.Dk.sync, D.done_at, List.getElem?_eq_getElem hi, D.Dk.read, List.getD_eq_getElem?_getD, List.getElem?_eq_getElem hi]
  rfl

section
variable {r : G.Rg} {L kept : List (Nat × List UInt8)} {syn : Nat}

theorem Kp.stands (h : Kp r L kept syn) {x : Nat × List UInt8} (hx : x ∈ kept) : G.Stands r x := h.hist.stands x (h.sub x hx) (h.chn.mem x hx).1

/-- a record appended -/
theorem Kp.put (h : Kp r L kept syn) (he : r.epoch < 4294967296) {rec : List UInt8} (hz : r.err rec = 0) : Kp (r.put rec) (L ++ [(r.next, rec)]) (kept ++ [(r.next, rec)]) syn := by
  obtain ⟨hfr, htop⟩ := G.err_zero hz
  have hnl := h.hist.may.nl
  have hln := h.hist.may.ln
  unfold G.Rg.free at hfr
  refine ⟨h.hist.put hz, h.known.put h.hist he hz, fun x hx => ?_, h.chn.snoc rec, by have := h.le; simp; omega, fun x hx k hk => ?_⟩
  · rcases List.mem_append.1 hx with hx | hx
    · exact List.mem_append_left _ (h.sub x hx)
    · exact List.mem_append_right _ hx
  · rw [List.take_append_of_le_length h.le] at hx
    refine keeps_lay _ (h.held x hx k hk) (fun f hf e => ?_)
    have hxm := h.chn.mem x (List.mem_of_mem_take hx)
    obtain ⟨j, hj, rfl⟩ := List.getElem_of_mem hf
    rw [R.cut_at] at e
    rw [R.cut_len] at hj
    have hs : (R.frameOf r.epoch r.next rec j).seq = r.next + j := Nat.mod_eq_of_lt (by omega)
    rw [hs] at e
    have e1 : x.1 + k < r.next := by have := hxm.2; omega
    have e2 : r.next + j < r.low + r.many := by omega
    have e3 := hxm.1
    exact G.at_apart (first := r.first) (many := r.many) (a := x.1 + k) (b := r.next + j) (by omega) (by omega) e.symm

/-- a truncation behind the first records -/
theorem Kp.cut (h : Kp r L kept syn) (k : Nat) (hk : k < kept.length) : Kp (r.trunc (kept[k].1 + R.many kept[k].2.length)) L (kept.drop (k + 1)) (syn - (k + 1)) := by
  have hm := h.chn.mem kept[k] (List.getElem_mem hk)
  have hp := R.many_pos kept[k].2.length
  have ht : r.trunc (kept[k].1 + R.many kept[k].2.length) = { r with low := kept[k].1 + R.many kept[k].2.length } := by rw [G.Rg.trunc, if_pos ⟨by omega, by omega⟩]
  have hh := h.hist.trunc (kept[k].1 + R.many kept[k].2.length)
  have hkn := h.known.trunc (kept[k].1 + R.many kept[k].2.length)
  rw [ht] at hh hkn ⊢
  refine ⟨hh, hkn, fun x hx => h.sub x (List.mem_of_mem_drop hx), h.chn.drop k hk, by have := h.le; simp; omega, fun x hx j hj => ?_⟩
  refine h.held x ?_ j hj
  rw [List.take_drop] at hx
  by_cases hs : k + 1 ≤ syn
  · rw [show k + 1 + (syn - (k + 1)) = syn by omega] at hx
    exact List.mem_of_mem_drop hx
  · rw [show syn - (k + 1) = 0 by omega, Nat.add_zero, List.drop_take] at hx
    simp at hx

/-- a sync -/
theorem Kp.sync (h : Kp r L kept syn) : Kp r.sync L kept kept.length := by
  refine ⟨h.hist.sync, h.known.sync, h.sub, h.chn, Nat.le_refl _, fun x hx k hk => ?_⟩
  rw [List.take_length] at hx
  have hr := G.at_range (first := r.first) (seq := x.1 + k) h.hist.may.m1
  have hf := h.hist.may.fits
  have := keeps_sync (d := r.d) (i := G.at_ r.first r.many (x.1 + k)) (by omega)
  rw [h.stands hx k hk] at this
  exact this

theorem kp_new {n first many epoch : Nat} (h1 : 1 ≤ many) (hf : first + many ≤ n) : Kp ⟨⟨List.replicate n (D.full []), []⟩, first, many, epoch, 0, 0⟩ [] [] 0 :=
  ⟨⟨⟨h1, by simpa using hf, Nat.le_refl _, Nat.zero_le _, Nat.zero_le _⟩, .nil _, fun x hx => by simp at hx, fun x hx => by simp at hx⟩, known_new, fun x hx => by simp at hx, rfl, Nat.le_refl _, fun x hx => by simp at hx⟩

/-- what is kept is found, from the k-th record on -/
theorem Kp.found (h : Kp r L kept syn) (he : r.epoch < 4294967296) (body : List UInt8) : recs r.d (ixOf r) r.epoch r.many r.low true body = kept.map told := by
  obtain ⟨hR, hend⟩ := right_of h.known (d' := r.d) rfl (fun i hi => holds_read hi)
  have htop := h.hist.may.top
  exact recs_whole (by omega) hend kept r.low r.many body h.chn h.hist.may.nl (fun x hx => hR x (h.sub x hx)) (fun x hx => full_of h.hist.may he (by have := h.chn.mem x hx; omega) rfl (h.stands hx))
theorem Kp.found_on (h : Kp r L kept syn) (he : r.epoch < 4294967296) (body : List UInt8) (k : Nat) (hk : k < kept.length) : recs r.d (ixOf r) r.epoch r.many (kept[k].1 + R.many kept[k].2.length) true body = (kept.drop (k + 1)).map told := by
  obtain ⟨hR, hend⟩ := right_of h.known (d' := r.d) rfl (fun i hi => holds_read hi)
  have htop := h.hist.may.top
  have hnl := h.hist.may.nl
  have hm := h.chn.mem kept[k] (List.getElem_mem hk)
  have hp := R.many_pos kept[k].2.length
  exact recs_whole (by omega) hend _ _ r.many body (h.chn.drop k hk) (by omega) (fun x hx => hR x (h.sub x (List.mem_of_mem_drop hx))) (fun x hx => full_of h.hist.may he (by have := h.chn.mem x (List.mem_of_mem_drop hx); omega) rfl (h.stands (List.mem_of_mem_drop hx)))

/-- behind a crash a begin of it, and all that was synced -/
theorem Kp.crash (h : Kp r L kept syn) (he : r.epoch < 4294967296) (keep : List Bool) (body : List UInt8) : ∃ j, j ≤ kept.length ∧ syn ≤ j ∧ recs (r.d.crash keep) (ixOf r) r.epoch r.many r.low true body = (kept.take j).map told := by
  obtain ⟨hR, hend⟩ := right_of h.known (d' := r.d.crash keep) (D.crash_len _ _) (fun i hi => holds_crash (by rw [D.crash_len] at hi; exact hi) keep)
  have htop := h.hist.may.top
  obtain ⟨j, hj, hr, hi⟩ := recs_begin (by omega) hend kept r.low r.many body h.chn h.hist.may.nl (fun x hx => hR x (h.sub x hx))
  refine ⟨j, hj, hi syn h.le (fun x hx => ?_), hr⟩
  exact full_of h.hist.may he (by have := h.chn.mem x (List.mem_of_mem_take hx); omega) (D.crash_len _ _) (fun k hk => ((h.held x hx k hk).crash keep).read)

/-- with another epoch nothing is found -/
theorem other {e : Nat} (hne : e ≠ r.epoch) (hall : ∀ i c f, Holds r.d i c → R.parse c = some f → f.epoch = r.epoch) (k n : Nat) (body : List UInt8) : recs r.d (ixOf r) e k n true body = [] := by
  refine recs_none ?_
  cases hg : good r.d (ixOf r n) e n true with
  | none => rfl
  | some f =>
    obtain ⟨ht, hp, _, he, _⟩ := good_some hg
    exact absurd (he.symm.trans (hall _ _ f (holds_read (by have := ht.2; have := ht.1; omega)) hp)) hne
end

/-- what is found hangs on what the sectors read alone -/
theorem good_congr {d d' : D.Dk} (hl : d'.secs.length = d.secs.length) (hr : ∀ i, i < d.secs.length → d'.read i = d.read i) (i : Int) (e n : Nat) (b : Bool) : good d' i e n b = good d i e n b := by
  unfold good
  by_cases ht : d.there i
  · have ht' : d'.there i := ⟨ht.1, by rw [hl]; exact ht.2⟩
    rw [if_pos ht, if_pos ht', hr i.toNat (by have := ht.1; have := ht.2; omega)]
  · rw [if_neg ht, if_neg (fun g => ht ⟨g.1, by rw [← hl]; exact g.2⟩)]
theorem recs_congr {d d' : D.Dk} (hl : d'.secs.length = d.secs.length) (hr : ∀ i, i < d.secs.length → d'.read i = d.read i) (ix : Nat → Int) (e : Nat) : ∀ (k n : Nat) (b : Bool) (body : List UInt8), recs d' ix e k n b body = recs d ix e k n b body := by
  intro k
  induction k with
  | zero => intro n b body; rfl
  | succ k ih =>
    intro n b body
    rw [recs, recs, good_congr hl hr]
    cases good d (ix n) e n b with
    | none => rfl
    | some f => simp only [ih]

theorem lay_secs (first many : Nat) : ∀ (fs : List R.Fr) (d : D.Dk), (G.lay first many d fs).secs = d.secs := by
  intro fs
  induction fs with
  | nil => intro d; rfl
  | cons f t ih =>
    intro d
    refine (ih _).trans ?_
    show (d.write (G.at_ first many f.seq : Nat) (R.sector f)).secs = d.secs
    unfold D.Dk.write
    split <;> rfl
/-- with all writes lost that weren't synced the sectors read what was synced -/
theorem lost_read {r : G.Rg} (rec : List UInt8) (i : Nat) : ((r.sync.append rec).d.crash []).read i = r.sync.d.read i := by
  have h : (r.sync.append rec).d.secs = r.sync.d.secs := by
    unfold G.Rg.append
    split
    · exact lay_secs _ _ _ _
    · rfl
  unfold D.Dk.crash
  rw [D.kept_nil, D.done_nil, h]
  rfl
theorem lost_len {r : G.Rg} (rec : List UInt8) : ((r.sync.append rec).d.crash []).secs.length = r.sync.d.secs.length := by
  rw [D.crash_len]
  unfold G.Rg.append
  split
  · rw [show (r.sync.put rec).d.secs = r.sync.d.secs from lay_secs _ _ _ _]
  · rfl
theorem Kp.lost {r : G.Rg} {L kept : List (Nat × List UInt8)} {syn : Nat} (h : Kp r L kept syn) (he : r.epoch < 4294967296) (rec body : List UInt8) : recs ((r.sync.append rec).d.crash []) (ixOf r) r.epoch r.many r.low true body = kept.map told := by
  rw [recs_congr (lost_len rec) (fun i _ => lost_read rec i)]
  exact h.sync.found he body

/-- whatever frame the disk holds is of the ring's epoch -/
def Pure (r : G.Rg) : Prop := ∀ i c f, Holds r.d i c → R.parse c = some f → f.epoch = r.epoch
theorem Pure.put {r : G.Rg} (h : Pure r) (he : r.epoch < 4294967296) (rec : List UInt8) : Pure (r.put rec) := by
  intro i c f hc hp
  rcases holds_firsts _ hc with hc | ⟨k, _, rfl⟩
  · exact h i c f hc hp
  · rw [R.parse_sector ⟨he, Nat.mod_lt _ (by decide)⟩ (G.frameOf_fits _ _ _ _)] at hp
    cases hp
    rfl
theorem Pure.trunc {r : G.Rg} (h : Pure r) (low : Nat) : Pure (r.trunc low) := by
  unfold G.Rg.trunc
  split
  · exact h
  · exact h
theorem Pure.sync {r : G.Rg} (h : Pure r) : Pure r.sync := fun i c f hc hp => h i c f (holds_sync hc) hp
theorem pure_new {n first many epoch low next : Nat} : Pure ⟨⟨List.replicate n (D.full []), []⟩, first, many, epoch, low, next⟩ := by
  intro i c f hc hp
  rcases hc with hc | hc
  · have hm : c ∈ List.replicate n (D.full []) := List.mem_of_getElem? hc
    rw [List.eq_of_mem_replicate hm, show D.full [] = List.replicate 64 0 from rfl, R.zeros_none] at hp
    cases hp
  · cases hc

/-- the number behind what is found of records one behind the other -/
theorem behind_told : ∀ {l : List (Nat × List UInt8)} {s n : Nat}, Chn s l n → behind s (l.map told) = n := by
  intro l
  induction l with
  | nil => intro s n h; exact h
  | cons x t ih =>
    intro s n h
    have h2 := ih h.2
    cases t with
    | nil =>
      have e : s + R.many x.2.length = n := h.2
      show x.1 + _ = n
      rw [h.1]; exact e
    | cons y t =>
      unfold behind at h2 ⊢
      rw [List.map_cons, List.map_cons, List.getLast?_cons_cons]
      rw [List.map_cons] at h2
      rw [show ((told y :: List.map told t).getLast?.map (·.1)).getD s = ((told y :: List.map told t).getLast?.map (·.1)).getD (s + R.many x.2.length) by
        cases hg : (told y :: List.map told t).getLast? with
        | none => simp at hg
        | some z => rfl]
      exact h2

theorem pigeon : ∀ (n i : Nat) (f : Nat → Nat), (∀ j, j < i → f j < n) → (∀ j k, j < i → k < i → f j = f k → j = k) → i ≤ n
  | 0, i, f, h, _ => by
    by_cases hi : i = 0
    · omega
    · have := h 0 (by omega); omega
  | n + 1, i, f, h, hinj => by
    by_cases hx : ∃ j0, j0 < i ∧ f j0 = n
    · obtain ⟨j0, hj0, e0⟩ := hx
      have := pigeon n (i - 1) (fun j => f (if j < j0 then j else j + 1)) (fun j hj => by
        have h1 : (if j < j0 then j else j + 1) < i := by split <;> omega
        have h2 : (if j < j0 then j else j + 1) ≠ j0 := by split <;> omega
        have h3 := h _ h1
        have h4 : f (if j < j0 then j else j + 1) ≠ n := fun e => h2 (hinj _ _ h1 hj0 (e.trans e0.symm))
        show f _ < n
        omega) (fun j k hj hk e => by
        have h1 : (if j < j0 then j else j + 1) < i := by split <;> omega
        have h2 : (if k < j0 then k else k + 1) < i := by split <;> omega
        have h3 := hinj _ _ h1 h2 e
        split at h3 <;> split at h3 <;> omega)
      omega
    · have := pigeon n i f (fun j hj => by
        have h1 := h j hj
        have h2 : f j ≠ n := fun e => hx ⟨j, hj, e⟩
        omega) hinj
      omega

/-- no more frames are found in turn than there are sectors -/
theorem good_few {d : D.Dk} {ix : Nat → Int} {e from_ : Nat} (hd : d.secs.length ≤ 1024) (i : Nat) (h : ∀ j, j < i → ∃ b f, good d (ix ((from_ + j) % 4294967296)) e ((from_ + j) % 4294967296) b = some f) : i ≤ d.secs.length := by
  have key : ∀ i, i ≤ 4294967296 → (∀ j, j < i → ∃ b f, good d (ix ((from_ + j) % 4294967296)) e ((from_ + j) % 4294967296) b = some f) → i ≤ d.secs.length := by
    intro i hi h
    refine pigeon _ i (fun j => (ix ((from_ + j) % 4294967296)).toNat) (fun j hj => ?_) (fun j k hj hk he => ?_)
    · obtain ⟨b, f, hg⟩ := h j hj
      have := (good_some hg).1
      have h1 := this.1
      have h2 := this.2
      show (ix _).toNat < _
      omega
    · obtain ⟨b, f, hg⟩ := h j hj
      obtain ⟨b', f', hg'⟩ := h k hk
      obtain ⟨_, hp, hs, _⟩ := good_some hg
      obtain ⟨_, hp', hs', _⟩ := good_some hg'
      have he : (ix ((from_ + j) % 4294967296)).toNat = (ix ((from_ + k) % 4294967296)).toNat := he
      rw [he, hp'] at hp
      cases hp
      omega
  by_cases hi : i ≤ 4294967296
  · exact key i hi h
  · have := key 4294967296 (Nat.le_refl _) (fun j hj => h j (by omega))
    omega

end Go.Proofs.Ytbjbnjpdackloaa.Q

namespace Go.Proofs.Ytbjbnjpdackloaa.Z

/-- the bytes of a checkpoint: its frames from number i on, k sectors more -/
def rest (d : D.Dk) (base gen : Nat) : Nat → Nat → List UInt8 → Option (List UInt8)
  | 0, _, _ => none
  | k + 1, i, body =>
    match Q.good d ((base + i : Nat) : Int) gen i (decide (i = 0)) with
    | none => none
    | some f => if f.flag.toNat / 2 % 2 = 1 then some (body ++ f.body) else rest d base gen k (i + 1) (body ++ f.body)

theorem rest_none {d : D.Dk} {base gen k i : Nat} {body : List UInt8} (h : Q.good d ((base + i : Nat) : Int) gen i (decide (i = 0)) = none) : rest d base gen k i body = none := by
  cases k with
  | zero => rfl
  | succ k => rw [rest, h]
theorem rest_last {d : D.Dk} {base gen k i : Nat} {body : List UInt8} {f : R.Fr} (h : Q.good d ((base + i : Nat) : Int) gen i (decide (i = 0)) = some f) (hf : f.flag.toNat / 2 % 2 = 1) : rest d base gen (k + 1) i body = some (body ++ f.body) := by
  rw [rest, h]
  simp only [hf, if_true]
theorem rest_more {d : D.Dk} {base gen k i : Nat} {body : List UInt8} {f : R.Fr} (h : Q.good d ((base + i : Nat) : Int) gen i (decide (i = 0)) = some f) (hf : ¬ f.flag.toNat / 2 % 2 = 1) : rest d base gen (k + 1) i body = rest d base gen k (i + 1) (body ++ f.body) := by
  rw [rest, h]
  simp only [hf, if_false]

/-- where each slot begins -/
def at_ (first size which : Nat) : Nat := first + size * which

/-- what a slot has: the number, and the bytes -/
def one (d : D.Dk) (first size which : Nat) : Option (Nat × List UInt8) :=
  match R.parse (d.read (at_ first size which)) with
  | none => none
  | some f => if f.epoch = 0 ∨ f.epoch % 2 ≠ which then none else (rest d (at_ first size which) f.epoch size 0 []).map fun b => (f.epoch, b)

/-- of both slots that with the greater number -/
def newer (a b : Option (Nat × List UInt8)) : Option (Nat × List UInt8) :=
  match a, b with
  | some x, some y => if y.1 < x.1 then some x else some y
  | some x, none => some x
  | none, b => b
def load (d : D.Dk) (first size : Nat) : Option (Nat × List UInt8) := newer (one d first size 0) (one d first size 1)

/-- a saving: its frames laid into its slot -/
def save (d : D.Dk) (first size gen : Nat) (b : List UInt8) : D.Dk := G.lay (at_ first size (gen % 2)) size d (R.cut gen 0 b)

section
variable {d : D.Dk} {first size base gen : Nat} {b : List UInt8}

/-- a frame of that number at each place is the checkpoint's own: all of it is read, or nothing -/
theorem rest_right (hR : ∀ k, k < R.many b.length → ∀ c f, Q.good d ((base + k : Nat) : Int) gen k c = some f → f = R.frameOf gen 0 b k) : ∀ (t j fuel : Nat) (body : List UInt8), j + t + 1 = R.many b.length → body = b.take (50 * j) →
    rest d base gen (fuel + (t + 1)) j body = some b ∨ (rest d base gen (fuel + (t + 1)) j body = none ∧ ¬ ∀ k, k < R.many b.length → Q.good d ((base + k : Nat) : Int) gen k (decide (k = 0)) = some (R.frameOf gen 0 b k)) := by
  intro t
  induction t with
  | zero =>
    intro j fuel body hj hb
    cases hg : Q.good d ((base + j : Nat) : Int) gen j (decide (j = 0)) with
    | none => exact Or.inr ⟨rest_none hg, fun hF => by rw [hF j (by omega)] at hg; cases hg⟩
    | some f =>
      have hf := hR j (by omega) _ f hg
      left
      rw [rest_last hg (by rw [hf]; exact (Q.flag_last _ _).2 (by omega)), hb, hf]
      show some (b.take (50 * j) ++ (b.drop (50 * j)).take 50) = some b
      rw [Q.rec_more, show j + 1 = R.many b.length by omega, Q.rec_all]
  | succ t ih =>
    intro j fuel body hj hb
    cases hg : Q.good d ((base + j : Nat) : Int) gen j (decide (j = 0)) with
    | none => exact Or.inr ⟨rest_none hg, fun hF => by rw [hF j (by omega)] at hg; cases hg⟩
    | some f =>
      have hf := hR j (by omega) _ f hg
      rw [show fuel + (t + 1 + 1) = (fuel + (t + 1)) + 1 by omega, rest_more hg (by rw [hf]; exact fun h => by have := (Q.flag_last j (R.many b.length)).1 h; omega)]
      refine ih (j + 1) fuel _ (by omega) ?_
      rw [hb, hf]
      show b.take (50 * j) ++ (b.drop (50 * j)).take 50 = _
      rw [Q.rec_more]
end

/-- a slot as a ring of one record -/
def ring (d : D.Dk) (base size gen : Nat) : G.Rg := ⟨d, base, size, gen, 0, 0⟩
theorem ring_may {d : D.Dk} {base size gen : Nat} (h1 : 1 ≤ size) (hf : base + size ≤ d.secs.length) : (ring d base size gen).May := ⟨h1, hf, Nat.le_refl _, Nat.zero_le _, Nat.zero_le _⟩
theorem ring_err {d : D.Dk} {base size gen : Nat} {b : List UInt8} (hb : R.many b.length ≤ size) (hs : size ≤ 1024) : (ring d base size gen).err b = 0 := by
  unfold G.Rg.err G.Rg.free ring
  rw [if_neg (by simp only; omega), if_neg (by simp only; omega)]
theorem save_is (d : D.Dk) (first size gen : Nat) (b : List UInt8) : save d first size gen b = ((ring d (at_ first size (gen % 2)) size gen).put b).d := rfl
theorem save_len (d : D.Dk) (first size gen : Nat) (b : List UInt8) : (save d first size gen b).secs.length = d.secs.length := G.lay_len _ _ _ _
theorem save_secs (d : D.Dk) (first size gen : Nat) (b : List UInt8) : (save d first size gen b).secs = d.secs := Q.lay_secs _ _ _ _

section
variable {d : D.Dk} {first size gen : Nat} {b : List UInt8}

/-- the area may be -/
structure May (d : D.Dk) (first size : Nat) : Prop where
  s1 : 1 ≤ size
  s2 : size ≤ 1024
  fits : first + 2 * size ≤ d.secs.length

theorem May.slot (h : May d first size) {w : Nat} (hw : w < 2) : at_ first size w + size ≤ d.secs.length := by
  have := h.fits
  unfold at_
  rcases (show w = 0 ∨ w = 1 by omega) with rfl | rfl <;> simp <;> omega
theorem May.save (h : May d first size) (gen : Nat) (b : List UInt8) : May (Z.save d first size gen b) first size := ⟨h.s1, h.s2, by rw [save_len]; exact h.fits⟩

/-- the frames stand -/
theorem save_stands (h : May d first size) (hb : R.many b.length ≤ size) (k : Nat) (hk : k < R.many b.length) : (save d first size gen b).read (at_ first size (gen % 2) + k) = R.sector (R.frameOf gen 0 b k) := by
  have := G.put_stands (ring_may (gen := gen) h.s1 (h.slot (Nat.mod_lt gen (by decide)))) (ring_err hb h.s2) k hk
  rw [save_is]
  show _ = R.sector (R.frameOf gen 0 b k)
  have e : G.at_ (at_ first size (gen % 2)) size (0 + k) = at_ first size (gen % 2) + k := by
    unfold G.at_
    rw [Nat.zero_add, Nat.mod_eq_of_lt (show k < size by omega)]
  rw [← e]
  exact this
/-- other sectors are as they were -/
theorem save_spares (h : May d first size) (i : Nat) (hi : i < at_ first size (gen % 2) ∨ at_ first size (gen % 2) + size ≤ i) : (save d first size gen b).read i = d.read i :=
  G.put_outside (ring_may (gen := gen) h.s1 (h.slot (Nat.mod_lt gen (by decide)))) i hi

/-- what is read of a slot hangs on its sectors alone -/
theorem rest_congr {d' : D.Dk} {base : Nat} (hl : d'.secs.length = d.secs.length) : ∀ (k i : Nat) (body : List UInt8), (∀ j, j < i + k → d'.read (base + j) = d.read (base + j)) → base + (i + k) ≤ d.secs.length → rest d' base gen k i body = rest d base gen k i body := by
  intro k
  induction k with
  | zero => intro i body _ _; rfl
  | succ k ih =>
    intro i body hr hb
    have hg : Q.good d' ((base + i : Nat) : Int) gen i (decide (i = 0)) = Q.good d ((base + i : Nat) : Int) gen i (decide (i = 0)) := by
      unfold Q.good
      rw [if_pos (show d'.there ((base + i : Nat) : Int) from ⟨by omega, by rw [hl]; omega⟩), if_pos (show d.there ((base + i : Nat) : Int) from ⟨by omega, by omega⟩), Int.toNat_natCast, hr i (by omega)]
    rw [rest, rest, hg]
    cases Q.good d ((base + i : Nat) : Int) gen i (decide (i = 0)) with
    | none => rfl
    | some f => simp only [ih (i + 1) _ (fun j hj => hr j (by omega)) (by omega)]
theorem one_congr {d' : D.Dk} {w : Nat} (h : May d first size) (hw : w < 2) (hl : d'.secs.length = d.secs.length) (hr : ∀ i, at_ first size w ≤ i → i < at_ first size w + size → d'.read i = d.read i) : one d' first size w = one d first size w := by
  have hs := h.slot hw
  have h1 := h.s1
  unfold one
  rw [hr _ (Nat.le_refl _) (by omega)]
  cases R.parse (d.read (at_ first size w)) with
  | none => rfl
  | some f =>
    simp only
    split
    · rfl
    · rw [rest_congr hl size 0 [] (fun j hj => hr _ (by omega) (by omega)) (by omega)]
theorem one_other (h : May d first size) {w : Nat} (hw : w < 2) (hne : gen % 2 ≠ w) : one (save d first size gen b) first size w = one d first size w := by
  refine one_congr h hw (save_len ..) (fun i h1 h2 => save_spares h i ?_)
  unfold at_ at *
  have := Nat.mod_lt gen (show 0 < 2 by decide)
  rcases (show (gen % 2 = 0 ∧ w = 1) ∨ (gen % 2 = 1 ∧ w = 0) by omega) with ⟨e1, e2⟩ | ⟨e1, e2⟩ <;> rw [e1] <;> subst e2 <;> simp at * <;> omega
end

/-- whatever frame a slot's sectors hold was saved there, with its number (S: what was saved, by number, from 1 on) -/
def Known (d : D.Dk) (first size w : Nat) (S : List (List UInt8)) : Prop := ∀ i c f, Q.Holds d i c → R.parse c = some f → at_ first size w ≤ i → i < at_ first size w + size →
  1 ≤ f.epoch ∧ f.epoch ≤ S.length ∧ f.epoch % 2 = w ∧ f.seq = i - at_ first size w ∧ f = R.frameOf f.epoch 0 (S.getD (f.epoch - 1) []) f.seq ∧ f.seq < R.many (S.getD (f.epoch - 1) []).length ∧ R.many (S.getD (f.epoch - 1) []).length ≤ size

theorem known_new {n first size w : Nat} {S : List (List UInt8)} : Known ⟨List.replicate n (D.full []), []⟩ first size w S := by
  intro i c f hc hp
  rcases hc with hc | hc
  · have hm : c ∈ List.replicate n (D.full []) := List.mem_of_getElem? hc
    rw [List.eq_of_mem_replicate hm, show D.full [] = List.replicate 64 0 from rfl, R.zeros_none] at hp
    cases hp
  · cases hc

end Go.Proofs.Ytbjbnjpdackloaa.Z

namespace Go.Proofs.Ytbjbnjpdackloaa.Z

theorem holds_writeI {d : D.Dk} {k i : Nat} {b c : D.Sec} (hb : b.length = 64) (h : Q.Holds (d.write (k : Int) b) i c) : Q.Holds d i c ∨ (i = k ∧ c = b) := by
  unfold D.Dk.write at h
  split at h
  · rcases h with h | h
    · exact Or.inl (Or.inl h)
    · rcases List.mem_append.1 h with h | h
      · exact Or.inl (Or.inr h)
      · right
        simp at h
        rw [h.2, D.full_whole (by omega)]
        exact ⟨by omega, rfl⟩
  · exact Or.inl h

theorem holds_laid {base size gen : Nat} {d : D.Dk} {b : List UInt8} {i : Nat} {c : D.Sec} : ∀ j, Q.Holds (G.lay base size d (G.firsts gen 0 b j)) i c → Q.Holds d i c ∨ ∃ k, k < j ∧ i = G.at_ base size (R.frameOf gen 0 b k).seq ∧ c = R.sector (R.frameOf gen 0 b k) := by
  intro j
  induction j with
  | zero => intro h; exact Or.inl h
  | succ j ih =>
    intro h
    rw [G.firsts_succ, G.lay_snoc] at h
    rcases holds_writeI (G.frameOf_sector _ _ _ _) h with h | ⟨h1, h2⟩
    · rcases ih h with h | ⟨k, hk, h⟩
      · exact Or.inl h
      · exact Or.inr ⟨k, by omega, h⟩
    · exact Or.inr ⟨j, by omega, h1, h2⟩

section
variable {d : D.Dk} {first size : Nat} {S : List (List UInt8)} {b : List UInt8}

theorem seq_at {base k : Nat} (gen : Nat) (hk : k < R.many b.length) (hb : R.many b.length ≤ size) (hs : size ≤ 1024) : (R.frameOf gen 0 b k).seq = k ∧ G.at_ base size (R.frameOf gen 0 b k).seq = base + k := by
  have e : (R.frameOf gen 0 b k).seq = k := by
    show (0 + k) % 4294967296 = k
    omega
  refine ⟨e, ?_⟩
  rw [e, G.at_, Nat.mod_eq_of_lt (show k < size by omega)]

theorem getD_old {x : List UInt8} {n : Nat} (h : n < S.length) : (S ++ [x]).getD n [] = S.getD n [] := by
  rw [List.getD_eq_getElem?_getD, List.getD_eq_getElem?_getD, List.getElem?_append_left h]
theorem getD_new {x : List UInt8} : (S ++ [x]).getD S.length [] = x := by
  rw [List.getD_eq_getElem?_getD, List.getElem?_append_right (Nat.le_refl _)]
  simp

theorem Known.more {w : Nat} (h : Known d first size w S) (x : List UInt8) : Known d first size w (S ++ [x]) := by
  intro i c f hc hp h1 h2
  obtain ⟨a1, a2, a3, a4, a5, a6, a7⟩ := h i c f hc hp h1 h2
  have e := getD_old (S := S) (x := x) (n := f.epoch - 1) (by omega)
  rw [e]
  exact ⟨a1, by simp; omega, a3, a4, a5, a6, a7⟩

theorem Known.save {w : Nat} (h : Known d first size w S) (hm : May d first size) (hw : w < 2) (hb : R.many b.length ≤ size) (hS : S.length + 1 < 4294967296) : Known (Z.save d first size (S.length + 1) b) first size w (S ++ [b]) := by
  intro i c f hc hp h1 h2
  rcases holds_laid (R.many b.length) hc with hc | ⟨k, hk, e1, e2⟩
  · exact h.more b i c f hc hp h1 h2
  · obtain ⟨q1, q2⟩ := seq_at (base := at_ first size ((S.length + 1) % 2)) (S.length + 1) hk hb hm.s2
    rw [q2] at e1
    rw [e2, R.parse_sector ⟨hS, by rw [q1]; have := hm.s2; omega⟩ (G.frameOf_fits _ _ _ _)] at hp
    cases hp
    have hep : (R.frameOf (S.length + 1) 0 b k).epoch = S.length + 1 := rfl
    have hw2 : (S.length + 1) % 2 = w := by
      have hlt := Nat.mod_lt (S.length + 1) (show 0 < 2 by decide)
      have s1 := hm.s1
      unfold at_ at h1 h2 e1
      rcases (show w = 0 ∨ w = 1 by omega) with rfl | rfl <;> rcases (show (S.length + 1) % 2 = 0 ∨ (S.length + 1) % 2 = 1 by omega) with g | g <;> rw [g] at e1 ⊢ <;> simp at h1 h2 e1 ⊢ <;> omega
    rw [hep, q1, Nat.add_sub_cancel, getD_new]
    refine ⟨by omega, by simp, hw2, ?_, ?_, hk, hb⟩
    · rw [e1, hw2]; omega
    · rfl

/-- what a slot tells was saved -/
theorem one_known {d' : D.Dk} {w g : Nat} {c : List UInt8} (h : Known d first size w S) (hm : May d first size) (hw : w < 2) (_hl : d'.secs.length = d.secs.length) (hr : ∀ i, i < d.secs.length → Q.Holds d i (d'.read i)) (ho : one d' first size w = some (g, c)) : 1 ≤ g ∧ g ≤ S.length ∧ g % 2 = w ∧ c = S.getD (g - 1) [] := by
  have hs := hm.slot hw
  have s1 := hm.s1
  unfold one at ho
  cases hp : R.parse (d'.read (at_ first size w)) with
  | none => rw [hp] at ho; cases ho
  | some f =>
    rw [hp] at ho
    simp only at ho
    split at ho
    · cases ho
    · obtain ⟨a1, a2, a3, a4, a5, a6, a7⟩ := h _ _ f (hr _ (by omega)) hp (Nat.le_refl _) (by omega)
      cases hq : rest d' (at_ first size w) f.epoch size 0 [] with
      | none => rw [hq] at ho; cases ho
      | some x =>
        rw [hq] at ho
        simp only [Option.map_some, Option.some.injEq, Prod.mk.injEq] at ho
        obtain ⟨rfl, rfl⟩ := ho
        refine ⟨a1, a2, a3, ?_⟩
        have hp1 := R.many_pos (S.getD (f.epoch - 1) []).length
        have := rest_right (d := d') (base := at_ first size w) (gen := f.epoch) (b := S.getD (f.epoch - 1) []) (fun k hk cc f' hg => by
          obtain ⟨ht, hp', hsq, hep, _⟩ := Q.good_some hg
          rw [Int.toNat_natCast] at hp'
          have h9 := h _ _ f' (hr _ (by omega)) hp' (by omega) (by omega)
          have e5 := h9.2.2.2.2.1
          rw [hep, hsq] at e5
          exact e5) (R.many (S.getD (f.epoch - 1) []).length - 1) 0 (size - R.many (S.getD (f.epoch - 1) []).length) [] (by omega) (by simp)
        rw [show size - R.many (S.getD (f.epoch - 1) []).length + (R.many (S.getD (f.epoch - 1) []).length - 1 + 1) = size by omega, hq] at this
        rcases this with e | ⟨e, _⟩
        · exact Option.some.inj e
        · cases e

/-- what is saved is told -/
theorem one_saved {gen : Nat} (hm : May d first size) (hb : R.many b.length ≤ size) (h1 : 1 ≤ gen) (h2 : gen < 4294967296) : one (save d first size gen b) first size (gen % 2) = some (gen, b) := by
  have hs2 := hm.s2
  have hsl := hm.slot (Nat.mod_lt gen (show 0 < 2 by decide))
  have hmp := R.many_pos b.length
  have hpk : ∀ k, k < R.many b.length → R.parse ((save d first size gen b).read (at_ first size (gen % 2) + k)) = some (R.frameOf gen 0 b k) := fun k hk => by
    rw [save_stands hm hb k hk]
    exact R.parse_sector ⟨h2, by rw [(seq_at (base := 0) gen hk hb hs2).1]; omega⟩ (G.frameOf_fits _ _ _ _)
  have hF : ∀ k, k < R.many b.length → Q.good (save d first size gen b) ((at_ first size (gen % 2) + k : Nat) : Int) gen k (decide (k = 0)) = some (R.frameOf gen 0 b k) := fun k hk =>
    Q.good_of ⟨by omega, by rw [save_len]; omega⟩ (by rw [Int.toNat_natCast]; exact hpk k hk) (seq_at (base := 0) gen hk hb hs2).1 rfl (Q.flag_first k _)
  unfold one
  have h0 := hpk 0 (by omega)
  rw [Nat.add_zero] at h0
  rw [h0]
  simp only
  rw [if_neg (by show ¬ (gen = 0 ∨ gen % 2 ≠ gen % 2); omega)]
  have := rest_right (d := save d first size gen b) (base := at_ first size (gen % 2)) (gen := gen) (b := b) (fun k hk cc f' hg => by
    obtain ⟨_, hp', _⟩ := Q.good_some hg
    rw [Int.toNat_natCast, hpk k hk] at hp'
    exact (Option.some.inj hp').symm) (R.many b.length - 1) 0 (size - R.many b.length) [] (by omega) (by simp)
  rw [show size - R.many b.length + (R.many b.length - 1 + 1) = size by omega] at this
  show Option.map (fun x => (gen, x)) (rest (save d first size gen b) (at_ first size (gen % 2)) gen size 0 []) = _
  rcases this with e | ⟨_, e⟩
  · rw [e]; rfl
  · exact absurd hF e

/-- savings one behind the other, numbered from 1 on -/
structure St (d : D.Dk) (first size : Nat) (S : List (List UInt8)) : Prop where
  may : May d first size
  kn : ∀ w, w < 2 → Known d first size w S
  top : S ≠ [] → one d first size (S.length % 2) = some (S.length, S.getD (S.length - 1) [])

theorem St.new {n : Nat} (h : May ⟨List.replicate n (D.full []), []⟩ first size) : St ⟨List.replicate n (D.full []), []⟩ first size [] := ⟨h, fun _ _ => known_new, fun h => absurd rfl h⟩
theorem St.save (h : St d first size S) (hb : R.many b.length ≤ size) (hS : S.length + 1 < 4294967296) : St (Z.save d first size (S.length + 1) b) first size (S ++ [b]) := by
  refine ⟨h.may.save _ _, fun w hw => (h.kn w hw).save h.may hw hb hS, fun _ => ?_⟩
  rw [List.length_append, List.length_singleton, Nat.add_sub_cancel, getD_new]
  exact one_saved h.may hb (by omega) hS
theorem St.sync (h : St d first size S) : St d.sync first size S := by
  have hm : May d.sync first size := ⟨h.may.s1, h.may.s2, by rw [D.sync_len]; exact h.may.fits⟩
  refine ⟨hm, fun w hw i c f hc => h.kn w hw i c f (Q.holds_sync hc), fun hne => ?_⟩
  rw [one_congr h.may (Nat.mod_lt _ (by decide)) (D.sync_len _) (fun i h1 h2 => D.sync_read _ _ (by have := h.may.slot (Nat.mod_lt S.length (show 0 < 2 by decide)); omega))]
  exact h.top hne

/-- of both slots the last one saved is loaded -/
def last (S : List (List UInt8)) : Option (Nat × List UInt8) := if S = [] then none else some (S.length, S.getD (S.length - 1) [])

theorem newer_is {x y : Option (Nat × List UInt8)} {g : Nat} {c : List UInt8} (hx : x = some (g, c)) (hy : ∀ z, y = some z → z.1 < g) : newer x y = some (g, c) ∧ newer y x = some (g, c) := by
  subst hx
  cases y with
  | none => exact ⟨rfl, rfl⟩
  | some z =>
    have := hy z rfl
    unfold newer
    simp only
    exact ⟨by rw [if_pos this], by rw [if_neg (by omega)]⟩

theorem load_of {d' : D.Dk} {w g : Nat} {c : List UInt8} (hw : w < 2) (h1 : one d' first size w = some (g, c)) (h2 : ∀ z, one d' first size (1 - w) = some z → z.1 < g) : load d' first size = some (g, c) := by
  unfold load
  rcases (show w = 0 ∨ w = 1 by omega) with rfl | rfl
  · exact (newer_is h1 h2).1
  · exact (newer_is h1 h2).2

theorem St.load (h : St d first size S) : Z.load d first size = last S := by
  unfold last
  have hr : ∀ i, i < d.secs.length → Q.Holds d i (d.read i) := fun i hi => Q.holds_read hi
  split
  · rename_i hS
    subst hS
    have hn : ∀ w, w < 2 → one d first size w = none := fun w hw => by
      cases ho : one d first size w with
      | none => rfl
      | some z =>
        have := one_known (h.kn w hw) h.may hw rfl hr (g := z.1) (c := z.2) ho
        simp at this
        omega
    unfold Z.load
    rw [hn 0 (by decide), hn 1 (by decide)]
    rfl
  · rename_i hS
    refine load_of (Nat.mod_lt _ (by decide)) (h.top hS) (fun z hz => ?_)
    have hlt := Nat.mod_lt S.length (show 0 < 2 by decide)
    have := one_known (h.kn (1 - S.length % 2) (by omega)) h.may (by omega) rfl hr (g := z.1) (c := z.2) hz
    obtain ⟨_, a2, a3, _⟩ := this
    omega

theorem lay_row {base : Nat} {gen : Nat} (hb : R.many b.length ≤ size) (hs : size ≤ 1024) {x : Nat × D.Sec} : ∀ j, j ≤ R.many b.length → x ∈ (G.lay base size d (G.firsts gen 0 b j)).row → x ∈ d.row ∨ (base ≤ x.1 ∧ x.1 < base + size) := by
  intro j
  induction j with
  | zero => intro _ h; exact Or.inl h
  | succ j ih =>
    intro hj h
    rw [G.firsts_succ, G.lay_snoc] at h
    unfold D.Dk.write at h
    split at h
    · rcases List.mem_append.1 h with h | h
      · exact ih (by omega) h
      · right
        simp at h
        rw [h]
        have := (seq_at (base := base) gen (show j < R.many b.length by omega) hb hs).2
        rw [this]
        simp
        omega
    · exact ih (by omega) h

/-- whatever is lost of a saving: the one ahead of it, or the new one, whole -/
theorem St.crash (h : St d first size S) (hrow : d.row = []) (hb : R.many b.length ≤ size) (hS : S.length + 1 < 4294967296) (keep : List Bool) : Z.load ((Z.save d first size (S.length + 1) b).crash keep) first size = some (S.length + 1, b) ∨ Z.load ((Z.save d first size (S.length + 1) b).crash keep) first size = last S := by
  have hm := h.may
  have h' := h.save hb hS
  have hlen : ((Z.save d first size (S.length + 1) b).crash keep).secs.length = (Z.save d first size (S.length + 1) b).secs.length := D.crash_len _ _
  have hr : ∀ i, i < (Z.save d first size (S.length + 1) b).secs.length → Q.Holds (Z.save d first size (S.length + 1) b) i (((Z.save d first size (S.length + 1) b).crash keep).read i) := fun i hi => Q.holds_crash hi keep
  have hw1 := Nat.mod_lt (S.length + 1) (show 0 < 2 by decide)
  have hout : ∀ i, i < d.secs.length → (i < at_ first size ((S.length + 1) % 2) ∨ at_ first size ((S.length + 1) % 2) + size ≤ i) → ((Z.save d first size (S.length + 1) b).crash keep).read i = d.read i := fun i hi ho => by
    have hi' : i < (Z.save d first size (S.length + 1) b).secs.length := by rw [save_len]; exact hi
    have hd : d.read i = d.secs[i] := by
      unfold D.Dk.read
      rw [hrow, List.getD_eq_getElem?_getD, List.getElem?_eq_getElem hi]
      rfl
    rcases D.torn (Z.save d first size (S.length + 1) b) i keep hi' with e | ⟨x, hx, h1, _⟩
    · rw [e, hd]
      simp only [save_secs]
    · rcases lay_row hb hm.s2 (R.many b.length) (Nat.le_refl _) hx with g | g
      · rw [hrow] at g; cases g
      · omega
  have hother : ∀ w, w < 2 → (S.length + 1) % 2 ≠ w → one ((Z.save d first size (S.length + 1) b).crash keep) first size w = one d first size w := fun w hw hne =>
    one_congr hm hw (hlen.trans (save_len ..)) (fun i h1 h2 => hout i (by have := hm.slot hw; omega) (by
      unfold at_ at *
      rcases (show ((S.length + 1) % 2 = 0 ∧ w = 1) ∨ ((S.length + 1) % 2 = 1 ∧ w = 0) by omega) with ⟨e1, e2⟩ | ⟨e1, e2⟩ <;> rw [e1] <;> subst e2 <;> simp at * <;> omega))
  have hold : one ((Z.save d first size (S.length + 1) b).crash keep) first size (1 - (S.length + 1) % 2) = one d first size (1 - (S.length + 1) % 2) := hother _ (by omega) (by omega)
  have hok := fun z hz => one_known (h.kn (1 - (S.length + 1) % 2) (by omega)) hm (by omega) rfl (fun i hi => Q.holds_read hi) (g := Prod.fst z) (c := Prod.snd z) hz
  cases hn : one ((Z.save d first size (S.length + 1) b).crash keep) first size ((S.length + 1) % 2) with
  | some z =>
    have hz := one_known (h'.kn _ hw1) h'.may hw1 hlen hr (g := z.1) (c := z.2) hn
    obtain ⟨a1, a2, a3, a4⟩ := hz
    rw [List.length_append, List.length_singleton] at a2
    by_cases hg : z.1 = S.length + 1
    · left
      rw [hg, Nat.add_sub_cancel, getD_new] at a4
      refine load_of hw1 (by rw [hn, ← hg, ← a4]) (fun y hy => ?_)
      rw [hold] at hy
      have := (hok y hy).2.1
      omega
    · right
      have hne : S ≠ [] := fun e => by rw [e] at a2 hg; simp at a2 hg; omega
      unfold last
      rw [if_neg hne]
      have ew : 1 - (S.length + 1) % 2 = S.length % 2 := by omega
      refine load_of (w := S.length % 2) (Nat.mod_lt _ (by decide)) (by rw [← ew, hold, ew]; exact h.top hne) (fun y hy => ?_)
      rw [show 1 - S.length % 2 = (S.length + 1) % 2 by omega, hn] at hy
      cases hy
      omega
  | none =>
    right
    have ew : 1 - (S.length + 1) % 2 = S.length % 2 := by omega
    unfold last
    split
    · rename_i e
      subst e
      have : one ((Z.save d first size (([] : List (List UInt8)).length + 1) b).crash keep) first size 0 = none := by
        have e0 := hold
        simp only [List.length_nil] at e0
        cases ho : one d first size 0 with
        | none => exact e0.trans ho
        | some z =>
          have := hok z ho
          simp at this
          omega
      unfold Z.load
      rw [this]
      exact hn
    · rename_i hne
      refine load_of (w := S.length % 2) (Nat.mod_lt _ (by decide)) (by rw [← ew, hold, ew]; exact h.top hne) (fun y hy => ?_)
      rw [show 1 - S.length % 2 = (S.length + 1) % 2 by omega, hn] at hy
      cases hy
end

end Go.Proofs.Ytbjbnjpdackloaa.Z
