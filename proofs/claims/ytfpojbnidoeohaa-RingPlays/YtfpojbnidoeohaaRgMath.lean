/-
  The plain mathematics of layer ring: a ring's numbers, a record appended, a truncation; what stays. No program stands here.
-/
import Derived.Test.YtfpojbnidoeohaaFrMath
import Derived.Test.YtfpojbnidoeohaaVdiskMath
namespace Go.Proofs.Ytfpojbnidoeohaa.G

/-- the sector of a number -/
def at_ (first many seq : Nat) : Nat := first + seq % many

theorem at_range {first many seq : Nat} (h : 1 ≤ many) : first ≤ at_ first many seq ∧ at_ first many seq < first + many := by
  have := Nat.mod_lt seq (show many > 0 by omega)
  unfold at_
  omega

theorem mod_apart {many a b : Nat} (h : a < b) (hb : b < a + many) : a % many ≠ b % many := by
  intro e
  have h1 : (b - a) % many = 0 := by
    have := Nat.sub_mod_eq_zero_of_mod_eq e.symm
    exact this
  rw [Nat.mod_eq_of_lt (by omega)] at h1
  omega

theorem at_apart {first many a b : Nat} (h : a < b) (hb : b < a + many) : at_ first many a ≠ at_ first many b := by
  have := mod_apart h hb
  unfold at_
  omega

structure Rg where
  d : D.Dk
  first : Nat
  many : Nat
  epoch : Nat
  low : Nat
  next : Nat

structure Rg.May (r : Rg) : Prop where
  m1 : 1 ≤ r.many
  fits : r.first + r.many ≤ r.d.secs.length
  ln : r.low ≤ r.next
  nl : r.next ≤ r.low + r.many
  top : r.next ≤ 1073741824

/-- how many sectors are free -/
def Rg.free (r : Rg) : Nat := r.many + r.low - r.next

/-- frames written, each to the sector of its number -/
def lay (first many : Nat) (d : D.Dk) (fs : List R.Fr) : D.Dk := fs.foldl (fun d f => d.write (at_ first many f.seq) (R.sector f)) d

theorem lay_nil (first many : Nat) (d : D.Dk) : lay first many d [] = d := rfl
theorem lay_snoc (first many : Nat) (d : D.Dk) (fs : List R.Fr) (f : R.Fr) : lay first many d (fs ++ [f]) = (lay first many d fs).write (at_ first many f.seq) (R.sector f) := by simp [lay]
theorem lay_len (first many : Nat) (fs : List R.Fr) : ∀ d, (lay first many d fs).secs.length = d.secs.length := by
  induction fs with
  | nil => intro d; rfl
  | cons f r ih => intro d; exact (ih _).trans (D.write_len _ _ _)

theorem write_read {d : D.Dk} {k : Nat} {b : List UInt8} (hk : k < d.secs.length) (hb : b.length = 64) (i : Nat) : (d.write (k : Int) b).read i = if k = i then b else d.read i := by
  have ht : d.there (k : Int) := ⟨by omega, by omega⟩
  rw [D.Dk.write, if_pos ⟨ht, by omega⟩]
  unfold D.Dk.read
  rw [D.lastOf_snoc]
  have hf : D.full b = b := D.full_whole (by omega)
  simp [hf]

theorem write_row {d : D.Dk} {k : Nat} {b : List UInt8} (hk : k < d.secs.length) (hb : b.length = 64) : (d.write (k : Int) b).row.length = d.row.length + 1 := by
  have ht : d.there (k : Int) := ⟨by omega, by omega⟩
  rw [D.Dk.write, if_pos ⟨ht, by omega⟩]
  simp

/-- the first j frames of a record from the number 'next' on -/
def firsts (e next : Nat) (rec : List UInt8) (j : Nat) : List R.Fr := (List.range j).map (R.frameOf e next rec)
theorem firsts_succ (e next : Nat) (rec : List UInt8) (j : Nat) : firsts e next rec (j + 1) = firsts e next rec j ++ [R.frameOf e next rec j] := by simp [firsts, List.range_succ]
theorem firsts_all (e next : Nat) (rec : List UInt8) : firsts e next rec (R.many rec.length) = R.cut e next rec := rfl

theorem frameOf_fits (e s : Nat) (rec : List UInt8) (i : Nat) : (R.frameOf e s rec i).body.length ≤ 50 := by
  simp only [R.frameOf, List.length_take]
  omega
theorem frameOf_sector (e s : Nat) (rec : List UInt8) (i : Nat) : (R.sector (R.frameOf e s rec i)).length = 64 := R.sector_len (frameOf_fits e s rec i)

section
variable {first many e next : Nat} {d : D.Dk} {rec : List UInt8}

theorem firsts_row (h1 : 1 ≤ many) (hf : first + many ≤ d.secs.length) (j : Nat) : (lay first many d (firsts e next rec j)).row.length = d.row.length + j := by
  induction j with
  | zero => rfl
  | succ j ih =>
    have hr := at_range (first := first) (seq := (R.frameOf e next rec j).seq) h1
    rw [firsts_succ, lay_snoc, write_row (by rw [lay_len]; omega) (frameOf_sector _ _ _ _), ih]
    omega

/-- a sector of none of them -/
theorem firsts_other (h1 : 1 ≤ many) (hf : first + many ≤ d.secs.length) (i : Nat) (j : Nat) (hi : ∀ k, k < j → at_ first many ((next + k) % 4294967296) ≠ i) : (lay first many d (firsts e next rec j)).read i = d.read i := by
  induction j with
  | zero => rfl
  | succ j ih =>
    have hr := at_range (first := first) (seq := (R.frameOf e next rec j).seq) h1
    rw [firsts_succ, lay_snoc, write_read (by rw [lay_len]; omega) (frameOf_sector _ _ _ _), if_neg (show at_ first many (R.frameOf e next rec j).seq ≠ i from hi j (by omega))]
    exact ih fun k hk => hi k (by omega)

/-- a sector of one of them -/
theorem firsts_at (h1 : 1 ≤ many) (hf : first + many ≤ d.secs.length) (j : Nat) (hj : j ≤ many) (ht : next + j ≤ 4294967296) (k : Nat) (hk : k < j) :
    (lay first many d (firsts e next rec j)).read (at_ first many (next + k)) = R.sector (R.frameOf e next rec k) := by
  induction j with
  | zero => omega
  | succ j ih =>
    have hr := at_range (first := first) (seq := (R.frameOf e next rec j).seq) h1
    have hs : (R.frameOf e next rec j).seq = next + j := Nat.mod_eq_of_lt (by omega)
    rw [firsts_succ, lay_snoc, write_read (by rw [lay_len]; omega) (frameOf_sector _ _ _ _), hs]
    by_cases hkj : k = j
    · subst hkj
      rw [if_pos rfl]
    · rw [if_neg (fun ex => at_apart (a := next + k) (b := next + j) (by omega) (by omega) ex.symm)]
      exact ih (by omega) (by omega) (by omega)
end

/-- a record appended: what is told, and how the ring is then -/
def Rg.err (r : Rg) (rec : List UInt8) : Int := if r.free < R.many rec.length then 3 else if 1073741824 < r.next + R.many rec.length then 10 else 0
def Rg.put (r : Rg) (rec : List UInt8) : Rg := { r with d := lay r.first r.many r.d (R.cut r.epoch r.next rec), next := r.next + R.many rec.length }
def Rg.append (r : Rg) (rec : List UInt8) : Rg := if r.err rec = 0 then r.put rec else r
def Rg.told (r : Rg) (rec : List UInt8) : Nat := if r.err rec = 0 then r.next + R.many rec.length else 0
def Rg.trunc (r : Rg) (low : Nat) : Rg := if r.low < low ∧ low ≤ r.next then { r with low := low } else r
def Rg.sync (r : Rg) : Rg := { r with d := r.d.sync }

theorem err_zero {r : Rg} {rec : List UInt8} (h : r.err rec = 0) : R.many rec.length ≤ r.free ∧ r.next + R.many rec.length ≤ 1073741824 := by
  unfold Rg.err at h
  split at h
  · cases h
  · split at h
    · cases h
    · omega

theorem Rg.May.put {r : Rg} (h : r.May) {rec : List UInt8} (he : r.err rec = 0) : (r.put rec).May := by
  obtain ⟨h1, h2⟩ := err_zero he
  have a := h.ln
  have b := h.nl
  unfold Rg.free at h1
  exact ⟨h.m1, by show r.first + r.many ≤ (lay _ _ _ _).secs.length; rw [lay_len]; exact h.fits, by show r.low ≤ r.next + _; omega, by show r.next + _ ≤ r.low + r.many; omega, h2⟩
theorem Rg.May.append {r : Rg} (h : r.May) (rec : List UInt8) : (r.append rec).May := by
  unfold Rg.append
  split
  · exact h.put ‹_›
  · exact h
theorem Rg.May.trunc {r : Rg} (h : r.May) (low : Nat) : (r.trunc low).May := by
  unfold Rg.trunc
  split
  · rename_i hc
    have b := h.nl
    exact ⟨h.m1, h.fits, hc.2, by show r.next ≤ low + r.many; omega, h.top⟩
  · exact h
theorem Rg.May.sync {r : Rg} (h : r.May) : r.sync.May := ⟨h.m1, by show _ ≤ (D.Dk.sync _).secs.length; rw [D.sync_len]; exact h.fits, h.ln, h.nl, h.top⟩

/-- what is kept isn't written again by the next record -/
theorem put_spares {r : Rg} (h : r.May) {rec : List UInt8} (he : r.err rec = 0) (n : Nat) (h1 : r.low ≤ n) (h2 : n < r.next) : (r.put rec).d.read (at_ r.first r.many n) = r.d.read (at_ r.first r.many n) := by
  obtain ⟨h3, h4⟩ := err_zero he
  unfold Rg.free at h3
  have a := h.nl
  refine firsts_other h.m1 h.fits _ _ fun k hk ex => ?_
  rw [Nat.mod_eq_of_lt (by omega)] at ex
  exact at_apart (a := n) (b := r.next + k) (by omega) (by omega) ex.symm

/-- nothing is written outside of the place -/
theorem put_outside {r : Rg} (h : r.May) {rec : List UInt8} (i : Nat) (hi : i < r.first ∨ r.first + r.many ≤ i) : (r.put rec).d.read i = r.d.read i := by
  refine firsts_other h.m1 h.fits _ _ fun k _ ex => ?_
  have := at_range (first := r.first) (seq := (r.next + k) % 4294967296) h.m1
  omega

/-- the new record stands -/
theorem put_stands {r : Rg} (h : r.May) {rec : List UInt8} (he : r.err rec = 0) (k : Nat) (hk : k < R.many rec.length) : (r.put rec).d.read (at_ r.first r.many (r.next + k)) = R.sector (R.frameOf r.epoch r.next rec k) := by
  obtain ⟨h3, h4⟩ := err_zero he
  unfold Rg.free at h3
  have a := h.ln
  exact firsts_at h.m1 h.fits _ (by omega) (by omega) k hk

theorem put_row {r : Rg} (h : r.May) (rec : List UInt8) : (r.put rec).d.row.length = r.d.row.length + R.many rec.length := firsts_row h.m1 h.fits _

/-- a record, from its first number on, stands whole -/
def Stands (r : Rg) (x : Nat × List UInt8) : Prop := ∀ k, k < R.many x.2.length → r.d.read (at_ r.first r.many (x.1 + k)) = R.sector (R.frameOf r.epoch x.1 x.2 k)

/-- the records that were appended, one behind the other, up to 'n' -/
inductive Chain : Nat → List (Nat × List UInt8) → Nat → Prop
  | nil (n : Nat) : Chain n [] n
  | snoc {a n : Nat} {l : List (Nat × List UInt8)} (rec : List UInt8) : Chain a l n → Chain a (l ++ [(n, rec)]) (n + R.many rec.length)

/-- what holds of a ring behind deeds -/
structure Hist (r : Rg) (a : Nat) (l : List (Nat × List UInt8)) : Prop where
  may : r.May
  chain : Chain a l r.next
  ends : ∀ x ∈ l, x.1 + R.many x.2.length ≤ r.next
  stands : ∀ x ∈ l, r.low ≤ x.1 → Stands r x

theorem Hist.put {r : Rg} {a : Nat} {l : List (Nat × List UInt8)} (h : Hist r a l) {rec : List UInt8} (he : r.err rec = 0) : Hist (r.put rec) a (l ++ [(r.next, rec)]) := by
  refine ⟨h.may.put he, .snoc rec h.chain, fun x hx => ?_, fun x hx hl k hk => ?_⟩
  · rcases List.mem_append.1 hx with hx | hx
    · have := h.ends x hx
      show _ ≤ r.next + _
      omega
    · simp at hx
      subst hx
      exact Nat.le_refl _
  · rcases List.mem_append.1 hx with hx | hx
    · have he2 := h.ends x hx
      exact (put_spares h.may he (x.1 + k) (Nat.le_trans hl (Nat.le_add_right _ _)) (by omega)).trans (h.stands x hx hl k hk)
    · simp at hx
      subst hx
      exact put_stands h.may he k hk

theorem Hist.trunc {r : Rg} {a : Nat} {l : List (Nat × List UInt8)} (h : Hist r a l) (low : Nat) : Hist (r.trunc low) a l := by
  unfold Rg.trunc
  by_cases hc : r.low < low ∧ low ≤ r.next
  · have hm := h.may.trunc low
    rw [Rg.trunc, if_pos hc] at hm
    rw [if_pos hc]
    exact ⟨hm, h.chain, h.ends, fun x hx hl => h.stands x hx (Nat.le_trans (Nat.le_of_lt hc.1) hl)⟩
  · rw [if_neg hc]
    exact h

theorem Hist.sync {r : Rg} {a : Nat} {l : List (Nat × List UInt8)} (h : Hist r a l) : Hist r.sync a l := by
  refine ⟨h.may.sync, h.chain, h.ends, fun x hx hl k hk => ?_⟩
  have hr := at_range (first := r.first) (seq := x.1 + k) h.may.m1
  have hf := h.may.fits
  exact (D.sync_read r.d (at_ r.first r.many (x.1 + k)) (by omega)).trans (h.stands x hx hl k hk)

end Go.Proofs.Ytfpojbnidoeohaa.G
