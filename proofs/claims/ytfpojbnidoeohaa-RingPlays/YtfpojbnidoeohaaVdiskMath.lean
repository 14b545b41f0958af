/-
  The plain mathematics of layer vdisk: sectors, and a row of writes that aren't synced. No program stands here.
-/
import GoSem.Op.String
namespace Go.Proofs.Ytfpojbnidoeohaa.D

abbrev Sec := List UInt8

/-- bytes, and zeros behind them up to 64 -/
def full (l : Sec) : Sec := l ++ List.replicate (64 - l.length) 0

theorem full_len {l : Sec} (h : l.length ≤ 64) : (full l).length = 64 := by simp [full]; omega
theorem full_snoc {l : Sec} (h : l.length < 64) : full (l ++ [0]) = full l := by
  obtain ⟨k, hk⟩ : ∃ k, 64 - l.length = k + 1 := ⟨64 - l.length - 1, by omega⟩
  have hk' : 64 - (l ++ [0]).length = k := by simp; omega
  rw [full, full, hk, hk', List.replicate_succ]
  simp
theorem full_whole {l : Sec} (h : ¬ l.length < 64) : full l = l := by
  rw [full, show 64 - l.length = 0 by omega]; simp

structure Dk where
  secs : List Sec
  row : List (Nat × Sec)

/-- the last of the row's writes to a sector; without one, what it had -/
def lastOf (row : List (Nat × Sec)) (i : Nat) (s : Sec) : Sec := row.foldl (fun s w => if w.1 = i then w.2 else s) s

theorem lastOf_nil (i : Nat) (s : Sec) : lastOf [] i s = s := rfl
theorem lastOf_cons (x : Nat × Sec) (row : List (Nat × Sec)) (i : Nat) (s : Sec) : lastOf (x :: row) i s = lastOf row i (if x.1 = i then x.2 else s) := rfl
theorem lastOf_snoc (row : List (Nat × Sec)) (x : Nat × Sec) (i : Nat) (s : Sec) : lastOf (row ++ [x]) i s = if x.1 = i then x.2 else lastOf row i s := by simp [lastOf]

theorem lastOf_is (row : List (Nat × Sec)) (i : Nat) : ∀ s, lastOf row i s = s ∨ ∃ x ∈ row, x.1 = i ∧ lastOf row i s = x.2 := by
  induction row with
  | nil => intro s; exact Or.inl rfl
  | cons x r ih =>
    intro s
    rw [lastOf_cons]
    rcases ih (if x.1 = i then x.2 else s) with h | ⟨y, hy, h1, h2⟩
    · rw [h]
      by_cases hx : x.1 = i
      · rw [if_pos hx]; exact Or.inr ⟨x, by simp, hx, rfl⟩
      · rw [if_neg hx]; exact Or.inl rfl
    · exact Or.inr ⟨y, by simp [hy], h1, h2⟩

theorem lastOf_none {row : List (Nat × Sec)} {i : Nat} (h : ∀ x ∈ row, x.1 ≠ i) (s : Sec) : lastOf row i s = s := by
  rcases lastOf_is row i s with e | ⟨x, hx, h1, _⟩
  · exact e
  · exact absurd h1 (h x hx)

/-- from the row's end on: the first write to the sector that is met -/
theorem lastOf_back (row : List (Nat × Sec)) (i : Nat) (s : Sec) (k : Nat) (hk : k < row.length) (hi : row[k].1 = i) (hn : ∀ j (hj : j < row.length), k < j → row[j].1 ≠ i) : lastOf row i s = row[k].2 := by
  have e : row = row.take k ++ row[k] :: row.drop (k + 1) := by
    rw [← List.drop_eq_getElem_cons hk, List.take_append_drop]
  have hd : ∀ x ∈ row.drop (k + 1), x.1 ≠ i := by
    intro x hx
    obtain ⟨j, hj, rfl⟩ := List.getElem_of_mem hx
    rw [List.getElem_drop]
    exact hn _ _ (by omega)
  have : lastOf row i s = lastOf (row.drop (k + 1)) i row[k].2 := by
    conv => lhs; rw [e]
    rw [lastOf, List.foldl_append, List.foldl_cons, if_pos hi]
    rfl
  rw [this, lastOf_none hd]

/-- writes done to the sectors, in turn -/
def done (secs : List Sec) (l : List (Nat × Sec)) : List Sec := l.foldl (fun s w => s.set w.1 w.2) secs

theorem done_nil (secs : List Sec) : done secs [] = secs := rfl
theorem done_snoc (secs : List Sec) (l : List (Nat × Sec)) (x : Nat × Sec) : done secs (l ++ [x]) = (done secs l).set x.1 x.2 := by simp [done]
theorem done_len (l : List (Nat × Sec)) : ∀ secs, (done secs l).length = secs.length := by
  induction l with
  | nil => intro secs; rfl
  | cons x r ih => intro secs; show (done (secs.set x.1 x.2) r).length = _; rw [ih]; simp

theorem done_at (l : List (Nat × Sec)) (i : Nat) : ∀ secs : List Sec, (done secs l)[i]? = secs[i]?.map (lastOf l i) := by
  induction l with
  | nil => intro secs; cases h : secs[i]? <;> simp [done, h, lastOf]
  | cons x r ih =>
    intro secs
    show (done (secs.set x.1 x.2) r)[i]? = _
    rw [ih, List.getElem?_set]
    by_cases hx : x.1 = i
    · rw [if_pos hx]
      by_cases hl : x.1 < secs.length
      · rw [if_pos hl]
        have hi : i < secs.length := by omega
        rw [List.getElem?_eq_getElem hi]
        simp [lastOf_cons, hx]
      · rw [if_neg hl, List.getElem?_eq_none (by omega)]
        rfl
    · rw [if_neg hx]
      cases secs[i]? with
      | none => rfl
      | some s => simp [lastOf_cons, hx]

/-- those of the row's writes that are kept -/
def kept : List (Nat × Sec) → List Bool → List (Nat × Sec)
  | [], _ => []
  | _ :: _, [] => []
  | w :: r, b :: k => if b = true then w :: kept r k else kept r k

theorem kept_nil (row : List (Nat × Sec)) : kept row [] = [] := by cases row <;> rfl
theorem kept_all (row : List (Nat × Sec)) : kept row (List.replicate row.length true) = row := by
  induction row with
  | nil => rfl
  | cons x r ih => simp [kept, List.replicate_succ, ih]
theorem kept_mem {x : Nat × Sec} (row : List (Nat × Sec)) : ∀ k, x ∈ kept row k → x ∈ row := by
  induction row with
  | nil => intro k h; simp [kept] at h
  | cons y r ih =>
    intro k h
    cases k with
    | nil => simp [kept] at h
    | cons b k =>
      simp only [kept] at h
      split at h
      · rcases List.mem_cons.1 h with e | e
        · simp [e]
        · simp [ih k e]
      · simp [ih k h]

/-- round by round -/
theorem kept_take (row : List (Nat × Sec)) : ∀ (keep : List Bool) (k : Nat) (h : k < row.length), kept (row.take (k + 1)) keep = if keep[k]? = some true then kept (row.take k) keep ++ [row[k]] else kept (row.take k) keep := by
  induction row with
  | nil => intro keep k h; simp at h
  | cons x r ih =>
    intro keep k h
    cases keep with
    | nil => simp [kept_nil]
    | cons b keep =>
      cases k with
      | zero => cases b <;> simp [kept]
      | succ k =>
        have hk : k < r.length := by simpa using h
        have := ih keep k hk
        simp only [List.take_succ_cons, kept, this, List.getElem?_cons_succ, List.getElem_cons_succ]
        cases b <;> simp <;> split <;> simp

def Dk.crash (d : Dk) (keep : List Bool) : Dk := ⟨done d.secs (kept d.row keep), []⟩
def Dk.sync (d : Dk) : Dk := ⟨done d.secs d.row, []⟩
theorem sync_crash (d : Dk) : d.sync = d.crash (List.replicate d.row.length true) := by rw [Dk.sync, Dk.crash, kept_all]

def Dk.there (d : Dk) (i : Int) : Prop := 0 ≤ i ∧ i < d.secs.length
instance (d : Dk) (i : Int) : Decidable (d.there i) := by unfold Dk.there; infer_instance

def Dk.write (d : Dk) (i : Int) (b : Sec) : Dk := if d.there i ∧ b.length ≤ 64 then ⟨d.secs, d.row ++ [(i.toNat, full b)]⟩ else d
/-- which error a write tells -/
def Dk.bad (d : Dk) (i : Int) (b : Sec) : Int := if d.there i then (if b.length ≤ 64 then 0 else 1) else 11
def Dk.read (d : Dk) (i : Nat) : Sec := lastOf d.row i (d.secs.getD i [])

/-- sectors of 64 bytes; writes of 64 bytes, each to a sector that is there -/
structure Dk.Fit (d : Dk) : Prop where
  secs : ∀ s ∈ d.secs, s.length = 64
  row : ∀ x ∈ d.row, x.1 < d.secs.length ∧ x.2.length = 64

theorem Dk.Fit.write {d : Dk} (h : d.Fit) (i : Int) (b : Sec) : (d.write i b).Fit := by
  unfold Dk.write
  split
  · rename_i hc
    refine ⟨h.secs, fun x hx => ?_⟩
    rcases List.mem_append.1 hx with hx | hx
    · exact h.row x hx
    · simp at hx
      subst hx
      have := hc.1.1
      have := hc.1.2
      exact ⟨by simp; omega, full_len hc.2⟩
  · exact h

theorem done_fit {n : Nat} (l : List (Nat × Sec)) : ∀ secs : List Sec, (∀ s ∈ secs, s.length = n) → (∀ x ∈ l, x.2.length = n) → ∀ s ∈ done secs l, s.length = n := by
  induction l with
  | nil => intro secs h _; exact h
  | cons x r ih =>
    intro secs h h2
    refine ih (secs.set x.1 x.2) (fun s hs => ?_) (fun y hy => h2 y (by simp [hy]))
    rcases List.mem_or_eq_of_mem_set hs with e | e
    · exact h s e
    · rw [e]; exact h2 x (by simp)

theorem Dk.Fit.crash {d : Dk} (h : d.Fit) (keep : List Bool) : (d.crash keep).Fit :=
  ⟨done_fit _ _ h.secs (fun x hx => (h.row x (kept_mem _ _ hx)).2), fun x hx => by simp [Dk.crash] at hx⟩

theorem Dk.Fit.sync {d : Dk} (h : d.Fit) : d.sync.Fit := by rw [sync_crash]; exact h.crash _

theorem write_len (d : Dk) (i : Int) (b : Sec) : (d.write i b).secs.length = d.secs.length := by unfold Dk.write; split <;> rfl
theorem crash_len (d : Dk) (keep : List Bool) : (d.crash keep).secs.length = d.secs.length := done_len _ _
theorem sync_len (d : Dk) : d.sync.secs.length = d.secs.length := done_len _ _

theorem Dk.Fit.read_len {d : Dk} (h : d.Fit) {i : Nat} (hi : i < d.secs.length) : (d.read i).length = 64 := by
  unfold Dk.read
  rcases lastOf_is d.row i (d.secs.getD i []) with e | ⟨x, hx, _, e⟩
  · rw [e, List.getD_eq_getElem?_getD, List.getElem?_eq_getElem hi]
    exact h.secs _ (List.getElem_mem hi)
  · rw [e]; exact (h.row x hx).2

/-- reading behind a sync is reading ahead of it -/
theorem sync_read (d : Dk) (i : Nat) (hi : i < d.secs.length) : d.sync.read i = d.read i := by
  unfold Dk.read Dk.sync
  rw [lastOf_nil, List.getD_eq_getElem?_getD, done_at, List.getD_eq_getElem?_getD, List.getElem?_eq_getElem hi]
  rfl

/-- what was synced stays: a sector to which nothing of the row goes has what it had -/
structure Keeps (d : Dk) (i : Nat) (s : Sec) : Prop where
  at_ : d.secs[i]? = some s
  none : ∀ x ∈ d.row, x.1 ≠ i

theorem Keeps.read {d : Dk} {i : Nat} {s : Sec} (h : Keeps d i s) : d.read i = s := by
  unfold Dk.read; rw [lastOf_none h.none, List.getD_eq_getElem?_getD, h.at_]; rfl
theorem Keeps.write {d : Dk} {i : Nat} {s : Sec} (h : Keeps d i s) (j : Int) (b : Sec) (hj : j ≠ i) : Keeps (d.write j b) i s := by
  unfold Dk.write
  split
  · rename_i hc
    refine ⟨h.at_, fun x hx => ?_⟩
    rcases List.mem_append.1 hx with hx | hx
    · exact h.none x hx
    · simp at hx
      subst hx
      have := hc.1.1
      simp
      omega
  · exact h
theorem Keeps.crash {d : Dk} {i : Nat} {s : Sec} (h : Keeps d i s) (keep : List Bool) : Keeps (d.crash keep) i s :=
  ⟨by rw [Dk.crash, done_at, h.at_, Option.map_some, lastOf_none (fun x hx => h.none x (kept_mem _ _ hx))], fun x hx => by simp [Dk.crash] at hx⟩
theorem Keeps.start (d : Dk) (i : Nat) (b : Sec) (hi : i < d.secs.length) (hb : b.length ≤ 64) : Keeps (d.write i b).sync i (full b) := by
  have hc : d.there (i : Int) ∧ b.length ≤ 64 := ⟨⟨by omega, by omega⟩, hb⟩
  refine ⟨?_, fun x hx => by simp [Dk.sync] at hx⟩
  rw [Dk.write, if_pos hc, Dk.sync, done_at, List.getElem?_eq_getElem hi, Option.map_some, lastOf_snoc, if_pos (by simp)]

/-- a sector is never torn -/
theorem torn (d : Dk) (i : Nat) (keep : List Bool) (hi : i < d.secs.length) : (d.crash keep).read i = d.secs[i] ∨ ∃ x ∈ d.row, x.1 = i ∧ (d.crash keep).read i = x.2 := by
  unfold Dk.read Dk.crash
  rw [lastOf_nil, List.getD_eq_getElem?_getD, done_at, List.getElem?_eq_getElem hi, Option.map_some, Option.getD_some]
  rcases lastOf_is (kept d.row keep) i d.secs[i] with e | ⟨x, hx, h1, e⟩
  · exact Or.inl e
  · exact Or.inr ⟨x, kept_mem _ _ hx, h1, e⟩

end Go.Proofs.Ytfpojbnidoeohaa.D
