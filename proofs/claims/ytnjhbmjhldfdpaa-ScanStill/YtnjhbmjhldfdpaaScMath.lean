/-
  The plain mathematics of layer scan: records read back off a disk, number by number; what is found of a ring's records, also behind a crash. No program stands here.
-/
import Derived.Test.YtnjhbmjhldfdpaaJD
namespace Go.Proofs.Ytnjhbmjhldfdpaa.Q

/-- the frame with number n at a sector, where it may come (b: it is the first one read, or the one ahead of it had Last) -/
def good (d : D.Dk) (i : Int) (epoch n : Nat) (b : Bool) : Option R.Fr :=
  if d.there i then
    match R.parse (d.read i.toNat) with
    | some f => if f.seq = n ∧ f.epoch = epoch ∧ (f.flag.toNat % 2 == 1) = b then some f else none
    | none => none
  else none

theorem good_some {d : D.Dk} {i : Int} {epoch n : Nat} {b : Bool} {f : R.Fr} (h : good d i epoch n b = some f) : d.there i ∧ R.parse (d.read i.toNat) = some f ∧ f.seq = n ∧ f.epoch = epoch ∧ (f.flag.toNat % 2 == 1) = b := by
  unfold good at h
  split at h
  · rename_i ht
    split at h
    · rename_i g hg
      split at h
      · rename_i hc
        cases h
        exact ⟨ht, hg, hc.1, hc.2.1, hc.2.2⟩
      · cases h
    · cases h
  · cases h
theorem good_of {d : D.Dk} {i : Int} {epoch n : Nat} {b : Bool} {f : R.Fr} (ht : d.there i) (hp : R.parse (d.read i.toNat) = some f) (h1 : f.seq = n) (h2 : f.epoch = epoch) (h3 : (f.flag.toNat % 2 == 1) = b) : good d i epoch n b = some f := by
  unfold good
  rw [if_pos ht, hp]
  simp only [h1, h2, h3, and_self, if_true]

/-- records, each with the number behind it: k numbers more, from n on; body: what was read of the record since its first frame -/
def recs (d : D.Dk) (ix : Nat → Int) (epoch : Nat) : Nat → Nat → Bool → List UInt8 → List (Nat × List UInt8)
  | 0, _, _, _ => []
  | k + 1, n, b, body =>
    match good d (ix n) epoch n b with
    | none => []
    | some f =>
      if f.flag.toNat / 2 % 2 = 1 then ((n + 1) % 4294967296, (if b then [] else body) ++ f.body) :: recs d ix epoch k ((n + 1) % 4294967296) true ((if b then [] else body) ++ f.body)
      else recs d ix epoch k ((n + 1) % 4294967296) false ((if b then [] else body) ++ f.body)

theorem recs_none {d : D.Dk} {ix : Nat → Int} {epoch k n : Nat} {b : Bool} {body : List UInt8} (h : good d (ix n) epoch n b = none) : recs d ix epoch k n b body = [] := by
  cases k with
  | zero => rfl
  | succ k => rw [recs, h]
theorem recs_last {d : D.Dk} {ix : Nat → Int} {epoch k n : Nat} {b : Bool} {body : List UInt8} {f : R.Fr} (h : good d (ix n) epoch n b = some f) (hf : f.flag.toNat / 2 % 2 = 1) : recs d ix epoch (k + 1) n b body = ((n + 1) % 4294967296, (if b then [] else body) ++ f.body) :: recs d ix epoch k ((n + 1) % 4294967296) true ((if b then [] else body) ++ f.body) := by
  rw [recs, h]
  simp only [hf, if_true]
theorem recs_more {d : D.Dk} {ix : Nat → Int} {epoch k n : Nat} {b : Bool} {body : List UInt8} {f : R.Fr} (h : good d (ix n) epoch n b = some f) (hf : ¬ f.flag.toNat / 2 % 2 = 1) : recs d ix epoch (k + 1) n b body = recs d ix epoch k ((n + 1) % 4294967296) false ((if b then [] else body) ++ f.body) := by
  rw [recs, h]
  simp only [hf, if_false]

/-- the number behind all that was found -/
def behind (n : Nat) (l : List (Nat × List UInt8)) : Nat := (l.getLast?.map (·.1)).getD n

theorem flag_first (k m : Nat) : ((R.flagOf k m).toNat % 2 == 1) = decide (k = 0) := by
  unfold R.flagOf
  by_cases h1 : k = 0
  · rw [if_pos h1, decide_eq_true h1]
    by_cases h2 : k + 1 = m
    · rw [if_pos h2]; rfl
    · rw [if_neg h2]; rfl
  · rw [if_neg h1, decide_eq_false h1]
    by_cases h2 : k + 1 = m
    · rw [if_pos h2]; rfl
    · rw [if_neg h2]; rfl
theorem flag_last (k m : Nat) : (R.flagOf k m).toNat / 2 % 2 = 1 ↔ k + 1 = m := by
  unfold R.flagOf
  by_cases h1 : k = 0
  · rw [if_pos h1]
    by_cases h2 : k + 1 = m
    · rw [if_pos h2]; exact ⟨fun _ => h2, fun _ => rfl⟩
    · rw [if_neg h2]; exact ⟨fun h => absurd h (by decide), fun h => absurd h h2⟩
  · rw [if_neg h1]
    by_cases h2 : k + 1 = m
    · rw [if_pos h2]; exact ⟨fun _ => h2, fun _ => rfl⟩
    · rw [if_neg h2]; exact ⟨fun h => absurd h (by decide), fun h => absurd h h2⟩

theorem rec_more (rec : List UInt8) (j : Nat) : rec.take (50 * j) ++ (rec.drop (50 * j)).take 50 = rec.take (50 * (j + 1)) := by
  rw [show 50 * (j + 1) = 50 * j + 50 by omega, List.take_add]
theorem rec_all (rec : List UInt8) : rec.take (50 * R.many rec.length) = rec := by
  rw [List.take_of_length_le]
  unfold R.many
  split <;> omega

/-- a frame that stands at a number of the record x is the record's own -/
def Right (d : D.Dk) (ix : Nat → Int) (e : Nat) (x : Nat × List UInt8) : Prop := ∀ k, k < R.many x.2.length → ∀ b f, good d (ix (x.1 + k)) e (x.1 + k) b = some f → f = R.frameOf e x.1 x.2 k
/-- all frames of the record x stand -/
def Full (d : D.Dk) (ix : Nat → Int) (e : Nat) (x : Nat × List UInt8) : Prop := ∀ k, k < R.many x.2.length → good d (ix (x.1 + k)) e (x.1 + k) (decide (k = 0)) = some (R.frameOf e x.1 x.2 k)

def told (x : Nat × List UInt8) : Nat × List UInt8 := (x.1 + R.many x.2.length, x.2)

section
variable {d : D.Dk} {ix : Nat → Int} {e : Nat}

/-- one record, from its frame j on -/
theorem recs_one {x : Nat × List UInt8} (hR : Right d ix e x) (hn : x.1 + R.many x.2.length < 4294967296) : ∀ (t j fuel : Nat) (body : List UInt8), j + t + 1 = R.many x.2.length → (j ≠ 0 → body = x.2.take (50 * j)) →
    (recs d ix e (fuel + (t + 1)) (x.1 + j) (decide (j = 0)) body = told x :: recs d ix e fuel (x.1 + R.many x.2.length) true x.2) ∨ (recs d ix e (fuel + (t + 1)) (x.1 + j) (decide (j = 0)) body = [] ∧ ¬ Full d ix e x) := by
  intro t
  induction t with
  | zero =>
    intro j fuel body hj hb
    cases hg : good d (ix (x.1 + j)) e (x.1 + j) (decide (j = 0)) with
    | none => exact Or.inr ⟨recs_none hg, fun hF => by rw [hF j (by omega)] at hg; cases hg⟩
    | some f =>
      have hf := hR j (by omega) _ f hg
      left
      rw [recs_last hg (by rw [hf]; exact (flag_last _ _).2 (by omega)), Nat.mod_eq_of_lt (by omega), show x.1 + j + 1 = x.1 + R.many x.2.length by omega]
      have hbody : (if decide (j = 0) = true then [] else body) ++ f.body = x.2 := by
        rw [hf]
        show _ ++ (x.2.drop (50 * j)).take 50 = x.2
        by_cases h0 : j = 0
        · subst h0
          simp only [decide_true, if_true, List.nil_append, Nat.mul_zero, List.drop_zero]
          have := rec_all x.2
          rw [← hj] at this
          exact this
        · simp only [h0, decide_false, Bool.false_eq_true, if_false]
          rw [hb h0, rec_more, show j + 1 = R.many x.2.length by omega, rec_all]
      rw [hbody]
      rfl
  | succ t ih =>
    intro j fuel body hj hb
    cases hg : good d (ix (x.1 + j)) e (x.1 + j) (decide (j = 0)) with
    | none => exact Or.inr ⟨recs_none hg, fun hF => by rw [hF j (by omega)] at hg; cases hg⟩
    | some f =>
      have hf := hR j (by omega) _ f hg
      rw [show fuel + (t + 1 + 1) = (fuel + (t + 1)) + 1 by omega, recs_more hg (by rw [hf]; exact fun h => by have := (flag_last j (R.many x.2.length)).1 h; omega), Nat.mod_eq_of_lt (by omega)]
      have hbody : (if decide (j = 0) = true then [] else body) ++ f.body = x.2.take (50 * (j + 1)) := by
        rw [hf]
        show _ ++ (x.2.drop (50 * j)).take 50 = _
        by_cases h0 : j = 0
        · subst h0
          simp
        · simp only [h0, decide_false, Bool.false_eq_true, if_false]
          rw [hb h0, rec_more]
      rw [hbody]
      have := ih (j + 1) fuel (x.2.take (50 * (j + 1))) (by omega) (fun _ => rfl)
      rw [show decide (j + 1 = 0) = false by simp] at this
      exact this

/-- records one behind the other, from s to n -/
def Chn : Nat → List (Nat × List UInt8) → Nat → Prop
  | s, [], n => s = n
  | s, x :: l, n => x.1 = s ∧ Chn (s + R.many x.2.length) l n

theorem Chn.le : ∀ {l : List (Nat × List UInt8)} {s n : Nat}, Chn s l n → s ≤ n
  | [], _, _, h => by cases h; exact Nat.le_refl _
  | _ :: _, _, _, h => Nat.le_trans (Nat.le_add_right _ _) (Chn.le h.2)

theorem Chn.snoc : ∀ {l : List (Nat × List UInt8)} {s n : Nat} (_ : Chn s l n) (rec : List UInt8), Chn s (l ++ [(n, rec)]) (n + R.many rec.length)
  | [], _, _, h, _ => by cases h; exact ⟨rfl, rfl⟩
  | _ :: _, _, _, h, rec => ⟨h.1, Chn.snoc h.2 rec⟩
theorem chn_of {a n : Nat} {l : List (Nat × List UInt8)} (h : G.Chain a l n) : Chn a l n := by
  induction h with
  | nil => exact rfl
  | snoc rec _ ih => exact ih.snoc rec

/-- what is found is a begin of the records, and all that stand whole at their begin -/
theorem recs_begin {n : Nat} (hn : n < 4294967296) (hend : ∀ b, good d (ix n) e n b = none) : ∀ (L : List (Nat × List UInt8)) (s fuel : Nat) (body : List UInt8), Chn s L n → n ≤ s + fuel → (∀ x ∈ L, Right d ix e x) →
    ∃ j, j ≤ L.length ∧ recs d ix e fuel s true body = (L.take j).map told ∧ ∀ i, i ≤ L.length → (∀ x ∈ L.take i, Full d ix e x) → i ≤ j := by
  intro L
  induction L with
  | nil =>
    intro s fuel body hc _ _
    cases hc
    exact ⟨0, Nat.le_refl _, recs_none (hend true), fun i hi _ => hi⟩
  | cons x t ih =>
    intro s fuel body hc hf hR
    obtain ⟨h1, h2⟩ := hc
    have hle := h2.le
    have hm := R.many_pos x.2.length
    obtain ⟨c, rfl⟩ : ∃ c, fuel = c + R.many x.2.length := ⟨fuel - R.many x.2.length, by omega⟩
    have h := recs_one (hR x (List.mem_cons_self ..)) (by omega) (R.many x.2.length - 1) 0 c body (by omega) (fun h => absurd rfl h)
    rw [show c + (R.many x.2.length - 1 + 1) = c + R.many x.2.length by omega, Nat.add_zero, h1] at h
    simp only [decide_true] at h
    rcases h with h | ⟨h, hF⟩
    · obtain ⟨j, hj, he, hi⟩ := ih (s + R.many x.2.length) c x.2 h2 (by omega) (fun y hy => hR y (List.mem_cons_of_mem _ hy))
      refine ⟨j + 1, by simp; omega, by rw [h, he]; rfl, fun i hi' hx => ?_⟩
      cases i with
      | zero => omega
      | succ i =>
        have := hi i (by simp at hi'; omega) (fun y hy => hx y (by simp [hy]))
        omega
    · refine ⟨0, Nat.zero_le _, h, fun i hi' hx => ?_⟩
      cases i with
      | zero => omega
      | succ i => exact absurd (hx x (by simp)) hF

/-- all records that stand are found -/
theorem recs_whole {n : Nat} (hn : n < 4294967296) (hend : ∀ b, good d (ix n) e n b = none) (L : List (Nat × List UInt8)) (s fuel : Nat) (body : List UInt8) (hc : Chn s L n) (hf : n ≤ s + fuel) (hR : ∀ x ∈ L, Right d ix e x) (hF : ∀ x ∈ L, Full d ix e x) : recs d ix e fuel s true body = L.map told := by
  obtain ⟨j, hj, he, hi⟩ := recs_begin hn hend L s fuel body hc hf hR
  have := hi L.length (Nat.le_refl _) (fun x hx => hF x (List.mem_of_mem_take hx))
  rw [he, List.take_of_length_le this]
end

/-- a sector holds these bytes, or a write to it does that isn't synced -/
def Holds (d : D.Dk) (i : Nat) (c : D.Sec) : Prop := d.secs[i]? = some c ∨ (i, c) ∈ d.row

theorem holds_read {d : D.Dk} {i : Nat} (hi : i < d.secs.length) : Holds d i (d.read i) := by
  unfold D.Dk.read
  rcases D.lastOf_is d.row i (d.secs.getD i []) with h | ⟨x, hx, h1, h2⟩
  · left; rw [h, List.getD_eq_getElem?_getD, List.getElem?_eq_getElem hi]; rfl
  · right; rw [h2, ← h1]; exact hx
theorem holds_crash {d : D.Dk} {i : Nat} (hi : i < d.secs.length) (keep : List Bool) : Holds d i ((d.crash keep).read i) := by
  rcases D.torn d i keep hi with h | ⟨x, hx, h1, h2⟩
  · left; rw [h]; exact List.getElem?_eq_getElem hi
  · right; rw [h2, ← h1]; exact hx

/-- whatever frame of the ring's epoch the disk holds, anywhere, was appended, with its number -/
def Known (r : G.Rg) (L : List (Nat × List UInt8)) : Prop := ∀ i c f, Holds r.d i c → R.parse c = some f → f.epoch = r.epoch → f.seq < r.next ∧ ∀ x ∈ L, ∀ k, k < R.many x.2.length → x.1 + k = f.seq → f = R.frameOf r.epoch x.1 x.2 k

theorem holds_write {d : D.Dk} {k i : Nat} {b c : D.Sec} (hb : b.length = 64) (h : Holds (d.write (k : Int) b) i c) : Holds d i c ∨ c = b := by
  unfold D.Dk.write at h
  split at h
  · rcases h with h | h
    · exact Or.inl (Or.inl h)
    · rcases List.mem_append.1 h with h | h
      · exact Or.inl (Or.inr h)
      · right
        simp at h
        rw [h.2, D.full_whole (by omega)]
  · exact Or.inl h

theorem holds_firsts {first many e next : Nat} {d : D.Dk} {rec : List UInt8} {i : Nat} {c : D.Sec} : ∀ j, Holds (G.lay first many d (G.firsts e next rec j)) i c → Holds d i c ∨ ∃ k, k < j ∧ c = R.sector (R.frameOf e next rec k) := by
  intro j
  induction j with
  | zero => intro h; exact Or.inl h
  | succ j ih =>
    intro h
    rw [G.firsts_succ, G.lay_snoc] at h
    rcases holds_write (G.frameOf_sector _ _ _ _) h with h | h
    · rcases ih h with h | ⟨k, hk, h⟩
      · exact Or.inl h
      · exact Or.inr ⟨k, by omega, h⟩
    · exact Or.inr ⟨j, by omega, h⟩

theorem holds_sync {d : D.Dk} {i : Nat} {c : D.Sec} (h : Holds d.sync i c) : Holds d i c := by
  rcases h with h | h
  · have hl : i < d.secs.length := by
      have := (List.getElem?_eq_some_iff.1 h).1
      rwa [D.sync_len] at this
    have e := D.done_at d.row i d.secs
    have h' : (D.done d.secs d.row)[i]? = some c := h
    rw [e, List.getElem?_eq_getElem hl] at h'
    simp at h'
    rcases D.lastOf_is d.row i d.secs[i] with g | ⟨x, hx, h1, h2⟩
    · left; rw [← h', g]; exact List.getElem?_eq_getElem hl
    · right; rw [← h', h2, ← h1]; exact hx
  · cases h

theorem Known.put {r : G.Rg} {a : Nat} {L : List (Nat × List UInt8)} (h : Known r L) (hh : G.Hist r a L) (he : r.epoch < 4294967296) {rec : List UInt8} (hz : r.err rec = 0) : Known (r.put rec) (L ++ [(r.next, rec)]) := by
  obtain ⟨_, htop⟩ := G.err_zero hz
  intro i c f hc hp hf
  rcases holds_firsts _ hc with hc | ⟨k, hk, rfl⟩
  · obtain ⟨h1, h2⟩ := h i c f hc hp hf
    refine ⟨by show f.seq < r.next + _; omega, fun x hx k hk hs => ?_⟩
    rcases List.mem_append.1 hx with hx | hx
    · exact h2 x hx k hk hs
    · simp at hx
      subst hx
      simp only at hs
      omega
  · have hnum : (R.frameOf r.epoch r.next rec k).Num := ⟨he, Nat.mod_lt _ (by decide)⟩
    rw [R.parse_sector hnum (G.frameOf_fits _ _ _ _)] at hp
    cases hp
    have hseq : (R.frameOf r.epoch r.next rec k).seq = r.next + k := Nat.mod_eq_of_lt (by omega)
    refine ⟨by rw [hseq]; show r.next + k < r.next + _; omega, fun x hx j hj hs => ?_⟩
    rw [hseq] at hs
    rcases List.mem_append.1 hx with hx | hx
    · have := hh.ends x hx; omega
    · simp at hx
      subst hx
      simp only at hs
      obtain rfl : j = k := by omega
      rfl
theorem Known.trunc {r : G.Rg} {L : List (Nat × List UInt8)} (h : Known r L) (low : Nat) : Known (r.trunc low) L := by
  unfold G.Rg.trunc
  split
  · exact h
  · exact h
theorem Known.sync {r : G.Rg} {L : List (Nat × List UInt8)} (h : Known r L) : Known r.sync L := fun i c f hc hp hf => h i c f (holds_sync hc) hp hf
theorem known_new {n first many epoch low next : Nat} : Known ⟨⟨List.replicate n (D.full []), []⟩, first, many, epoch, low, next⟩ [] := by
  intro i c f hc hp _
  rcases hc with hc | hc
  · have hm : c ∈ List.replicate n (D.full []) := List.mem_of_getElem? hc
    rw [List.eq_of_mem_replicate hm] at hp
    have : D.full [] = List.replicate 64 0 := rfl
    rw [this, R.zeros_none] at hp
    cases hp
  · cases hc

/-- the sector of a number -/
def ixOf (r : G.Rg) (n : Nat) : Int := (G.at_ r.first r.many n : Nat)

/-- on a disk each of whose sectors holds what the ring's disk held: a frame at a record's number is the record's own; at the next number there is none -/
theorem right_of {r : G.Rg} {L : List (Nat × List UInt8)} (hK : Known r L) {d' : D.Dk} (hl : d'.secs.length = r.d.secs.length) (hH : ∀ i, i < d'.secs.length → Holds r.d i (d'.read i)) : (∀ x ∈ L, Right d' (ixOf r) r.epoch x) ∧ ∀ b, good d' (ixOf r r.next) r.epoch r.next b = none := by
  refine ⟨fun x hx k hk b f hg => ?_, fun b => ?_⟩
  · obtain ⟨ht, hp, hs, he, _⟩ := good_some hg
    exact (hK _ _ f (hH _ (by have := ht.2; have := ht.1; omega)) hp he).2 x hx k hk hs.symm
  · cases hg : good d' (ixOf r r.next) r.epoch r.next b with
    | none => rfl
    | some f =>
      obtain ⟨ht, hp, hs, he, _⟩ := good_some hg
      have := (hK _ _ f (hH _ (by have := ht.2; have := ht.1; omega)) hp he).1
      omega

/-- a record that stands is whole -/
theorem full_of {r : G.Rg} (hm : r.May) (he : r.epoch < 4294967296) {x : Nat × List UInt8} (hx : x.1 + R.many x.2.length ≤ 1073741824) {d' : D.Dk} (hl : d'.secs.length = r.d.secs.length) (hS : ∀ k, k < R.many x.2.length → d'.read (G.at_ r.first r.many (x.1 + k)) = R.sector (R.frameOf r.epoch x.1 x.2 k)) : Full d' (ixOf r) r.epoch x := by
  intro k hk
  have hr := G.at_range (first := r.first) (seq := x.1 + k) hm.m1
  have hf := hm.fits
  have hnum : (R.frameOf r.epoch x.1 x.2 k).Num := ⟨he, Nat.mod_lt _ (by decide)⟩
  refine good_of ⟨by unfold ixOf; omega, by unfold ixOf; omega⟩ ?_ (Nat.mod_eq_of_lt (by omega)) rfl (flag_first _ _)
  unfold ixOf
  rw [Int.toNat_natCast, hS k hk]
  exact R.parse_sector hnum (G.frameOf_fits _ _ _ _)

end Go.Proofs.Ytnjhbmjhldfdpaa.Q
