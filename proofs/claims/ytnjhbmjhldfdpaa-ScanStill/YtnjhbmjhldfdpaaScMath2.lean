/-
  The plain mathematics of layer scan's laws: a ring behind deeds, the records that it keeps, and how many of them were synced; what is found of them, behind a crash, too. No program stands here.
-/
import Derived.Test.YtnjhbmjhldfdpaaScMath
namespace Go.Proofs.Ytnjhbmjhldfdpaa.Q

/-- a ring, the records that were appended (L), those that it keeps, and how many of these were synced -/
structure Kp (r : G.Rg) (L kept : List (Nat × List UInt8)) (syn : Nat) : Prop where
  hist : G.Hist r 0 L
  known : Known r L
  sub : ∀ x ∈ kept, x ∈ L
  chn : Chn r.low kept r.next
  le : syn ≤ kept.length
  held : ∀ x ∈ kept.take syn, ∀ k, k < R.many x.2.length → D.Keeps r.d (G.at_ r.first r.many (x.1 + k)) (R.sector (R.frameOf r.epoch x.1 x.2 k))

theorem Chn.mem : ∀ {l : List (Nat × List UInt8)} {s n : Nat}, Chn s l n → ∀ x ∈ l, s ≤ x.1 ∧ x.1 + R.many x.2.length ≤ n
  | [], _, _, _, x, hx => by simp at hx
  | y :: l, s, n, h, x, hx => by
    rcases List.mem_cons.1 hx with rfl | hx
    · exact ⟨Nat.le_of_eq h.1.symm, by rw [h.1]; exact h.2.le⟩
    · have := h.2.mem x hx
      exact ⟨by omega, this.2⟩

/-- without its first k records a chain begins where the k-th one ends -/
theorem Chn.drop : ∀ {l : List (Nat × List UInt8)} {s n : Nat}, Chn s l n → ∀ k (hk : k < l.length), Chn (l[k].1 + R.many l[k].2.length) (l.drop (k + 1)) n
  | [], _, _, _, k, hk => by simp at hk
  | y :: l, s, n, h, 0, _ => by
    show Chn (y.1 + _) l n
    rw [h.1]; exact h.2
  | y :: l, s, n, h, k + 1, hk => by
    simp only [List.length_cons] at hk
    exact h.2.drop k (by omega)

theorem keeps_lay {first many : Nat} {i : Nat} {s : D.Sec} : ∀ (fs : List R.Fr) {d : D.Dk}, D.Keeps d i s → (∀ f ∈ fs, G.at_ first many f.seq ≠ i) → D.Keeps (G.lay first many d fs) i s := by
  intro fs
  induction fs with
  | nil => intro d h _; exact h
  | cons f t ih =>
    intro d h hf
    refine ih (h.write _ _ ?_) (fun g hg => hf g (List.mem_cons_of_mem _ hg))
    have := hf f (List.mem_cons_self ..)
    omega

theorem keeps_sync {d : D.Dk} {i : Nat} (hi : i < d.secs.length) : D.Keeps d.sync i (d.read i) := by
  refine ⟨?_, fun x hx => by simp [D.Dk.sync] at hx⟩
  rw [D.Dk.sync, D.done_at, List.getElem?_eq_getElem hi, D.Dk.read, List.getD_eq_getElem?_getD, List.getElem?_eq_getElem hi]
  rfl

section
variable {r : G.Rg} {L kept : List (Nat × List UInt8)} {syn : Nat}

theorem Kp.stands (h : Kp r L kept syn) {x : Nat × List UInt8} (hx : x ∈ kept) : G.Stands r x := h.hist.stands x (h.sub x hx) (h.chn.mem x hx).1

/-- a record appended -/
theorem Kp.put (h : Kp r L kept syn) (he : r.epoch < 4294967296) {rec : List UInt8} (hz : r.err rec = 0) : Kp (r.put rec) (L ++ [(r.next, rec)]) (kept ++ [(r.next, rec)]) syn := by
  obtain ⟨hfr, htop⟩ := G.err_zero hz
  have hnl := h.hist.may.nl
  have hln := h.hist.may.ln
  unfold G.Rg.free at hfr
  refine ⟨h.hist.put hz, h.known.put h.hist he hz, fun x hx => ?_, h.chn.snoc rec, by have := h.le; simp; omega, fun x hx k hk => ?_⟩
  · rcases List.mem_append.1 hx with hx | hx
    · exact List.mem_append_left _ (h.sub x hx)
    · exact List.mem_append_right _ hx
  · rw [List.take_append_of_le_length h.le] at hx
    refine keeps_lay _ (h.held x hx k hk) (fun f hf e => ?_)
    have hxm := h.chn.mem x (List.mem_of_mem_take hx)
    obtain ⟨j, hj, rfl⟩ := List.getElem_of_mem hf
    rw [R.cut_at] at e
    rw [R.cut_len] at hj
    have hs : (R.frameOf r.epoch r.next rec j).seq = r.next + j := Nat.mod_eq_of_lt (by omega)
    rw [hs] at e
    have e1 : x.1 + k < r.next := by have := hxm.2; omega
    have e2 : r.next + j < r.low + r.many := by omega
    have e3 := hxm.1
    exact G.at_apart (first := r.first) (many := r.many) (a := x.1 + k) (b := r.next + j) (by omega) (by omega) e.symm

/-- a truncation behind the first records -/
theorem Kp.cut (h : Kp r L kept syn) (k : Nat) (hk : k < kept.length) : Kp (r.trunc (kept[k].1 + R.many kept[k].2.length)) L (kept.drop (k + 1)) (syn - (k + 1)) := by
  have hm := h.chn.mem kept[k] (List.getElem_mem hk)
  have hp := R.many_pos kept[k].2.length
  have ht : r.trunc (kept[k].1 + R.many kept[k].2.length) = { r with low := kept[k].1 + R.many kept[k].2.length } := by rw [G.Rg.trunc, if_pos ⟨by omega, by omega⟩]
  have hh := h.hist.trunc (kept[k].1 + R.many kept[k].2.length)
  have hkn := h.known.trunc (kept[k].1 + R.many kept[k].2.length)
  rw [ht] at hh hkn ⊢
  refine ⟨hh, hkn, fun x hx => h.sub x (List.mem_of_mem_drop hx), h.chn.drop k hk, by have := h.le; simp; omega, fun x hx j hj => ?_⟩
  refine h.held x ?_ j hj
  rw [List.take_drop] at hx
  by_cases hs : k + 1 ≤ syn
  · rw [show k + 1 + (syn - (k + 1)) = syn by omega] at hx
    exact List.mem_of_mem_drop hx
  · rw [show syn - (k + 1) = 0 by omega, Nat.add_zero, List.drop_take] at hx
    simp at hx

/-- a sync -/
theorem Kp.sync (h : Kp r L kept syn) : Kp r.sync L kept kept.length := by
  refine ⟨h.hist.sync, h.known.sync, h.sub, h.chn, Nat.le_refl _, fun x hx k hk => ?_⟩
  rw [List.take_length] at hx
  have hr := G.at_range (first := r.first) (seq := x.1 + k) h.hist.may.m1
  have hf := h.hist.may.fits
  have := keeps_sync (d := r.d) (i := G.at_ r.first r.many (x.1 + k)) (by omega)
  rw [h.stands hx k hk] at this
  exact this

theorem kp_new {n first many epoch : Nat} (h1 : 1 ≤ many) (hf : first + many ≤ n) : Kp ⟨⟨List.replicate n (D.full []), []⟩, first, many, epoch, 0, 0⟩ [] [] 0 :=
  ⟨⟨⟨h1, by simpa using hf, Nat.le_refl _, Nat.zero_le _, Nat.zero_le _⟩, .nil _, fun x hx => by simp at hx, fun x hx => by simp at hx⟩, known_new, fun x hx => by simp at hx, rfl, Nat.le_refl _, fun x hx => by simp at hx⟩

/-- what is kept is found, from the k-th record on -/
theorem Kp.found (h : Kp r L kept syn) (he : r.epoch < 4294967296) (body : List UInt8) : recs r.d (ixOf r) r.epoch r.many r.low true body = kept.map told := by
  obtain ⟨hR, hend⟩ := right_of h.known (d' := r.d) rfl (fun i hi => holds_read hi)
  have htop := h.hist.may.top
  exact recs_whole (by omega) hend kept r.low r.many body h.chn h.hist.may.nl (fun x hx => hR x (h.sub x hx)) (fun x hx => full_of h.hist.may he (by have := h.chn.mem x hx; omega) rfl (h.stands hx))
theorem Kp.found_on (h : Kp r L kept syn) (he : r.epoch < 4294967296) (body : List UInt8) (k : Nat) (hk : k < kept.length) : recs r.d (ixOf r) r.epoch r.many (kept[k].1 + R.many kept[k].2.length) true body = (kept.drop (k + 1)).map told := by
  obtain ⟨hR, hend⟩ := right_of h.known (d' := r.d) rfl (fun i hi => holds_read hi)
  have htop := h.hist.may.top
  have hnl := h.hist.may.nl
  have hm := h.chn.mem kept[k] (List.getElem_mem hk)
  have hp := R.many_pos kept[k].2.length
  exact recs_whole (by omega) hend _ _ r.many body (h.chn.drop k hk) (by omega) (fun x hx => hR x (h.sub x (List.mem_of_mem_drop hx))) (fun x hx => full_of h.hist.may he (by have := h.chn.mem x (List.mem_of_mem_drop hx); omega) rfl (h.stands (List.mem_of_mem_drop hx)))

/-- behind a crash a begin of it, and all that was synced -/
theorem Kp.crash (h : Kp r L kept syn) (he : r.epoch < 4294967296) (keep : List Bool) (body : List UInt8) : ∃ j, j ≤ kept.length ∧ syn ≤ j ∧ recs (r.d.crash keep) (ixOf r) r.epoch r.many r.low true body = (kept.take j).map told := by
  obtain ⟨hR, hend⟩ := right_of h.known (d' := r.d.crash keep) (D.crash_len _ _) (fun i hi => holds_crash (by rw [D.crash_len] at hi; exact hi) keep)
  have htop := h.hist.may.top
  obtain ⟨j, hj, hr, hi⟩ := recs_begin (by omega) hend kept r.low r.many body h.chn h.hist.may.nl (fun x hx => hR x (h.sub x hx))
  refine ⟨j, hj, hi syn h.le (fun x hx => ?_), hr⟩
  exact full_of h.hist.may he (by have := h.chn.mem x (List.mem_of_mem_take hx); omega) (D.crash_len _ _) (fun k hk => ((h.held x hx k hk).crash keep).read)

/-- with another epoch nothing is found -/
theorem other {e : Nat} (hne : e ≠ r.epoch) (hall : ∀ i c f, Holds r.d i c → R.parse c = some f → f.epoch = r.epoch) (k n : Nat) (body : List UInt8) : recs r.d (ixOf r) e k n true body = [] := by
  refine recs_none ?_
  cases hg : good r.d (ixOf r n) e n true with
  | none => rfl
  | some f =>
    obtain ⟨ht, hp, _, he, _⟩ := good_some hg
    exact absurd (he.symm.trans (hall _ _ f (holds_read (by have := ht.2; have := ht.1; omega)) hp)) hne
end

/-- what is found hangs on what the sectors read alone -/
theorem good_congr {d d' : D.Dk} (hl : d'.secs.length = d.secs.length) (hr : ∀ i, i < d.secs.length → d'.read i = d.read i) (i : Int) (e n : Nat) (b : Bool) : good d' i e n b = good d i e n b := by
  unfold good
  by_cases ht : d.there i
  · have ht' : d'.there i := ⟨ht.1, by rw [hl]; exact ht.2⟩
    rw [if_pos ht, if_pos ht', hr i.toNat (by have := ht.1; have := ht.2; omega)]
  · rw [if_neg ht, if_neg (fun g => ht ⟨g.1, by rw [← hl]; exact g.2⟩)]
theorem recs_congr {d d' : D.Dk} (hl : d'.secs.length = d.secs.length) (hr : ∀ i, i < d.secs.length → d'.read i = d.read i) (ix : Nat → Int) (e : Nat) : ∀ (k n : Nat) (b : Bool) (body : List UInt8), recs d' ix e k n b body = recs d ix e k n b body := by
  intro k
  induction k with
  | zero => intro n b body; rfl
  | succ k ih =>
    intro n b body
    rw [recs, recs, good_congr hl hr]
    cases good d (ix n) e n b with
    | none => rfl
    | some f => simp only [ih]

theorem lay_secs (first many : Nat) : ∀ (fs : List R.Fr) (d : D.Dk), (G.lay first many d fs).secs = d.secs := by
  intro fs
  induction fs with
  | nil => intro d; rfl
  | cons f t ih =>
    intro d
    refine (ih _).trans ?_
    show (d.write (G.at_ first many f.seq : Nat) (R.sector f)).secs = d.secs
    unfold D.Dk.write
    split <;> rfl
/-- with all writes lost that weren't synced the sectors read what was synced -/
theorem lost_read {r : G.Rg} (rec : List UInt8) (i : Nat) : ((r.sync.append rec).d.crash []).read i = r.sync.d.read i := by
  have h : (r.sync.append rec).d.secs = r.sync.d.secs := by
    unfold G.Rg.append
    split
    · exact lay_secs _ _ _ _
    · rfl
  unfold D.Dk.crash
  rw [D.kept_nil, D.done_nil, h]
  rfl
theorem lost_len {r : G.Rg} (rec : List UInt8) : ((r.sync.append rec).d.crash []).secs.length = r.sync.d.secs.length := by
  rw [D.crash_len]
  unfold G.Rg.append
  split
  · rw [show (r.sync.put rec).d.secs = r.sync.d.secs from lay_secs _ _ _ _]
  · rfl
theorem Kp.lost {r : G.Rg} {L kept : List (Nat × List UInt8)} {syn : Nat} (h : Kp r L kept syn) (he : r.epoch < 4294967296) (rec body : List UInt8) : recs ((r.sync.append rec).d.crash []) (ixOf r) r.epoch r.many r.low true body = kept.map told := by
  rw [recs_congr (lost_len rec) (fun i _ => lost_read rec i)]
  exact h.sync.found he body

/-- whatever frame the disk holds is of the ring's epoch -/
def Pure (r : G.Rg) : Prop := ∀ i c f, Holds r.d i c → R.parse c = some f → f.epoch = r.epoch
theorem Pure.put {r : G.Rg} (h : Pure r) (he : r.epoch < 4294967296) (rec : List UInt8) : Pure (r.put rec) := by
  intro i c f hc hp
  rcases holds_firsts _ hc with hc | ⟨k, _, rfl⟩
  · exact h i c f hc hp
  · rw [R.parse_sector ⟨he, Nat.mod_lt _ (by decide)⟩ (G.frameOf_fits _ _ _ _)] at hp
    cases hp
    rfl
theorem Pure.trunc {r : G.Rg} (h : Pure r) (low : Nat) : Pure (r.trunc low) := by
  unfold G.Rg.trunc
  split
  · exact h
  · exact h
theorem Pure.sync {r : G.Rg} (h : Pure r) : Pure r.sync := fun i c f hc hp => h i c f (holds_sync hc) hp
theorem pure_new {n first many epoch low next : Nat} : Pure ⟨⟨List.replicate n (D.full []), []⟩, first, many, epoch, low, next⟩ := by
  intro i c f hc hp
  rcases hc with hc | hc
  · have hm : c ∈ List.replicate n (D.full []) := List.mem_of_getElem? hc
    rw [List.eq_of_mem_replicate hm, show D.full [] = List.replicate 64 0 from rfl, R.zeros_none] at hp
    cases hp
  · cases hc

/-- the number behind what is found of records one behind the other -/
theorem behind_told : ∀ {l : List (Nat × List UInt8)} {s n : Nat}, Chn s l n → behind s (l.map told) = n := by
  intro l
  induction l with
  | nil => intro s n h; exact h
  | cons x t ih =>
    intro s n h
    have h2 := ih h.2
    cases t with
    | nil =>
      have e : s + R.many x.2.length = n := h.2
      show x.1 + _ = n
      rw [h.1]; exact e
    | cons y t =>
      unfold behind at h2 ⊢
      rw [List.map_cons, List.map_cons, List.getLast?_cons_cons]
      rw [List.map_cons] at h2
      rw [show ((told y :: List.map told t).getLast?.map (·.1)).getD s = ((told y :: List.map told t).getLast?.map (·.1)).getD (s + R.many x.2.length) by
        cases hg : (told y :: List.map told t).getLast? with
        | none => simp at hg
        | some z => rfl]
      exact h2

theorem pigeon : ∀ (n i : Nat) (f : Nat → Nat), (∀ j, j < i → f j < n) → (∀ j k, j < i → k < i → f j = f k → j = k) → i ≤ n
  | 0, i, f, h, _ => by
    by_cases hi : i = 0
    · omega
    · have := h 0 (by omega); omega
  | n + 1, i, f, h, hinj => by
    by_cases hx : ∃ j0, j0 < i ∧ f j0 = n
    · obtain ⟨j0, hj0, e0⟩ := hx
      have := pigeon n (i - 1) (fun j => f (if j < j0 then j else j + 1)) (fun j hj => by
        have h1 : (if j < j0 then j else j + 1) < i := by split <;> omega
        have h2 : (if j < j0 then j else j + 1) ≠ j0 := by split <;> omega
        have h3 := h _ h1
        have h4 : f (if j < j0 then j else j + 1) ≠ n := fun e => h2 (hinj _ _ h1 hj0 (e.trans e0.symm))
        show f _ < n
        omega) (fun j k hj hk e => by
        have h1 : (if j < j0 then j else j + 1) < i := by split <;> omega
        have h2 : (if k < j0 then k else k + 1) < i := by split <;> omega
        have h3 := hinj _ _ h1 h2 e
        split at h3 <;> split at h3 <;> omega)
      omega
    · have := pigeon n i f (fun j hj => by
        have h1 := h j hj
        have h2 : f j ≠ n := fun e => hx ⟨j, hj, e⟩
        omega) hinj
      omega

/-- no more frames are found in turn than there are sectors -/
theorem good_few {d : D.Dk} {ix : Nat → Int} {e from_ : Nat} (hd : d.secs.length ≤ 1024) (i : Nat) (h : ∀ j, j < i → ∃ b f, good d (ix ((from_ + j) % 4294967296)) e ((from_ + j) % 4294967296) b = some f) : i ≤ d.secs.length := by
  have key : ∀ i, i ≤ 4294967296 → (∀ j, j < i → ∃ b f, good d (ix ((from_ + j) % 4294967296)) e ((from_ + j) % 4294967296) b = some f) → i ≤ d.secs.length := by
    intro i hi h
    refine pigeon _ i (fun j => (ix ((from_ + j) % 4294967296)).toNat) (fun j hj => ?_) (fun j k hj hk he => ?_)
    · obtain ⟨b, f, hg⟩ := h j hj
      have := (good_some hg).1
      have h1 := this.1
      have h2 := this.2
      show (ix _).toNat < _
      omega
    · obtain ⟨b, f, hg⟩ := h j hj
      obtain ⟨b', f', hg'⟩ := h k hk
      obtain ⟨_, hp, hs, _⟩ := good_some hg
      obtain ⟨_, hp', hs', _⟩ := good_some hg'
      have he : (ix ((from_ + j) % 4294967296)).toNat = (ix ((from_ + k) % 4294967296)).toNat := he
      rw [he, hp'] at hp
      cases hp
      omega
  by_cases hi : i ≤ 4294967296
  · exact key i hi h
  · have := key 4294967296 (Nat.le_refl _) (fun j hj => h j (by omega))
    omega

end Go.Proofs.Ytnjhbmjhldfdpaa.Q
